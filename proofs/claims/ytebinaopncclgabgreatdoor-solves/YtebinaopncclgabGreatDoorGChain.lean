import Derived.Test.YtebinaopncclgabGreatDoorRTree
import Derived.Test.YtebinaopncclgabGreatDoorQJudge
set_option maxRecDepth 100000
set_option maxHeartbeats 8000000
namespace Go.Proofs.YtebinaopncclgabGreatDoor
open Go.RowKit Go.IntWalk
structure zfd (n:Nat) (zs:List Int):Prop where
 ne:zs≠[]
 sites:∀x∈zs,0<=x/\x<=(n:Int)
 ends:zuz zs
def zd5(n:Nat)(zs:List Int)(j:Nat):Prop:=0<=zs.getD j 0/\zs.getD j 0<=(n:Int)/\(zs.getD j 0=0->j=0\/j+1=zs.length)
theorem zeu{n:Nat}{zs:List Int}:zfd n zs↔0<zs.length/\∀j,j<zs.length->zd5 n zs j:=by
 constructor
 ·intro h;refine⟨by cases zs with|nil=>exact absurd rfl h.ne|cons a t=>simp,λj hj=>?_⟩;have h1:=h.sites _ (zbW hj);refine⟨h1.1,h1.2,λh0=>?_⟩;false_or_by_contra;rename_i hno;obtain⟨i,rfl⟩:∃i,j=i+1:=⟨j-1,by omega⟩
  exact h.ends i (by omega) h0
 rintro⟨h1,h2⟩;refine⟨λe=>by rw[e] at h1;simp at h1,λx hx=>?_,λi hi h0=>?_⟩
 ·obtain⟨j,hj,rfl⟩:=yaA.1 hx;have:=h2 j hj;unfold zd5 at this;rw[yj,yl hj,yK] at this;exact⟨this.1,this.2.1⟩
 have:=(h2 (i+1) (by omega)).2.2 h0;omega
open Classical in
theorem znc(p n:Nat)(D:Nat->Nat->Int)(v vf:Value)(zs:List Int)(w:World)(hl:zs.length<=20)(hr:zaR w v zs)(_hn:n<=7)(hp:p<w.heap.size)(h7:w.cell? ⟨p,7,none⟩=some vf)(hq:SqR w vf (n+1) D):Calls Tryz.prog 226 #[.pointer (some ⟨p,0,none⟩),v] w λe w'=>e=.returned (.bool (decide (zfd n zs)))/\Below w.heap.size w w':=by
 obtain⟨ao,c,rfl,hr⟩:=hr;obtain⟨af,cf,rfl,_,_⟩:=hq;have HR:=hid hr;clear hr;go_in;go_wp2_with fail;go_loopw[5] (λi wr=>∃a:Nat,i=.int .i64 a/\a<=zs.length/\Hid (∀j,j<a->zd5 n zs j)/\Hid (Below w.heap.size w wr)) (λi _=>zs.length-(intOf i).toNat)
 ·exact⟨0,rfl,by omega,λi h=>absurd h (by omega),yk _ _⟩
 obtain⟨a,rfl,ha,HN,HB⟩:=hrel;by_cases ab:a<zs.length
 ·obtain⟨g,ae,ad,ac⟩:=HR.out a ab;subst ae;have x0:=zc HB.out ac ad;have x7:=zc HB.out h7 hp;have xl:=ya ad HB.out.size;have xp:=ya hp HB.out.size;have ia:(0:Int)<=(a:Int):=by omega
  have ja:(a:Int)<(zs.length:Int):=by omega
  have HT:Hid (zd5 n zs a↔0<=zs.getD a 0/\zs.getD a 0<=(n:Int)/\(zs.getD a 0=0->a=0\/a+1=zs.length)):=Iff.rfl;generalize zs.getD a 0=x at*;clear ac;by_cases e1:0<=x
  ·have b1:decide (x<0)=false:=by simp;omega
   by_cases e2:x<((n:Int)+1)
   ·have b2:decide ((n:Int)+1<=x)=false:=by simp;omega
    by_cases e3:x=0
    ·have b3:(x==0)=true:=by simp[e3]
     by_cases e4:a=0
     ·have b4:((a:Int) != 0)=false:=by simp[e4]
      have HG:Hid (zd5 n zs a):=HT.out.2 ⟨e1,by omega,λ_=>.inl e4⟩;clear e1 e2 e3 e4 HT;go_wp2_with go_in;go_quiet (fail);go_wp2_with go_in;refine⟨⟨a+1,by go_num,by omega,λj hj=>?_,zC HB.out _⟩,by simp[intOf];omega⟩;by_cases aa:j=a
      ·rw[aa];exact HG.out
      exact HN.out j (by omega)
     have b4:((a:Int) != 0)=true:=by simpa using e4
     by_cases e5:a+1=zs.length
     ·have b5:((a:Int) != (zs.length:Int)-1)=false:=by simp;omega
      have HG:Hid (zd5 n zs a):=HT.out.2 ⟨e1,by omega,λ_=>.inr e5⟩;clear e1 e2 e3 e4 e5 HT;go_wp2_with go_in;go_quiet (fail);go_wp2_with go_in;refine⟨⟨a+1,by go_num,by omega,λj hj=>?_,zC HB.out _⟩,by simp[intOf];omega⟩;by_cases aa:j=a
      ·rw[aa];exact HG.out
      exact HN.out j (by omega)
     have b5:((a:Int) != (zs.length:Int)-1)=true:=by simp;omega
     have HG:Hid (¬zd5 n zs a):=λh=>by have:=(HT.out.1 h).2.2 e3;omega
     clear e1 e2 e3 e4 e5 HT;go_wp2_with go_in;go_quiet (fail);go_wp2_with go_in;go_ret;refine⟨zcZ ?_,zC HB.out _⟩;symm;rw[yI,zeu];exact λh=>HG.out (h.2 a ab)
    have b3:(x==0)=false:=by simp[e3]
    have HG:Hid (zd5 n zs a):=HT.out.2 ⟨e1,by omega,λh=>absurd h e3⟩;clear e1 e2 e3 HT;go_wp2_with go_in;go_quiet (fail);go_wp2_with go_in;refine⟨⟨a+1,by go_num,by omega,λj hj=>?_,zC HB.out _⟩,by simp[intOf];omega⟩;by_cases aa:j=a
    ·rw[aa];exact HG.out
    exact HN.out j (by omega)
   have b2:decide ((n:Int)+1<=x)=true:=by simp;omega
   have HG:Hid (¬zd5 n zs a):=λh=>by have:=(HT.out.1 h).2.1;omega
   clear e1 e2 HT;go_wp2_with go_in;go_quiet (fail);go_wp2_with go_in;go_ret;refine⟨zcZ ?_,zC HB.out _⟩;symm;rw[yI,zeu];exact λh=>HG.out (h.2 a ab)
  have b1:decide (x<0)=true:=by simp;omega
  have HG:Hid (¬zd5 n zs a):=λh=>by have:=(HT.out.1 h).1;omega
  clear e1 HT;go_wp2_with go_in;go_quiet (fail);go_wp2_with go_in;go_ret;refine⟨zcZ ?_,zC HB.out _⟩;symm;rw[yI,zeu];exact λh=>HG.out (h.2 a ab)
 go_wp2_with go_in;go_ret;refine⟨zcZ ?_,HB.out⟩;rw[yW,yq,yq,zeu];constructor
 ·intro h;exact⟨by omega,λj hj=>HN.out j (by omega)⟩
 intro h;omega
theorem zre{zs:List Int}(hz:∀x∈zs,0<=x):(∃i k,i<zs.length/\k<i/\zbA zs i k)↔zhu (zs.map Int.toNat):=by
 unfold zhu;induction zs with
 | nil=>simp
 | cons a t ih=>
  have ih:=ih (λx hx=>hz x (yaf _ hx));have ha:=hz a (by simp);rw[yE];have ab:(∃i k,i<(a::t).length/\k<i/\zbA (a::t) i k)↔(a≠0/\a∈t)\/∃i k,i<t.length/\k<i/\zbA t i k:=by
   constructor
   ·rintro⟨i,k,h1,h2,h3⟩;obtain⟨j,rfl⟩:∃j,i=j+1:=⟨i-1,by omega⟩
    have hj:j<t.length:=by simpa using h1
    cases k with
    | zero=>left;have e:t.getD j 0=a/\t.getD j 0≠0:=h3;exact⟨e.1▸e.2,e.1▸zbW hj⟩
    | succ k=>right;exact⟨j,k,hj,by omega,h3⟩
   rintro (⟨h1,h2⟩|⟨i,k,h1,h2,h3⟩)
   ·obtain⟨j,hj,he⟩:=yaA.1 h2;refine⟨j+1,0,by simpa using hj,by omega,?_⟩;have e:t.getD j 0=a:=by rw[yj,yl hj];exact he
    show t.getD j 0=a/\t.getD j 0≠0;rw[e];exact⟨rfl,h1⟩
   exact⟨i+1,k+1,by simpa using h1,by omega,h3⟩
  rw[ab,ih];by_cases h0:a=0
  ·subst h0;rw[yS (by simp)];simp
  have h1:a.toNat≠0:=by omega
  rw[yQ (by simpa using h1),yaO];have hm:a.toNat∈(t.map Int.toNat).filter (λs=>decide (s≠0))↔a∈t:=by
   rw[yag,yo];constructor
   ·rintro⟨⟨y,hy,he⟩,_⟩;have:=hz y (yaf _ hy);have:y=a:=by omega
    exact this▸hy
   intro h;exact⟨⟨a,h,rfl⟩,by simpa using h1⟩
  rw[hm];constructor
  ·rintro (⟨_,h⟩|h)
   ·exact λhc=>hc.1 h
   exact λhc=>h hc.2
  intro h;by_cases aa:a∈t
  ·exact .inl ⟨h0,aa⟩
  exact .inr (λhc=>h ⟨aa,hc⟩)
theorem znZ{zs:List Int}(hz:∀x∈zs,0<=x):zL (zs.map Int.toNat)=zs:=by
 unfold zL;rw[yah]
 conv=>rhs;rw[<-ycc zs]
 exact yad λx hx=>yaq (hz x hx)
theorem ziB{r:Rd}{D:Nat->Nat->Int}{zs:List Int}(hz:∀x∈zs,0<=x)(S:List Int):zU (zb r D) (zs.map Int.toNat)↔((∃i k,i<zs.length/\k<i/\zbA zs i k)\/zH r zs=false\/zT D zs=false\/(zay r D zs S).isSome=false):=by
 have e:=znZ hz;have h1:z7 r zs=zbn (zb r D) (zs.map Int.toNat):=by rw[<-zjL,e]
 have h2:zT D zs=true↔∀p∈nbr (zs.map Int.toNat),D p.1 p.2≠-1:=by rw[<-zjH,e]
 have h3:(zay r D zs S).isSome=zd7 (zb r D) (zs.map Int.toNat):=by rw[<-zmy,e]
 have h4:zH r zs=false↔(zb r D).load<zbn (zb r D) (zs.map Int.toNat):=by unfold zH;rw[h1,yI];show ¬_<=r.load↔r.load<_;omega
 have h5:zT D zs=false↔∃p∈nbr (zs.map Int.toNat),(zb r D).D p.1 p.2=-1:=by
  rw[<-Bool.not_eq_true,h2];constructor
  ·intro h;false_or_by_contra;rename_i hc;exact h λp hp he=>hc ⟨p,hp,he⟩
  rintro⟨p,hp,he⟩h;exact h p hp he
 rw[h3,h4,h5,zre hz];exact⟨λh=>h.why,λh=>⟨h⟩⟩
open Classical in
theorem znF(p:Nat)(r:Rd)(D:Nat->Nat->Int)(v vs vf:Value)(zs:List Int)(w:World)(hl:zs.length<=20)(hr:zaR w v zs)(ay:zE r)(ha:ze8 w p r D vs vf)(hD:∀a b,a<r.stops.length+1->b<r.stops.length+1->-1<=D a b/\D a b<=40960000):Calls Tryz.prog 219 #[.pointer (some ⟨p,0,none⟩),v] w λe w'=>e=.returned (.bool (decide (zfd r.stops.length zs/\zU (zb r D) (zs.map Int.toNat))))/\Below w.heap.size w w':=by
 obtain⟨i0,hi,aZ,a0,a1⟩:=info_parts Tryz.infoInt;have aX:=ay.nstops;have aj:=hid (znc p r.stops.length D v vf zs w hl hr aX ha.lt ha.c7 ha.fr);have aF:Hid (∀W,Below w.heap.size w W->Calls Tryz.prog 227 #[v] W λe w'=>e=.returned (.bool (decide (∃i k,i<zs.length/\k<i/\zbA zs i k)))/\Below W.heap.size W w'):=λW hW=>zlK v zs W hl (hr.below hW);have HA:=hid ha;have aD:=hid ay;have HD:=hid hD;have HR:=hid hr;obtain⟨aos,cps,aY,_⟩:=ha.st;subst aY;obtain⟨ao,c,rfl,_⟩:=hr;clear ha ay hD;by_cases hc:zfd r.stops.length zs
 ·have b1:decide (zfd r.stops.length zs)=true:=by simpa using hc
  have hz:∀x∈zs,0<=x/\x<(r.stops.length:Int)+1:=λx hx=>by have:=hc.sites x hx;omega
  have aW:0<zs.length:=(zeu.1 hc).1;obtain⟨g,aT,aK,_⟩:∃g,ao=some ⟨g,0,none⟩/\g<w.heap.size/\_:=by obtain⟨aR,c',hv,h⟩:=HR.out;cases hv;exact h 0 aW
  subst aT;have au:=hid (λS=>ziB (r:=r) (D:=D) (λx hx=>(hz x hx).1) S);have ar:Hid (∀b:Bool,(b=true↔zU (zb r D) (zs.map Int.toNat))->b=decide (zfd r.stops.length zs/\zU (zb r D) (zs.map Int.toNat))):=λb h=>by rw[yW,yq,h];exact⟨λh=>⟨hc,h⟩,λh=>h.2⟩
  have HC:=hid hc;rw[b1] at aj;generalize hT:decide (∃i k,i<zs.length/\k<i/\zbA zs i k)=bt at*;have HT:=hid hT;clear hc b1 hT;cases bt
  ·go_in;go_wp2_with fail;refine aj.out.mono ?_;rintro e1 w1⟨rfl,ae⟩;have aa:=hid ae;clear ae;go_wp2_with fail;refine(aF.out _ aa.out).mono ?_;rintro e2 w2⟨rfl,am⟩;have ap:Hid (Below w.heap.size w w2):=aa.out.trans (am.mono aa.out.size);clear am;have aQ:Hid (¬∃i k,i<zs.length/\k<i/\zbA zs i k):=ybR HT.out;obtain⟨W,al⟩:∃W,W=w2.alloc (.cells #[.slice (some ⟨g,0,none⟩) zs.length c] 40):=⟨_,rfl⟩
   have aG:=hid al;have ag:Hid (Below w.heap.size w W):=by rw[al];exact ap.out.alloc ap.out.size _
   have ad:=hid (HA.out.below ag.out);have ax:Hid (RtR W (.slice (some ⟨w2.heap.size,0,none⟩) 1 1) [zs]):=by
    refine⟨_,_,rfl,by simp,λi hi=>?_⟩;have aU:i=0:=by simpa using hi
    subst aU;refine⟨w2.heap.size,g,c,rfl,by rw[al];simp,?_,ya aK ag.out.size,λj hj=>?_⟩
    ·rw[al];exact yi _ _ _ _ _ _ (yx w2 _)
    obtain⟨aR,c',hv,h⟩:=HR.out;cases hv;obtain⟨g',e1,e2,e3⟩:=h j hj;cases e1;rw[ag.out.cell (by exact aK),e3];have aV:j<zs.length:=hj;show some (Value.int .i64 (zs.getD j 0))=some (.int .i64 zs[j]);rw[yj,yl aV,yK]
   have HX:Hid (∀l∈[zs],l.length<=1000/\∀x∈l,0<=x/\x<(r.stops.length:Int)+1):=λl hm=>by
    have:l=zs:=by simpa using hm
    subst this;exact⟨by omega,hz⟩
   have aw:=hid (ziu p r [zs] _ _ W ad.out.lt aD.out ad.out.c1 ad.out.c5 ad.out.st ax.out HX.out);have aB:Hid (∀W',Below W.heap.size W W'->Calls Tryz.prog 169 #[.pointer (some ⟨p,0,none⟩),.slice (some ⟨w2.heap.size,0,none⟩) 1 1] W' λe w'=>e=.returned (.bool ([zs].all (zT D)))/\Below W'.heap.size W' w'):=λW' ak=>by have hA:=ad.out.below ak;exact zfT p (r.stops.length+1) D [zs] _ _ W' hA.lt hA.c7 hA.fr (ax.out.below ak) (λl hm=>⟨(HX.out l hm).1,λx hx=>by have:=(HX.out l hm).2 x hx;omega⟩)
   have aA:Hid (∀W' W1,Below W.heap.size W W'->Below W'.heap.size W' W1->W1.ownsRow W'.heap.size 3 1 (.slice (some ⟨W'.heap.size,0,none⟩) r.stops.length r.stops.length) r.stops.length (zd (List.replicate r.stops.length 0))->Calls Tryz.prog 170 #[.pointer (some ⟨p,0,none⟩),.slice (some ⟨w2.heap.size,0,none⟩) 1 1,.slice (some ⟨W'.heap.size,0,none⟩) r.stops.length r.stops.length] W1 λe w'=>e=.returned (.bool (zbN r D [zs] (List.replicate r.stops.length 0)).isSome)/\Below W'.heap.size W' w'):=λW' W1 ak aS ho=>by have hA:=ad.out.below ak;refine(zhb p r D [zs] _ _ _ _ W' W1 aS hA.lt aD.out hA.c2 hA.c5 hA.st hA.c7 hA.fr HD.out (ax.out.below ak) HX.out (by simp) ho).mono ?_;rintro e w'⟨h1,h2,_⟩;exact⟨h1,h2⟩
   have aC:Hid ([zs].all (zH r)=zH r zs):=by show _=_;simp
   have aH:Hid ([zs].all (zT D)=zT D zs):=by show _=_;simp
   have aE:Hid (zbN r D [zs] (List.replicate r.stops.length 0)=zay r D zs (List.replicate r.stops.length 0)):=by show _=_;simp[zbN]
   have av:Hid (zU (zb r D) (zs.map Int.toNat)↔(zH r zs=false\/zT D zs=false\/(zay r D zs (List.replicate r.stops.length 0)).isSome=false)):=by show _↔_;rw[au.out (List.replicate r.stops.length 0)];exact⟨λh=>h.elim (λh=>absurd h aQ.out) id,.inr⟩
   rw[aC.out] at aw;rw[aH.out] at aB;rw[aE.out] at aA;generalize zH r zs=bl at*;generalize zT D zs=bw at*;generalize (zay r D zs (List.replicate r.stops.length 0)).isSome=bq at*;have h5:=ad.out.c5;have aM:=ad.out.lt;clear al aC aH aE HX au;cases bl
   ·go_wp2_with fail;rw[<-aG.out];refine aw.out.mono ?_;rintro e3 w3⟨rfl,ab⟩;have ah:Hid (Below w.heap.size w w3):=ag.out.trans (ab.mono ag.out.size);clear ab;go_wp2_with fail;go_ret;exact⟨zcZ (ar.out true ⟨λ_=>av.out.2 (.inl (by first|rfl|trivial)),λ_=>rfl⟩),ah.out⟩
   go_wp2_with fail;rw[<-aG.out];refine aw.out.mono ?_;rintro e3 w3⟨rfl,ab⟩;have ah:Hid (Below w.heap.size w w3):=ag.out.trans (ab.mono ag.out.size);have az:=hid (aB.out w3 ab);cases bw
   ·go_wp2_with fail;refine az.out.mono ?_;rintro e4 w4⟨rfl,ai⟩;have aq:Hid (Below w.heap.size w w4):=ah.out.trans (ai.mono ah.out.size);clear ai ab;go_wp2_with fail;go_ret;exact⟨zcZ (ar.out true ⟨λ_=>av.out.2 (.inr (.inl (by first|rfl|trivial))),λ_=>rfl⟩),aq.out⟩
   go_wp2_with fail;refine az.out.mono ?_;rintro e4 w4⟨rfl,ai⟩;have ac:Below W.heap.size W w4:=ab.trans (ai.mono ab.size);have aq:Hid (Below w.heap.size w w4):=ah.out.trans (ai.mono ah.out.size);have d5:=zc ac h5 aM;have dp:=ya aM ac.size;have aO:=hid (λW1=>aA.out w4 W1 ac);clear ai ab ac h5;go_wp2_with(at_make;refine wpList_make_full _ rfl _ _ 40 rfl w4.heap.size 3 i0 (.int .i64 0) 1 Tryz.underlying40 hi aZ a0 .i64 .i64 _ _ r.stops.length rfl rfl ?m1 ?m2 ?m3 ?m4 ?m5 ?_)
   case m1=>rfl
   case m2=>rfl
   case m3=>rw[a1];omega
   case m4=>unfold maxLen;omega
   case m5=>exact yh _
   intro w5 af an;have aI:Below w4.heap.size w4 w5:=(yk _ _).grown an (yh _) (by simp);have aL:w5.ownsRow w4.heap.size 3 1 (.slice (some ⟨w4.heap.size,0,none⟩) r.stops.length r.stops.length) r.stops.length (zd (List.replicate r.stops.length 0)):=by
    have e:(madeCells #[Value.int IntKind.i64 0] r.stops.length).toList=zd (List.replicate r.stops.length 0):=by rw[yas];simp[zd]
    rw[<-e];exact af
   have aP:=hid (aO.out w5 aI aL);clear af an aL aI;go_wp2_with fail;refine aP.out.mono ?_;rintro e6 w6⟨rfl,aJ⟩;have aN:Hid (Below w.heap.size w w6):=aq.out.trans (aJ.mono aq.out.size);clear aJ;go_wp2_with fail;go_ret;refine⟨zcZ (ar.out (!bq) ?_),aN.out⟩;rw[av.out];cases bq<;>simp
  go_in;go_wp2_with fail;refine aj.out.mono ?_;rintro e1 w1⟨rfl,ae⟩;have aa:=hid ae;clear ae;go_wp2_with fail;refine(aF.out _ aa.out).mono ?_;rintro e2 w2⟨rfl,am⟩;have ap:Hid (Below w.heap.size w w2):=aa.out.trans (am.mono aa.out.size);clear am;go_wp2_with fail;go_ret;exact⟨zcZ (ar.out true ⟨λ_=>(au.out []).2 (.inl (yaE HT.out)),λ_=>rfl⟩),ap.out⟩
 have b1:decide (zfd r.stops.length zs)=false:=by simpa using hc
 rw[b1] at aj;have HC:=hid hc;clear hc b1;go_in;go_wp2_with fail;refine aj.out.mono ?_;rintro e1 w1⟨rfl,ae⟩;have aa:=hid ae;clear ae;go_wp2_with fail;go_ret;refine⟨zcZ ?_,aa.out⟩;symm;rw[yI];exact λh=>HC.out h.1
end Go.Proofs.YtebinaopncclgabGreatDoor
