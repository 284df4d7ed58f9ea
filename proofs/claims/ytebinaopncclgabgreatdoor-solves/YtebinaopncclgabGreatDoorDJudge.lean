import Derived.Test.YtebinaopncclgabGreatDoorRBeg
set_option maxRecDepth 100000
set_option maxHeartbeats 8000000
namespace Go.Proofs.YtebinaopncclgabGreatDoor
open Go.RowKit Go.IntWalk
def zaF(r:Rd)(l:List UInt8):Int:=
 if zx r.stops.length l≠0 then zx r.stops.length l
 else if r.vans<((zn l).length:Int) then 8
 else if (zn l).all (zH r)=false then 9
 else 0
theorem zig{r:Rd}{s:ByteArray}(hn:r.stops.length<=7)(hf:zx r.stops.length s.data.toList=0):s.size<=1000/\(zn s.data.toList).length<=1000/\∀l∈zn s.data.toList,(2<=l.length/\l.length<=1000)/\(∀x∈l,0<=x/\x<(r.stops.length:Int)+1)/\(∀j,j+2<l.length->l.getD (j+1) 0≠0)/\l.getD 0 0=0/\l.getD (l.length-1) 0=0:=by
 obtain⟨hsz,ab,_⟩:=zfe hf;have hz:s.data.toList.length=s.size:=by simp
 refine⟨by omega,by have h1:=zht s.data.toList;omega,λl hl=>?_⟩;have aa:=zfz ab l hl;have h1:=aa.sites;obtain⟨mid,rfl,h3,h4⟩:=aa;refine⟨⟨by simp,by omega⟩,h1.2.1,h1.2.2,rfl,?_⟩;rw[yj];simp
theorem zmV(r:Rd)(s:ByteArray)(vs vr vw:Value)(w:World)(an:zE r)(hs:StR w vs r)(aU:zaf r.stops.length s.data.toList=true)(aW:s.size<=2000000)(aX:∃ao n c,vr=.slice ao n c)(aY:∃ao n c,vw=.slice ao n c):Calls Tryz.prog 107 #[.agg (zi r vs vr vw),.string s] w λe w'=>e=.returned (.int .i64 (zaF r s.data.toList))/\Below w.heap.size w w':=by
 obtain⟨W,hW⟩:∃W,W=w.alloc (.cells (zi r vs vr vw) 109):=⟨_,rfl⟩
 obtain⟨aG,aa,k0,k1,k2,k3,k4,k5,k6,k7⟩:=za1 hW;have ag:=hid aG;have HS:=hid (hs.below aG);have hn:=an.nstops;have aQ:Hid (∀d,d<=10->∀W',Calls Tryz.prog 172 #[.string s,.int .i64 (d:Nat)] W' λe w'=>e=.returned (.int .i64 (zao s.data.toList d))/\w'=W'):=λd hd W'=>zqt d s W' hd aW;have aO:Hid (∀d,zao s.data.toList d<=2000000):=λd=>yP (zlY _ _) (by simpa using aW);have aw:=hid aU;obtain⟨aE,cs,rfl,_⟩:=hs;have ar:=aX;have au:=aY;obtain⟨a1,n1,c1,rfl⟩:=aX;obtain⟨a2,n2,c2,rfl⟩:=aY;have a4:Hid (∀(l:List Int)(gi ci:Nat)(W':World),Below W.heap.size W W'->gi<W'.heap.size->(∀j (hj:j<l.length),W'.cell? ⟨gi,j,none⟩=some (.int .i64 l[j]))->l.length<=1000->(∀x∈l,0<=x/\x<r.stops.length+1) ->Calls Tryz.prog 173 #[.agg (zi r (.slice aE r.stops.length cs) (.slice a1 n1 c1) (.slice a2 n2 c2)),.slice (some ⟨gi,0,none⟩) l.length ci] W' λe w'=>e=.returned (.int .i64 (z7 r l))/\Below W'.heap.size W' w'):=
  λl gi ci W' hb hg ai a8 hx=>zhL r l _ _ _ gi ci W' an (HS.out.below hb) hg ai a8 hx ar au;have HOK:=hid an;have hvn:0<=r.vans/\r.vans<=10000:=by
  have:=an.head;simp only[zaK,yA,za7,yq] at this;omega
 have hld:0<=r.load/\r.load<=10000:=by have:=an.head;simp only[zaK,yA,za7,yq] at this;omega
 have a5:=hid hW;clear hW aG an aU ar au HS;unfold zi at*;go_in;go_wp2_with fail;rw[<-a5.out];go_loop[6,7] (λlf k=>∃(p:Nat)(b:Bool),p<=r.stops.length/\k=.int .i64 (p+1:Nat)/\lf=.bool b/\Hid (∀d,d<p->zao s.data.toList (d+1)<=1)/\Hid (b=(List.range p).any λd=>decide (zao s.data.toList (d+1)=0))) (λ_ k=>r.stops.length+1-(intOf k).toNat)
 ·exact⟨0,false,yu _,rfl,rfl,λd hd=>absurd hd (by omega),rfl⟩
 obtain⟨p,b,hp,rfl,rfl,HT,HL⟩:=hrel;by_cases ay:p<r.stops.length
 ·have HC:=hid (aQ.out (p+1) (by omega) W);have hcb:=aO.out (p+1);by_cases ax:1<zao s.data.toList (p+1)
  ·have HF:Hid (zaF r s.data.toList=6):=by
    have h6:zx r.stops.length s.data.toList=6:=by unfold zx;rw[ye (by rw[aw.out];simp),yg];exact y9.2 ⟨p,by simp[ay],by simpa using ax⟩
    show _=_;unfold zaF;rw[h6];rfl
   generalize zao s.data.toList (p+1)=c at*;go_wp2_with(go_at_call 172;refine HC.out.mono ?_;rintro e1 w1⟨aj,af⟩;subst aj;rw[af];clear af w1);go_ret;exact⟨zK HF.out.symm,ag.out⟩
  have aC:Hid (∀d,d<p+1->zao s.data.toList (d+1)<=1):=λd hd=>by
   by_cases h:d=p
   ·subst h;omega
   exact HT.out d (by omega)
  have aA:Hid ((b||decide (zao s.data.toList (p+1)=0))=(List.range (p+1)).any λd=>decide (zao s.data.toList (d+1)=0)):=by show _=_;rw[HL.out,yR,List.any_append];simp
  generalize zao s.data.toList (p+1)=c at*;clear HT HL;cases b
  ·by_cases a6:c=0
   ·subst a6;go_wp2_with(go_at_call 172;refine HC.out.mono ?_;rintro e1 w1⟨aj,af⟩;subst aj;rw[af];clear af w1);go_round
    ·exact⟨p+1,true,by omega,by go_num,rfl,aC,by show _=_;rw[<-aA.out];rfl⟩
    simp[intOf];omega
   have a7:c=1:=by omega
   subst a7;go_wp2_with(go_at_call 172;refine HC.out.mono ?_;rintro e1 w1⟨aj,af⟩;subst aj;rw[af];clear af w1);go_round
   ·exact⟨p+1,false,by omega,by go_num,rfl,aC,by show _=_;rw[<-aA.out];rfl⟩
   simp[intOf];omega
  go_wp2_with(go_at_call 172;refine HC.out.mono ?_;rintro e1 w1⟨aj,af⟩;subst aj;rw[af];clear af w1);go_round
  ·exact⟨p+1,true,by omega,by go_num,rfl,aC,by show _=_;rw[<-aA.out];rfl⟩
  simp[intOf];omega
 have aK:p=r.stops.length:=by omega
 have aB:Hid (((List.range r.stops.length).any λd=>decide (1<zao s.data.toList (d+1)))=false):=by show _=_;rw[ya5];intro d hd;have:=HT.out d (by rw[aK];simpa using hd);simpa using this
 have az:Hid (((List.range r.stops.length).any λd=>decide (zao s.data.toList (d+1)=0))=b):=by show _=_;rw[HL.out,aK]
 clear HT HL aK;cases b
 ·have aI:zx r.stops.length s.data.toList=0:=by unfold zx;rw[ye (by rw[aw.out];simp),ye (by rw[aB.out];simp),ye (by rw[az.out];simp)]
  obtain⟨a9,ak,aq⟩:=zig hn aI;have a3:=hid aq;have aM:Hid (∀W',Calls Tryz.prog 108 #[.string s] W' λe w'=>∃v vs,e=.returned v/\Rts w' W'.heap.size w'.heap.size v (zn s.data.toList) vs/\Below W'.heap.size W' w'):=λW'=>ziv s W' a9;have HJ:Hid (zaF r s.data.toList=if r.vans<((zn s.data.toList).length:Int) then 8 else if (zn s.data.toList).all (zH r)=false then 9 else 0):=by show _=_;unfold zaF;rw[ye (by rw[aI];simp)]
  generalize zn s.data.toList=L at*;clear aI aq aB az aw aQ aO;by_cases hv:r.vans<(L.length:Int)
  ·have HA:Hid (zaF r s.data.toList=8):=by show _=_;rw[HJ.out,yg hv]
   go_wp2_with(first
    | (go_at_call 108;refine(aM.out _).mono ?_;rintro e2 w2⟨v2,bb,rfl,ap,ah⟩;have av:=hid ah;obtain⟨al,cl,rfl,_⟩:=ap.read ak;have d0:=zc ah k0 aa;have aL:=ya aa ah.size;clear ap ah)
    | go_in);go_ret;exact⟨zK HA.out.symm,ag.out.trans (av.out.mono ag.out.size)⟩
  have aP:Hid (zaF r s.data.toList=if L.all (zH r)=false then 9 else 0):=by show _=_;rw[HJ.out,ye hv]
  clear HJ;go_wp2_with(first
   | (go_at_call 108;refine(aM.out _).mono ?_;rintro e2 w2⟨v2,bb,rfl,ap,ah⟩;have av:=hid ah;have a0:=hid (ap.read ak);obtain⟨al,cl,rfl,_⟩:=ap.read ak;have d0:=zc ah k0 aa;have aL:=ya aa ah.size;clear ap ah)
   | go_in);clear d0;go_loopw[10] (λi wr=>∃a:Nat,a<=L.length/\i=.int .i64 a/\Hid ((L.take a).all (zH r)=true)/\Hid (Below w2.heap.size w2 wr)) (λi _=>L.length-(intOf i).toNat)
  ·exact⟨0,yu _,rfl,rfl,yk _ _⟩
  obtain⟨a,ha,rfl,HA,HB⟩:=hrel;have ad:Hid (Below W.heap.size W wr):=av.out.trans (HB.out.mono av.out.size);by_cases ay:a<L.length
  ·obtain⟨ao,co,ba,_,aq⟩:=a0.out;cases ba;obtain⟨g,gi,ci,e,hg,hc,aS,ai⟩:=aq a ay;cases e;obtain⟨l,hl⟩:∃l,l=L[a]:=⟨_,rfl⟩
   have am:l∈L:=by rw[hl];exact ym _
   have aJ:=a3.out l am;rw[<-hl] at hc;have hc:=zc HB.out hc hg;have aT:=ya hg HB.out.size;have aR:=ya aS HB.out.size;have aV:∀j (hj:j<l.length),wr.cell? ⟨gi,j,none⟩=some (.int .i64 l[j]):=λj hj=>zc HB.out (by subst hl;exact ai j hj) aS;have aN:Hid (∀W',Below wr.heap.size wr W'->_):=λW' aF=>a4.out l gi ci W' (ad.out.trans (aF.mono ad.out.size)) (ya aR aF.size) (λj hj=>zc aF (aV j hj) aR) aJ.1.2 aJ.2.1;have ik:(0:Int)<=(a:Int):=by omega
   have jk:(a:Int)<(L.length:Int):=by omega
   clear aV;have HT:Hid ((L.take (a+1)).all (zH r)=zH r l):=by show _=_;rw[yr ay,yX,HA.out,<-hl];simp
   have aZ:Hid (zH r l=false->zaF r s.data.toList=9):=λh=>by rw[aP.out,yg (yai.2 ⟨l,am,by rw[h];simp⟩)]
   have q0:=zc ad.out k0 aa;have q1:=zc ad.out k1 aa;have q2:=zc ad.out k2 aa;have q3:=zc ad.out k3 aa;have q4:=zc ad.out k4 aa;have q5:=zc ad.out k5 aa;have q6:=zc ad.out k6 aa;have q7:=zc ad.out k7 aa;have ac:=ya aa ad.out.size;clear ai aq hl am aJ;by_cases ax:r.load<z7 r l
   ·have HX:Hid (zaF r s.data.toList=9):=aZ.out (by unfold zH;simpa using ax);generalize z7 r l=T at*;go_wp2_with fail;go_region_held3 (λw'=>w'.cell? ⟨w.heap.size,0,none⟩=some (.int .i64 r.vans)/\w'.cell? ⟨w.heap.size,1,none⟩=some (.int .i64 r.load)/\w'.cell? ⟨w.heap.size,2,none⟩=some (.int .i64 r.close)/\w'.cell? ⟨w.heap.size,3,none⟩=some (.int .i64 r.nodes)/\w'.cell? ⟨w.heap.size,4,none⟩=some (.int .i64 r.home)/\w'.cell? ⟨w.heap.size,5,none⟩=some (.slice aE r.stops.length cs)/\w'.cell? ⟨w.heap.size,6,none⟩=some (.slice a1 n1 c1)/\w'.cell? ⟨w.heap.size,7,none⟩=some (.slice a2 n2 c2)/\w'.cell? ⟨g,a,none⟩=some (.slice (some ⟨gi,0,none⟩) l.length ci)) (go_keep) (first
      | (go_at_call 173;refine(aN.out _ ((yk _ _).drew)).mono ?_;rintro e3 w3⟨rfl,ae⟩;have ab:Below wr.heap.size wr w3:=⟨ae.os,ae.tape,ae.output,ae.size,ae.block⟩;have m0:=(ab.cell (p:=⟨w.heap.size,0,none⟩) (by exact ac)).trans q0;have m1:=(ab.cell (p:=⟨w.heap.size,1,none⟩) (by exact ac)).trans q1;have m2:=(ab.cell (p:=⟨w.heap.size,2,none⟩) (by exact ac)).trans q2;have m3:=(ab.cell (p:=⟨w.heap.size,3,none⟩) (by exact ac)).trans q3;have m4:=(ab.cell (p:=⟨w.heap.size,4,none⟩) (by exact ac)).trans q4;have m5:=(ab.cell (p:=⟨w.heap.size,5,none⟩) (by exact ac)).trans q5;have m6:=(ab.cell (p:=⟨w.heap.size,6,none⟩) (by exact ac)).trans q6;have m7:=(ab.cell (p:=⟨w.heap.size,7,none⟩) (by exact ac)).trans q7;have m8:=(ab.cell (p:=⟨g,a,none⟩) (by exact aT)).trans hc;have aH:=ya ac ab.size;have aD:=hid ab;clear ab ae));clear m0 m2 m3 m4 m5 m6 m7 m8;go_wp2_with go_in;go_ret;exact⟨zK HX.out.symm,(ag.out.trans (ad.out.mono ag.out.size)).trans (aD.out.mono (yP ag.out.size ad.out.size))⟩
   have HX:Hid (zH r l=true):=by show _=_;unfold zH;simpa using ax
   generalize z7 r l=T at*;go_wp2_with fail;go_region_held3 (λw'=>w'.cell? ⟨w.heap.size,0,none⟩=some (.int .i64 r.vans)/\w'.cell? ⟨w.heap.size,1,none⟩=some (.int .i64 r.load)/\w'.cell? ⟨w.heap.size,2,none⟩=some (.int .i64 r.close)/\w'.cell? ⟨w.heap.size,3,none⟩=some (.int .i64 r.nodes)/\w'.cell? ⟨w.heap.size,4,none⟩=some (.int .i64 r.home)/\w'.cell? ⟨w.heap.size,5,none⟩=some (.slice aE r.stops.length cs)/\w'.cell? ⟨w.heap.size,6,none⟩=some (.slice a1 n1 c1)/\w'.cell? ⟨w.heap.size,7,none⟩=some (.slice a2 n2 c2)/\w'.cell? ⟨g,a,none⟩=some (.slice (some ⟨gi,0,none⟩) l.length ci)) (go_keep) (first
     | (go_at_call 173;refine(aN.out _ ((yk _ _).drew)).mono ?_;rintro e3 w3⟨rfl,ae⟩;have ab:Below wr.heap.size wr w3:=⟨ae.os,ae.tape,ae.output,ae.size,ae.block⟩;have m0:=(ab.cell (p:=⟨w.heap.size,0,none⟩) (by exact ac)).trans q0;have m1:=(ab.cell (p:=⟨w.heap.size,1,none⟩) (by exact ac)).trans q1;have m2:=(ab.cell (p:=⟨w.heap.size,2,none⟩) (by exact ac)).trans q2;have m3:=(ab.cell (p:=⟨w.heap.size,3,none⟩) (by exact ac)).trans q3;have m4:=(ab.cell (p:=⟨w.heap.size,4,none⟩) (by exact ac)).trans q4;have m5:=(ab.cell (p:=⟨w.heap.size,5,none⟩) (by exact ac)).trans q5;have m6:=(ab.cell (p:=⟨w.heap.size,6,none⟩) (by exact ac)).trans q6;have m7:=(ab.cell (p:=⟨w.heap.size,7,none⟩) (by exact ac)).trans q7;have m8:=(ab.cell (p:=⟨g,a,none⟩) (by exact aT)).trans hc;have aH:=ya ac ab.size;have aD:=hid ab;clear ab ae));clear m0 m2 m3 m4 m5 m6 m7 m8;go_wp2_with go_in;go_roundw
   ·exact⟨a+1,by omega,by go_num,by show _=true;rw[HT.out];exact HX.out,HB.out.trans (aD.out.mono HB.out.size)⟩
   simp[intOf];omega
  have HX:Hid (zaF r s.data.toList=0):=by show _=_;rw[aP.out,ye];have:=HA.out;rw[yD (by omega)] at this;rw[this];simp
  go_wp2;go_ret;exact⟨zK HX.out.symm,ag.out.trans (ad.out.mono ag.out.size)⟩
 have HF:Hid (zaF r s.data.toList=7):=by
  have h7:zx r.stops.length s.data.toList=7:=by unfold zx;rw[ye (by rw[aw.out];simp),ye (by rw[aB.out];simp),yg az.out]
  show _=_;unfold zaF;rw[h7];rfl
 go_wp2;go_ret;exact⟨zK HF.out.symm,ag.out⟩
theorem znC{r:Rd}{D:Nat->Nat->Int}{l:List Int}(hD:∀a b,a<r.stops.length+1->b<r.stops.length+1->-1<=D a b/\D a b<=40960000)(hx:∀x∈l,0<=x/\x<(r.stops.length:Int)+1)(hw:zT D l=true):∀q,q<=l.length-1->0<=zbG D l q/\zbG D l q<=(q:Int)*40960000:=by
 intro q;induction q with
 | zero=>intro _;simp[zbG]
 | succ q ih=>
  intro hq;have h1:=ih (by omega);have h2:=yF.1 hw q (by simp;omega);have h3:z8 D l q≠-1:=by simpa using h2
  have hs1:=zdz hx (show q<l.length by omega);have hs2:=zdz hx (show q+1<l.length by omega);have h4:-1<=z8 D l q/\z8 D l q<=40960000:=hD _ _ (by omega) (by omega);rw[zcH];omega
theorem zk4{r:Rd}{D:Nat->Nat->Int}{l:List UInt8}(_hp:zaf r.stops.length l=true)(h:zaF r l≠0):zI r D l=(0,none,zaF r l):=by
 unfold zaF at h⊢;unfold zI;by_cases h1:zx r.stops.length l≠0
 ·rw[yg h1,yg h1]
 rw[ye h1] at h⊢;rw[ye h1];by_cases h2:r.vans<((zn l).length:Int)
 ·rw[yg h2,yg h2]
 rw[ye h2] at h⊢;rw[ye h2];by_cases h3:(zn l).all (zH r)=false
 ·rw[yg h3,yg h3]
 rw[ye h3] at h;exact absurd rfl h
theorem zod{r:Rd}{D:Nat->Nat->Int}{l:List UInt8}(h:zaF r l=0):zx r.stops.length l=0/\zI r D l=if (zn l).all (zT D)=false then ((0:Int),(none:Option (List Int)),(10:Int)) else match zak r D (zn l) (List.replicate r.stops.length 0) with
  | none=>(0,none,11)
  | some S=>(zb0 D (zn l),some S,0):=by
 unfold zaF at h;unfold zI;by_cases h1:zx r.stops.length l≠0
 ·rw[yg h1] at h;exact absurd h h1
 rw[ye h1] at h⊢;by_cases h2:r.vans<((zn l).length:Int)
 ·rw[yg h2] at h;cases h
 rw[ye h2] at h⊢;by_cases h3:(zn l).all (zH r)=false
 ·rw[yg h3] at h;cases h
 rw[ye h3];exact⟨by omega,rfl⟩
theorem zjq(r:Rd)(D:Nat->Nat->Int)(s:ByteArray)(vs vr vw:Value)(w:World)(aY:zE r)(hs:StR w vs r)(hq:SqR w vw (r.stops.length+1) D)(hD:∀a b,a<r.stops.length+1->b<r.stops.length+1->-1<=D a b/\D a b<=40960000)(bw:s.size<=2000000)(a5:∃ao n c,vr=.slice ao n c):Calls Tryz.prog 58 #[.agg (zi r vs vr vw),.string s] w (zen w r.stops.length (zI r D s.data.toList)):=by
 obtain⟨i0,hi,bO,bP,bQ⟩:=info_parts Tryz.infoInt;obtain⟨W,hW⟩:∃W,W=w.alloc (.cells (zi r vs vr vw) 109):=⟨_,rfl⟩
 obtain⟨a4,aa,k0,k1,k2,k3,k4,k5,k6,k7⟩:=za1 hW;have am:=hid a4;have hn:=aY.nstops;have aF:Hid (Calls Tryz.prog 106 #[.string s,.int .i64 r.stops.length] W λe w'=>e=.returned (.bool (zaf r.stops.length s.data.toList))/\Below W.heap.size W w'):=by have h:=znr r.stops.length s W hn bw;rw[zfL] at h;exact h
 have HS:=hid (hs.below a4);have HQ:=hid (hq.below a4);have bx:∃ao n c,vw=.slice ao n c:=by obtain⟨a,c,e,_⟩:=hq;exact⟨a,_,c,e⟩
 have bN:∃ao c,vs=.slice ao r.stops.length c:=by obtain⟨a,c,e,_⟩:=hs;exact⟨a,c,e⟩
 obtain⟨au,cs,rfl⟩:=bN;have bi:Hid (∀W',Below W.heap.size W W'->zaf r.stops.length s.data.toList=true->Calls Tryz.prog 107 #[.agg (zi r (.slice au r.stops.length cs) vr vw),.string s] W' λe w'=>e=.returned (.int .i64 (zaF r s.data.toList))/\Below W'.heap.size W' w'):=λW' hb hp=>zmV r s _ _ _ W' aY (HS.out.below hb) hp bw a5 bx;have bG:Hid (∀(l:List Int)(gi ci:Nat)(W':World),Below W.heap.size W W'->gi<W'.heap.size->(∀j (hj:j<l.length),W'.cell? ⟨gi,j,none⟩=some (.int .i64 l[j]))->l.length<=1000->(∀x∈l,0<=x/\x<r.stops.length+1) ->Calls Tryz.prog 109 #[.agg (zi r (.slice au r.stops.length cs) vr vw),.slice (some ⟨gi,0,none⟩) l.length ci] W' λe w'=>e=.returned (.int .i64 (zbo D l))/\Below W'.heap.size W' w'):=
  λl gi ci W' hb hg ag aX hx=>ze1 r D l _ _ _ gi ci W' (HQ.out.below hb) hD hg ag aX hx ⟨_,_,_,rfl⟩ a5;have bA:Hid (∀(l:List Int)(gi ci:Nat)(w0:World),Below W.heap.size W w0->gi<w0.heap.size->(∀j (hj:j<l.length),w0.cell? ⟨gi,j,none⟩=some (.int .i64 l[j]))->l.length<=1000->(∀x∈l,0<=x/\x<r.stops.length+1)->l.getD 0 0=0->∀i:Nat,i<l.length->(∀q,q<i->(zam r D l q).2=false)->∀W',Below w0.heap.size w0 W' ->Calls Tryz.prog 110 #[.agg (zi r (.slice au r.stops.length cs) vr vw),.slice (some ⟨gi,0,none⟩) l.length ci,.int .i64 i] W' λe w'=>e=.returned (.tuple #[.int .i64 (zam r D l i).1,.bool (zam r D l i).2])/\Below W'.heap.size W' w'):=
  λl gi ci w0 hb hg ag aX hx h0=>zrr r D l _ _ _ gi ci w0 aY (HS.out.below hb) (HQ.out.below hb) hD hg ag aX hx h0 a5;have a6:Hid (∀l:List Int,(∀x∈l,0<=x/\x<(r.stops.length:Int)+1)->∀i,i<l.length->-(i:Int)<=(zam r D l i).1/\(zam r D l i).1<=(i:Int)*40980000):=λl hx=>zrI aY hD hx;have bH:Hid (∀l:List Int,(∀x∈l,0<=x/\x<(r.stops.length:Int)+1)->zT D l=true->0<=zbG D l (l.length-1)/\zbG D l (l.length-1)<=((l.length-1:Nat):Int)*40960000):=λl hx hw=>znC hD hx hw _ (yh _);obtain⟨a1,n1,c1,rfl⟩:=a5;obtain⟨a2,n2,c2,rfl⟩:=bx;have ba:=hid hW;have HK:Hid (W.cell? ⟨w.heap.size,0,none⟩=some (.int .i64 r.vans)/\W.cell? ⟨w.heap.size,1,none⟩=some (.int .i64 r.load)/\W.cell? ⟨w.heap.size,2,none⟩=some (.int .i64 r.close)/\W.cell? ⟨w.heap.size,3,none⟩=some (.int .i64 r.nodes)/\W.cell? ⟨w.heap.size,4,none⟩=some (.int .i64 r.home)/\W.cell? ⟨w.heap.size,5,none⟩=some (.slice au r.stops.length cs)/\W.cell? ⟨w.heap.size,6,none⟩=some (.slice a1 n1 c1)/\W.cell? ⟨w.heap.size,7,none⟩=some (.slice a2 n2 c2)):=⟨k0,k1,k2,k3,k4,k5,k6,k7⟩
 clear hW a4 aY hs hq hD k0 k1 k2 k3 k4 k5 k6 k7 HS HQ;cases hpl:zaf r.stops.length s.data.toList
 ·have HA:Hid (zI r D s.data.toList=(0,none,5)):=by
   have h5:zx r.stops.length s.data.toList=5:=by unfold zx;rw[yg hpl]
   show _=_;unfold zI;rw[h5];rfl
  rw[hpl] at aF;generalize zI r D s.data.toList=ans at*;unfold zi at*;go_in;go_wp2_with(go_at_call 106;rw[<-ba.out];refine aF.out.mono ?_;rintro e1 w1⟨rfl,aC⟩);go_ret3;rw[HA.out];exact⟨_,rfl,λ_=>rfl,λS e=>(by cases e),am.out.trans (aC.mono am.out.size)⟩
 have ar:Hid (∀W',Below W.heap.size W W'->Calls Tryz.prog 107 #[.agg (zi r (.slice au r.stops.length cs) (.slice a1 n1 c1) (.slice a2 n2 c2)),.string s] W' λe w'=>e=.returned (.int .i64 (zaF r s.data.toList))/\Below W'.heap.size W' w'):=λW' hb=>bi.out W' hb hpl;have bk:=hid hpl;rw[hpl] at aF;clear bi hpl;by_cases aG:zaF r s.data.toList=0
 ·obtain⟨br,hj⟩:=zod (D:=D) aG;obtain⟨bM,aW,ax⟩:=zig hn br;have bm:=hid ax;have bg:Hid (∀W',Calls Tryz.prog 108 #[.string s] W' λe w'=>∃v vs,e=.returned v/\Rts w' W'.heap.size w'.heap.size v (zn s.data.toList) vs/\Below W'.heap.size W' w'):=λW'=>ziv s W' bM;have HJ:=hid hj;rw[aG] at ar;generalize zI r D s.data.toList=ans at*;generalize zn s.data.toList=L at*;clear aG br hj ax bk;unfold zi at*;go_in;go_wp2_with(first
   | (go_at_call 106;rw[<-ba.out];refine aF.out.mono ?_;rintro e1 w1⟨rfl,aC⟩;have ad:=hid aC;clear aC;obtain⟨p0,p1,p2,p3,p4,p5,p6,p7⟩:=HK.out;have p0:=zc ad.out p0 aa;have p1:=zc ad.out p1 aa;have p2:=zc ad.out p2 aa;have p3:=zc ad.out p3 aa;have p4:=zc ad.out p4 aa;have p5:=zc ad.out p5 aa;have p6:=zc ad.out p6 aa;have p7:=zc ad.out p7 aa;have aS:=ya aa ad.out.size)
   | (go_at_call 107;refine(ar.out _ ad.out).mono ?_;rintro e2 w2⟨rfl,aR⟩;have aJ:Hid (Below W.heap.size W w2):=ad.out.trans (aR.mono ad.out.size);clear aR)
   | (go_at_call 108;refine(bg.out _).mono ?_;rintro e3 w3⟨v3,vs3,rfl,bd,ac⟩;have bf:Hid (Below W.heap.size W w3):=aJ.out.trans (ac.mono aJ.out.size);have bl:=hid (bd.read aW);obtain⟨al,cl,rfl,_⟩:=bd.read aW;clear bd ac)
   | go_in);clear p0 p1 p2 p3 p4 p5 p6 p7 aS aF ar bg ad aJ;go_loopw[10,11] (λcv i wr=>∃(a:Nat)(C:Int),a<=L.length/\i=.int .i64 a/\cv=.int .i64 C/\(0<=C/\C<=(a:Int)*40960000000)/\Hid (C=zb0 D (L.take a))/\Hid ((L.take a).all (zT D)=true)/\Hid (Below w3.heap.size w3 wr)) (λ_ i _=>L.length-(intOf i).toNat)
  ·exact⟨0,0,yu _,rfl,rfl,by omega,rfl,rfl,yk _ _⟩
  obtain⟨a,C,ha,rfl,rfl,hC,HC,HA,HB⟩:=hrel;have af:Hid (Below W.heap.size W wr):=bf.out.trans (HB.out.mono bf.out.size);have ah:=ya aa af.out.size;have q0:=zc af.out HK.out.1 aa;have q1:=zc af.out HK.out.2.1 aa;have q2:=zc af.out HK.out.2.2.1 aa;have q3:=zc af.out HK.out.2.2.2.1 aa;have q4:=zc af.out HK.out.2.2.2.2.1 aa;have q5:=zc af.out HK.out.2.2.2.2.2.1 aa;have q6:=zc af.out HK.out.2.2.2.2.2.2.1 aa;have q7:=zc af.out HK.out.2.2.2.2.2.2.2 aa;by_cases aH:a<L.length
  ·obtain⟨ao,co,be,_,ax⟩:=bl.out;cases be;obtain⟨g,gi,ci,e,hg,hc,aD,ag⟩:=ax a aH;cases e;obtain⟨l,hl⟩:∃l,l=L[a]:=⟨_,rfl⟩
   have an:l∈L:=by rw[hl];exact ym _
   have aj:=bm.out l an;rw[<-hl] at hc;have hc:=zc HB.out hc hg;have bt:=ya hg HB.out.size;have bs:=ya aD HB.out.size;have bv:∀j (hj:j<l.length),wr.cell? ⟨gi,j,none⟩=some (.int .i64 l[j]):=λj hj=>zc HB.out (by subst hl;exact ag j hj) aD;have aZ:Hid (∀W',Below wr.heap.size wr W'->_):=λW' aQ=>bG.out l gi ci W' (af.out.trans (aQ.mono af.out.size)) (ya bs aQ.size) (λj hj=>zc aQ (bv j hj) bs) aj.1.2 aj.2.1;have ik:(0:Int)<=(a:Int):=by omega
   have jk:(a:Int)<(L.length:Int):=by omega
   clear bv;have HT:Hid ((L.take (a+1)).all (zT D)=zT D l):=by show _=_;rw[yr aH,yX,HA.out,<-hl];simp
   have aP:Hid (zb0 D (L.take (a+1))=C+zbG D l (l.length-1)):=by show _=_;rw[yr aH,zgC,<-HC.out,<-hl]
   have a0:Hid (zT D l=false->ans=(0,none,10)):=λh=>by rw[HJ.out,yg (yai.2 ⟨l,an,by rw[h];simp⟩)]
   have bj:=hid (bH.out l aj.2.1);have aX:=aj.1.2;clear ag ax hl an aj;cases hw:zT D l
   ·have HX:=hid (a0.out hw);have aV:zbo D l=-1:=by unfold zbo;rw[hw];rfl
    rw[aV] at aZ;clear aV;go_wp2_with fail;go_region_held3 (λw'=>w'.cell? ⟨w.heap.size,0,none⟩=some (.int .i64 r.vans)/\w'.cell? ⟨w.heap.size,1,none⟩=some (.int .i64 r.load)/\w'.cell? ⟨w.heap.size,2,none⟩=some (.int .i64 r.close)/\w'.cell? ⟨w.heap.size,3,none⟩=some (.int .i64 r.nodes)/\w'.cell? ⟨w.heap.size,4,none⟩=some (.int .i64 r.home)/\w'.cell? ⟨w.heap.size,5,none⟩=some (.slice au r.stops.length cs)/\w'.cell? ⟨w.heap.size,6,none⟩=some (.slice a1 n1 c1)/\w'.cell? ⟨w.heap.size,7,none⟩=some (.slice a2 n2 c2)/\w'.cell? ⟨g,a,none⟩=some (.slice (some ⟨gi,0,none⟩) l.length ci)) (go_keep) (first
      | (go_at_call 109;refine(aZ.out _ ((yk _ _).drew)).mono ?_;rintro e3 w4⟨rfl,ac⟩;have ab:Below wr.heap.size wr w4:=⟨ac.os,ac.tape,ac.output,ac.size,ac.block⟩;have m0:=(ab.cell (p:=⟨w.heap.size,0,none⟩) (by exact ah)).trans q0;have m1:=(ab.cell (p:=⟨w.heap.size,1,none⟩) (by exact ah)).trans q1;have m2:=(ab.cell (p:=⟨w.heap.size,2,none⟩) (by exact ah)).trans q2;have m3:=(ab.cell (p:=⟨w.heap.size,3,none⟩) (by exact ah)).trans q3;have m4:=(ab.cell (p:=⟨w.heap.size,4,none⟩) (by exact ah)).trans q4;have m5:=(ab.cell (p:=⟨w.heap.size,5,none⟩) (by exact ah)).trans q5;have m6:=(ab.cell (p:=⟨w.heap.size,6,none⟩) (by exact ah)).trans q6;have m7:=(ab.cell (p:=⟨w.heap.size,7,none⟩) (by exact ah)).trans q7;have m8:=(ab.cell (p:=⟨g,a,none⟩) (by exact bt)).trans hc;have aq:=hid ab;clear ab ac));clear m0 m1 m2 m3 m4 m5 m6 m7 m8;go_wp2_with go_in;go_ret3;rw[HX.out];exact⟨_,rfl,λ_=>rfl,λS e=>(by cases e),(am.out.trans (af.out.mono am.out.size)).trans (aq.out.mono (yP am.out.size af.out.size))⟩
   have HX:Hid ((L.take (a+1)).all (zT D)=true):=by show _=_;rw[HT.out,hw]
   have aV:zbo D l=zbG D l (l.length-1):=by unfold zbo;rw[hw];rfl
   have bu:=bj.out hw;have hnb:zbG D l (l.length-1)<=40960000000:=by omega
   have hn0:=bu.1;rw[aV] at aZ;generalize zbG D l (l.length-1)=cc at*;have e1:(cc==(-1:Int))=false:=by simp;omega
   clear aV bu bj hw HT;go_wp2_with fail;go_region_held3 (λw'=>w'.cell? ⟨w.heap.size,0,none⟩=some (.int .i64 r.vans)/\w'.cell? ⟨w.heap.size,1,none⟩=some (.int .i64 r.load)/\w'.cell? ⟨w.heap.size,2,none⟩=some (.int .i64 r.close)/\w'.cell? ⟨w.heap.size,3,none⟩=some (.int .i64 r.nodes)/\w'.cell? ⟨w.heap.size,4,none⟩=some (.int .i64 r.home)/\w'.cell? ⟨w.heap.size,5,none⟩=some (.slice au r.stops.length cs)/\w'.cell? ⟨w.heap.size,6,none⟩=some (.slice a1 n1 c1)/\w'.cell? ⟨w.heap.size,7,none⟩=some (.slice a2 n2 c2)/\w'.cell? ⟨g,a,none⟩=some (.slice (some ⟨gi,0,none⟩) l.length ci)) (go_keep) (first
     | (go_at_call 109;refine(aZ.out _ ((yk _ _).drew)).mono ?_;rintro e3 w4⟨rfl,ac⟩;have ab:Below wr.heap.size wr w4:=⟨ac.os,ac.tape,ac.output,ac.size,ac.block⟩;have m0:=(ab.cell (p:=⟨w.heap.size,0,none⟩) (by exact ah)).trans q0;have m1:=(ab.cell (p:=⟨w.heap.size,1,none⟩) (by exact ah)).trans q1;have m2:=(ab.cell (p:=⟨w.heap.size,2,none⟩) (by exact ah)).trans q2;have m3:=(ab.cell (p:=⟨w.heap.size,3,none⟩) (by exact ah)).trans q3;have m4:=(ab.cell (p:=⟨w.heap.size,4,none⟩) (by exact ah)).trans q4;have m5:=(ab.cell (p:=⟨w.heap.size,5,none⟩) (by exact ah)).trans q5;have m6:=(ab.cell (p:=⟨w.heap.size,6,none⟩) (by exact ah)).trans q6;have m7:=(ab.cell (p:=⟨w.heap.size,7,none⟩) (by exact ah)).trans q7;have m8:=(ab.cell (p:=⟨g,a,none⟩) (by exact bt)).trans hc;have aq:=hid ab;clear ab ac));clear m0 m1 m2 m3 m4 m5 m6 m7 m8;go_wp2_with go_in;go_roundw
   ·exact⟨a+1,C+cc,by omega,by go_num,rfl,by omega,aP.out.symm,HX,HB.out.trans (aq.out.mono HB.out.size)⟩
   simp[intOf];omega
  have aB:L.take a=L:=yD (by omega);have a7:Hid (ans=match zak r D L (List.replicate r.stops.length 0) with
   | none=>(0,none,11)
   | some S=>(C,some S,0)):=by
   show _=_;rw[HJ.out,ye (by have:=HA.out;rw[aB] at this;rw[this];simp),HC.out,aB]
  clear HJ HA HC aB;go_wp2_with(first
   | (at_make;refine wpList_make_full _ rfl _ _ 40 rfl wr.heap.size 3 i0 (.int .i64 0) 1 Tryz.underlying40 hi bO bP .i64 .i64 _ _ r.stops.length rfl rfl ?m1 ?m2 ?m3 ?m4 ?m5 ?_)
   | go_in)
  case m1=>rfl
  case m2=>rfl
  case m3=>rw[bQ];omega
  case m4=>unfold maxLen;omega
  case m5=>exact yh _
  intro w5 aw aT;have ap:Hid (Below wr.heap.size wr w5):=(yk _ _).grown aT (yh _) (by simp);have a3:Hid (w5.ownsRow wr.heap.size 3 1 (.slice (some ⟨wr.heap.size,0,none⟩) r.stops.length r.stops.length) r.stops.length (zd (List.replicate r.stops.length 0))):=by
   have e:(madeCells #[Value.int IntKind.i64 0] r.stops.length).toList=zd (List.replicate r.stops.length 0):=by rw[yas];simp[zd]
   show World.ownsRow _ _ _ _ _ _ _;rw[<-e];exact aw
  have aM:=hid (bl.out.below HB.out);clear aw aT q0 q1 q2 q3 q4 q5 q6 q7;obtain⟨Z,hZ⟩:∃Z,Z=List.replicate r.stops.length (0:Int):=⟨_,rfl⟩
  have bI:Z.length=r.stops.length:=by rw[hZ];simp
  rw[<-hZ] at a3 a7;clear hZ;obtain⟨wb,bz⟩:∃wb,wb=wr:=⟨_,rfl⟩
  rw[<-bz] at ap a3 aM af HB ah⊢;clear bz;go_wp2_with fail;go_loopw[14] (λi wx=>∃(a:Nat)(S:List Int),a<=L.length/\i=.int .i64 a/\S.length=r.stops.length/\Hid (zak r D (L.take a) Z=some S)/\Hid (wx.ownsRow wb.heap.size 3 1 (.slice (some ⟨wb.heap.size,0,none⟩) r.stops.length r.stops.length) r.stops.length (zd S))/\Hid (Below wb.heap.size wb wx)) (λi _=>L.length-(intOf i).toNat)
  ·exact⟨0,Z,yu _,rfl,bI,rfl,a3,ap⟩
  clear a3 ap;obtain⟨a,S,ha,rfl,bp,HA,HO,ak⟩:=hrel;by_cases aH:a<L.length
  ·obtain⟨ao,co,be,_,ax⟩:=aM.out;cases be;obtain⟨g,gi,ci,e,hg,hc,aD,ag⟩:=ax a aH;cases e;obtain⟨l,hl⟩:∃l,l=L[a]:=⟨_,rfl⟩
   have an:l∈L:=by rw[hl];exact ym _
   have aj:=bm.out l an;rw[<-hl] at hc;have aL:Hid (∀j (hj:j<l.length),wb.cell? ⟨gi,j,none⟩=some (.int .i64 l[j])):=by intro j hj;subst hl;exact ag j hj
   have bh:=hid hc;have bB:=hid (a6.out l aj.2.1);have bn:=hid aj.2.1;have bE:=hid aj.2.2.1;have H0:=hid aj.2.2.2.1;have HZ:=hid aj.2.2.2.2;have bL:=aj.1.1;have aX:=aj.1.2;have bD:=hid (bA.out l gi ci wb af.out aD aL.out aj.1.2 aj.2.1 aj.2.2.2.1);have HT:Hid (zak r D (L.take (a+1)) Z=za3 r D l S):=by show _=_;rw[yr aH,zf9,HA.out,<-hl];rfl
   have a0:Hid (za3 r D l S=none->ans=(0,none,11)):=λh=>by have h1:=zic r D (L.take (a+1)) (L.drop (a+1)) Z (by rw[HT.out,h]);rw[yav] at h1;rw[a7.out,h1]
   have hc:_root_.Go.World.cell? _ ⟨g,a,none⟩=_:=zc ak.out bh.out hg;have aU:=ya hg ak.out.size;clear ag ax hl an aj HA;go_wp2_with go_in;go_loopw[15] (λj wx=>∃(q:Nat)(S':List Int),q<=l.length-1/\j=.int .i64 (q+1:Nat)/\S'.length=r.stops.length/\Hid (zb7 r D l S q=some ((zam r D l q).1+zG r l q,S'))/\Hid (∀p,p<=q->(zam r D l p).2=false)/\Hid (wx.ownsRow wb.heap.size 3 1 (.slice (some ⟨wb.heap.size,0,none⟩) r.stops.length r.stops.length) r.stops.length (zd S'))/\Hid (Below wb.heap.size wb wx)) (λj _=>l.length-(intOf j).toNat)
   ·refine⟨0,S,yu _,rfl,bp,?_,λp hp=>?_,HO,ak⟩
    ·show _=_;rw[zra];have:zG r l 0=0:=by unfold zG;rw[H0.out];rfl
     rw[this];rfl
    have:p=0:=by omega
    subst this;rfl
   clear HO ak hc aU;obtain⟨q,S',hq,rfl,aA,HG,az,HO,ak⟩:=hrel;have ae:Hid (Below W.heap.size W wr):=af.out.trans (ak.out.mono af.out.size);have ai:=ya aa ae.out.size;have hc:=zc ak.out bh.out hg;have aU:=ya hg ak.out.size;have bK:=ya aD ak.out.size;have ik:(0:Int)<=(a:Int):=by omega
   have jk:(a:Int)<(L.length:Int):=by omega
   by_cases aI:q+1<l.length
   ·have q0:=zc ae.out HK.out.1 aa;have q1:=zc ae.out HK.out.2.1 aa;have q2:=zc ae.out HK.out.2.2.1 aa;have q3:=zc ae.out HK.out.2.2.2.1 aa;have q4:=zc ae.out HK.out.2.2.2.2.1 aa;have q5:=zc ae.out HK.out.2.2.2.2.2.1 aa;have q6:=zc ae.out HK.out.2.2.2.2.2.2.1 aa;have q7:=zc ae.out HK.out.2.2.2.2.2.2.2 aa;have ay:Hid (∀W',Below wr.heap.size wr W'->_):=λW' aQ=>bD.out (q+1) aI (λp hp=>az.out p (by omega)) W' (ak.out.trans (aQ.mono ak.out.size));have bq:=bB.out (q+1) aI;have hqb:(q:Int)+1<=1000:=by omega
    have bJ:=zdz bn.out aI;have av:Hid (wb.cell? ⟨gi,q+1,none⟩=some (.int .i64 (l.getD (q+1) 0))):=by show _=_;rw[aL.out (q+1) aI,yj,yl aI];rfl
    have a8:Hid ((zam r D l (q+1)).2=true->za3 r D l S=none):=λh=>zty HG.out (az.out q (yh _)) aI (λx hx=>(bn.out x hx).1) bE.out h;cases hlate:(zam r D l (q+1)).2
    ·have aK:Hid (∀p,p<=q+1->(zam r D l p).2=false):=λp hp=>by
      by_cases h:p=q+1
      ·subst h;exact hlate
      exact az.out p (by omega)
     rw[hlate] at ay;have aO:Hid (0<l.getD (q+1) 0->zb7 r D l S (q+1)=some ((zam r D l (q+1)).1+zG r l (q+1),S'.set ((l.getD (q+1) 0).toNat-1) (zam r D l (q+1)).1)):=λhp=>by rw[zma HG.out (az.out q (yh _)) hp,hlate];rfl
     have aN:Hid (l.getD (q+1) 0=0->zb7 r D l S (q+1)=some ((zam r D l (q+1)).1+zG r l (q+1),S')):=λhz=>(zmC HG.out (az.out q (yh _)) hz).1;obtain⟨t,ht⟩:∃t,t=(zam r D l (q+1)).1:=⟨_,rfl⟩
     have bo:=hid ht;rw[<-ht] at ay bq;clear ht hlate a8;obtain⟨y,hy⟩:∃y,y=l.getD (q+1) 0:=⟨_,rfl⟩
     rw[<-hy] at bJ av;have bb:=hid hy;clear hy;obtain⟨yn,rfl⟩:∃yn:Nat,y=yn:=⟨y.toNat,by omega⟩
     go_wp2_with fail;go_region_held3 (λw'=>w'.cell? ⟨w.heap.size,0,none⟩=some (.int .i64 r.vans)/\w'.cell? ⟨w.heap.size,1,none⟩=some (.int .i64 r.load)/\w'.cell? ⟨w.heap.size,2,none⟩=some (.int .i64 r.close)/\w'.cell? ⟨w.heap.size,3,none⟩=some (.int .i64 r.nodes)/\w'.cell? ⟨w.heap.size,4,none⟩=some (.int .i64 r.home)/\w'.cell? ⟨w.heap.size,5,none⟩=some (.slice au r.stops.length cs)/\w'.cell? ⟨w.heap.size,6,none⟩=some (.slice a1 n1 c1)/\w'.cell? ⟨w.heap.size,7,none⟩=some (.slice a2 n2 c2)/\w'.cell? ⟨g,a,none⟩=some (.slice (some ⟨gi,0,none⟩) l.length ci)) (go_keep) (first
       | (go_at_call 110;refine(ay.out _ ((yk _ _).drew)).mono ?_;rintro e3 w4⟨rfl,ac⟩;have ab:Below wr.heap.size wr w4:=⟨ac.os,ac.tape,ac.output,ac.size,ac.block⟩;have m0:=(ab.cell (p:=⟨w.heap.size,0,none⟩) (by exact ai)).trans q0;have m1:=(ab.cell (p:=⟨w.heap.size,1,none⟩) (by exact ai)).trans q1;have m2:=(ab.cell (p:=⟨w.heap.size,2,none⟩) (by exact ai)).trans q2;have m3:=(ab.cell (p:=⟨w.heap.size,3,none⟩) (by exact ai)).trans q3;have m4:=(ab.cell (p:=⟨w.heap.size,4,none⟩) (by exact ai)).trans q4;have m5:=(ab.cell (p:=⟨w.heap.size,5,none⟩) (by exact ai)).trans q5;have m6:=(ab.cell (p:=⟨w.heap.size,6,none⟩) (by exact ai)).trans q6;have m7:=(ab.cell (p:=⟨w.heap.size,7,none⟩) (by exact ai)).trans q7;have m8:=(ab.cell (p:=⟨g,a,none⟩) (by exact aU)).trans hc;have aq:=hid ab;clear ab ac));clear m0 m1 m2 m3 m4 m5 m6 m7 q0 q1 q2 q3 q4 q5 q6 q7;have ap:Hid (Below wb.heap.size wb w4):=ak.out.trans (aq.out.mono ak.out.size);have aE:Hid (w4.ownsRow wb.heap.size 3 1 (.slice (some ⟨wb.heap.size,0,none⟩) r.stops.length r.stops.length) r.stops.length (zd S')):=ze HO.out aq.out;have y0:w4.cell? ⟨gi,q+1,none⟩=some (.int .i64 yn):=zc ap.out av.out aD;have hg4:=ya hg ap.out.size;have hi4:=ya aD ap.out.size;have iq1:(0:Int)<=(q:Int)+1:=by omega
     have jq1:(q:Int)+1<(l.length:Int):=by omega
     clear HO ak ae aq hc aU bK ai HG az ay;by_cases hz:yn=0
     ·have aP:Hid (zb7 r D l S (q+1)=some ((zam r D l (q+1)).1+zG r l (q+1),S')):=aN.out (by rw[<-bb.out,hz];rfl);subst hz;go_wp2_with go_in;go_roundw
      ·exact⟨q+1,S',by omega,by go_num,aA,aP,aK,by first|exact aE.out|exact zcr aE.out rfl,by first|exact ap.out|exact ap.out.drew⟩
      simp[intOf];omega
     obtain⟨m,rfl⟩:∃m,yn=m+1:=⟨yn-1,by omega⟩
     have aP:Hid (zb7 r D l S (q+1)=some ((zam r D l (q+1)).1+zG r l (q+1),S'.set m t)):=by have h:=aO.out (by rw[<-bb.out];omega);rw[<-bb.out,<-bo.out] at h;show _=_;rw[h,bo.out];simp
     have hfz:=aE.out.frozenAt m;have hol:w4.cell? ⟨wb.heap.size,m,none⟩=some (.int .i64 (S'.getD m 0)):=by rw[aE.out.cellAt m (by omega)];simp[zd,List.getD_eq_getElem?_getD,List.getElem?_eq_getElem (show m<S'.length by omega)]
     have h0w:wb.heap.size<w4.heap.size:=za5 aE.out;have im:(0:Int)<=(m:Int):=by omega
     have jm:(m:Int)<(r.stops.length:Int):=by omega
     have hwm:IntKind.i64.wrap ((m:Int)+1-1)=m:=by rw[show (m:Int)+1-1=m by omega];exact zm _ (by omega)
     have hwm2:IntKind.i64.wrap (m:Int)=m:=zm _ (by omega);clear aO aN hz;have a9:=hid (aE.out.stored m (.int .i64 t)).1;have bC:Hid (Below wb.heap.size wb (w4.setCell ⟨wb.heap.size,m,none⟩ (.int .i64 t))):=ap.out.setCell (yh _) _;have bF:Hid ((zd S').set m (.int .i64 t)=zd (S'.set m t)):=by show _=_;simp[zd,List.map_set]
     go_wp2_with fail;go_roundw
     ·refine⟨q+1,S'.set m t,by omega,by go_num,by simp[aA],aP,aK,?_,bC⟩;show World.ownsRow _ _ _ _ _ _ _;rw[<-bF.out];exact a9.out
     simp[intOf];omega
    rw[hlate] at ay;have HX:=hid (a0.out (a8.out hlate));clear hlate a8 a0;obtain⟨t,ht⟩:∃t,t=(zam r D l (q+1)).1:=⟨_,rfl⟩
    rw[<-ht] at ay bq;clear ht;go_wp2_with fail;go_region_held3 (λw'=>w'.cell? ⟨w.heap.size,0,none⟩=some (.int .i64 r.vans)/\w'.cell? ⟨w.heap.size,1,none⟩=some (.int .i64 r.load)/\w'.cell? ⟨w.heap.size,2,none⟩=some (.int .i64 r.close)/\w'.cell? ⟨w.heap.size,3,none⟩=some (.int .i64 r.nodes)/\w'.cell? ⟨w.heap.size,4,none⟩=some (.int .i64 r.home)/\w'.cell? ⟨w.heap.size,5,none⟩=some (.slice au r.stops.length cs)/\w'.cell? ⟨w.heap.size,6,none⟩=some (.slice a1 n1 c1)/\w'.cell? ⟨w.heap.size,7,none⟩=some (.slice a2 n2 c2)/\w'.cell? ⟨g,a,none⟩=some (.slice (some ⟨gi,0,none⟩) l.length ci)) (go_keep) (first
      | (go_at_call 110;refine(ay.out _ ((yk _ _).drew)).mono ?_;rintro e3 w4⟨rfl,ac⟩;have ab:Below wr.heap.size wr w4:=⟨ac.os,ac.tape,ac.output,ac.size,ac.block⟩;have m0:=(ab.cell (p:=⟨w.heap.size,0,none⟩) (by exact ai)).trans q0;have m1:=(ab.cell (p:=⟨w.heap.size,1,none⟩) (by exact ai)).trans q1;have m2:=(ab.cell (p:=⟨w.heap.size,2,none⟩) (by exact ai)).trans q2;have m3:=(ab.cell (p:=⟨w.heap.size,3,none⟩) (by exact ai)).trans q3;have m4:=(ab.cell (p:=⟨w.heap.size,4,none⟩) (by exact ai)).trans q4;have m5:=(ab.cell (p:=⟨w.heap.size,5,none⟩) (by exact ai)).trans q5;have m6:=(ab.cell (p:=⟨w.heap.size,6,none⟩) (by exact ai)).trans q6;have m7:=(ab.cell (p:=⟨w.heap.size,7,none⟩) (by exact ai)).trans q7;have m8:=(ab.cell (p:=⟨g,a,none⟩) (by exact aU)).trans hc;have aq:=hid ab;clear ab ac));clear m0 m1 m2 m3 m4 m5 m6 m7 q0 q1 q2 q3 q4 q5 q6 q7;go_wp2_with go_in;go_ret3;rw[HX.out];exact⟨_,rfl,λ_=>rfl,λS e=>(by cases e),(am.out.trans (ae.out.mono am.out.size)).trans (aq.out.mono (yP am.out.size ae.out.size))⟩
   have bc:q=l.length-1:=by omega
   have HF:Hid (zak r D (L.take (a+1)) Z=some S'):=by show _=_;rw[HT.out];exact zvy (by rw[<-bc];exact HG.out) bL HZ.out (by rw[<-bc];exact az.out q (yh _))
   clear bc;go_wp2_with go_in;go_roundw
   ·exact⟨a+1,S',by omega,by go_num,aA,HF,HO,ak⟩
   simp[intOf];omega
  have HF:Hid (ans=(C,some S,0)):=by have h1:=HA.out;rw[yD (by omega)] at h1;show _=_;rw[a7.out,h1]
  go_wp2;go_ret3;rw[HF.out];refine⟨_,rfl,λe=>(by cases e),λS' e=>?_,?_⟩
  ·cases e;exact⟨zan HO.out (yP am.out.size af.out.size),bp,by simp⟩
  exact(am.out.trans (af.out.mono am.out.size)).trans (ak.out.mono (yP am.out.size af.out.size))
 have HA:=hid (zk4 (D:=D) bk.out aG);have hct1:(zaF r s.data.toList != 0)=true:=by simpa using aG
 generalize zI r D s.data.toList=ans at*;generalize zaF r s.data.toList=c at*;clear aG;unfold zi at*;go_in;go_wp2_with(first
  | (go_at_call 106;rw[<-ba.out];refine aF.out.mono ?_;rintro e1 w1⟨rfl,aC⟩;have ad:=hid aC;clear aC;obtain⟨p0,p1,p2,p3,p4,p5,p6,p7⟩:=HK.out;have p0:=zc ad.out p0 aa;have p1:=zc ad.out p1 aa;have p2:=zc ad.out p2 aa;have p3:=zc ad.out p3 aa;have p4:=zc ad.out p4 aa;have p5:=zc ad.out p5 aa;have p6:=zc ad.out p6 aa;have p7:=zc ad.out p7 aa;have aS:=ya aa ad.out.size)
  | (go_at_call 107;refine(ar.out _ ad.out).mono ?_;rintro e2 w2⟨rfl,aR⟩;have aJ:Hid (Below W.heap.size W w2):=ad.out.trans (aR.mono ad.out.size);clear aR)
  | go_in);go_ret3;rw[HA.out];exact⟨_,rfl,λ_=>rfl,λS e=>(by cases e),am.out.trans (aJ.out.mono am.out.size)⟩
end Go.Proofs.YtebinaopncclgabGreatDoor
