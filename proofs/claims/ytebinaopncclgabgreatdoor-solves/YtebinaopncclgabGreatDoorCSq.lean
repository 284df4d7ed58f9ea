import Derived.Test.YtebinaopncclgabGreatDoorCPlain
set_option maxRecDepth 100000
set_option maxHeartbeats 8000000
namespace Go.Proofs.YtebinaopncclgabGreatDoor
open Go.RowKit Go.IntWalk
def zcy(n:Nat):List Int:=(List.range n).map λ(i:Nat)=>(i:Int)+1
theorem zjM(n:Nat):zcy (n+1)=zcy n++[(n:Int)+1]:=by unfold zcy;rw[yR,yL];rfl
theorem zkl(n:Nat):(zcy n).length=n:=by unfold zcy;simp
theorem zhc(p o:Nat)(r:Rd)(T:Nat->Nat->Int)(ao:Option Addr)(cf n v:Nat)(w:World)(hn:n<=7)(hv:r.vans=v)(hv3:v<=3)(h:zaA w p o r T (.slice ao (n+1:Nat) cf)):Calls Tryz.prog 140 #[.pointer (some ⟨p,o,none⟩)] w λe w'=>∃x,e=.returned x/\w'.ownsRow w.heap.size 3 1 x (n+v) (zd (zcy n++List.replicate v 0))/\Below w.heap.size w w':=by
 obtain⟨i0,hi,ah,ai,aj⟩:=info_parts Tryz.infoInt;have HA:=hid h;have af:=h.lt;have c0:=h.c0;have c1:=h.c1;rw[hv] at c0;have ak:=hid c0;have am:=hid c1;clear h hv c0 c1;go_in;go_wp2_with fail;go_loopw[3,4] (λlv i wr=>∃k:Nat,k<=n/\i=.int .i64 (k+1:Nat)/\Hid (wr.ownsRow w.heap.size 3 1 lv k (zd (zcy k)))/\Hid (Below w.heap.size w wr)) (λ_ i _=>n+1-(intOf i).toNat)
 ·exact⟨0,yu _,rfl,yC _ _ _ _,yk _ _⟩
 obtain⟨k,hk,rfl,HO,HB⟩:=hrel;obtain⟨al,cl,rfl,_,_⟩:=zg HO.out;have an:=HB.out.size;have ap:p<wr.heap.size:=by omega
 have d1:wr.cell? ⟨p,o+1,none⟩=some (.slice ao (n+1:Nat) cf):=zc HB.out am.out af;by_cases ae:k<n
 ·have HT:=hid (zjM k);go_wp2_with(first
   | (at_builtin;refine yy _ rfl _ _ 40 rfl w.heap.size 3 i0 (.int .i64 0) 1 8 Tryz.underlying40 hi ah ai aj rfl (by decide) _ _ _ rfl (HO.out.alloc _) ⟨wr.heap.size,0,none⟩ 1 1 [.int .i64 (k+1:Nat)] rfl rfl ?c1 ?c2 ?c3 ?c4 ?c5 ?_)
   | go_in)
  case c1=>exact cell_one_new _ _ _
  case c2=>intro u hu;simp at hu;subst hu;rfl
  case c3=>unfold maxLen;omega
  case c4=>omega
  case c5=>simp;omega
  intro v' w2 ab aa _;have ac:=hid ab;have HG:=hid aa;clear ab aa d1;go_wp2;go_roundw
  ·refine⟨k+1,by omega,by go_num,?_,?_⟩
   ·show World.ownsRow _ _ _ _ _ _ _;rw[HT.out,zaY];exact ac.out
   exact(HB.out.alloc (by omega) _).grown HG.out (by simp;omega) (λq hq=>by have:=(HO.out.lt q hq).1;omega)
  simp[intOf];omega
 have ad:k=n:=by omega
 subst ad;clear ae hk;have hk7:k<=7:=hn;generalize hm:k+1=m at*;clear hm;obtain⟨w1,ag⟩:∃w1,w1=wr:=⟨_,rfl⟩
 rw[<-ag] at HO HB;go_wp2_with fail;rw[<-ag];go_loopw[3,5] (λlv i wr=>∃q:Nat,q<=v/\i=.int .i64 q/\Hid (wr.ownsRow w.heap.size 3 1 lv (k+q) (zd (zcy k++List.replicate q 0)))/\Hid (Below w.heap.size w wr)) (λ_ i _=>v-(intOf i).toNat)
 ·exact⟨0,yu _,rfl,by show World.ownsRow _ _ _ _ _ _ _;rw[List.replicate_zero,yY];exact HO.out,HB⟩
 clear HO HB;obtain⟨q,hq,rfl,HO,HB⟩:=hrel;obtain⟨al,cl,rfl,_,_⟩:=zg HO.out;have an:=HB.out.size;have ap:p<wr.heap.size:=by omega
 have d0:wr.cell? ⟨p,o,none⟩=some (.int .i64 v):=zc HB.out ak.out af;by_cases ae:q<v
 ·have HT:Hid (zcy k++List.replicate (q+1) (0:Int)=(zcy k++List.replicate q 0)++[0]):=by show _=_;rw[ybI,yaa]
  go_wp2_with(first
   | (at_builtin;refine yy _ rfl _ _ 40 rfl w.heap.size 3 i0 (.int .i64 0) 1 8 Tryz.underlying40 hi ah ai aj rfl (by decide) _ _ _ rfl (HO.out.alloc _) ⟨wr.heap.size,0,none⟩ 1 1 [.int .i64 0] rfl rfl ?c1 ?c2 ?c3 ?c4 ?c5 ?_)
   | go_in)
  case c1=>exact cell_one_new _ _ _
  case c2=>intro u hu;simp at hu;subst hu;rfl
  case c3=>unfold maxLen;omega
  case c4=>omega
  case c5=>simp;omega
  intro v' w2 ab aa _;have ac:=hid ab;have HG:=hid aa;clear ab aa d0;go_wp2;go_roundw
  ·refine⟨q+1,by omega,by go_num,?_,?_⟩
   ·show World.ownsRow _ _ _ _ _ _ _;rw[HT.out,zaY];exact ac.out
   exact(HB.out.alloc (by omega) _).grown HG.out (by simp;omega) (λq hq=>by have:=(HO.out.lt q hq).1;omega)
  simp[intOf];omega
 have ad:q=v:=by omega
 subst ad;go_wp2;go_ret;exact⟨_,rfl,HO.out,HB.out⟩
def zr(m i:Nat):Nat:=if i<m then i+1 else 0
theorem zcT(m i:Nat):zr m i<m+1:=by unfold zr;split<;>omega
theorem zgK(m v:Nat):zcy m++List.replicate v 0=(List.range (m+v)).map λi=>(zr m i:Int):=by
 apply List.ext_getElem
 ·simp[zcy]
 intro i h1 h2;simp only[List.getElem_map,List.getElem_range,zr];by_cases h:i<m
 ·rw[yaG (by rw[zkl];exact h),yg h];simp[zcy]
 rw[List.getElem_append_right (by rw[zkl];omega),ye h];simp
theorem zpw(p o:Nat)(r:Rd)(T D:Nat->Nat->Int)(vf:Value)(m v n:Nat)(w:World)(hm:m<=7)(hv:r.vans=v)(hv1:1<=v)(aR:v<=3)(aG:n=m+v)(h:zaA w p o r T vf)(hq:SqR w vf (m+1) D):Calls Tryz.prog 121 #[.pointer (some ⟨p,o,none⟩)] w λe w'=>∃x,e=.returned x/\zbj w' w.heap.size x n (λi j=>zbZ m T D (zr m i) (zr m j))/\Below w.heap.size w w':=by
 obtain⟨i0,hi,aV,aW,aX⟩:=info_parts Tryz.infoInt;obtain⟨j0,hj,aS,aT,aU⟩:=info_parts Tryz.infoInts;have hn10:n<=10:=by omega
 have hn1:1<=n:=by omega
 have al:Hid (Calls Tryz.prog 140 #[.pointer (some ⟨p,o,none⟩)] w λe w'=>∃x,e=.returned x/\w'.ownsRow w.heap.size 3 1 x n (zd ((List.range n).map λi=>(zr m i:Int)))/\Below w.heap.size w w'):=by show Calls _ _ _ _ _;obtain⟨ao,c,rfl,_,_⟩:=id hq;rw[aG,<-zgK];exact zhc p o r T ao c m v w hm hv aR h
 have ax:Hid (∀W i j,Below w.heap.size w W->Calls Tryz.prog 184 #[.pointer (some ⟨p,o,none⟩),.int .i64 (zr m i),.int .i64 (zr m j)] W λe w'=>e=.returned (.int .i64 (zbZ m T D (zr m i) (zr m j)))/\Below W.heap.size W w'):=λW i j hW=>zr7 p o r T D vf m _ _ W hm (zcT m i) (zcT m j) (h.below hW) (hq.below hW);have hpl:=h.lt;obtain⟨F,hF⟩:∃F:Nat->Nat->Int,F=λi j=>zbZ m T D (zr m i) (zr m j):=⟨_,rfl⟩
 obtain⟨S,hS⟩:∃S:Nat->Nat,S=zr m:=⟨_,rfl⟩
 have aH:Hid (∀W i j,Below w.heap.size w W->Calls Tryz.prog 184 #[.pointer (some ⟨p,o,none⟩),.int .i64 (S i),.int .i64 (S j)] W λe w'=>e=.returned (.int .i64 (F i j))/\Below W.heap.size W w'):=by intro W i j hW;rw[hF,hS];exact ax.out W i j hW
 rw[<-hF];have e3:(λi=>(zr m i:Int))=λi=>(S i:Int):=by rw[hS]
 rw[e3] at al;clear h hq ax hF hS e3 aG hv;go_in;go_wp2_with fail;refine al.out.mono ?_;rintro e0 w0⟨x0,rfl,aj,aC⟩;obtain⟨g0,c0,cur0,rfl,hg0w,an,_⟩:=zF aj (by omega);have aF:g0<w0.heap.size:=za5 aj;have aB:Hid (∀i,i<n->w0.cell? ⟨g0,i,none⟩=some (.int .i64 (S i))):=λi hi=>by rw[aj.cellAt i (by omega)];simp[zd,hi]
 have ak:=hid aC;clear aj aC al an;have au:=ak.out.size;go_wp2_with(first
  | (at_make;refine wpList_make_full _ rfl _ _ 31 rfl w0.heap.size 40 j0 (.slice none 0 0) 1 Tryz.underlying31 hj aS aT .i64 .i64 _ _ n rfl rfl ?m1 ?m2 ?m3 ?m4 ?m5 ?_)
  | fail)
 case m1=>rfl
 case m2=>rfl
 case m3=>rw[aU];omega
 case m4=>unfold maxLen;omega
 case m5=>exact yh _
 intro w1 ad ab;have av:Hid (Below w0.heap.size w0 w1):=(yk _ _).grown ab (yh _) (by simp);have ay:Hid (w1.ownsRow w0.heap.size 40 1 (.slice (some ⟨w0.heap.size,0,none⟩) n n) n (zbQ (λ_=>0) n 0)):=by
  show World.ownsRow _ _ _ _ _ _ _;have e:(madeCells #[Value.slice none 0 0] n).toList=zbQ (λ_=>0) n 0:=by rw[yas,ziC]
  rw[<-e];simpa using ad
 clear ad ab;go_wp2;go_loopw[5,6,7] (λi _ _ wr=>∃(k:Nat)(G:Nat->Nat),i=.int .i64 k/\k<=n/\Hid (wr.ownsRow w0.heap.size 40 1 (.slice (some ⟨w0.heap.size,0,none⟩) n n) n (zbQ G n k)) /\Hid (∀i,i<k->w0.heap.size<G i/\(∃ci,wr.heap[G i]?=some (.cells ci 3 (0,0))/\ci.size=n/\∀j,j<n->ci[j]?=some (.int .i64 (F i j)))/\∀i',i'<i->G i'<G i)/\Hid (Below w0.heap.size w0 wr)) (λi _ _ _=>n-(intOf i).toNat)
 case atStart=>exact⟨0,λ_=>0,rfl,by omega,ay,λi hi=>by omega,av⟩
 clear ay av;obtain⟨k,G,rfl,hk,HO,HG,HB⟩:=hrel;obtain⟨wo,rfl⟩:∃wo,wo=wr:=⟨_,rfl⟩
 have aE:=HB.out.size;have aQ:=za5 HO.out;by_cases ar:k<n
 ·go_wp2_with(first
   | (at_make;refine wpList_make_full _ rfl _ _ 40 rfl wo.heap.size 3 i0 (.int .i64 0) 1 Tryz.underlying40 hi aV aW .i64 .i64 _ _ n rfl rfl ?q1 ?q2 ?q3 ?q4 ?q5 ?_)
   | fail)
  case q1=>rfl
  case q2=>rfl
  case q3=>rw[aX];omega
  case q4=>unfold maxLen;omega
  case q5=>exact yh _
  intro w2 ae ac;have aa:Hid (Below wo.heap.size wo w2):=(yk _ _).grown ac (yh _) (by simp);have az:Hid (w2.ownsRow wo.heap.size 3 1 (.slice (some ⟨wo.heap.size,0,none⟩) n n) n (zcX (λj=>F k j) n 0)):=by
   show World.ownsRow _ _ _ _ _ _ _;have e:(madeCells #[Value.int .i64 0] n).toList=zcX (λj=>F k j) n 0:=by rw[yas,zjk]
   rw[<-e];simpa using ae
  clear ae ac;go_wp2;go_loopw[7] (λj wr=>∃q:Nat,j=.int .i64 q/\q<=n/\Hid (wr.ownsRow wo.heap.size 3 1 (.slice (some ⟨wo.heap.size,0,none⟩) n n) n (zcX (λj=>F k j) n q))/\Hid (Below wo.heap.size wo wr)) (λj _=>n-(intOf j).toNat)
  ·exact⟨0,rfl,by omega,az,aa⟩
  case round=>
   clear az aa;obtain⟨q,rfl,hq,HQ,aa⟩:=hrel;have aD:=aa.out.size;by_cases aq:q<n
   ·have s1:wr.cell? ⟨g0,k,none⟩=some (.int .i64 (S k)):=((aa.out.cell (p:=⟨g0,k,none⟩) (by show g0<_;omega)).trans (HB.out.cell (p:=⟨g0,k,none⟩) aF)).trans (aB.out k ar);have s2:wr.cell? ⟨g0,q,none⟩=some (.int .i64 (S q)):=((aa.out.cell (p:=⟨g0,q,none⟩) (by show g0<_;omega)).trans (HB.out.cell (p:=⟨g0,q,none⟩) aF)).trans (aB.out q aq);have HC:Hid (∀W,Below wr.heap.size wr W->Calls Tryz.prog 184 #[.pointer (some ⟨p,o,none⟩),.int .i64 (S k),.int .i64 (S q)] W λe w'=>e=.returned (.int .i64 (F k q))/\Below W.heap.size W w'):=λW hW=>aH.out W k q (ak.out.trans ((HB.out.trans ((aa.out.trans (hW.mono aD)).mono aE)).mono au));have ik:(0:Int)<=(k:Int):=by omega
    have iq:(0:Int)<=(q:Int):=by omega
    have jk:(k:Int)<(n:Int):=by omega
    have jq:(q:Int)<(n:Int):=by omega
    have ag:g0<wr.heap.size:=by omega
    generalize hsk:S k=sK at*;generalize hsq:S q=sQ at*;have ah:¬g0=wo.heap.size:=by omega
    have aI:Hid (∀W,Below wr.heap.size wr W->Calls Tryz.prog 184 #[.pointer (some ⟨p,o,none⟩),.int .i64 sK,.int .i64 sQ] W λe w'=>e=.returned (.int .i64 (F k q))/\w'.cell? ⟨g0,k,none⟩=some (.int .i64 sK)/\w'.cell? ⟨g0,q,none⟩=some (.int .i64 sQ)/\w'.cell? ⟨wo.heap.size,q,none⟩=some (.int .i64 0)/\w'.frozen? ⟨wo.heap.size,q,none⟩=false/\(w'.setCell ⟨wo.heap.size,q,none⟩ (.int .i64 (F k q))).cell? ⟨g0,k,none⟩=some (.int .i64 sK)/\(w'.setCell ⟨wo.heap.size,q,none⟩ (.int .i64 (F k q))).cell? ⟨g0,q,none⟩=some (.int .i64 sQ)/\wo.heap.size<w'.heap.size/\Hid (w'.ownsRow wo.heap.size 3 1 (.slice (some ⟨wo.heap.size,0,none⟩) n n) n (zcX (λj=>F k j) n q))/\Hid (Below wo.heap.size wo w')):=by intro W hW;refine(HC.out W hW).mono ?_;rintro e3 w3⟨rfl,aJ⟩;have ai:Below wr.heap.size wr w3:=hW.trans (aJ.mono hW.size);have af:=ze HQ.out ai;have x1:=(ai.cell (p:=⟨g0,k,none⟩) ag).trans s1;have x2:=(ai.cell (p:=⟨g0,q,none⟩) ag).trans s2;exact⟨rfl,x1,x2,(by rw[af.cellAt q (by omega)];exact zmg aq),af.frozenAt q,(zeJ w3 _ ah).trans x1,(zeJ w3 _ ah).trans x2,za5 af,af,aa.out.trans (ai.mono aD)⟩
    generalize hf:F k q=f at*;have HF:=hid hf;clear hf HC;go_wp2_with fail;go_region_held3 (λw'=>w'.cell? ⟨g0,k,none⟩=some (.int .i64 sK)/\w'.cell? ⟨g0,q,none⟩=some (.int .i64 sQ)) (go_keep) (first|(go_at_call 184;refine(aI.out _ (by first|exact yk _ _|exact(yk _ _).drew)).mono ?_;rintro e3 w3⟨rfl,x1,x2,x3,x4,x5,x6,x7,af,aw⟩));clear s1 s2 x1 x2 x3 x4 x5 x6;have am:=hid (af.out.stored q (.int .i64 f)).1;go_wp2;go_roundw
    ·refine⟨q+1,by go_num,by omega,?_,?_⟩
     ·show World.ownsRow _ _ _ _ _ _ _;rw[<-zke aq,HF.out];exact zcr am.out rfl
     ·first|exact(aw.out.setCell (by exact yh _) _)|exact(aw.out.setCell (by exact yh _) _).drew
    case measure=>simp[intOf];omega
   ·have aP:q=n:=by omega
    subst aP;have r1:wr.cell? ⟨w0.heap.size,k,none⟩=some (.slice none 0 0):=by rw[aa.out.cell (p:=⟨w0.heap.size,k,none⟩) (by exact aQ),HO.out.cellAt k (by omega)];exact zkT ar
    have aA:Hid (wr.ownsRow w0.heap.size 40 1 (.slice (some ⟨w0.heap.size,0,none⟩) q q) q (zbQ G q k)):=ze HO.out aa.out;have r2:=aA.out.frozenAt k;have am:=zbp (aA.out.stored k (.slice (some ⟨wo.heap.size,0,none⟩) q q)).1;have hgz:=za5 HQ.out;go_wp2;go_roundw
    ·refine⟨k+1,λi=>if i=k then wo.heap.size else G i,by go_num,by omega,?_,?_,?_⟩
     ·show World.ownsRow _ _ _ _ _ _ _;rw[<-zjC ar];exact am.out
     ·intro i hi;by_cases e:i=k
      ·subst e;obtain⟨_,cur,aK,aL,aM⟩:=zgm HQ.out;refine⟨by simp;omega,⟨cur,?_,aL,λj hj=>by rw[aM j hj];simp[zcX,hj]⟩,λi' ap=>?_⟩
       ·dsimp only;rw[yg rfl,yt _ _ _ _ (by show wo.heap.size≠w0.heap.size;omega)];exact aK
       ·dsimp only;rw[yg rfl,ye (by omega)];obtain⟨_,⟨ci,h2,_⟩,_⟩:=HG.out i' ap;exact(yc.1 h2).1
      ·obtain⟨g1,⟨ci,g2,g3,g4⟩,g5⟩:=HG.out i (by omega);refine⟨by dsimp only;rw[ye e];exact g1,⟨ci,?_,g3,g4⟩,λi' ap=>by dsimp only;rw[ye e,ye (by omega)];exact g5 i' ap⟩;dsimp only;rw[ye e,yt _ _ _ _ (by show G i≠w0.heap.size;omega),aa.out.block _ (yc.1 g2).1];exact g2
     ·exact(HB.out.trans (aa.out.mono aE)).setCell (by exact yh _) _
    case measure=>simp[intOf];omega
 have aO:k=n:=by omega
 subst aO;go_wp2;go_ret;have aN:zbj wo w0.heap.size (.slice (some ⟨w0.heap.size,0,none⟩) k k) k F:=by
  refine⟨w0.heap.size,G,rfl,?_,λi hi=>?_,λi i' h1 h2=>(HG.out i' h2).2.2 i h1⟩
  ·have h:=HO.out;have e:zbQ G k k=(List.range k).map λi=>Value.slice (some ⟨G i,0,none⟩) k k:=by unfold zbQ;apply yad;intro i hi;rw[yg (by simpa using hi)]
   rw[e] at h;exact h
  obtain⟨g1,g2,_⟩:=HG.out i hi;exact⟨by omega,g2⟩
 exact⟨_,rfl,aN.base au,ak.out.trans (HB.out.mono au)⟩
end Go.Proofs.YtebinaopncclgabGreatDoor
