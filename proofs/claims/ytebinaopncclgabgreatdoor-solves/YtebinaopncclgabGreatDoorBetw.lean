import Derived.Test.YtebinaopncclgabGreatDoorPlay
set_option maxRecDepth 100000
set_option maxHeartbeats 8000000
namespace Go.Proofs.YtebinaopncclgabGreatDoor
open Go.RowKit Go.IntWalk
def sOk(S:Nat->Nat->Int)(N:Int)(i:Nat):Bool:=zas (S i 0) (S i 1) (S i 2) (S i 3) (S i 4) N
def rOk(T:Nat->Nat->Int)(N:Int)(i:Nat):Bool:=zaZ (T i 0) (T i 1) (T i 2) N
def zec(p:Nat->Bool)(n:Nat):Bool:=(List.range n).all p
theorem zk2(p:Nat->Bool)(n:Nat):zec p (n+1)=(zec p n&&p n):=by simp[zec,List.range_succ]
theorem znM{p:Nat->Bool}{n k:Nat}(hk:k<n)(h:p k=false):zec p n=false:=by unfold zec;rw[yai];exact⟨k,by simpa using hk,by simp[h]⟩
def zcK(X0 X1 X2 X3 X4:Int)(S T:Nat->Nat->Int)(n m:Nat):Int:=if 7<n\/40<m then 3 else if (zaK X0 X1 X2 X3 X4&&zec (sOk S X3) n&&zec (rOk T X3) m)=true then 0 else 4
theorem zjt{X0 X1 X2 X3 X4:Int}{S T:Nat->Nat->Int}{n m:Nat}(h:7<n\/40<m):zcK X0 X1 X2 X3 X4 S T n m=3:=yg h
theorem zob{X0 X1 X2 X3 X4:Int}{S T:Nat->Nat->Int}{n m:Nat}(h:¬(7<n\/40<m))(hh:zaK X0 X1 X2 X3 X4=false):zcK X0 X1 X2 X3 X4 S T n m=4:=by unfold zcK;rw[ye h,ye (by simp[hh])]
theorem zqd{X0 X1 X2 X3 X4:Int}{S T:Nat->Nat->Int}{n m:Nat}(h:¬(7<n\/40<m))(hh:zec (sOk S X3) n=false):zcK X0 X1 X2 X3 X4 S T n m=4:=by unfold zcK;rw[ye h,ye (by simp[hh])]
theorem zpO{X0 X1 X2 X3 X4:Int}{S T:Nat->Nat->Int}{n m:Nat}(h:¬(7<n\/40<m))(hh:zec (rOk T X3) m=false):zcK X0 X1 X2 X3 X4 S T n m=4:=by unfold zcK;rw[ye h,ye (by simp[hh])]
theorem zjj{X0 X1 X2 X3 X4:Int}{S T:Nat->Nat->Int}{n m:Nat}(h:¬(7<n\/40<m))(h1:zaK X0 X1 X2 X3 X4=true)(h2:zec (sOk S X3) n=true)(h3:zec (rOk T X3) m=true):zcK X0 X1 X2 X3 X4 S T n m=0:=by unfold zcK;rw[ye h,yg (by simp[h1,h2,h3])]
theorem zqi(X0 X1 X2 X3 X4:Int)(S T:Nat->Nat->Int)(ap ao:Option Addr)(n m af ae:Nat)(w:World)(hn:n<=9223372036854775807)(hm:m<=9223372036854775807)(hs:zhp w ap n 5 S)(hr:zhp w ao m 3 T):Calls Tryz.prog 81 #[.agg #[.int .i64 X0,.int .i64 X1,.int .i64 X2,.int .i64 X3,.int .i64 X4,.slice ap n af,.slice ao m ae]] w λe w'=>e=.returned (.int .i64 (zcK X0 X1 X2 X3 X4 S T n m))/\Below w.heap.size w w':=by
 have HS:=hid hs;have HR:=hid hr;clear hs hr;by_cases h7:7<n
 ·rw[zjt (Or.inl h7)];go_in;go_wp2;go_ret;exact⟨rfl,zj _ _⟩
 by_cases ax:40<m
 ·rw[zjt (Or.inr ax)];go_in;go_wp2;go_ret;exact⟨rfl,zj _ _⟩
 have HN:Hid (¬(7<n\/40<m)):=by show ¬_;omega
 cases hhd:zaK X0 X1 X2 X3 X4
 ·rw[zob HN.out hhd];go_in;go_wp2_with fail;refine(zeB _ _ _ _ _ _ _ _).mono ?_;rintro e1 w1⟨rfl,ak⟩;rw[hhd];obtain⟨aq,am,ac⟩:=zdF (w:=w) ak rfl rfl rfl rfl;clear ak ac;go_wp2;go_ret;exact⟨rfl,aq⟩
 have aw:=hid hhd;go_in;go_wp2_with fail;refine(zeB _ _ _ _ _ _ _ _).mono ?_;rintro e1 w1⟨rfl,ak⟩;rw[hhd];obtain⟨aq,am,ac⟩:=zdF (w:=w) ak rfl rfl rfl rfl;have ai:=zB aq;have an:Hid (w1.cell? ⟨w.heap.size,3,none⟩=some (.int .i64 X3)/\w1.cell? ⟨w.heap.size,5,none⟩=some (.slice ap n af)/\w1.cell? ⟨w.heap.size,6,none⟩=some (.slice ao m ae)):=⟨ac 3,ac 5,ac 6⟩
 clear aq ak ac hhd;go_wp2_with fail;go_loopw[3] (λi wr=>∃k:Nat,i=.int .i64 k/\k<=n/\Hid (Below w1.heap.size w1 wr)/\Hid (zec (sOk S X3) k=true)) (λi _=>n-(intOf i).toNat)
 ·exact⟨0,rfl,by omega,yk _ _,rfl⟩
 obtain⟨k,rfl,hk,HB,HA⟩:=hrel;have ah:=HB.out.size;have d3:wr.cell? ⟨w.heap.size,3,none⟩=some (.int .i64 X3):=zc HB.out an.out.1 am;have d5:wr.cell? ⟨w.heap.size,5,none⟩=some (.slice ap n af):=zc HB.out an.out.2.1 am;by_cases av:k<n
 ·obtain⟨g,o,rfl,ar,hc⟩:=HS.out (by omega);have ad:∀j,j<5->wr.cell? ⟨g,o+k*5+j,none⟩=some (.int .i64 (S k j)):=λj hj=>by rw[HB.out.cell (p:=⟨g,o+k*5+j,none⟩) (by show g<_;omega),ai.out.cell (by exact ar)];exact hc k j av hj
  have x0:wr.cell? ⟨g,o+k*5,none⟩=some (.int .i64 (S k 0)):=ad 0 (by omega);have x1:wr.cell? ⟨g,o+k*5+1,none⟩=some (.int .i64 (S k 1)):=ad 1 (by omega);have x2:wr.cell? ⟨g,o+k*5+2,none⟩=some (.int .i64 (S k 2)):=ad 2 (by omega);have x3:wr.cell? ⟨g,o+k*5+3,none⟩=some (.int .i64 (S k 3)):=ad 3 (by omega);have x4:wr.cell? ⟨g,o+k*5+4,none⟩=some (.int .i64 (S k 4)):=ad 4 (by omega);clear ad hc;have HK:Hid (sOk S X3 k=zas (S k 0) (S k 1) (S k 2) (S k 3) (S k 4) X3):=rfl;generalize S k 0=a at*;generalize S k 1=b at*;generalize S k 2=c at*;generalize S k 3=d at*;generalize S k 4=e at*;have ik:(0:Int)<=(k:Int):=by omega
  have jk:(k:Int)<(n:Int):=by omega
  have ag:g<wr.heap.size:=by omega
  have al:w.heap.size<wr.heap.size:=by omega
  go_wp2_with fail;go_region_held3 (λw'=>w'.cell? ⟨w.heap.size,3,none⟩=some (.int .i64 X3)/\w'.cell? ⟨w.heap.size,5,none⟩=some (.slice (some ⟨g,o,none⟩) n af)/\w'.cell? ⟨g,o+k*5,none⟩=some (.int .i64 a)/\w'.cell? ⟨g,o+k*5+1,none⟩=some (.int .i64 b)/\w'.cell? ⟨g,o+k*5+2,none⟩=some (.int .i64 c)/\w'.cell? ⟨g,o+k*5+3,none⟩=some (.int .i64 d)/\w'.cell? ⟨g,o+k*5+4,none⟩=some (.int .i64 e)) (go_keep) (first
    | (go_at_call 137;refine(zfF _ _ _ _ _ _ _).mono ?_;rintro e2 w2⟨rfl,ab⟩;have aa:Below wr.heap.size wr w2:=⟨ab.os,ab.tape,ab.output,ab.size,ab.block⟩;have k3:=(aa.cell (p:=⟨w.heap.size,3,none⟩) (by exact al)).trans d3;have k5:=(aa.cell (p:=⟨w.heap.size,5,none⟩) (by exact al)).trans d5;have m0:=(aa.cell (p:=⟨g,o+k*5,none⟩) (by exact ag)).trans x0;have m1:=(aa.cell (p:=⟨g,o+k*5+1,none⟩) (by exact ag)).trans x1;have m2:=(aa.cell (p:=⟨g,o+k*5+2,none⟩) (by exact ag)).trans x2;have m3:=(aa.cell (p:=⟨g,o+k*5+3,none⟩) (by exact ag)).trans x3;have m4:=(aa.cell (p:=⟨g,o+k*5+4,none⟩) (by exact ag)).trans x4;have aj:=zB aa;clear aa ab));clear x0 x1 x2 x3 x4 k3 k5 m0 m1 m2 m3 m4 d3 d5;cases hok:zas a b c d e X3
  ·have HF:Hid (zcK X0 X1 X2 X3 X4 S T n m=4):=zqd HN.out (znM av (by rw[HK.out,hok]));go_wp2;go_ret;exact⟨zK HF.out.symm,ai.out.trans ((HB.out.trans (aj.out.mono ah)).mono (by omega))⟩
  go_wp2;go_roundw
  ·exact⟨k+1,by go_num,by omega,HB.out.trans (aj.out.mono ah),by show _=true;rw[zk2,HA.out,HK.out,hok];rfl⟩
  simp[intOf];omega
 have ay:k=n:=by omega
 subst ay;go_wp2_with fail;go_loopw[4] (λi wx=>∃p:Nat,i=.int .i64 p/\p<=m/\Hid (Below w1.heap.size w1 wx)/\Hid (zec (rOk T X3) p=true)) (λi _=>m-(intOf i).toNat)
 ·exact⟨0,rfl,by omega,HB,rfl⟩
 clear HB ah d3 d5;obtain⟨p,rfl,hp,HB,HC⟩:=hrel;have ah:=HB.out.size;have d3:wr.cell? ⟨w.heap.size,3,none⟩=some (.int .i64 X3):=zc HB.out an.out.1 am;have d6:wr.cell? ⟨w.heap.size,6,none⟩=some (.slice ao m ae):=zc HB.out an.out.2.2 am;by_cases au:p<m
 ·obtain⟨g,o,rfl,ar,hc⟩:=HR.out (by omega);have ad:∀j,j<3->wr.cell? ⟨g,o+p*3+j,none⟩=some (.int .i64 (T p j)):=λj hj=>by rw[HB.out.cell (p:=⟨g,o+p*3+j,none⟩) (by show g<_;omega),ai.out.cell (by exact ar)];exact hc p j au hj
  have x0:wr.cell? ⟨g,o+p*3,none⟩=some (.int .i64 (T p 0)):=ad 0 (by omega);have x1:wr.cell? ⟨g,o+p*3+1,none⟩=some (.int .i64 (T p 1)):=ad 1 (by omega);have x2:wr.cell? ⟨g,o+p*3+2,none⟩=some (.int .i64 (T p 2)):=ad 2 (by omega);clear ad hc;have HK:Hid (rOk T X3 p=zaZ (T p 0) (T p 1) (T p 2) X3):=rfl;generalize T p 0=a at*;generalize T p 1=b at*;generalize T p 2=c at*;have ik:(0:Int)<=(p:Int):=by omega
  have jk:(p:Int)<(m:Int):=by omega
  have ag:g<wr.heap.size:=by omega
  have al:w.heap.size<wr.heap.size:=by omega
  go_wp2_with fail;go_region_held3 (λw'=>w'.cell? ⟨w.heap.size,3,none⟩=some (.int .i64 X3)/\w'.cell? ⟨w.heap.size,6,none⟩=some (.slice (some ⟨g,o,none⟩) m ae)/\w'.cell? ⟨g,o+p*3,none⟩=some (.int .i64 a)/\w'.cell? ⟨g,o+p*3+1,none⟩=some (.int .i64 b)/\w'.cell? ⟨g,o+p*3+2,none⟩=some (.int .i64 c)) (go_keep) (first
    | (go_at_call 138;refine(zfM _ _ _ _ _).mono ?_;rintro e2 w2⟨rfl,ab⟩;have aa:Below wr.heap.size wr w2:=⟨ab.os,ab.tape,ab.output,ab.size,ab.block⟩;have k3:=(aa.cell (p:=⟨w.heap.size,3,none⟩) (by exact al)).trans d3;have k6:=(aa.cell (p:=⟨w.heap.size,6,none⟩) (by exact al)).trans d6;have m0:=(aa.cell (p:=⟨g,o+p*3,none⟩) (by exact ag)).trans x0;have m1:=(aa.cell (p:=⟨g,o+p*3+1,none⟩) (by exact ag)).trans x1;have m2:=(aa.cell (p:=⟨g,o+p*3+2,none⟩) (by exact ag)).trans x2;have aj:=zB aa;clear aa ab));clear x0 x1 x2 k3 k6 m0 m1 m2 d3 d6;cases hok:zaZ a b c X3
  ·have HF:Hid (zcK X0 X1 X2 X3 X4 S T k m=4):=zpO HN.out (znM au (by rw[HK.out,hok]));go_wp2;go_ret;exact⟨zK HF.out.symm,ai.out.trans ((HB.out.trans (aj.out.mono ah)).mono (by omega))⟩
  go_wp2;go_roundw
  ·exact⟨p+1,by go_num,by omega,HB.out.trans (aj.out.mono ah),by show _=true;rw[zk2,HC.out,HK.out,hok];rfl⟩
  simp[intOf];omega
 have az:p=m:=by omega
 subst az;have HF:Hid (zcK X0 X1 X2 X3 X4 S T k p=0):=zjj HN.out aw.out HA.out HC.out;go_wp2;go_ret;exact⟨zK HF.out.symm,ai.out.trans (HB.out.mono (by omega))⟩
theorem zjP{w:World}{B n:Nat}{ao:Option Addr}(h:∀a,ao=some a->∃g,a=⟨g,0,none⟩/\B<=g/\g<w.heap.size)(h0:ao=none->n=0)(hn:0<n):∃g,ao=some ⟨g,0,none⟩/\g<w.heap.size:=by
 cases ao with
 | none=>have:=h0 rfl;omega
 | some a=>obtain⟨g,rfl,_,hg⟩:=h a rfl;exact⟨g,rfl,hg⟩
theorem zcq{ss:List (List Int)}{i:Nat}{s:List Int}(hi:i<ss.length)(h:ss[i]=s)(j:Nat):zeb ss i j=s.getD j 0:=by unfold zeb;rw[show ss.getD i []=ss[i] by simp[hi],h]
theorem ztI{r:Rd}(h:zE r):zcK r.vans r.load r.close r.nodes r.home (zeb r.stops) (zeb r.roads) r.stops.length r.roads.length=0:=by
 have h1:=h.nstops;have h2:=h.nroads;refine zjj (by omega) h.head ?_ ?_
 ·unfold zec;rw[yF];intro i hi;have aa:i<r.stops.length:=by simpa using hi
  obtain⟨a,b,c,d,e,hs,hk⟩:=h.stops _ (ym aa);unfold sOk;rw[zcq aa hs,zcq aa hs,zcq aa hs,zcq aa hs,zcq aa hs];exact hk
 unfold zec;rw[yF];intro i hi;have aa:i<r.roads.length:=by simpa using hi
 obtain⟨a,b,c,hs,hk⟩:=h.roads _ (ym aa);unfold rOk;rw[zcq aa hs,zcq aa hs,zcq aa hs];exact hk
theorem zE.shape{r:Rd}(h:zE r):zuL r:=⟨λs hs=>(h.nice.stops s hs).1,λs hs=>(h.nice.roads s hs).1⟩
theorem zti(B B':Nat)(r:Rd)(vs vr:Value)(w:World)(hn:zE r)(hs:w.ownsRow B 62 5 vs r.stops.length (zd r.stops.flatten))(hr:w.ownsRow B' 64 3 vr r.roads.length (zd r.roads.flatten)):Calls Tryz.prog 81 #[zap r vs vr] w λe w'=>e=.returned (.int .i64 0)/\Below w.heap.size w w':=by obtain⟨ad,ab,rfl,hl⟩:=ziI hs hn.shape.stops;obtain⟨ac,aa,rfl,ae⟩:=ziI hr hn.shape.roads;have h:=zqi r.vans r.load r.close r.nodes r.home (zeb r.stops) (zeb r.roads) ad ac r.stops.length r.roads.length ab aa w (by have:=hn.nstops;omega) (by have:=hn.nroads;omega) hl ae;rw[ztI hn] at h;exact h
structure zf6 (r:Rd):Prop where
 none:r.head=false->r=Rd0
 ok:r.head=true->zE r
theorem zv8:zf6 Rd0:=⟨λ_=>rfl,λh=>by cases h⟩
theorem zpf{r:Rd}(h:zf6 r)(f:List UInt8)(vs:List Int):zf6 (zae r f vs).1:=by
 have hd:∀a b c d e,zf6 (zaw r a b c d e).1:=by
  intro a b c d e;unfold zaw;split
  ·exact h
  split
  ·rename_i hh;exact⟨λh'=>(by cases h'),λ_=>⟨hh,by simp,by simp,by simp,by simp,rfl⟩⟩
  exact h
 have ab:∀a b c d e,zf6 (zav r a b c d e).1:=by
  intro a b c d e;unfold zav;split
  ·exact h
  split
  ·exact h
  split
  ·rename_i h1 h2 h3;have hh:r.head=true:=by simpa using h1
   have ho:=h.ok hh;refine⟨λh'=>absurd h' h1,λ_=>⟨ho.head,λs hs=>?_,ho.roads,by simp;omega,ho.nroads,hh⟩⟩;simp at hs;rcases hs with hs|rfl
   ·exact ho.stops s hs
   exact⟨a,b,c,d,e,rfl,h3⟩
  exact h
 have aa:∀a b c,zf6 (zat r a b c).1:=by
  intro a b c;unfold zat;split
  ·exact h
  split
  ·exact h
  split
  ·rename_i h1 h2 h3;have hh:r.head=true:=by simpa using h1
   have ho:=h.ok hh;refine⟨λh'=>absurd h' h1,λ_=>⟨ho.head,ho.stops,λs hs=>?_,ho.nstops,by simp;omega,hh⟩⟩;simp at hs;rcases hs with hs|rfl
   ·exact ho.roads s hs
   exact⟨a,b,c,rfl,h3⟩
  exact h
 unfold zae;split
 ·split
  ·exact hd _ _ _ _ _
  exact h
 split
 ·split
  ·exact ab _ _ _ _ _
  exact h
 split
 ·split
  ·exact aa _ _ _
  exact h
 exact h
theorem zt6(ls:List (List UInt8)):∀{r:Rd},zf6 r->∀i,zf6 (zbr r i ls).1:=by
 induction ls with
 | nil=>intro r h i;exact h
 | cons l t ih=>
  intro r h i;unfold zbr;split
  ·refine ih ?_ _;unfold zW;split
   ·exact h
   split
   ·exact zpf h _ _
   exact h
  exact zv8
theorem zfq{l:List UInt8}(h:(zv l).2.2=0):zE (zv l).1:=by
 have hm:=zt6 (zD 10 l) zv8 0;unfold zv at h⊢;split at h
 ·cases h
 rename_i h1;rw[ye h1];split at h
 ·rename_i h2;rw[yg h2];split at h
  ·rename_i h3;rw[yg h3];exact hm.ok h3
  cases h
 rename_i h2;exact absurd h h2
def zbf(w:World)(nb N:Nat)(F:Nat->Nat->Int):Prop:=(∃cs,w.heap[nb]?=some (.cells cs 156 (0,0)))/\w.cell? ⟨nb,0,none⟩=some (.int .i64 N)/\N<=12/\∀a b,a<N->b<N->w.cell? ⟨nb,1+a*12+b,none⟩=some (.int .i64 (F a b))
structure zbY (nb:Nat) (w w':World):Prop where
 os:w'.os=w.os
 tape:w'.tape=w.tape
 output:w'.output=w.output
 size:w'.heap.size=w.heap.size
 block:∀k,k≠nb->w'.heap[k]?=w.heap[k]?
theorem zbY.refl(nb:Nat)(w:World):zbY nb w w:=⟨rfl,rfl,rfl,rfl,λ_ _=>rfl⟩
theorem zbY.trans{nb:Nat}{a b c:World}(h:zbY nb a b)(k:zbY nb b c):zbY nb a c:=⟨k.os.trans h.os,k.tape.trans h.tape,k.output.trans h.output,k.size.trans h.size,λi hi=>(k.block i hi).trans (h.block i hi)⟩
theorem zbY.drew{nb:Nat}{a b:World}(h:zbY nb a b):zbY nb a b.drew:=⟨h.os,h.tape,h.output,h.size,h.block⟩
theorem zbY.setCell{nb:Nat}{a b:World}(h:zbY nb a b)(o:Nat)(u:Value):zbY nb a (b.setCell ⟨nb,o,none⟩ u):=h.trans ⟨rfl,rfl,rfl,by simp[World.setCell],λk hk=>Below.heap_setCell _ _ _ _ hk⟩
theorem zbY.below{nb B:Nat}{w w':World}(h:zbY nb w w')(hB:B<=nb):Below B w w':=⟨h.os,h.tape,h.output,by rw[h.size];exact Nat.le_refl _,λk hk=>h.block k (by omega)⟩
theorem zmo{w:World}{nb N:Nat}{F:Nat->Nat->Int}(h:zbf w nb N F):nb<w.heap.size:=by obtain⟨cs,hc⟩:=h.1;exact(Array.getElem?_eq_some_iff.1 hc).1
theorem zgU{w:World}{nb N:Nat}{F:Nat->Nat->Int}(h:zbf w nb N F)(o:Nat):w.frozen? ⟨nb,o,none⟩=false:=by obtain⟨cs,hc⟩:=h.1;exact frozen_of_row w nb o _ _ hc
def upd(F:Nat->Nat->Int)(a b:Nat)(v:Int):Nat->Nat->Int:=λx y=>if x=a/\y=b then v else F x y
theorem zw{w:World}{nb:Nat}{cs:Array Value}{t:TypeId}(hc:w.heap[nb]?=some (.cells cs t (0,0))){o p:Nat}{u u':Value}(ho:w.cell? ⟨nb,o,none⟩=some u')(v:Value)(hp:w.cell? ⟨nb,p,none⟩=some u):(w.setCell ⟨nb,o,none⟩ v).cell? ⟨nb,p,none⟩=some (if p=o then v else u):=by
 rw[cell_of_row _ nb p _ _ _ (heap_setCell_same w nb o cs t v hc)];rw[cell_of_row w nb p _ _ _ hc] at hp;rw[cell_of_row w nb o _ _ _ hc] at ho;have aa:o<cs.size:=(Array.getElem?_eq_some_iff.1 ho).1;rw[Array.getElem?_setIfInBounds];by_cases h:o=p
 ·subst h;simp[aa]
 rw[if_neg h,hp,if_neg (λe=>h e.symm)]
theorem zh3{w:World}{nb N a b:Nat}{F:Nat->Nat->Int}(h:zbf w nb N F)(ha:a<N)(hb:b<N)(v:Int):zbf (w.setCell ⟨nb,1+a*12+b,none⟩ (.int .i64 v)) nb N (upd F a b v):=by
 obtain⟨⟨cs,hc⟩,h0,hN,hF⟩:=h;refine⟨⟨_,heap_setCell_same w nb _ _ _ _ hc⟩,?_,hN,λx y hx hy=>?_⟩
 ·rw[zw hc (hF a b ha hb) _ h0,if_neg (by omega)]
 rw[zw hc (hF a b ha hb) _ (hF x y hx hy)];unfold upd;by_cases e:x=a/\y=b
 ·obtain⟨rfl,rfl⟩:=e;simp
 rw[if_neg e,if_neg (by omega)]
theorem zc6{w:World}{nb N:Nat}{F G:Nat->Nat->Int}(h:zbf w nb N F)(hg:∀a b,a<N->b<N->F a b=G a b):zbf w nb N G:=⟨h.1,h.2.1,h.2.2.1,λa b ha hb=>by rw[h.2.2.2 a b ha hb,hg a b ha hb]⟩
theorem zhl{w w':World}{nb N:Nat}{F:Nat->Nat->Int}(h:zbf w nb N F)(hb:w'.heap[nb]?=w.heap[nb]?):zbf w' nb N F:=by
 obtain⟨⟨cs,hc⟩,h0,hN,hF⟩:=h;refine⟨⟨cs,by rw[hb];exact hc⟩,?_,hN,λx y hx hy=>?_⟩
 ·rw[World.cell?_of_block (a:=⟨nb,0,none⟩) hb];exact h0
 rw[World.cell?_of_block (a:=⟨nb,1+x*12+y,none⟩) hb];exact hF x y hx hy
theorem zbp{p:Prop}(h:p):Hid p:=h
def zbx(x v:Int):Int:=if x=-1\/v<x then v else x
theorem zib(nb N a b:Nat)(F:Nat->Nat->Int)(v:Int)(w:World)(h:zbf w nb N F)(ha:a<N)(hb:b<N):Calls Tryz.prog 83 #[.pointer (some ⟨nb,0,none⟩),.int .i64 a,.int .i64 b,.int .i64 v] w λe w'=>e=.returned (.tuple #[])/\zbf w' nb N (upd F a b (zbx (F a b) v))/\zbY nb w w':=by
 have hc:=h.2.2.2 a b ha hb;have hf:=zgU h (1+a*12+b);have hN:=h.2.2.1;have H:Hid (zbf w nb N F):=h;have ha':a<12:=by omega
 have hb':b<12:=by omega
 clear h;go_in;by_cases h1:F a b=-1
 ·have hs:zbx (F a b) v=v:=by unfold zbx;rw[if_pos (Or.inl h1)]
  have HS:=zbp hs;have e1:(F a b == -1)=true:=by simp[h1]
  have H1:=zbp h1;clear h1 hs;go_wp2;go_end0;rw[HS.out];exact⟨rfl,zh3 H.out ha hb v,(zbY.refl _ _).setCell _ _⟩
 have e1:(F a b == -1)=false:=by simp[h1]
 by_cases h2:v<F a b
 ·have hs:zbx (F a b) v=v:=by unfold zbx;rw[if_pos (Or.inr h2)]
  have HS:=zbp hs;clear hs;go_wp2;go_end0;rw[HS.out];exact⟨rfl,zh3 H.out ha hb v,(zbY.refl _ _).setCell _ _⟩
 have hs:zbx (F a b) v=F a b:=by unfold zbx;rw[if_neg (by omega)]
 have HS:=zbp hs;clear hs;go_wp2;go_end0;rw[HS.out];refine⟨rfl,zc6 H.out (λx y _ _=>?_),zbY.refl _ _⟩;unfold upd;split
 ·rename_i e;rw[e.1,e.2]
 rfl
def zdt(a b:Nat):Int:=if a=b then 0 else -1
theorem zqw(nb N:Nat)(F:Nat->Nat->Int)(w:World)(h:zbf w nb N F):Calls Tryz.prog 82 #[.pointer (some ⟨nb,0,none⟩)] w λe w'=>e=.returned (.tuple #[])/\zbf w' nb N zdt/\zbY nb w w':=by
 have hN:=h.2.2.1;have H:Hid (zbf w nb N F):=h;clear h;go_in;go_wp2;go_loopw[2,3] (λi j wr=>∃a:Nat,i=.int .i64 a/\a<=N/\Hid (∃G,zbf wr nb N G/\∀x y,x<a->y<N->G x y=zdt x y)/\Hid (zbY nb w wr)) (λi _ _=>N-(intOf i).toNat)
 ·exact⟨0,rfl,by omega,⟨F,H.out,λx y hx=>by omega⟩,zbY.refl _ _⟩
 obtain⟨a,rfl,ha,HG,HO⟩:=hrel;obtain⟨G,hG,hD⟩:=HG.out;have c0:=hG.2.1;by_cases ab:a<N
 ·have aa:=zbp hG;have HD:=zbp hD;clear hG hD HG;go_wp2;go_loopw[3] (λj wx=>∃b:Nat,j=.int .i64 b/\b<=N/\Hid (∃G',zbf wx nb N G'/\(∀x y,x<a->y<N->G' x y=zdt x y)/\∀y,y<b->G' a y=-1)/\Hid (zbY nb w wx)) (λj _=>N-(intOf j).toNat)
  ·exact⟨0,rfl,by omega,⟨G,aa.out,HD.out,λy hy=>by omega⟩,HO⟩
  clear aa HD HO c0;obtain⟨b,rfl,hb,HG,HO⟩:=hrel;obtain⟨G',hG,hD,hR⟩:=HG.out;have c0:=hG.2.1;have ha12:a<12:=by omega
  by_cases ac:b<N
  ·have hb12:b<12:=by omega
   have hc:=hG.2.2.2 a b ab ac;have hf:=zgU hG (1+a*12+b);have aa:=zbp hG;have HD:=zbp hD;have HR:=zbp hR;clear hG hD hR HG;go_wp2;go_roundw
   ·refine⟨b+1,by go_num,by omega,⟨upd G' a b (-1),zh3 aa.out ab ac _,λx y hx hy=>?_,λy hy=>?_⟩,HO.out.setCell _ _⟩
    ·unfold upd;rw[if_neg (by omega)];exact HD.out x y hx hy
    unfold upd;by_cases e:y=b
    ·rw[if_pos ⟨rfl,e⟩]
    rw[if_neg (by omega)];exact HR.out y (by omega)
   simp[intOf];omega
  have hc:=hG.2.2.2 a a ab ab;have hf:=zgU hG (1+a*12+a);have aa:=zbp hG;have HD:=zbp hD;have HR:=zbp hR;clear hG hD hR HG;go_wp2;go_roundw
  ·refine⟨a+1,by go_num,by omega,⟨upd G' a a 0,zh3 aa.out ab ab _,λx y hx hy=>?_⟩,HO.out.setCell _ _⟩;unfold upd;by_cases e:x=a/\y=a
   ·rw[if_pos e,e.1,e.2];simp[zdt]
   rw[if_neg e];by_cases ex:x=a
   ·subst ex;rw[HR.out y (by omega)];unfold zdt;rw[if_neg (by omega)]
   exact HD.out x y (by omega) hy
  simp[intOf];omega
 have aa:=zbp hG;have HD:=zbp hD;clear hG hD HG;go_wp2;go_end0;exact⟨rfl,zc6 aa.out (λx y hx hy=>HD.out x y (by omega) hy),HO.out⟩
def sites(r:Rd):List Int:=r.home::r.stops.map (λs=>s.getD 0 0)
theorem zdJ(r:Rd):(sites r).length=r.stops.length+1:=by simp[sites]
theorem zlc(B B':Nat)(r:Rd)(vs vr:Value)(w:World)(hn:zlM r)(hs:w.ownsRow B 62 5 vs r.stops.length (zd r.stops.flatten))(hr:w.ownsRow B' 64 3 vr r.roads.length (zd r.roads.flatten)):Calls Tryz.prog 85 #[zap r vs vr] w λe w'=>∃v,e=.returned v/\w'.ownsRow w.heap.size 3 1 v (r.stops.length+1) (zd (sites r))/\Below w.heap.size w w':=by
 obtain⟨i0,hi,az,aA,aB⟩:=info_parts Tryz.infoInt;have hns:=hn.nstops;obtain⟨ae,aa,rfl,ak,am⟩:=zg hs;obtain⟨aj,ad,rfl,au,ay⟩:=zg hr;have HS:=zB hs;have HN:=zB hn;have an:=zB ak;have ar:=zB am;clear hs hr hn ak am au ay;unfold zap;go_in;go_wp2_with fail;obtain⟨bx,af⟩:∃bx,bx=(w.alloc (.cells #[.int .i64 r.vans,.int .i64 r.load,.int .i64 r.close,.int .i64 r.nodes,.int .i64 r.home,.slice ae r.stops.length aa,.slice aj r.roads.length ad] 28)):=⟨_,rfl⟩
 have ao:Hid (bx.cell? ⟨w.heap.size,5,none⟩=some (.slice ae r.stops.length aa)):=by show _=_;rw[af];simp[go_sem]
 have av:w.heap.size+1<=bx.heap.size:=by rw[af];simp
 have ap:=zB af;clear af;go_loopw[3,4] (λv i wr=>∃k:Nat,i=.int .i64 k/\k<=r.stops.length/\Hid (wr.ownsRow (w.heap.size+1) 3 1 v (k+1) (zd ((sites r).take (k+1))))/\Hid (Below w.heap.size w wr)/\Hid (Below (w.heap.size+1) bx wr)) (λ_ i _=>r.stops.length-(intOf i).toNat)
 ·refine⟨0,rfl,by omega,?_,zaa _ _ _,?_⟩
  ·have:=ya4 (base:=w.heap.size+1) (e:=3) (size:=1) (w.alloc (.cells #[.int .i64 r.vans,.int .i64 r.load,.int .i64 r.close,.int .i64 r.nodes,.int .i64 r.home,.slice ae r.stops.length aa,.slice aj r.roads.length ad] 28)) #[.int .i64 r.home] 1 (by simp) (by unfold maxLen;omega) rfl;show World.ownsRow _ _ _ _ _ _ _;simpa[sites,zd] using this
  show Below _ _ _;rw[ap.out];exact(yk _ _).alloc (by simp) _
 obtain⟨k,rfl,hk,HO,HW,ag⟩:=hrel;have d5:wr.cell? ⟨w.heap.size,5,none⟩=some (.slice ae r.stops.length aa):=(ag.out.cell (by simp)).trans ao.out;have hsz:w.heap.size+1<=wr.heap.size:=yP av ag.out.size;obtain⟨g1,cap1,cur1,rfl,hg1,_,hcap1⟩:=zF HO.out (by omega);by_cases al:k<r.stops.length
 ·obtain⟨g,rfl,aw⟩:=zjP an.out ar.out (by omega);obtain⟨a,b,c,d,e,ah⟩:=zwr (HN.out.stops _ (ym al)).1;have ai:∀j z,j<5->r.stops[k][j]?=some z->wr.cell? ⟨g,k*5+j,none⟩=some (.int .i64 z):=by intro j z hj hz;rw[HW.out.cell (by exact aw),HS.out.cellAt (k*5+j) (by omega)];exact zek (λs hs=>(HN.out.stops s hs).1) al hj hz
  rw[ah] at ai;have x0:wr.cell? ⟨g,k*5,none⟩=some (.int .i64 a):=ai 0 a (by omega) rfl;have HT:Hid ((sites r).take (k+1+1)=(sites r).take (k+1)++[a]):=by show _=_;rw[yr (by rw[zdJ];omega)];simp[sites,ah]
  clear ai ah;have hgw:g<wr.heap.size:=by omega
  go_wp2_with(first
   | (at_builtin;refine yy _ rfl _ _ 40 rfl (w.heap.size+1) 3 i0 (.int .i64 0) 1 8 Tryz.underlying40 hi az aA aB rfl (by decide) _ _ _ rfl (HO.out.alloc _) ⟨wr.heap.size,0,none⟩ 1 1 [.int .i64 a] rfl rfl ?c1 ?c2 ?c3 ?c4 ?c5 ?_)
   | go_in)
  case c1=>exact cell_one_new _ _ _
  case c2=>intro u hu;simp at hu;subst hu;rfl
  case c3=>unfold maxLen;omega
  case c4=>omega
  case c5=>simp;omega
  intro v' w2 ac ab _;have aq:=zB ac;have HG:=zB ab;clear ac ab d5 x0;go_wp2;go_roundw
  ·refine⟨k+1,by go_num,by omega,?_,?_,?_⟩
   ·show World.ownsRow _ _ _ _ _ _ _;rw[HT.out,zaY];exact aq.out
   ·exact(HW.out.alloc (by omega) _).grown HG.out (by simp;omega) (λq hq=>by have:=(HO.out.lt q hq).1;omega)
   refine(ag.out.alloc (by omega) _).grown HG.out (by simp;omega) (λq hq=>?_);exact(HO.out.lt q hq).1
  simp[intOf];omega
 go_wp2;go_ret;have ax:k=r.stops.length:=by omega
 subst ax;refine⟨_,rfl,?_,HW.out⟩;have h:=HO.out;rw[yD (by rw[zdJ];omega)] at h;exact zan h (by omega)
def zdp(w:World)(B:Nat)(v:Value)(n:Nat)(D:Nat->Nat->Int):Prop:=∃g,v=.slice (some ⟨g,0,none⟩) n n/\(B<=g/\g<w.heap.size)/\∀i,i<n->∃gi,w.cell? ⟨g,i,none⟩=some (.slice (some ⟨gi,0,none⟩) n n)/\(B<=gi/\gi<w.heap.size)/\∀j,j<n->w.cell? ⟨gi,j,none⟩=some (.int .i64 (D i j))
theorem zdp.kept{w w':World}{B:Nat}{v:Value}{n:Nat}{D:Nat->Nat->Int}(h:zdp w B v n D)(hs:w.heap.size<=w'.heap.size)(hb:∀k,B<=k->k<w.heap.size->w'.heap[k]?=w.heap[k]?):zdp w' B v n D:=by obtain⟨g,hv,hg,hi⟩:=h;refine⟨g,hv,by omega,λi hn=>?_⟩;obtain⟨gi,h1,h2,h3⟩:=hi i hn;exact⟨gi,by rw[yaz (a:=⟨g,i,none⟩) (hb g hg.1 hg.2)];exact h1,by omega,λj hj=>by rw[yaz (a:=⟨gi,j,none⟩) (hb gi h2.1 h2.2)];exact h3 j hj⟩
theorem zdp.below{w w':World}{B:Nat}{v:Value}{n:Nat}{D:Nat->Nat->Int}(h:zdp w B v n D)(hb:Below w.heap.size w w'):zdp w' B v n D:=h.kept hb.size (λk _ hk=>hb.block k hk)
theorem zdp.grown{w w':World}{B:Nat}{v:Value}{n:Nat}{D:Nat->Nat->Int}{row:Option Nat}(h:zdp w B v n D)(hg:w.grownBy w' row)(hr:∀k,row=some k->k<B):zdp w' B v n D:=h.kept hg.size (λk hB hk=>hg.block k hk (λe=>by have:=hr k e.symm;omega))
theorem zdp.setCell{w:World}{B p o:Nat}{v:Value}{n:Nat}{D:Nat->Nat->Int}(h:zdp w B v n D)(hp:p<B)(u:Value):zdp (w.setCell ⟨p,o,none⟩ u) B v n D:=h.kept (by simp[World.setCell]) (λk hB _=>yt _ _ _ _ (by show k≠p;omega))
theorem zdp.base{w:World}{B B':Nat}{v:Value}{n:Nat}{D:Nat->Nat->Int}(h:zdp w B v n D)(hB:B'<=B):zdp w B' v n D:=by obtain⟨g,hv,hg,hi⟩:=h;refine⟨g,hv,by omega,λi hn=>?_⟩;obtain⟨gi,h1,h2,h3⟩:=hi i hn;exact⟨gi,h1,by omega,h3⟩
def zbj(w:World)(B:Nat)(v:Value)(n:Nat)(D:Nat->Nat->Int):Prop:=∃(g:Nat)(G:Nat->Nat),v=.slice (some ⟨g,0,none⟩) n n/\w.ownsRow B 40 1 v n ((List.range n).map λi=>Value.slice (some ⟨G i,0,none⟩) n n)/\(∀i,i<n->B<=G i/\∃ci,w.heap[G i]?=some (.cells ci 3 (0,0))/\ci.size=n/\∀j,j<n->ci[j]?=some (.int .i64 (D i j)))/\∀i i',i<i'->i'<n->G i<G i'
theorem zgm{w:World}{B g n c:Nat}{e:TypeId}{xs:List Value}(h:w.ownsRow B e 1 (.slice (some ⟨g,0,none⟩) n c) n xs):B<=g/\∃cur,w.heap[g]?=some (.cells cur e (0,0))/\cur.size=c/\∀j,j<n->cur[j]?=xs[j]?:=by
 rcases h.2 with ⟨hh,_⟩|⟨g',cap,cur,hv,hb,hg,_,_,hz,ht⟩
 ·cases hh
 cases hv;refine⟨hb,cur,hg,by simpa using hz,λj hj=>?_⟩;rw[<-ht,yaV (by omega)];simp
theorem zbj.grid{w:World}{B:Nat}{v:Value}{n:Nat}{D:Nat->Nat->Int}(h:zbj w B v n D):zdp w B v n D:=by obtain⟨g,G,rfl,ho,hr,_⟩:=h;obtain⟨hb,cur,hg,_,hc⟩:=zgm ho;refine⟨g,rfl,⟨hb,(yc.1 hg).1⟩,λi hi=>?_⟩;obtain⟨h1,ci,h2,_,h4⟩:=hr i hi;refine⟨G i,?_,⟨h1,(yc.1 h2).1⟩,λj hj=>by rw[yi _ _ _ _ _ _ h2];exact h4 j hj⟩;rw[yi _ _ _ _ _ _ hg,hc i hi];simp[hi]
theorem zbj.below{w w':World}{B:Nat}{v:Value}{n:Nat}{D:Nat->Nat->Int}(h:zbj w B v n D)(hb:Below w.heap.size w w'):zbj w' B v n D:=by obtain⟨g,G,h1,h2,h3,h4⟩:=h;refine⟨g,G,h1,ze h2 hb,λi hi=>?_,h4⟩;obtain⟨k1,ci,k2,k3⟩:=h3 i hi;exact⟨k1,ci,by rw[hb.block _ (yc.1 k2).1];exact k2,k3⟩
theorem zbj.base{w:World}{B B':Nat}{v:Value}{n:Nat}{D:Nat->Nat->Int}(h:zbj w B v n D)(hb:B'<=B):zbj w B' v n D:=by obtain⟨g,G,h1,h2,h3,h4⟩:=h;exact⟨g,G,h1,zan h2 hb,λi hi=>⟨yP hb (h3 i hi).1,(h3 i hi).2⟩,h4⟩
theorem Tryz.infoInts:(Tryz.prog.info? 40).map (λi=>(i.zero,i.size,i.bytes))=some (some (.slice none 0 0),1,24):=by kernel_rfl
def zbQ(G:Nat->Nat)(n k:Nat):List Value:=(List.range n).map λi=>if i<k then Value.slice (some ⟨G i,0,none⟩) n n else .slice none 0 0
def zcX(D:Nat->Int)(n k:Nat):List Value:=(List.range n).map λj=>if j<k then Value.int .i64 (D j) else .int .i64 0
theorem zjk(D:Nat->Int)(n:Nat):zcX D n 0=List.replicate n (.int .i64 0):=by unfold zcX;simp[List.map_const',List.length_range]
theorem ziC(G:Nat->Nat)(n:Nat):zbQ G n 0=List.replicate n (.slice none 0 0):=by unfold zbQ;simp[List.map_const',List.length_range]
theorem zke{D:Nat->Int}{n k:Nat}(h:k<n):(zcX D n k).set k (.int .i64 (D k))=zcX D n (k+1):=by
 apply yby;intro i;unfold zcX;by_cases hi:i<n
 ·rw[ybz];by_cases e:k=i
  ·subst e;simp[h]
  simp[e,hi];by_cases h1:i<k
  ·simp[h1,show i<k+1 by omega]
  simp[h1,show ¬i<k+1 by omega]
 rw[yao (by simp;omega),yao (by simp;omega)]
theorem zjC{G:Nat->Nat}{n k g:Nat}(h:k<n):(zbQ G n k).set k (.slice (some ⟨g,0,none⟩) n n)=zbQ (λi=>if i=k then g else G i) n (k+1):=by
 apply yby;intro i;unfold zbQ;by_cases hi:i<n
 ·rw[ybz];by_cases e:k=i
  ·subst e;simp[h]
  have e':¬i=k:=λx=>e x.symm;simp[e,e',hi];by_cases h1:i<k
  ·simp[h1,show i<k+1 by omega]
  simp[h1,show ¬i<k+1 by omega]
 rw[yao (by simp;omega),yao (by simp;omega)]
theorem za5{w:World}{B g n c:Nat}{e:TypeId}{xs:List Value}(h:w.ownsRow B e 1 (.slice (some ⟨g,0,none⟩) n c) n xs):g<w.heap.size:=by
 rcases h.2 with ⟨h0,_⟩|⟨g',cap,cur,hv,_,hg,_⟩
 ·cases h0
 cases hv;exact(yc.1 hg).1
theorem zmg{D:Nat->Int}{n k:Nat}(h:k<n):(zcX D n k)[k]?=some (.int .i64 0):=by simp[zcX,h]
theorem zkT{G:Nat->Nat}{n k:Nat}(h:k<n):(zbQ G n k)[k]?=some (.slice none 0 0):=by simp[zbQ,h]
theorem zeJ(w:World){b o p q:Nat}(u:Value)(h:¬b=p):(w.setCell ⟨p,q,none⟩ u).cell? ⟨b,o,none⟩=w.cell? ⟨b,o,none⟩:=yaz (a:=⟨b,o,none⟩) (yt _ _ _ _ (by exact h))
theorem zq5(nb N n g0 c0 Bs:Nat)(F:Nat->Nat->Int)(S:Nat->Nat)(w:World)(h:zbf w nb N F)(hn1:1<=n)(hn:n<=8)(hS:∀i,i<n->S i<N)(hs:w.ownsRow Bs 3 1 (.slice (some ⟨g0,0,none⟩) n c0) n (zd ((List.range n).map λi=>(S i:Int)))):Calls Tryz.prog 86 #[.pointer (some ⟨nb,0,none⟩),.slice (some ⟨g0,0,none⟩) n c0] w λe w'=>∃v,e=.returned v/\zbj w' w.heap.size v n (λi j=>F (S i) (S j))/\Below w.heap.size w w':=by
 obtain⟨i0,hi,aI,aJ,aK⟩:=info_parts Tryz.infoInt;obtain⟨j0,hj,aF,aG,aH⟩:=info_parts Tryz.infoInts;have hN:=h.2.2.1;have HN:=zbp h;have aq:=zbp hS;have ar:=za5 hs;have aC:=zmo h;have ap:Hid (∀i,i<n->w.cell? ⟨g0,i,none⟩=some (.int .i64 (S i))):=λi hi=>by rw[hs.cellAt i (by omega)];simp[zd,hi]
 clear h hS hs;go_in;go_wp2_with(first
  | (at_make;refine wpList_make_full _ rfl _ _ 31 rfl w.heap.size 40 j0 (.slice none 0 0) 1 Tryz.underlying31 hj aF aG .i64 .i64 _ _ n rfl rfl ?m1 ?m2 ?m3 ?m4 ?m5 ?_)
  | fail)
 case m1=>rfl
 case m2=>rfl
 case m3=>rw[aH];omega
 case m4=>unfold maxLen;omega
 case m5=>exact yh _
 intro w1 ad ab;have al:Hid (Below w.heap.size w w1):=(yk _ _).grown ab (yh _) (by simp);have am:Hid (w1.ownsRow w.heap.size 40 1 (.slice (some ⟨w.heap.size,0,none⟩) n n) n (zbQ (λ_=>0) n 0)):=by
  show World.ownsRow _ _ _ _ _ _ _;have e:(madeCells #[Value.slice none 0 0] n).toList=zbQ (λ_=>0) n 0:=by rw[yas,ziC]
  rw[<-e];simpa using ad
 clear ad ab;go_wp2;go_loopw[6,7,8] (λi _ _ wr=>∃(k:Nat)(G:Nat->Nat),i=.int .i64 k/\k<=n/\Hid (wr.ownsRow w.heap.size 40 1 (.slice (some ⟨w.heap.size,0,none⟩) n n) n (zbQ G n k)) /\Hid (∀i,i<k->w.heap.size<G i/\(∃ci,wr.heap[G i]?=some (.cells ci 3 (0,0))/\ci.size=n/\∀j,j<n->ci[j]?=some (.int .i64 (F (S i) (S j))))/\∀i',i'<i->G i'<G i)/\Hid (Below w.heap.size w wr)) (λi _ _ _=>n-(intOf i).toNat)
 case atStart=>exact⟨0,λ_=>0,rfl,by omega,am,λi hi=>by omega,al⟩
 clear am al;obtain⟨k,G,rfl,hk,HO,HG,HB⟩:=hrel;obtain⟨wo,rfl⟩:∃wo,wo=wr:=⟨_,rfl⟩
 have ax:=HB.out.size;have aE:=za5 HO.out;by_cases ah:k<n
 ·go_wp2_with(first
   | (at_make;refine wpList_make_full _ rfl _ _ 40 rfl wo.heap.size 3 i0 (.int .i64 0) 1 Tryz.underlying40 hi aI aJ .i64 .i64 _ _ n rfl rfl ?q1 ?q2 ?q3 ?q4 ?q5 ?_)
   | fail)
  case q1=>rfl
  case q2=>rfl
  case q3=>rw[aK];omega
  case q4=>unfold maxLen;omega
  case q5=>exact yh _
  intro w2 ae ac;have aa:Hid (Below wo.heap.size wo w2):=(yk _ _).grown ac (yh _) (by simp);have an:Hid (w2.ownsRow wo.heap.size 3 1 (.slice (some ⟨wo.heap.size,0,none⟩) n n) n (zcX (λj=>F (S k) (S j)) n 0)):=by
   show World.ownsRow _ _ _ _ _ _ _;have e:(madeCells #[Value.int .i64 0] n).toList=zcX (λj=>F (S k) (S j)) n 0:=by rw[yas,zjk]
   rw[<-e];simpa using ae
  clear ae ac;go_wp2;go_loopw[8] (λj wr=>∃q:Nat,j=.int .i64 q/\q<=n/\Hid (wr.ownsRow wo.heap.size 3 1 (.slice (some ⟨wo.heap.size,0,none⟩) n n) n (zcX (λj=>F (S k) (S j)) n q))/\Hid (Below wo.heap.size wo wr)) (λj _=>n-(intOf j).toNat)
  ·exact⟨0,rfl,by omega,an,aa⟩
  case round=>
   clear an aa;obtain⟨q,rfl,hq,HQ,aa⟩:=hrel;have hb2:=aa.out.size;by_cases ag:q<n
   ·have sk:=aq.out k ah;have sq:=aq.out q ag;have s1:wr.cell? ⟨g0,k,none⟩=some (.int .i64 (S k)):=((aa.out.cell (p:=⟨g0,k,none⟩) (by show g0<_;omega)).trans (HB.out.cell (p:=⟨g0,k,none⟩) ar)).trans (ap.out k ah);have s2:wr.cell? ⟨g0,q,none⟩=some (.int .i64 (S q)):=((aa.out.cell (p:=⟨g0,q,none⟩) (by show g0<_;omega)).trans (HB.out.cell (p:=⟨g0,q,none⟩) ar)).trans (ap.out q ag);have s3:wr.cell? ⟨nb,1+S k*12+S q,none⟩=some (.int .i64 (F (S k) (S q))):=((aa.out.cell (p:=⟨nb,1+S k*12+S q,none⟩) (by show nb<_;omega)).trans (HB.out.cell (p:=⟨nb,1+S k*12+S q,none⟩) aC)).trans (HN.out.2.2.2 _ _ sk sq);have s4:wr.cell? ⟨wo.heap.size,q,none⟩=some (.int .i64 0):=by rw[HQ.out.cellAt q (by omega)];exact zmg ag
    have s5:=HQ.out.frozenAt q;have ai:=zbp (HQ.out.stored q (.int .i64 (F (S k) (S q)))).1;have ik:(0:Int)<=(k:Int):=by omega
    have iq:(0:Int)<=(q:Int):=by omega
    have jk:(k:Int)<(n:Int):=by omega
    have jq:(q:Int)<(n:Int):=by omega
    have k1:(S k:Int)<12:=by omega
    have k2:(S q:Int)<12:=by omega
    have ak:¬nb=wo.heap.size:=by omega
    have af:¬g0=wo.heap.size:=by omega
    generalize hf:F (S k) (S q)=f at*;have HF:=zbp hf;clear hf;generalize au:S k=sK at*;generalize av:S q=sQ at*;have HK:=zbp au;have aw:=zbp av;clear au av;have t1:=(zeJ wr (b:=g0) (o:=k) (p:=wo.heap.size) (q:=q) (.int .i64 f) af).trans s1;have t2:=(zeJ wr (b:=g0) (o:=q) (p:=wo.heap.size) (q:=q) (.int .i64 f) af).trans s2;have t3:=(zeJ wr (b:=nb) (o:=1+sK*12+sQ) (p:=wo.heap.size) (q:=q) (.int .i64 f) ak).trans s3;go_wp2_with fail;go_region_held3 (λw'=>w'.cell? ⟨g0,k,none⟩=some (.int .i64 sK)/\w'.cell? ⟨g0,q,none⟩=some (.int .i64 sQ)/\w'.cell? ⟨nb,1+sK*12+sQ,none⟩=some (.int .i64 f)) (go_keep) (fail);clear t1 t2 t3 s1 s2 s3 s4 s5;go_wp2;go_roundw
    ·refine⟨q+1,by go_num,by omega,?_,?_⟩
     ·show World.ownsRow _ _ _ _ _ _ _;rw[<-zke ag];have e:F sK (S q)=f:=by rw[aw.out];exact HF.out
      rw[e];exact zcr ai.out rfl
     ·exact(aa.out.setCell (by exact yh _) _).drew
    case measure=>simp[intOf];omega
   ·have aD:q=n:=by omega
    subst aD;have r1:wr.cell? ⟨w.heap.size,k,none⟩=some (.slice none 0 0):=by rw[aa.out.cell (p:=⟨w.heap.size,k,none⟩) (by exact aE),HO.out.cellAt k (by omega)];exact zkT ah
    have ao:Hid (wr.ownsRow w.heap.size 40 1 (.slice (some ⟨w.heap.size,0,none⟩) q q) q (zbQ G q k)):=ze HO.out aa.out;have r2:=ao.out.frozenAt k;have ai:=zbp (ao.out.stored k (.slice (some ⟨wo.heap.size,0,none⟩) q q)).1;have hgz:=za5 HQ.out;go_wp2;go_roundw
    ·refine⟨k+1,λi=>if i=k then wo.heap.size else G i,by go_num,by omega,?_,?_,?_⟩
     ·show World.ownsRow _ _ _ _ _ _ _;rw[<-zjC ah];exact ai.out
     ·intro i hi;by_cases e:i=k
      ·subst e;obtain⟨_,cur,ay,az,aA⟩:=zgm HQ.out;refine⟨by simp;omega,⟨cur,?_,az,λj hj=>by rw[aA j hj];simp[zcX,hj]⟩,λi' aj=>?_⟩
       ·dsimp only;rw[yg rfl,yt _ _ _ _ (by show wo.heap.size≠w.heap.size;omega)];exact ay
       ·dsimp only;rw[yg rfl,ye (by omega)];obtain⟨_,⟨ci,h2,_⟩,_⟩:=HG.out i' aj;exact(yc.1 h2).1
      ·obtain⟨g1,⟨ci,g2,g3,g4⟩,g5⟩:=HG.out i (by omega);refine⟨by dsimp only;rw[ye e];exact g1,⟨ci,?_,g3,g4⟩,λi' aj=>by dsimp only;rw[ye e,ye (by omega)];exact g5 i' aj⟩;dsimp only;rw[ye e,yt _ _ _ _ (by show G i≠w.heap.size;omega),aa.out.block _ (yc.1 g2).1];exact g2
     ·exact(HB.out.trans (aa.out.mono ax)).setCell (by exact yh _) _
    case measure=>simp[intOf];omega
 have aB:k=n:=by omega
 subst aB;go_wp2;go_ret;refine⟨_,rfl,⟨w.heap.size,G,rfl,?_,λi hi=>?_,λi i' h1 h2=>(HG.out i' h2).2.2 i h1⟩,HB.out⟩
 ·have h:=HO.out;have e:zbQ G k k=(List.range k).map λi=>Value.slice (some ⟨G i,0,none⟩) k k:=by unfold zbQ;apply yad;intro i hi;rw[yg (by simpa using hi)]
  rw[e] at h;exact h
 obtain⟨g1,g2,_⟩:=HG.out i hi;exact⟨by omega,g2⟩
open Go.RowKit
def gF(v:Nat)(F:Nat->Nat->Int)(x y:Nat):Int:=if F x v≠-1/\F v y≠-1 then zbx (F x y) (F x v+F v y) else F x y
def zb4(v:Nat)(F:Nat->Nat->Int)(a b:Nat):Nat->Nat->Int:=λx y=>if x<a\/(x=a/\y<b) then gF v F x y else F x y
def zbS(N:Nat)(M:Int)(F:Nat->Nat->Int):Prop:=(∀x,x<N->F x x=0)/\∀x y,x<N->y<N->-1<=F x y/\F x y<=M
theorem zeW{x v:Int}(hx:x≠-1)(h:x<=v):zbx x v=x:=by unfold zbx;rw[if_neg (by omega)]
theorem zwj{N v x:Nat}{M:Int}{F:Nat->Nat->Int}(h:zbS N M F)(hv:v<N):gF v F x v=F x v:=by
 unfold gF;split
 ·rename_i e;rw[h.1 v hv];exact zeW e.1 (by omega)
 rfl
theorem zv5{N v y:Nat}{M:Int}{F:Nat->Nat->Int}(h:zbS N M F)(hv:v<N):gF v F v y=F v y:=by
 unfold gF;split
 ·rename_i e;rw[h.1 v hv];exact zeW e.2 (by omega)
 rfl
theorem znI{N v x a b:Nat}{M:Int}{F:Nat->Nat->Int}(h:zbS N M F)(hv:v<N):zb4 v F a b x v=F x v:=by
 unfold zb4;split
 ·exact zwj h hv
 rfl
theorem zn3{N v y a b:Nat}{M:Int}{F:Nat->Nat->Int}(h:zbS N M F)(hv:v<N):zb4 v F a b v y=F v y:=by
 unfold zb4;split
 ·exact zv5 h hv
 rfl
theorem zqA(v a b:Nat)(F:Nat->Nat->Int):zb4 v F a b a b=F a b:=by unfold zb4;rw[if_neg (by omega)]
theorem zmn{v a b:Nat}{F:Nat->Nat->Int}{u:Int}(hu:u=gF v F a b)(x y:Nat):upd (zb4 v F a b) a b u x y=zb4 v F a (b+1) x y:=by
 unfold upd zb4;by_cases e:x=a/\y=b
 ·rw[if_pos e,if_pos (by omega),e.1,e.2,hu]
 rw[if_neg e];by_cases h:x<a\/(x=a/\y<b)
 ·rw[if_pos h,if_pos (by omega)]
 rw[if_neg h,if_neg (by omega)]
theorem zlo{v a b:Nat}{F:Nat->Nat->Int}(hu:F a b=gF v F a b)(x y:Nat):zb4 v F a b x y=zb4 v F a (b+1) x y:=by
 rw[<-zmn hu];unfold upd;split
 ·rename_i e;rw[e.1,e.2,zqA]
 rfl
theorem zqx{v a b N:Nat}{F:Nat->Nat->Int}{u:Int}(hu:u=gF v F a b):∀x y,x<N->y<N->upd (zb4 v F a b) a b u x y=zb4 v F a (b+1) x y:=λx y _ _=>zmn hu x y
theorem zs0{N v x a b:Nat}{M:Int}{F:Nat->Nat->Int}(h:zbS N M F)(hv:v<N):some (Value.int .i64 (zb4 v F a b x v))=some (.int .i64 (F x v)):=by rw[znI h hv]
theorem zs5{N v y a b:Nat}{M:Int}{F:Nat->Nat->Int}(h:zbS N M F)(hv:v<N):some (Value.int .i64 (zb4 v F a b v y))=some (.int .i64 (F v y)):=by rw[zn3 h hv]
theorem zmS{v a N:Nat}{F:Nat->Nat->Int}{x y:Nat}(hy:y<N):zb4 v F a N x y=zb4 v F (a+1) 0 x y:=by
 unfold zb4;by_cases h:x<a\/(x=a/\y<N)
 ·rw[if_pos h,if_pos (by omega)]
 rw[if_neg h,if_neg (by omega)]
theorem zuP{v N:Nat}{F:Nat->Nat->Int}{x y:Nat}(hx:x<N):zb4 v F N 0 x y=gF v F x y:=by unfold zb4;rw[if_pos (by omega)]
theorem zrq{v:Nat}{F:Nat->Nat->Int}{x y:Nat}:zb4 v F 0 0 x y=F x y:=by unfold zb4;rw[if_neg (by omega)]
theorem zuG{N v:Nat}{M:Int}{F:Nat->Nat->Int}(h:zbS N M F)(hM:0<=M)(hv:v<N):zbS N (2*M) (gF v F):=by
 refine⟨λx hx=>?_,λx y hx hy=>?_⟩
 ·unfold gF;have h0:=h.1 x hx;split
  ·rename_i e;have a:=h.2 x v hx hv;have b:=h.2 v x hv hx;rw[h0];exact zeW (by omega) (by omega)
  exact h0
 have c:=h.2 x y hx hy;unfold gF;split
 ·rename_i e;have a:=h.2 x v hx hv;have b:=h.2 v y hv hy;unfold zbx;split<;>omega
 omega
def fwF(F:Nat->Nat->Int):Nat->Nat->Nat->Int
 | 0=>F
 | v+1=>gF v (fwF F v)
theorem zuT{N:Nat}{M:Int}{F:Nat->Nat->Int}(h:zbS N M F)(hM:0<=M):∀v,v<=N->zbS N (M*2^v) (fwF F v):=by
 intro v;induction v with
 | zero=>intro _;show zbS N (M*2^0) F;simpa using h
 | succ v ih=>
  intro hv;have:=zuG (ih (by omega)) (Int.mul_nonneg hM (Int.pow_nonneg (by decide))) (show v<N by omega);rw[Int.pow_succ];have e:M*(2^v*2)=2*(M*2^v):=by rw[<-Int.mul_assoc,Int.mul_comm]
  rw[e];exact this
theorem zc7{N:Nat}{F:Nat->Nat->Int}(h:zbS N 10000 F)(hN:N<=12){v:Nat}(hv:v<=N):zbS N 40960000 (fwF F v):=by
 have h1:=zuT h (by omega) v hv;refine⟨h1.1,λx y hx hy=>⟨(h1.2 x y hx hy).1,Int.le_trans (h1.2 x y hx hy).2 ?_⟩⟩;have:(2:Int)^v<=4096:=by
  have:v=0\/v=1\/v=2\/v=3\/v=4\/v=5\/v=6\/v=7\/v=8\/v=9\/v=10\/v=11\/v=12:=by omega
  rcases this with rfl|rfl|rfl|rfl|rfl|rfl|rfl|rfl|rfl|rfl|rfl|rfl|rfl<;>decide
 omega
theorem zuo(nb N:Nat)(F:Nat->Nat->Int)(w:World)(h:zbf w nb N F)(hL:zbS N 10000 F):Calls Tryz.prog 84 #[.pointer (some ⟨nb,0,none⟩)] w λe w'=>e=.returned (.tuple #[])/\zbf w' nb N (fwF F N)/\zbY nb w w':=by
 have hN:=h.2.2.1;have H:=zbp h;have HL:=zbp hL;clear h hL;go_in;go_wp2;go_loopw[2,3,4] (λi _ _ wr=>∃v:Nat,i=.int .i64 v/\v<=N/\Hid (zbf wr nb N (fwF F v))/\Hid (zbY nb w wr)) (λi _ _ _=>N-(intOf i).toNat)
 ·exact⟨0,rfl,by omega,H,zbY.refl _ _⟩
 clear H;obtain⟨v,rfl,hv,HI,HO⟩:=hrel;have c0:=HI.out.2.1;by_cases aa:v<N
 ·have ab:Hid (zbS N 40960000 (fwF F v)):=zc7 HL.out hN hv;have HE:Hid (fwF F (v+1)=gF v (fwF F v)):=rfl;generalize fwF F v=E at*;have hv12:v<12:=by omega
  go_wp2;go_loopw[3,4] (λi _ wr=>∃a:Nat,i=.int .i64 a/\a<=N/\Hid (zbf wr nb N (zb4 v E a 0))/\Hid (zbY nb w wr)) (λi _ _=>N-(intOf i).toNat)
  ·exact⟨0,rfl,by omega,zc6 HI.out (λx y _ _=>zrq.symm),HO⟩
  clear HI HO c0;obtain⟨a,rfl,ha,HI,HO⟩:=hrel;have c0:=HI.out.2.1;by_cases ae:a<N
  ·have ha12:a<12:=by omega
   go_wp2;go_loopw[4] (λi wr=>∃b:Nat,i=.int .i64 b/\b<=N/\Hid (zbf wr nb N (zb4 v E a b))/\Hid (zbY nb w wr)) (λi _=>N-(intOf i).toNat)
   ·exact⟨0,rfl,by omega,HI,HO⟩
   clear HI HO c0;obtain⟨b,rfl,hb,HI,HO⟩:=hrel;have c0:=HI.out.2.1;by_cases af:b<N
   ·have hb12:b<12:=by omega
    have c1:wr.cell? ⟨nb,1+a*12+v,none⟩=some (.int .i64 (E a v)):=by rw[HI.out.2.2.2 a v ae aa,znI ab.out aa]
    have c2:wr.cell? ⟨nb,1+v*12+b,none⟩=some (.int .i64 (E v b)):=by rw[HI.out.2.2.2 v b aa af,zn3 ab.out aa]
    have l1:=ab.out.2 a v ae aa;have l2:=ab.out.2 v b aa af;by_cases e1:E a v=-1
    ·have b1:(E a v != -1)=false:=by simp[e1]
     have HX:Hid (E a b=gF v E a b):=by show _=_;unfold gF;rw[if_neg (by omega)]
     clear e1 c2;go_wp2;go_roundw
     ·exact⟨b+1,by go_num,by omega,zc6 HI.out (λx y _ _=>zlo HX.out x y),HO⟩
     simp[intOf];omega
    have b1:(E a v != -1)=true:=by simp[e1]
    by_cases e2:E v b=-1
    ·have b2:(E v b != -1)=false:=by simp[e2]
     have HX:Hid (E a b=gF v E a b):=by show _=_;unfold gF;rw[if_neg (by omega)]
     clear e1 e2;go_wp2;go_roundw
     ·exact⟨b+1,by go_num,by omega,zc6 HI.out (λx y _ _=>zlo HX.out x y),HO⟩
     simp[intOf];omega
    have b2:(E v b != -1)=true:=by simp[e2]
    have HX:Hid (zbx (zb4 v E a b a b) (E a v+E v b)=gF v E a b):=by show _=_;rw[zqA];unfold gF;rw[if_pos ⟨e1,e2⟩]
    have ad:=λW hW=>zib nb N a b (zb4 v E a b) (E a v+E v b) W hW ae af;have HC:=zbp ad;clear ad e1 e2;go_wp2_with fail;have ia:(0:Int)<=(a:Int):=by omega
    have ib:(0:Int)<=(b:Int):=by omega
    have iv:(0:Int)<=(v:Int):=by omega
    have ja:(a:Int)<12:=by omega
    have jb:(b:Int)<12:=by omega
    have jv:(v:Int)<12:=by omega
    have hw:IntKind.i64.wrap (E a v+E v b)=E a v+E v b:=i64_in _ (by omega);go_region_held3 (λw'=>w'.cell? ⟨nb,1+a*12+v,none⟩=some (.int .i64 (E a v))/\w'.cell? ⟨nb,1+v*12+b,none⟩=some (.int .i64 (E v b))) (go_keep) (first
      | (go_at_call 83;refine(HC.out _ (by exact zhl HI.out rfl)).mono ?_;rintro e w2⟨rfl,ah,ai⟩;have ag:=zc6 ah (zqx HX.out);have k1:=(ag.2.2.2 a v ae aa).trans (zs0 ab.out aa);have k2:=(ag.2.2.2 v b aa af).trans (zs5 ab.out aa);have aj:=zbp ag;have ac:=zbp ai;clear ah ag ai));clear k1 k2 c1 c2 c0 hw;go_wp2;go_roundw
    ·exact⟨b+1,by go_num,by omega,aj,HO.out.trans ⟨ac.out.os,ac.out.tape,ac.out.output,ac.out.size,ac.out.block⟩⟩
    simp[intOf];omega
   go_wp2;go_roundw
   ·exact⟨a+1,by go_num,by omega,zc6 HI.out (λx y _ hy=>by rw[show b=N by omega];exact zmS hy),HO⟩
   simp[intOf];omega
  go_wp2;go_roundw
  ·exact⟨v+1,by go_num,by omega,zc6 HI.out (λx y hx _=>by rw[HE.out,show a=N by omega];exact zuP hx),HO⟩
  simp[intOf];omega
 have ak:v=N:=by omega
 subst ak;go_wp2;go_end0;exact⟨rfl,HI.out,HO.out⟩
def zjN(F:Nat->Nat->Int)(s:List Int):Nat->Nat->Int:=upd F (s.getD 0 0).toNat (s.getD 1 0).toNat (zbx (F (s.getD 0 0).toNat (s.getD 1 0).toNat) (s.getD 2 0))
def zaV(rs:List (List Int)):Nat->Nat->Int:=rs.foldl zjN zdt
def zfi(r:Rd):Nat->Nat->Int:=fwF (zaV r.roads) r.nodes.toNat
def zbd(r:Rd)(i:Nat):Nat:=((sites r).getD i 0).toNat
def zhn:Array Value:=Array.replicate 145 (.int .i64 0)
theorem ztq(W:World):(zeroValue 156).run Tryz.prog W=.ok (.agg zhn) W:=by kernel_rfl
theorem zuY:¬zhn=#[]:=by intro h;have:=yan Array.size h;simp[zhn] at this
theorem zuF{o:Nat}(h:o<145):zhn[o]?=some (.int .i64 0):=by simp[zhn,h]
theorem zvh{w:World}{N:Nat}(hN:N<=12){x:Int}(hx:x=N):zbf (w.alloc (.cells (zhn.setIfInBounds 0 (.int .i64 x)) 156)) w.heap.size N (λ_ _=>0):=by
 have hh:=yx w (.cells (zhn.setIfInBounds 0 (.int .i64 x)) 156);refine⟨⟨_,hh⟩,?_,hN,λa b ha hb=>?_⟩
 ·rw[yi _ _ 0 _ _ _ hh,hx];simp[zhn]
 rw[yi _ _ (1+a*12+b) _ _ _ hh,ybO,ye (by omega)];exact zuF (by omega)
theorem zhf(N:Nat):zbS N 10000 zdt:=by refine⟨λx _=>by simp[zdt],λx y _ _=>?_⟩;unfold zdt;split<;>omega
theorem zrp{N:Nat}{F:Nat->Nat->Int}{a b c:Int}(h:zbS N 10000 F)(ha:0<=a/\a<N)(hb:0<=b/\b<N)(hc:0<=c/\c<=10000):zbS N 10000 (zjN F [a,b,c]):=by
 have e:∀x y,zjN F [a,b,c] x y=if x=a.toNat/\y=b.toNat then zbx (F a.toNat b.toNat) c else F x y:=λx y=>rfl
 have hab:=h.2 a.toNat b.toNat (by omega) (by omega);refine⟨λx hx=>?_,λx y hx hy=>?_⟩
 ·rw[e];split
  ·rename_i q;have q1:=q.1;have q2:=q.2;have h0:=h.1 x hx;rw[<-q1,<-q2,h0];exact zeW (by omega) (by omega)
  exact h.1 x hx
 rw[e];split
 ·unfold zbx;split<;>omega
 exact h.2 x y hx hy
theorem zgV{N:Nat}(rs:List (List Int))(aa:∀s∈rs,∃a b c,s=[a,b,c]/\zaZ a b c (N:Int)=true):∀F,zbS N 10000 F->zbS N 10000 (rs.foldl zjN F):=by
 induction rs with
 | nil=>intro F h;exact h
 | cons s t ih=>intro F h;obtain⟨a,b,c,rfl,hk⟩:=aa s (by simp);have hk:=zfs.1 hk;exact ih (λs hs=>aa s (by simp[hs])) _ (zrp h ⟨by omega,by omega⟩ ⟨by omega,by omega⟩ ⟨by omega,by omega⟩)
theorem zir{rs:List (List Int)}{k:Nat}(h:k<rs.length):zaV (rs.take (k+1))=zjN (zaV (rs.take k)) rs[k]:=by unfold zaV;rw[yr h,yaX];rfl
theorem znf{r:Rd}(h:∀z∈sites r,0<=z):sites r=(List.range (r.stops.length+1)).map λi=>(zbd r i:Int):=by
 apply List.ext_getElem
 ·simp[zdJ]
 intro i h1 h2;simp only[List.getElem_map,List.getElem_range,zbd];rw[show (sites r).getD i 0=(sites r)[i] by simp[h1]];have:=h _ (ym h1);omega
theorem zi1{r:Rd}(h:zE r):∀z∈sites r,0<=z/\z<r.nodes:=by
 have hh:=zaH.1 h.head;intro z hz;simp only[sites,yG,yo] at hz;rcases hz with rfl|⟨s,hs,rfl⟩
 ·omega
 obtain⟨a,b,c,d,e,rfl,hk⟩:=h.stops s hs;have hk:=zjd.1 hk;simp;omega
theorem zeP{r:Rd}(h:zE r){N:Nat}(hN:r.nodes=N){i:Nat}(hi:i<r.stops.length+1):zbd r i<N:=by
 have hl:i<(sites r).length:=by rw[zdJ];exact hi
 have:=zi1 h _ (ym hl);unfold zbd;rw[show (sites r).getD i 0=(sites r)[i] by simp[hl]];omega
theorem ziD(B B':Nat)(r:Rd)(vs vr:Value)(w:World)(hn:zE r)(hs:w.ownsRow B 62 5 vs r.stops.length (zd r.stops.flatten))(hr:w.ownsRow B' 64 3 vr r.roads.length (zd r.roads.flatten)):Calls Tryz.prog 38 #[zap r vs vr] w λe w'=>∃v,e=.returned v/\zbj w' w.heap.size v (r.stops.length+1) (λi j=>zfi r (zbd r i) (zbd r j))/\Below w.heap.size w w':=by
 have hns:=hn.nstops;have hnr:=hn.nroads;have hhd:=zaH.1 hn.head;obtain⟨ao,ae,rfl,aD,aR⟩:=zg hs;obtain⟨ak,ab,rfl,aC,aQ⟩:=zg hr;have HS:=zB hs;have HR:=zB hr;have HN:=zB hn;have HAS:=zB aD;have aT:=zB aC;have HSN:=zB aR;have a0:=zB aQ;have aH:=λW hW=>zti B B' r (.slice ao r.stops.length ae) (.slice ak r.roads.length ab) W hn (ze hs hW) (ze hr hW);have aW:=zB aH;clear hs hr hn aD aR aC aQ aH;unfold zap at*;go_in;go_wp2_with fail;refine(aW.out _ (zj w _)).mono ?_;rintro e1 w1⟨rfl,aE⟩;obtain⟨aS,ad,af⟩:=zdF (w:=w) aE rfl rfl rfl rfl;have aA:=zB aS;have ac:=zB af;have d3:w1.cell? ⟨w.heap.size,3,none⟩=some (.int .i64 r.nodes):=af 3;clear aS aE af;have ba:=ztq;have a9:=zuY;obtain⟨N,hN⟩:∃N:Nat,r.nodes=N:=⟨r.nodes.toNat,by omega⟩
 have ap:N<=12:=by omega
 have ah:=zB hN;clear hN;go_wp2_with fail;refine(zqw _ N _ _ (zvh ap ah.out)).mono ?_;rintro e2 w2⟨rfl,aJ,aM⟩;have aw:Hid (Below w1.heap.size w1 w2):=(zj w1 _).trans (aM.below (yh _));have ay:=zB aJ;clear aJ aM d3 ba a9;go_wp2_with fail;go_loopw[5] (λi wr=>∃k:Nat,i=.int .i64 k/\k<=r.roads.length/\Hid (zbf wr w1.heap.size N (zaV (r.roads.take k)))/\Hid (Below w1.heap.size w1 wr)) (λi _=>r.roads.length-(intOf i).toNat)
 ·exact⟨0,rfl,by omega,ay,aw⟩
 clear ay aw;obtain⟨k,rfl,hk,HI,HB⟩:=hrel;have aG:=HB.out.size;have d6:wr.cell? ⟨w.heap.size,6,none⟩=some (.slice ak r.roads.length ab):=zc HB.out (ac.out 6) ad;have a7:=zmo HI.out;by_cases ar:k<r.roads.length
 ·obtain⟨g,rfl,a5⟩:=zjP aT.out a0.out (by omega);obtain⟨a,b,c,aB,aP⟩:=HN.out.roads _ (ym ar);have ag:=zfs.1 aP;have ai:∀j z,j<3->r.roads[k][j]?=some z->wr.cell? ⟨g,k*3+j,none⟩=some (.int .i64 z):=by intro j z hj hz;rw[HB.out.cell (p:=⟨g,k*3+j,none⟩) (by show g<_;omega),aA.out.cell (by exact a5),HR.out.cellAt (k*3+j) (by omega)];exact zek (λs hs=>(HN.out.nice.roads s hs).1) ar hj hz
  have HT:=zir ar;rw[aB] at ai HT;obtain⟨an,rfl⟩:=ybw ag.1.1;obtain⟨bn,rfl⟩:=ybw ag.1.2.2.1;have a8:=ah.out;have a3:an<N:=by omega
  have a4:bn<N:=by omega
  have x0:wr.cell? ⟨g,k*3,none⟩=some (.int .i64 an):=ai 0 an (by omega) rfl;have x1:wr.cell? ⟨g,k*3+1,none⟩=some (.int .i64 bn):=ai 1 bn (by omega) rfl;have x2:wr.cell? ⟨g,k*3+2,none⟩=some (.int .i64 c):=ai 2 c (by omega) rfl;have a2:=zB HT;clear ai aB aP ag HT a8;have hgw:g<wr.heap.size:=by omega
  go_wp2_with fail;refine(zib w1.heap.size N an bn (zaV (r.roads.take k)) c _ (zhl HI.out (yT _ _ _ a7)) a3 a4).mono ?_;rintro e3 w3⟨rfl,aK,aN⟩;have aY:Hid (zbf w3 w1.heap.size N (zaV (r.roads.take (k+1)))):=by show zbf _ _ _ _;rw[a2.out];exact aK
  have aU:Hid (Below w1.heap.size w1 w3):=(HB.out.alloc aG _).trans (aN.below (yh _));clear aK aN x0 x1 x2 d6;go_wp2;go_roundw
  ·exact⟨k+1,by go_num,by omega,aY,aU⟩
  simp[intOf];omega
 have a6:k=r.roads.length:=by omega
 subst a6;have ax:Hid (zbf wr w1.heap.size N (zaV r.roads)):=by have:=HI.out;rw[ya0] at this;exact this
 have al:Hid (zbS N 10000 (zaV r.roads)):=zgV r.roads (by rw[<-ah.out];exact HN.out.roads) _ (zhf N);go_wp2_with fail;refine(zuo w1.heap.size N (zaV r.roads) _ ax.out al.out).mono ?_;rintro e4 w4⟨rfl,aL,aO⟩;have aa:Hid (Below w1.heap.size w1 w4):=HB.out.trans (aO.below (yh _));have az:=zB aL;have hb4:=aa.out.size;have f0:w4.cell? ⟨w.heap.size,0,none⟩=some (.int .i64 r.vans):=zc aa.out (ac.out 0) ad;have f1:w4.cell? ⟨w.heap.size,1,none⟩=some (.int .i64 r.load):=zc aa.out (ac.out 1) ad;have f2:w4.cell? ⟨w.heap.size,2,none⟩=some (.int .i64 r.close):=zc aa.out (ac.out 2) ad;have f3:w4.cell? ⟨w.heap.size,3,none⟩=some (.int .i64 r.nodes):=zc aa.out (ac.out 3) ad;have f4:w4.cell? ⟨w.heap.size,4,none⟩=some (.int .i64 r.home):=zc aa.out (ac.out 4) ad;have f5:w4.cell? ⟨w.heap.size,5,none⟩=some (.slice ao r.stops.length ae):=zc aa.out (ac.out 5) ad;have f6:w4.cell? ⟨w.heap.size,6,none⟩=some (.slice ak r.roads.length ab):=zc aa.out (ac.out 6) ad;have aj:Hid (Below w.heap.size w w4):=aA.out.trans (aa.out.mono (by omega));clear aL aO HI HB aG d6 ax;go_wp2_with fail;refine(zlc B B' r (.slice ao r.stops.length ae) (.slice ak r.roads.length ab) w4 HN.out.nice (ze HS.out aj.out) (ze HR.out aj.out)).mono ?_;rintro e5 w5⟨v5,rfl,au,aq⟩;obtain⟨g5,c5,cur5,rfl,_,_,_⟩:=zF au (by omega);have av:=au;rw[znf (λz hz=>(zi1 HN.out z hz).1)] at av;have a1:=zB av;have aZ:Hid (zbf w5 w1.heap.size N (fwF (zaV r.roads) N)):=zhl az.out (aq.block _ (zmo az.out));have am:Hid (Below w.heap.size w w5):=aj.out.trans (aq.mono aj.out.size);clear au aq av f0 f1 f2 f3 f4 f5 f6;go_wp2_with fail;refine(zq5 w1.heap.size N (r.stops.length+1) g5 c5 _ (fwF (zaV r.roads) N) (zbd r) w5 aZ.out (by omega) (by omega) (λi hi=>zeP HN.out ah.out hi) a1.out).mono ?_;rintro e6 w6⟨v6,rfl,aI,aF⟩;have aX:=zB aI;have aV:=zB aF;obtain⟨g7,_,rfl,_⟩:=aI;clear aF;go_wp2;go_ret;refine⟨_,rfl,?_,am.out.trans (aV.out.mono am.out.size)⟩;have e:zfi r=fwF (zaV r.roads) N:=by unfold zfi;rw[ah.out];rfl
 rw[e];exact aX.out.base am.out.size
end Go.Proofs.YtebinaopncclgabGreatDoor
