import Derived.Laws.BitsLemmas
import Derived.StillTailTactics
import Derived.Test.YtebinaopncclgabGreatDoorKLong
import Derived.Test.YtebinaopncclgabGreatDoorFTold
set_option maxRecDepth 100000
set_option maxHeartbeats 8000000
namespace Go.Proofs.YtebinaopncclgabGreatDoor
open Go.RowKit Go.IntWalk
def zhG(w:World)(ao:Option Addr)(n:Nat)(ra:Nat->Option Addr)(rn rc:Nat->Nat)(Q:Nat->Nat->Int):Prop:=0<n->∃b o,ao=some ⟨b,o,none⟩/\b<w.heap.size/\∀i,i<n->w.cell? ⟨b,o+i,none⟩=some (.slice (ra i) (rn i) (rc i))/\rn i<=9223372036854775807/\(0<rn i->∃b' o',ra i=some ⟨b',o',none⟩/\b'<w.heap.size/\∀j,j<rn i->w.cell? ⟨b',o'+j,none⟩=some (.int .i64 (Q i j))/\-9223372036854775808<=Q i j/\Q i j<=9223372036854775807)
theorem zhG.below{w w':World}{ao:Option Addr}{n:Nat}{ra:Nat->Option Addr}{rn rc:Nat->Nat}{Q:Nat->Nat->Int}(h:zhG w ao n ra rn rc Q)(hb:Below w.heap.size w w'):zhG w' ao n ra rn rc Q:=λhn=>by obtain⟨b,o,h1,h2,h3⟩:=h hn;refine⟨b,o,h1,ya h2 hb.size,λi hi=>?_⟩;obtain⟨k1,k2,k3⟩:=h3 i hi;refine⟨zc hb k1 h2,k2,λhr=>?_⟩;obtain⟨b',o',m1,m2,m3⟩:=k3 hr;exact⟨b',o',m1,ya m2 hb.size,λj hj=>⟨zc hb (m3 j hj).1 m2,(m3 j hj).2⟩⟩
def zs9(w:World)(v:Value)(n:Nat)(f:Nat->Int):Prop:=∃ao c,v=.slice ao n c/\∀j,j<n->∃b o,ao=some ⟨b,o,none⟩/\b<w.heap.size/\w.cell? ⟨b,o+j,none⟩=some (.int .i64 (f j))
theorem zs9.below{w w':World}{v:Value}{n:Nat}{f:Nat->Int}(h:zs9 w v n f)(hb:Below w.heap.size w w'):zs9 w' v n f:=by obtain⟨ao,c,h1,h2⟩:=h;refine⟨ao,c,h1,λj hj=>?_⟩;obtain⟨b,o,k1,k2,k3⟩:=h2 j hj;exact⟨b,o,k1,ya k2 hb.size,zc hb k3 k2⟩
def SqI(w:World)(v:Value)(n:Nat)(Q:Nat->Nat->Int):Prop:=∃ao c,v=.slice ao n c/\n<=10/\∀i,i<n->∃b o b' o' ci,ao=some ⟨b,o,none⟩/\b<w.heap.size/\w.cell? ⟨b,o+i,none⟩=some (.slice (some ⟨b',o',none⟩) n ci)/\b'<w.heap.size/\∀j,j<n->w.cell? ⟨b',o'+j,none⟩=some (.int .i64 (Q i j))
theorem SqI.below{w w':World}{v:Value}{n:Nat}{Q:Nat->Nat->Int}(h:SqI w v n Q)(hb:Below w.heap.size w w'):SqI w' v n Q:=by obtain⟨ao,c,h1,h2,h3⟩:=h;refine⟨ao,c,h1,h2,λi hi=>?_⟩;obtain⟨b,o,b',o',ci,k1,k2,k3,k4,k5⟩:=h3 i hi;exact⟨b,o,b',o',ci,k1,ya k2 hb.size,zc hb k3 k2,ya k4 hb.size,λj hj=>zc hb (k5 j hj) k4⟩
theorem zhG.sq{w:World}{ao:Option Addr}{n c:Nat}{ra:Nat->Option Addr}{rn rc:Nat->Nat}{Q:Nat->Nat->Int}(h:zhG w ao n ra rn rc Q)(hn:n<=10)(hr:∀i,i<n->rn i=n):SqI w (.slice ao n c) n Q:=by refine⟨ao,c,rfl,hn,λi hi=>?_⟩;obtain⟨b,o,h1,h2,h3⟩:=h (by omega);obtain⟨k1,_,k3⟩:=h3 i hi;obtain⟨b',o',m1,m2,m3⟩:=k3 (by rw[hr i hi];omega);rw[hr i hi] at k1 m3;rw[m1] at k1;exact⟨b,o,b',o',rc i,h1,h2,k1,m2,λj hj=>(m3 j hj).1⟩
theorem zvc(s q:Nat)(hs:s<2^62):bits .and .i64 ((s:Int)/2^q) 1=if s.testBit q=true then 1 else 0:=by
 have hk:∀n:Int,0<=n->n<2^62->IntKind.i64.wrap n=n:=λn h1 h2=>by rw[yb1];omega
 have e:((s:Int)/2^q)=((s/2^q:Nat):Int):=by simp
 have aa:s/2^q<2^62:=ya2 (Nat.div_le_self _ _) hs;have h:=(bits_nat .i64 62 (by decide) hk (s/2^q) 1 aa (by decide)).1;rw[e];rw[show ((1:Int))=((1:Nat):Int) from rfl,h,Nat.and_one_is_mod];have h2:s.testBit q=decide (s/2^q%2=1):=by rw[Nat.testBit_eq_decide_div_mod_eq]
 rw[h2];by_cases hb:s/2^q%2=1
 ·rw[yg (by simpa using hb),hb]
 rw[ye (by simpa using hb),show s/2^q%2=0 by omega];rfl
theorem zvQ(s q:Nat)(hs:s<2^62)(hq:q<62):bits .or .i64 (s:Int) (wrap64 (2^q))=(zg2 s q:Int):=by
 have hk:∀n:Int,0<=n->n<2^62->IntKind.i64.wrap n=n:=λn h1 h2=>by rw[yb1];omega
 have hp:2^q<2^62:=Nat.pow_lt_pow_right (by omega) hq;have e:wrap64 ((2:Int)^q)=((2^q:Nat):Int):=by
  have e1:((2:Int)^q)=((2^q:Nat):Int):=by simp
  rw[e1];obtain⟨m,hm⟩:∃m,m=2^q:=⟨_,rfl⟩
  rw[<-hm] at hp⊢;exact wrap64_in _ (by omega)
 rw[e];exact(bits_nat .i64 62 (by decide) hk s (2^q) hs hp).2
def zdY(w:World)(g n:Nat)(f:Nat->Int):Prop:=∃cs,w.heap[g]?=some (.cells cs 3 (0,0))/\n<=cs.size/\∀i,i<n->cs[i]?=some (.int .i64 (f i))
theorem zdY.lt{w:World}{g n:Nat}{f:Nat->Int}(h:zdY w g n f):g<w.heap.size:=by obtain⟨cs,hc,_⟩:=h;exact(yc.1 hc).1
theorem zdY.cell{w:World}{g n i:Nat}{f:Nat->Int}(h:zdY w g n f)(hi:i<n):w.cell? ⟨g,i,none⟩=some (.int .i64 (f i)):=by obtain⟨cs,hc,_,hf⟩:=h;rw[yi _ _ _ _ _ _ hc];exact hf i hi
theorem zdY.frozen{w:World}{g n:Nat}{f:Nat->Int}(h:zdY w g n f)(k:Nat):w.frozen? ⟨g,k,none⟩=false:=by obtain⟨cs,hc,_⟩:=h;exact yv w g k _ _ hc
theorem zdY.block{w w':World}{g n:Nat}{f:Nat->Int}(h:zdY w g n f)(hb:w'.heap[g]?=w.heap[g]?):zdY w' g n f:=by obtain⟨cs,hc,h2⟩:=h;exact⟨cs,hb.trans hc,h2⟩
theorem zdY.put{w:World}{g n k:Nat}{f:Nat->Int}(h:zdY w g n f)(hk:k<n)(x:Int):zdY (w.setCell ⟨g,k,none⟩ (.int .i64 x)) g n (up1 f k x):=by
 have h0:=h.cell hk;obtain⟨cs,hc,hs,hf⟩:=id h;have hb:=yw w g k cs 3 (.int .i64 x) hc;refine⟨_,hb,by simpa using hs,λi hi=>?_⟩;have h1:=zw hc h0 (.int .i64 x) (h.cell hi);rw[yi _ _ _ _ _ _ hb] at h1;rw[h1];unfold up1;by_cases e:i=k
 ·rw[yg e,yg e]
 rw[ye e,ye e]
def zbF(gc:Nat)(w w':World):Prop:=w.heap.size<=w'.heap.size/\∀k,k<w.heap.size->k≠gc->w'.heap[k]?=w.heap[k]?
theorem zbF.refl(gc:Nat)(w:World):zbF gc w w:=⟨yh _,λ_ _ _=>rfl⟩
theorem zbF.trans{gc:Nat}{a b c:World}(h:zbF gc a b)(k:zbF gc b c):zbF gc a c:=⟨yP h.1 k.1,λi hi hn=>(k.2 i (ya hi h.1) hn).trans (h.2 i hi hn)⟩
theorem zbF.of{gc:Nat}{a b:World}(h:Below a.heap.size a b):zbF gc a b:=⟨h.size,λi hi _=>h.block i hi⟩
theorem zbF.set(gc:Nat)(w:World)(i:Nat)(v:Value):zbF gc w (w.setCell ⟨gc,i,none⟩ v):=⟨by simp[World.setCell],λk _ hn=>yt _ _ _ _ (by exact hn)⟩
theorem zce.but{w w':World}{g gc:Nat}{zs:List Int}(h:zce w g zs)(hb:zbF gc w w')(hn:g≠gc):zce w' g zs:=⟨ya h.1 hb.1,λj hj=>(yaz (w:=w) (hb.2 g h.1 hn)).trans (h.2 j hj)⟩
structure zdn (wb w:World) (p gc cap:Nat) (r:Rd) (vs vr vw:Value) (T:Nat->Int):Prop where
 base:Below wb.heap.size wb w
 lt:p<w.heap.size
 ne:p≠gc
 hi:wb.heap.size<=gc
 c0:w.cell? ⟨p,0,none⟩=some (.int .i64 r.vans)
 c1:w.cell? ⟨p,1,none⟩=some (.int .i64 r.load)
 c2:w.cell? ⟨p,2,none⟩=some (.int .i64 r.close)
 c3:w.cell? ⟨p,3,none⟩=some (.int .i64 r.nodes)
 c4:w.cell? ⟨p,4,none⟩=some (.int .i64 r.home)
 c5:w.cell? ⟨p,5,none⟩=some vs
 c6:w.cell? ⟨p,6,none⟩=some vr
 c7:w.cell? ⟨p,7,none⟩=some vw
 c8:w.cell? ⟨p,8,none⟩=some (.slice (some ⟨gc,0,none⟩) (2^r.stops.length) cap)
 tab:zdY w gc (2^r.stops.length) T
theorem zdn.still{wb w w':World}{p gc cap:Nat}{r:Rd}{vs vr vw:Value}{T:Nat->Int}(h:zdn wb w p gc cap r vs vr vw T)(hb:Below w.heap.size w w'):zdn wb w' p gc cap r vs vr vw T:=by have hc:∀i,w'.cell? ⟨p,i,none⟩=w.cell? ⟨p,i,none⟩:=λi=>hb.cell (by exact h.lt);exact⟨h.base.trans (hb.mono h.base.size),ya h.lt hb.size,h.ne,h.hi,(hc _).trans h.c0,(hc _).trans h.c1,(hc _).trans h.c2,(hc _).trans h.c3,(hc _).trans h.c4,(hc _).trans h.c5,(hc _).trans h.c6,(hc _).trans h.c7,(hc _).trans h.c8,h.tab.block (hb.block gc h.tab.lt)⟩
theorem zdn.put{wb w:World}{p gc cap:Nat}{r:Rd}{vs vr vw:Value}{T:Nat->Int}(h:zdn wb w p gc cap r vs vr vw T){k:Nat}(hk:k<2^r.stops.length)(x:Int):zdn wb (w.setCell ⟨gc,k,none⟩ (.int .i64 x)) p gc cap r vs vr vw (up1 T k x):=by have hc:∀i,(w.setCell ⟨gc,k,none⟩ (.int .i64 x)).cell? ⟨p,i,none⟩=w.cell? ⟨p,i,none⟩:=λi=>yaz (w:=w) (yt _ _ _ _ (by exact h.ne));exact⟨h.base.setCell (by exact h.hi) _,ya h.lt (by simp[World.setCell]),h.ne,h.hi,(hc _).trans h.c0,(hc _).trans h.c1,(hc _).trans h.c2,(hc _).trans h.c3,(hc _).trans h.c4,(hc _).trans h.c5,(hc _).trans h.c6,(hc _).trans h.c7,(hc _).trans h.c8,h.tab.put hk x⟩
def zli(wb:World)(p gc cap:Nat)(r:Rd)(vs vr vw:Value)(ρ:List Nat)(T:Nat->Int)(w:World)(e:Ending)(w':World):Prop:=e=.returned (.tuple #[])/\∃T',zci (zb r (za r)) ρ (λ_=>True) T T'/\zdn wb w' p gc cap r vs vr vw T'/\zbF gc w w'
theorem zwm(ρ:List Nat)(k:Nat):zL (0::ρ)++[(k:Int)]=zL (0::(ρ++[k])):=by simp[zL]
theorem zvW(l:List Nat):(zL l).map Int.toNat=l:=by unfold zL;rw[yah];exact(yad λa _=>yam a).trans (ycc _)
theorem zuv{n:Nat}{l:List Nat}(h:∀s∈l,s<=n):∀x∈zL l,0<=x/\x<(n:Int)+1:=λx hx=>by obtain⟨s,hs,rfl⟩:=yo.1 hx;have:=h s hs;omega
theorem ziJ{n:Nat}{l:List Nat}(hr:∀s∈l,1<=s/\s<=n)(hn:l.Nodup):l.length<=n:=by have:=zuc n (l.map λs=>s-1) (by rw[List.Nodup,ya6];exact yba (λha hb h=>by have:=hr _ ha;have:=hr _ hb;omega) hn) (λx hx=>by obtain⟨s,hs,rfl⟩:=yo.1 hx;have:=hr s hs;omega);simpa using this
open Classical in
theorem zuR(wb:World)(p gc cap:Nat)(r:Rd)(vs vr vw:Value)(aG:zE r)(hs:StR wb vs r)(hq:SqR wb vw (r.stops.length+1) (za r))(aR:∃ao n c,vr=.slice ao n c):∀(m:Nat)(ρ:List Nat)(T:Nat->Int)(w:World)(g c:Nat),r.stops.length-ρ.length<m->(∀s∈ρ,1<=s/\s<=r.stops.length)->ρ.Nodup->zce w g (zL (0::ρ))->g≠gc->zdn wb w p gc cap r vs vr vw T ->Calls Tryz.prog 191 #[.pointer (some ⟨p,0,none⟩),.slice (some ⟨g,0,none⟩) (ρ.length+1) c,.int .i64 (zS ρ)] w (zli wb p gc cap r vs vr vw ρ T w):=by
 intro m;induction m with
 | zero=>intro ρ T w g c h;exact absurd h (Nat.not_lt_zero _)
 | succ m IH=>
  intro ρ T w g c hm hr aK hz hgc hK;have hns:=aG.nstops;have hfew:=ziJ hr aK;have HI:=hid (zeS aG (λa b h1 h2=>(zaB aG a b h1 h2).1));have aB:Hid (∀(W:World)(k:Nat),zce W g (zL (0::ρ))->Calls Tryz.prog 217 #[.slice (some ⟨g,0,none⟩) (ρ.length+1) c,.int .i64 k] W λe w'=>∃g',e=.returned (.slice (some ⟨g',0,none⟩) (ρ.length+2) (ρ.length+2))/\W.heap.size<=g'/\zce w' g' (zL (0::(ρ++[k])))/\Below W.heap.size W w'):=λW k hz=>by have h:=znD g c (zL (0::ρ)) k W (by rw[zaJ];simp;omega) hz;rw[zaJ,zwm] at h;exact h
  have aA:Hid (∀(W:World)(k g' c':Nat),k<=r.stops.length->Below wb.heap.size wb W->zce W g' (zL (0::(ρ++[k])))->Calls Tryz.prog 218 #[.agg (zi r vs vr vw),.slice (some ⟨g',0,none⟩) (ρ.length+2) c'] W λe w'=>e=.returned (.bool (decide (GoQ (zb r (za r)) (0::(ρ++[k])))))/\Below W.heap.size W w'):=λW k g' c' hk hW hz=>by
   have h:=zsC r vs vr vw g' c' (zL (0::(ρ++[k]))) W aG (hs.below hW) (hq.below hW) (by rw[zaJ];simp;omega) (by rw[zaJ];simp) hz.1 hz.2 (zuv λs hs=>by
    rcases yG.1 hs with e|e
    ·omega
    rcases yH.1 e with e|e
    ·exact(hr s e).2
    simp at e;omega) aR
   rw[zvW,zaJ] at h;simpa using h
  have aY:Hid (∀(W:World)(g' c':Nat),Below wb.heap.size wb W->zce W g' (zL (0::(ρ++[0])))->Calls Tryz.prog 109 #[.agg (zi r vs vr vw),.slice (some ⟨g',0,none⟩) (ρ.length+2) c'] W λe w'=>(∃x,e=.returned (.int .i64 x)/\(GoQ (zb r (za r)) (0::(ρ++[0]))->x=zck (zb r (za r)) ρ))/\Below W.heap.size W w'):=λW g' c' hW hz=>by
   obtain⟨a2,c2,aS,_⟩:=id hs;have h:=ze1 r (za r) (zL (0::(ρ++[0]))) vs vr vw g' c' W (hq.below hW) (zaB aG) hz.1 hz.2 (by rw[zaJ];simp;omega) (zuv λs hs=>by
    rcases yG.1 hs with e|e
    ·omega
    rcases yH.1 e with e|e
    ·exact(hr s e).2
    simp at e;omega) ⟨_,_,_,aS⟩ aR
   have e2:(zL (0::(ρ++[0]))).length=ρ.length+2:=by rw[zaJ];simp
   rw[e2] at h;refine h.mono ?_;rintro e w'⟨he,hb⟩;refine⟨⟨_,he,λhg=>?_⟩,hb⟩;unfold zbo;have hw:=(zjH (za r) (0::(ρ++[0]))).2 hg.way;rw[yg hw,zaJ,zvY];show _=zc2 _ (zbv ρ);rw[zcc];rfl
  have aN:Hid (∀(W:World)(T1:Nat->Int)(k g' c':Nat),1<=k->k<=r.stops.length->(zS ρ).testBit (k-1)=false->zce W g' (zL (0::(ρ++[k])))->g'≠gc->zdn wb W p gc cap r vs vr vw T1->Calls Tryz.prog 191 #[.pointer (some ⟨p,0,none⟩),.slice (some ⟨g',0,none⟩) (ρ.length+2) c',.int .i64 (zg2 (zS ρ) (k-1))] W (zli wb p gc cap r vs vr vw (ρ++[k]) T1 W)):=λW T1 k g' c' h1 h2 hb hz hg hK=>by
   have bc:k∉ρ:=λhk=>by have:=(zdI (λs hs=>(hr s hs).1) (k-1)).2 (by rw[show k-1+1=k by omega];exact hk);rw[hb] at this;cases this
   have a8:∀s∈ρ++[k],1<=s/\s<=r.stops.length:=λs hs=>by
    rcases yH.1 hs with e|e
    ·exact hr s e
    simp at e;omega
   have a7:(ρ++[k]).Nodup:=ya7.2 ⟨aK,by simp,λa ha b hb e=>by simp at hb;subst hb;subst e;exact bc ha⟩;have hl:=ziJ a8 a7;have h:=IH (ρ++[k]) T1 W g' c' (by simp at hl⊢;omega) a8 a7 hz hg hK;rw[zhz] at h;simpa using h
  have aO:Hid (∀(T1:Nat->Int)(k:Nat),zci (zb r (za r)) ρ (zdm k) T T1->(zS ρ).testBit (k-1)=true->1<=k->zci (zb r (za r)) ρ (zdm (k+1)) T T1):=λT1 k h hb h1=>znS h λt ht=>by have hk:=(zdI (λs hs=>(hr s hs).1) (k-1)).1 hb;rw[show k-1+1=k by omega] at hk;have:=ht.one;exact(ya7.1 this).2.2 k hk k (by simp) rfl
  have aP:Hid (∀(T1:Nat->Int)(k:Nat),zci (zb r (za r)) ρ (zdm k) T T1->¬GoQ (zb r (za r)) (0::(ρ++[k]))->zci (zb r (za r)) ρ (zdm (k+1)) T T1):=λT1 k h hg=>znS h λt ht=>hg (zvI HI.out ht);have aW:Hid (GoQ (zb r (za r)) (0::(ρ++[0]))↔RtQ (zb r (za r)) ρ):=zu2 HI.out hr aK;have aQ:zS ρ<2^r.stops.length:=zu6 hr;have hP2:2^r.stops.length<=128:=yP (yaU (by omega) (show r.stops.length<=7 by omega)) (by decide);have aV:Hid (zS ρ=0↔ρ=[]):=zlP λs hs=>(hr s hs).1;have aL:Hid (∀q,bits .and .i64 ((zS ρ:Int)/2^q) 1=if (zS ρ).testBit q=true then 1 else 0):=λq=>zvc _ q (by omega);have aM:Hid (∀q,q<62->bits .or .i64 (zS ρ:Int) (wrap64 (2^q))=(zg2 (zS ρ) q:Int)):=λq hq=>zvQ _ q (by omega) hq;have HAL:Hid (∀q,q<r.stops.length->zg2 (zS ρ) q<2^r.stops.length):=λq hq=>zqI aQ hq;have HZ:=hid hz;have HK:=hid hK;obtain⟨a2,c2,aS,_⟩:=hs;obtain⟨a3,c3,bf,_⟩:=hq;obtain⟨a1,n1,c1,be⟩:=aR;subst aS bf be;generalize hS:zS ρ=S at*;generalize hX:2^r.stops.length=X at*;have bb:=hid hS;have HX:=hid hX;clear IH hz hK hr aK aG hS hX;by_cases aF:ρ=[]
  ·have a4:S=0:=aV.out.2 aF;have av:Hid (zci (zb r (za r)) ρ (zdm 1) T T):=znH (.inl aF);have au:=HK;have ar:=hid (zbF.refl gc w);have g0:decide ((0:Int)<(S:Int))=false:=by simp;omega
   have g1:decide (0<S)=false:=by simp;omega
   clear aF a4;go_in;go_wp2_with fail;go_loopw[9] (λi wr=>∃(q:Nat)(T1:Nat->Int),i=.int .i64 ((q:Int)+1)/\q<=r.stops.length/\Hid (zci (zb r (za r)) ρ (zdm (q+1)) T T1)/\Hid (zdn wb wr p gc cap r (.slice a2 r.stops.length c2) (.slice a1 n1 c1) (.slice a3 (r.stops.length+1) c3) T1)/\Hid (zbF gc w wr)) (λi _=>r.stops.length+1-(intOf i).toNat)
   ·exact⟨0,_,rfl,yu _,av,au,ar⟩
   clear av au ar;obtain⟨q,T1,rfl,hq,HO,HK,HB⟩:=hrel;have aD:=HK.out.lt;have k0:=HK.out.c0;have k1:=HK.out.c1;have k2:=HK.out.c2;have k3:=HK.out.c3;have k4:=HK.out.c4;have k5:=HK.out.c5;have k6:=HK.out.c6;have k7:=HK.out.c7;by_cases a6:q<r.stops.length
   ·have dq:decide ((q:Int)+1<=(r.stops.length:Int))=true:=by simp;omega
    have ax:=aL.out q;have aw:=hid (HZ.out.but HB.out hgc);cases hbit:S.testBit q with
    | true=>
     rw[yg hbit] at ax;have aH:=hid (aO.out T1 (q+1) HO.out hbit (by omega));clear hbit;go_wp2_with fail;go_roundw
     ·exact⟨q+1,T1,by go_num,by omega,aH,HK,HB⟩
     simp[intOf];omega
    | false=>
     rw[ye (by rw[hbit];simp)] at ax;have al:=hid hbit;clear hbit;go_wp2_with fail;refine(aB.out _ (q+1) aw.out).mono ?_;rintro e2 w2⟨g2,rfl,aC,ap,af⟩;have aa:=hid (HK.out.still af);have ak:Hid (zbF gc w w2):=HB.out.trans (.of af);have ae:=hid ap;have ai:g2≠gc:=λe=>by have:=HK.out.tab.lt;omega
     have aE:=aa.out.lt;have m0:=aa.out.c0;have m1:=aa.out.c1;have m2:=aa.out.c2;have m3:=aa.out.c3;have m4:=aa.out.c4;have m5:=aa.out.c5;have m6:=aa.out.c6;have m7:=aa.out.c7;clear af ap aC aB k0 k1 k2 k3 k4 k5 k6 k7 HK HB aD aw;go_wp2_with fail;refine(aA.out _ (q+1) g2 _ (by omega) aa.out.base ae.out).mono ?_;rintro e3 w3⟨rfl,ad⟩;have ac:=hid (aa.out.still ad);have ag:Hid (zbF gc w w3):=ak.out.trans (.of ad);have an:=hid (ae.out.below ad);clear ad aA m0 m1 m2 m3 m4 m5 m6 m7 aa ak aE ae;by_cases ab:GoQ (zb r (za r)) (0::(ρ++[q+1]))
     ·have dg:decide (GoQ (zb r (za r)) (0::(ρ++[q+1])))=true:=by simpa using ab
      have a5:=aM.out q (by omega);clear ab;go_wp2_with fail;refine(aN.out _ T1 (q+1) g2 _ (by omega) (by omega) al.out an.out ai ac.out).mono ?_;rintro e4 w4⟨rfl,T4,az,ay,aj⟩;have am:=hid (zpC HO.out az);have ah:=hid ay;have aq:Hid (zbF gc w w4):=ag.out.trans aj;clear az ay aj ac ag an HO;go_wp2_with fail;go_roundw
      ·exact⟨q+1,T4,by go_num,by omega,am,ah,aq⟩
      simp[intOf];omega
     have dg:decide (GoQ (zb r (za r)) (0::(ρ++[q+1])))=false:=by simpa using ab
     have am:=hid (aP.out T1 (q+1) HO.out ab);clear ab;go_wp2_with fail;go_roundw
     ·exact⟨q+1,T1,by go_num,by omega,am,ac,ag⟩
     simp[intOf];omega
   have dq:decide ((q:Int)+1<=(r.stops.length:Int))=false:=by simp;omega
   have aI:Hid (zci (zb r (za r)) ρ (λ_=>True) T T1):=by have h:=HO.out;rw[show q=(zb r (za r)).n from yb8 hq (by show r.stops.length<=q;omega)] at h;exact zmq h
   clear HO;go_wp2_with fail;refine ya8 (v:=.tuple #[]) (by simp[results,Tryz.results191,go_sem]) rfl ?_;exact⟨rfl,T1,aI.out,HK.out,HB.out⟩
  have a4:0<S:=by
   rcases yaS S with e|e
   ·exact absurd (aV.out.1 e) aF
   exact e
  have g0:decide ((0:Int)<(S:Int))=true:=by simp;omega
  have g1:decide (0<S)=true:=by simp;omega
  have ba:=hid aF;have aD:=HK.out.lt;clear aF;go_in;go_wp2_with fail;refine(aB.out _ 0 HZ.out).mono ?_;rintro e2 w2⟨g2,rfl,aC,ap,af⟩;have aa:=hid (HK.out.still af);have ak:Hid (zbF gc w w2):=.of af;have ae:=hid ap;have ai:g2≠gc:=λe=>by have:=HK.out.tab.lt;omega
  have aE:=aa.out.lt;have m0:=aa.out.c0;have m1:=aa.out.c1;have m2:=aa.out.c2;have m3:=aa.out.c3;have m4:=aa.out.c4;have m5:=aa.out.c5;have m6:=aa.out.c6;have m7:=aa.out.c7;clear af ap aC HK aD;go_wp2_with fail;refine(aA.out _ 0 g2 _ (by omega) aa.out.base ae.out).mono ?_;rintro e3 w3⟨rfl,ad⟩;have ac:=hid (aa.out.still ad);have ag:Hid (zbF gc w w3):=ak.out.trans (.of ad);have an:=hid (ae.out.below ad);clear ad m0 m1 m2 m3 m4 m5 m6 m7 aa ak aE ae;have bd:=ac.out.lt;have m0:=ac.out.c0;have m1:=ac.out.c1;have m2:=ac.out.c2;have m3:=ac.out.c3;have m4:=ac.out.c4;have m5:=ac.out.c5;have m6:=ac.out.c6;have m7:=ac.out.c7;go_wp2_with fail;refine(aY.out _ g2 _ ac.out.base an.out).mono ?_;rintro e4 w4⟨⟨x,rfl,aT⟩,aj⟩;have ah:=hid (ac.out.still aj);have aq:Hid (zbF gc w w4):=ag.out.trans (.of aj);clear aj m0 m1 m2 m3 m4 m5 m6 m7 ac ag bd an aY;by_cases ab:GoQ (zb r (za r)) (0::(ρ++[0]))
  ·have dg:decide (GoQ (zb r (za r)) (0::(ρ++[0])))=true:=by simpa using ab
   have a0:=hid (aT ab);have aZ:Hid (zci (zb r (za r)) ρ (zdm 1) T (up1 T S (zaN (T S) x))):=by have h:=zui (T:=T) HI.out ba.out (aW.out.1 ab);rw[bb.out,<-a0.out] at h;exact h
   have c8:=ah.out.c8;rw[HX.out] at c8;have aJ:=ah.out.tab;rw[HX.out] at aJ;have b0:=aJ.cell aQ;have hgl:=aJ.lt;have ht4:=ah.out.lt;have fz:=aJ.frozen S;have js:(S:Int)<(X:Int):=by omega
   have is:(0:Int)<=(S:Int):=by omega
   have a9:=hid (λW=>zdy (T S) x W);have au:Hid (zdn wb (w4.setCell ⟨gc,S,none⟩ (.int .i64 (zaN (T S) x))) p gc cap r (.slice a2 r.stops.length c2) (.slice a1 n1 c1) (.slice a3 (r.stops.length+1) c3) (up1 T S (zaN (T S) x))):=ah.out.put (by rw[HX.out];exact aQ) _;have ar:Hid (zbF gc w (w4.setCell ⟨gc,S,none⟩ (.int .i64 (zaN (T S) x)))):=aq.out.trans (zbF.set gc w4 S _);have av:=aZ;generalize T S=ts at*;generalize zaN ts x=y at*;clear ab aT aJ a0 ah aq aZ;go_wp2_with fail;have aX:=hid (au.out.still (yk _ _).drew);have aU:Hid (zbF gc w (w4.setCell ⟨gc,S,none⟩ (.int .i64 y)).drew):=⟨ar.out.1,ar.out.2⟩
   clear au ar;refine wp_region_still_tail 15 (by kernel_rfl) (by kernel_rfl) ?_;change wpStill _ _ (World.drew _) _ _ _;simp only[List.take_succ_cons,ybP,List.drop_succ_cons,List.drop_zero]
   repeat still_step
   still_call (a9.out _)
   repeat still_step
   refine wpStill_nil ?_;go_wp2_with fail;go_loopw[9] (λi wr=>∃(q:Nat)(T1:Nat->Int),i=.int .i64 ((q:Int)+1)/\q<=r.stops.length/\Hid (zci (zb r (za r)) ρ (zdm (q+1)) T T1)/\Hid (zdn wb wr p gc cap r (.slice a2 r.stops.length c2) (.slice a1 n1 c1) (.slice a3 (r.stops.length+1) c3) T1)/\Hid (zbF gc w wr)) (λi _=>r.stops.length+1-(intOf i).toNat)
   ·exact⟨0,_,rfl,yu _,av,aX,aU⟩
   clear av aX aU;obtain⟨q,T1,rfl,hq,HO,HK,HB⟩:=hrel;have aD:=HK.out.lt;have k0:=HK.out.c0;have k1:=HK.out.c1;have k2:=HK.out.c2;have k3:=HK.out.c3;have k4:=HK.out.c4;have k5:=HK.out.c5;have k6:=HK.out.c6;have k7:=HK.out.c7;by_cases a6:q<r.stops.length
   ·have dq:decide ((q:Int)+1<=(r.stops.length:Int))=true:=by simp;omega
    have ax:=aL.out q;have aw:=hid (HZ.out.but HB.out hgc);cases hbit:S.testBit q with
    | true=>
     rw[yg hbit] at ax;have aH:=hid (aO.out T1 (q+1) HO.out hbit (by omega));clear hbit;go_wp2_with fail;go_roundw
     ·exact⟨q+1,T1,by go_num,by omega,aH,HK,HB⟩
     simp[intOf];omega
    | false=>
     rw[ye (by rw[hbit];simp)] at ax;have al:=hid hbit;clear hbit;go_wp2_with fail;refine(aB.out _ (q+1) aw.out).mono ?_;rintro e2 w2⟨g2,rfl,aC,ap,af⟩;have aa:=hid (HK.out.still af);have ak:Hid (zbF gc w w2):=HB.out.trans (.of af);have ae:=hid ap;have ai:g2≠gc:=λe=>by have:=HK.out.tab.lt;omega
     have aE:=aa.out.lt;have m0:=aa.out.c0;have m1:=aa.out.c1;have m2:=aa.out.c2;have m3:=aa.out.c3;have m4:=aa.out.c4;have m5:=aa.out.c5;have m6:=aa.out.c6;have m7:=aa.out.c7;clear af ap aC aB k0 k1 k2 k3 k4 k5 k6 k7 HK HB aD aw;go_wp2_with fail;refine(aA.out _ (q+1) g2 _ (by omega) aa.out.base ae.out).mono ?_;rintro e3 w3⟨rfl,ad⟩;have ac:=hid (aa.out.still ad);have ag:Hid (zbF gc w w3):=ak.out.trans (.of ad);have an:=hid (ae.out.below ad);clear ad aA m0 m1 m2 m3 m4 m5 m6 m7 aa ak aE ae;by_cases ab:GoQ (zb r (za r)) (0::(ρ++[q+1]))
     ·have dg:decide (GoQ (zb r (za r)) (0::(ρ++[q+1])))=true:=by simpa using ab
      have a5:=aM.out q (by omega);clear ab;go_wp2_with fail;refine(aN.out _ T1 (q+1) g2 _ (by omega) (by omega) al.out an.out ai ac.out).mono ?_;rintro e4 w4⟨rfl,T4,az,ay,aj⟩;have am:=hid (zpC HO.out az);have ah:=hid ay;have aq:Hid (zbF gc w w4):=ag.out.trans aj;clear az ay aj ac ag an HO;go_wp2_with fail;go_roundw
      ·exact⟨q+1,T4,by go_num,by omega,am,ah,aq⟩
      simp[intOf];omega
     have dg:decide (GoQ (zb r (za r)) (0::(ρ++[q+1])))=false:=by simpa using ab
     have am:=hid (aP.out T1 (q+1) HO.out ab);clear ab;go_wp2_with fail;go_roundw
     ·exact⟨q+1,T1,by go_num,by omega,am,ac,ag⟩
     simp[intOf];omega
   have dq:decide ((q:Int)+1<=(r.stops.length:Int))=false:=by simp;omega
   have aI:Hid (zci (zb r (za r)) ρ (λ_=>True) T T1):=by have h:=HO.out;rw[show q=(zb r (za r)).n from yb8 hq (by show r.stops.length<=q;omega)] at h;exact zmq h
   clear HO;go_wp2_with fail;refine ya8 (v:=.tuple #[]) (by simp[results,Tryz.results191,go_sem]) rfl ?_;exact⟨rfl,T1,aI.out,HK.out,HB.out⟩
  have dg:decide (GoQ (zb r (za r)) (0::(ρ++[0])))=false:=by simpa using ab
  have av:Hid (zci (zb r (za r)) ρ (zdm 1) T T):=znH (.inr λh=>ab (aW.out.2 h));have au:=ah;have ar:=aq;clear ab aT ah aq;go_wp2_with fail;go_loopw[9] (λi wr=>∃(q:Nat)(T1:Nat->Int),i=.int .i64 ((q:Int)+1)/\q<=r.stops.length/\Hid (zci (zb r (za r)) ρ (zdm (q+1)) T T1)/\Hid (zdn wb wr p gc cap r (.slice a2 r.stops.length c2) (.slice a1 n1 c1) (.slice a3 (r.stops.length+1) c3) T1)/\Hid (zbF gc w wr)) (λi _=>r.stops.length+1-(intOf i).toNat)
  ·exact⟨0,_,rfl,yu _,av,au,ar⟩
  clear av au ar;obtain⟨q,T1,rfl,hq,HO,HK,HB⟩:=hrel;have aD:=HK.out.lt;have k0:=HK.out.c0;have k1:=HK.out.c1;have k2:=HK.out.c2;have k3:=HK.out.c3;have k4:=HK.out.c4;have k5:=HK.out.c5;have k6:=HK.out.c6;have k7:=HK.out.c7;by_cases a6:q<r.stops.length
  ·have dq:decide ((q:Int)+1<=(r.stops.length:Int))=true:=by simp;omega
   have ax:=aL.out q;have aw:=hid (HZ.out.but HB.out hgc);cases hbit:S.testBit q with
   | true=>
    rw[yg hbit] at ax;have aH:=hid (aO.out T1 (q+1) HO.out hbit (by omega));clear hbit;go_wp2_with fail;go_roundw
    ·exact⟨q+1,T1,by go_num,by omega,aH,HK,HB⟩
    simp[intOf];omega
   | false=>
    rw[ye (by rw[hbit];simp)] at ax;have al:=hid hbit;clear hbit;go_wp2_with fail;refine(aB.out _ (q+1) aw.out).mono ?_;rintro e2 w2⟨g2,rfl,aC,ap,af⟩;have aa:=hid (HK.out.still af);have ak:Hid (zbF gc w w2):=HB.out.trans (.of af);have ae:=hid ap;have ai:g2≠gc:=λe=>by have:=HK.out.tab.lt;omega
    have aE:=aa.out.lt;have m0:=aa.out.c0;have m1:=aa.out.c1;have m2:=aa.out.c2;have m3:=aa.out.c3;have m4:=aa.out.c4;have m5:=aa.out.c5;have m6:=aa.out.c6;have m7:=aa.out.c7;clear af ap aC aB k0 k1 k2 k3 k4 k5 k6 k7 HK HB aD aw;go_wp2_with fail;refine(aA.out _ (q+1) g2 _ (by omega) aa.out.base ae.out).mono ?_;rintro e3 w3⟨rfl,ad⟩;have ac:=hid (aa.out.still ad);have ag:Hid (zbF gc w w3):=ak.out.trans (.of ad);have an:=hid (ae.out.below ad);clear ad aA m0 m1 m2 m3 m4 m5 m6 m7 aa ak aE ae;by_cases ab:GoQ (zb r (za r)) (0::(ρ++[q+1]))
    ·have dg:decide (GoQ (zb r (za r)) (0::(ρ++[q+1])))=true:=by simpa using ab
     have a5:=aM.out q (by omega);clear ab;go_wp2_with fail;refine(aN.out _ T1 (q+1) g2 _ (by omega) (by omega) al.out an.out ai ac.out).mono ?_;rintro e4 w4⟨rfl,T4,az,ay,aj⟩;have am:=hid (zpC HO.out az);have ah:=hid ay;have aq:Hid (zbF gc w w4):=ag.out.trans aj;clear az ay aj ac ag an HO;go_wp2_with fail;go_roundw
     ·exact⟨q+1,T4,by go_num,by omega,am,ah,aq⟩
     simp[intOf];omega
    have dg:decide (GoQ (zb r (za r)) (0::(ρ++[q+1])))=false:=by simpa using ab
    have am:=hid (aP.out T1 (q+1) HO.out ab);clear ab;go_wp2_with fail;go_roundw
    ·exact⟨q+1,T1,by go_num,by omega,am,ac,ag⟩
    simp[intOf];omega
  have dq:decide ((q:Int)+1<=(r.stops.length:Int))=false:=by simp;omega
  have aI:Hid (zci (zb r (za r)) ρ (λ_=>True) T T1):=by have h:=HO.out;rw[show q=(zb r (za r)).n from yb8 hq (by show r.stops.length<=q;omega)] at h;exact zmq h
  clear HO;go_wp2_with fail;refine ya8 (v:=.tuple #[]) (by simp[results,Tryz.results191,go_sem]) rfl ?_;exact⟨rfl,T1,aI.out,HK.out,HB.out⟩
def zkj(r:Rd)(vs vr vw:Value)(w:World)(e:Ending)(w':World):Prop:=∃p gc cap T,e=.returned (.pointer (some ⟨p,0,none⟩))/\zdn w w' p gc cap r vs vr vw T/\zjX (zb r (za r)) T
theorem zsD(r:Rd)(vs vr vw:Value)(w:World)(ai:zE r)(hs:StR w vs r)(hq:SqR w vw (r.stops.length+1) (za r))(ay:∃ao n c,vr=.slice ao n c):Calls Tryz.prog 129 #[.agg (zi r vs vr vw)] w (zkj r vs vr vw w):=by
 obtain⟨i0,hi,aN,aO,aP⟩:=info_parts Tryz.infoInt;have hns:=ai.nstops;have aD:=hid (zuR w (w.heap.size+1) · · r vs vr vw ai hs hq ay);obtain⟨W,hW⟩:∃W,W=w.alloc (.cells (zi r vs vr vw) 109):=⟨_,rfl⟩
 obtain⟨ar,hbox,k0,k1,k2,k3,k4,k5,k6,k7⟩:=za1 hW;have HBW:=hid ar;have HWQ:=hid hW;obtain⟨N,hN⟩:∃N:Nat,N=2^r.stops.length:=⟨_,rfl⟩
 have hN1:1<=N/\N<=1024:=by rw[hN];exact⟨yb9 _,yP (yaU (by omega) (show r.stops.length<=10 by omega)) (by decide)⟩
 have hw:wrap64 (2^r.stops.length)=(N:Int):=by
  have e:((2:Int)^r.stops.length)=(N:Int):=by rw[hN];simp
  rw[e];exact wrap64_in _ (by omega)
 have HN:=hid hN;obtain⟨a1,n1,c1,rfl⟩:=ay;obtain⟨a2,c2,rfl,_⟩:=hq;obtain⟨a3,c3,rfl,_⟩:=hs;clear ar ai hN;have am:Hid (∀(W':World)(gc cap:Nat)(T:Nat->Int),Below w.heap.size w W'->W'.heap[w.heap.size+1]?=some (.cells #[.int .i64 r.vans,.int .i64 r.load,.int .i64 r.close,.int .i64 r.nodes,.int .i64 r.home,.slice a3 r.stops.length c3,.slice a1 n1 c1,.slice a2 (r.stops.length+1) c2,.slice (some ⟨gc,0,none⟩) N cap] 256 (0,0))->w.heap.size+2<=gc->zdY W' gc N T->zdn w W' (w.heap.size+1) gc cap r (.slice a3 r.stops.length c3) (.slice a1 n1 c1) (.slice a2 (r.stops.length+1) c2) T):=λW' gc cap T hb hp hg ht=>by have hc:=λi=>yi W' (w.heap.size+1) i _ _ _ hp;rw[HN.out] at hc ht;exact⟨hb,(yc.1 hp).1,by omega,by omega,hc 0,hc 1,hc 2,hc 3,hc 4,hc 5,hc 6,hc 7,hc 8,ht⟩
 unfold zi at*;go_in;go_wp2_with fail;go_loopw[5] (λi wr=>∃(k:Nat)(v:Value),i=.int .i64 k/\k<=N/\Hid (wr.heap[w.heap.size+1]?=some (.cells #[.int .i64 r.vans,.int .i64 r.load,.int .i64 r.close,.int .i64 r.nodes,.int .i64 r.home,.slice a3 r.stops.length c3,.slice a1 n1 c1,.slice a2 (r.stops.length+1) c2,v] 256 (0,0)))/\Hid (wr.ownsRow (w.heap.size+2) 3 1 v k (zd (List.replicate k (-1))))/\Hid (Below w.heap.size w wr)) (λi _=>N-(intOf i).toNat)
 ·exact⟨0,.slice none 0 0,rfl,yu _,(by show ((w.alloc _).heap.push _)[w.heap.size+1]?=_;rw[yU,yg (by simp)]),yC _ _ _ _,zaa _ _ _⟩
 obtain⟨k,v,rfl,hk,HP,HO,HB⟩:=hrel;obtain⟨al,cl,rfl,_,_⟩:=zg HO.out;have hbs:=HB.out.size;have aL:=(yc.1 HP.out).1;have q8:wr.cell? ⟨w.heap.size+1,8,none⟩=some (.slice al k cl):=yi wr _ 8 _ _ _ HP.out;clear k0 k1 k2 k3 k4 k5 k6 k7;by_cases hlt:k<N
 ·have HT:Hid (List.replicate (k+1) (-1:Int)=List.replicate k (-1)++[-1]):=by show _=_;rw[ybI]
  go_wp2_with(at_builtin;refine yy _ rfl _ _ 40 rfl (w.heap.size+2) 3 i0 (.int .i64 0) 1 8 Tryz.underlying40 hi aN aO aP rfl (by decide) _ _ _ rfl (HO.out.alloc _) ⟨wr.heap.size,0,none⟩ 1 1 [.int .i64 (-1)] rfl rfl ?c1 ?c2 ?c3 ?c4 ?c5 ?_)
  case c1=>exact cell_one_new _ _ _
  case c2=>intro u hu;simp at hu;subst hu;rfl
  case c3=>unfold maxLen;omega
  case c4=>omega
  case c5=>simp;omega
  intro v' w2 ab aa _;have aq:w2.heap[w.heap.size+1]?=wr.heap[w.heap.size+1]?:=(aa.block _ (by simp;omega) (λe=>by have:=(HO.out.lt _ e.symm).1;omega)).trans (yT _ _ _ aL);have af:Hid _:=aq.trans HP.out;have q82:w2.cell? ⟨w.heap.size+1,8,none⟩=some (.slice al k cl):=yi w2 _ 8 _ _ _ af.out;have fz2:w2.frozen? ⟨w.heap.size+1,8,none⟩=false:=yv w2 _ 8 _ _ af.out;have hpl2:=(yc.1 af.out).1;have an:=hid ab;have aA:Hid (Below w.heap.size w w2):=(HB.out.alloc (by omega) _).grown aa (by simp;omega) (λq hq=>by have:=(HO.out.lt q hq).1;omega);clear ab aa aq;obtain⟨g5,ac,cur5,aM,_,_,_⟩:=zF an.out (by omega);subst aM;have aE:Hid ((w2.setCell ⟨w.heap.size+1,8,none⟩ (.slice (some ⟨g5,0,none⟩) (k+1) ac)).heap[w.heap.size+1]?=_):=yw w2 _ 8 _ _ (.slice (some ⟨g5,0,none⟩) (k+1) ac) af.out;go_wp2;go_roundw
  ·refine⟨k+1,.slice (some ⟨g5,0,none⟩) (k+1) ac,by go_num,by omega,aE,?_,aA.out.setCell (by show w.heap.size<=w.heap.size+1;omega) _⟩;show World.ownsRow _ _ _ _ _ _ _;rw[HT.out,zaY];exact ownsRow_setCell_below an.out (by show w.heap.size+1<w.heap.size+2;omega) _
  simp[intOf];omega
 have aK:k=N:=by omega
 subst aK;obtain⟨g,cap,cur,hv,aH,aI,hcap⟩:=zF HO.out (by omega);cases hv;obtain⟨_,ah,au,aG,av⟩:=zgm HO.out;have ae:Hid (zdY wr g k (λ_=>-1)):=⟨ah,au,by omega,λi hi=>by rw[av i hi];unfold zd;simp[hi]⟩
 have ap:Hid (zdY (wr.setCell ⟨g,0,none⟩ (.int .i64 0)) g k (λs=>if s=0 then 0 else -1)):=by have h:=ae.out.put (k:=0) (by omega) 0;exact h
 have ak:Hid (Below w.heap.size w (wr.setCell ⟨g,0,none⟩ (.int .i64 0))):=HB.out.setCell (by show w.heap.size<=g;omega) _;have ag:=hid (am.out _ g cl _ ak.out ((yt _ _ _ _ (by show w.heap.size+1≠g;omega)).trans HP.out) aH ap.out);have hgl:=ae.out.lt;have c0:=ae.out.cell (i:=0) (by omega);have fz:=ae.out.frozen 0;have hkp:(0:Int)<(k:Int):=by omega
 clear au aG av aI HO HB am ae ap;obtain⟨w1,aj⟩:∃w1,w1=wr.setCell ⟨g,0,none⟩ (.int .i64 0):=⟨_,rfl⟩
 have ad:w1.heap.size=wr.heap.size:=by rw[aj];simp[World.setCell]
 rw[<-aj] at ag ak;have az:Hid (Below w1.heap.size w1 (w1.alloc (.cells #[.int .i64 0] 3))):=zj _ _;have aB:Hid (Calls Tryz.prog 191 #[.pointer (some ⟨w.heap.size+1,0,none⟩),.slice (some ⟨wr.heap.size,0,none⟩) 1 1,.int .i64 0] (w1.alloc (.cells #[.int .i64 0] 3)) (zli w (w.heap.size+1) g cl r (.slice a3 r.stops.length c3) (.slice a1 n1 c1) (.slice a2 (r.stops.length+1) c2) [] (λs=>if s=0 then 0 else -1) (w1.alloc (.cells #[.int .i64 0] 3)))):=
  aD.out g cl (r.stops.length+1) [] _ _ wr.heap.size 1 (by simp) (λs h=>by cases h) ybQ ⟨by rw[<-ad];simp,λj hj=>by
   have aJ:j=0:=by simp[zL] at hj;omega
   subst aJ;rw[<-ad];exact yi _ _ 0 _ _ _ (yx w1 _)⟩ (by rw[<-ad];have:=ag.out.tab.lt;omega) (ag.out.still az.out);go_wp2_with fail;rw[<-aj];refine aB.out.mono ?_;rintro e3 w3⟨rfl,T3,ax,aw,_⟩;have aF:=hid (zsB ax);have aC:=hid aw;clear ax aw;go_wp2_with fail;go_ret;exact⟨_,_,_,T3,rfl,aC.out,aF.out⟩
theorem zru(p:Nat):∀s q,q&&&s=q->p&&&s=p->q<p->q<=(p-1)&&&s:=by
 induction p using Nat.strongRecOn with
 | ind p ih=>
  intro s q hq hp hlt;have ac:q/2&&&s/2=q/2:=by rw[<-yca,hq]
  have aa:p/2&&&s/2=p/2:=by rw[<-yca,hp]
  have hqb:q%2<=s%2:=by have h:=ybD (a:=q) (b:=s);rw[hq] at h;omega
  have hpb:p%2<=s%2:=by have h:=ybD (a:=p) (b:=s);rw[hp] at h;omega
  have hd:((p-1)&&&s)/2=(p-1)/2&&&s/2:=yca;have hm:=ybD (a:=p-1) (b:=s);by_cases h1:p%2=1
  ·have e:(p-1)/2=p/2:=by omega
   rw[e,aa] at hd;omega
  have e:(p-1)/2=p/2-1:=by omega
  rw[e] at hd;have:=ih (p/2) (by omega) (s/2) (q/2) ac aa (by omega);have ab:(p-1)%2=1:=by omega
  have hs:s%2=0\/s%2=1:=by omega
  rcases hs with hs|hs
  ·omega
  have:=hm.2 ⟨ab,hs⟩;omega
theorem zrj{p s:Nat}(hp:p&&&s=p):zlh s p ((p-1)&&&s):=λq hq aa=>zru p s q hq hp aa
theorem ztZ(p s:Nat):((p-1)&&&s)&&&s=(p-1)&&&s:=by rw[Nat.and_assoc,Nat.and_self]
theorem zql{p s:Nat}(h:0<p):(p-1)&&&s<p:=ya2 Nat.and_le_left (by omega)
theorem zlR(a b:Nat)(ha:a<2^62)(hb:b<2^62):bits .and .i64 (a:Int) (b:Int)=((a&&&b:Nat):Int):=by
 have hk:∀n:Int,0<=n->n<2^62->IntKind.i64.wrap n=n:=λn h1 h2=>by rw[yb1];omega
 exact(bits_nat .i64 62 (by decide) hk a b ha hb).1
def zwE(s:Nat):Bool:=(List.range 7).any λj=>decide (bits .and .i64 (s:Int) (-(s:Int))=((2^j:Nat):Int))&&s.testBit j
theorem zuK:(List.range 128).all (λs=>s==0||zwE s)=true:=by decide +kernel
theorem zvF{s:Nat}(h0:0<s)(h:s<128):∃j,j<7/\bits .and .i64 (s:Int) (-(s:Int))=((2^j:Nat):Int)/\s.testBit j=true:=by
 have h1:=yF.1 zuK s (yaT.2 h);rw[yb5] at h1;rcases h1 with h1|h1
 ·have:s=0:=by simpa using h1
  omega
 obtain⟨j,hj,hh⟩:=y9.1 h1;rw[yA,yq] at hh;exact⟨j,yaT.1 hj,hh.1,hh.2⟩
theorem zuN:(List.range 128).all (λs=>(List.range 128).all λp=>!(p&&&s==p)||decide (bits .andNot .i64 (s:Int) (p:Int)=((s^^^p:Nat):Int)))=true:=by decide +kernel
theorem zuO{s p:Nat}(hs:s<128)(hp:p<128)(h:p&&&s=p):bits .andNot .i64 (s:Int) (p:Int)=((s^^^p:Nat):Int):=by
 have h1:=yF.1 (yF.1 zuN s (yaT.2 hs)) p (yaT.2 hp);rw[yb5,yq] at h1;rcases h1 with h1|h1
 ·rw[h] at h1;simp at h1
 exact h1
theorem zuV(p j:Nat):p&&&2^j=if p.testBit j=true then 2^j else 0:=by
 apply ybJ;intro i;rw[yb6,Nat.testBit_two_pow];by_cases e:j=i
 ·subst e;cases h:p.testBit j<;>simp
 cases h:p.testBit j<;>simp[e]
theorem zuW(p j:Nat)(hp:p<2^62)(hj:j<62):bits .and .i64 (p:Int) ((2^j:Nat):Int)=if p.testBit j=true then ((2^j:Nat):Int) else 0:=by rw[zlR p (2^j) hp (Nat.pow_lt_pow_right (by omega) hj),zuV];cases p.testBit j<;>simp
theorem zuS{D:Nat->Nat->Int}{M:Int}:∀A:List (Nat×Nat),(∀p∈A,D p.1 p.2<=M)->zc2 D A<=A.length*M:=by
 intro A;induction A with
 | nil=>intro _;simp[zc2]
 | cons a A ih=>
  intro h;have h1:=ih λp hp=>h p (by simp[hp]);have h2:=h a (by simp);show ((a::A).map λp=>D p.1 p.2).sum<=_;rw[yE,yZ,yJ];have h3:zc2 D A=(A.map λp=>D p.1 p.2).sum:=rfl;have h4:((A.length+1:Nat):Int)*M=A.length*M+M:=by rw[Int.natCast_succ,Int.add_mul,Int.one_mul]
  rw[h4];omega
theorem zud(ρ:List Nat):(zbv ρ).length=ρ.length+1:=by have h:((zbv ρ).map (·.1)).length=(zbv ρ).length:=yN _;rw[zgQ] at h;simpa using h.symm
theorem zsU{I:Ins}(hn:I.n<=7)(hD:∀a b,a<=I.n->b<=I.n->I.D a b<=40960000){ρ:List Nat}(h:RtQ I ρ):zck I ρ<=327680000:=by
 have h1:=ziJ h.rng h.one;have h2:=zuS (D:=I.D) (M:=40960000) (zbv ρ) λp hp=>by
  have ha:p.1∈(zbv ρ).map (·.1):=yo.2 ⟨p,hp,rfl⟩;have hb:p.2∈(zbv ρ).map (·.2):=yo.2 ⟨p,hp,rfl⟩;rw[zgQ] at ha;rw[ziH] at hb;refine hD _ _ ?_ ?_
  ·rcases yG.1 ha with e|e
   ·omega
   exact(h.rng _ e).2
  rcases yH.1 hb with e|e
  ·exact(h.rng _ e).2
  simp at e;omega
 rw[zud] at h2;show zc2 I.D (zbv ρ)<=_;omega
theorem zwo{I:Ins}(hn:I.n<=7)(hD:∀a b,a<=I.n->b<=I.n->I.D a b<=40960000){s v:Nat}{R:List (List Nat)}(h:zeT I s v R):zR I R<=v*327680000:=by
 have aa:∀R:List (List Nat),(∀ρ∈R,RtQ I ρ)->(R.map (zck I)).sum<=R.length*327680000:=by
  intro R;induction R with
  | nil=>intro _;simp
  | cons ρ R ih=>intro h;have h1:=ih λx hx=>h x (by simp[hx]);have h2:=zsU hn hD (h ρ (by simp));rw[yE,yZ,yJ];omega
 have h1:=aa R λρ hρ=>(h.ok ρ hρ).2;have h2:=h.few;rw[zgF];omega
def zkt(I:Ins)(s v:Nat)(w:World)(e:Ending)(w':World):Prop:=∃c,e=.returned (.int .i64 c)/\zfm I s v c/\w'=w
theorem zoP(wb:World)(p gc cap:Nat)(r:Rd)(vs vr vw:Value)(T:Nat->Int)(af:zE r)(hT:zjX (zb r (za r)) T):∀(v s:Nat)(w:World),v<=1000->s<2^r.stops.length->zdn wb w p gc cap r vs vr vw T ->Calls Tryz.prog 130 #[.pointer (some ⟨p,0,none⟩),.int .i64 s,.int .i64 v] w (zkt (zb r (za r)) s v w):=by
 have ay:=af.nstops;have HI:=hid (zeS af (λa b h1 h2=>(zaB af a b h1 h2).1));have ah:=hid hT;have ar:Hid (∀a b,a<=(zb r (za r)).n->b<=(zb r (za r)).n->(zb r (za r)).D a b<=40960000):=λa b h1 h2=>(zaB af a b (ybA h1) (ybA h2)).2;have au:Hid ((zb r (za r)).n<=7):=ay;have hP2:2^r.stops.length<=128:=yP (yaU (by omega) ay) (by decide);clear af hT;intro v;induction v with
 | zero=>
  intro s w _ hs hK;by_cases h0:s=0
  ·subst h0;have HC:=hid (zlV (I:=zb r (za r)) (v:=0));go_in;go_wp2_with fail;go_ret;exact⟨0,rfl,HC.out,rfl⟩
  have HC:=hid (ztB (I:=zb r (za r)) h0);have b0:((s:Int)==0)=false:=by simp;omega
  have b1:(s==0)=false:=by simp;omega
  clear h0;go_in;go_wp2_with fail;go_ret;exact⟨-1,rfl,HC.out,rfl⟩
 | succ v IH=>
  intro s w hv hs hK;by_cases h0:s=0
  ·subst h0;have HC:=hid (zlV (I:=zb r (za r)) (v:=v+1));clear IH;go_in;go_wp2_with fail;go_ret;exact⟨0,rfl,HC.out,rfl⟩
  have b0:((s:Int)==0)=false:=by simp;omega
  have b1:(s==0)=false:=by simp;omega
  have c0:(((v:Int)+1)==0)=false:=by simp;omega
  have aH:0<s:=by omega
  obtain⟨j,hj,ao,ae⟩:=zvF aH (by omega);have aq:Hid (∀q:Nat,q<128->bits .and .i64 (q:Int) ((2^j:Nat):Int)=if q.testBit j=true then ((2^j:Nat):Int) else 0):=λq hq=>zuW q j (by omega) (by omega);obtain⟨lw,aj⟩:∃lw:Nat,lw=2^j:=⟨_,rfl⟩
  have hlp:0<lw:=by rw[aj];exact yb9 j
  have hll:lw<128:=by rw[aj];exact ya2 (yaU (by omega) (show j<=6 by omega)) (by decide)
  rw[<-aj] at ao aq;have al:=hid ae;have HK:=hid hK;have aD:Hid (∀(W:World)(q:Nat),q&&&s=q->zdn wb W p gc cap r vs vr vw T->Calls Tryz.prog 130 #[.pointer (some ⟨p,0,none⟩),.int .i64 ((s^^^q:Nat):Int),.int .i64 v] W (zkt (zb r (za r)) (s^^^q) v W)):=λW q hq hK=>IH (s^^^q) W (by omega) (Nat.xor_lt_two_pow hs (ya2 (by rw[<-hq];exact yb0) hs)) hK;have aB:Hid (∀q:Nat,q&&&s=q->bits .andNot .i64 (s:Int) (q:Int)=((s^^^q:Nat):Int)):=λq hq=>zuO (by omega) (ya2 (show q<=s by rw[<-hq];exact yb0) (by omega)) hq;generalize hX:2^r.stops.length=X at*;have HX:=hid hX;clear IH hK ae aj h0 hX;go_in;go_wp2_with fail;go_loopw[8,9] (λbv pv wr=>∃(best:Int)(q:Nat),bv=.int .i64 best/\pv=.int .i64 q/\q<=s/\Hid (q&&&s=q)/\Hid (zep (zb r (za r)) s v j best q)/\wr=w) (λ_ pv _=>(intOf pv).toNat)
  ·exact⟨-1,s,rfl,rfl,yh _,Nat.and_self s,zo0,rfl⟩
  obtain⟨best,q,rfl,rfl,hq,HQ,HL,rfl⟩:=hrel;rcases yaS q with hq0|hq0
  ·subst hq0;have HC:=hid (ztE HL.out al.out);go_wp2_with fail;go_ret;exact⟨best,rfl,HC.out,rfl⟩
  have g0:decide ((0:Int)<(q:Int))=true:=by simp;omega
  have g1:decide (0<q)=true:=by simp;omega
  have hn1:bits .and .i64 ((q:Int)-1) (s:Int)=(((q-1)&&&s:Nat):Int):=by rw[show ((q:Int)-1)=((q-1:Nat):Int) by omega];exact zlR _ _ (by omega) (by omega)
  have hw1:IntKind.i64.wrap ((q:Int)-1)=(q:Int)-1:=zm _ (by omega);have HN:=hid (zrj HQ.out);have ag:=hid (ztZ q s);have hnl:=zql (s:=s) hq0;generalize aG:(q-1)&&&s=nx at*;have av:=aq.out q (by omega);have ad:=HK;have c8:=ad.out.c8;rw[HX.out] at c8;have aa:=ad.out.tab;rw[HX.out] at aa;have aA:q<X:=by omega
  have t0:=aa.cell aA;have aw:=aa.lt;have az:=ad.out.lt;have iq:(0:Int)<=(q:Int):=by omega
  have jq:(q:Int)<(X:Int):=by omega
  clear aa aG;cases hbt:q.testBit j with
  | false=>
   rw[ye (by rw[hbt];simp)] at av;have ac:=hid (zkW ah.out HL.out HN.out (.inl hbt));clear hbt;go_wp2_with fail;go_roundw
   ·exact⟨best,nx,rfl,rfl,by omega,ag,ac,by first|rfl|trivial⟩
   simp[intOf];omega
  | true=>
   rw[yg hbt] at av;have hl0:((lw:Int)==0)=false:=by simp;omega
   have hl1:(lw==0)=false:=by simp;omega
   obtain⟨tq,ab⟩:∃tq,tq=T q:=⟨_,rfl⟩
   rw[<-ab] at t0;by_cases ht:tq=-1
   ·have et:(tq == -1)=true:=by simpa using ht
    have ac:=hid (zkW ah.out HL.out HN.out (.inr (ab▸ht)));clear hbt ht ab;go_wp2_with fail;go_roundw
    ·exact⟨best,nx,rfl,rfl,by omega,ag,ac,by first|rfl|trivial⟩
    simp[intOf];omega
   have et:(tq == -1)=false:=by simpa using ht
   have ap:=aB.out q HQ.out;have am:=hid (aD.out _ q HQ.out ad.out);obtain⟨rs,ak⟩:∃rs,rs=s^^^q:=⟨_,rfl⟩
   rw[<-ak] at ap am;have aE:Hid (∀rest,rest≠-1->zfm (zb r (za r)) rs v rest->zep (zb r (za r)) s v j (zaN best (rest+tq)) nx/\0<=rest/\0<=tq/\rest+tq<=655360000000):=λrest hr hc=>by
    rw[ak] at hc;have h:=zsJ HI.out ah.out HL.out HN.out HQ.out (by omega) (ab▸ht) hr hc;rw[<-ab] at h;obtain⟨ρ,k1,_,_,k4⟩:=ah.out.src q (by omega) (ab▸ht);have h5:=zsU au.out ar.out k1;rw[<-k4,<-ab] at h5;have h6:rest<=v*327680000:=by
     rcases hc with ⟨e,_⟩|⟨_,⟨R,hR,he⟩,_⟩
     ·exact absurd e hr
     rw[<-he];exact zwo au.out ar.out hR
    exact⟨h.1,h.2.1,h.2.2,by omega⟩
   have aC:Hid (zfm (zb r (za r)) rs v (-1)->zep (zb r (za r)) s v j best nx):=λhc=>zqz HL.out HN.out (ak▸hc);have aF:=hid ab;clear hbt ht ab ak;go_wp2_with fail;refine am.out.mono ?_;rintro e2 w2⟨rest,rfl,ai,rfl⟩;have an:=ad;clear am c8 t0 aw az ad;have c8:=an.out.c8;rw[HX.out] at c8;have aa:=an.out.tab;rw[HX.out] at aa;have t0:=aa.cell aA;rw[<-aF.out] at t0;have aw:=aa.lt;have az:=an.out.lt;clear aa;by_cases hr:rest=-1
   ·have er:(rest != -1)=false:=by simp[hr]
    have ac:=hid (aC.out (hr▸ai));clear hr ai;go_wp2_with fail;go_roundw
    ·(repeat apply Exists.intro)
     refine And.intro ?_ rfl;exact⟨best,nx,rfl,rfl,by omega,ag,ac,by first|rfl|trivial⟩
    simp[intOf];omega
   have er:(rest != -1)=true:=by simpa using hr
   obtain⟨ax,hr0,ht0,hrb⟩:=aE.out rest hr ai;have ac:=hid ax;have wz:wrap64 (rest+tq)=rest+tq:=wrap64_in _ (by omega);clear hr ai ax;go_wp2_with fail;refine(zdy _ _ _).mono ?_;rintro e3 w3⟨rfl,rfl⟩;go_wp2_with fail;go_roundw
   ·(repeat apply Exists.intro)
    refine And.intro ?_ rfl;exact⟨zaN best (rest+tq),nx,rfl,rfl,by omega,ag,ac,by first|rfl|trivial⟩
   simp[intOf];omega
def zgn(I:Ins)(c:Int):Prop:=(c=-1/\∀R,¬zO I R)\/(c≠-1/\(∃R,zO I R/\zR I R=c)/\∀R,zO I R->c<=zR I R)
theorem zrd{I:Ins}{c:Int}(h:zfm I (2^I.n-1) I.vans c):zgn I c:=by
 rcases h with ⟨h1,h2⟩|⟨h1,⟨R,h2,h3⟩,h4⟩
 ·exact .inl ⟨h1,λR hR=>h2 R (zg9.2 hR)⟩
 exact .inr ⟨h1,⟨R,zg9.1 h2,h3⟩,λR hR=>h4 R (zg9.2 hR)⟩
theorem zva(P:Nat->Prop):∀n,P n->∃m,P m/\∀k,P k->m<=k:=by
 intro n;induction n using Nat.strongRecOn with
 | ind n ih=>
  intro hn;by_cases h:∃k,k<n/\P k
  ·obtain⟨k,hk,hp⟩:=h;exact ih k hk hp
  exact⟨n,hn,λk hk=>Nat.le_of_not_lt λaa=>h ⟨k,aa,hk⟩⟩
theorem zi6{I:Ins}(hI:zbu I){R:List (List Nat)}(h:zO I R):0<=zR I R:=zid hI λρ hρ=>((zg9.2 h).ok ρ hρ).2
theorem zln{I:Ins}(hI:zbu I):∃c,zgn I c:=by
 by_cases h:∃R,zO I R
 ·obtain⟨R,hR⟩:=h;obtain⟨m,⟨R',h1,h2⟩,h3⟩:=zva (λk=>∃R,zO I R/\zR I R=(k:Int)) (zR I R).toNat ⟨R,hR,by have:=zi6 hI hR;omega⟩;refine⟨(m:Int),.inr ⟨by omega,⟨R',h1,h2⟩,λR2 aa=>?_⟩⟩;have h4:=zi6 hI aa;have:=h3 (zR I R2).toNat ⟨R2,aa,by omega⟩;omega
 exact⟨-1,.inl ⟨rfl,λR hR=>h ⟨R,hR⟩⟩⟩
theorem zkY{I:Ins}{c d:Int}(hc:zgn I c)(hd:zgn I d):c=d:=by
 rcases hc with ⟨h1,h2⟩|⟨h1,⟨R,h2,h3⟩,h4⟩
 ·rcases hd with ⟨k1,k2⟩|⟨k1,⟨R,k2,k3⟩,k4⟩
  ·rw[h1,k1]
  exact absurd k2 (h2 R)
 rcases hd with ⟨k1,k2⟩|⟨k1,⟨R',k2,k3⟩,k4⟩
 ·exact absurd h2 (k2 R)
 have:=h4 R' k2;have:=k4 R h2;omega
open Classical in
noncomputable def zfc(I:Ins):Int:=if h:∃c,zgn I c then h.choose else 0
theorem zkf{I:Ins}(hI:zbu I):zgn I (zfc I):=by unfold zfc;rw[dif_pos (zln hI)];exact(zln hI).choose_spec
theorem zo6(r:Rd)(vs vr vw:Value)(w:World)(ab:zE r)(hs:StR w vs r)(hq:SqR w vw (r.stops.length+1) (za r))(aj:∃ao n c,vr=.slice ao n c):Calls Tryz.prog 77 #[.agg (zi r vs vr vw)] w λe w'=>e=.returned (.int .i64 (zfc (zb r (za r))))/\Below w.heap.size w w':=by
 have hns:=ab.nstops;have aq:=zaH.1 ab.head;have ag:Hid (∀W,Below w.heap.size w W->Calls Tryz.prog 129 #[.agg (zi r vs vr vw)] W (zkj r vs vr vw W)):=λW hW=>zsD r vs vr vw W ab (hs.below hW) (hq.below hW) aj;obtain⟨N,hN⟩:∃N:Nat,N=2^r.stops.length:=⟨_,rfl⟩
 have hN1:1<=N/\N<=1024:=by rw[hN];exact⟨yb9 _,yP (yaU (by omega) (show r.stops.length<=10 by omega)) (by decide)⟩
 have hw:wrap64 (2^r.stops.length)=(N:Int):=by
  have e:((2:Int)^r.stops.length)=(N:Int):=by rw[hN];simp
  rw[e];exact wrap64_in _ (by omega)
 have hw2:IntKind.i64.wrap (2^r.stops.length)=(N:Int):=by
  have e:((2:Int)^r.stops.length)=(N:Int):=by rw[hN];simp
  rw[e];exact zm _ (by omega)
 have af:Hid (∀(wb W:World)(p gc cap:Nat)(T:Nat->Int),zjX (zb r (za r)) T->zdn wb W p gc cap r vs vr vw T->Calls Tryz.prog 130 #[.pointer (some ⟨p,0,none⟩),.int .i64 ((N:Int)-1),.int .i64 r.vans] W λe w'=>e=.returned (.int .i64 (zfc (zb r (za r))))/\w'=W):=λwb W p gc cap T hT hK=>by have h:=zoP wb p gc cap r vs vr vw T ab hT r.vans.toNat (N-1) W (by omega) (by omega) hK;rw[show ((N-1:Nat):Int)=(N:Int)-1 by omega,show ((r.vans.toNat:Nat):Int)=r.vans by omega] at h;refine h.mono ?_;rintro e w'⟨c,he,hc,hb⟩;rw[hN] at hc;rw[he,zkY (zrd hc) (zkf (zeS ab (λa b h1 h2=>(zaB ab a b h1 h2).1)))];exact⟨rfl,hb⟩
 have hw1:IntKind.i64.wrap ((N:Int)-1)=(N:Int)-1:=zm _ (by omega);obtain⟨W,hW⟩:∃W,W=w.alloc (.cells (zi r vs vr vw) 109):=⟨_,rfl⟩
 obtain⟨ah,aa,k0,k1,k2,k3,k4,k5,k6,k7⟩:=za1 hW;have ad:=hid ah;have HWQ:=hid hW;obtain⟨a1,n1,c1,rfl⟩:=aj;obtain⟨a2,c2,rfl,_⟩:=hq;obtain⟨a3,c3,rfl,_⟩:=hs;clear ah ab hN;unfold zi at*;go_in;go_wp2_with fail;rw[<-hW];refine(ag.out _ ad.out).mono ?_;rintro e2 w2⟨p,gc,cap,T,rfl,ae,ai⟩;have an:=hid ae;have ap:=hid ai;have ac:=ae.base;have ak:Hid (Below w.heap.size w w2):=ad.out.trans (ac.mono ad.out.size);have q0:=zc ac k0 aa;have q5:=zc ac k5 aa;have l2:=ya aa ac.size;clear ae ai ac k0 k1 k2 k3 k4 k5 k6 k7;have am:=hid (af.out _ _ p gc cap T ap.out (an.out.still (yk _ _).drew));have al:=hid ak.out.drew;clear ag af aq;go_wp2_with fail;refine wp_region_still (by kernel_rfl) (by kernel_rfl) ?_;change wpStill _ _ (World.drew _) _ _ _
 repeat still_step
 still_call am.out
 repeat still_step
 refine wpStill_nil ?_;go_wp2_with fail;go_ret;exact⟨rfl,al.out⟩
theorem zpX(s:ByteArray)(w:World)(hs:s.size<=9000000000000000000):Calls Tryz.prog 78 #[.string s] w λe w'=>e=.returned (.int .i64 (s.data.toList.count 10:Nat))/\w'=w:=by
 go_in;go_wp2_with fail;go_loopw[3,4] (λnv i wr=>∃k q:Nat,k<=s.size/\q<=k/\i=.int .i64 k/\nv=.int .i64 q/\Hid (q=(s.data.toList.take k).count 10)/\wr=w) (λ_ i _=>s.size-(intOf i).toNat)
 ·exact⟨0,0,yu _,yh _,rfl,rfl,rfl,rfl⟩
 obtain⟨k,q,hk,hq,rfl,rfl,HQ,rfl⟩:=hrel;by_cases ab:k<s.size
 ·have HC:=hid (zt0 ab);have hb:s[k].toNat<256:=s[k].toNat_lt;by_cases hc:s[k]=10
  ·rw[yg hc] at HC;have aa:s[k].toNat=10:=by rw[hc];rfl
   have e1:((s[k].toNat:Int)==10)=true:=by simp[aa]
   clear hc aa;go_wp2_with go_in;go_roundw
   ·exact⟨k+1,q+1,by omega,by omega,by go_num,by go_num,by show _=_;rw[HC.out,HQ.out],trivial⟩
   simp[intOf];omega
  rw[ye hc] at HC;have aa:s[k].toNat≠10:=λh=>hc (yaH.1 (by rw[h];rfl));have e1:((s[k].toNat:Int)==10)=false:=by simp;omega
  clear hc aa;go_wp2_with go_in;go_roundw
  ·exact⟨k+1,q,by omega,by omega,by go_num,rfl,by show _=_;rw[HC.out,HQ.out];rfl,trivial⟩
  simp[intOf];omega
 have HF:Hid (s.data.toList.count 10=q):=by show _=_;rw[HQ.out,yD (by simp;omega)]
 go_wp2_with go_in;go_ret;refine⟨?_,rfl⟩;rw[HF.out];rfl
end Go.Proofs.YtebinaopncclgabGreatDoor
