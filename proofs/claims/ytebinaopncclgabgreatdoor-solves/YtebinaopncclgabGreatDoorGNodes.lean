import Derived.Test.YtebinaopncclgabGreatDoorGHall
import Derived.Test.YtebinaopncclgabGreatDoorFPlain
set_option maxRecDepth 100000
set_option maxHeartbeats 8000000
namespace Go.Proofs.YtebinaopncclgabGreatDoor
open Go.RowKit Go.IntWalk
def zby(P:zo):List Value:=(P.reverse.map λq=>[Value.int .i64 q.1.1,Value.int .i64 q.1.2]).flatten
structure zaI (w0 w:World) (p:Nat) (r:Rd) (ex:Nat->Option Value) (P:zo) (vs vf vf2:Value):Prop where
 size:w0.heap.size=p
 below:Below p w0 w
 c0:w.cell? ⟨p,0,none⟩=some (.int .i64 r.vans)
 c1:w.cell? ⟨p,1,none⟩=some (.int .i64 r.load)
 c2:w.cell? ⟨p,2,none⟩=some (.int .i64 r.close)
 c5:w.cell? ⟨p,5,none⟩=some vs
 c7:w.cell? ⟨p,7,none⟩=some vf
 arcs:zaA w p 8 r (zt P) vf2
 above:∃va,w.cell? ⟨p,74,none⟩=some va/\w.ownsRow (p+1) 218 2 va P.length (zby P)
 rest:∀k u,75<=k->ex k=some u->w.cell? ⟨p,k,none⟩=some u
def exW(cl:Option Int)(k:Nat):Option Value:=if k=75 then some (.bool cl.isSome) else if k=76 then some (.int .i64 (cl.getD 0)) else none
theorem zaI.c75{w0 w:World}{p:Nat}{r:Rd}{cl:Option Int}{P:zo}{vs vf vf2:Value}(h:zaI w0 w p r (exW cl) P vs vf vf2):w.cell? ⟨p,75,none⟩=some (.bool cl.isSome):=h.rest 75 _ (by omega) rfl
theorem zaI.c76{w0 w:World}{p:Nat}{r:Rd}{cl:Option Int}{P:zo}{vs vf vf2:Value}(h:zaI w0 w p r (exW cl) P vs vf vf2):w.cell? ⟨p,76,none⟩=some (.int .i64 (cl.getD 0)):=h.rest 76 _ (by omega) rfl
theorem Tryz.infoBranch:(Tryz.prog.info? 218).map (λi=>(i.zero,i.size,i.bytes))=some (some (.agg #[.int .i64 0,.int .i64 0]),2,16):=by kernel_rfl
theorem zsW{w X w':World}{p n size:Nat}{e:TypeId}{o:Obj}{v:Value}{xs:List Value}(hh:X.heap=(w.alloc o).heap)(hp:p<w.heap.size)(ho:w.ownsRow (p+1) e size v n xs)(hg:X.grownBy w' v.ownBlock):w'.heap[p]?=w.heap[p]?:=by
 have h1:X.heap[p]?=w.heap[p]?:=by rw[hh];exact yT _ _ _ hp
 have h2:p<X.heap.size:=by rw[hh];show p<(w.heap.push o).size;simp;omega
 rw[hg.block p h2 (λhe=>by have:=(ho.lt p he.symm).1;omega),h1]
theorem zlG{w w':World}{p k:Nat}{cs:Array Value}{ty:TypeId}(hb:w.heap[p]?=some (.cells cs ty (0,0)))(h:w'.heap[p]?=w.heap[p]?):w'.cell? ⟨p,k,none⟩=w.cell? ⟨p,k,none⟩:=by rw[yi w p k _ _ _ hb,yi w' p k _ _ _ (h.trans hb)]
theorem zfg{w w':World}{v:Value}{B n size:Nat}{e:TypeId}{xs:List Value}(h:w.ownsRow B e size v n xs)(hb:∀q,v.ownBlock=some q->w'.heap[q]?=w.heap[q]?):w'.ownsRow B e size v n xs:=by
 obtain⟨h1,h2⟩:=h;refine⟨h1,?_⟩;rcases h2 with h2|⟨g,cap,cur,rfl,h3,h4,h5⟩
 ·exact .inl h2
 exact .inr ⟨g,cap,cur,rfl,h3,(hb g rfl).trans h4,h5⟩
def zeL(w w':World)(p:Nat):Prop:=w.heap.size<=w'.heap.size/\∀va,w.cell? ⟨p,74,none⟩=some va->∀k,k<w.heap.size->k≠p->va.ownBlock≠some k->w'.heap[k]?=w.heap[k]?
theorem zfo(P:zo)(a b:Nat)(t:Bool):zby (((a,b),t)::P)=zby P++[.int .i64 a,.int .i64 b]:=by simp[zby]
theorem zog{w0 w w3 w4 X w5:World}{p a b g5 aa:Nat}{x y:Int}{r:Rd}{ex:Nat->Option Value}{P:zo}{vs vf vf2 va:Value}{cs:Array Value}{ty:TypeId}(hw:zaI w0 w p r ex P vs vf vf2)(h3:Below w.heap.size w w3)(f1:zaA w4 p 8 r (upd (zt P) a b 1) vf2)(f2:∀k u,k<8\/74<=k->w.cell? ⟨p,k,none⟩=some u->w4.cell? ⟨p,k,none⟩=some u)(f3:∀k,k<w3.heap.size->k≠p->w4.heap[k]?=w3.heap[k]?)(f4:Below p w w4)(f5:w3.heap.size<=w4.heap.size)(hX:Below w4.heap.size w4 X)(aj:w.cell? ⟨p,74,none⟩=some va)(an:w4.ownsRow (p+1) 218 2 va P.length (zby P))(hg:X.grownBy w5 va.ownBlock)(al:w5.ownsRow (p+1) 218 2 (.slice (some ⟨g5,0,none⟩) (P.length+1) aa) (P.length+1) (zby P++[.int .i64 x,.int .i64 y]))(hx:(a:Int)=x)(hy:(b:Int)=y)(ak:w5.heap[p]?=w4.heap[p]?)(ac:w4.heap[p]?=some (.cells cs ty (0,0))):zaI w0 (w5.setCell ⟨p,74,none⟩ (.slice (some ⟨g5,0,none⟩) (P.length+1) aa)) p r ex (((a,b),true)::P) vs vf vf2/\zeL w (w5.setCell ⟨p,74,none⟩ (.slice (some ⟨g5,0,none⟩) (P.length+1) aa)) p:=by
 have hp4:p<w4.heap.size:=f1.lt;have ad:Below (p+1) w4 w5:=(hX.mono (by omega)).grown hg (by have:=hX.size;omega) (λq hq=>(an.lt q hq).1);have ae:w5.heap[p]?=some (.cells cs ty (0,0)):=ak.trans ac;have hk:∀k,k≠74->(w5.setCell ⟨p,74,none⟩ (.slice (some ⟨g5,0,none⟩) (P.length+1) aa)).cell? ⟨p,k,none⟩=w4.cell? ⟨p,k,none⟩:=λk hk=>by rw[ybo _ _ _ _ (by intro h;simp only[ycn] at h;omega)];exact zlG ac ak
 have ho:∀k u,(k<8\/75<=k)->w.cell? ⟨p,k,none⟩=some u->(w5.setCell ⟨p,74,none⟩ (.slice (some ⟨g5,0,none⟩) (P.length+1) aa)).cell? ⟨p,k,none⟩=some u:=λk u h1 h2=>(hk k (by omega)).trans (f2 k u (by omega) h2);have ai:74<cs.size:=by have h1:=f2 74 va (by omega) aj;rw[yi w4 p 74 _ _ _ ac] at h1;exact(yc.1 h1).1
 have ab:=yw w5 p 74 _ _ (.slice (some ⟨g5,0,none⟩) (P.length+1) aa) ae;refine⟨⟨hw.size,?_,ho 0 _ (by omega) hw.c0,ho 1 _ (by omega) hw.c1,ho 2 _ (by omega) hw.c2,ho 5 _ (by omega) hw.c5,ho 7 _ (by omega) hw.c7,⟨⟨_,_,ab⟩,(hk 8 (by omega)).trans f1.c0,(hk 9 (by omega)).trans f1.c1,λa' b' ha hb=>(hk _ (by omega)).trans (f1.said a' b' ha hb)⟩,⟨.slice (some ⟨g5,0,none⟩) (P.length+1) aa,?_,?_⟩,λk u ag ah=>ho k u (by omega) (hw.rest k u ag ah)⟩,?_,?_⟩
 ·have h1:Below p w w5:=f4.trans (ad.mono (by omega));exact hw.below.trans (h1.setCell (yh _) _)
 ·rw[yi _ p 74 _ _ _ ab];simp[ai]
 ·rw[zfo,hx,hy];exact ownsRow_setCell_other al (by intro h;have:=(al.lt p h).1;omega) _
 ·show w.heap.size<=_;have h1:=h3.size;have h2:=ad.size;simp;omega
 intro va' af k ag ah am;rw[aj] at af;cases af;have h9:=ya ag h3.size;have e1:(w5.setCell ⟨p,74,none⟩ (.slice (some ⟨g5,0,none⟩) (P.length+1) aa)).heap[k]?=w5.heap[k]?:=by exact yt w5 _ _ k ah
 rw[e1,hg.block k (by have:=hX.size;omega) (λh=>am h.symm),hX.block k (by omega),f3 k h9 ah,h3.block k ag]
theorem zrc(w0 w:World)(p:Nat)(r:Rd)(ex:Nat->Option Value)(P:zo)(v vs vf:Value)(af:Option Addr)(cf a b:Nat)(aQ:zE r)(hr:zaR w v [(a:Int),(b:Int)])(hw:zaI w0 w p r ex P vs vf (.slice af (r.stops.length+1:Nat) cf))(hP:P.length<=1000)(han:a<=r.stops.length)(hbn:b<=r.stops.length)(hab:a≠b)(aT:zt P a b=0):Calls Tryz.prog 89 #[.pointer (some ⟨p,8,none⟩),v] w λe w'=>e=.returned (.bool true)/\zaI w0 w' p r ex (((a,b),true)::P) vs vf (.slice af (r.stops.length+1:Nat) cf)/\zeL w w' p:=by
 have aG:=aQ.nstops;obtain⟨i0,hi,aV,aW,aX⟩:=info_parts Tryz.infoBranch;obtain⟨ao,c,rfl,aB⟩:=hr;have HW:=hid hw;have aA:=hw.arcs.lt;have aI:zcN r.stops.length (zt P) (a:Int) (b:Int)=0:=by unfold zcN;rw[yg ⟨⟨by omega,by omega⟩,⟨by omega,by omega⟩,by omega⟩];exact aT
 obtain⟨g,aN,hgl,q0⟩:=aB 0 (by simp);obtain⟨g',az,_,q1⟩:=aB 1 (by simp);subst aN;cases az;have q0:w.cell? ⟨g,0,none⟩=some (.int .i64 (a:Int)):=q0;have q1:w.cell? ⟨g,1,none⟩=some (.int .i64 (b:Int)):=q1;have aF:Hid (∀W,Below w.heap.size w W->Calls Tryz.prog 146 #[.pointer (some ⟨p,8,none⟩),.int .i64 (a:Int),.int .i64 (b:Int)] W λe w'=>e=.returned (.int .i64 0)/\Below W.heap.size W w'):=λW hW=>by rw[<-aI];exact zg4 p 8 r (zt P) af cf r.stops.length a b W aG (hw.arcs.below hW)
 generalize hx:(a:Int)=x at*;generalize hy:(b:Int)=y at*;have HX:=hid hx;have HY:=hid hy;have al:([x,y]:List Int).length=2:=rfl;rw[al];clear aB hw hx hy aI al;go_in;go_wp2_with fail;go_region_held3 (λw'=>w'.cell? ⟨g,0,none⟩=some (.int .i64 x)/\w'.cell? ⟨g,1,none⟩=some (.int .i64 y)) (go_keep) (fail);obtain⟨W1,ap⟩:∃W1,W1=(w.alloc (.cells #[.int .i64 x,.int .i64 y] 218)).drew:=⟨_,rfl⟩
 rw[<-ap];have an:Hid (Below w.heap.size w W1):=by rw[ap];exact(zj w _).drew
 have ak:W1.heap[w.heap.size]?=some (.cells #[.int .i64 x,.int .i64 y] 218 (0,0)):=by rw[ap];exact yx w _
 have k0:W1.cell? ⟨w.heap.size,0,none⟩=some (.int .i64 x):=yi W1 _ 0 _ _ _ ak;have k1:W1.cell? ⟨w.heap.size,1,none⟩=some (.int .i64 y):=yi W1 _ 1 _ _ _ ak;have kl:w.heap.size<W1.heap.size:=(yc.1 ak).1;have aD:Hid (∀W,Below W1.heap.size W1 W->Calls Tryz.prog 146 #[.pointer (some ⟨p,8,none⟩),.int .i64 x,.int .i64 y] W λe w'=>e=.returned (.int .i64 0)/\w'.cell? ⟨w.heap.size,0,none⟩=some (.int .i64 x)/\w'.cell? ⟨w.heap.size,1,none⟩=some (.int .i64 y)/\Hid (Below W1.heap.size W1 w')):=λW hW=>by refine(aF.out W (an.out.trans (hW.mono an.out.size))).mono ?_;rintro e w'⟨h1,h2⟩;have h3:Below W1.heap.size W1 w':=hW.trans (h2.mono hW.size);exact⟨h1,zc h3 k0 kl,zc h3 k1 kl,h3⟩
 have aC:=hid ak;clear ap ak q0 q1 aF;go_wp2_with fail;go_region_held3 (λw'=>w'.cell? ⟨w.heap.size,0,none⟩=some (.int .i64 x)/\w'.cell? ⟨w.heap.size,1,none⟩=some (.int .i64 y)) (go_keep) (first|(go_at_call 146;refine(aD.out _ (by first|exact yk _ _|exact(yk _ _).drew)).mono ?_;rintro e3 w3⟨rfl,z0,z1,aq⟩));have ag:Hid (Below w.heap.size w w3):=an.out.trans (aq.out.mono an.out.size);have ar:Hid (w3.heap[w.heap.size]?=_):=(aq.out.block _ kl).trans aC.out;have hpw3:=ya aA ag.out.size;have ai:=ya kl aq.out.size;have aE:Hid (∀W,Below w3.heap.size w3 W->Calls Tryz.prog 147 #[.pointer (some ⟨p,8,none⟩),.int .i64 x,.int .i64 y,.int .i64 1] W λe w'=>e=.returned (.tuple #[])/\w'.cell? ⟨w.heap.size,0,none⟩=some (.int .i64 x)/\w'.cell? ⟨w.heap.size,1,none⟩=some (.int .i64 y)/\Hid (zaA w' p 8 r (upd (zt P) a b 1) (.slice af (r.stops.length+1:Nat) cf)/\(∀k u,k<8\/74<=k->w.cell? ⟨p,k,none⟩=some u->w'.cell? ⟨p,k,none⟩=some u)/\(∀k,k<w3.heap.size->k≠p->w'.heap[k]?=w3.heap[k]?)/\Below p w w'/\w3.heap.size<=w'.heap.size)):=λW hW=>by
  have ay:Below w.heap.size w W:=ag.out.trans (hW.mono ag.out.size);refine(zjZ p 8 r (zt P) af cf r.stops.length x y 1 W aG (HW.out.arcs.below ay)).mono ?_;rintro e w'⟨h1,h2,h3,h4,h5⟩;have aO:w'.heap[w.heap.size]?=w3.heap[w.heap.size]?:=by rw[h4 _ (ya ai hW.size) (by omega)];exact hW.block _ ai
  have ah:w'.heap[w.heap.size]?=some (.cells #[.int .i64 x,.int .i64 y] 218 (0,0)):=aO.trans ar.out;refine⟨h1,yi w' _ 0 _ _ _ ah,yi w' _ 1 _ _ _ ah,?_,λk u hk hu=>h3 k u (by omega) (zc ay hu aA),λk hk aP=>?_,(ay.mono (ya9 aA)).trans h5,yP hW.size h5.size⟩
  ·have e2:zgT r.stops.length (zt P) x y 1=upd (zt P) a b 1:=by unfold zgT;rw[<-HX.out,<-HY.out,yg ⟨⟨by omega,by omega⟩,⟨by omega,by omega⟩,by omega⟩];simp
   rw[<-e2];exact h2
  rw[h4 k (ya hk hW.size) aP];exact hW.block k hk
 clear aD k0 k1 aC;go_wp2_with fail;go_region_held3 (λw'=>w'.cell? ⟨w.heap.size,0,none⟩=some (.int .i64 x)/\w'.cell? ⟨w.heap.size,1,none⟩=some (.int .i64 y)) (go_keep) (first|(go_at_call 147;refine(aE.out _ (by first|exact yk _ _|exact(yk _ _).drew)).mono ?_;rintro e4 w4⟨rfl,t0,t1,ac⟩));clear aE z0 z1;obtain⟨f1,f2,f3,f4,f5⟩:=ac.out;obtain⟨va,ax,aH⟩:=HW.out.above;have aM:w4.cell? ⟨p,74,none⟩=some va:=f2 74 va (by omega) ax;have am:w3.ownsRow (p+1) 218 2 va P.length (zby P):=ze aH ag.out;have ae:w4.ownsRow (p+1) 218 2 va P.length (zby P):=zfg am (λq hq=>by have h9:=am.lt q hq;exact f3 q h9.2 (by omega));obtain⟨av,cv,rfl,_,_⟩:=zg ae;have au:=hid ae;have af4:=f1.frozen 74;have aR:p<w4.heap.size:=f1.lt;have aS:p+1<w4.heap.size:=by omega
 have aJ:=hid ax;clear f1 f2 f3 f4 f5 ax aH ae;obtain⟨cs,ty,aj⟩:=ac.out.1.box;have ab:=hid aj;clear aj;go_wp2_with fail;go_region_law (refine zds rfl (.tmp 37) (.tmp 39) 88 rfl (p+1) 218 i0 (.agg #[.int .i64 0,.int .i64 0]) 2 16 Tryz.underlying88 hi aV aW aX rfl (by decide) (.slice av P.length cv) P.length (zby P) (by simp[Act.eval]) (by exact zhW rfl au.out rfl) ⟨w4.heap.size,0,none⟩ 1 1 [.int .i64 x,.int .i64 y] (by simp[Act.eval]) rfl (by exact za0 rfl rfl) (by intro u hu;simp at hu;rcases hu with rfl|rfl<;>rfl) (by unfold maxLen;omega) (by omega) (by exact zjs rfl (yh (p+1)) aS) ?_;intro v5 w5 aa ad;have aL:=hid aa;have aK:=hid ad;have aw:Hid (w5.heap[p]?=w4.heap[p]?):=zsW (w:=w4) (by exact rfl) aR au.out ad;obtain⟨g5,cap5,cur5,aU,_,_,_⟩:=zF aa (by omega);clear aa ad;subst aU;have c5:w5.cell? ⟨p,74,none⟩=some (.slice av P.length cv):=(zlG (k:=74) ab.out aw.out).trans aM;have f5:w5.frozen? ⟨p,74,none⟩=false:=yv w5 p 74 _ _ (aw.out.trans ab.out))
 all_goals
  go_wp2;go_ret;exact⟨rfl,zog HW.out ag.out ac.out.1 ac.out.2.1 ac.out.2.2.1 ac.out.2.2.2.1 ac.out.2.2.2.2 (zj w4 _).drew aJ.out au.out aK.out aL.out HX.out HY.out aw.out ab.out⟩
theorem zo9{n a b:Nat}{s:Bool}{P:zo}(h:zab n (((a,b),s)::P)):zcN n (zt (((a,b),s)::P)) (a:Int) (b:Int)=if s=true then 1 else 2:=by have h1:=zeQ h (List.mem_cons_self ..);unfold zcN;rw[yg ⟨⟨by omega,by omega⟩,⟨by omega,by omega⟩,by omega⟩];exact h1.1
theorem zot(a b:Nat)(s:Bool)(P:zo):upd (zt (((a,b),s)::P)) a b 2=zt (((a,b),false)::P):=by
 funext x y;show (if x=a/\y=b then 2 else upd (zt P) a b (if s=true then 1 else 2) x y)=upd (zt P) a b (if false=true then 1 else 2) x y;unfold upd;by_cases e:x=a/\y=b
 ·simp[e]
 simp[e]
theorem zpa{a b:Nat}{s:Bool}{P:zo}(h:zt P a b=0):upd (zt (((a,b),s)::P)) a b 0=zt P:=by
 funext x y;show (if x=a/\y=b then 0 else upd (zt P) a b (if s=true then 1 else 2) x y)=zt P x y;unfold upd;by_cases e:x=a/\y=b
 ·rw[yg e,e.1,e.2,h]
 simp[e]
theorem zlT{n a b:Nat}{T:Nat->Nat->Int}{v:Int}(h1:a<=n)(h2:b<=n)(h3:a≠b):zgT n T (a:Int) (b:Int) v=upd T a b v:=by unfold zgT;rw[yg ⟨⟨by omega,by omega⟩,⟨by omega,by omega⟩,by omega⟩];simp
def zg7(w:World)(p:Nat):Nat:=match w.cell? ⟨p,74,none⟩ with|some (.slice _ n _)=>n|_=>0
def zbh(w w':World)(p:Nat):Prop:=w.heap.size<=w'.heap.size/\∀k,k<w.heap.size->k≠p->w'.heap[k]?=w.heap[k]?
theorem zbh.trans{a b c:World}{p:Nat}(h:zbh a b p)(k:zbh b c p):zbh a c p:=⟨yP h.1 k.1,λi h1 h2=>(k.2 i (ya h1 h.1) h2).trans (h.2 i h1 h2)⟩
theorem zbh.of_below{a b:World}{p:Nat}(h:Below a.heap.size a b):zbh a b p:=⟨h.size,λi h1 _=>h.block i h1⟩
theorem zuj{w:World}{B g n cap size n':Nat}{e:TypeId}{xs:List Value}(h:w.ownsRow B e size (.slice (some ⟨g,0,none⟩) n cap) n xs)(hn:n'<=n):w.ownsRow B e size (.slice (some ⟨g,0,none⟩) n' cap) n' (xs.take (n'*size)):=by
 have hm:n'*size<=n*size:=Nat.mul_le_mul_right _ hn;rcases h.2 with ⟨h0,_⟩|⟨g',cap',cur,hv,hb,hg,h1,h2,h3,h4⟩
 ·cases h0
 cases hv;refine⟨by rw[yaR,h.1];omega,.inr ⟨g,cap,cur,rfl,hb,hg,by omega,h2,h3,?_⟩⟩;rw[<-h4,List.take_take,Nat.min_eq_left hm]
theorem zuD{w:World}{B g n cap size:Nat}{e:TypeId}{xs:List Value}(h:w.ownsRow B e size (.slice (some ⟨g,0,none⟩) n cap) n xs):n<=cap:=by
 rcases h.2 with ⟨h0,_⟩|⟨g',cap',cur,hv,_,_,h1,_⟩
 ·cases h0
 cases hv;exact h1
theorem zua{w0 w w3 w4:World}{p:Nat}{r:Rd}{ex:Nat->Option Value}{P Q:zo}{vs vf vf2:Value}{T:Nat->Nat->Int}(hw:zaI w0 w p r ex P vs vf vf2)(h3:Below w.heap.size w w3)(f1:zaA w4 p 8 r T vf2)(f2:∀k u,k<8\/74<=k->w.cell? ⟨p,k,none⟩=some u->w4.cell? ⟨p,k,none⟩=some u)(f3:∀k,k<w3.heap.size->k≠p->w4.heap[k]?=w3.heap[k]?)(f4:Below p w w4)(f5:w3.heap.size<=w4.heap.size)(hT:T=zt Q)(ha:zby Q=zby P)(hl:Q.length=P.length):zaI w0 w4 p r ex Q vs vf vf2/\zbh w w4 p:=by obtain⟨va,ab,ae⟩:=hw.above;have aa:=ze ae h3;refine⟨⟨hw.size,hw.below.trans f4,f2 0 _ (by omega) hw.c0,f2 1 _ (by omega) hw.c1,f2 2 _ (by omega) hw.c2,f2 5 _ (by omega) hw.c5,f2 7 _ (by omega) hw.c7,hT▸f1,⟨va,f2 74 _ (by omega) ab,?_⟩,λk u ac ad=>f2 k u (by omega) (hw.rest k u ac ad)⟩,yP h3.size f5,λk h1 h2=>(f3 k (ya h1 h3.size) h2).trans (h3.block k h1)⟩;rw[ha,hl];exact zfg aa (λq hq=>by have h9:=aa.lt q hq;exact f3 q h9.2 (by omega))
theorem zrf{w0 w:World}{p g m cv a b:Nat}{s:Bool}{r:Rd}{ex:Nat->Option Value}{Q:zo}{vs vf vf2:Value}(an:w0.heap.size=p)(ak:Below p w0 w)(c0:w.cell? ⟨p,0,none⟩=some (.int .i64 r.vans))(c1:w.cell? ⟨p,1,none⟩=some (.int .i64 r.load))(c2:w.cell? ⟨p,2,none⟩=some (.int .i64 r.close))(c5:w.cell? ⟨p,5,none⟩=some vs)(c7:w.cell? ⟨p,7,none⟩=some vf)(ac:∀k u,75<=k->ex k=some u->w.cell? ⟨p,k,none⟩=some u)(ha:zaA w p 8 r (zt Q) vf2)(hm:m=Q.length)(af:w.cell? ⟨p,74,none⟩=some (.slice (some ⟨g,0,none⟩) (m+1) cv))(ai:w.ownsRow (p+1) 218 2 (.slice (some ⟨g,0,none⟩) (m+1) cv) (List.length (((a,b),s)::Q)) (zby (((a,b),s)::Q))):zaI w0 (w.setCell ⟨p,74,none⟩ (.slice (some ⟨g,0,none⟩) m cv)) p r ex Q vs vf vf2/\zbh w (w.setCell ⟨p,74,none⟩ (.slice (some ⟨g,0,none⟩) m cv)) p/\zg7 (w.setCell ⟨p,74,none⟩ (.slice (some ⟨g,0,none⟩) m cv)) p<zg7 w p:=by
 obtain⟨cs,ty,ad⟩:=ha.box;have hk:∀k,k≠74->(w.setCell ⟨p,74,none⟩ (.slice (some ⟨g,0,none⟩) m cv)).cell? ⟨p,k,none⟩=w.cell? ⟨p,k,none⟩:=λk hk=>ybo _ _ _ _ (by intro h;simp only[ycn] at h;omega);have ag:74<cs.size:=by rw[yi w p 74 _ _ _ ad] at af;exact(yc.1 af).1
 have aa:=yw w p 74 _ _ (.slice (some ⟨g,0,none⟩) m cv) ad;have ae:(w.setCell ⟨p,74,none⟩ (.slice (some ⟨g,0,none⟩) m cv)).cell? ⟨p,74,none⟩=some (.slice (some ⟨g,0,none⟩) m cv):=by rw[yi _ p 74 _ _ _ aa];simp[ag]
 have ah:w.ownsRow (p+1) 218 2 (.slice (some ⟨g,0,none⟩) (m+1) cv) (m+1) (zby (((a,b),s)::Q)):=by
  have e:List.length (((a,b),s)::Q)=m+1:=by rw[hm];rfl
  rw[e] at ai;exact ai
 have ab:=zuj (n':=m) ah (by omega);have ao:(zby (((a,b),s)::Q)).take (m*2)=zby Q:=by
  rw[zfo];have aj:(zby Q).length=m*2:=by
   rw[hm];unfold zby;have:∀L:zo,((L.map λq=>[Value.int .i64 q.1.1,Value.int .i64 q.1.2]).flatten).length=L.length*2:=by
    intro L;induction L with
    | nil=>rfl
    | cons q L ih=>simp only[yE,yM,yz,ih];simp;omega
   rw[this];simp
  rw[<-aj,List.take_left]
 rw[ao] at ab;refine⟨⟨an,ak.setCell (yh _) _,(hk 0 (by omega)).trans c0,(hk 1 (by omega)).trans c1,(hk 2 (by omega)).trans c2,(hk 5 (by omega)).trans c5,(hk 7 (by omega)).trans c7,⟨⟨_,_,aa⟩,(hk 8 (by omega)).trans ha.c0,(hk 9 (by omega)).trans ha.c1,λa' b' h1 h2=>(hk _ (by omega)).trans (ha.said a' b' h1 h2)⟩,⟨_,ae,?_⟩,λk u al am=>(hk k (by omega)).trans (ac k u al am)⟩,⟨by simp,λk _ h2=>yt w _ _ k h2⟩,?_⟩
 ·rw[<-hm];exact ownsRow_setCell_other ab (by intro h;have:=(ab.lt p h).1;omega) _
 unfold zg7;rw[ae,af];dsimp only;omega
theorem zr1{w0 w:World}{p:Nat}{r:Rd}{ex:Nat->Option Value}{P:zo}{vs vf vf2:Value}(h:zaI w0 w p r ex P vs vf vf2):zaI w0 w.drew p r ex P vs vf vf2:=by obtain⟨va,g1,g2⟩:=h.above;exact⟨h.size,h.below.drew,h.c0,h.c1,h.c2,h.c5,h.c7,⟨h.arcs.box,h.arcs.c0,h.arcs.c1,h.arcs.said⟩,⟨va,g1,zcr g2 rfl⟩,h.rest⟩
theorem zr5{w0 w w3 w4:World}{p g m cv a b:Nat}{r:Rd}{ex:Nat->Option Value}{Q:zo}{vs vf vf2:Value}(hw:zaI w0 w p r ex (((a,b),false)::Q) vs vf vf2)(h3:Below w.heap.size w w3)(f1:zaA w4 p 8 r (upd (zt (((a,b),false)::Q)) a b 0) vf2)(f2:∀k u,k<8\/74<=k->w.cell? ⟨p,k,none⟩=some u->w4.cell? ⟨p,k,none⟩=some u)(f3:∀k,k<w3.heap.size->k≠p->w4.heap[k]?=w3.heap[k]?)(f4:Below p w w4)(f5:w3.heap.size<=w4.heap.size)(hT:zt Q a b=0)(hm:m=Q.length)(ab:w.cell? ⟨p,74,none⟩=some (.slice (some ⟨g,0,none⟩) (m+1) cv)):zaI w0 (w4.setCell ⟨p,74,none⟩ (.slice (some ⟨g,0,none⟩) m cv)) p r ex Q vs vf vf2/\zbh w (w4.setCell ⟨p,74,none⟩ (.slice (some ⟨g,0,none⟩) m cv)) p/\zg7 (w4.setCell ⟨p,74,none⟩ (.slice (some ⟨g,0,none⟩) m cv)) p<zg7 w p:=by
 rw[zpa hT] at f1;obtain⟨va,ae,ai⟩:=hw.above;have ad:=f2 74 _ (by omega) ab;rw[ab] at ae;cases ae;have aa:=ze ai h3;have ac:w4.ownsRow (p+1) 218 2 (.slice (some ⟨g,0,none⟩) (m+1) cv) (List.length (((a,b),false)::Q)) (zby (((a,b),false)::Q)):=zfg aa (λq hq=>by have h9:=aa.lt q hq;exact f3 q h9.2 (by omega));have ah:zbh w w4 p:=⟨yP h3.size f5,λk h1 h2=>(f3 k (ya h1 h3.size) h2).trans (h3.block k h1)⟩
 have hc:=zrf hw.size (hw.below.trans f4) (f2 0 _ (by omega) hw.c0) (f2 1 _ (by omega) hw.c1) (f2 2 _ (by omega) hw.c2) (f2 5 _ (by omega) hw.c5) (f2 7 _ (by omega) hw.c7) (λk u af ag=>f2 k u (by omega) (hw.rest k u af ag)) f1 hm ad ac;refine⟨hc.1,ah.trans hc.2.1,?_⟩;have h9:=hc.2.2;unfold zg7 at h9⊢;rw[ab];rw[ad] at h9;exact h9
theorem zrM(w0 w:World)(p:Nat)(r:Rd)(ex:Nat->Option Value)(P:zo)(vs vf:Value)(af:Option Addr)(cf:Nat)(aJ:zE r)(hP:zab r.stops.length P)(hl:P.length<=1000)(hw:zaI w0 w p r ex P vs vf (.slice af (r.stops.length+1:Nat) cf)):Calls Tryz.prog 90 #[.pointer (some ⟨p,8,none⟩)] w λe w'=>e=.returned (.bool (!(zad P).isEmpty))/\zaI w0 w' p r ex (zad P) vs vf (.slice af (r.stops.length+1:Nat) cf)/\zbh w w' p:=by
 have aC:=aJ.nstops;have HW:=hid hw;have HP:=hid hP;clear hw hP;go_in;go_wp2_with fail;go_loopw[] (λwr=>∃Q:zo,Hid (zaI w0 wr p r ex Q vs vf (.slice af (r.stops.length+1:Nat) cf))/\Hid (zab r.stops.length Q)/\Q.length<=1000/\Hid (zad Q=zad P)/\Hid (zbh w wr p)) (λwr=>zg7 wr p)
 ·exact⟨P,HW,HP,hl,rfl,yh _,λ_ _ _=>rfl⟩
 obtain⟨Q,HQ,aG,aI,aw,HK⟩:=hrel;obtain⟨va,ax,aD⟩:=HQ.out.above;obtain⟨av,cv,rfl,_,_⟩:=zg aD;have hp:=HQ.out.arcs.lt;have hfz:=HQ.out.arcs.frozen 74;have al:=hid aD;clear aD;cases Q with
 | nil=>go_wp2_with fail;go_ret;exact⟨by rw[<-aw.out];rfl,(by rw[<-aw.out];exact HQ.out),HK.out⟩
 | cons q Q=>
  obtain⟨⟨a,b⟩,s⟩:=q;have aq:List.length (((a,b),s)::Q)=Q.length+1:=rfl;rw[aq] at ax al aI;obtain⟨g,cap,cur,aK,hgp,_,_⟩:=zF al.out (by omega);cases aK;have hgl:g<wr.heap.size:=(al.out.lt g rfl).2;obtain⟨m,hm⟩:∃m,m=Q.length:=⟨_,rfl⟩
  have az:(zby Q).length=m*2:=by
   rw[hm];unfold zby;have:∀L:zo,((L.map λq=>[Value.int .i64 q.1.1,Value.int .i64 q.1.2]).flatten).length=L.length*2:=by
    intro L;induction L with
    | nil=>rfl
    | cons q L ih=>simp only[yE,yM,yz,ih];simp;omega
   rw[this];simp
  rw[<-hm] at ax al aI;have r0:wr.cell? ⟨g,m*2,none⟩=some (.int .i64 (a:Int)):=by have h1:=al.out.cellAt (m*2) (by omega);rw[zfo,yaw (by omega),az,Nat.sub_self] at h1;exact h1
  have r1:wr.cell? ⟨g,m*2+1,none⟩=some (.int .i64 (b:Int)):=by have h1:=al.out.cellAt (m*2+1) (by omega);rw[zfo,yaw (by omega),az,Nat.add_sub_cancel_left] at h1;exact h1
  have HM:=hid hm;have wz:IntKind.i64.wrap (((m+1:Nat):Int)-1)=(m:Int):=by rw[zm _ (by omega)];omega
  have wz2:IntKind.i64.wrap ((m:Int)+1-1)=(m:Int):=by rw[zm _ (by omega)];omega
  have wz3:IntKind.i64.wrap (m:Int)=(m:Int):=zm _ (by omega);have im:(0:Int)<=(m:Int):=by omega
  have jm:(m:Int)<(m:Int)+1:=by omega
  have jm2:(m:Int)<((m+1:Nat):Int):=by omega
  have ao:=hid (zo9 aG.out);have ai:Hid (a<=r.stops.length/\b<=r.stops.length/\a≠b/\zt Q a b=0/\zab r.stops.length Q):=by
   cases aG.out with
   | cons h1 h2 h3 h4 h5=>exact⟨h1,h2,h3,h4,h5⟩
  obtain⟨x,hx⟩:∃x:Int,x=(a:Int):=⟨_,rfl⟩
  obtain⟨y,hy⟩:∃y:Int,y=(b:Int):=⟨_,rfl⟩
  rw[<-hx] at r0 ao;rw[<-hy] at r1 ao;have HX:=hid hx;have HY:=hid hy;clear hx hy az hm aq;go_wp2_with fail;go_region_held3 (λw'=>w'.cell? ⟨p,74,none⟩=some (.slice (some ⟨g,0,none⟩) (m+1) cv)/\w'.cell? ⟨g,m*2,none⟩=some (.int .i64 x)/\w'.cell? ⟨g,m*2+1,none⟩=some (.int .i64 y)) (go_keep) (fail);obtain⟨W1,ay⟩:∃W1,W1=(wr.alloc (.cells #[.int .i64 x,.int .i64 y] 218)).drew:=⟨_,rfl⟩
  rw[<-ay];have am:Hid (Below wr.heap.size wr W1):=by rw[ay];exact(zj wr _).drew
  have ap:W1.heap[wr.heap.size]?=some (.cells #[.int .i64 x,.int .i64 y] 218 (0,0)):=by rw[ay];exact yx wr _
  have k0:W1.cell? ⟨wr.heap.size,0,none⟩=some (.int .i64 x):=yi W1 _ 0 _ _ _ ap;have k1:W1.cell? ⟨wr.heap.size,1,none⟩=some (.int .i64 y):=yi W1 _ 1 _ _ _ ap;have kl:wr.heap.size<W1.heap.size:=(yc.1 ap).1;have au:Hid (∀W,Below W1.heap.size W1 W->Calls Tryz.prog 146 #[.pointer (some ⟨p,8,none⟩),.int .i64 x,.int .i64 y] W λe w'=>e=.returned (.int .i64 (if s=true then 1 else 2))/\w'.cell? ⟨wr.heap.size,0,none⟩=some (.int .i64 x)/\w'.cell? ⟨wr.heap.size,1,none⟩=some (.int .i64 y)/\Hid (Below W1.heap.size W1 w')):=λW hW=>by have ah:=am.out.trans (hW.mono am.out.size);refine(zg4 p 8 r (zt (((a,b),s)::Q)) af cf r.stops.length x y W aC (HQ.out.arcs.below ah)).mono ?_;rintro e w'⟨h1,h2⟩;have h3:Below W1.heap.size W1 w':=hW.trans (h2.mono hW.size);rw[ao.out] at h1;exact⟨h1,zc h3 k0 kl,zc h3 k1 kl,h3⟩
  have ar:=hid ap;clear ay ap r0 r1;cases s
  ·have ac:Hid (∀W,Below W1.heap.size W1 W->Calls Tryz.prog 146 #[.pointer (some ⟨p,8,none⟩),.int .i64 x,.int .i64 y] W λe w'=>e=.returned (.int .i64 2)/\w'.cell? ⟨wr.heap.size,0,none⟩=some (.int .i64 x)/\w'.cell? ⟨wr.heap.size,1,none⟩=some (.int .i64 y)/\Hid (Below W1.heap.size W1 w')):=au;clear au ao;go_wp2_with fail;go_region_held3 (λw'=>w'.cell? ⟨wr.heap.size,0,none⟩=some (.int .i64 x)/\w'.cell? ⟨wr.heap.size,1,none⟩=some (.int .i64 y)) (go_keep) (first|(go_at_call 146;refine(ac.out _ (by first|exact yk _ _|exact(yk _ _).drew)).mono ?_;rintro e3 w3⟨rfl,z0,z1,aj⟩));have ag:Hid (Below wr.heap.size wr w3):=am.out.trans (aj.out.mono am.out.size);have ak:Hid (w3.heap[wr.heap.size]?=_):=(aj.out.block _ kl).trans ar.out;have aE:=ya hp ag.out.size;have ae:=ya kl aj.out.size;have an:Hid (∀W,Below w3.heap.size w3 W->Calls Tryz.prog 147 #[.pointer (some ⟨p,8,none⟩),.int .i64 x,.int .i64 y,.int .i64 0] W λe w'=>e=.returned (.tuple #[])/\w'.cell? ⟨wr.heap.size,0,none⟩=some (.int .i64 x)/\w'.cell? ⟨wr.heap.size,1,none⟩=some (.int .i64 y)/\Hid (zaA w' p 8 r (upd (zt (((a,b),false)::Q)) a b 0) (.slice af (r.stops.length+1:Nat) cf)/\(∀k u,k<8\/74<=k->wr.cell? ⟨p,k,none⟩=some u->w'.cell? ⟨p,k,none⟩=some u)/\(∀k,k<w3.heap.size->k≠p->w'.heap[k]?=w3.heap[k]?)/\Below p wr w'/\w3.heap.size<=w'.heap.size)):=λW hW=>by
    have ah:Below wr.heap.size wr W:=ag.out.trans (hW.mono ag.out.size);refine(zjZ p 8 r (zt (((a,b),false)::Q)) af cf r.stops.length x y 0 W aC (HQ.out.arcs.below ah)).mono ?_;rintro e w'⟨h1,h2,h3,h4,h5⟩;have aA:w'.heap[wr.heap.size]?=w3.heap[wr.heap.size]?:=by rw[h4 _ (ya ae hW.size) (by omega)];exact hW.block _ ae
    have ad:w'.heap[wr.heap.size]?=some (.cells #[.int .i64 x,.int .i64 y] 218 (0,0)):=aA.trans ak.out;rw[HX.out,HY.out,zlT ai.out.1 ai.out.2.1 ai.out.2.2.1] at h2;refine⟨h1,yi w' _ 0 _ _ _ ad,yi w' _ 1 _ _ _ ad,h2,λk u hk hu=>h3 k u (by omega) (zc ah hu hp),λk hk aB=>?_,(ah.mono (ya9 hp)).trans h5,yP hW.size h5.size⟩;rw[h4 k (ya hk hW.size) aB];exact hW.block k hk
   clear ac k0 k1 ar;go_wp2_with fail;go_region_held3 (λw'=>w'.cell? ⟨wr.heap.size,0,none⟩=some (.int .i64 x)/\w'.cell? ⟨wr.heap.size,1,none⟩=some (.int .i64 y)) (go_keep) (first|(go_at_call 147;refine(an.out _ (by first|exact yk _ _|exact(yk _ _).drew)).mono ?_;rintro e4 w4⟨rfl,t0,t1,ab⟩));clear an z0 z1 t0 t1;have a74:w4.cell? ⟨p,74,none⟩=some (.slice (some ⟨g,0,none⟩) (m+1) cv):=ab.out.2.1 74 _ (by omega) ax;have hp4:p<w4.heap.size:=ab.out.1.lt;have hf4:=ab.out.1.frozen 74;have h1m:(m:Int)<=(cv:Int):=by have:=zuD al.out;omega
   have h0m:(0:Int)<=(m:Int):=by omega
   go_wp2_with fail;go_region
   all_goals
    go_wp2;have aH:=ai.out;have aa:=zr5 HQ.out ag.out ab.out.1 ab.out.2.1 ab.out.2.2.1 ab.out.2.2.2.1 ab.out.2.2.2.2 aH.2.2.2.1 HM.out ax;exact⟨⟨Q,zr1 aa.1,aH.2.2.2.2,by have:=HM.out;omega,by show _=_;rw[<-aw.out];rfl,HK.out.trans ⟨aa.2.1.1,aa.2.1.2⟩⟩,aa.2.2⟩
  have ac:Hid (∀W,Below W1.heap.size W1 W->Calls Tryz.prog 146 #[.pointer (some ⟨p,8,none⟩),.int .i64 x,.int .i64 y] W λe w'=>e=.returned (.int .i64 1)/\w'.cell? ⟨wr.heap.size,0,none⟩=some (.int .i64 x)/\w'.cell? ⟨wr.heap.size,1,none⟩=some (.int .i64 y)/\Hid (Below W1.heap.size W1 w')):=au;clear au ao;go_wp2_with fail;go_region_held3 (λw'=>w'.cell? ⟨wr.heap.size,0,none⟩=some (.int .i64 x)/\w'.cell? ⟨wr.heap.size,1,none⟩=some (.int .i64 y)) (go_keep) (first|(go_at_call 146;refine(ac.out _ (by first|exact yk _ _|exact(yk _ _).drew)).mono ?_;rintro e3 w3⟨rfl,z0,z1,aj⟩));have ag:Hid (Below wr.heap.size wr w3):=am.out.trans (aj.out.mono am.out.size);have ak:Hid (w3.heap[wr.heap.size]?=_):=(aj.out.block _ kl).trans ar.out;have aE:=ya hp ag.out.size;have ae:=ya kl aj.out.size;have an:Hid (∀W,Below w3.heap.size w3 W->Calls Tryz.prog 147 #[.pointer (some ⟨p,8,none⟩),.int .i64 x,.int .i64 y,.int .i64 2] W λe w'=>e=.returned (.tuple #[])/\w'.cell? ⟨wr.heap.size,0,none⟩=some (.int .i64 x)/\w'.cell? ⟨wr.heap.size,1,none⟩=some (.int .i64 y)/\Hid (zaA w' p 8 r (upd (zt (((a,b),true)::Q)) a b 2) (.slice af (r.stops.length+1:Nat) cf)/\(∀k u,k<8\/74<=k->wr.cell? ⟨p,k,none⟩=some u->w'.cell? ⟨p,k,none⟩=some u)/\(∀k,k<w3.heap.size->k≠p->w'.heap[k]?=w3.heap[k]?)/\Below p wr w'/\w3.heap.size<=w'.heap.size)):=λW hW=>by
   have ah:Below wr.heap.size wr W:=ag.out.trans (hW.mono ag.out.size);refine(zjZ p 8 r (zt (((a,b),true)::Q)) af cf r.stops.length x y 2 W aC (HQ.out.arcs.below ah)).mono ?_;rintro e w'⟨h1,h2,h3,h4,h5⟩;have aA:w'.heap[wr.heap.size]?=w3.heap[wr.heap.size]?:=by rw[h4 _ (ya ae hW.size) (by omega)];exact hW.block _ ae
   have ad:w'.heap[wr.heap.size]?=some (.cells #[.int .i64 x,.int .i64 y] 218 (0,0)):=aA.trans ak.out;rw[HX.out,HY.out,zlT ai.out.1 ai.out.2.1 ai.out.2.2.1] at h2;refine⟨h1,yi w' _ 0 _ _ _ ad,yi w' _ 1 _ _ _ ad,h2,λk u hk hu=>h3 k u (by omega) (zc ah hu hp),λk hk aB=>?_,(ah.mono (ya9 hp)).trans h5,yP hW.size h5.size⟩;rw[h4 k (ya hk hW.size) aB];exact hW.block k hk
  clear ac k0 k1 ar;go_wp2_with fail;go_region_held3 (λw'=>w'.cell? ⟨wr.heap.size,0,none⟩=some (.int .i64 x)/\w'.cell? ⟨wr.heap.size,1,none⟩=some (.int .i64 y)) (go_keep) (first|(go_at_call 147;refine(an.out _ (by first|exact yk _ _|exact(yk _ _).drew)).mono ?_;rintro e4 w4⟨rfl,t0,t1,ab⟩));clear an z0 z1 t0 t1;have aF:Hid (zad P=((a,b),false)::Q):=by show _=_;rw[<-aw.out];rfl
  go_wp2;go_ret;have aa:=zua (Q:=((a,b),false)::Q) HQ.out ag.out ab.out.1 ab.out.2.1 ab.out.2.2.1 ab.out.2.2.2.1 ab.out.2.2.2.2 (zot a b true Q) (by simp[zby]) rfl;exact⟨by rw[aF.out];rfl,by rw[aF.out];exact aa.1,HK.out.trans aa.2⟩
theorem zaI.mv{w0 w w':World}{p:Nat}{r:Rd}{ex:Nat->Option Value}{P:zo}{vs vf vf2:Value}(h:zaI w0 w p r ex P vs vf vf2)(hb:Below w.heap.size w w'):zaI w0 w' p r ex P vs vf vf2:=by obtain⟨va,g1,g2⟩:=h.above;have hp:=h.arcs.lt;exact⟨h.size,h.below.trans (hb.mono (ya9 hp)),zc hb h.c0 hp,zc hb h.c1 hp,zc hb h.c2 hp,zc hb h.c5 hp,zc hb h.c7 hp,h.arcs.below hb,⟨va,zc hb g1 hp,ze g2 hb⟩,λk u h1 h2=>zc hb (h.rest k u h1 h2) hp⟩
theorem zaI.area{w0 w:World}{p:Nat}{r:Rd}{ex:Nat->Option Value}{P:zo}{vs vf vf2:Value}(h:zaI w0 w p r ex P vs vf vf2)(hs:StR w0 vs r)(hq:SqR w0 vf (r.stops.length+1) (za r)):ze8 w p r (za r) vs vf:=by
 have hb:Below w0.heap.size w0 w:=by rw[h.size];exact h.below
 exact⟨h.arcs.lt,h.c0,h.c1,h.c2,h.c5,h.c7,hs.below hb,hq.below hb⟩
theorem zeL.of_below{a b:World}{p:Nat}(h:Below a.heap.size a b):zeL a b p:=⟨h.size,λ_ _ k h1 _ _=>h.block k h1⟩
theorem zeL.of_kept{a b:World}{p:Nat}(h:zbh a b p):zeL a b p:=⟨h.1,λ_ _ k h1 h2 _=>h.2 k h1 h2⟩
theorem zmA{w w':World}{p B n size B2 n2:Nat}{e:TypeId}{v va:Value}{xs ab:List Value}(h:w.ownsRow B e size v n xs)(hB:p<B)(aa:w.cell? ⟨p,74,none⟩=some va)(ha:w.ownsRow B2 218 2 va n2 ab)(he:e≠218)(hk:zeL w w' p):w'.ownsRow B e size v n xs:=
 zfg h (λq hq=>hk.2 va aa q (h.lt q hq).2 (by have:=(h.lt q hq).1;omega) (λh2=>by
  rcases zfh h ha he with h3|h3
  ·rw[h3] at hq;cases hq
  exact h3 (hq.trans h2.symm)))
theorem zal.kept{w0 w w':World}{p B:Nat}{v vs vf vf2:Value}{L:List zu}{r:Rd}{ex:Nat->Option Value}{P:zo}(h:zal w B v L)(hB:p<B)(hw:zaI w0 w p r ex P vs vf vf2)(hk:zeL w w' p):zal w' B v L:=by obtain⟨us,h1,h2,h3⟩:=h;obtain⟨va,g1,g2⟩:=hw.above;exact⟨us,h1,zmA h2 hB g1 g2 (by decide) hk,λi hi=>zmA (h3 i hi) hB g1 g2 (by decide) hk⟩
theorem zhm:∀(L:List zu)(vs:List Value),vs.length=L.length->∀i (h:i<L.length),(zb3 L vs)[i*2]?=some (.int .i64 L[i].1)/\(zb3 L vs)[i*2+1]?=some (vs.getD i (.slice none 0 0))
 | [],_,_,i,h=>absurd h (by simp)
 | nd::L,[],hl,_,_=>absurd hl (by simp)
 | nd::L,v::vs,hl,i,h=>by
  have e:zb3 (nd::L) (v::vs)=.int .i64 nd.1::v::zb3 L vs:=by simp[zb3]
  rw[e];cases i with
  | zero=>exact⟨rfl,rfl⟩
  | succ i=>
   have:=zhm L vs (by simpa using hl) i (by simpa using h);have e1:(i+1)*2=i*2+1+1:=by omega
   rw[e1,ybc,ybc,ybc,ybc];exact this
theorem zal.at{w:World}{B:Nat}{v:Value}{L:List zu}(h:zal w B v L){i:Nat}(hi:i<L.length):∃g c ao c',v=.slice (some ⟨g,0,none⟩) L.length c/\B<=g/\g<w.heap.size/\w.cell? ⟨g,i*2,none⟩=some (.int .i64 L[i].1)/\w.cell? ⟨g,i*2+1,none⟩=some (.slice ao L[i].2.length c')/\zaR w (.slice ao L[i].2.length c') L[i].2:=by obtain⟨us,h1,h2,h3⟩:=h;obtain⟨g,cap,cur,rfl,hb,hg,_⟩:=zF h2 (by omega);obtain⟨k1,k2⟩:=zhm L us h1 i hi;obtain⟨ao,c',hv,_,_⟩:=zg (h3 i hi);have h4:=h3 i hi;rw[hv] at h4 k2;exact⟨g,cap,ao,c',rfl,hb,(yc.1 hg).1,by rw[h2.cellAt (i*2) (by omega)];exact k1,by rw[h2.cellAt (i*2+1) (by omega)];exact k2,zaR.own h4⟩
def zcj:List UInt8:=[110,111,110,101]
noncomputable def zb2(r:Rd)(l:List UInt8):Option Int×Int:=if l=zcj then (none,0) else if (zI r (za r) l).2.2≠0 then (none,(zI r (za r) l).2.2) else (some (zI r (za r) l).1,0)
noncomputable def zbz(r:Rd)(l t:List UInt8):Nat×Int:=
 if (zb2 r l).2≠0 then (0,(zb2 r l).2) else if (zbc t).2.2≠0 then ((zbc t).2.1,14)
 else if zbV (zb r (za r)) (zb2 r l).1 [] (zbc t).1 0=0 then (0,0) else (zbV (zb r (za r)) (zb2 r l).1 [] (zbc t).1 0,15)
end Go.Proofs.YtebinaopncclgabGreatDoor
