import Derived.Test.YtebinaopncclgabGreatDoorGNodes
import Derived.Test.YtebinaopncclgabGreatDoorSText
import Derived.Test.YtebinaopncclgabGreatDoorABest
set_option maxRecDepth 100000
set_option maxHeartbeats 8000000
namespace Go.Proofs.YtebinaopncclgabGreatDoor
open Go.RowKit Go.IntWalk
def zlf(ex:Nat->Option Value)(k:Nat)(u:Value)(j:Nat):Option Value:=if j=k then some u else ex j
theorem zf1{w0 w:World}{p k:Nat}{r:Rd}{ex:Nat->Option Value}{P:zo}{vs vf vf2 u0:Value}(hw:zaI w0 w p r ex P vs vf vf2)(hk:75<=k)(h0:ex k=some u0)(u:Value):zaI w0 (w.setCell ⟨p,k,none⟩ u) p r (zlf ex k u) P vs vf vf2:=by
 obtain⟨cs,ty,ab⟩:=hw.arcs.box;have ac:=yw w p k _ _ u ab;have aa:∀j,j≠k->(w.setCell ⟨p,k,none⟩ u).cell? ⟨p,j,none⟩=w.cell? ⟨p,j,none⟩:=λj h1=>by rw[ybo _ _ _ _ (by intro h;simp only[ycn] at h;omega)]
 have ad:k<cs.size:=by have h1:=hw.rest k _ hk h0;rw[yi w p k _ _ _ ab] at h1;exact(yc.1 h1).1
 obtain⟨va,g1,g2⟩:=hw.above;refine⟨hw.size,hw.below.setCell (yh _) _,(aa 0 (by omega)).trans hw.c0,(aa 1 (by omega)).trans hw.c1,(aa 2 (by omega)).trans hw.c2,(aa 5 (by omega)).trans hw.c5,(aa 7 (by omega)).trans hw.c7,⟨⟨_,_,ac⟩,(aa 8 (by omega)).trans hw.arcs.c0,(aa 9 (by omega)).trans hw.arcs.c1,λa b ha hb=>(aa _ (by omega)).trans (hw.arcs.said a b ha hb)⟩,⟨va,(aa 74 (by omega)).trans g1,?_⟩,λj v hj hv=>?_⟩
 ·have ae:va.ownBlock≠some p:=λh=>by have:=(g2.lt p h).1;omega
  exact ownsRow_setCell_other g2 ae _
 unfold zlf at hv;by_cases e:j=k
 ·subst e;rw[yg rfl] at hv;cases hv;rw[yi _ p j _ _ _ ac];simp[ad]
 rw[ye e] at hv;rw[aa j e];exact hw.rest j v hj hv
theorem zn7{w0 w:World}{p:Nat}{r:Rd}{ex aa:Nat->Option Value}{P:zo}{vs vf vf2:Value}(hw:zaI w0 w p r ex P vs vf vf2)(h:∀k u,aa k=some u->ex k=some u):zaI w0 w p r aa P vs vf vf2:=⟨hw.size,hw.below,hw.c0,hw.c1,hw.c2,hw.c5,hw.c7,hw.arcs,hw.above,λk u h1 h2=>hw.rest k u h1 (h k u h2)⟩
structure zaW (w:World) (t:Nat) (st:Int) (bh:Nat->Int) (vf:Value):Prop where
 box:∃cs,w.heap[t]?=some (.cells cs 259 (0,0))
 c0:w.cell? ⟨t,0,none⟩=some (.int .i64 st)
 cb:∀s,s<8->w.cell? ⟨t,1+s,none⟩=some (.int .i64 (bh s))
 c9:w.cell? ⟨t,9,none⟩=some vf
theorem zaW.lt{w:World}{t:Nat}{st:Int}{bh:Nat->Int}{vf:Value}(h:zaW w t st bh vf):t<w.heap.size:=by obtain⟨cs,hc⟩:=h.box;exact(yc.1 hc).1
theorem zaW.frozen{w:World}{t:Nat}{st:Int}{bh:Nat->Int}{vf:Value}(h:zaW w t st bh vf)(k:Nat):w.frozen? ⟨t,k,none⟩=false:=by obtain⟨cs,hc⟩:=h.box;exact yv w t k _ _ hc
theorem zaW.block{w w':World}{t:Nat}{st:Int}{bh:Nat->Int}{vf:Value}(h:zaW w t st bh vf)(hb:w'.heap[t]?=w.heap[t]?):zaW w' t st bh vf:=by have hc:∀o,w'.cell? ⟨t,o,none⟩=w.cell? ⟨t,o,none⟩:=λo=>yaz (a:=⟨t,o,none⟩) hb;obtain⟨cs,aa⟩:=h.box;exact⟨⟨cs,hb.trans aa⟩,(hc _).trans h.c0,λi hi=>(hc _).trans (h.cb i hi),(hc _).trans h.c9⟩
theorem zaW.below{w w':World}{t:Nat}{st:Int}{bh:Nat->Int}{vf:Value}(h:zaW w t st bh vf)(hb:Below w.heap.size w w'):zaW w' t st bh vf:=h.block (hb.block _ h.lt)
theorem zaW.putS{w:World}{t:Nat}{st:Int}{bh:Nat->Int}{vf:Value}(h:zaW w t st bh vf)(x:Int):zaW (w.setCell ⟨t,0,none⟩ (.int .i64 x)) t x bh vf:=by
 obtain⟨⟨cs,hc⟩,h0,hb,h9⟩:=h;refine⟨⟨_,yw w t _ _ _ _ hc⟩,?_,λi hi=>?_,?_⟩
 ·rw[zw hc h0 _ h0,yg rfl]
 ·rw[zw hc h0 _ (hb i hi),ye (by omega)]
 rw[zw hc h0 _ h9,ye (by omega)]
theorem zaW.putB{w:World}{t k:Nat}{st:Int}{bh:Nat->Int}{vf:Value}(h:zaW w t st bh vf)(hk:k<8)(x:Int):zaW (w.setCell ⟨t,1+k,none⟩ (.int .i64 x)) t st (up1 bh k x) vf:=by
 obtain⟨⟨cs,hc⟩,h0,hb,h9⟩:=h;refine⟨⟨_,yw w t _ _ _ _ hc⟩,?_,λi hi=>?_,?_⟩
 ·rw[zw hc (hb k hk) _ h0,ye (by omega)]
 ·rw[zw hc (hb k hk) _ (hb i hi)];unfold up1;by_cases e:i=k
  ·rw[yg e,yg (by rw[e])]
  rw[ye e,ye (by omega)]
 rw[zw hc (hb k hk) _ h9,ye (by omega)]
theorem zaW.putV{w:World}{t:Nat}{st:Int}{bh:Nat->Int}{vf:Value}(h:zaW w t st bh vf)(x:Value):zaW (w.setCell ⟨t,9,none⟩ x) t st bh x:=by
 obtain⟨⟨cs,hc⟩,h0,hb,h9⟩:=h;refine⟨⟨_,yw w t _ _ _ _ hc⟩,?_,λi hi=>?_,?_⟩
 ·rw[zw hc h9 _ h0,ye (by omega)]
 ·rw[zw hc h9 _ (hb i hi),ye (by omega)]
 rw[zw hc h9 _ h9,yg rfl]
theorem zta(w:World):zaW (w.alloc (.cells #[.int .i64 0,.int .i64 0,.int .i64 0,.int .i64 0,.int .i64 0,.int .i64 0,.int .i64 0,.int .i64 0,.int .i64 0,.slice none 0 0] 259)) w.heap.size 0 (λ_=>0) (.slice none 0 0):=by
 have hb:=yx w (.cells #[.int .i64 0,.int .i64 0,.int .i64 0,.int .i64 0,.int .i64 0,.int .i64 0,.int .i64 0,.int .i64 0,.int .i64 0,.slice none 0 0] 259);refine⟨⟨_,hb⟩,?_,λi hi=>?_,?_⟩
 ·rw[yi _ _ _ _ _ _ hb];rfl
 ·rw[yi _ _ _ _ _ _ hb]
  match i,hi with
  | 0,_=>rfl
  | 1,_=>rfl
  | 2,_=>rfl
  | 3,_=>rfl
  | 4,_=>rfl
  | 5,_=>rfl
  | 6,_=>rfl
  | 7,_=>rfl
 rw[yi _ _ _ _ _ _ hb];rfl
def bhI(n:Nat)(bh:Nat->Nat)(s:Nat):Int:=if 1<=s/\s<=n then (bh s:Int) else 0
theorem zsX(n:Nat)(bh:Nat->Nat):up1 (bhI n bh) (n+1) (bh (n+1):Int)=bhI (n+1) bh:=by
 funext s;unfold up1 bhI;by_cases e:s=n+1
 ·rw[yg e,yg (by omega),e]
 rw[ye e];by_cases h:1<=s/\s<=n
 ·rw[yg h,yg (by omega)]
 rw[ye h,ye (by omega)]
theorem ztW(bh:Nat->Nat):bhI 0 bh=λ_=>0:=by funext s;unfold bhI;rw[ye (by omega)]
structure zdv (w:World) (t n:Nat) (bh:Nat->Nat) (fs:List Nat):Prop where
 at_:∃vf,zaW w t n (bhI n bh) vf/\w.ownsRow (t+1) 3 1 vf fs.length (zd (zL fs))
theorem zdv.below{w w':World}{t n:Nat}{bh:Nat->Nat}{fs:List Nat}(h:zdv w t n bh fs)(hb:Below w.heap.size w w'):zdv w' t n bh fs:=by obtain⟨vf,h1,h2⟩:=h.at_;exact⟨vf,h1.below hb,ze h2 hb⟩
theorem zdv.lt{w:World}{t n:Nat}{bh:Nat->Nat}{fs:List Nat}(h:zdv w t n bh fs):t<w.heap.size:=by obtain⟨vf,h1,_⟩:=h.at_;exact h1.lt
theorem zdv.behind{w:World}{t n s:Nat}{bh:Nat->Nat}{fs:List Nat}(h:zdv w t n bh fs)(h1:1<=s)(h2:s<=n)(h7:n<=7):w.cell? ⟨t,1+s,none⟩=some (.int .i64 (bh s)):=by obtain⟨vf,h3,_⟩:=h.at_;rw[h3.cb s (by omega)];unfold bhI;rw[yg ⟨h1,h2⟩]
theorem zve(n m:Nat)(col:Nat->Int):fsQ n (m+1) col=fsQ n m col++(if zr n (col (n+m)).toNat≠0 then [zr n (col (n+m)).toNat] else []):=by
 unfold fsQ;rw[yR,yL,yaL];congr 1;by_cases h:zr n (col (n+m)).toNat≠0
 ·rw[yg h];simp[h]
 rw[ye h];simp at h;simp[h]
theorem ztb(c:List Nat)(x:Nat):zL (c++[x])=zL c++[(x:Int)]:=by simp[zL]
theorem zjK(n m:Nat)(col:Nat->Int):(fsQ n m col).length<=m:=by unfold fsQ;have:=yau (λs=>decide (s≠0)) ((List.range m).map λk=>zr n (col (n+k)).toNat);simpa using this
theorem zo8(n v g:Nat)(col:Nat->Int)(vs:Value)(w:World)(hn:n<=7)(hv3:v<=3)(hs:zaR w vs ((List.range (n+v)).map λi=>(zr n i:Int)))(hg:za2 w g (n+v) col)(hc:∀i,i<n+v->∃k:Nat,col i=k/\k<n+v):Calls Tryz.prog 141 #[vs,.slice (some ⟨g,0,none⟩) (n+v) (n+v)] w λe w'=>∃t,e=.returned (.pointer (some ⟨t,0,none⟩))/\w.heap.size<=t/\zdv w' t n (bhQ n col) (fsQ n v col)/\Below w.heap.size w w':=by
 obtain⟨i0,hi,hz0,hz1,hz2⟩:=info_parts Tryz.infoInt;obtain⟨ao,ca,rfl,hr⟩:=hs;have HR:Hid (∀j,j<n+v->∃q,ao=some ⟨q,0,none⟩/\q<w.heap.size/\w.cell? ⟨q,j,none⟩=some (.int .i64 (zr n j:Int))):=λj hj=>by obtain⟨q,h1,h2,h3⟩:=hr j (by simpa using hj);refine⟨q,h1,h2,?_⟩;rw[h3,yj,yal,ybb hj];rfl
 have HG:=hid hg;have HC:=hid hc;have hgl:=hg.lt;have HT0:=hid (zta w);have hlen:((List.range (n+v)).map λi=>(zr n i:Int)).length=n+v:=by simp
 rw[hlen];clear hr hg hc hlen;go_enter Tryz.func141,Tryz.ntmps141;go_wp2_with fail;go_loopw[6] (λi wr=>∃(k:Nat)(vf:Value),k<=n+v/\i=.int .i64 k/\Hid (zaW wr w.heap.size (min k n:Nat) (bhI (min k n) (bhQ n col)) vf)/\Hid (wr.ownsRow (w.heap.size+1) 3 1 vf (fsQ n (k-n) col).length (zd (zL (fsQ n (k-n) col))))/\Hid (Below w.heap.size w wr)) (λi _=>n+v-(intOf i).toNat)
 ·refine⟨0,.slice none 0 0,yu _,rfl,?_,?_,zj w _⟩
  ·show zaW _ _ _ _ _;rw[Nat.zero_min,ztW];exact HT0.out
  show World.ownsRow _ _ _ _ _ _ _;rw[Nat.zero_sub];exact yC _ _ _ _
 clear HT0;obtain⟨k,vf,hk,rfl,HT,HO,HB⟩:=hrel;have htl:=HT.out.lt;have hbs:=HB.out.size;by_cases hlt:k<n+v
 ·obtain⟨q,hao,hql,x0⟩:=HR.out k hlt;subst hao;obtain⟨j,hj,hjn⟩:=HC.out k hlt;obtain⟨q',e',_,x2⟩:=HR.out j hjn;cases e';have x1:=HG.out.cell hlt;rw[hj] at x1;have y0:wr.cell? ⟨q,k,none⟩=_:=(HB.out.cell (by exact hql)).trans x0;have y1:wr.cell? ⟨g,k,none⟩=_:=(HB.out.cell (by exact hgl)).trans x1;have y2:wr.cell? ⟨q,j,none⟩=_:=(HB.out.cell (by exact hql)).trans x2;have lq:q<wr.heap.size:=ya hql hbs;have lg:g<wr.heap.size:=ya hgl hbs;have ik:(0:Int)<=(k:Int):=by omega
  have jk:(k:Int)<((n+v:Nat):Int):=by omega
  have ij:(0:Int)<=(j:Int):=by omega
  have jj:(j:Int)<((n+v:Nat):Int):=by omega
  have hto:zr n j<n+1:=zcT n j;have c0:=HT.out.c0;have c9:=HT.out.c9;have fz0:=HT.out.frozen 0;have fz9:=HT.out.frozen 9;clear x0 x1 x2;by_cases hkn:k<n
  ·have ef:zr n k=k+1:=by unfold zr;rw[yg hkn]
   rw[ef] at y0;have cb:=HT.out.cb (k+1) (by omega);have fzb:=HT.out.frozen (1+(k+1));have HX:Hid (zaW ((wr.setCell ⟨w.heap.size,0,none⟩ (.int .i64 ((k:Int)+1))).setCell ⟨w.heap.size,1+(k+1),none⟩ (.int .i64 (zr n j:Int))) w.heap.size (min (k+1) n:Nat) (bhI (min (k+1) n) (bhQ n col)) vf):=by
    have h1:=(HT.out.putS ((k:Int)+1)).putB (k:=k+1) (by omega) (zr n j:Int);show zaW _ _ _ _ _;rw[show min (k+1) n=k+1 by omega,<-zsX];have e2:bhQ n col (k+1)=zr n j:=by unfold bhQ;rw[yab,hj];rfl
    rw[e2];rw[show min k n=k by omega] at h1;exact h1
   have e0:(((k+1:Nat):Int) != 0)=true:=by simp;omega
   have wk:IntKind.i64.wrap ((min k n:Nat)+1:Int)=(k:Int)+1:=by rw[zm _ (by omega)];omega
   have i1:(0:Int)<=((k+1:Nat):Int):=by omega
   have j1:((k+1:Nat):Int)<8:=by omega
   go_wp2_with go_in;go_roundw
   ·refine⟨k+1,vf,by omega,by go_num,HX,?_,(HB.out.setCell (by exact yh _) _).setCell (by exact yh _) _⟩;show World.ownsRow _ _ _ _ _ _ _;rw[show k+1-n=k-n by omega];exact zaQ (zaQ HO.out (by omega)) (by omega)
   simp[intOf];omega
  have ef:zr n k=0:=by unfold zr;rw[ye hkn]
  rw[ef] at y0;have e0:(((0:Nat):Int) != 0)=false:=by simp
  have HFS:Hid (fsQ n (k+1-n) col=fsQ n (k-n) col++(if zr n j≠0 then [zr n j] else [])):=by show _=_;rw[show k+1-n=(k-n)+1 by omega,zve,show n+(k-n)=k by omega,hj];rfl
  have HMN:Hid (min (k+1) n=min k n):=by show _=_;omega
  have hfl:=zjK n (k-n) col;by_cases hto0:zr n j=0
  ·rw[ye (by omega),yY] at HFS;have e1:((zr n j:Int) != 0)=false:=by simp[hto0]
   clear hto0;go_wp2_with go_in;go_roundw
   ·exact⟨k+1,vf,by omega,by go_num,by show zaW _ _ _ _ _;rw[HMN.out];exact HT.out,by show World.ownsRow _ _ _ _ _ _ _;rw[HFS.out];exact HO.out,HB⟩
   simp[intOf];omega
  rw[yg hto0] at HFS;have e1:((zr n j:Int) != 0)=true:=by simpa using hto0
  clear hto0;obtain⟨af,cf,rfl,_,_⟩:=zg HO.out;generalize zr n j=to at*;go_wp2_with(first
   | (at_builtin;refine yy _ rfl _ _ 40 rfl (w.heap.size+1) 3 i0 (.int .i64 0) 1 8 Tryz.underlying40 hi hz0 hz1 hz2 rfl (by decide) _ _ _ rfl (HO.out.alloc _) ⟨wr.heap.size,0,none⟩ 1 1 [.int .i64 (to:Nat)] rfl rfl ?c1 ?c2 ?c3 ?c4 ?c5 ?_)
   | go_in)
  case c1=>exact cell_one_new _ _ _
  case c2=>intro u hu;simp at hu;subst hu;rfl
  case c3=>unfold maxLen;omega
  case c4=>omega
  case c5=>simp;omega
  intro v2 w2 hown2 hgr2 _;have hb2:w2.heap[w.heap.size]?=wr.heap[w.heap.size]?:=by rw[hgr2.block _ (by simp;omega) (λh=>by have:=(HO.out.lt _ h.symm).1;omega)];exact yT _ _ _ htl
  have HT2:=hid (HT.out.block hb2);have HO2:=hid hown2;obtain⟨a2,c2,rfl,_,_⟩:=zg hown2;have HB2:Hid (Below w.heap.size w w2):=(HB.out.alloc (by omega) _).grown hgr2 (by simp;omega) (λx hx=>by have:=(HO.out.lt x hx).1;omega);have d9:=HT2.out.c9;have dl:=HT2.out.lt;have df:=HT2.out.frozen 9;clear hown2 hgr2 hb2;go_wp2_with go_in;go_roundw
  ·refine⟨k+1,.slice a2 ((fsQ n (k-n) col).length+1) c2,by omega,by go_num,?_,?_,HB2.out.setCell (by exact yh _) _⟩
   ·show zaW _ _ _ _ _;rw[HMN.out];exact HT2.out.putV _
   show World.ownsRow _ _ _ _ _ _ _;rw[HFS.out,yz,ztb,zaY];exact zaQ HO2.out (by omega)
  simp[intOf];omega
 obtain rfl:k=n+v:=by omega
 have HX:Hid (zdv wr w.heap.size n (bhQ n col) (fsQ n v col)):=by have h1:=HT.out;have h2:=HO.out;rw[show min (n+v) n=n by omega] at h1;rw[show n+v-n=v by omega] at h2;exact⟨vf,h1,h2⟩
 go_wp2_with fail;go_ret;exact⟨_,rfl,yh _,HX.out,HB.out⟩
end Go.Proofs.YtebinaopncclgabGreatDoor
