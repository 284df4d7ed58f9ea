import Derived.Test.YtebinaopncclgabGreatDoorWaysZ
import Derived.Test.YtebinaopncclgabGreatDoorADet
set_option maxRecDepth 100000
set_option maxHeartbeats 8000000
namespace Go.Proofs.YtebinaopncclgabGreatDoor
open Go.RowKit Go.IntWalk
structure zY (w:World) (p n:Nat) (vc:Value) (u v ow:Nat->Int):Prop where
 box:∃cs,w.heap[p]?=some (.cells cs 240 (0,0))
 c0:w.cell? ⟨p,0,none⟩=some (.int .i64 n)
 c1:w.cell? ⟨p,1,none⟩=some vc
 cu:∀i,i<10->w.cell? ⟨p,2+i,none⟩=some (.int .i64 (u i))
 cv:∀i,i<10->w.cell? ⟨p,12+i,none⟩=some (.int .i64 (v i))
 co:∀i,i<10->w.cell? ⟨p,22+i,none⟩=some (.int .i64 (ow i))
structure zN (w:World) (q root:Nat) (far fr:Nat->Int) (dn:Nat->Bool):Prop where
 box:∃cs,w.heap[q]?=some (.cells cs 244 (0,0))
 c0:w.cell? ⟨q,0,none⟩=some (.int .i64 root)
 cf:∀i,i<10->w.cell? ⟨q,1+i,none⟩=some (.int .i64 (far i))
 cr:∀i,i<10->w.cell? ⟨q,11+i,none⟩=some (.int .i64 (fr i))
 cd:∀i,i<10->w.cell? ⟨q,21+i,none⟩=some (.bool (dn i))
theorem zY.lt{w:World}{p n:Nat}{vc:Value}{u v ow:Nat->Int}(h:zY w p n vc u v ow):p<w.heap.size:=by obtain⟨cs,hc⟩:=h.box;exact(yc.1 hc).1
theorem zN.lt{w:World}{q root:Nat}{far fr:Nat->Int}{dn:Nat->Bool}(h:zN w q root far fr dn):q<w.heap.size:=by obtain⟨cs,hc⟩:=h.box;exact(yc.1 hc).1
theorem zY.frozen{w:World}{p n:Nat}{vc:Value}{u v ow:Nat->Int}(h:zY w p n vc u v ow)(k:Nat):w.frozen? ⟨p,k,none⟩=false:=by obtain⟨cs,hc⟩:=h.box;exact yv w p k _ _ hc
theorem zN.frozen{w:World}{q root:Nat}{far fr:Nat->Int}{dn:Nat->Bool}(h:zN w q root far fr dn)(k:Nat):w.frozen? ⟨q,k,none⟩=false:=by obtain⟨cs,hc⟩:=h.box;exact yv w q k _ _ hc
theorem zY.block{w w':World}{p n:Nat}{vc:Value}{u v ow:Nat->Int}(h:zY w p n vc u v ow)(hb:w'.heap[p]?=w.heap[p]?):zY w' p n vc u v ow:=by have hc:∀o,w'.cell? ⟨p,o,none⟩=w.cell? ⟨p,o,none⟩:=λo=>yaz (a:=⟨p,o,none⟩) hb;obtain⟨cs,aa⟩:=h.box;exact⟨⟨cs,hb.trans aa⟩,(hc _).trans h.c0,(hc _).trans h.c1,λi hi=>(hc _).trans (h.cu i hi),λi hi=>(hc _).trans (h.cv i hi),λi hi=>(hc _).trans (h.co i hi)⟩
theorem zN.block{w w':World}{q root:Nat}{far fr:Nat->Int}{dn:Nat->Bool}(h:zN w q root far fr dn)(hb:w'.heap[q]?=w.heap[q]?):zN w' q root far fr dn:=by have hc:∀o,w'.cell? ⟨q,o,none⟩=w.cell? ⟨q,o,none⟩:=λo=>yaz (a:=⟨q,o,none⟩) hb;obtain⟨cs,aa⟩:=h.box;exact⟨⟨cs,hb.trans aa⟩,(hc _).trans h.c0,λi hi=>(hc _).trans (h.cf i hi),λi hi=>(hc _).trans (h.cr i hi),λi hi=>(hc _).trans (h.cd i hi)⟩
theorem zY.below{w w':World}{p n:Nat}{vc:Value}{u v ow:Nat->Int}(h:zY w p n vc u v ow)(hb:Below w.heap.size w w'):zY w' p n vc u v ow:=h.block (hb.block _ h.lt)
theorem zN.below{w w':World}{q root:Nat}{far fr:Nat->Int}{dn:Nat->Bool}(h:zN w q root far fr dn)(hb:Below w.heap.size w w'):zN w' q root far fr dn:=h.block (hb.block _ h.lt)
theorem zY.aside{w:World}{p q n o:Nat}{vc:Value}{u v ow:Nat->Int}(h:zY w p n vc u v ow)(aa:p≠q)(x:Value):zY (w.setCell ⟨q,o,none⟩ x) p n vc u v ow:=h.block (yt _ _ _ _ (by exact aa))
theorem zN.aside{w:World}{p q root o:Nat}{far fr:Nat->Int}{dn:Nat->Bool}(h:zN w q root far fr dn)(aa:q≠p)(x:Value):zN (w.setCell ⟨p,o,none⟩ x) q root far fr dn:=h.block (yt _ _ _ _ (by exact aa))
theorem zN.putF{w:World}{q root k:Nat}{far fr:Nat->Int}{dn:Nat->Bool}(h:zN w q root far fr dn)(hk:k<10)(x:Int):zN (w.setCell ⟨q,1+k,none⟩ (.int .i64 x)) q root (up1 far k x) fr dn:=by
 obtain⟨⟨cs,hc⟩,h0,hf,hr,hd⟩:=h;refine⟨⟨_,yw w q _ _ _ _ hc⟩,?_,λi hi=>?_,λi hi=>?_,λi hi=>?_⟩
 ·rw[zw hc (hf k hk) _ h0,ye (by omega)]
 ·rw[zw hc (hf k hk) _ (hf i hi)];unfold up1;by_cases e:i=k
  ·rw[yg e,yg (by rw[e])]
  rw[ye e,ye (by omega)]
 ·rw[zw hc (hf k hk) _ (hr i hi),ye (by omega)]
 rw[zw hc (hf k hk) _ (hd i hi),ye (by omega)]
theorem zN.putR{w:World}{q root k:Nat}{far fr:Nat->Int}{dn:Nat->Bool}(h:zN w q root far fr dn)(hk:k<10)(x:Int):zN (w.setCell ⟨q,11+k,none⟩ (.int .i64 x)) q root far (up1 fr k x) dn:=by
 obtain⟨⟨cs,hc⟩,h0,hf,hr,hd⟩:=h;refine⟨⟨_,yw w q _ _ _ _ hc⟩,?_,λi hi=>?_,λi hi=>?_,λi hi=>?_⟩
 ·rw[zw hc (hr k hk) _ h0,ye (by omega)]
 ·rw[zw hc (hr k hk) _ (hf i hi),ye (by omega)]
 ·rw[zw hc (hr k hk) _ (hr i hi)];unfold up1;by_cases e:i=k
  ·rw[yg e,yg (by rw[e])]
  rw[ye e,ye (by omega)]
 rw[zw hc (hr k hk) _ (hd i hi),ye (by omega)]
theorem zN.putD{w:World}{q root k:Nat}{far fr:Nat->Int}{dn:Nat->Bool}(h:zN w q root far fr dn)(hk:k<10)(x:Bool):zN (w.setCell ⟨q,21+k,none⟩ (.bool x)) q root far fr (up1 dn k x):=by
 obtain⟨⟨cs,hc⟩,h0,hf,hr,hd⟩:=h;refine⟨⟨_,yw w q _ _ _ _ hc⟩,?_,λi hi=>?_,λi hi=>?_,λi hi=>?_⟩
 ·rw[zw hc (hd k hk) _ h0,ye (by omega)]
 ·rw[zw hc (hd k hk) _ (hf i hi),ye (by omega)]
 ·rw[zw hc (hd k hk) _ (hr i hi),ye (by omega)]
 rw[zw hc (hd k hk) _ (hd i hi)];unfold up1;by_cases e:i=k
 ·rw[yg e,yg (by rw[e])]
 rw[ye e,ye (by omega)]
theorem zY.putU{w:World}{p n k:Nat}{vc:Value}{u v ow:Nat->Int}(h:zY w p n vc u v ow)(hk:k<10)(x:Int):zY (w.setCell ⟨p,2+k,none⟩ (.int .i64 x)) p n vc (up1 u k x) v ow:=by
 obtain⟨⟨cs,hc⟩,h0,h1,hu,hv,ho⟩:=h;refine⟨⟨_,yw w p _ _ _ _ hc⟩,?_,?_,λi hi=>?_,λi hi=>?_,λi hi=>?_⟩
 ·rw[zw hc (hu k hk) _ h0,ye (by omega)]
 ·rw[zw hc (hu k hk) _ h1,ye (by omega)]
 ·rw[zw hc (hu k hk) _ (hu i hi)];unfold up1;by_cases e:i=k
  ·rw[yg e,yg (by rw[e])]
  rw[ye e,ye (by omega)]
 ·rw[zw hc (hu k hk) _ (hv i hi),ye (by omega)]
 rw[zw hc (hu k hk) _ (ho i hi),ye (by omega)]
theorem zY.putV{w:World}{p n k:Nat}{vc:Value}{u v ow:Nat->Int}(h:zY w p n vc u v ow)(hk:k<10)(x:Int):zY (w.setCell ⟨p,12+k,none⟩ (.int .i64 x)) p n vc u (up1 v k x) ow:=by
 obtain⟨⟨cs,hc⟩,h0,h1,hu,hv,ho⟩:=h;refine⟨⟨_,yw w p _ _ _ _ hc⟩,?_,?_,λi hi=>?_,λi hi=>?_,λi hi=>?_⟩
 ·rw[zw hc (hv k hk) _ h0,ye (by omega)]
 ·rw[zw hc (hv k hk) _ h1,ye (by omega)]
 ·rw[zw hc (hv k hk) _ (hu i hi),ye (by omega)]
 ·rw[zw hc (hv k hk) _ (hv i hi)];unfold up1;by_cases e:i=k
  ·rw[yg e,yg (by rw[e])]
  rw[ye e,ye (by omega)]
 rw[zw hc (hv k hk) _ (ho i hi),ye (by omega)]
theorem zY.putO{w:World}{p n k:Nat}{vc:Value}{u v ow:Nat->Int}(h:zY w p n vc u v ow)(hk:k<10)(x:Int):zY (w.setCell ⟨p,22+k,none⟩ (.int .i64 x)) p n vc u v (up1 ow k x):=by
 obtain⟨⟨cs,hc⟩,h0,h1,hu,hv,ho⟩:=h;refine⟨⟨_,yw w p _ _ _ _ hc⟩,?_,?_,λi hi=>?_,λi hi=>?_,λi hi=>?_⟩
 ·rw[zw hc (ho k hk) _ h0,ye (by omega)]
 ·rw[zw hc (ho k hk) _ h1,ye (by omega)]
 ·rw[zw hc (ho k hk) _ (hu i hi),ye (by omega)]
 ·rw[zw hc (ho k hk) _ (hv i hi),ye (by omega)]
 rw[zw hc (ho k hk) _ (ho i hi)];unfold up1;by_cases e:i=k
 ·rw[yg e,yg (by rw[e])]
 rw[ye e,ye (by omega)]
theorem zbP{B:Nat}{w w':World}(h:Below B w w')(m:Nat):Below B w (w'.drewN m):=⟨h.os,h.tape,h.output,h.size,h.block⟩
theorem zmX(p q n root:Nat)(vc:Value)(u v ow far fr:Nat->Int)(dn:Nat->Bool)(w:World)(hn:n<=10)(ht:zY w p n vc u v ow)(hh:zN w q root far fr dn):Calls Tryz.prog 208 #[.pointer (some ⟨p,0,none⟩),.pointer (some ⟨q,0,none⟩)] w λe w'=>e=.returned (.int .i64 (zch n far dn))/\Below w.heap.size w w':=by
 have HT:=hid ht;have HH:=hid hh;have hpl:=ht.lt;have hql:=hh.lt;clear ht hh;go_in;go_wp2_with fail;go_loopw[5,6] (λbv i wr=>∃(k:Nat)(b:Int),k<=n/\i=.int .i64 k/\bv=.int .i64 b/\Hid (zch k far dn=b)/\Hid (b=-1\/∃m:Nat,b=m/\m<k)/\Hid (Below w.heap.size w wr)) (λ_ i _=>n-(intOf i).toNat)
 ·exact⟨0,-1,yu _,rfl,rfl,rfl,.inl rfl,yk _ _⟩
 obtain⟨k,b,hk,rfl,rfl,HN,HM,HB⟩:=hrel;have ae:=hid (HT.out.below HB.out);have ac:=hid (HH.out.below HB.out);have t0:=ae.out.c0;have hpw:=ae.out.lt;have hqw:=ac.out.lt;by_cases hlt:k<n
 ·have d0:=ac.out.cd k (by omega);have f0:=ac.out.cf k (by omega);have ik:(0:Int)<=(k:Int):=by omega
  have jk:(k:Int)<10:=by omega
  have HS:Hid (zch (k+1) far dn=zdc far dn b k):=by show _=_;rw[zkZ,HN.out]
  have ad:Hid (b=-1\/∃m:Nat,b=m/\m<k+1):=by
   rcases HM.out with h|⟨m,h1,h2⟩
   ·exact .inl h
   exact .inr ⟨m,h1,by omega⟩
  cases hdk:dn k
  ·rw[hdk] at d0;by_cases aa:far k=-1
   ·have c1:(far k==(-1:Int))=true:=by simp[aa]
    have HX:Hid (zch (k+1) far dn=b):=by show _=_;rw[HS.out];unfold zdc;rw[yg (.inr aa)]
    clear aa HS;go_wp2_with go_in;go_roundw
    ·exact⟨k+1,b,by omega,by go_num,rfl,HX,ad,by first|exact HB|exact HB.out.drew|exact zbP HB.out _⟩
    simp[intOf];omega
   have c1:(far k==(-1:Int))=false:=by simpa using aa
   by_cases ab:b=-1
   ·have c2:(b==(-1:Int))=true:=by simp[ab]
    have HX:Hid (zch (k+1) far dn=(k:Int)):=by show _=_;rw[HS.out];unfold zdc;rw[ye (by rintro (h|h);rw[hdk] at h;cases h;exact aa h),yg (.inl ab)]
    clear aa ab HS;go_wp2_with go_in;go_quiet (fail);go_wp2;go_roundw
    ·exact⟨k+1,(k:Int),by omega,by go_num,rfl,HX,.inr ⟨k,rfl,by omega⟩,by first|exact HB|exact HB.out.drew|exact zbP HB.out _⟩
    simp[intOf];omega
   have c2:(b==(-1:Int))=false:=by simpa using ab
   obtain⟨m,rfl,hmk⟩:∃m:Nat,b=m/\m<k:=by
    rcases HM.out with h|h
    ·exact absurd h ab
    exact h
   have f1:=ac.out.cf m (by omega);have im:(0:Int)<=(m:Int):=by omega
   have jm:(m:Int)<10:=by omega
   by_cases hl:far k<far m
   ·have HX:Hid (zch (k+1) far dn=(k:Int)):=by show _=_;rw[HS.out];unfold zdc;rw[ye (by rintro (h|h);rw[hdk] at h;cases h;exact aa h),yg (.inr (by simpa using hl))]
    clear aa ab HS;go_wp2_with go_in;go_quiet (fail);go_wp2;go_roundw
    ·exact⟨k+1,(k:Int),by omega,by go_num,rfl,HX,.inr ⟨k,rfl,by omega⟩,by first|exact HB|exact HB.out.drew|exact zbP HB.out _⟩
    simp[intOf];omega
   have HX:Hid (zch (k+1) far dn=(m:Int)):=by show _=_;rw[HS.out];unfold zdc;rw[ye (by rintro (h|h);rw[hdk] at h;cases h;exact aa h),ye (by rintro (h|h);exact ab h;exact hl (by simpa using h))]
   clear aa ab HS;go_wp2_with go_in;go_quiet (fail);go_wp2;go_roundw
   ·exact⟨k+1,(m:Int),by omega,by go_num,rfl,HX,ad,by first|exact HB|exact HB.out.drew|exact zbP HB.out _⟩
   simp[intOf];omega
  rw[hdk] at d0;have HX:Hid (zch (k+1) far dn=b):=by show _=_;rw[HS.out];unfold zdc;rw[yg (.inl hdk)]
  clear HS;go_wp2_with go_in;go_roundw
  ·exact⟨k+1,b,by omega,by go_num,rfl,HX,ad,by first|exact HB|exact HB.out.drew|exact zbP HB.out _⟩
  simp[intOf];omega
 have HX:Hid (zch n far dn=b):=by show _=_;rw[<-HN.out,show k=n by omega]
 go_wp2_with go_in;go_ret;exact⟨zK HX.out.symm,HB.out⟩
theorem zuM(C:Nat->Nat->Int)(u v:Nat->Int)(row:Nat)(start:Int)(far:Nat->Int)(dn:Nat->Bool)(k:Nat):zag k C u v row start far dn k=far k:=by unfold zag;rw[ye (λh=>by have:=h.1;omega)]
theorem zww{C:Nat->Nat->Int}{u v:Nat->Int}{row:Nat}{start:Int}{far:Nat->Int}{dn:Nat->Bool}{k:Nat}(frm:Int)(fr:Nat->Int)(h:¬(dn k=false/\C row k≠-1/\(far k=-1\/start+C row k-u row-v k<far k))):zag (k+1) C u v row start far dn=zag k C u v row start far dn/\zbM (k+1) C u v row frm start far fr dn=zbM k C u v row frm start far fr dn:=by
 have e:∀c,(spC (k+1) C u v row start far dn c↔spC k C u v row start far dn c):=λc=>by
  unfold spC;constructor
  ·rintro⟨h1,h2⟩;by_cases e:c=k
   ·subst e;exact absurd h2 h
   exact⟨by omega,h2⟩
  rintro⟨h1,h2⟩;exact⟨by omega,h2⟩
 constructor<;>funext c
 ·unfold zag;simp only[e]
 unfold zbM;simp only[e]
theorem zvK{C:Nat->Nat->Int}{u v:Nat->Int}{row:Nat}{start:Int}{far:Nat->Int}{dn:Nat->Bool}{k:Nat}(frm:Int)(fr:Nat->Int)(h:dn k=false/\C row k≠-1/\(far k=-1\/start+C row k-u row-v k<far k)):zag (k+1) C u v row start far dn=up1 (zag k C u v row start far dn) k (start+C row k-u row-v k)/\zbM (k+1) C u v row frm start far fr dn=up1 (zbM k C u v row frm start far fr dn) k frm:=by
 have e1:∀c,c≠k->(spC (k+1) C u v row start far dn c↔spC k C u v row start far dn c):=λc hc=>by unfold spC;exact⟨λh=>⟨by omega,h.2⟩,λh=>⟨by omega,h.2⟩⟩
 have e2:spC (k+1) C u v row start far dn k:=⟨by omega,h⟩
 constructor<;>funext c
 ·unfold up1;by_cases hc:c=k
  ·subst hc;rw[yg rfl];unfold zag;rw[yg e2]
  rw[ye hc];unfold zag;simp only[e1 c hc]
 unfold up1;by_cases hc:c=k
 ·subst hc;rw[yg rfl];unfold zbM;rw[yg e2]
 rw[ye hc];unfold zbM;simp only[e1 c hc]
theorem znP(C:Nat->Nat->Int)(u v:Nat->Int)(row:Nat)(frm start:Int)(far fr:Nat->Int)(dn:Nat->Bool):zag 0 C u v row start far dn=far/\zbM 0 C u v row frm start far fr dn=fr:=by
 constructor<;>funext c
 ·unfold zag;rw[ye (λh=>by have:=h.1;omega)]
 unfold zbM;rw[ye (λh=>by have:=h.1;omega)]
theorem zoA(p q n root row:Nat)(C:Nat->Nat->Int)(vc:Value)(u v ow far fr:Nat->Int)(dn:Nat->Bool)(frm start:Int)(wb w:World)(hn:n<=10)(ae:row<n)(ai:p≠q)(aj:wb.heap.size<=q)(hB:Below wb.heap.size wb w)(ak:SqR wb vc n C)(hc:zev n C)(hs:-1000000000<=start/\start<=1000000000)(hu:∀i,i<n->-1000000000<=u i/\u i<=1000000000)(hv:∀i,i<n->-1000000000<=v i/\v i<=1000000000)(ht:zY w p n vc u v ow)(hh:zN w q root far fr dn):Calls Tryz.prog 207 #[.pointer (some ⟨p,0,none⟩),.pointer (some ⟨q,0,none⟩),.int .i64 row,.int .i64 frm,.int .i64 start] w λe w'=>e=.returned (.tuple #[])/\zN w' q root (zag n C u v row start far dn) (zbM n C u v row frm start far fr dn) dn/\zY w' p n vc u v ow/\Below wb.heap.size wb w':=by
 have HT:=hid ht;have HH:=hid hh;have HB:=hid hB;have HC:=hid hc;have HU:=hid hu;have HV:=hid hv;obtain⟨af,cf,rfl,_,ak⟩:=ak;obtain⟨fg,fgi,fci,rfl,an,aw,ah,ap⟩:=ak row ae;have au:=hid ap;have ay:=hu row ae;clear ht hh hB hc hu hv ak ap;go_in;go_wp2_with fail;go_loopw[10] (λi wr=>∃k:Nat,k<=n/\i=.int .i64 k/\Hid (zN wr q root (zag k C u v row start far dn) (zbM k C u v row frm start far fr dn) dn)/\Hid (zY wr p n (.slice (some ⟨fg,0,none⟩) n cf) u v ow)/\Hid (Below wb.heap.size wb wr)) (λi _=>n-(intOf i).toNat)
 ·exact⟨0,yu _,rfl,by rw[(znP C u v row frm start far fr dn).1,(znP C u v row frm start far fr dn).2];exact HH,HT,HB⟩
 clear HT HH HB;obtain⟨k,hk,rfl,HH,HT,HB⟩:=hrel;have t0:=HT.out.c0;have hpw:=HT.out.lt;have hqw:=HH.out.lt;by_cases al:k<n
 ·have t1:=HT.out.c1;have tu:=HT.out.cu row (by omega);have tv:=HT.out.cv k (by omega);have d0:=HH.out.cd k (by omega);have f0:=HH.out.cf k (by omega);have r0:=HH.out.cr k (by omega);have hfz:=HH.out.frozen;have aA:=zc HB.out (au.out k al) ah;have hxf:=zc HB.out aw an;have hg1:=ya an HB.out.size;have hg2:=ya ah HB.out.size;have av:=HC.out row k ae al;have az:=HV.out k al;have ik:(0:Int)<=(k:Int):=by omega
  have jk:(k:Int)<10:=by omega
  have jkn:(k:Int)<(n:Int):=by omega
  have ir:(0:Int)<=(row:Int):=by omega
  have jr:(row:Int)<10:=by omega
  have jrn:(row:Int)<(n:Int):=by omega
  rw[zuM] at f0;have ab:=hid (zww (C:=C) (u:=u) (v:=v) (row:=row) (start:=start) (far:=far) (dn:=dn) (k:=k) frm fr);have aa:=hid (zvK (C:=C) (u:=u) (v:=v) (row:=row) (start:=start) (far:=far) (dn:=dn) (k:=k) frm fr);cases ag:dn k
  ·rw[ag] at d0;by_cases ac:C row k=-1
   ·have HX:=hid (ab.out (λh=>h.2.1 ac));have c1:(C row k==(-1:Int))=true:=by simp[ac]
    clear ac ab aa;go_wp2_with go_in;go_roundw
    ·exact⟨k+1,by omega,by go_num,by rw[HX.out.1,HX.out.2];first|exact HH|exact HH.out.block rfl,by first|exact HT|exact HT.out.block rfl,by first|exact HB|exact HB.out.drew⟩
    simp[intOf];omega
   have c1:(C row k==(-1:Int))=false:=by simpa using ac
   obtain⟨d,hd⟩:∃d,d=C row k:=⟨_,rfl⟩
   rw[<-hd] at aA c1 av ab aa ac;obtain⟨ur,aq⟩:∃ur,ur=u row:=⟨_,rfl⟩
   rw[<-aq] at tu ay ab aa;obtain⟨vk,ar⟩:∃vk,vk=v k:=⟨_,rfl⟩
   rw[<-ar] at tv az ab aa;obtain⟨fk,ao⟩:∃fk,fk=far k:=⟨_,rfl⟩
   rw[<-ao] at f0 ab aa;have w1:IntKind.i64.wrap (start+d)=start+d:=zm _ (by omega);have w2:IntKind.i64.wrap (start+d-ur)=start+d-ur:=zm _ (by omega);have w3:IntKind.i64.wrap (start+d-ur-vk)=start+d-ur-vk:=zm _ (by omega);clear hd aq ar ao;by_cases ad:fk=-1
   ·have e1:(fk==(-1:Int))=true:=by simp[ad]
    have HX:=hid (aa.out ⟨ag,ac,.inl ad⟩);clear ad aa ab ac;go_wp2_with go_in;go_quiet (fail);go_wp2_with go_in;go_roundw
    ·exact⟨k+1,by omega,by go_num,by rw[HX.out.1,HX.out.2];exact((HH.out.block (w':=wr.drewN _) rfl).putF (by omega) _).putR (by omega) _,((HT.out.block (w':=wr.drewN _) rfl).aside ai _).aside ai _,((zbP HB.out _).setCell (by exact aj) _).setCell (by exact aj) _⟩
    simp[intOf];omega
   have e1:(fk==(-1:Int))=false:=by simpa using ad
   by_cases am:start+d-ur-vk<fk
   ·have HX:=hid (aa.out ⟨ag,ac,.inr am⟩);clear ad aa ab ac;go_wp2_with go_in;go_quiet (fail);go_wp2_with go_in;go_roundw
    ·exact⟨k+1,by omega,by go_num,by rw[HX.out.1,HX.out.2];exact((HH.out.block (w':=wr.drewN _) rfl).putF (by omega) _).putR (by omega) _,((HT.out.block (w':=wr.drewN _) rfl).aside ai _).aside ai _,((zbP HB.out _).setCell (by exact aj) _).setCell (by exact aj) _⟩
    simp[intOf];omega
   have HX:=hid (ab.out (λh=>by rcases h.2.2 with h|h;exact ad h;exact am h));clear ad aa ab ac;go_wp2_with go_in;go_quiet (fail);go_wp2_with go_in;go_roundw
   ·exact⟨k+1,by omega,by go_num,by rw[HX.out.1,HX.out.2];exact HH.out.block rfl,HT.out.block rfl,zbP HB.out _⟩
   simp[intOf];omega
  rw[ag] at d0;have HX:=hid (ab.out (λh=>(by rw[ag] at h;cases h.1)));clear ab aa;go_wp2_with go_in;go_roundw
  ·exact⟨k+1,by omega,by go_num,by rw[HX.out.1,HX.out.2];first|exact HH|exact HH.out.block rfl,by first|exact HT|exact HT.out.block rfl,by first|exact HB|exact HB.out.drew⟩
  simp[intOf];omega
 have ax:k=n:=by omega
 subst ax;go_wp2_with go_in;refine ya8 (v:=.tuple #[]) (by simp[results,Tryz.results207,go_sem]) rfl ?_;exact⟨rfl,HH.out,HT.out,HB.out⟩
open Classical in
noncomputable def zfI(w:World)(q n:Nat):Nat:=((List.range n).filter λi=>decide (w.cell? ⟨q,21+i,none⟩=some (.bool true))).length
theorem zkz{w:World}{q root n:Nat}{far fr:Nat->Int}{dn:Nat->Bool}(h:zN w q root far fr dn)(hn:n<=10):zfI w q n=dnN n dn:=by
 unfold zfI dnN;congr 1;apply List.filter_congr;intro i hi;have hi2:i<n:=by simpa using hi
 rw[h.cd i (by omega)];cases dn i<;>simp
theorem zdl.mark{n:Nat}{C:Nat->Nat->Int}{u v ow:Nat->Int}{root:Nat}{far fr:Nat->Int}{dn:Nat->Bool}{ord:Nat->Nat}{cnt k:Nat}(h:zdl n C u v ow root far fr dn ord cnt (λc=>dn c=true))(hk:k<n)(hd:dn k=false)(hf:far k≠-1)(hm:∀c,c<n->dn c=false->far c≠-1->far k<=far c):zdl n C u v ow root far fr (up1 dn k true) (up1 ord k cnt) (cnt+1) (λc=>up1 dn k true c=true/\c≠k):=by
 have e:(λc=>up1 dn k true c=true/\c≠k)=λc=>dn c=true:=by
  funext c;apply propext;unfold up1;by_cases h:c=k
  ·subst h;simp[hd]
  simp[h]
 rw[e];exact zsA h hk hd hf hm
theorem zdU.ub{n:Nat}{C:Nat->Nat->Int}{u v ow:Nat->Int}{root:Nat}(h:zdU n C u v ow root)(hn:n<=10)(hr:root<=n):(∀i,i<n->0<=u i/\u i<=20000000)/\(∀i,i<n->-20000000<=v i/\v i<=0):=by
 have:(root:Int)*2000000<=20000000:=by omega
 exact⟨λi hi=>⟨h.upos i hi,by have:=h.ubd i hi;omega⟩,λi hi=>⟨by have:=h.vbd i hi;omega,h.vneg i hi⟩⟩
theorem zdl.end_{n:Nat}{C:Nat->Nat->Int}{u v ow:Nat->Int}{root:Nat}{far fr:Nat->Int}{dn:Nat->Bool}{ord:Nat->Nat}{k:Nat}(hn:n<=10)(ht:zdU n C u v ow root)(h:zdl n C u v ow root far fr dn ord (dnN n dn) (λc=>dn c=true))(hk:k<n)(hd:dn k=false)(hf:far k≠-1)(hm:∀c,c<n->dn c=false->far c≠-1->far k<=far c)(ho:ow k=-1):zi5 n C u v ow root far fr (up1 dn k true) (up1 ord k (dnN n dn)) (dnN n dn+1) k:=by
 refine⟨h.mark hk hd hf hm,hk,by unfold up1;simp,ho,λc hc aa=>?_,?_⟩
 ·unfold up1 at aa;by_cases e:c=k
  ·rw[e];exact yaB _
  rw[ye e] at aa;exact h.mon c hc aa k hk hd hf
 have h1:=h.bd k hk hf;have h2:=ht.free k hk ho;have h3:=zqW hk hd;have h4:=zqF n (up1 dn k true);omega
def zr8(p q n root:Nat)(C:Nat->Nat->Int)(vc:Value)(u v ow far0 fr0:Nat->Int)(wb:World)(e:Ending)(w':World):Prop:=∃far fr dn ord cnt,zN w' q root far fr dn/\zY w' p n vc u v ow/\Below wb.heap.size wb w' /\((e=.returned (.int .i64 (-1))/\(zdl n C u v ow root far fr dn ord cnt (λc=>dn c=true)/\∀c,c<n->dn c=true\/far c=-1)/\zc3 n C u v ow (zag n C u v root 0 (zbi (-1) far0 n) (λ_=>false)) (zbM n C u v root (-1) 0 (zbi (-1) far0 n) fr0 (λ_=>false)) (λ_=>false) far fr dn (-1))\/∃c:Nat,e=.returned (.int .i64 c)/\zi5 n C u v ow root far fr dn ord cnt c/\zc3 n C u v ow (zag n C u v root 0 (zbi (-1) far0 n) (λ_=>false)) (zbM n C u v root (-1) 0 (zbi (-1) far0 n) fr0 (λ_=>false)) (λ_=>false) far fr dn c)
theorem zsj(p q n root:Nat)(C:Nat->Nat->Int)(vc:Value)(u v ow aa ad:Nat->Int)(wb w:World)(hn:n<=10)(hr:root<n)(aT:p≠q)(aV:wb.heap.size<=q)(hB:Below wb.heap.size wb w)(bj:SqR wb vc n C)(hc:zev n C)(hT:zdU n C u v ow root)(ht:zY w p n vc u v ow)(hh:zN w q root aa ad (λ_=>false)):Calls Tryz.prog 177 #[.pointer (some ⟨p,0,none⟩),.pointer (some ⟨q,0,none⟩)] w (zr8 p q n root C vc u v ow aa ad wb):=by
 obtain⟨bm,aX⟩:=hT.ub hn (by omega);have a7:Hid (∀(W:World)(row:Nat)(far fr:Nat->Int)(dn:Nat->Bool)(frm start:Int),row<n->-1000000000<=start/\start<=1000000000->zY W p n vc u v ow->zN W q root far fr dn->Below wb.heap.size wb W->Calls Tryz.prog 207 #[.pointer (some ⟨p,0,none⟩),.pointer (some ⟨q,0,none⟩),.int .i64 row,.int .i64 frm,.int .i64 start] W λe w'=>e=.returned (.tuple #[])/\zN w' q root (zag n C u v row start far dn) (zbM n C u v row frm start far fr dn) dn/\zY w' p n vc u v ow/\Below wb.heap.size wb w'):=λW row far fr dn frm start h1 h2 h3 h4 h5=>zoA p q n root row C vc u v ow far fr dn frm start wb W hn h1 aT aV h5 bj hc h2 (λi hi=>by have:=bm i hi;omega) (λi hi=>by have:=aX i hi;omega) h3 h4;have a5:Hid (∀(W:World)(far fr:Nat->Int)(dn:Nat->Bool),zY W p n vc u v ow->zN W q root far fr dn->Calls Tryz.prog 208 #[.pointer (some ⟨p,0,none⟩),.pointer (some ⟨q,0,none⟩)] W λe w'=>e=.returned (.int .i64 (zch n far dn))/\Below W.heap.size W w'):=λW far fr dn h1 h2=>zmX p q n root vc u v ow far fr dn W hn h1 h2;have aM:=hid hT;have bo:=hid hc;have HT:=hid ht;have HH:=hid hh;have HB:=hid hB;have aZ:=hid (λ(far fr:Nat->Int)(hf:∀c,c<n->far c=-1)=>zpm hc hT hr far fr hf (λ_=>0));have bt:=hid aX;clear ht hh hB hc hT bj bm aX;go_in;go_wp2_with fail;go_loopw[5] (λi wr=>∃(k:Nat)(far:Nat->Int),k<=n/\i=.int .i64 k/\Hid (far=zbi (-1) aa k)/\Hid (zN wr q root far ad (λ_=>false))/\Hid (zY wr p n vc u v ow)/\Hid (Below wb.heap.size wb wr)) (λi _=>n-(intOf i).toNat)
 ·exact⟨0,aa,yu _,rfl,(zkH _ _).symm,HH,HT,HB⟩
 clear HT HH HB;obtain⟨k,far,hk,rfl,HF,HH,HT,HB⟩:=hrel;have t0:=HT.out.c0;have bh:=HT.out.lt;have bi:=HH.out.lt;by_cases hlt:k<n
 ·have f0:=HH.out.cf k (by omega);have bc:=HH.out.frozen (1+k);have ik:(0:Int)<=(k:Int):=by omega
  have jk:(k:Int)<10:=by omega
  have HX:Hid (up1 far k (-1)=zbi (-1) aa (k+1)):=by show _=_;rw[HF.out];exact zkw _ _ _
  go_wp2_with go_in;go_roundw
  ·exact⟨k+1,up1 far k (-1),by omega,by go_num,HX,HH.out.putF (by omega) _,HT.out.aside aT _,HB.out.setCell (by exact aV) _⟩
  simp[intOf];omega
 have bg:k=n:=by omega
 have aI:Hid (far=zbi (-1) aa n):=by show _=_;rw[HF.out,bg]
 have av:=hid (aZ.out far ad (λc hc=>by rw[aI.out];unfold zbi;rw[yg hc]));clear bg;have h0:=HH.out.c0;have a0:=hid (a7.out wr root far ad (λ_=>false) (-1) 0 hr (by omega) HT.out HH.out HB.out);clear HF aZ;go_wp2_with fail;refine a0.out.mono ?_;rintro e1 w1⟨rfl,be,bk,ba⟩;have aJ:=hid be;have aK:=hid bk;have aD:=hid ba;clear be bk ba a0 HT HH HB h0 t0 bh bi;go_wp2_with fail;refine(a5.out w1 _ _ _ aK.out aJ.out).mono ?_;rintro e2 w2⟨rfl,aw⟩;have ar:=hid (aJ.out.below aw);have a8:=hid (aK.out.below aw);have aY:Hid (Below wb.heap.size wb w2):=aD.out.trans (aw.mono aD.out.size);obtain⟨ah,ab⟩:∃f,f=zag n C u v root 0 far (λ_=>false):=⟨_,rfl⟩
 obtain⟨aO,aj⟩:∃f,f=zbM n C u v root (-1) 0 far ad (λ_=>false):=⟨_,rfl⟩
 rw[<-ab] at ar av⊢;rw[<-aj] at ar av;have a3:Hid (zdl n C u v ow root ah aO (λ_=>false) (λ_=>0) (dnN n (λ_=>false)) (λc=>(λ_=>false:Nat->Bool) c=true)):=by
  have e1:dnN n (λ_=>false)=0:=by unfold dnN;simp
  have e2:(λc:Nat=>(λ_=>false:Nat->Bool) c=true)=λ_=>False:=by funext c;simp
  show zdl _ _ _ _ _ _ _ _ _ _ _ _;rw[e1,e2];exact av.out
 have a6:Hid (∀a b d e,zc3 n C u v ow ah aO (λ_=>false) a b d e->zc3 n C u v ow (zag n C u v root 0 (zbi (-1) aa n) (λ_=>false)) (zbM n C u v root (-1) 0 (zbi (-1) aa n) ad (λ_=>false)) (λ_=>false) a b d e):=λa b d e h=>by rw[<-aI.out,<-ab,<-aj];exact h
 clear aw aJ aK aD av ab aj aI;go_wp2_with fail;go_loopw[6] (λcv wr=>∃(far fr:Nat->Int)(dn:Nat->Bool)(ord:Nat->Nat),cv=.int .i64 (zch n far dn)/\Hid (∀a b d e,zc3 n C u v ow far fr dn a b d e->zc3 n C u v ow (zag n C u v root 0 (zbi (-1) aa n) (λ_=>false)) (zbM n C u v root (-1) 0 (zbi (-1) aa n) ad (λ_=>false)) (λ_=>false) a b d e)/\Hid (zdl n C u v ow root far fr dn ord (dnN n dn) (λc=>dn c=true))/\Hid (zN wr q root far fr dn)/\Hid (zY wr p n vc u v ow)/\Hid (Below wb.heap.size wb wr)) (λ_ wr=>n-zfI wr q n)
 ·exact⟨ah,aO,λ_=>false,λ_=>0,rfl,a6,a3,ar,a8,aY⟩
 clear a3 ar a8 aY a6;obtain⟨far,fr,dn,ord,rfl,HR,HI,HH,HT,HB⟩:=hrel;have bh:=HT.out.lt;have bi:=HH.out.lt;rcases zsE n far dn with ⟨aS,am⟩|⟨c,ay,ae,ak,ai,ac⟩
 ·rw[aS];have aC:=hid am;have al:=hid (HR.out _ _ _ _ (zc3.no aS));clear aS am;go_wp2_with fail;go_ret;exact⟨far,fr,dn,ord,_,HH.out,HT.out,HB.out,.inl ⟨rfl,⟨HI.out,aC.out⟩,al.out⟩⟩
 rw[ay];have d0:=HH.out.cd c (by omega);have bc:=HH.out.frozen (21+c);have ic:(0:Int)<=(c:Int):=by omega
 have jc:(c:Int)<10:=by omega
 have c1:((c:Int) != (-1:Int))=true:=by simp
 have HW:Hid (∀W,W=wr.setCell ⟨q,21+c,none⟩ (.bool true)->zN W q root far fr (up1 dn c true)/\zY W p n vc u v ow/\Below wb.heap.size wb W):=λW e=>by subst e;exact⟨HH.out.putD (by omega) true,HT.out.aside aT _,HB.out.setCell (by exact aV) _⟩
 obtain⟨W,hW⟩:∃W,W=wr.setCell ⟨q,21+c,none⟩ (.bool true):=⟨_,rfl⟩
 obtain⟨az,aB,bb⟩:=HW.out W hW;have o0:=aB.co c (by omega);have f0:=az.cf c (by omega);have aA:=aB.lt;have aU:=az.lt;have a2:=hid az;have a9:=hid aB;have aF:=hid bb;have aN:=hid hW;have bq:Hid (zfI wr q n=dnN n dn):=zkz HH.out hn;have ap:=hid (zqW (n:=n) ae ak);have an:=zqF n (up1 dn c true);clear HW az aB bb;by_cases ag:ow c=-1
 ·have HE:=hid (HI.out.end_ hn aM.out ae ak ai ac ag);have al:=hid (HR.out _ _ _ _ (zc3.hit ay ag));rw[ag] at o0;rw[hW] at o0 aA;clear hW ag ac ai ak f0;go_wp2_with go_in;go_ret;refine⟨far,fr,up1 dn c true,up1 ord c (dnN n dn),dnN n dn+1,?_,?_,?_,.inr ⟨c,rfl,HE.out,al.out⟩⟩
  ·rw[<-aN.out];exact a2.out
  ·rw[<-aN.out];exact a9.out
  rw[<-aN.out];exact aF.out
 obtain⟨i,hi,hir,_⟩:∃i:Nat,ow c=i/\i<root/\C i c≠-1/\u i+v c=C i c:=by
  rcases aM.out.own c ae with h1|h1
  ·exact absurd h1 ag
  exact h1
 have aW:up1 dn c true c=true:=by unfold up1;simp
 have aQ:0<=far c/\far c<=1000000000:=by
  rcases HI.out.pos c ae with h1|h1
  ·exact absurd h1 ai
  have h2:=HI.out.bd c ae ai;have h3:=bt.out c ae;have h4:=ap.out;omega
 have br:Hid (zdl n C u v ow root (zag n C u v i (far c) far (up1 dn c true)) (zbM n C u v i c (far c) far fr (up1 dn c true)) (up1 dn c true) (up1 ord c (dnN n dn)) (dnN n (up1 dn c true)) (λx=>up1 dn c true x=true)):=by
  have h:=zm9 (k:=c) bo.out aM.out hr (HI.out.mark ae ak ai ac) ae aW ag (λx hx aP=>by
   unfold up1 at aP;by_cases e:x=c
   ·rw[e];exact yaB _
   ·rw[ye e] at aP;exact HI.out.mon x hx aP c ae ak ai) (λj hj ao aR=>by
   unfold up1 at ao;by_cases e:j=c
   ·rw[yg e] at ao;cases ao
   rw[ye e] at ao;exact ac j hj ao aR) (λj hj aR=>by have:=HI.out.bd j hj aR;omega)
  rw[hi] at h;simp only[yam] at h;show zdl _ _ _ _ _ _ _ _ _ _ _ _;rw[ap.out];exact h
 have a4:Hid (zag n C u v i (far c) far (up1 dn c true) c=far c):=by show _=_;unfold zag;rw[ye (λh=>by have:=h.2.1;rw[aW] at this;cases this)]
 have aq:Hid (∀W2,Below W.heap.size W W2->Calls Tryz.prog 207 #[.pointer (some ⟨p,0,none⟩),.pointer (some ⟨q,0,none⟩),.int .i64 i,.int .i64 c,.int .i64 (far c)] W2 λe w'=>e=.returned (.tuple #[])/\w'.cell? ⟨p,22+c,none⟩=some (.int .i64 (ow c))/\w'.cell? ⟨q,1+c,none⟩=some (.int .i64 (far c))/\Hid (zN w' q root (zag n C u v i (far c) far (up1 dn c true)) (zbM n C u v i c (far c) far fr (up1 dn c true)) (up1 dn c true))/\Hid (zY w' p n vc u v ow)/\Hid (Below wb.heap.size wb w')):=by intro W2 h2;refine(a7.out W2 i far fr (up1 dn c true) c (far c) (by omega) (by omega) (a9.out.below h2) (a2.out.below h2) (aF.out.trans (h2.mono aF.out.size))).mono ?_;rintro e3 w3⟨rfl,bf,bl,bu⟩;refine⟨rfl,bl.co c (by omega),?_,bf,bl,bu⟩;rw[bf.cf c (by omega),a4.out]
 have al:Hid (∀a b d e,zc3 n C u v ow (zag n C u v i (far c) far (up1 dn c true)) (zbM n C u v i c (far c) far fr (up1 dn c true)) (up1 dn c true) a b d e->zc3 n C u v ow (zag n C u v root 0 (zbi (-1) aa n) (λ_=>false)) (zbM n C u v root (-1) 0 (zbi (-1) aa n) ad (λ_=>false)) (λ_=>false) a b d e):=λa b d e h=>HR.out a b d e (zc3.more ay ag (by rw[hi];exact h));rw[hi] at o0 aq;obtain⟨fc,af⟩:∃fc,fc=far c:=⟨_,rfl⟩
 rw[<-af] at f0;have o1:=o0;have f1:=f0;have hpW1:=aA;have hqW1:=aU;rw[hW] at o0 f0 aA aU;rw[<-af] at aq;have c2:((i:Int)==(-1:Int))=false:=by simp
 clear ag hi ac ai ak aW aQ HI HR;go_wp2_with fail;rw[<-hW];have aH:=hid af;have aG:=hid an;clear o0 f0 aA aU d0 bc hW af an ay c1 c2;go_region_held3 (λw'=>w'.cell? ⟨p,22+c,none⟩=some (.int .i64 i)/\w'.cell? ⟨q,1+c,none⟩=some (.int .i64 fc)) (go_keep) (first|(go_at_call 207;refine(aq.out _ (by first|exact yk _ _|exact(yk _ _).drew)).mono ?_;rintro e3 w3⟨rfl,x0,x1,au,aL,aE⟩));clear x0 x1 o1 f1;rw[aH.out] at au;go_wp2_with fail;refine(a5.out w3 _ _ _ aL.out au.out).mono ?_;rintro e4 w4⟨rfl,ax⟩;have a1:=hid (au.out.below ax);have bs:=hid (aL.out.below ax);have bn:Hid (Below wb.heap.size wb w4):=aE.out.trans (ax.mono aE.out.size);have bp:Hid (zfI w4 q n=dnN n (up1 dn c true)):=zkz a1.out hn;clear ax au aL aE aq a4;go_wp2_with fail;go_roundw
 ·exact⟨_,_,up1 dn c true,up1 ord c (dnN n dn),rfl,al,br,a1,bs,bn⟩
 show n-zfI w4 q n<n-zfI wr q n;rw[bp.out,bq.out,ap.out];have:=aG.out;rw[ap.out] at this;omega
theorem zrz(p q n root:Nat)(vc:Value)(u v ow far fr:Nat->Int)(dn:Nat->Bool)(D:Int)(wb w:World)(hn:n<=10)(hr:root<n)(ap:p≠q)(ao:wb.heap.size<=p)(hB:Below wb.heap.size wb w)(hD:0<=D/\D<=2000000)(hf:∀c,c<n->dn c=true->0<=far c/\far c<=D)(hu:∀k,k<=n->∀i,i<n->0<=rzU ow far dn D (up1 u root (u root+D)) k i/\rzU ow far dn D (up1 u root (u root+D)) k i<=100000000)(hv:∀i,i<n->-50000000<=v i/\v i<=50000000)(aQ:0<=u root/\u root<=50000000)(ho:∀c,c<n->ow c=-1\/∃i:Nat,ow c=i/\i<n)(ht:zY w p n vc u v ow)(hh:zN w q root far fr dn):Calls Tryz.prog 179 #[.pointer (some ⟨p,0,none⟩),.pointer (some ⟨q,0,none⟩),.int .i64 D] w λe w'=>e=.returned (.tuple #[])/\zN w' q root far fr dn/\zY w' p n vc (rzU ow far dn D (up1 u root (u root+D)) n) (rzV ow far dn D v n) ow/\Below wb.heap.size wb w':=by
 have HB:=hid hB;have HF:=hid hf;have HU:=hid hu;have HV:=hid hv;have HO:=hid ho;have HT:=hid ht;have HH:=hid hh;have h0:=hh.c0;have tu:=ht.cu root (by omega);have aq:=ht.lt;have ar:=hh.lt;have ae:=ht.frozen (2+root);have ir:(0:Int)<=(root:Int):=by omega
 have jr:(root:Int)<10:=by omega
 have aC:IntKind.i64.wrap (u root+D)=u root+D:=zm _ (by omega);obtain⟨ur,au⟩:∃ur,ur=u root:=⟨_,rfl⟩
 rw[<-au] at tu aQ aC HU⊢;have aI:=hid au;clear ht hh hB hf hu hv ho au;obtain⟨U,hU⟩:∃U,U=rzU ow far dn D (up1 u root (ur+D)):=⟨_,rfl⟩
 obtain⟨V,hV⟩:∃V,V=rzV ow far dn D v:=⟨_,rfl⟩
 rw[<-hU] at HU⊢;rw[<-hV];have aH:Hid (U 0=up1 u root (ur+D)):=by show _=_;rw[hU];rfl
 have aJ:Hid (V 0=v):=by show _=_;rw[hV];rfl
 have aj:Hid (∀k,U (k+1)=if dn k=true/\ow k≠-1 then up1 (U k) (ow k).toNat (U k (ow k).toNat+(D-far k)) else U k):=λk=>by rw[hU];rfl
 have al:Hid (∀k,V (k+1)=if dn k=true/\ow k≠-1 then up1 (V k) k (V k k-(D-far k)) else V k):=λk=>by rw[hV];rfl
 have ak:Hid (∀k,V k k=v k):=λk=>by rw[hV,zmK,ye (by omega)]
 clear hU hV;go_in;go_wp2_with go_in;go_region;have ai:Hid (zY (w.setCell ⟨p,2+root,none⟩ (.int .i64 (ur+D))).drew p n vc (up1 u root (ur+D)) v ow):=(HT.out.putU (by omega) _).block rfl;have ah:Hid (zN (w.setCell ⟨p,2+root,none⟩ (.int .i64 (ur+D))).drew q root far fr dn):=(HH.out.aside (ybv ap) _).block rfl;have ag:Hid (Below wb.heap.size wb (w.setCell ⟨p,2+root,none⟩ (.int .i64 (ur+D))).drew):=(HB.out.setCell (by exact ao) _).drew;obtain⟨w1,az⟩:∃w1,w1=(w.setCell ⟨p,2+root,none⟩ (.int .i64 (ur+D))).drew:=⟨_,rfl⟩
 rw[<-az] at ai ah ag⊢;clear az HT HH HB h0 tu ae aC aI aq ar;go_wp2_with fail;go_loopw[6] (λi wr=>∃k:Nat,k<=n/\i=.int .i64 k/\Hid (zY wr p n vc (U k) (V k) ow)/\Hid (zN wr q root far fr dn)/\Hid (Below wb.heap.size wb wr)) (λi _=>n-(intOf i).toNat)
 ·exact⟨0,yu _,rfl,by rw[aH.out,aJ.out];exact ai,ah,ag⟩
 clear ai ah ag;obtain⟨k,hk,rfl,HT,HH,HB⟩:=hrel;have t0:=HT.out.c0;have aq:=HT.out.lt;have ar:=HH.out.lt;by_cases an:k<n
 ·have d0:=HH.out.cd k (by omega);have o0:=HT.out.co k (by omega);have ik:(0:Int)<=(k:Int):=by omega
  have jk:(k:Int)<10:=by omega
  cases hdk:dn k
  ·rw[hdk] at d0;have HX:Hid (U (k+1)=U k/\V (k+1)=V k):=by show _/\_;rw[aj.out,al.out,ye (by rw[hdk];simp),ye (by rw[hdk];simp)];exact⟨rfl,rfl⟩
   go_wp2_with go_in;go_roundw
   ·exact⟨k+1,by omega,by go_num,by rw[HX.out.1,HX.out.2];first|exact HT|exact HT.out.block rfl,by first|exact HH|exact HH.out.block rfl,by first|exact HB|exact HB.out.drew⟩
   simp[intOf];omega
  rw[hdk] at d0;by_cases aa:ow k=-1
  ·have c1:(ow k != (-1:Int))=false:=by simp[aa]
   have HX:Hid (U (k+1)=U k/\V (k+1)=V k):=by show _/\_;rw[aj.out,al.out,ye (by simp[aa]),ye (by simp[aa])];exact⟨rfl,rfl⟩
   clear aa;go_wp2_with go_in;go_roundw
   ·exact⟨k+1,by omega,by go_num,by rw[HX.out.1,HX.out.2];first|exact HT|exact HT.out.block rfl,by first|exact HH|exact HH.out.block rfl,by first|exact HB|exact HB.out.drew⟩
   simp[intOf];omega
  obtain⟨i,hi,aO⟩:∃i:Nat,ow k=i/\i<n:=by
   rcases HO.out k an with h|h
   ·exact absurd h aa
   exact h
  have aN:=HF.out k an hdk;have aR:=HU.out k hk i aO;have aS:=HV.out k an;have aB:=HT.out.cu i (by omega);have aw:=HT.out.cv k (by omega);have f0:=HH.out.cf k (by omega);have ae:=HT.out.frozen;have ii:(0:Int)<=(i:Int):=by omega
  have ji:(i:Int)<10:=by omega
  rw[ak.out] at aw;have HX:Hid (U (k+1)=up1 (U k) i (U k i+(D-far k))/\V (k+1)=up1 (V k) k (v k-(D-far k))):=by show _/\_;rw[aj.out,al.out,yg ⟨hdk,aa⟩,yg ⟨hdk,aa⟩,hi,ak.out];simp
  rw[hi] at o0;obtain⟨fk,ad⟩:∃fk,fk=far k:=⟨_,rfl⟩
  obtain⟨ui,ay⟩:∃ui,ui=U k i:=⟨_,rfl⟩
  obtain⟨vk,af⟩:∃vk,vk=v k:=⟨_,rfl⟩
  rw[<-ad] at f0 aN HX;rw[<-ay] at aB aR HX;rw[<-af] at aw aS HX;have c1:((i:Int) != (-1:Int))=true:=by simp
  have wz2:IntKind.i64.wrap (D-fk)=D-fk:=zm _ (by omega);have aU:IntKind.i64.wrap (ui+(D-fk))=ui+(D-fk):=zm _ (by omega);have wz4:IntKind.i64.wrap (vk-(D-fk))=vk-(D-fk):=zm _ (by omega);have aM:=ae (2+i);have am:=ad;have av:=af;have aE:=hid ad;have aK:=hid af;clear aa hi ad ay af ae am av;go_wp2_with go_in;go_region;have ab:Hid (zY (wr.setCell ⟨p,2+i,none⟩ (.int .i64 (ui+(D-fk)))).drew p n vc (up1 (U k) i (ui+(D-fk))) (V k) ow):=(HT.out.putU (by omega) _).block rfl;have ac:Hid (zN (wr.setCell ⟨p,2+i,none⟩ (.int .i64 (ui+(D-fk)))).drew q root far fr dn):=(HH.out.aside (ybv ap) _).block rfl;have ax:Hid (Below wb.heap.size wb (wr.setCell ⟨p,2+i,none⟩ (.int .i64 (ui+(D-fk)))).drew):=(HB.out.setCell (by exact ao) _).drew;obtain⟨w2,aA⟩:∃w2,w2=(wr.setCell ⟨p,2+i,none⟩ (.int .i64 (ui+(D-fk)))).drew:=⟨_,rfl⟩
  rw[<-aA] at ab ac ax⊢;have aL:Hid (V k k=vk):=by show _=_;rw[ak.out];exact aK.out.symm
  have aT:=ab.out.cv k (by omega);rw[aL.out] at aT;have f2:=ac.out.cf k (by omega);rw[<-aE.out] at f2;have fz2:=ab.out.frozen (12+k);have hp2:=ab.out.lt;have hq2:=ac.out.lt;clear aA HT HH HB aB aw f0 aM aq ar d0 o0 t0 aU;go_wp2_with go_in;go_region;have aG:Hid (zY (w2.setCell ⟨p,12+k,none⟩ (.int .i64 (vk-(D-fk)))).drew p n vc (up1 (U k) i (ui+(D-fk))) (up1 (V k) k (vk-(D-fk))) ow):=(ab.out.putV (by omega) _).block rfl;have aF:Hid (zN (w2.setCell ⟨p,12+k,none⟩ (.int .i64 (vk-(D-fk)))).drew q root far fr dn):=(ac.out.aside (ybv ap) _).block rfl;have aD:Hid (Below wb.heap.size wb (w2.setCell ⟨p,12+k,none⟩ (.int .i64 (vk-(D-fk)))).drew):=(ax.out.setCell (by exact ao) _).drew;go_wp2;go_roundw
  ·exact⟨k+1,by omega,by go_num,by rw[HX.out.1,HX.out.2];exact aG,aF,aD⟩
  simp[intOf];omega
 have aP:k=n:=by omega
 subst aP;go_wp2_with go_in;refine ya8 (v:=.tuple #[]) (by simp[results,Tryz.results179,go_sem]) rfl ?_;exact⟨rfl,HH.out,HT.out,HB.out⟩
theorem ztF(p q n root e cnt:Nat)(C:Nat->Nat->Int)(vc:Value)(u0 v0 u v ow far fr:Nat->Int)(dn:Nat->Bool)(ord:Nat->Nat)(wb w:World)(hn:n<=10)(au:p≠q)(af:wb.heap.size<=p)(hB:Below wb.heap.size wb w)(he:zi5 n C u0 v0 ow root far fr dn ord cnt e)(hT:zdU n C u0 v0 ow root)(ht:zY w p n vc u v ow)(hh:zN w q root far fr dn):Calls Tryz.prog 180 #[.pointer (some ⟨p,0,none⟩),.pointer (some ⟨q,0,none⟩),.int .i64 e] w λr w'=>r=.returned (.tuple #[])/\∃(W:Nat->Prop)(j:Nat)(ow':Nat->Int),zp2 n ow fr root e W j ow'/\(∀c,c<n->W c\/c=j->dn c=true)/\zdw root fr ow e ow'/\zY w' p n vc u v ow'/\Below wb.heap.size wb w':=by
 have HE:=hid he;have HTI:=hid hT;have al:=hid ht;have ak:=hid hh;have ag:=hid hB;have ah:=hid (zqa he);clear he hT ht hh hB;go_in;go_wp2_with fail;go_loopw[6] (λcv wr=>∃(j:Nat)(OW:Nat->Int)(W:Nat->Prop),cv=.int .i64 j/\Hid (∀x,zdw root fr OW j x->zdw root fr ow e x)/\Hid (zmO n ow fr dn ord e W j OW)/\Hid (zY wr p n vc u v OW)/\Hid (zN wr q root far fr dn)/\Hid (Below wb.heap.size wb wr)) (λcv _=>ord (intOf cv).toNat)
 ·exact⟨e,ow,λ_=>False,rfl,λx h=>h,ah,al,ak,ag⟩
 clear ah al ak ag;obtain⟨j,OW,W,rfl,HR,HG,HT,HH,HB⟩:=hrel;have av:=HT.out.lt;have aw:=HH.out.lt;have hjn:=HG.out.jlt;have r0:=HH.out.cr j (by omega);have o0:=HT.out.co j (by omega);have fz:=HT.out.frozen (22+j);have ij:(0:Int)<=(j:Int):=by omega
 have jj:(j:Int)<10:=by omega
 by_cases hf:fr j=-1
 ·have an:=zup HE.out HG.out hf;have h0:=HH.out.c0;rw[hf] at r0;have aj:=hid an;have ab:=hid (HR.out _ (zdw.last hf));clear hf an;go_wp2_with go_in;go_region;go_wp2;refine ya8 (v:=.tuple #[]) (by simp[results,Tryz.results180,go_sem]) rfl ?_;exact⟨rfl,W,j,up1 OW j root,aj.out.1,aj.out.2,ab.out,by first|exact HT.out.putO (by omega) _|exact(HT.out.putO (by omega) _).block rfl,by first|exact HB.out.setCell (by exact af) _|exact(HB.out.setCell (by exact af) _).drew⟩
 obtain⟨d,hd,ad,ao,am⟩:=zqU HE.out HG.out hf;have ai:=hid am;have o1:=HT.out.co d (by omega);have id:(0:Int)<=(d:Int):=by omega
 have jd:(d:Int)<10:=by omega
 have c1:((d:Int) != (-1:Int))=true:=by simp
 have ab:Hid (∀x,zdw root fr (up1 OW j (OW d)) d x->zdw root fr ow e x):=λx h=>HR.out x (zdw.more ad h);rw[ad] at r0;obtain⟨x,hx⟩:∃x,x=OW d:=⟨_,rfl⟩
 rw[<-hx] at o1 ai ab;have ar:=hid ao;have aq:=hid ad;clear hf ad am ao hx;go_wp2_with go_in;go_region;have ac:Hid (zY (wr.setCell ⟨p,22+j,none⟩ (.int .i64 x)).drew p n vc u v (up1 OW j x)):=(HT.out.putO (by omega) _).block rfl;have aa:Hid (zN (wr.setCell ⟨p,22+j,none⟩ (.int .i64 x)).drew q root far fr dn):=(HH.out.aside (ybv au) _).block rfl;have ae:Hid (Below wb.heap.size wb (wr.setCell ⟨p,22+j,none⟩ (.int .i64 x)).drew):=(HB.out.setCell (by exact af) _).drew;obtain⟨w2,ap⟩:∃w2,w2=(wr.setCell ⟨p,22+j,none⟩ (.int .i64 x)).drew:=⟨_,rfl⟩
 rw[<-ap] at ac aa ae⊢;have r2:=aa.out.cr j (by omega);rw[aq.out] at r2;have hp2:=ac.out.lt;have hq2:=aa.out.lt;clear ap r0 o0 o1 fz av aw HT HH HB;go_wp2_with go_in;go_roundw
 ·exact⟨d,_,_,by go_num,ab,ai,by first|exact ac|exact ac.out.block rfl,by first|exact aa|exact aa.out.block rfl,by first|exact ae|exact ae.out.drew⟩
 simpa[intOf] using ar.out
end Go.Proofs.YtebinaopncclgabGreatDoor
