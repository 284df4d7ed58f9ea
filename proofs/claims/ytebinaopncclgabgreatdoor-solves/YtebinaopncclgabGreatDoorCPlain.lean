import Derived.Test.YtebinaopncclgabGreatDoorJCall
set_option maxRecDepth 100000
set_option maxHeartbeats 8000000
namespace Go.Proofs.YtebinaopncclgabGreatDoor
open Go.RowKit Go.IntWalk
structure zaA (w:World) (p o:Nat) (r:Rd) (T:Nat->Nat->Int) (vf:Value):Prop where
 box:∃cs ty,w.heap[p]?=some (.cells cs ty (0,0))
 c0:w.cell? ⟨p,o,none⟩=some (.int .i64 r.vans)
 c1:w.cell? ⟨p,o+1,none⟩=some vf
 said:∀a b,a<8->b<8->w.cell? ⟨p,o+2+a*8+b,none⟩=some (.int .i64 (T a b))
theorem zaA.lt{w:World}{p o:Nat}{r:Rd}{T:Nat->Nat->Int}{vf:Value}(h:zaA w p o r T vf):p<w.heap.size:=by obtain⟨cs,ty,hc⟩:=h.box;exact(yc.1 hc).1
theorem zaA.frozen{w:World}{p o:Nat}{r:Rd}{T:Nat->Nat->Int}{vf:Value}(h:zaA w p o r T vf)(k:Nat):w.frozen? ⟨p,k,none⟩=false:=by obtain⟨cs,ty,hc⟩:=h.box;exact yv w p k _ _ hc
theorem zaA.below{w w':World}{p o:Nat}{r:Rd}{T:Nat->Nat->Int}{vf:Value}(h:zaA w p o r T vf)(hb:Below w.heap.size w w'):zaA w' p o r T vf:=by have hl:=h.lt;obtain⟨cs,ty,hc⟩:=h.box;exact⟨⟨cs,ty,by rw[hb.block _ hl];exact hc⟩,zc hb h.c0 hl,zc hb h.c1 hl,λa b ha aa=>zc hb (h.said a b ha aa) hl⟩
theorem zaA.put{w:World}{p o a b:Nat}{r:Rd}{T:Nat->Nat->Int}{vf:Value}(h:zaA w p o r T vf)(ha:a<8)(hb:b<8)(v:Int):zaA (w.setCell ⟨p,o+2+a*8+b,none⟩ (.int .i64 v)) p o r (upd T a b v) vf:=by
 obtain⟨⟨cs,ty,hc⟩,h0,h1,hF⟩:=h;refine⟨⟨_,_,yw w p _ _ _ _ hc⟩,?_,?_,λx y hx hy=>?_⟩
 ·rw[zw hc (hF a b ha hb) _ h0,ye (by omega)]
 ·rw[zw hc (hF a b ha hb) _ h1,ye (by omega)]
 rw[zw hc (hF a b ha hb) _ (hF x y hx hy)];unfold upd;by_cases h:x=a/\y=b
 ·rw[yg h,yg (by rw[h.1,h.2])]
 rw[ye h,ye (by omega)]
theorem zaA.other{w:World}{p o a b k:Nat}{r:Rd}{T:Nat->Nat->Int}{vf v:Value}(h:zaA w p o r T vf)(ha:a<8)(hb:b<8)(u:Value)(hk:k<o\/o+66<=k)(hv:w.cell? ⟨p,k,none⟩=some v):(w.setCell ⟨p,o+2+a*8+b,none⟩ u).cell? ⟨p,k,none⟩=some v:=by obtain⟨⟨cs,ty,hc⟩,h0,h1,hF⟩:=h;rw[zw hc (hF a b ha hb) _ hv,ye (by omega)]
theorem zie{B:Nat}{w w':World}(h:Below B w w')(m:Nat):Below B w (w'.drewN m):=⟨h.os,h.tape,h.output,h.size,h.block⟩
def zdE(n:Nat)(x y:Int):Prop:=(0<=x/\x<n+1)/\(0<=y/\y<n+1)/\x≠y
instance (n:Nat) (x y:Int):Decidable (zdE n x y):=by unfold zdE;infer_instance
def zcN(n:Nat)(T:Nat->Nat->Int)(x y:Int):Int:=if zdE n x y then T x.toNat y.toNat else -1
def zgT(n:Nat)(T:Nat->Nat->Int)(x y v:Int):Nat->Nat->Int:=if zdE n x y then upd T x.toNat y.toNat v else T
theorem zj7(p o:Nat)(r:Rd)(T:Nat->Nat->Int)(ao:Option Addr)(cf n:Nat)(x y:Int)(w:World)(_hn:n<=7)(h:zaA w p o r T (.slice ao (n+1:Nat) cf)):Calls Tryz.prog 198 #[.pointer (some ⟨p,o,none⟩),.int .i64 x,.int .i64 y] w λe w'=>e=.returned (.bool (decide (zdE n x y)))/\Below w.heap.size w w':=by
 have h1:=h.c1;have hl:=h.lt;by_cases hx:0<=x/\x<n+1
 ·obtain⟨ab,ad⟩:=hx;by_cases hy:0<=y/\y<n+1
  ·obtain⟨ac,ae⟩:=hy;by_cases aa:x=y
   ·have HX:Hid (decide (zdE n x y)=false):=by show _=_;rw[yI];intro hh;exact hh.2.2 aa
    have c3:(x==y)=true:=by simp[aa]
    have c4:(x != y)=false:=by simp[aa]
    clear aa;go_in;go_wp2_with go_in
    all_goals
     go_ret;exact⟨zh HX.out.symm,by first|exact yk _ _|exact(yk _ _).drew⟩
   have HX:Hid (decide (zdE n x y)=true):=by show _=_;rw[ybd];exact⟨⟨ab,ad⟩,⟨ac,ae⟩,aa⟩
   have c3:(x==y)=false:=by simpa using aa
   have c4:(x != y)=true:=by simpa using aa
   clear aa;go_in;go_wp2_with go_in
   all_goals
    go_ret;exact⟨zh HX.out.symm,by first|exact yk _ _|exact(yk _ _).drew⟩
  have HX:Hid (decide (zdE n x y)=false):=by show _=_;rw[yI];intro hh;exact hy hh.2.1
  by_cases ac:y<0
  ·clear hy;go_in;go_wp2_with go_in
   all_goals
    go_ret;exact⟨zh HX.out.symm,by first|exact yk _ _|exact(yk _ _).drew⟩
  have hy2:(n:Int)+1<=y:=by omega
  clear hy;go_in;go_wp2_with go_in
  all_goals
   go_ret;exact⟨zh HX.out.symm,by first|exact yk _ _|exact(yk _ _).drew⟩
 have HX:Hid (decide (zdE n x y)=false):=by show _=_;rw[yI];intro hh;exact hx hh.1
 by_cases ab:x<0
 ·clear hx;go_in;go_wp2_with go_in
  all_goals
   go_ret;exact⟨zh HX.out.symm,by first|exact yk _ _|exact(yk _ _).drew⟩
 have hx2:(n:Int)+1<=x:=by omega
 clear hx;go_in;go_wp2_with go_in
 all_goals
  go_ret;exact⟨zh HX.out.symm,by first|exact yk _ _|exact(yk _ _).drew⟩
theorem zg4(p o:Nat)(r:Rd)(T:Nat->Nat->Int)(ao:Option Addr)(cf n:Nat)(x y:Int)(w:World)(hn:n<=7)(h:zaA w p o r T (.slice ao (n+1:Nat) cf)):Calls Tryz.prog 146 #[.pointer (some ⟨p,o,none⟩),.int .i64 x,.int .i64 y] w λe w'=>e=.returned (.int .i64 (zcN n T x y))/\Below w.heap.size w w':=by
 have HA:=hid h;have HC:=hid (zj7 p o r T ao cf n x y w hn h);have hl:=h.lt;clear h;by_cases hx:zdE n x y
 ·have HX:Hid (zcN n T x y=T x.toNat y.toNat):=by show _=_;unfold zcN;rw[yg hx]
  rw[yak hx] at HC;obtain⟨⟨hx0,hx1⟩,⟨hy0,hy1⟩,_⟩:=hx;obtain⟨xn,rfl⟩:∃xn:Nat,x=xn:=⟨x.toNat,by omega⟩
  obtain⟨yn,rfl⟩:∃yn:Nat,y=yn:=⟨y.toNat,by omega⟩
  simp only[yam] at HX;have jx:(xn:Int)<8:=by omega
  have jy:(yn:Int)<8:=by omega
  go_in;go_wp2_with fail;refine HC.out.mono ?_;rintro e1 w1⟨rfl,ab⟩;have ac:=HA.out.below ab;have t0:=ac.said xn yn (by omega) (by omega);have tl:=ac.lt;have aa:=hid ab;clear ab ac;go_wp2_with go_in
  all_goals
   go_ret;exact⟨zK HX.out.symm,by first|exact aa.out|exact aa.out.drew|exact zie aa.out _⟩
 have HX:Hid (zcN n T x y=-1):=by show _=_;unfold zcN;rw[ye hx]
 rw[decide_eq_false hx] at HC;clear hx;go_in;go_wp2_with fail;refine HC.out.mono ?_;rintro e1 w1⟨rfl,ab⟩;have aa:=hid ab;clear ab;go_wp2_with go_in
 all_goals
  go_ret;exact⟨zK HX.out.symm,by first|exact aa.out|exact aa.out.drew|exact zie aa.out _⟩
theorem zjZ(p o:Nat)(r:Rd)(T:Nat->Nat->Int)(ao:Option Addr)(cf n:Nat)(x y v:Int)(w:World)(hn:n<=7)(h:zaA w p o r T (.slice ao (n+1:Nat) cf)):Calls Tryz.prog 147 #[.pointer (some ⟨p,o,none⟩),.int .i64 x,.int .i64 y,.int .i64 v] w λe w'=>e=.returned (.tuple #[])/\zaA w' p o r (zgT n T x y v) (.slice ao (n+1:Nat) cf)/\(∀k u,k<o\/o+66<=k->w.cell? ⟨p,k,none⟩=some u->w'.cell? ⟨p,k,none⟩=some u)/\(∀k,k<w.heap.size->k≠p->w'.heap[k]?=w.heap[k]?)/\Below p w w':=by
 have HA:=hid h;have HC:=hid (zj7 p o r T ao cf n x y w hn h);have hl:=h.lt;clear h;by_cases hx:zdE n x y
 ·have HX:Hid (zgT n T x y v=upd T x.toNat y.toNat v):=by show _=_;unfold zgT;rw[yg hx]
  rw[yak hx] at HC;obtain⟨⟨hx0,hx1⟩,⟨hy0,hy1⟩,_⟩:=hx;obtain⟨xn,rfl⟩:∃xn:Nat,x=xn:=⟨x.toNat,by omega⟩
  obtain⟨yn,rfl⟩:∃yn:Nat,y=yn:=⟨y.toNat,by omega⟩
  simp only[yam] at HX;have jx:(xn:Int)<8:=by omega
  have jy:(yn:Int)<8:=by omega
  go_in;go_wp2_with fail;refine HC.out.mono ?_;rintro e1 w1⟨rfl,ab⟩;have ac:=HA.out.below ab;have t0:=ac.said xn yn (by omega) (by omega);have t1:=ac.frozen (o+2+xn*8+yn);have tl:=ac.lt;have aa:=hid ab;have ad:=hid ac;clear ab ac;go_wp2_with go_in
  all_goals
   refine ya8 (v:=.tuple #[]) (by simp[results,Tryz.results147,go_sem]) rfl ?_;refine⟨rfl,by rw[HX.out];exact ad.out.put (by omega) (by omega) v,λk u hk hu=>ad.out.other (by omega) (by omega) _ hk (zc aa.out hu hl),λk hk ae=>?_,(aa.out.mono (ya9 hl)).setCell (yh _) _⟩;rw[yt _ _ _ _ (by exact ae)];exact aa.out.block k hk
 have HX:Hid (zgT n T x y v=T):=by show _=_;unfold zgT;rw[ye hx]
 rw[decide_eq_false hx] at HC;clear hx;go_in;go_wp2_with fail;refine HC.out.mono ?_;rintro e1 w1⟨rfl,ab⟩;have aa:=hid ab;clear ab;go_wp2_with go_in
 all_goals
  refine ya8 (v:=.tuple #[]) (by simp[results,Tryz.results147,go_sem]) rfl ?_;exact⟨rfl,by rw[HX.out];exact HA.out.below aa.out,λk u hk hu=>zc aa.out hu hl,λk hk _=>aa.out.block k hk,aa.out.mono (ya9 hl)⟩
def zgL(T:Nat->Nat->Int)(a b c:Nat):Prop:=(a≠0/\c≠b/\T a c=1)\/(b≠0/\c≠a/\T c b=1)
instance (T:Nat->Nat->Int) (a b c:Nat):Decidable (zgL T a b c):=by unfold zgL;infer_instance
def feS(n:Nat)(T:Nat->Nat->Int)(a b:Nat):Bool:=(List.range (n+1)).any λc=>decide (zgL T a b c)
theorem zpd(p o:Nat)(r:Rd)(T:Nat->Nat->Int)(ao:Option Addr)(cf n a b:Nat)(w:World)(hn:n<=7)(ha:a<n+1)(hb:b<n+1)(h:zaA w p o r T (.slice ao (n+1:Nat) cf)):Calls Tryz.prog 209 #[.pointer (some ⟨p,o,none⟩),.int .i64 a,.int .i64 b] w λe w'=>e=.returned (.bool (feS n T a b))/\Below w.heap.size w w':=by
 have HA:=hid h;have h1:=h.c1;have hl:=h.lt;clear h;have ia:(0:Int)<=(a:Int):=by omega
 have ja:(a:Int)<8:=by omega
 have ib:(0:Int)<=(b:Int):=by omega
 have jb:(b:Int)<8:=by omega
 go_in;go_wp2_with fail;go_loop[7] (λi=>∃k:Nat,k<=n+1/\i=.int .i64 k/\Hid (∀c,c<k->¬zgL T a b c)) (λi=>n+1-(intOf i).toNat)
 ·exact⟨0,yu _,rfl,λc hc=>absurd hc (by omega)⟩
 obtain⟨k,hk,rfl,HK⟩:=hrel;by_cases ag:k<n+1
 ·have t0:=HA.out.said a k (by omega) (by omega);have t1:=HA.out.said k b (by omega) (by omega);have ik:(0:Int)<=(k:Int):=by omega
  have jk:(k:Int)<8:=by omega
  have HY:Hid (zgL T a b k->feS n T a b=true):=λh=>y9.2 ⟨k,by simpa using ag,by simpa using h⟩;have HN:Hid (¬zgL T a b k->∀c,c<k+1->¬zgL T a b c):=λh c hc=>by
   by_cases he:c=k
   ·rw[he];exact h
   exact HK.out c (by omega)
  clear HK;by_cases ad:a=0
  ·have a0:((a:Int) != 0)=false:=by simp[ad]
   by_cases aa:b=0
   ·have b0:((b:Int) != 0)=false:=by simp[aa]
    have HX:=hid (HN.out (λh=>by rcases h with h|h;exact h.1 ad;exact h.1 aa));clear ad aa HY HN;go_wp2_with go_in;go_round
    ·exact⟨k+1,by omega,by go_num,HX⟩
    simp[intOf];omega
   have b0:((b:Int) != 0)=true:=by simp;omega
   by_cases ab:k=a
   ·have b1:((k:Int) != (a:Int))=false:=by simp[ab]
    have HX:=hid (HN.out (λh=>by rcases h with h|h;exact h.1 ad;exact h.2.1 ab));clear ad aa ab HY HN;go_wp2_with go_in;go_round
    ·exact⟨k+1,by omega,by go_num,HX⟩
    simp[intOf];omega
   have b1:((k:Int) != (a:Int))=true:=by simp;omega
   by_cases ac:T k b=1
   ·have b2:(T k b==1)=true:=by simp[ac]
    have HX:=hid (HY.out (.inr ⟨aa,ab,ac⟩));clear ad aa ab ac HY HN;go_wp2_with go_in
    all_goals
     go_ret;exact⟨zh HX.out.symm,yk _ _⟩
   have b2:(T k b==1)=false:=by simpa using ac
   have HX:=hid (HN.out (λh=>by rcases h with h|h;exact h.1 ad;exact ac h.2.2));clear ad aa ab ac HY HN;go_wp2_with go_in;go_round
   ·exact⟨k+1,by omega,by go_num,HX⟩
   simp[intOf];omega
  have a0:((a:Int) != 0)=true:=by simp;omega
  by_cases ae:k=b
  ·have a1:((k:Int) != (b:Int))=false:=by simp[ae]
   by_cases aa:b=0
   ·have b0:((b:Int) != 0)=false:=by simp[aa]
    have HX:=hid (HN.out (λh=>by rcases h with h|h;exact h.2.1 ae;exact h.1 aa));clear ad ae aa HY HN;go_wp2_with go_in;go_round
    ·exact⟨k+1,by omega,by go_num,HX⟩
    simp[intOf];omega
   have b0:((b:Int) != 0)=true:=by simp;omega
   by_cases ab:k=a
   ·have b1:((k:Int) != (a:Int))=false:=by simp[ab]
    have HX:=hid (HN.out (λh=>by rcases h with h|h;exact h.2.1 ae;exact h.2.1 ab));clear ad ae aa ab HY HN;go_wp2_with go_in;go_round
    ·exact⟨k+1,by omega,by go_num,HX⟩
    simp[intOf];omega
   have b1:((k:Int) != (a:Int))=true:=by simp;omega
   by_cases ac:T k b=1
   ·have b2:(T k b==1)=true:=by simp[ac]
    have HX:=hid (HY.out (.inr ⟨aa,ab,ac⟩));clear ad ae aa ab ac HY HN;go_wp2_with go_in
    all_goals
     go_ret;exact⟨zh HX.out.symm,yk _ _⟩
   have b2:(T k b==1)=false:=by simpa using ac
   have HX:=hid (HN.out (λh=>by rcases h with h|h;exact h.2.1 ae;exact ac h.2.2));clear ad ae aa ab ac HY HN;go_wp2_with go_in;go_round
   ·exact⟨k+1,by omega,by go_num,HX⟩
   simp[intOf];omega
  have a1:((k:Int) != (b:Int))=true:=by simp;omega
  by_cases af:T a k=1
  ·have a2:(T a k==1)=true:=by simp[af]
   have HX:=hid (HY.out (.inl ⟨ad,ae,af⟩));clear ad ae af HY HN;go_wp2_with go_in
   all_goals
    go_ret;exact⟨zh HX.out.symm,yk _ _⟩
  have a2:(T a k==1)=false:=by simpa using af
  by_cases aa:b=0
  ·have b0:((b:Int) != 0)=false:=by simp[aa]
   have HX:=hid (HN.out (λh=>by rcases h with h|h;exact af h.2.2;exact h.1 aa));clear ad ae af aa HY HN;go_wp2_with go_in;go_round
   ·exact⟨k+1,by omega,by go_num,HX⟩
   simp[intOf];omega
  have b0:((b:Int) != 0)=true:=by simp;omega
  by_cases ab:k=a
  ·have b1:((k:Int) != (a:Int))=false:=by simp[ab]
   have HX:=hid (HN.out (λh=>by rcases h with h|h;exact af h.2.2;exact h.2.1 ab));clear ad ae af aa ab HY HN;go_wp2_with go_in;go_round
   ·exact⟨k+1,by omega,by go_num,HX⟩
   simp[intOf];omega
  have b1:((k:Int) != (a:Int))=true:=by simp;omega
  by_cases ac:T k b=1
  ·have b2:(T k b==1)=true:=by simp[ac]
   have HX:=hid (HY.out (.inr ⟨aa,ab,ac⟩));clear ad ae af aa ab ac HY HN;go_wp2_with go_in
   all_goals
    go_ret;exact⟨zh HX.out.symm,yk _ _⟩
  have b2:(T k b==1)=false:=by simpa using ac
  have HX:=hid (HN.out (λh=>by rcases h with h|h;exact af h.2.2;exact ac h.2.2));clear ad ae af aa ab ac HY HN;go_wp2_with go_in;go_round
  ·exact⟨k+1,by omega,by go_num,HX⟩
  simp[intOf];omega
 have HX:Hid (feS n T a b=false):=by show _=_;unfold feS;rw[ya5];intro c hc;have:=HK.out c (by have:c<n+1:=(by simpa using hc);omega);simpa using this
 go_wp2_with go_in;go_ret;exact⟨zh HX.out.symm,yk _ _⟩
def zbZ(n:Nat)(T D:Nat->Nat->Int)(a b:Nat):Int:=if a=0/\b=0 then 0 else if a=b\/T a b=2\/feS n T a b=true then -1 else D a b
theorem zr7(p o:Nat)(r:Rd)(T D:Nat->Nat->Int)(vf:Value)(n a b:Nat)(w:World)(hn:n<=7)(ha:a<n+1)(hb:b<n+1)(h:zaA w p o r T vf)(hq:SqR w vf (n+1) D):Calls Tryz.prog 184 #[.pointer (some ⟨p,o,none⟩),.int .i64 a,.int .i64 b] w λe w'=>e=.returned (.int .i64 (zbZ n T D a b))/\Below w.heap.size w w':=by
 obtain⟨af,cf,rfl,hn100,am⟩:=hq;obtain⟨fg,fgi,fci,rfl,ak,an,ah,al⟩:=am a ha;have hd:=al b hb;have HC:=hid (zpd p o r T _ cf n a b w hn ha hb h);have h1:=h.c1;have hl:=h.lt;have t0:=h.said a b (by omega) (by omega);have ia:(0:Int)<=(a:Int):=by omega
 have ja:(a:Int)<8:=by omega
 have ib:(0:Int)<=(b:Int):=by omega
 have jb:(b:Int)<8:=by omega
 have ja2:(a:Int)<(n:Int)+1:=by omega
 have jb2:(b:Int)<(n:Int)+1:=by omega
 obtain⟨d,aj⟩:∃d,d=D a b:=⟨_,rfl⟩
 rw[<-aj] at hd;have HX:Hid (zbZ n T D a b=if a=0/\b=0 then 0 else if a=b\/T a b=2\/feS n T a b=true then -1 else d):=by show _=_;unfold zbZ;rw[<-aj]
 generalize zbZ n T D a b=ans at*;generalize T a b=tv at*;generalize feS n T a b=fv at*;clear am al h aj;by_cases ae:a=0/\b=0
 ·have HY:Hid (ans=0):=by show _=_;rw[HX.out,yg ae]
  have c1:((a:Int)==0)=true:=by simp[ae.1]
  have c2:((b:Int)==0)=true:=by simp[ae.2]
  clear ae HX;go_in;go_wp2_with go_in
  all_goals
   go_ret;exact⟨zK HY.out.symm,yk _ _⟩
 have ab:Hid (ans=if a=b\/tv=2\/fv=true then -1 else d):=by show _=_;rw[HX.out,ye ae]
 have c1:(((a:Int)==0)&&((b:Int)==0))=false:=by simp;omega
 have ai:((a:Int)==0)=false\/(((a:Int)==0)=true/\((b:Int)==0)=false):=by
  by_cases h:a=0
  ·exact .inr ⟨by simp[h],by simp;omega⟩
  exact .inl (by simp;omega)
 clear c1 ae HX;by_cases ac:a=b
 ·have HY:Hid (ans=-1):=by show _=_;rw[ab.out,yg (.inl ac)]
  have c3:((a:Int)==(b:Int))=true:=by simp[ac]
  clear ac ab;rcases ai with k1|⟨k1,k2⟩
  all_goals
   go_in;go_wp2_with go_in
   all_goals
    go_ret;exact⟨zK HY.out.symm,yk _ _⟩
 have c3:((a:Int)==(b:Int))=false:=by simp;omega
 by_cases ad:tv=2
 ·have HY:Hid (ans=-1):=by show _=_;rw[ab.out,yg (.inr (.inl ad))]
  have c4:(tv==2)=true:=by simp[ad]
  clear ac ab ad;rcases ai with k1|⟨k1,k2⟩
  all_goals
   go_in;go_wp2_with go_in
   all_goals
    go_ret;exact⟨zK HY.out.symm,by first|exact yk _ _|exact(yk _ _).drew⟩
 have c4:(tv==2)=false:=by simpa using ad
 cases fv
 ·have HY:Hid (ans=d):=by show _=_;rw[ab.out,ye (by rintro (h|h|h);exact ac h;exact ad h;cases h)]
  clear ac ab ad;rcases ai with k1|⟨k1,k2⟩
  all_goals
   go_in;go_wp2_with(first
    | (go_at_call 209;refine HC.out.mono ?_;rintro e1 w1⟨rfl,aa⟩;have ag:=hid aa;have y1:=zc aa h1 hl;have yd:=zc aa hd ah;have yf:=zc aa an ak;have hl1:=ya hl aa.size;have hg1:=ya ak aa.size;have hg2:=ya ah aa.size;clear aa)
    | go_in)
   all_goals
    go_ret;exact⟨zK HY.out.symm,by first|exact ag.out|exact ag.out.drew⟩
 have HY:Hid (ans=-1):=by show _=_;rw[ab.out,yg (.inr (.inr rfl))]
 clear ac ab ad;rcases ai with k1|⟨k1,k2⟩
 all_goals
  go_in;go_wp2_with(first
   | (go_at_call 209;refine HC.out.mono ?_;rintro e1 w1⟨rfl,aa⟩;have ag:=hid aa;clear aa)
   | go_in)
  all_goals
   go_ret;exact⟨zK HY.out.symm,by first|exact ag.out|exact ag.out.drew⟩
def zhy(n:Nat)(L:List (List Int)):Prop:=∀q∈L,∃a b:Nat,q=[(a:Int),(b:Int)]/\a<n+1/\b<n+1/\a≠b
theorem zuc:∀(m:Nat)(L:List Nat),L.Nodup->(∀x∈L,x<m)->L.length<=m:=by
 intro m;induction m with
 | zero=>intro L _ h;cases L with
  | nil=>simp
  | cons x r=>exact absurd (h x (by simp)) (by omega)
 | succ m ih=>
  intro L hd h;by_cases hm:m∈L
  ·have h1:=ih (L.erase m) (hd.erase m) (λx hx=>by have h2:=(hd.mem_erase_iff).1 hx;have:=h x h2.2;have:=h2.1;omega);rw[ybs hm] at h1;omega
  have h1:=ih L hd (λx hx=>by have:=h x hx;have:x≠m:=λe=>hm (e▸hx);omega);omega
def zl4(T:Nat->Nat->Int)(L:List (List Int))(what:Int):Nat->Nat->Int:=λa b=>if [(a:Int),(b:Int)]∈L then what else T a b
def zfA(on off:List (List Int)):Nat->Nat->Int:=zl4 (zl4 (λ_ _=>0) on 1) off 2
def zdi(on:List (List Int))(a b:Nat):Bool:=on.any λq=>decide ((a≠0/\q.getD 0 0=a/\q.getD 1 0≠b)\/(b≠0/\q.getD 1 0=b/\q.getD 0 0≠a))
def zeE(on off:List (List Int))(D:Nat->Nat->Int)(a b:Nat):Int:=if a=0/\b=0 then 0 else if a=b\/[(a:Int),(b:Int)]∈off\/zdi on a b=true then -1 else D a b
theorem znQ{on off:List (List Int)}(a b:Nat):zfA on off a b=2↔[(a:Int),(b:Int)]∈off:=by
 unfold zfA zl4;by_cases h:[(a:Int),(b:Int)]∈off
 ·simp[h]
 simp[h];split<;>omega
theorem zgp{on off:List (List Int)}(hd:∀q∈on,q∉off)(a b:Nat):zfA on off a b=1↔[(a:Int),(b:Int)]∈on:=by
 unfold zfA zl4;by_cases h:[(a:Int),(b:Int)]∈on
 ·simp[h,hd _ h]
 by_cases h2:[(a:Int),(b:Int)]∈off
 ·simp[h,h2]
 simp[h,h2]
theorem ztM{n:Nat}{on off:List (List Int)}(ho:zhy n on)(hd:∀q∈on,q∉off)(a b:Nat):feS n (zfA on off) a b=zdi on a b:=by
 rw[yW];unfold feS zdi;rw[y9,y9];constructor
 ·rintro⟨c,hc,h⟩;have h:=yaE h;rcases h with ⟨h1,h2,h3⟩|⟨h1,h2,h3⟩
  ·exact⟨_,(zgp hd a c).1 h3,yak (.inl ⟨h1,rfl,by show (c:Int)≠b;omega⟩)⟩
  exact⟨_,(zgp hd c b).1 h3,yak (.inr ⟨h1,rfl,by show (c:Int)≠a;omega⟩)⟩
 rintro⟨q,hq,h⟩;obtain⟨x,y,rfl,hx,hy,hxy⟩:=ho q hq;have h:=yaE h;simp at h;rcases h with ⟨h1,h2,h3⟩|⟨h1,h2,h3⟩
 ·have:x=a:=by omega
  subst this;exact⟨y,by simpa using hy,yak (.inl ⟨h1,by omega,(zgp hd x y).2 hq⟩)⟩
 have:y=b:=by omega
 subst this;exact⟨x,by simpa using hx,yak (.inr ⟨h1,by omega,(zgp hd x y).2 hq⟩)⟩
theorem zrw{n:Nat}{on off:List (List Int)}(ho:zhy n on)(hd:∀q∈on,q∉off)(D:Nat->Nat->Int)(a b:Nat):zbZ n (zfA on off) D a b=zeE on off D a b:=by unfold zbZ zeE;rw[ztM ho hd];simp only[znQ]
end Go.Proofs.YtebinaopncclgabGreatDoor
