import Derived.Test.YtebinaopncclgabGreatDoorSTour
set_option maxRecDepth 100000
set_option maxHeartbeats 8000000
namespace Go.Proofs.YtebinaopncclgabGreatDoor
open Go.RowKit Go.IntWalk
theorem zvP(c:List Nat):(zL c).map Int.toNat=c:=ziG c
theorem zvx(c:List Nat)(x:Nat):zL (c++[x])=zL c++[(x:Int)]:=by simp[zL]
theorem zvt{I:Ins}{bh:Nat->Nat}{fs c:List Nat}(h:zbL I bh fs c):zfd I.n (zL c):=by
 refine⟨λe=>h.ne (by simpa[zL] using e),λx hx=>?_,λi hi h0=>?_⟩
 ·obtain⟨s,hs,rfl⟩:=yo.1 hx;have:=h.rng s hs;omega
 rw[zaJ] at hi;rw[zeF] at h0;have h1:c.getD (i+1) 0=0:=by omega
 have aa:c=c.take (i+1)++0::c.drop (i+2):=by
  have e1:c=c.take (i+1)++c.drop (i+1):=(yav _ _).symm;have e2:c.drop (i+1)=c[i+1]::c.drop (i+2):=yac (by omega);have e3:c[i+1]=0:=by rw[yj,yl (by omega),yK] at h1;exact h1
  rw[e3] at e2;rw[<-e2];exact e1
 rcases h.ends _ _ aa with h2|h2
 ·have:=yan List.length h2;rw[yaR,yay] at this;omega
 have:=yan List.length h2;rw[List.length_drop,yay] at this;omega
def zrV:Value->Nat
 | .slice _ n _=>n
 | _=>0
open Classical in
theorem zqZ{I:Ins}{bh:Nat->Nat}{f:Nat}{c:List Nat}(h:zU I c):zcD I bh (f+1) c=c:=by show (if zU I c then c else if c.getLast?.getD 0=0 then [] else zcD I bh f (c++[bh (c.getLast?.getD 0)]))=c;rw[yg h]
open Classical in
theorem zsQ{I:Ins}{bh:Nat->Nat}{f:Nat}{c:List Nat}(h:¬zU I c)(h0:c.getLast?.getD 0=0):zcD I bh (f+1) c=[]:=by
 show (if zU I c then c else if c.getLast?.getD 0=0 then [] else zcD I bh f (c++[bh (c.getLast?.getD 0)]))=[]
 rw[ye h,yg h0]
open Classical in
theorem zrU{I:Ins}{bh:Nat->Nat}{f:Nat}{c:List Nat}(h:¬zU I c)(h0:c.getLast?.getD 0≠0):zcD I bh (f+1) c=zcD I bh f (c++[bh (c.getLast?.getD 0)]):=by show (if zU I c then c else if c.getLast?.getD 0=0 then [] else zcD I bh f (c++[bh (c.getLast?.getD 0)]))=_;rw[ye h,ye h0]
theorem zkv{c:List Nat}(_h:c≠[]):c.getLast?.getD 0=c.getD (c.length-1) 0:=by rw[ybV,yj]
theorem ztf(p t:Nat)(r:Rd)(D:Nat->Nat->Int)(bh:Nat->Nat)(fs c:List Nat)(v vs vf:Value)(w:World)(aB:zE r)(ha:ze8 w p r D vs vf)(hD:∀a b,a<r.stops.length+1->b<r.stops.length+1->-1<=D a b/\D a b<=40960000)(ht:zdv w t r.stops.length bh fs)(hq:zcA (zb r D) bh fs)(hr:zaR w v (zL c))(hc:zbL (zb r D) bh fs c)(hl:c.length<=2):Calls Tryz.prog 196 #[.pointer (some ⟨p,0,none⟩),.pointer (some ⟨t,0,none⟩),v] w λe w'=>∃x,e=.returned x/\w'.ownsRow w.heap.size 3 1 x (zbq (zb r D) bh c).length (zd (zL (zbq (zb r D) bh c)))/\Below w.heap.size w w':=by
 obtain⟨i0,hi,aC,aD,aE⟩:=info_parts Tryz.infoInt;have aQ:=aB.nstops;have ax:=hid ht;have HA:=hid ha;have aK:=hid hq;have aH:=hid hc;have htl:=ht.lt;have ay:0<c.length:=yaQ.2 hc.ne;have aF:Hid (∀(W:World)(x:Value)(c':List Nat),Below w.heap.size w W->zbL (zb r D) bh fs c'->c'.length<=10->zaR W x (zL c')->Calls Tryz.prog 219 #[.pointer (some ⟨p,0,none⟩),x] W λe w'=>e=.returned (.bool (@decide (zU (zb r D) c') (Classical.propDecidable _)))/\Below W.heap.size W w'):=λW x c' hW aN az hx=>by refine(znF p r D x vs vf (zL c') W (by rw[zaJ];omega) hx aB (ha.below hW) hD).mono ?_;rintro e w'⟨h1,h2⟩;refine⟨?_,h2⟩;rw[h1];congr 2;rw[zvP];have h3:=zvt aN;apply ybZ.2;exact⟨λh=>h.2,λh=>⟨h3,h⟩⟩
 obtain⟨ao,ca,rfl,am⟩:=hr;rw[zaJ] at am⊢;obtain⟨g,aM,hgl,_⟩:=am 0 ay;subst aM;have aw:Hid (∀j u,(zd (zL c))[j]?=some u->w.cell? ((⟨g,0,none⟩:Addr).add j)=some u):=λj u hu=>by
  have hj:j<c.length:=by have:=(ybn.1 hu).1;simpa[zd,zL] using this
  obtain⟨g',e',_,h3⟩:=am j hj;cases e';have an:(⟨g,0,none⟩:Addr).add j=⟨g,j,none⟩:=by unfold Addr.add;split<;>simp_all
  rw[an,h3];rw[<-hu];have aP:j<(zL c).length:=by rw[zaJ];exact hj
  simp[zd,List.getD_eq_getElem?_getD,List.getElem?_eq_getElem aP]
 clear am ha ht hq hc;go_in;go_wp2_with(at_builtin;refine yy _ rfl _ _ 40 rfl w.heap.size 3 i0 (.int .i64 0) 1 8 Tryz.underlying40 hi aC aD aE rfl (by decide) _ 0 [] rfl (yC _ _ _ _) ⟨g,0,none⟩ c.length ca (zd (zL c)) rfl ?b0 ?b1 ?b2 ?b3 ?b4 ?b5 ?_)
 case b0=>simp[zd,zL]
 case b1=>exact aw.out
 case b2=>intro u hu;simp only[zd,yo] at hu;obtain⟨z,_,rfl⟩:=hu;rfl
 case b3=>unfold maxLen;omega
 case b4=>omega
 case b5=>exact yh _
 intro v1 w1 ac ah _;have au:Hid (w1.ownsRow w.heap.size 3 1 v1 c.length (zd (zL c))):=by
  show World.ownsRow _ _ _ _ _ _ _
  first|exact ac|(rw[yat,yax] at ac;exact ac)
 have ar:Hid (Below w.heap.size w w1):=(yk _ _).grown ah (yh _) (λx hx=>by cases hx);clear ac ah aw;go_wp2_with fail;go_loopw[7] (λcv wr=>∃c':List Nat,c'.length<=10/\0<c'.length/\Hid (zbL (zb r D) bh fs c')/\Hid (zbq (zb r D) bh c=zcD (zb r D) bh (10-c'.length) c')/\Hid (wr.ownsRow w.heap.size 3 1 cv c'.length (zd (zL c')))/\Hid (Below w.heap.size w wr)) (λcv _=>10-zrV cv)
 ·exact⟨c,by omega,ay,aH,rfl,au,ar⟩
 clear au ar;obtain⟨c',az,aL,ak,HE,HO,HB⟩:=hrel;obtain⟨q,capq,curq,aO,_,_,_⟩:=zF HO.out aL;subst aO;have ap:=HB.out.size;by_cases h9:c'.length<=9
 ·obtain⟨f,hf⟩:∃f,10-c'.length=f+1:=⟨9-c'.length,by omega⟩
  have ad:=hid (aF.out wr _ c' HB.out ak.out az (by have h:=zaR.own (zs:=zL c') (by rw[zaJ];exact HO.out);exact h));by_cases ae:zU (zb r D) c'
  ·have hd:@decide (zU (zb r D) c') (Classical.propDecidable _)=true:=by simpa using ae
   have HF:Hid (zbq (zb r D) bh c=c'):=by show _=_;rw[HE.out,hf,zqZ ae]
   rw[hd] at ad;clear ae hd hf HE;go_wp2_with fail;refine ad.out.mono ?_;rintro e2 w2⟨rfl,ab⟩;have al:=hid (ze HO.out ab);have ag:Hid (Below w.heap.size w w2):=HB.out.trans (ab.mono ap);clear ab ad;go_wp2_with fail;go_ret;exact⟨_,rfl,by rw[HF.out];exact al.out,ag.out⟩
  have hd:@decide (zU (zb r D) c') (Classical.propDecidable _)=false:=by simpa using ae
  rw[hd] at ad;obtain⟨m,hm⟩:∃m,c'.length=m+1:=⟨c'.length-1,by omega⟩
  have aa:c'.getLast?.getD 0=c'.getD m 0:=by rw[zkv ak.out.ne,hm,yab]
  have aq:c'.getD m 0<=r.stops.length:=ak.out.rng _ (by rw[yj,yl (by omega)];exact ym _);have x0:wr.cell? ⟨q,m,none⟩=some (.int .i64 (c'.getD m 0:Nat)):=by
   rw[HO.out.cellAt m (by omega)];have aA:m<(zL c').length:=by rw[zaJ];omega
   simp only[zd,yal,yl aA,ycb];rw[<-zeF,yj,yl aA,yK]
  have lq:q<wr.heap.size:=(HO.out.lt q rfl).2;by_cases hz:c'.getD m 0=0
  ·have HF:Hid (zbq (zb r D) bh c=[]):=by show _=_;rw[HE.out,hf,zsQ ae (by rw[aa];exact hz)]
   have x1:wr.cell? ⟨q,m,none⟩=some (.int .i64 0):=by rw[x0,hz];rfl
   have im:(0:Int)<=(m:Int):=by omega
   have jm:(m:Int)<((m+1:Nat):Int):=by omega
   have wm:IntKind.i64.wrap (((m+1:Nat):Int)-1)=(m:Int):=by rw[zm _ (by omega)];omega
   have aS:IntKind.i64.wrap ((m:Int)+1-1)=(m:Int):=by rw[zm _ (by omega)];omega
   rw[hm] at HO ad⊢;clear ae hd hf HE hz x0 aa aq;go_wp2_with fail;refine ad.out.mono ?_;rintro e2 w2⟨rfl,ab⟩;have y1:=zc ab x1 lq;have l2:=ya lq ab.size;have ag:Hid (Below w.heap.size w w2):=HB.out.trans (ab.mono ap);clear ab ad x1;go_wp2_with go_in;go_ret;exact⟨_,rfl,by rw[HF.out];exact yC _ _ _ _,ag.out⟩
  obtain⟨s,hs⟩:∃s,s=c'.getD m 0:=⟨_,rfl⟩
  rw[<-hs] at aa aq x0 hz;have aG:Hid (zbL (zb r D) bh fs (c'++[bh s])):=by have h:=ak.out.snoc aK.out (by rw[aa];exact hz);rw[aa] at h;exact h
  have aI:Hid (zbq (zb r D) bh c=zcD (zb r D) bh (10-(c'++[bh s]).length) (c'++[bh s])):=by show _=_;rw[HE.out,hf,zrU ae (by rw[aa];exact hz),aa,yz,show 10-(c'.length+[bh s].length)=f by simp;omega]
  have im:(0:Int)<=(m:Int):=by omega
  have jm:(m:Int)<((m+1:Nat):Int):=by omega
  have wm:IntKind.i64.wrap (((m+1:Nat):Int)-1)=(m:Int):=by rw[zm _ (by omega)];omega
  have aS:IntKind.i64.wrap ((m:Int)+1-1)=(m:Int):=by rw[zm _ (by omega)];omega
  have e0:((s:Int)==0)=false:=by simpa using hz
  have is:(0:Int)<=(s:Int):=by omega
  have js:(s:Int)<8:=by omega
  have b0:=(ax.out.below HB.out).behind (s:=s) (by omega) aq aQ;have lt:=(ax.out.below HB.out).lt;have hm9:m<=8:=by omega
  rw[hm] at HO ad⊢;clear ae hd hf HE hz aa hs;go_wp2_with fail;refine ad.out.mono ?_;rintro e2 w2⟨rfl,ab⟩;have y1:=zc ab x0 lq;have l2:=ya lq ab.size;have z1:=zc ab b0 lt;have lt2:=ya lt ab.size;have ag:Hid (Below w.heap.size w w2):=HB.out.trans (ab.mono ap);have al:=hid (ze HO.out ab);have hbs2:=ag.out.size;clear ab ad x0 b0;go_wp2_with(first
   | (at_builtin;refine yy _ rfl _ _ 40 rfl w.heap.size 3 i0 (.int .i64 0) 1 8 Tryz.underlying40 hi aC aD aE rfl (by decide) _ _ _ rfl (al.out.alloc _) ⟨w2.heap.size,0,none⟩ 1 1 [.int .i64 (bh s:Nat)] rfl rfl ?c1 ?c2 ?c3 ?c4 ?c5 ?_)
   | go_in)
  case c1=>exact cell_one_new _ _ _
  case c2=>intro u hu;simp at hu;subst hu;rfl
  case c3=>unfold maxLen;omega
  case c4=>omega
  case c5=>simp;omega
  intro v3 w3 af ai _;have av:=hid af;have aJ:=hid ai;clear af ai;go_wp2;go_roundw
  ·refine⟨c'++[bh s],by simp;omega,by simp,aG,aI,?_,?_⟩
   ·show World.ownsRow _ _ _ _ _ _ _;rw[zvx,zaY,yz,hm];exact av.out
   exact(ag.out.alloc (by omega) _).grown aJ.out (by simp;omega) (λx hx=>by have:=(al.out.lt x hx).1;omega)
  obtain⟨q3,cap3,cur3,aR,_,_,_⟩:=zF av.out (by omega);rw[aR];simp[zrV];omega
 have aj:c'.length=10:=by omega
 have HF:Hid (zbq (zb r D) bh c=[]):=by show _=_;rw[HE.out,aj];rfl
 rw[aj] at HO⊢;clear HE;go_wp2_with fail;go_ret;exact⟨_,rfl,by rw[HF.out];exact yC _ _ _ _,HB.out⟩
theorem ziM{c:List Nat}{i:Nat}(h1:1<=i)(h:i<c.length):nbr (c.take (i+1))=nbr (c.take i)++[(c.getD (i-1) 0,c.getD i 0)]:=by
 have e1:c.take (i+1)=c.take i++[c.getD i 0]:=by rw[yr h,yj,yl h];rfl
 have aa:c.take i≠[]:=λe=>by have:=yan List.length e;rw[yaR,yay] at this;omega
 have hl:(c.take i).length=i:=by rw[yaR];omega
 rw[e1,zi9 _ _ aa,zkv aa,hl];congr 3;rw[yj,yj,yaV (by omega)]
theorem znR{c:List Nat}(h:0<c.length):nbr (c.take 1)=[]:=by
 cases c with
 | nil=>simp at h
 | cons a c=>rfl
theorem zkg{n a b:Nat}{T:Nat->Nat->Int}(ha:a<=n)(hb:b<=n):(zcN n T (a:Int) (b:Int)=0)↔zcx T (a,b)=true:=by
 unfold zcN zcx;rw[yq];by_cases h:a=b
 ·rw[ye (λhc=>by have:=hc.2.2;omega)];constructor
  ·intro h1;omega
  intro h1;exact absurd h h1.1
 rw[yg ⟨⟨by omega,by omega⟩,⟨by omega,by omega⟩,by omega⟩];simp only[yam];exact⟨λh1=>⟨h,h1⟩,λh1=>h1.2⟩
theorem zrG(p:Nat)(r:Rd)(T:Nat->Nat->Int)(af:Option Addr)(cf n:Nat)(c:List Nat)(v:Value)(w:World)(hn:n<=7)(h:zaA w p 8 r T (.slice af (n+1:Nat) cf))(hr:zaR w v (zL c))(h0:0<c.length)(hl:c.length<=20)(hc:∀s∈c,s<=n):Calls Tryz.prog 197 #[.pointer (some ⟨p,0,none⟩),v] w λe w'=>e=.returned (.int .i64 (zcz T c))/\Below w.heap.size w w':=by
 have HS:Hid (∀(W:World)(x y:Int),Below w.heap.size w W->Calls Tryz.prog 146 #[.pointer (some ⟨p,8,none⟩),.int .i64 x,.int .i64 y] W λe w'=>e=.returned (.int .i64 (zcN n T x y))/\Below W.heap.size W w'):=λW x y hW=>zg4 p 8 r T af cf n x y W hn (h.below hW);have an:=h.lt;obtain⟨ao,ca,rfl,ai⟩:=hr;rw[zaJ] at ai⊢;have HR:Hid (∀j,j<c.length->∃g,ao=some ⟨g,0,none⟩/\g<w.heap.size/\w.cell? ⟨g,j,none⟩=some (.int .i64 (c.getD j 0:Nat))):=λj hj=>by obtain⟨g,h1,h2,h3⟩:=ai j hj;exact⟨g,h1,h2,by rw[h3,zeF]⟩
 have HC:Hid (∀j,j<c.length->c.getD j 0<=n):=λj hj=>hc _ (by rw[yj,yl hj];exact ym _);clear ai hc h;go_in;go_wp2_with fail;go_loopw[5,6] (λcv i wr=>∃k q:Nat,1<=k/\k<=c.length/\i=.int .i64 k/\cv=.int .i64 q/\q<=k/\Hid (q=zcz T (c.take k))/\Hid (Below w.heap.size w wr)) (λ_ i _=>c.length-(intOf i).toNat)
 ·exact⟨1,0,yh _,h0,rfl,rfl,by omega,by show _=_;unfold zcz;rw[znR h0];rfl,yk _ _⟩
 obtain⟨k,q,hk1,hk,rfl,rfl,hfk,HQ,HB⟩:=hrel;obtain⟨m,rfl⟩:∃m,k=m+1:=⟨k-1,by omega⟩
 by_cases ah:m+1<c.length
 ·obtain⟨g,ak,ag,x1⟩:=HR.out (m+1) ah;obtain⟨g',ae,_,x0⟩:=HR.out m (by omega);subst ak;cases ae;have y1:=zc HB.out x1 ag;have y0:=zc HB.out x0 ag;have lg:=ya ag HB.out.size;have lp:=ya an HB.out.size;have HN:=hid (ziM (c:=c) (by omega) ah);rw[yab] at HN;have am:=HC.out (m+1) ah;have al:=HC.out m (by omega);have ac:=hid (zkg (T:=T) al am);have ab:Hid (zcz T (c.take (m+1+1))=zcz T (c.take (m+1))+(if zcx T (c.getD m 0,c.getD (m+1) 0)=true then 1 else 0)):=by
   show _=_;unfold zcz;rw[HN.out,yaL,yz];congr 1;by_cases hf:zcx T (c.getD m 0,c.getD (m+1) 0)=true
   ·rw[yg hf,yQ hf];rfl
   rw[ye hf,yS hf];rfl
  generalize c.getD m 0=a at*;generalize c.getD (m+1) 0=b at*;have aj:Hid (∀W,Below wr.heap.size wr W->Calls Tryz.prog 146 #[.pointer (some ⟨p,8,none⟩),.int .i64 (a:Nat),.int .i64 (b:Nat)] W λe w'=>e=.returned (.int .i64 (zcN n T (a:Nat) (b:Nat)))/\w'.cell? ⟨g,m,none⟩=some (.int .i64 (a:Nat))/\w'.cell? ⟨g,m+1,none⟩=some (.int .i64 (b:Nat))/\Hid (Below w.heap.size w w')):=λW hW=>by refine(HS.out W a b (HB.out.trans (hW.mono HB.out.size))).mono ?_;rintro e w'⟨h1,h2⟩;have h3:Below wr.heap.size wr w':=hW.trans (h2.mono hW.size);exact⟨h1,zc h3 y0 lg,zc h3 y1 lg,HB.out.trans (h3.mono HB.out.size)⟩
  have ia:(0:Int)<=(m:Int):=by omega
  have ja:(m:Int)<(c.length:Int):=by omega
  have jb:((m+1:Nat):Int)<(c.length:Int):=by omega
  have wz:IntKind.i64.wrap (((m+1:Nat):Int)-1)=(m:Int):=by rw[zm _ (by omega)];omega
  have ib:(0:Int)<=(m:Int)+1:=by omega
  have jb2:(m:Int)+1<(c.length:Int):=by omega
  have wz2:IntKind.i64.wrap ((m:Int)+1-1)=(m:Int):=by rw[zm _ (by omega)];omega
  have tn:((m:Int)+1).toNat=m+1:=by omega
  have wz3:IntKind.i64.wrap (m:Int)=(m:Int):=zm _ (by omega);generalize zcN n T (a:Nat) (b:Nat)=sd at*;clear x0 x1 HN HR HC HS;by_cases hf:zcx T (a,b)=true
  ·have aa:=ac.out.2 hf;have b1:(sd==0)=true:=by simp[aa]
   rw[yg hf] at ab;clear hf ac aa;go_wp2_with fail;go_region_held3 (λw'=>w'.cell? ⟨g,m,none⟩=some (.int .i64 (a:Nat))/\w'.cell? ⟨g,m+1,none⟩=some (.int .i64 (b:Nat))) (go_keep) (first|(go_at_call 146;refine(aj.out _ (by first|exact yk _ _|exact(yk _ _).drew)).mono ?_;rintro e3 w3⟨rfl,z0,z1,ad⟩));go_wp2;refine⟨⟨m+1+1,q+1,by omega,by omega,by go_num,by go_num,by omega,by show _=_;rw[ab.out,HQ.out],ad⟩,by simp[intOf];omega⟩
  have aa:sd≠0:=λe=>hf (ac.out.1 e);have b1:(sd==0)=false:=by simpa using aa
  rw[ye hf] at ab;clear hf ac aa;go_wp2_with fail;go_region_held3 (λw'=>w'.cell? ⟨g,m,none⟩=some (.int .i64 (a:Nat))/\w'.cell? ⟨g,m+1,none⟩=some (.int .i64 (b:Nat))) (go_keep) (first|(go_at_call 146;refine(aj.out _ (by first|exact yk _ _|exact(yk _ _).drew)).mono ?_;rintro e3 w3⟨rfl,z0,z1,ad⟩));go_wp2;refine⟨⟨m+1+1,q,by omega,by omega,by go_num,rfl,by omega,by show _=_;rw[ab.out,HQ.out];rfl,ad⟩,by simp[intOf];omega⟩
 have HF:Hid (zcz T c=q):=by show _=_;rw[HQ.out,yD (by omega)]
 go_wp2_with fail;go_ret;refine⟨?_,HB.out⟩;rw[HF.out];rfl
theorem ztr(w:World)(x:Int):(w.alloc (.cells #[.int .i64 x] 3)).ownsRow w.heap.size 3 1 (.slice (some ⟨w.heap.size,0,none⟩) 1 1) 1 (zd [x]):=by have:=ya4 (base:=w.heap.size) (e:=3) (size:=1) w #[.int .i64 x] 1 (by simp) (by unfold maxLen;omega) rfl;simpa[zd] using this
theorem zl8(w:World)(x y:Int):(w.alloc (.cells #[.int .i64 x,.int .i64 y] 3)).ownsRow w.heap.size 3 1 (.slice (some ⟨w.heap.size,0,none⟩) 2 2) 2 (zd [x,y]):=by have:=ya4 (base:=w.heap.size) (e:=3) (size:=1) w #[.int .i64 x,.int .i64 y] 2 (by simp) (by unfold maxLen;omega) rfl;simpa[zd] using this
theorem zrS{T:Nat->Nat->Int}{c:List Nat}(h:(nbr c).find? (zcx T)=none):zcW T c=(4,zL c):=by unfold zcW;rw[h];rfl
theorem zr2{T:Nat->Nat->Int}{c:List Nat}{p:Nat×Nat}(h:(nbr c).find? (zcx T)=some p):zcW T c=(1,[(p.1:Int),(p.2:Int)]):=by unfold zcW;rw[h]
theorem zuU{c:List Nat}{i:Nat}(h1:1<=i)(h:i<=c.length):∃l,nbr c=nbr (c.take i)++l:=by
 obtain⟨d,hd⟩:∃d,c.length=i+d:=⟨c.length-i,by omega⟩
 induction d generalizing i with
 | zero=>exact⟨[],by rw[yD (by omega),yY]⟩
 | succ d ih=>obtain⟨l,hl⟩:=ih (i:=i+1) (by omega) (by omega) (by omega);exact⟨_,by rw[hl,ziM h1 (by omega),yaa]⟩
theorem zr4(p B:Nat)(r:Rd)(T:Nat->Nat->Int)(af:Option Addr)(cf n:Nat)(c:List Nat)(v:Value)(w:World)(hn:n<=7)(h:zaA w p 8 r T (.slice af (n+1:Nat) cf))(ho:w.ownsRow B 3 1 v c.length (zd (zL c)))(hB:B<=w.heap.size)(h0:0<c.length)(hl:c.length<=20)(hc:∀s∈c,s<=n):Calls Tryz.prog 145 #[.pointer (some ⟨p,0,none⟩),v] w λe w'=>∃x,e=.returned (.agg #[.int .i64 (zcW T c).1,x])/\w'.ownsRow B 3 1 x (zcW T c).2.length (zd (zcW T c).2)/\Below w.heap.size w w':=by
 have HO:=hid ho;have hr:zaR w v (zL c):=zaR.own (by rw[zaJ];exact ho);clear ho;have HS:Hid (∀(W:World)(x y:Int),Below w.heap.size w W->Calls Tryz.prog 146 #[.pointer (some ⟨p,8,none⟩),.int .i64 x,.int .i64 y] W λe w'=>e=.returned (.int .i64 (zcN n T x y))/\Below W.heap.size W w'):=λW x y hW=>zg4 p 8 r T af cf n x y W hn (h.below hW);have aG:=h.lt;obtain⟨ao,ca,rfl,an⟩:=hr;rw[zaJ] at an⊢;have HR:Hid (∀j,j<c.length->∃g,ao=some ⟨g,0,none⟩/\g<w.heap.size/\w.cell? ⟨g,j,none⟩=some (.int .i64 (c.getD j 0:Nat))):=λj hj=>by obtain⟨g,h1,h2,h3⟩:=an j hj;exact⟨g,h1,h2,by rw[h3,zeF]⟩
 have HC:Hid (∀j,j<c.length->c.getD j 0<=n):=λj hj=>hc _ (by rw[yj,yl hj];exact ym _);clear an hc h;obtain⟨W0,ai⟩:∃W0,W0=w.alloc (.cells #[.int .i64 0,.slice none 0 0] 76):=⟨_,rfl⟩
 have ag:Hid (Below w.heap.size w W0):=by show Below _ _ _;rw[ai];exact zj w _
 have ak:W0.heap[w.heap.size]?=some (.cells #[.int .i64 0,.slice none 0 0] 76 (0,0)):=by rw[ai];exact yx w _
 have ay:w.heap.size<W0.heap.size:=(yc.1 ak).1;have aq:=hid ak;have aA:=hid ai;clear ai ak;go_in;go_wp2_with fail;go_loopw[5] (λi wr=>∃k:Nat,1<=k/\k<=c.length/\i=.int .i64 k/\Hid ((nbr (c.take k)).find? (zcx T)=none)/\Hid (Below W0.heap.size W0 wr)) (λi _=>c.length-(intOf i).toNat)
 ·exact⟨1,yh _,h0,rfl,by show _=_;rw[znR h0];rfl,by show Below _ _ _;rw[aA.out];exact yk _ _⟩
 obtain⟨k,hk1,hk,rfl,HQ,ae⟩:=hrel;have HB:Hid (Below w.heap.size w wr):=ag.out.trans (ae.out.mono ag.out.size);obtain⟨m,rfl⟩:∃m,k=m+1:=⟨k-1,by omega⟩
 by_cases am:m+1<c.length
 ·obtain⟨g,aC,al,x1⟩:=HR.out (m+1) am;obtain⟨g',aj,_,x0⟩:=HR.out m (by omega);subst aC;cases aj;have y1:=zc HB.out x1 al;have y0:=zc HB.out x0 al;have lg:=ya al HB.out.size;have lp:=ya aG HB.out.size;have HN:=hid (ziM (c:=c) (by omega) am);rw[yab] at HN;have aF:=HC.out (m+1) am;have aE:=HC.out m (by omega);have ah:=hid (zkg (T:=T) aE aF);have ac:Hid ((nbr (c.take (m+1+1))).find? (zcx T)=if zcx T (c.getD m 0,c.getD (m+1) 0)=true then some (c.getD m 0,c.getD (m+1) 0) else none):=by
   show _=_;rw[HN.out,List.find?_append,HQ.out];by_cases hf:zcx T (c.getD m 0,c.getD (m+1) 0)=true
   ·rw[yg hf,List.find?_cons_of_pos hf];rfl
   rw[ye hf,List.find?_cons_of_neg hf];rfl
  have ar:=hid (zuU (c:=c) (i:=m+1+1) (by omega) (by omega));generalize c.getD m 0=a at*;generalize c.getD (m+1) 0=b at*;have au:Hid (∀W,Below wr.heap.size wr W->Calls Tryz.prog 146 #[.pointer (some ⟨p,8,none⟩),.int .i64 (a:Nat),.int .i64 (b:Nat)] W λe w'=>e=.returned (.int .i64 (zcN n T (a:Nat) (b:Nat)))/\w'.cell? ⟨g,m,none⟩=some (.int .i64 (a:Nat))/\w'.cell? ⟨g,m+1,none⟩=some (.int .i64 (b:Nat))/\Hid (Below W0.heap.size W0 w')):=λW hW=>by refine(HS.out W a b (HB.out.trans (hW.mono HB.out.size))).mono ?_;rintro e w'⟨h1,h2⟩;have h3:Below wr.heap.size wr w':=hW.trans (h2.mono hW.size);exact⟨h1,zc h3 y0 lg,zc h3 y1 lg,ae.out.trans (h3.mono ae.out.size)⟩
  have ia:(0:Int)<=(m:Int):=by omega
  have ja:(m:Int)<(c.length:Int):=by omega
  have jb:((m+1:Nat):Int)<(c.length:Int):=by omega
  have wz:IntKind.i64.wrap (((m+1:Nat):Int)-1)=(m:Int):=by rw[zm _ (by omega)];omega
  have ib:(0:Int)<=(m:Int)+1:=by omega
  have jb2:(m:Int)+1<(c.length:Int):=by omega
  have wz2:IntKind.i64.wrap ((m:Int)+1-1)=(m:Int):=by rw[zm _ (by omega)];omega
  have tn:((m:Int)+1).toNat=m+1:=by omega
  have wz3:IntKind.i64.wrap (m:Int)=(m:Int):=zm _ (by omega);generalize zcN n T (a:Nat) (b:Nat)=sd at*;clear x0 x1 HN HR HC HS;by_cases hf:zcx T (a,b)=true
  ·have ad:=ah.out.2 hf;have b1:(sd==0)=true:=by simp[ad]
   rw[yg hf] at ac;have HP:Hid (zcW T c=(1,[(a:Int),(b:Int)])):=by obtain⟨l,hl⟩:=ar.out;exact zr2 (by rw[hl,List.find?_append,ac.out];rfl)
   clear hf ah ad ac ar;go_wp2_with fail;go_region_held3 (λw'=>w'.cell? ⟨g,m,none⟩=some (.int .i64 (a:Nat))/\w'.cell? ⟨g,m+1,none⟩=some (.int .i64 (b:Nat))) (go_keep) (first|(go_at_call 146;refine(au.out _ (by first|exact yk _ _|exact(yk _ _).drew)).mono ?_;rintro e3 w3⟨rfl,z0,z1,ab⟩));have lg3:g<w3.heap.size:=by have:=ab.out.size;omega
   have aa:=(ab.out.block _ ay).trans aq.out;have az:w.heap.size<w3.heap.size:=(yc.1 aa).1;have r0:w3.cell? ⟨w.heap.size,0,none⟩=_:=yi w3 _ 0 _ _ _ aa;have r1:w3.cell? ⟨w.heap.size,1,none⟩=_:=yi w3 _ 1 _ _ _ aa;have n1:w3.heap.size≠g:=by omega
   have n2:w.heap.size≠g:=by omega
   have n3:w3.heap.size≠w.heap.size:=by omega
   have n4:g≠w.heap.size:=by omega
   have n5:g≠w3.heap.size:=by omega
   have n6:w.heap.size≠w3.heap.size:=by omega
   have f0:=yv w3 w.heap.size 0 _ _ aa;have f1:=yv w3 w.heap.size 1 _ _ aa;go_wp2_with fail;go_region_held3 (λw'=>w'.cell? ⟨g,m,none⟩=some (.int .i64 (a:Nat))/\w'.cell? ⟨g,m+1,none⟩=some (.int .i64 (b:Nat))) (go_keep) (fail);go_wp2_with fail;refine yB (v:=.agg #[.int .i64 1,.slice (some ⟨w3.heap.size,0,none⟩) 2 2]) (by simp[results,Tryz.results145,go_sem,r0,r1,az]) rfl ?_;obtain⟨w4,ap⟩:∃w4,w4=(w3.setCell ⟨w.heap.size,0,none⟩ (.int .i64 1)).setCell ⟨w.heap.size,1,none⟩ (.slice (some ⟨w3.heap.size,0,none⟩) 2 2):=⟨_,rfl⟩
   have aB:w4.heap.size=w3.heap.size:=by rw[ap];simp
   have aw:=zl8 w4 a b;rw[aB] at aw;have aD:Below w.heap.size w w4:=by rw[ap];exact((ag.out.trans (ab.out.mono ag.out.size)).setCell (by exact yh _) _).setCell (by exact yh _) _
   rw[<-ap];refine⟨_,by rw[HP.out],?_,(aD.alloc (by omega) _).drew⟩;rw[HP.out];exact zcr (zan aw (by omega)) rfl
  have ad:sd≠0:=λe=>hf (ah.out.1 e);have b1:(sd==0)=false:=by simpa using ad
  rw[ye hf] at ac;clear hf ah ad;go_wp2_with fail;go_region_held3 (λw'=>w'.cell? ⟨g,m,none⟩=some (.int .i64 (a:Nat))/\w'.cell? ⟨g,m+1,none⟩=some (.int .i64 (b:Nat))) (go_keep) (first|(go_at_call 146;refine(au.out _ (by first|exact yk _ _|exact(yk _ _).drew)).mono ?_;rintro e3 w3⟨rfl,z0,z1,ab⟩));go_wp2;refine⟨⟨m+1+1,by omega,by omega,by go_num,ac,ab⟩,by simp[intOf];omega⟩
 have HP:Hid (zcW T c=(4,zL c)):=zrS (by have h:=HQ.out;rw[yD (by omega)] at h;exact h);rw[zaJ] at HO;have av:=hid (ze HO.out (HB.out));have aa:=(ae.out.block _ ay).trans aq.out;have az:w.heap.size<wr.heap.size:=(yc.1 aa).1;have r0:wr.cell? ⟨w.heap.size,0,none⟩=_:=yi wr _ 0 _ _ _ aa;have r1:wr.cell? ⟨w.heap.size,1,none⟩=_:=yi wr _ 1 _ _ _ aa;have f0:=yv wr w.heap.size 0 _ _ aa;have f1:=yv wr w.heap.size 1 _ _ aa;go_wp2_with fail;refine yB (v:=.agg #[.int .i64 4,.slice ao c.length ca]) (by simp[results,Tryz.results145,go_sem,r0,r1]) rfl ?_;refine⟨.slice ao c.length ca,by rw[HP.out],?_,(HB.out.setCell (by exact yh _) _).setCell (by exact yh _) _⟩;rw[HP.out];show World.ownsRow _ _ _ _ _ (zL c).length (zd (zL c));rw[zaJ];have ax:(Value.slice ao c.length ca).ownBlock≠some w.heap.size:=λh=>by have:=(av.out.lt _ h).2;have:=(HO.out.lt _ h).2;omega
 exact ownsRow_setCell_other (ownsRow_setCell_other av.out ax _) ax _
theorem ztD(k:Nat):((List.range (k+1)).map λi=>zL [i+1])=((List.range k).map λi=>zL [i+1])++[zL [k+1]]:=by rw[yR,yL];rfl
theorem ztl{fs:List Nat}{k:Nat}(h:k<fs.length):((fs.take (k+1)).map λf=>zL [0,f])=((fs.take k).map λf=>zL [0,f])++[zL [0,fs.getD k 0]]:=by rw[yr h,yL,yj,yl h];rfl
theorem zuh(n:Nat)(fs:List Nat):(zd8 n fs).map zL=((List.range n).map λi=>zL [i+1])++(fs.map λf=>zL [0,f]):=by unfold zd8;rw[yL,yah,yah];rfl
theorem ztC(t n:Nat)(bh:Nat->Nat)(fs:List Nat)(w:World)(hn:n<=7)(hf:fs.length<=3)(ht:zdv w t n bh fs):Calls Tryz.prog 195 #[.pointer (some ⟨t,0,none⟩)] w λe w'=>∃v vs,e=.returned v/\Rts w' w.heap.size w'.heap.size v ((zd8 n fs).map zL) vs/\Below w.heap.size w w':=by
 obtain⟨j0,hj,ap,aq,ar⟩:=info_parts Tryz.infoInts;have ak:=hid ht;clear ht;go_in;go_wp2_with fail;go_loopw[3,4] (λlv i wr=>∃(k:Nat)(vs:List Value),k<=n/\i=.int .i64 (k+1:Nat)/\Hid (Rts wr w.heap.size wr.heap.size lv ((List.range k).map λi=>zL [i+1]) vs)/\Hid (Below w.heap.size w wr)) (λ_ i _=>n+1-(intOf i).toNat)
 ·exact⟨0,[],yu _,rfl,Rts.nil _ _ _,yk _ _⟩
 obtain⟨k,vs,hk,rfl,HL,HB⟩:=hrel;have ad:=HL.out.len;have aj:vs.length<=7:=by rw[ad];simp;omega
 clear ad;obtain⟨al,cl,rfl,_,_⟩:=zg HL.out.own;have au:=HB.out.size;obtain⟨vf,h1,h2⟩:=(ak.out.below HB.out).at_;have c0:=h1.c0;have c9:=h1.c9;have lt:=h1.lt;have HV:=hid h2;by_cases ai:k<n
 ·have HT:=hid (ztD k);clear h1 h2;go_wp2_with(first
   | (at_builtin;refine yy _ rfl _ _ 31 rfl w.heap.size 40 j0 (.slice none 0 0) 1 24 Tryz.underlying31 hj ap aq ar rfl (by decide) _ _ _ rfl ((ze (HL.out.own) (zj wr (.cells #[.int .i64 ((k:Int)+1)] 3))).alloc _) ⟨wr.heap.size+1,0,none⟩ 1 1 [.slice (some ⟨wr.heap.size,0,none⟩) 1 1] rfl rfl ?d1 ?d2 ?d3 ?d4 ?d5 ?_)
   | go_in)
  case d1=>exact zjy (w:=wr.alloc _) rfl rfl (by simp)
  case d2=>intro u hu;simp at hu;subst hu;rfl
  case d3=>unfold maxLen;omega
  case d4=>omega
  case d5=>simp;omega
  intro v2 w2 aa ab _;have ac:=HL.out.below (zj wr (.cells #[.int .i64 ((k:Int)+1)] 3)) (U':=(wr.alloc (.cells #[.int .i64 ((k:Int)+1)] 3)).heap.size) (by simp);have ah:Hid (Rts w2 w.heap.size w2.heap.size v2 (((List.range k).map λi=>zL [i+1])++[zL [k+1]]) (vs++[.slice (some ⟨wr.heap.size,0,none⟩) 1 1])):=ac.push (zs:=zL [k+1]) (ztr wr ((k:Int)+1)) (by simp[zL]) (by omega) (zj _ _) ab aa;have af:Hid (Below w.heap.size w w2):=((HB.out.alloc (by omega) _).alloc (by simp;omega) _).grown ab (by simp;omega) (λx hx=>(HL.out.own.lt x hx).1);clear aa ab ac;go_wp2;go_roundw
  ·exact⟨k+1,_,by omega,by go_num,by show Rts _ _ _ _ _ _;rw[HT.out];exact ah.out,af⟩
  simp[intOf];omega
 have am:k=n:=by omega
 have ag:Hid (Rts wr w.heap.size wr.heap.size (.slice al vs.length cl) (((List.range n).map λi=>zL [i+1])++((fs.take 0).map λf=>zL [0,f])) vs):=by show Rts _ _ _ _ _ _;rw[<-am];simpa using HL.out
 have ae:=hid HB.out;obtain⟨w1,ao⟩:∃w1,w1=wr:=⟨_,rfl⟩
 rw[<-ao] at ag ae;obtain⟨m,hm⟩:∃m,m=k+1:=⟨_,rfl⟩
 have hmn:¬m<=n:=by omega
 rw[<-hm];clear h1 h2 HL HB c9 HV am hk hm ai;go_wp2_with fail;rw[<-ao];go_loopw[3,5] (λlv i wr=>∃(k:Nat)(vs:List Value),k<=fs.length/\i=.int .i64 k/\Hid (Rts wr w.heap.size wr.heap.size lv (((List.range n).map λi=>zL [i+1])++((fs.take k).map λf=>zL [0,f])) vs)/\Hid (Below w.heap.size w wr)) (λ_ i _=>fs.length-(intOf i).toNat)
 ·exact⟨0,vs,yu _,rfl,ag,ae⟩
 clear ag ae;obtain⟨k,vs,hk,rfl,HL,HB⟩:=hrel;have ad:=HL.out.len;have aj:vs.length<=10:=by rw[ad];simp;omega
 clear ad;obtain⟨al,cl,rfl,_,_⟩:=zg HL.out.own;have au:=HB.out.size;obtain⟨vf,h1,h2⟩:=(ak.out.below HB.out).at_;have c9:=h1.c9;have lt:=h1.lt;have HV:=hid h2;obtain⟨av,cv,ax,_,_⟩:=zg h2;subst ax;clear h1 h2;by_cases ai:k<fs.length
 ·obtain⟨q,capq,curq,aw,_,_,_⟩:=zF HV.out (by omega);cases aw;have x0:wr.cell? ⟨q,k,none⟩=some (.int .i64 (fs.getD k 0:Nat)):=by
   rw[HV.out.cellAt k (by omega)];have an:k<(zL fs).length:=by rw[zaJ];omega
   simp only[zd,yal,yl an,ycb];rw[<-zeF,yj,yl an,yK]
  have lq:q<wr.heap.size:=(HV.out.lt q rfl).2;have HT:=hid (ztl ai);generalize fs.getD k 0=f at*;have ik:(0:Int)<=(k:Int):=by omega
  have jk:(k:Int)<(fs.length:Int):=by omega
  go_wp2_with(first
   | (at_builtin;refine yy _ rfl _ _ 31 rfl w.heap.size 40 j0 (.slice none 0 0) 1 24 Tryz.underlying31 hj ap aq ar rfl (by decide) _ _ _ rfl ((ze (HL.out.own) (zj wr (.cells #[.int .i64 0,.int .i64 (f:Nat)] 3))).alloc _) ⟨wr.heap.size+1,0,none⟩ 1 1 [.slice (some ⟨wr.heap.size,0,none⟩) 2 2] rfl rfl ?d1 ?d2 ?d3 ?d4 ?d5 ?_)
   | go_in)
  case d1=>exact zjy (w:=wr.alloc _) rfl rfl (by simp)
  case d2=>intro u hu;simp at hu;subst hu;rfl
  case d3=>unfold maxLen;omega
  case d4=>omega
  case d5=>simp;omega
  intro v2 w2 aa ab _;have ac:=HL.out.below (zj wr (.cells #[.int .i64 0,.int .i64 (f:Nat)] 3)) (U':=(wr.alloc (.cells #[.int .i64 0,.int .i64 (f:Nat)] 3)).heap.size) (by simp);have ah:Hid (Rts w2 w.heap.size w2.heap.size v2 ((((List.range n).map λi=>zL [i+1])++((fs.take k).map λf=>zL [0,f]))++[zL [0,f]]) (vs++[.slice (some ⟨wr.heap.size,0,none⟩) 2 2])):=ac.push (zs:=zL [0,f]) (zl8 wr 0 (f:Nat)) (by simp[zL]) (by omega) (zj _ _) ab aa;have af:Hid (Below w.heap.size w w2):=((HB.out.alloc (by omega) _).alloc (by simp;omega) _).grown ab (by simp;omega) (λx hx=>(HL.out.own.lt x hx).1);clear aa ab ac;go_wp2;go_roundw
  ·exact⟨k+1,_,by omega,by go_num,by show Rts _ _ _ _ _ _;rw[HT.out,<-yaa];exact ah.out,af⟩
  simp[intOf];omega
 have HF:Hid ((zd8 n fs).map zL=((List.range n).map λi=>zL [i+1])++((fs.take k).map λf=>zL [0,f])):=by show _=_;rw[zuh,yD (by omega)]
 go_wp2_with fail;go_ret;exact⟨_,vs,rfl,by rw[HF.out];exact HL.out,HB.out⟩
theorem zkL{I:Ins}{T:Nat->Nat->Int}{bh:Nat->Nat}{l:List (List Nat)}{k:Nat}(h:k<l.length):zcJ I T bh (l.take (k+1))=zdL T (zcJ I T bh (l.take k)) (zbq I bh l[k]):=by unfold zcJ;rw[yr h,yL,yaX];rfl
theorem zn0(T:Nat->Nat->Int)(c:List Nat):zcz T c<=c.length:=by
 unfold zcz;have h1:=yau (zcx T) (nbr c);have h2:(nbr c).length<=c.length:=by
  induction c with
  | nil=>simp[nbr]
  | cons a c ih=>
   cases c with
   | nil=>simp[nbr]
   | cons b c=>simp[nbr] at ih⊢;exact ih (yau _ _)
 omega
theorem zkE{I:Ins}{bh:Nat->Nat}{fs c:List Nat}(ht:zcA I bh fs)(hc:zbL I bh fs c)(hl:c.length<=2)(aa:zbq I bh c≠[]):ztT I bh fs (zbq I bh c):=by obtain⟨h1,h2,h3⟩:=zmm ht (10-c.length) c hc (by omega) aa;exact⟨h1,h2,h3⟩
def zrH(I:Ins)(st:List Nat×Nat):Prop:=st.2<=20/\(∀s∈st.1,s<=I.n)/\st.1.length<=9
theorem zpo{I:Ins}{T:Nat->Nat->Int}{bh:Nat->Nat}{fs:List Nat}(ht:zcA I bh fs):∀(l:List (List Nat)),(∀c∈l,c∈zd8 I.n fs)->∀k,k<=l.length->zrH I (zcJ I T bh (l.take k)):=by
 intro l hl k;induction k with
 | zero=>intro _;exact⟨by simp[zcJ],by simp[zcJ],by simp[zcJ]⟩
 | succ k ih=>
  intro hk;have h1:=ih (by omega);rw[zkL (by omega)];have hm:=hl _ (ym (show k<l.length by omega));obtain⟨k1,k2,k3⟩:=zhS ht hm;unfold zdL;by_cases aa:zbq I bh l[k]=[]
  ·rw[yg aa];exact h1
  rw[ye aa];have hc:=zkE ht k1 k2 aa;split
  ·exact⟨by have:=zn0 T (zbq I bh l[k]);have:=hc.len;show zcz T _<=20;omega,hc.ok.rng,hc.len⟩
  exact h1
theorem zsd(p t:Nat)(r:Rd)(D T:Nat->Nat->Int)(bh:Nat->Nat)(fs:List Nat)(vs vf:Value)(af:Option Addr)(cf:Nat)(w:World)(aP:zE r)(ha:ze8 w p r D vs vf)(hA:zaA w p 8 r T (.slice af (r.stops.length+1:Nat) cf))(hD:∀a b,a<r.stops.length+1->b<r.stops.length+1->-1<=D a b/\D a b<=40960000)(ht:zdv w t r.stops.length bh fs)(hq:zcA (zb r D) bh fs)(aY:fs.length<=3):Calls Tryz.prog 144 #[.pointer (some ⟨p,0,none⟩),.pointer (some ⟨t,0,none⟩)] w λe w'=>∃x,e=.returned x/\w'.ownsRow w.heap.size 3 1 x (zea (zb r D) T bh fs).length (zd (zL (zea (zb r D) T bh fs)))/\Below w.heap.size w w':=by
 have aO:=aP.nstops;have aw:=hid (ztC t r.stops.length bh fs w aO aY ht);have aF:Hid (∀(W:World)(v:Value)(c:List Nat),c∈zd8 r.stops.length fs->Below w.heap.size w W->zaR W v (zL c)->Calls Tryz.prog 196 #[.pointer (some ⟨p,0,none⟩),.pointer (some ⟨t,0,none⟩),v] W λe w'=>∃x,e=.returned x/\w'.ownsRow W.heap.size 3 1 x (zbq (zb r D) bh c).length (zd (zL (zbq (zb r D) bh c)))/\Below W.heap.size W w'):=λW v c hc hW hv=>by obtain⟨k1,k2,_⟩:=zhS (I:=zb r D) hq hc;exact ztf p t r D bh fs c v vs vf W aP (ha.below hW) hD (ht.below hW) hq hv k1 k2
 have aR:Hid (∀(W:World)(v:Value)(c:List Nat),Below w.heap.size w W->zaR W v (zL c)->0<c.length->c.length<=20->(∀s∈c,s<=r.stops.length)->Calls Tryz.prog 197 #[.pointer (some ⟨p,0,none⟩),v] W λe w'=>e=.returned (.int .i64 (zcz T c))/\Below W.heap.size W w'):=λW v c hW hv h1 h2 h3=>zrG p r T af cf r.stops.length c v W aO (hA.below hW) hv h1 h2 h3;have HQ:=hid hq;have a1:(zd8 r.stops.length fs).length<=10:=by unfold zd8;simp;omega
 obtain⟨Bg,ak⟩:∃Bg,Bg=zd8 r.stops.length fs:=⟨_,rfl⟩
 have aV:Hid (zea (zb r D) T bh fs=(zcJ (zb r D) T bh Bg).1):=by show _=_;rw[ak];rfl
 rw[<-ak] at aw aF a1;have aS:Hid (∀k,k<=Bg.length->zrH (zb r D) (zcJ (zb r D) T bh (Bg.take k))):=λk hk=>zpo hq Bg (λc hc=>by rw[ak] at hc;exact hc) k hk;have aQ:Hid (∀c∈Bg,zbq (zb r D) bh c≠[]->ztT (zb r D) bh fs (zbq (zb r D) bh c)):=λc hc a2=>by rw[ak] at hc;obtain⟨k1,k2,_⟩:=zhS (I:=zb r D) hq hc;exact zkE hq k1 k2 a2
 clear ha hA ht hq hD ak;go_in;go_wp2_with fail;refine aw.out.mono ?_;rintro e1 w1⟨lv,a3,rfl,ar,aI⟩;have aU:=hid (ar.read (by rw[yN];omega));have aE:=hid aI;obtain⟨al,cl,aN,_,_⟩:=zg ar.own;have an:a3.length=Bg.length:=by rw[ar.len,yN]
 rw[an] at aN;subst aN;clear ar aI aw;go_wp2_with fail;go_loopw[5,6,8] (λbv fv i wr=>∃(k:Nat)(st:List Nat×Nat),k<=Bg.length/\i=.int .i64 k/\fv=.int .i64 st.2/\st.1.length<=9/\st.2<=20/\Hid (st=zcJ (zb r D) T bh (Bg.take k))/\Hid (wr.ownsRow w.heap.size 3 1 bv st.1.length (zd (zL st.1)))/\Hid (Below w1.heap.size w1 wr)) (λ_ _ i _=>Bg.length-(intOf i).toNat)
 ·exact⟨0,([],0),yu _,rfl,rfl,by simp,by simp,rfl,yC _ _ _ _,yk _ _⟩
 obtain⟨k,st,hk,rfl,rfl,aL,am,aH,HO,HB⟩:=hrel;obtain⟨ab,cb,rfl,_,_⟩:=zg HO.out;have aW:=HB.out.size;have ai:Hid (Below w.heap.size w wr):=aE.out.trans (HB.out.mono aE.out.size);by_cases ao:k<Bg.length
 ·obtain⟨ao',c',hv,_,hz⟩:=aU.out.below HB.out;rw[yN] at hv;cases hv;obtain⟨g,gi,ci,aZ,hgl,x0,aC,aK⟩:=hz k (by simpa using ao);subst aZ;have ae:Bg[k]∈Bg:=ym ao;have aM:zaR wr (.slice (some ⟨gi,0,none⟩) Bg[k].length ci) (zL Bg[k]):=by
   have e1:(Bg.map zL)[k]'(by simpa using ao)=zL Bg[k]:=by simp
   refine⟨some ⟨gi,0,none⟩,ci,by rw[zaJ],λj hj=>⟨gi,rfl,aC,?_⟩⟩;have a0:j<((Bg.map zL)[k]'(by simpa using ao)).length:=by rw[e1];exact hj
   rw[aK j a0];simp only[e1];rw[yj,yl hj,yK]
  have x1:wr.cell? ⟨g,k,none⟩=some (.slice (some ⟨gi,0,none⟩) Bg[k].length ci):=by rw[x0];simp[zaJ]
  have HC:=hid (aF.out wr _ Bg[k] ae ai.out aM);have aa:Hid (zcJ (zb r D) T bh (Bg.take (k+1))=zdL T st (zbq (zb r D) bh Bg[k])):=by show _=_;rw[zkL ao,aH.out]
  have HKN2:=hid (aS.out (k+1) (by omega));have ay:=hid (aQ.out _ ae);generalize Bg[k]=c0 at*;generalize zbq (zb r D) bh c0=ch at*;have ik:(0:Int)<=(k:Int):=by omega
  have jk:(k:Int)<(Bg.length:Int):=by omega
  clear hz aK x0 aM ae an;go_wp2_with fail;refine HC.out.mono ?_;rintro e2 w2⟨x,rfl,aD,ac⟩;obtain⟨ax,cx,rfl,_,_⟩:=zg aD;have aA:Hid (w2.ownsRow w.heap.size 3 1 (.slice ax ch.length cx) ch.length (zd (zL ch))):=zan aD (by have:=ai.out.size;omega);have az:=hid (ze HO.out ac);have ap:Hid (Below w1.heap.size w1 w2):=HB.out.trans (ac.mono aW);have av:Hid (Below w.heap.size w w2):=ai.out.trans (ac.mono ai.out.size);clear aD ac HC HO HB x1;by_cases ah:ch=[]
  ·subst ah;have ad:Hid (st=zcJ (zb r D) T bh (Bg.take (k+1))):=by show _=_;rw[aa.out];rfl
   clear aa ay;go_wp2_with fail;go_roundw
   ·exact⟨k+1,st,by omega,by go_num,rfl,aL,am,ad,az,ap⟩
   simp[intOf];omega
  have aB:=ay.out ah;have aX:0<ch.length:=yaQ.2 ah;have aJ:=aB.len;have aG:=hid (aR.out w2 _ ch av.out (zaR.own (by rw[zaJ];exact aA.out)) aX (by omega) aB.ok.rng);have hfl:=zn0 T ch;have ag:Hid (∀b:Bool,(b=true↔(st.1=[]\/zcz T ch<st.2))->zcJ (zb r D) T bh (Bg.take (k+1))=if b=true then (ch,zcz T ch) else st):=λb hb=>by
   rw[aa.out];unfold zdL;rw[ye ah];by_cases ac:st.1=[]\/zcz T ch<st.2
   ·rw[yg ac,yg (hb.2 ac)]
   rw[ye ac,ye (λh=>ac (hb.1 h))]
  have hcz:((ch.length:Int)==0)=false:=by simpa using ah
  generalize zcz T ch=fr at*;clear aB ay aa ah;go_wp2_with fail;refine aG.out.mono ?_;rintro e3 w3⟨rfl,aq⟩;have aj:=hid (ze aA.out aq);have aT:=hid (ze az.out aq);have au:Hid (Below w1.heap.size w1 w3):=ap.out.trans (aq.mono ap.out.size);clear aq aG aA az ap;by_cases h1:st.1=[]
  ·have ad:Hid ((ch,fr)=zcJ (zb r D) T bh (Bg.take (k+1))):=by show _=_;rw[ag.out true ⟨λ_=>.inl h1,λ_=>rfl⟩];rfl
   have e1:((st.1.length:Int)==0)=true:=by simp[h1]
   clear ag h1;go_wp2_with fail;go_roundw
   ·exact⟨k+1,(ch,fr),by omega,by go_num,rfl,aJ,by show fr<=20;omega,ad,aj,au⟩
   simp[intOf];omega
  have e1:((st.1.length:Int)==0)=false:=by simpa using h1
  by_cases h2:fr<st.2
  ·have ad:Hid ((ch,fr)=zcJ (zb r D) T bh (Bg.take (k+1))):=by show _=_;rw[ag.out true ⟨λ_=>.inr h2,λ_=>rfl⟩];rfl
   clear ag h1;go_wp2_with fail;go_roundw
   ·exact⟨k+1,(ch,fr),by omega,by go_num,rfl,aJ,by show fr<=20;omega,ad,aj,au⟩
   simp[intOf];omega
  have ad:Hid (st=zcJ (zb r D) T bh (Bg.take (k+1))):=by show _=_;rw[ag.out false ⟨λh=>(by cases h),λh=>(h.elim (λh=>absurd h h1) (λh=>absurd h h2))⟩];rfl
  clear ag h1;go_wp2_with fail;go_roundw
  ·exact⟨k+1,st,by omega,by go_num,rfl,aL,am,ad,aT,au⟩
  simp[intOf];omega
 have HF:Hid (zea (zb r D) T bh fs=st.1):=by show _=_;rw[aV.out,aH.out,yD (by omega)]
 go_wp2_with fail;go_ret;exact⟨_,rfl,by rw[HF.out];exact HO.out,ai.out⟩
end Go.Proofs.YtebinaopncclgabGreatDoor
