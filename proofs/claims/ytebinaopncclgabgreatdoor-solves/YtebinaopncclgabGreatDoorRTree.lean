import Derived.Test.YtebinaopncclgabGreatDoorQCell
import Derived.Laws.BytesArg
set_option maxRecDepth 100000
set_option maxHeartbeats 8000000
namespace Go.Proofs.YtebinaopncclgabGreatDoor
open Go.RowKit Go.IntWalk
theorem zcZ{a b:Bool}(h:a=b):Ending.returned (.bool a)=.returned (.bool b):=by rw[h]
theorem zm6(o:Nat)(k:Int)(w:World)(ho:o<=9000000000000000000)(ho1:1<=o):Calls Tryz.prog 149 #[.int .i64 o,.int .i64 k] w λe w'=>e=.returned (.int .i64 (zbw o k))/\w'=w:=by
 by_cases h:k=1
 ·subst h;go_in;go_wp2;go_ret;exact⟨by simp[zbw],rfl⟩
 have hk:(k==1)=false:=by simpa using h
 go_in;go_wp2;go_ret;refine⟨?_,rfl⟩;unfold zbw;rw[ye h];exact zK (by omega)
theorem zgA{d:List UInt8}(h:z6 d=true)(hl:d.length<=9):val d<=999999999:=by
 have:=zqR d h;have h2:10^d.length<=10^9:=yaU (by omega) hl;have h3:(10:Nat)^9=1000000000:=by decide
 omega
theorem zb5(s:ByteArray):s.toList=s.data.toList:=by rw[ByteArray.toList_eq]
theorem ztV{w:World}{b:Nat}{cs:Array Value}{t:TypeId}(hb:w.heap[b]?=some (.cells cs t (0,0))){B n size:Nat}{e:TypeId}{v:Value}{xs:List Value}(h:w.ownsRow B e size v n xs)(he:e≠t){u0 u1:Value}:((w.setCell ⟨b,0,none⟩ u0).setCell ⟨b,1,none⟩ u1).ownsRow B e size v n xs:=by have h1:=zaL (o:=0) h hb he u0;exact zaL h1 (yw w b 0 _ _ _ hb) he u1
def zb3(L:List zu)(vs:List Value):List Value:=((L.zip vs).map λp=>[Value.int .i64 p.1.1,p.2]).flatten
theorem zio{L:List zu}{vs:List Value}(h:vs.length=L.length)(nd:zu)(v:Value):zb3 (L++[nd]) (vs++[v])=zb3 L vs++[.int .i64 nd.1,v]:=by unfold zb3;rw[List.zip_append h.symm];simp
def zal(w:World)(B:Nat)(v:Value)(L:List zu):Prop:=∃vs:List Value,vs.length=L.length/\w.ownsRow B 76 2 v L.length (zb3 L vs)/\∀i (h:i<L.length),w.ownsRow B 3 1 (vs.getD i (.slice none 0 0)) L[i].2.length (zd L[i].2)
theorem zal.nil(w:World)(B:Nat):zal w B (.slice none 0 0) []:=⟨[],rfl,yC _ _ _ _,λi h=>absurd h (by simp)⟩
theorem zal.below{w w':World}{B:Nat}{v:Value}{L:List zu}(h:zal w B v L)(hb:Below w.heap.size w w'):zal w' B v L:=by obtain⟨vs,h1,h2,h3⟩:=h;exact⟨vs,h1,ze h2 hb,λi hi=>ze (h3 i hi) hb⟩
theorem zal.base{w:World}{B B':Nat}{v:Value}{L:List zu}(h:zal w B v L)(hb:B'<=B):zal w B' v L:=by obtain⟨vs,h1,h2,h3⟩:=h;exact⟨vs,h1,zan h2 hb,λi hi=>zan (h3 i hi) hb⟩
theorem zal.push{w X w':World}{B:Nat}{v v' l:Value}{L:List zu}{vs:List Value}{nd:zu}(h1:vs.length=L.length)(h2:w.ownsRow B 76 2 v L.length (zb3 L vs))(h3:∀i (h:i<L.length),w.ownsRow B 3 1 (vs.getD i (.slice none 0 0)) L[i].2.length (zd L[i].2))(hl:w.ownsRow B 3 1 l nd.2.length (zd nd.2))(hX:Below w.heap.size w X)(hg:X.grownBy w' v.ownBlock)(ho:w'.ownsRow B 76 2 v' (L.length+1) (zb3 L vs++[.int .i64 nd.1,l])):zal w' B v' (L++[nd]):=by
 have hk:zZ [76] X w':=zZ.grown (ze h2 hX) (by simp) hg;refine⟨vs++[l],by simp[h1],?_,λi hi=>?_⟩
 ·rw[zio h1,yz];exact ho
 by_cases aa:i<L.length
 ·have e1:(vs++[l]).getD i (.slice none 0 0)=vs.getD i (.slice none 0 0):=by rw[yj,yaC (by omega),<-yj]
  have e2:(L++[nd])[i]=L[i]:=yaG aa;rw[e1,e2];exact zcs (ze (h3 i aa) hX) hk (by decide)
 have he:i=L.length:=by simp at hi;omega
 subst he;have e1:(vs++[l]).getD L.length (.slice none 0 0)=l:=by rw[yj,<-h1];simp
 have e2:(L++[nd])[L.length]=nd:=by simp
 rw[e1,e2];exact zcs (ze hl hX) hk (by decide)
def zdh(w:World)(B:Nat)(v:Value)(L:List zu):Prop:=∃vs:List Value,vs.length=L.length/\w.ownsRow B 76 2 v L.length (zb3 L vs)/\(∀i (h:i<L.length),w.ownsRow B 3 1 (vs.getD i (.slice none 0 0)) L[i].2.length (zd L[i].2))/\∀i j,i<j->j<L.length->∀q,(vs.getD i (.slice none 0 0)).ownBlock=some q->(vs.getD j (.slice none 0 0)).ownBlock≠some q
theorem zdh.r{w:World}{B:Nat}{v:Value}{L:List zu}(h:zdh w B v L):zal w B v L:=by obtain⟨vs,h1,h2,h3,_⟩:=h;exact⟨vs,h1,h2,h3⟩
theorem zdh.nil(w:World)(B:Nat):zdh w B (.slice none 0 0) []:=⟨[],rfl,yC _ _ _ _,λi h=>absurd h (by simp),λi j _ h=>absurd h (by simp)⟩
theorem zdh.below{w w':World}{B:Nat}{v:Value}{L:List zu}(h:zdh w B v L)(hb:Below w.heap.size w w'):zdh w' B v L:=by obtain⟨vs,h1,h2,h3,h4⟩:=h;exact⟨vs,h1,ze h2 hb,λi hi=>ze (h3 i hi) hb,h4⟩
theorem zdh.base{w:World}{B B':Nat}{v:Value}{L:List zu}(h:zdh w B v L)(hb:B'<=B):zdh w B' v L:=by obtain⟨vs,h1,h2,h3,h4⟩:=h;exact⟨vs,h1,zan h2 hb,λi hi=>zan (h3 i hi) hb,h4⟩
theorem zdh.push{w X w':World}{B:Nat}{v v' l:Value}{L:List zu}{vs:List Value}{nd:zu}(h1:vs.length=L.length)(h2:w.ownsRow B 76 2 v L.length (zb3 L vs))(h3:∀i (h:i<L.length),w.ownsRow B 3 1 (vs.getD i (.slice none 0 0)) L[i].2.length (zd L[i].2))(h4:∀i j,i<j->j<L.length->∀q,(vs.getD i (.slice none 0 0)).ownBlock=some q->(vs.getD j (.slice none 0 0)).ownBlock≠some q)(h5:∀i,i<L.length->∀q,(vs.getD i (.slice none 0 0)).ownBlock=some q->l.ownBlock≠some q)(hl:w.ownsRow B 3 1 l nd.2.length (zd nd.2))(hX:Below w.heap.size w X)(hg:X.grownBy w' v.ownBlock)(ho:w'.ownsRow B 76 2 v' (L.length+1) (zb3 L vs++[.int .i64 nd.1,l])):zdh w' B v' (L++[nd]):=by
 have hk:zZ [76] X w':=zZ.grown (ze h2 hX) (by simp) hg;have e1:∀i,i<L.length->(vs++[l]).getD i (.slice none 0 0)=vs.getD i (.slice none 0 0):=λi hi=>by rw[yj,yaC (by omega),<-yj]
 have e2:(vs++[l]).getD L.length (.slice none 0 0)=l:=by rw[yj,<-h1];simp
 refine⟨vs++[l],by simp[h1],?_,λi hi=>?_,λi j ab hj q hq=>?_⟩
 ·rw[zio h1,yz];exact ho
 ·by_cases aa:i<L.length
  ·have e3:(L++[nd])[i]=L[i]:=yaG aa;rw[e1 i aa,e3];exact zcs (ze (h3 i aa) hX) hk (by decide)
  have he:i=L.length:=by simp at hi;omega
  subst he;have e3:(L++[nd])[L.length]=nd:=by simp
  rw[e2,e3];exact zcs (ze hl hX) hk (by decide)
 have hj':j<L.length+1:=by simpa using hj
 rw[e1 i (by omega)] at hq;by_cases aa:j<L.length
 ·rw[e1 j aa];exact h4 i j ab aa q hq
 have he:j=L.length:=by omega
 subst he;rw[e2];exact h5 i ab q hq
theorem zwk{w X:World}{cs:Array Value}{t:TypeId}{l:List Value}{b:Nat}(hh:X.heap=(w.alloc (.cells cs t)).heap)(hl:l=cs.toList)(hb:w.heap.size=b):∀j u,l[j]?=some u->X.cell? ((⟨b,0,none⟩:Addr).add j)=some u:=by subst hb;exact za0 hl hh
theorem Tryz.infoNode:(Tryz.prog.info? 76).map (λi=>(i.zero,i.size,i.bytes))=some (some (.agg #[.int .i64 0,.slice none 0 0]),2,32):=by kernel_rfl
def zmu(w:World)(x:List zu×Nat×Int)(e:Ending)(w':World):Prop:=(x.2.2≠0->e=.returned (.tuple #[.slice none 0 0,.int .i64 x.2.1,.int .i64 14]))/\(x.2.2=0->∃v,e=.returned (.tuple #[v,.int .i64 0,.int .i64 0])/\zal w' w.heap.size v x.1)/\Below w.heap.size w w'
def zvS(t:ByteArray):Prop:=t.size<=70368744177664/\t.data.toList.count 10<=4000000000000
theorem zC{B:Nat}{w w':World}(h:Below B w w')(m:Nat):Below B w (w'.drewN m):=⟨h.os,h.tape,h.output,h.size,h.block⟩
def zaR(w:World)(v:Value)(zs:List Int):Prop:=∃ao c,v=.slice ao zs.length c/\∀j,j<zs.length->∃g,ao=some ⟨g,0,none⟩/\g<w.heap.size/\w.cell? ⟨g,j,none⟩=some (.int .i64 (zs.getD j 0))
theorem zaR.below{w w':World}{v:Value}{zs:List Int}(h:zaR w v zs)(hb:Below w.heap.size w w'):zaR w' v zs:=by obtain⟨ao,c,rfl,h⟩:=h;refine⟨ao,c,rfl,λj hj=>?_⟩;obtain⟨g,h1,h2,h3⟩:=h j hj;exact⟨g,h1,ya h2 hb.size,(hb.cell h2).trans h3⟩
theorem zaR.own{w:World}{B:Nat}{v:Value}{zs:List Int}(h:w.ownsRow B 3 1 v zs.length (zd zs)):zaR w v zs:=by
 obtain⟨ao,c,rfl,h1,h2⟩:=zg h;refine⟨ao,c,rfl,λj hj=>?_⟩;cases ao with
 | none=>exact absurd (h2 rfl) (by omega)
 | some a=>obtain⟨g,rfl,_,hg⟩:=h1 a rfl;refine⟨g,rfl,hg,?_⟩;rw[h.cellAt j (by omega)];simp[zd,List.getD_eq_getElem?_getD,List.getElem?_eq_getElem hj]
theorem zrt{zs:List Int}(h:∀z∈zs,-100000000<=z/\z<=100000000):-100000000*(zs.length:Int)<=zs.sum/\zs.sum<=100000000*(zs.length:Int):=by
 induction zs with
 | nil=>simp
 | cons z zs ih=>
  have h1:=h z (by simp);have h2:=ih (λy hy=>h y (yaf _ hy));simp only[yZ,yJ]
  push_cast
  omega
theorem zbW{zs:List Int}{j:Nat}(h:j<zs.length):zs.getD j 0∈zs:=by rw[yj,yl h,yK];exact ym h
theorem ztm{zs:List Int}{k:Nat}(h:k<zs.length):(zs.take (k+1)).sum=(zs.take k).sum+zs.getD k 0:=by rw[yr h,List.sum_append,yj,yl h];simp
def zbA(zs:List Int)(i k:Nat):Prop:=zs.getD i 0=zs.getD k 0/\zs.getD i 0≠0
open Classical in
theorem zlK(v:Value)(zs:List Int)(w:World)(hl:zs.length<=20)(hr:zaR w v zs):Calls Tryz.prog 227 #[v] w λe w'=>e=.returned (.bool (decide (∃i k,i<zs.length/\k<i/\zbA zs i k)))/\Below w.heap.size w w':=by
 obtain⟨ao,c,rfl,hr⟩:=hr;have HR:=hid hr;clear hr;go_in;go_wp2_with fail;go_loopw[3] (λi wr=>∃a:Nat,i=.int .i64 a/\a<=zs.length/\Hid (∀i k,i<a->k<i->¬zbA zs i k)/\Hid (Below w.heap.size w wr)) (λi _=>zs.length-(intOf i).toNat)
 ·exact⟨0,rfl,by omega,λi k h=>absurd h (by omega),yk _ _⟩
 obtain⟨a,rfl,ha,HN,HB⟩:=hrel;by_cases ai:a<zs.length
 ·obtain⟨g,aj,ae,ag⟩:=HR.out a ai;subst aj;go_wp2_with fail;go_loopw[4] (λi wr=>∃b:Nat,i=.int .i64 b/\b<=a/\Hid (∀k,k<b->¬zbA zs a k)/\Hid (Below w.heap.size w wr)) (λi _=>a-(intOf i).toNat)
  ·exact⟨0,rfl,by omega,λk h=>absurd h (by omega),by first|exact HB.out|exact HB.out.drew⟩
  obtain⟨b,rfl,hb,ab,aa⟩:=hrel;by_cases al:b<a
  ·obtain⟨g',ad,hgl',ah⟩:=HR.out b (by omega);cases ad;have x0:=zc aa.out ag ae;have x1:=zc aa.out ah ae;have xl:=ya ae aa.out.size;have ia:(0:Int)<=(a:Int):=by omega
   have ja:(a:Int)<(zs.length:Int):=by omega
   have ib:(0:Int)<=(b:Int):=by omega
   have jb:(b:Int)<(zs.length:Int):=by omega
   have HT:Hid (∀x y:Int,zs.getD a 0=x->zs.getD b 0=y->(zbA zs a b↔x=y/\x≠0)):=λx y hx hy=>by unfold zbA;rw[hx,hy]
   generalize hx:zs.getD a 0=x at*;generalize hy:zs.getD b 0=y at*;have ac:=hid (HT.out x y rfl rfl);clear HT ag ah;by_cases e1:x=y
   ·have b1:(x==y)=true:=by simp[e1]
    by_cases e2:x=0
    ·have b2:(x != 0)=false:=by simp[e2]
     go_wp2_with go_in;go_quiet (fail);go_wp2;refine⟨⟨b+1,by go_num,by omega,λk hk=>?_,zC aa.out _⟩,by simp[intOf];omega⟩;by_cases af:k=b
     ·subst af;rw[ac.out];exact λh=>h.2 e2
     exact ab.out k (by omega)
    have b2:(x != 0)=true:=by simpa using e2
    go_wp2_with go_in;go_quiet (fail);go_wp2;go_ret;refine⟨zcZ ?_,zC aa.out _⟩;symm;rw[yq];exact⟨a,b,ai,al,ac.out.2 ⟨e1,e2⟩⟩
   have b1:(x==y)=false:=by simp[e1]
   go_wp2_with go_in;go_quiet (fail);go_wp2;refine⟨⟨b+1,by go_num,by omega,λk hk=>?_,zC aa.out _⟩,by simp[intOf];omega⟩;by_cases af:k=b
   ·subst af;rw[ac.out];exact λh=>e1 h.1
   exact ab.out k (by omega)
  go_wp2_with go_in;refine⟨⟨a+1,by go_num,by omega,λi k hi hk=>?_,aa.out⟩,by simp[intOf];omega⟩;by_cases ak:i=a
  ·subst ak;exact ab.out k (by omega)
  exact HN.out i k (by omega) hk
 go_wp2_with go_in;go_ret;refine⟨zcZ ?_,HB.out⟩;symm;rw[yI];rintro⟨i,k,h1,h2,h3⟩;exact HN.out i k (by omega) h2 h3
theorem zoa{a b:ByteArray}(h:a=b):Ending.returned (.string a)=.returned (.string b):=by rw[h]
theorem zut(W:World)(m:Nat):(convert 144 9 (.slice (some ⟨W.heap.size,0,none⟩) 1 1)).run Tryz.prog (W.alloc (.cells #[.int .u8 (48+(m:Int)%10)] 5))=.ok (.string ⟨#[dg m]⟩) (W.alloc (.cells #[.int .u8 (48+(m:Int)%10)] 5)):=by
 have h:=run_convert_bytes_arg (P:=Tryz.prog) (W.alloc (.cells #[.int .u8 (48+(m:Int)%10)] 5)) 144 5 Tryz.underlying144 Tryz.underlying5 W.heap.size 0 1 1 [48+(m:Int)%10] rfl (by intro i hi;obtain rfl:i=0:=(by omega);exact yi _ W.heap.size 0 _ _ (0,0) (yx W _)) 9 Tryz.underlying9;rw[h];have e:strOfNums [48+(m:Int)%10]=⟨#[dg m]⟩:=by
  have:(48+(m:Int)%10).toNat=48+m%10:=by omega
  simp only[strOfNums,yE,ybf,this];rfl
 rw[e]
theorem zik(f n:Nat)(w:World)(hn:n<=9):Calls Tryz.prog 160 #[.int .i64 n] w λe w'=>e=.returned (.string ⟨(zba f n).toArray⟩)/\Below w.heap.size w w':=by have kc:=λW=>zut W n;go_in;go_wp2;go_ret;exact⟨zoa (by rw[zcV hn]),zj _ _⟩
theorem zis(f:Nat):∀(n:Nat)(w:World),f<=9->n<10^(f+1)->n<=999999999 ->Calls Tryz.prog 160 #[.int .i64 n] w λe w'=>e=.returned (.string ⟨(zba f n).toArray⟩)/\Below w.heap.size w w':=by
 induction f with
 | zero=>intro n w _ h _;exact zik 0 n w (by omega)
 | succ f ih=>
  intro n w hf h hn;by_cases h9:n<=9
  ·exact zik (f+1) n w h9
  have kc:=λW=>zut W n;have IH:Hid (∀W,Calls Tryz.prog 160 #[.int .i64 ((n/10:Nat):Int)] W λe w'=>e=.returned (.string ⟨(zba f (n/10)).toArray⟩)/\Below W.heap.size W w'):=λW=>ih (n/10) W (by omega) (by rw[ybq] at h;omega) (by omega);have HL:=zit f (n/10);have HF:Hid (zba (f+1) n=zba f (n/10)++[dg n]):=zc5 (by omega);clear ih h;go_in;go_wp2_with fail;refine(show Calls Tryz.prog 160 #[.int .i64 ((n:Int)/10)] _ _ from IH.out _).mono ?_;rintro e1 w1⟨rfl,aa⟩;have HB:Hid (Below w.heap.size w w1):=(zj w _).trans (aa.mono (by simp));clear aa IH kc;go_wp2;go_ret;refine⟨zoa ?_,HB.out⟩;rw[HF.out];apply ya3;simp[ByteArray.data_append]
theorem zfK(z:Int)(w:World)(h1:-999999999<=z)(h2:z<=999999999):Calls Tryz.prog 160 #[.int .i64 z] w λe w'=>e=.returned (.string ⟨(zaM z).toArray⟩)/\Below w.heap.size w w':=by
 by_cases h0:z<0
 ·obtain⟨n,hn⟩:∃n:Nat,-z=n:=⟨(-z).toNat,by omega⟩
  have IH:Hid (∀W,Calls Tryz.prog 160 #[.int .i64 (-z)] W λe w'=>e=.returned (.string ⟨(zba 9 n).toArray⟩)/\Below W.heap.size W w'):=λW=>by rw[hn];exact zis 9 n W (by omega) (by omega) (by omega)
  have HF:Hid (zaM z=45::zba 9 n):=by show _=_;unfold zaM;rw[yg h0];congr 2;omega
  have HL:=zit 9 n;clear hn;go_in;go_wp2_with fail;refine(IH.out _).mono ?_;rintro e1 w1⟨rfl,aa⟩;have HB:=hid aa;clear aa IH;go_wp2;go_ret;refine⟨zoa ?_,HB.out⟩;rw[HF.out];apply ya3;simp[ByteArray.data_append]
 obtain⟨n,rfl⟩:=ybw (show 0<=z by omega);have e:zaM (n:Int)=zba 9 n:=by unfold zaM;rw[ye h0];rfl
 rw[e];exact zis 9 n w (by omega) (by omega) (by omega)
theorem zj0(s:ByteArray)(w:World)(hs:s.size<=9)(hd:z6 s.data.toList=true):Calls Tryz.prog 202 #[.string s] w λe w'=>e=.returned (.int .i64 (val s.data.toList))/\w'=w:=by
 have ac:=hid hd;clear hd;go_in;go_wp2;go_loop[3,4] (λn i=>∃k:Nat,k<=s.size/\i=.int .i64 k/\n=.int .i64 (val (s.data.toList.take k))) (λ_ i=>s.size-(intOf i).toNat)
 ·exact⟨0,yu _,rfl,rfl⟩
 obtain⟨k,hk,rfl,rfl⟩:=hrel;by_cases ae:k<s.size
 ·have HT:=zco s k ae;have ad:z6 (s.data.toList.take k)=true:=by have h:=ac.out;rw[<-yav k s.data.toList] at h;unfold z6 at h⊢;rw[yX,yA] at h;exact h.1
  have aa:z6 (s.data.toList.take (k+1))=true:=by have h:=ac.out;rw[<-yav (k+1) s.data.toList] at h;unfold z6 at h⊢;rw[yX,yA] at h;exact h.1
  have hv:=zgA ad (by simp;omega);have ab:=aa;rw[HT,zf4,yA,yA,yq,yq] at ab;have HS:Hid (val (s.data.toList.take (k+1))=10*val (s.data.toList.take k)+(s[k].toNat-48)):=by show _=_;rw[HT];exact zfy _ _
  have hc1:=ab.2.1;have hc2:=ab.2.2;clear HT ab ad aa;go_wp2;go_round
  ·exact⟨k+1,by omega,by go_num,by rw[HS.out];go_num⟩
  simp[intOf];omega
 go_wp2;go_ret;exact⟨zK (by rw[zcw s k (by omega)]),by trivial⟩
def zc9(l:List UInt8):List UInt8:=if 1<l.length/\l.getD 0 0=45 then l.drop 1 else l
def zcL(l:List UInt8):Int:=if 1<l.length/\l.getD 0 0=45 then -(val (zc9 l):Int) else (val (zc9 l):Int)
theorem zfU{l:List UInt8}{z:Int}(h:za4 l=some z):z6 (zc9 l)=true/\zc9 l≠[]/\(zc9 l).length<=9/\zcL l=z:=by
 cases l with
 | nil=>cases h
 | cons c t=>
  rw[zfX] at h;by_cases hc:c=45
  ·subst hc;rw[yg rfl] at h;cases hn:zeq t with
   | none=>rw[hn] at h;cases h
   | some n=>
    rw[hn] at h;dsimp only at h;split at h
    ·cases h
    cases h;have ab:=hn;unfold zeq at ab;split at ab
    ·rename_i hh;cases ab;have hl:1<(45::t).length:=by
      cases t with
      | nil=>exact absurd rfl hh.1
      | cons=>simp
     have aa:1<(45::t).length/\(45::t).getD 0 0=45:=⟨hl,rfl⟩
     have e1:zc9 (45::t)=t:=by unfold zc9;rw[yg aa];rfl
     refine⟨by rw[e1];exact hh.2.1,by rw[e1];exact hh.1,by rw[e1];exact hh.2.2.1,?_⟩;unfold zcL;rw[yg aa,e1]
    cases ab
  rw[ye hc] at h;cases hn:zeq (c::t) with
  | none=>rw[hn] at h;cases h
  | some n=>
   rw[hn] at h;cases h;unfold zeq at hn;split at hn
   ·rename_i hh;cases hn;have aa:¬(1<(c::t).length/\(c::t).getD 0 0=45):=λe=>hc e.2
    have e1:zc9 (c::t)=c::t:=by unfold zc9;rw[ye aa]
    refine⟨by rw[e1];exact hh.2.1,by rw[e1];exact hh.1,by rw[e1];exact hh.2.2.1,?_⟩;unfold zcL;rw[ye aa,e1]
   cases hn
theorem zhE{l:List UInt8}:(za4 l=some (zcL l)↔zaM (zcL l)=l/\-100000000<=zcL l/\zcL l<=100000000):=⟨λh=>by obtain⟨h1,h2⟩:=zkF h;exact⟨h1.symm,h2⟩,λ⟨h1,h2,h3⟩=>by have:=zlB h2 h3;rw[h1] at this;exact this⟩
theorem zjW{l:List UInt8}(h:za4 l≠some (zcL l)):za4 l=none:=by
 cases hn:za4 l with
 | none=>rfl
 | some z=>rw[(zfU hn).2.2.2] at h;exact absurd hn h
end Go.Proofs.YtebinaopncclgabGreatDoor
