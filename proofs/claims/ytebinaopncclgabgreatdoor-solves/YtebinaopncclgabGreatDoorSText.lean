import Derived.Test.YtebinaopncclgabGreatDoorFPlain
import Derived.Test.YtebinaopncclgabGreatDoorADet
import Derived.Test.YtebinaopncclgabGreatDoorQJudge
set_option maxRecDepth 100000
set_option maxHeartbeats 8000000
namespace Go.Proofs.YtebinaopncclgabGreatDoor
def itB(bh:Nat->Nat):Nat->Nat->Nat
 | 0,x=>x
 | k+1,x=>bh (itB bh k x)
theorem zmG{I:Ins}{bh:Nat->Nat}{fs:List Nat}(ht:zcA I bh fs){f:Nat}(hf:f∈fs):∀k,(∀j,j<=k->itB bh j f≠0)->∀j,j<=k->1<=itB bh j f/\itB bh j f<=I.n:=by
 intro k hk j;induction j with
 | zero=>intro _;exact ht.fr f hf
 | succ j ih=>intro hj;have h1:=ih (by omega);have h2:=ht.rng _ h1.1 h1.2;have h3:=hk (j+1) hj;exact⟨Nat.pos_of_ne_zero h3,h2⟩
theorem zow{I:Ins}{bh:Nat->Nat}{fs:List Nat}(ht:zcA I bh fs){f:Nat}(hf:f∈fs){k:Nat}(hk:∀j,j<=k->itB bh j f≠0):∀i j,i<j->j<=k->itB bh i f≠itB bh j f:=by
 have hr:=zmG ht hf k hk;intro i;induction i with
 | zero=>
  intro j aa hj e;obtain⟨m,rfl⟩:∃m,j=m+1:=⟨j-1,by omega⟩
  have h1:=hr m (by omega);exact ht.sep _ h1.1 h1.2 (by have e':f=bh (itB bh m f):=e;rw[<-e'];exact hf)
 | succ i ih=>
  intro j aa hj e;obtain⟨m,rfl⟩:∃m,j=m+1:=⟨j-1,by omega⟩
  have h1:=hr m (by omega);have h2:=hr i (by omega);exact ih m (by omega) (by omega) (ht.inj _ _ h2.1 h2.2 h1.1 h1.2 e (hk (i+1) (by omega)))
theorem zrh{I:Ins}{bh:Nat->Nat}{fs:List Nat}(ht:zcA I bh fs){f:Nat}(hf:f∈fs):∃d,zbC bh f d/\d.length<=I.n:=by
 have h1:∃j,j<=I.n/\itB bh j f=0:=yV λaa=>by
  have hk:∀j,j<=I.n->itB bh j f≠0:=λj hj e=>aa ⟨j,hj,e⟩;have hr:=zmG ht hf I.n hk;have ha:=zow ht hf hk;have h2:=zbk ((List.range (I.n+1)).map λj=>itB bh j f) ((List.range I.n).map (· + 1)) (by
   rw[yar,ya6];refine yba (R:=λa b=>a<b) (λ{a b} h1 h2 hlt=>?_) yce;have:b<I.n+1:=by simpa using h2
   exact ha a b hlt (by omega)) (λx hx=>by
   obtain⟨j,hj,rfl⟩:=yo.1 hx;have hj':j<I.n+1:=by simpa using hj
   have:=hr j (by omega);exact yo.2 ⟨itB bh j f-1,by simp;omega,by omega⟩);simp at h2;omega
 have ab:∀m j,itB bh (j+m) f=0->∃d,zbC bh (itB bh j f) d/\d.length<=m:=by
  intro m;induction m with
  | zero=>intro j h;rw[ybg] at h;rw[h];exact⟨[],zbC.home,yh _⟩
  | succ m ih=>
   intro j h;by_cases h0:itB bh j f=0
   ·rw[h0];exact⟨[],zbC.home,yu _⟩
   obtain⟨d,hd,hl⟩:=ih (j+1) (by rw[<-h];congr 1;omega);exact⟨_,zbC.next h0 hd,by simp;omega⟩
 obtain⟨j,hj,h0⟩:=h1;obtain⟨d,hd,hl⟩:=ab j 0 (by rw[yat];exact h0);exact⟨d,hd,by omega⟩
def zcx(T:Nat->Nat->Int)(p:Nat×Nat):Bool:=decide (p.1≠p.2/\T p.1 p.2=0)
def zcz(T:Nat->Nat->Int)(c:List Nat):Nat:=((nbr c).filter (zcx T)).length
def zd8(n:Nat)(fs:List Nat):List (List Nat):=((List.range n).map λi=>[i+1])++fs.map λf=>[0,f]
noncomputable def zbq(I:Ins)(bh:Nat->Nat)(c:List Nat):List Nat:=zcD I bh (10-c.length) c
def zdL(T:Nat->Nat->Int)(s:List Nat×Nat)(c:List Nat):List Nat×Nat:=if c=[] then s else if s.1=[]\/zcz T c<s.2 then (c,zcz T c) else s
noncomputable def zcJ(I:Ins)(T:Nat->Nat->Int)(bh:Nat->Nat)(l:List (List Nat)):List Nat×Nat:=(l.map (zbq I bh)).foldl (zdL T) ([],0)
noncomputable def zea(I:Ins)(T:Nat->Nat->Int)(bh:Nat->Nat)(fs:List Nat):List Nat:=(zcJ I T bh (zd8 I.n fs)).1
theorem zsR(T:Nat->Nat->Int):∀(l:List (List Nat)) (s:List Nat×Nat),((l.foldl (zdL T) s).1=s.1\/(l.foldl (zdL T) s).1∈l)/\((l.foldl (zdL T) s).1=[]->s.1=[]/\∀c∈l,c=[]):=by
 intro l;induction l with
 | nil=>intro s;exact⟨.inl rfl,λh=>⟨h,λc hc=>absurd hc (by simp)⟩⟩
 | cons c l ih=>
  intro s;rw[yae];obtain⟨h1,h2⟩:=ih (zdL T s c);have h3:(zdL T s c).1=s.1\/(zdL T s c).1=c:=by
   unfold zdL;by_cases e1:c=[]
   ·rw[yg e1];exact .inl rfl
   rw[ye e1];split
   ·exact .inr rfl
   exact .inl rfl
  refine⟨?_,λh=>?_⟩
  ·rcases h1 with h1|h1
   ·rcases h3 with h3|h3
    ·exact .inl (h1.trans h3)
    exact .inr (by rw[h1,h3];simp)
   exact .inr (by simp[h1])
  obtain⟨h4,h5⟩:=h2 h;have h6:c=[]/\s.1=[]:=by
   unfold zdL at h4;by_cases e1:c=[]
   ·rw[yg e1] at h4;exact⟨e1,h4⟩
   rw[ye e1] at h4;by_cases e2:s.1=[]\/zcz T c<s.2
   ·rw[yg e2] at h4;exact absurd h4 e1
   rw[ye e2] at h4;exact absurd (.inl h4) e2
  exact⟨h6.2,λx hx=>by
   rcases yG.1 hx with e|e
   ·rw[e];exact h6.1
   exact h5 x e⟩
abbrev zP:=List (List Nat)
def zcW(T:Nat->Nat->Int)(c:List Nat):zu:=
 match (nbr c).find? (zcx T) with
 | some p=>(1,[(p.1:Int),(p.2:Int)])
 | none=>(4,c.map λ(s:Nat)=>(s:Int))
def zfS(N:Nat)(S:Nat->Bool):zu:=(3,((List.range N).filter S).map λ(i:Nat)=>(i:Int))
def za6(N:Nat)(u v:Nat->Int):zu:=(2,(List.range N).map u++(List.range N).map v)
noncomputable def za9(I:Ins)(P:zo):zhx:=zgz (I.n+I.vans) (zX I (zt P))
def zbe(I:Ins)(col:Nat->Int):zP:=(fsQ I.n I.vans col).map (rtQ (bhQ I.n col) 7)
open Classical in
noncomputable def zaU(I:Ins)(P:zo)(fc:Option zP):zu×Option zP:=
 if (za9 I P).whole=false then (zfS (I.n+I.vans) (za9 I P).S,fc)
 else if ∃R,fc=some R/\zR I R<=(za9 I P).cost then (za6 (I.n+I.vans) (za9 I P).u (za9 I P).v,fc)
 else if zO I (zbe I (za9 I P).col) then (za6 (I.n+I.vans) (za9 I P).u (za9 I P).v,some (zbe I (za9 I P).col))
 else (zcW (zt P) (zea I (zt P) (bhQ I.n (za9 I P).col) (fsQ I.n I.vans (za9 I P).col)),fc)
structure SSt where
 L:List zu
 P:zo
 fc:Option zP
noncomputable def zdQ(I:Ins)(s:SSt):SSt×Bool:=
 if (zaU I s.P s.fc).1.1=1 then (⟨s.L++[(zaU I s.P s.fc).1],((((zaU I s.P s.fc).1.2.getD 0 0).toNat,((zaU I s.P s.fc).1.2.getD 1 0).toNat),true)::s.P,(zaU I s.P s.fc).2⟩,false)
 else (⟨s.L++[(zaU I s.P s.fc).1],zad s.P,(zaU I s.P s.fc).2⟩,(zad s.P).isEmpty)
noncomputable def zk(I:Ins):Nat->SSt×Bool
 | 0=>(⟨[],[],none⟩,false)
 | k+1=>if (zk I k).2=true then zk I k else zdQ I (zk I k).1
structure ze4 (I:Ins) (P:zo):Prop where
 tight:(za9 I P).whole=true->zdd (I.n+I.vans) (zX I (zt P)) (za9 I P).col (za9 I P).u (za9 I P).v (za9 I P).cost
 short:(za9 I P).whole=false->∃T,zhT (I.n+I.vans) (zX I (zt P)) (za9 I P).S T
def zi8(I:Ins)(fc:Option zP)(cl:Option Int):Prop:=∀R,fc=some R->∃c,cl=some c/\c<=zR I R
theorem zk7(N:Nat)(S:Nat->Bool):zh9 (((List.range N).filter S).map λ(i:Nat)=>(i:Int)):=by intro i hi;rw[yN] at hi;have h1:((List.range N).filter S).Pairwise (· < ·):=List.Pairwise.filter _ yce;rw[ybU] at h1;have h2:=h1 i (i+1) (by omega) hi (by omega);rw[yj,yj,yal,yal,yl (by omega:i<_),yl hi];simp;omega
theorem zlj{N:Nat}{f g:Nat->Bool}(h:∀j,j<N->f j=true->g j=true):((List.range N).filter f).length<=((List.range N).filter g).length:=by
 have aa:∀l:List Nat,(∀j∈l,j<N)->(l.filter f).length<=(l.filter g).length:=by
  intro l;induction l with
  | nil=>intro _;simp
  | cons a l ih=>
   intro hl;have h1:=ih (λj hj=>hl j (by simp[hj]));by_cases ha:f a=true
   ·have hg:=h a (hl a (by simp)) ha;rw[yQ ha,yQ hg];simp;omega
   rw[yS ha];have:(l.filter g).length<=((a::l).filter g).length:=(List.Sublist.filter g (List.sublist_cons_self a l)).length_le;omega
 exact aa _ (λj hj=>by simpa using hj)
theorem zpQ{I:Ins}{T:Nat->Nat->Int}{S U:Nat->Bool}(h:zhT (I.n+I.vans) (zX I T) S U):zo1 I T (zfS (I.n+I.vans) S).2:=by
 refine⟨λx hx=>?_,zk7 _ _,?_⟩
 ·obtain⟨i,hi,rfl⟩:=yo.1 hx;have:=(yag.1 hi).1;have h2:i<I.n+I.vans:=by simpa using this
  omega
 refine ya2 (zlj (g:=U) λj hj hh=>?_) (by simpa[zfS] using h.few);obtain⟨x,hx,hc⟩:=y9.1 hh;obtain⟨i,hi,rfl⟩:=yo.1 hx;obtain⟨aa,ab⟩:=yag.1 hi;exact h.open_ i j (by simpa using aa) hj ab (by simpa using hc)
theorem zgD{N:Nat}{u v:Nat->Int}{i:Nat}(hi:i<N):((za6 N u v).2).getD i 0=u i/\((za6 N u v).2).getD (N+i) 0=v i:=by
 unfold za6;refine⟨?_,?_⟩
 ·rw[yj,yaC (by simpa using hi),yal,ybb hi];rfl
 rw[yj,yaw (by simp),yal];simp[List.getElem?_range hi]
theorem zil{I:Ins}{T:Nat->Nat->Int}{col u v:Nat->Int}{cost c:Int}(h:zdd (I.n+I.vans) (zX I T) col u v cost)(hc:c<=cost):zes I T c (za6 (I.n+I.vans) u v).2:=by
 have hl:(za6 (I.n+I.vans) u v).2.length=2*(I.n+I.vans):=by simp[za6];omega
 refine⟨hl,?_,λi j hi hj ho=>?_⟩
 ·rw[zjD hl];have h1:=h.sum;rw[zi0] at h1;have e1:zQ (λi=>(za6 (I.n+I.vans) u v).2.getD i 0) (List.range (I.n+I.vans))=zQ u (List.range (I.n+I.vans)):=zeN λx hx=>(zgD (by simpa using hx)).1;have e2:zQ (λj=>(za6 (I.n+I.vans) u v).2.getD (I.n+I.vans+j) 0) (List.range (I.n+I.vans))=zQ v (List.range (I.n+I.vans)):=zeN λx hx=>(zgD (by simpa using hx)).2;rw[e1,e2];omega
 rw[(zgD hi).1,(zgD hj).2];exact h.under i j hi hj ho
theorem zvC{N:Nat}{u v:Nat->Int}(hN:1<=N)(hN':N<=10)(hu:∀i,i<N->-100000000<=u i/\u i<=100000000)(hv:∀i,i<N->-100000000<=v i/\v i<=100000000):zac (za6 N u v)=true:=by
 have hl:(za6 N u v).2.length=2*N:=by simp[za6];omega
 have h1:zbs (za6 N u v).1 (za6 N u v).2.length=true:=by rw[hl];show zbs 2 (2*N)=true;unfold zbs;rw[ye (by omega),yg rfl];simp;omega
 unfold zac;rw[h1,yaY,yF];intro z hz;have:z∈(List.range N).map u++(List.range N).map v:=hz;rcases yH.1 this with e|e
 ·obtain⟨i,hi,rfl⟩:=yo.1 e;have:=hu i (by simpa using hi);simp;omega
 obtain⟨i,hi,rfl⟩:=yo.1 e;have:=hv i (by simpa using hi);simp;omega
theorem zu8{N:Nat}{S:Nat->Bool}(hN':N<=10)(h:0<((List.range N).filter S).length):zac (zfS N S)=true:=by
 have h2:((List.range N).filter S).length<=N:=by simpa using yau S (List.range N)
 have h1:zbs (zfS N S).1 (zfS N S).2.length=true:=by show zbs 3 (((List.range N).filter S).map λ(i:Nat)=>(i:Int)).length=true;rw[yN];unfold zbs;rw[ye (by omega),ye (by omega),yg rfl];simp only[yA,yq];omega
 unfold zac;rw[h1,yaY,yF];intro z hz;obtain⟨i,hi,rfl⟩:=yo.1 (show z∈((List.range N).filter S).map _ from hz);have:i<N:=by simpa using(yag.1 hi).1
 simp;omega
structure ztT (I:Ins) (bh:Nat->Nat) (fs:List Nat) (c:List Nat):Prop where
 ok:zbL I bh fs c
 blk:zU I c
 len:c.length<=9
theorem zhS{I:Ins}{bh:Nat->Nat}{fs:List Nat}(ht:zcA I bh fs){c:List Nat}(hc:c∈zd8 I.n fs):zbL I bh fs c/\c.length<=2/\1<=c.length:=by
 rcases yH.1 hc with e|e
 ·obtain⟨i,hi,rfl⟩:=yo.1 e;have:i<I.n:=by simpa using hi
  exact⟨zjr bh fs (by omega),by simp,by simp⟩
 obtain⟨f,hf,rfl⟩:=yo.1 e;exact⟨zkq bh hf (ht.fr f hf),by simp,by simp⟩
theorem zn1{I:Ins}(hI:zbu I)(hn:I.n<=7){bh:Nat->Nat}{fs:List Nat}(ht:zcA I bh fs)(T:Nat->Nat->Int)(hp:¬zO I (fs.map (rtQ bh 7))):ztT I bh fs (zea I T bh fs):=by
 obtain⟨h1,h2⟩:=zsR T ((zd8 I.n fs).map (zbq I bh)) ([],0);have aa:zea I T bh fs≠[]:=λe=>by
  have h3:=(h2 e).2;refine hp (zsu hI hn ht (λs hs1 hs2=>?_) (λf hf=>?_)).1
  ·exact h3 (zbq I bh [s]) (yo.2 ⟨[s],yH.2 (.inl (yo.2 ⟨s-1,by simp;omega,by simp;omega⟩)),rfl⟩)
  exact h3 (zbq I bh [0,f]) (yo.2 ⟨[0,f],yH.2 (.inr (yo.2 ⟨f,hf,rfl⟩)),rfl⟩)
 rcases h1 with h1|h1
 ·exact absurd h1 aa
 obtain⟨c,hc,e⟩:=yo.1 h1;obtain⟨k1,k2,k3⟩:=zhS ht hc;have e':zea I T bh fs=zcD I bh (10-c.length) c:=e.symm;rw[e'] at aa⊢;obtain⟨m1,m2,m3⟩:=zmm ht (10-c.length) c k1 (by omega) aa;exact⟨m1,m2,m3⟩
theorem zq8{I:Ins}{col:Nat->Int}{c:List Nat}(h:zbL I (bhQ I.n col) (fsQ I.n I.vans col) c){p:Nat×Nat}(hp:p∈nbr c):p.1<=I.n/\zhX I col p.1 p.2:=by
 obtain⟨i,hi,e⟩:=ziX c p hp;refine⟨?_,?_⟩
 ·rw[e];refine h.rng _ ?_;rw[yj,yl (by omega)];exact ym _
 rcases h.on p hp with ⟨h1,h2⟩|⟨h1,h2⟩
 ·exact .inl ⟨h1,h2⟩
 exact .inr ⟨h1,h2⟩
theorem zpl:∀(c:List Nat)(i:Nat),i+1<c.length->(c.getD i 0,c.getD (i+1) 0)∈nbr c:=by
 intro c;induction c with
 | nil=>intro i h;simp at h
 | cons x c ih=>
  intro i h;cases c with
  | nil=>simp at h
  | cons y c=>
   cases i with
   | zero=>simp[nbr]
   | succ i=>have:=ih i (by simpa using h);show (((y::c).getD i 0),((y::c).getD (i+1) 0))∈(x,y)::nbr (y::c);exact yaf _ this
theorem ziG(c:List Nat):(c.map λ(s:Nat)=>(s:Int)).map Int.toNat=c:=by
 induction c with
 | nil=>rfl
 | cons a c ih=>rw[yE,yE,ih,yam]
theorem zj1(c:List Nat)(i:Nat):((c.map λ(s:Nat)=>(s:Int)).getD i 0).toNat=c.getD i 0:=by rw[<-zey,ziG]
structure zqu (I:Ins) (P:zo) (fc:Option zP) (nd:zu) (fc':Option zP):Prop where
 node:zac nd=true
 arc:nd.1=1->∃a b:Nat,nd.2=[(a:Int),(b:Int)]/\a<=I.n/\b<=I.n/\a≠b/\zt P a b=0/\zA P+1<=I.n+I.vans
 hold:nd.1≠1->∀cl,zi8 I fc' cl->zeY I cl (zt P) nd
 less:∀R,fc=some R->∃R',fc'=some R'/\zR I R'<=zR I R
 plan:(∀R,fc=some R->zO I R)->∀R,fc'=some R->zO I R
theorem zn8{I:Ins}(hI:zbu I)(hn:I.n<=7)(hv:1<=I.vans)(hv3:I.vans<=3){P:zo}(hP:zab I.n P)(hg:ze4 I P)(fc:Option zP):zqu I P fc (zaU I P fc).1 (zaU I P fc).2:=by
 unfold zaU;by_cases hw:(za9 I P).whole=false
 ·rw[yg hw];obtain⟨T,hT⟩:=hg.short hw;have hf:=hT.few;exact⟨zu8 (by omega) (by omega),λh=>absurd h (by show ¬(3:Int)=1;omega),λ_ cl _=>.inr (.inl ⟨rfl,zpQ hT⟩),λR h=>⟨R,h,yaB _⟩,λh=>h⟩
 rw[ye hw];have ht:=hg.tight (by simpa using hw);have ae:zac (za6 (I.n+I.vans) (za9 I P).u (za9 I P).v)=true:=zvC (by omega) (by omega) ht.ubd ht.vbd;by_cases hb:∃R,fc=some R/\zR I R<=(za9 I P).cost
 ·rw[yg hb];obtain⟨R,h1,h2⟩:=hb;refine⟨ae,λh=>absurd h (by show ¬(2:Int)=1;omega),λ_ cl hcl=>?_,λR h=>⟨R,h,yaB _⟩,λh=>h⟩;obtain⟨c,e1,e2⟩:=hcl R h1;exact .inl ⟨rfl,c,e1,zil ht (by omega)⟩
 rw[ye hb];have af:=zjz ht;have ai:∀f∈fsQ I.n I.vans (za9 I P).col,∃d,zbC (bhQ I.n (za9 I P).col) f d/\d.length<=7:=λf hf=>by obtain⟨d,h1,h2⟩:=zrh af hf;exact⟨d,h1,by omega⟩
 by_cases hp:zO I (zbe I (za9 I P).col)
 ·rw[yg hp];have hc:=zqj ht hp ai;refine⟨ae,λh=>absurd h (by show ¬(2:Int)=1;omega),λ_ cl hcl=>?_,λR h=>⟨_,rfl,?_⟩,λ_ R h=>by cases h;exact hp⟩
  ·obtain⟨c,e1,e2⟩:=hcl _ rfl;have ag:zR I (zbe I (za9 I P).col)=(za9 I P).cost:=hc;exact .inl ⟨rfl,c,e1,zil ht (by omega)⟩
  have ag:zR I (zbe I (za9 I P).col)=(za9 I P).cost:=hc;have:¬zR I R<=(za9 I P).cost:=λah=>hb ⟨R,h,ah⟩;omega
 rw[ye hp];have aa:=zn1 hI hn af (zt P) hp;generalize zea I (zt P) (bhQ I.n (za9 I P).col) (fsQ I.n I.vans (za9 I P).col)=c at*;have ab:=λp hp=>zq8 (p:=p) aa.ok hp;show zqu I P fc (zcW (zt P) c) fc;unfold zcW;cases hfi:(nbr c).find? (zcx (zt P)) with
 | some p=>
  have hm:=List.mem_of_find?_eq_some hfi;have ac:=List.find?_some hfi;unfold zcx at ac;rw[yq] at ac;obtain⟨h1,h2⟩:=ab p hm;obtain⟨h3,h4,h5,h6⟩:=zlt ht h1 h2;refine⟨?_,λ_=>⟨p.1,p.2,rfl,h1,h5,h3,ac.2,znu hP ht h1 h2 ac.2⟩,λh=>absurd rfl h,λR h=>⟨R,h,yaB _⟩,λh=>h⟩;show zac (1,[(p.1:Int),(p.2:Int)])=true;have:-100000000<=(p.1:Int)/\(p.1:Int)<=100000000/\-100000000<=(p.2:Int)/\(p.2:Int)<=100000000:=by omega
  simp[zac,zbs,this]
 | none=>
  have ad:=List.find?_eq_none.1 hfi;refine⟨?_,λh=>absurd h (by show ¬(4:Int)=1;omega),λ_ cl _=>.inr (.inr ⟨rfl,⟨?_,?_,?_,?_,?_⟩⟩),λR h=>⟨R,h,yaB _⟩,λh=>h⟩
  ·show zac (4,c.map λ(s:Nat)=>(s:Int))=true;have h1:zbs 4 (c.map λ(s:Nat)=>(s:Int)).length=true:=by rw[yN];unfold zbs;rw[ye (by omega),ye (by omega),ye (by omega),yg rfl];have h9:=aa.len;have h0:0<c.length:=yaQ.2 aa.ok.ne;simp only[yA,yq];omega
   unfold zac;rw[h1,yaY,yF];intro z hz;obtain⟨s,hs,rfl⟩:=yo.1 hz;have:=aa.ok.rng s hs;simp;omega
  ·intro e;exact aa.ok.ne (by simpa using e)
  ·intro x hx;obtain⟨s,hs,rfl⟩:=yo.1 hx;have:=aa.ok.rng s hs;omega
  ·intro i hi h0;rw[yN] at hi;have h1:c.getD (i+1) 0=0:=by have:=zj1 c (i+1);rw[h0] at this;omega
   have aj:c=c.take (i+1)++0::c.drop (i+2):=by
    have e1:c=c.take (i+1)++c.drop (i+1):=(yav _ _).symm;have e2:c.drop (i+1)=c[i+1]::c.drop (i+2):=yac (by omega);have e3:c[i+1]=0:=by rw[yj,yl (by omega),yK] at h1;exact h1
    rw[e3] at e2;rw[<-e2];exact e1
   rcases aa.ok.ends _ _ aj with h2|h2
   ·have:=yan List.length h2;rw[yaR,yay] at this;omega
   have:=yan List.length h2;rw[List.length_drop,yay] at this;omega
  ·intro i hi;rw[yN] at hi;rw[zj1,zj1];have hm:=zpl c i hi;obtain⟨h1,h2⟩:=ab _ hm;obtain⟨h3,h4,h5,h6⟩:=zlt ht h1 h2;have h7:=ad _ hm;have h8:¬zt P (c.getD i 0) (c.getD (i+1) 0)=0:=λe=>h7 (by unfold zcx;rw[yq];exact⟨h3,e⟩);rcases zhq hP (c.getD i 0) (c.getD (i+1) 0) with e|e|e
   ·exact absurd e h8
   ·exact e
   exact absurd e h4
  rw[ziG];exact aa.blk
structure zpP (I:Ins) (s:SSt):Prop where
 path:zab I.n s.P
 walk:∀cl,zi8 I s.fc cl->zdO I cl [] s.L=some s.P
 tree:∀M,zV 1 (s.L++M)=zV (1+zA s.P) M
 pot:s.L.length+zeR s.P<=bqN 56 10
 plan:∀R,s.fc=some R->zO I R
structure ztJ (I:Ins) (s:SSt):Prop where
 walk:∀cl,zi8 I s.fc cl->zdO I cl [] s.L=some []
 tree:zV 1 s.L=true
 len:s.L.length<=bqN 56 10
 plan:∀R,s.fc=some R->zO I R
theorem zjl(I:Ins)(cl:Option Int):∀(l:List zu)(P P':zo)(nd:zu),zdO I cl P l=some P'->zdO I cl P (l++[nd])=zax I cl P' nd:=by
 intro l;induction l with
 | nil=>intro P P' nd h;cases h;rw[yax,zeG];cases zax I cl P nd<;>rfl
 | cons x l ih=>
  intro P P' nd h;rw[yaM,zeG];rw[zeG] at h;cases hs:zax I cl P x with
  | none=>rw[hs] at h;cases h
  | some P1=>rw[hs] at h;exact ih P1 P' nd h
theorem zsm(I:Ins):zpP I ⟨[],[],none⟩:=by refine⟨zab.nil,λcl _=>rfl,λM=>by rw[yax];rfl,?_,λR h=>by cases h⟩;show 0+zeR []<=bqN 56 10;unfold zeR zh1 zA;simp
theorem zps:∀(P:zo),0<zA P->zad P≠[]:=by
 intro P;induction P with
 | nil=>intro h;cases h
 | cons p P ih=>
  intro h;unfold zad;by_cases hp:p.2=true
  ·rw[yg hp];simp
  rw[ye hp];refine ih ?_;unfold zA at h⊢;rwa[yS hp] at h
theorem zjE(o:Nat)(nd:zu)(l:List zu):zV o (nd::l)=(o != 0&&zac nd&&zV (zbw o nd.1) l):=rfl
theorem ztz{I:Ins}(hI:zbu I)(hn:I.n<=7)(hv:1<=I.vans)(am:I.vans<=3){s:SSt}(h:zpP I s)(hg:ze4 I s.P):((zdQ I s).2=false->zpP I (zdQ I s).1)/\((zdQ I s).2=true->ztJ I (zdQ I s).1)/\((zdQ I s).1.L.length=s.L.length+1)/\(∀R,s.fc=some R->∃R',(zdQ I s).1.fc=some R'/\zR I R'<=zR I R):=by
 have hx:=zn8 hI hn hv am h.path hg s.fc;unfold zdQ;generalize zaU I s.P s.fc=x at*;obtain⟨nd,fc'⟩:=x;dsimp only at hx⊢;have ag:∀cl,zi8 I fc' cl->zi8 I s.fc cl:=λcl hc R hR=>by obtain⟨R',h1,h2⟩:=hx.less R hR;obtain⟨c,h3,h4⟩:=hc R' h1;exact⟨c,h3,by omega⟩
 by_cases hk:nd.1=1
 ·rw[yg hk];obtain⟨a,b,e,ha,hb,aj,h0,hf⟩:=hx.arc hk;have e0:(nd.2.getD 0 0).toNat=a:=by rw[e];rfl
  have e1:(nd.2.getD 1 0).toNat=b:=by rw[e];rfl
  rw[e0,e1];have af:zab I.n (((a,b),true)::s.P):=zab.cons ha hb aj h0 h.path;have hd:=zdM hn af;rw[yJ] at hd;have hpb:=zox (ab:=(a,b)) (P:=s.P) (by omega) (by omega);have ae:zA (((a,b),true)::s.P)=zA s.P+1:=by unfold zA;rw[yQ rfl];simp
  refine⟨λ_=>⟨af,λcl hc=>?_,λM=>?_,?_,λR hR=>hx.plan h.plan R hR⟩,λh=>(by cases h),by simp,hx.less⟩
  ·show zdO I cl [] (s.L++[nd])=_;rw[zjl I cl _ _ _ _ (h.walk cl (ag cl hc))];unfold zax;have ac:nd.2.getD 0 0=(a:Int):=by rw[e];rfl
   have ad:nd.2.getD 1 0=(b:Int):=by rw[e];rfl
   rw[yg hk,yg ⟨⟨by rw[ac];omega,by rw[ac];omega,by rw[ad];omega,by rw[ad];omega,by rw[ac,ad];omega⟩,by rw[e0,e1];exact h0⟩,e0,e1]
  ·show zV 1 ((s.L++[nd])++M)=zV (1+zA (((a,b),true)::s.P)) M;rw[yaa,ybG,h.tree,zjE,hx.node,ae];unfold zbw;rw[yg hk];have:((1+zA s.P) != 0)=true:=by simp
   rw[this];rfl
  show (s.L++[nd]).length+zeR (((a,b),true)::s.P)<=_;have:=h.pot;simp;omega
 rw[ye hk];dsimp only;have ah:∀cl,zi8 I fc' cl->zdO I cl [] (s.L++[nd])=some (zad s.P):=λcl hc=>by rw[zjl I cl _ _ _ _ (h.walk cl (ag cl hc))];unfold zax;rw[ye hk,yg (hx.hold hk cl hc)]
 have ai:∀M,zV 1 ((s.L++[nd])++M)=zV (zA s.P) M:=λM=>by
  rw[yaa,ybG,h.tree,zjE,hx.node];unfold zbw;rw[ye hk];have:((1+zA s.P) != 0)=true:=by simp
  rw[this,show 1+zA s.P-1=zA s.P by omega];rfl
 have hp:=h.pot;have hpos:1<=zeR s.P:=by unfold zeR;have:=zro (56-s.P.length) (10-zA s.P);omega
 refine⟨λhb=>?_,λhb=>?_,by simp,hx.less⟩
 ·have al:zad s.P≠[]:=λe=>by rw[e] at hb;cases hb
  have ak:0<zA s.P:=yV λh0=>al (zpA s.P (by omega));refine⟨zjv h.path,ah,λM=>?_,?_,λR hR=>hx.plan h.plan R hR⟩
  ·show zV 1 ((s.L++[nd])++M)=zV (1+zA (zad s.P)) M;rw[ai,zhs,show 1+(zA s.P-1)=zA s.P by omega]
  have h1:=zqe s.P ak;have h2:=zro (56-s.P.length) (10-zA s.P);unfold zeR at hp;show (s.L++[nd]).length+zeR (zad s.P)<=_;simp;omega
 have aa:zad s.P=[]:=by simpa using hb
 have ae:zA s.P=0:=yV λh0=>by have:=zps s.P (by omega);exact this aa
 refine⟨λcl hc=>by rw[ah cl hc,aa],?_,?_,λR hR=>hx.plan h.plan R hR⟩
 ·have:=ai [];rw[yY,ae] at this;rw[this];rfl
 show (s.L++[nd]).length<=_;simp;omega
theorem zlE{I:Ins}{k:Nat}(h:(zk I k).2=false):zk I (k+1)=zdQ I (zk I k).1:=by show (if (zk I k).2=true then zk I k else zdQ I (zk I k).1)=_;rw[ye (by rw[h];simp)]
theorem zlX{I:Ins}{k:Nat}(h:(zk I k).2=true):zk I (k+1)=zk I k:=by show (if (zk I k).2=true then zk I k else zdQ I (zk I k).1)=_;rw[yg h]
theorem ziP{I:Ins}{k:Nat}(h:(zk I k).2=true):∀m,k<=m->zk I m=zk I k:=by
 intro m hm;obtain⟨d,rfl⟩:∃d,m=k+d:=⟨m-k,by omega⟩
 induction d with
 | zero=>rfl
 | succ d ih=>have e:=ih (by omega);have:zk I (k+(d+1))=zk I (k+d+1):=rfl;rw[this,zlX (by rw[e];exact h),e]
theorem zuf{I:Ins}{k:Nat}(h:(zk I k).2=false){j:Nat}(hj:j<=k):(zk I j).2=false:=by
 cases hb:(zk I j).2 with
 | false=>rfl
 | true=>rw[ziP hb k hj,hb] at h;cases h
def zbJ(I:Ins)(k:Nat):Prop:=∀j,j<k->(zk I j).2=false->ze4 I (zk I j).1.P
theorem zbJ.le{I:Ins}{k m:Nat}(h:zbJ I k)(hm:m<=k):zbJ I m:=λj hj=>h j (by omega)
theorem zgo{I:Ins}(hI:zbu I)(hn:I.n<=7)(hv:1<=I.vans)(ab:I.vans<=3):∀k,zbJ I k ->((zk I k).2=false->zpP I (zk I k).1/\(zk I k).1.L.length=k)/\((zk I k).2=true->ztJ I (zk I k).1/\(zk I k).1.L.length<=k/\1<=(zk I k).1.L.length/\zk I (zk I k).1.L.length=zk I k/\∀j,j<(zk I k).1.L.length->(zk I j).2=false):=by
 intro k;induction k with
 | zero=>intro _;exact⟨λ_=>⟨zsm I,rfl⟩,λh=>by cases h⟩
 | succ k ih=>
  intro hg;obtain⟨h1,h2⟩:=ih (hg.le (by omega));cases hb:(zk I k).2 with
  | true=>rw[zlX hb];obtain⟨a,b,c,d,e⟩:=h2 hb;exact⟨λh=>(by rw[hb] at h;cases h),λ_=>⟨a,by omega,c,d,e⟩⟩
  | false=>
   obtain⟨hi,hl⟩:=h1 hb;have hs:=ztz hI hn hv ab hi (hg k (by omega) hb);rw[<-zlE hb] at hs;refine⟨λh=>⟨hs.1 h,by rw[hs.2.2.1,hl]⟩,λh=>?_⟩;have aa:(zk I (k+1)).1.L.length=k+1:=by rw[hs.2.2.1,hl]
   refine⟨hs.2.1 h,by omega,by omega,by rw[aa],λj hj=>?_⟩;rw[aa] at hj;exact zuf hb (by omega)
def zms:Nat->List Nat
 | 0=>[1,1,1,1,1,1,1,1,1,1,1]
 | d+1=>1::(List.range 10).map λf=>1+(zms d).getD f 0+(zms d).getD (f+1) 0
theorem zvi:∀d f,f<=10->(zms d).getD f 0=bqN d f:=by
 intro d;induction d with
 | zero=>
  intro f hf;have:f=0\/f=1\/f=2\/f=3\/f=4\/f=5\/f=6\/f=7\/f=8\/f=9\/f=10:=by omega
  rcases this with rfl|rfl|rfl|rfl|rfl|rfl|rfl|rfl|rfl|rfl|rfl<;>rfl
 | succ d ih=>
  intro f hf;cases f with
  | zero=>rfl
  | succ f=>have h1:=ih f (by omega);have h2:=ih (f+1) (by omega);rw[zlx,<-h1,<-h2];show (1::(List.range 10).map λf=>1+(zms d).getD f 0+(zms d).getD (f+1) 0).getD (f+1) 0=_;rw[ybN,yj,yal,ybb (by omega)];rfl
theorem zgu:bqN 56 10<=90000000000:=by rw[<-zvi 56 10 (by omega)];decide +kernel
theorem ztY{I:Ins}(hI:zbu I)(hn:I.n<=7)(hv:1<=I.vans)(aa:I.vans<=3){k:Nat}(hk:90000000000<k)(hg:zbJ I k):(zk I k).2=true:=by
 cases hb:(zk I k).2 with
 | true=>rfl
 | false=>obtain⟨h1,h2⟩:=(zgo hI hn hv aa k hg).1 hb;have h3:=h1.pot;have h4:=zgu;omega
def zbB(ρ:List Nat):List UInt8:=ρ.map λs=>UInt8.ofNat (48+s)
def zah:zP->List UInt8
 | []=>[]
 | ρ::R=>zbB ρ++(R.map λρ=>47::zbB ρ).flatten
theorem zoL(R:zP)(ρ:List Nat):zah (R++[ρ])=zah R++(if R=[] then [] else [47])++zbB ρ:=by
 cases R with
 | nil=>simp[zah]
 | cons a R=>simp[zah]
theorem zhP{s:Nat}(h:s<=9):(UInt8.ofNat (48+s)).toNat=48+s:=by simp;omega
theorem zrQ{s:Nat}(h:1<=s/\s<=9):UInt8.ofNat (48+s)≠47:=λe=>by have:=yan UInt8.toNat e;rw[zhP h.2] at this;have h2:(47:UInt8).toNat=47:=rfl;omega
theorem zlr{ρ:List Nat}(h:∀s∈ρ,1<=s/\s<=9):zef (zbB ρ)=ρ:=by
 induction ρ with
 | nil=>rfl
 | cons s ρ ih=>have h1:=ih λx hx=>h x (by simp[hx]);have h2:=h s (by simp);show ((UInt8.ofNat (48+s)).toNat-48)::zef (zbB ρ)=_;rw[h1,zhP h2.2];congr 1;omega
theorem znN{ρ:List Nat}(h:∀s∈ρ,1<=s/\s<=9):(47:UInt8)∉zbB ρ:=λhm=>by obtain⟨s,hs,e⟩:=yo.1 hm;exact zrQ (h s hs) e
theorem zoF:∀(R:zP),R≠[]->(∀ρ∈R,∀s∈ρ,1<=s/\s<=9)->(zM 47 (zah R)).map zef=R:=by
 intro R;induction R with
 | nil=>intro h;exact absurd rfl h
 | cons ρ R ih=>
  intro _ h;have h1:=h ρ (by simp);cases R with
  | nil=>
   show (zM 47 (zbB ρ++[])).map zef=[ρ]
   rw[yY,zin (znN h1)];simp[zlr h1]
  | cons σ R=>
   have h2:=ih (by simp) (λτ hτ=>h τ (by simp[hτ]));have e:zah (ρ::σ::R)=zbB ρ++47::zah (σ::R):=by simp[zah]
   rw[e,zf0 (znN h1),yE,h2,zlr h1]
theorem ziA{R:zP}(aa:∀ρ∈R,ρ≠[])(h:∀ρ∈R,∀s∈ρ,1<=s/\s<=9):zaX (zah R)=R:=by
 unfold zaX;cases R with
 | nil=>rfl
 | cons ρ R=>
  have hp:zah (ρ::R)≠[]:=λe=>by have h1:=aa ρ (by simp);have:zbB ρ=[]:=(List.append_eq_nil_iff.1 e).1;unfold zbB at this;exact h1 (List.map_eq_nil_iff.1 this)
  rw[ye hp,zjV];exact zoF _ (by simp) h
theorem zq1{n:Nat}(hn:n<=9):∀(ρ:List Nat)(k:Nat),(∀s∈ρ,1<=s/\s<=n)->(zbB ρ).foldl (zbI n) (some k)=some (k+ρ.length):=by
 intro ρ;induction ρ with
 | nil=>intro k _;rfl
 | cons s ρ ih=>
  intro k h;have h1:=h s (by simp);show (zbB ρ).foldl (zbI n) (zbI n (some k) (UInt8.ofNat (48+s)))=_;have e:zbI n (some k) (UInt8.ofNat (48+s))=some (k+1):=by show (if UInt8.ofNat (48+s)=47 then (if k=0 then none else some 0) else if (UInt8.ofNat (48+s)).toNat<49\/n<(UInt8.ofNat (48+s)).toNat-48 then none else some (k+1))=some (k+1);rw[ye (zrQ (by omega)),zhP (by omega),ye (by omega)]
  rw[e,ih (k+1) λx hx=>h x (by simp[hx]),yJ];congr 1;omega
theorem zvj{n:Nat}(hn:n<=9):∀(R:zP)(k:Nat),0<k->(∀ρ∈R,ρ≠[])->(∀ρ∈R,∀s∈ρ,1<=s/\s<=n)->∃m,0<m/\((R.map λρ=>47::zbB ρ).flatten).foldl (zbI n) (some k)=some m:=by
 intro R;induction R with
 | nil=>intro k hk _ _;exact⟨k,hk,rfl⟩
 | cons ρ R ih=>
  intro k hk h1 h2;have h3:0<ρ.length:=yaQ.2 (h1 ρ (by simp));rw[yE,yM,yaX,yae];have e:zbI n (some k) 47=some 0:=by show (if (47:UInt8)=47 then (if k=0 then none else some 0) else if (47:UInt8).toNat<49\/n<(47:UInt8).toNat-48 then none else some (k+1))=some 0;rw[yg rfl,ye (by omega)]
  rw[e,zq1 hn ρ 0 (h2 ρ (by simp))];exact ih _ (by omega) (λτ hτ=>h1 τ (by simp[hτ])) (λτ hτ=>h2 τ (by simp[hτ]))
theorem znY{n:Nat}(hn:n<=9){R:zP}(aa:∀ρ∈R,ρ≠[])(h:∀ρ∈R,∀s∈ρ,1<=s/\s<=n):zaf n (zah R)=true:=by
 cases R with
 | nil=>rfl
 | cons ρ R=>have h3:0<ρ.length:=yaQ.2 (aa ρ (by simp));obtain⟨m,hm,e⟩:=zvj hn R ρ.length h3 (λτ hτ=>aa τ (by simp[hτ])) (λτ hτ=>h τ (by simp[hτ]));unfold zaf zcC;show (match (zbB ρ++(R.map λρ=>47::zbB ρ).flatten).foldl (zbI n) (some 0) with|none=>false|some len=>decide (0<len)||(zah (ρ::R)).isEmpty)=true;rw[yaX,zq1 hn ρ 0 (h ρ (by simp)),yat,e];simp[hm]
def zcg:Option zP->List UInt8
 | none=>[110,111,110,101]
 | some R=>zah R
def zd9(I:Ins):Option zP->Int
 | none=>0
 | some R=>zR I R
theorem zt7{I:Ins}{bh:Nat->Nat}(hr:∀s,1<=s->s<=I.n->bh s<=I.n):∀(f s:Nat),s<=I.n->∀x∈rtQ bh f s,1<=x/\x<=I.n:=by
 intro f;induction f with
 | zero=>intro s _ x hx;cases hx
 | succ f ih=>
  intro s hs x hx;unfold rtQ at hx;by_cases h0:s=0
  ·rw[yg h0] at hx;cases hx
  rw[ye h0] at hx;rcases yG.1 hx with e|e
  ·rw[e];omega
  exact ih _ (hr s (by omega) hs) x e
theorem zsr{I:Ins}(hn:I.n<=7){col:Nat->Int}(ht:zcA I (bhQ I.n col) (fsQ I.n I.vans col)):zaX (zah (zbe I col))=zbe I col/\zaf I.n (zah (zbe I col))=true:=by
 have h1:∀ρ∈zbe I col,ρ≠[]:=λρ hρ=>by obtain⟨f,hf,rfl⟩:=yo.1 hρ;have:=ht.fr f hf;unfold rtQ;rw[ye (by omega)];simp
 have h2:∀ρ∈zbe I col,∀s∈ρ,1<=s/\s<=I.n:=λρ hρ s hs=>by obtain⟨f,hf,rfl⟩:=yo.1 hρ;exact zt7 ht.rng 7 f (ht.fr f hf).2 s hs
 exact⟨ziA h1 λρ hρ s hs=>(by have:=h2 ρ hρ s hs;omega),znY (by omega) h1 h2⟩
theorem zoe{r:Rd}(ad:zE r){D:Nat->Nat->Int}{col:Nat->Int}(hn:r.stops.length<=7)(ht:zcA (zb r D) (bhQ r.stops.length col) (fsQ r.stops.length r.vans.toNat col)):(zO (zb r D) (zbe (zb r D) col)->∃S,zI r D (zah (zbe (zb r D) col))=(zR (zb r D) (zbe (zb r D) col),some S,0))/\(¬zO (zb r D) (zbe (zb r D) col)->(zI r D (zah (zbe (zb r D) col))).2.2≠0):=by
 obtain⟨h1,h2⟩:=zsr (I:=zb r D) hn ht;have h3:=zhi ad (D:=D) (l:=zah (zbe (zb r D) col));rw[h1] at h3;refine⟨λhp=>?_,λhp h0=>hp ?_⟩
 ·obtain⟨c,S,e⟩:=h3.2 ⟨h2,hp⟩;have hc:=zgN e;rw[h1] at hc;exact⟨S,by rw[e,hc]⟩
 refine(h3.1 ?_).2;unfold zI at h0⊢;split at h0
 ·rename_i hf;exact absurd h0 hf
 rename_i hf;rw[ye hf];split at h0
 ·exact absurd h0 (by simp)
 rename_i aa;rw[ye aa];split at h0
 ·exact absurd h0 (by simp)
 rename_i ab;rw[ye ab];split at h0
 ·exact absurd h0 (by simp)
 rename_i ac;rw[ye ac];cases ht:zak r D (zn (zah (zbe (zb r D) col))) (List.replicate r.stops.length 0) with
 | none=>rw[ht] at h0;exact absurd h0 (by simp)
 | some S=>exact⟨_,_,rfl⟩
end Go.Proofs.YtebinaopncclgabGreatDoor
