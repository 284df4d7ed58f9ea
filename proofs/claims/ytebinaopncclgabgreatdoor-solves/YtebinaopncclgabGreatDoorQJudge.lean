import Derived.Test.YtebinaopncclgabGreatDoorSMatch
set_option maxRecDepth 100000
set_option maxHeartbeats 8000000
namespace Go.Proofs.YtebinaopncclgabGreatDoor
def okC(n:Nat)(c:UInt8):Bool:=decide (49<=c.toNat)&&decide (c.toNat-48<=n)
def okP(n:Nat)(p:List UInt8):Bool:=!p.isEmpty&&p.all (okC n)
def zcU(n:Nat)(l:List UInt8):Bool:=l.isEmpty||(zD 47 l).all (okP n)
theorem zvH(n:Nat)(l:List UInt8):zcC n l=if ((spl 47 l).1.all (okP n)&&(spl 47 l).2.all (okC n))=true then some (spl 47 l).2.length else none:=by
 refine zeg (P:=λl=>zcC n l=if ((spl 47 l).1.all (okP n)&&(spl 47 l).2.all (okC n))=true then some (spl 47 l).2.length else none) ?_ ?_ l
 ·rfl
 intro l c ih;rw[zfV,ih,zed];generalize spl 47 l=st;obtain⟨P,C⟩:=st;unfold zaT zbI;by_cases hc:c=47
 ·rw[yg hc];cases hP:P.all (okP n)<;>cases hC:C.all (okC n)<;>simp[hc,hP,hC,okP,List.all_append]
 rw[ye hc];have hk:(c.toNat<49\/n<c.toNat-48)↔okC n c=false:=by unfold okC;simp only[Bool.and_eq_false_iff,yI];omega
 cases hP:P.all (okP n)<;>cases hC:C.all (okC n)<;>cases hK:okC n c<;>simp[hc,hk,hC,hK,List.all_append]
theorem zfL(n:Nat)(l:List UInt8):zcU n l=zaf n l:=by
 unfold zcU zaf zD;rw[zvH];cases l with
 | nil=>rfl
 | cons x t=>generalize spl 47 (x::t)=st;obtain⟨P,C⟩:=st;cases hP:P.all (okP n)<;>cases hC:C.all (okC n)<;>simp[hP,hC,List.all_append,okP];cases C<;>simp
def zgc(p:List UInt8):List Int:=p.map λc=>(c.toNat:Int)-48
def zbK(p:List UInt8):List Int:=0::(zgc p++[0])
theorem zwl(l:List UInt8):zq l=((spl 47 l).1.map zbK,0::zgc (spl 47 l).2):=by
 refine zeg (P:=λl=>zq l=((spl 47 l).1.map zbK,0::zgc (spl 47 l).2)) rfl ?_ l;intro l c ih;rw[zcn,ih,zed];unfold zd6 zaT;by_cases hc:c=47
 ·rw[yg hc,yg hc];simp[zbK,zgc]
 rw[ye hc,ye hc];simp[zgc]
theorem zhK(l:List UInt8)(h:l≠[]):zn l=(zD 47 l).map zbK:=by unfold zn zD;rw[ye h,zwl];simp[zbK]
def zG(r:Rd)(l:List Int)(i:Nat):Int:=if 0<l.getD i 0 then zp r (l.getD i 0).toNat 4 else 0
def zam(r:Rd)(D:Nat->Nat->Int)(l:List Int):Nat->Int×Bool
 | 0=>(0,false)
 | i+1=>if l.getD (i+1) 0=0 then ((zam r D l i).1+zG r l i+z8 D l i,(zam r D l i).2||decide (r.close<(zam r D l i).1+zG r l i+z8 D l i))
  else (zbR r D l i ((zam r D l i).1+zG r l i),(zam r D l i).2||decide (zp r (l.getD (i+1) 0).toNat 3<zbR r D l i ((zam r D l i).1+zG r l i)))
theorem zra(r:Rd)(D:Nat->Nat->Int)(l S:List Int):zb7 r D l S 0=some (0,S):=rfl
theorem zma{r:Rd}{D:Nat->Nat->Int}{l S S':List Int}{q:Nat}(h:zb7 r D l S q=some ((zam r D l q).1+zG r l q,S'))(hf:(zam r D l q).2=false)(hp:0<l.getD (q+1) 0):zb7 r D l S (q+1)=if (zam r D l (q+1)).2=true then none else some ((zam r D l (q+1)).1+zG r l (q+1),S'.set ((l.getD (q+1) 0).toNat-1) (zam r D l (q+1)).1):=by
 have hz:¬l.getD (q+1) 0=0:=by omega
 have e:zG r l (q+1)=zp r (l.getD (q+1) 0).toNat 4:=by unfold zG;rw[yg hp]
 rw[zcP,h,e];simp only[zdg,zam,ye hz,hf,ycm,yq]
theorem zmC{r:Rd}{D:Nat->Nat->Int}{l S S':List Int}{q:Nat}(h:zb7 r D l S q=some ((zam r D l q).1+zG r l q,S'))(hf:(zam r D l q).2=false)(hz:l.getD (q+1) 0=0):zb7 r D l S (q+1)=some ((zam r D l (q+1)).1+zG r l (q+1),S')/\(zam r D l (q+1)).2=decide (r.close<(zam r D l (q+1)).1):=by
 have e:zG r l (q+1)=0:=by unfold zG;rw[ye (by omega)]
 rw[zcP,h,e];refine⟨?_,?_⟩
 ·simp only[zdg,zam,yg hz,Int.add_zero]
 simp only[zam,yg hz,hf,ycm]
theorem zty{r:Rd}{D:Nat->Nat->Int}{l S S':List Int}{q:Nat}(h:zb7 r D l S q=some ((zam r D l q).1+zG r l q,S'))(hf:(zam r D l q).2=false)(hq:q+1<l.length)(hx:∀x∈l,0<=x)(aa:∀j,j+2<l.length->l.getD (j+1) 0≠0)(hl:(zam r D l (q+1)).2=true):za3 r D l S=none:=by
 have hge:0<=l.getD (q+1) 0:=by rw[yj,yl hq];exact hx _ (ym _)
 by_cases hz:l.getD (q+1) 0=0
 ·have ab:q+1=l.length-1:=by
   by_cases h2:q+2<l.length
   ·exact absurd hz (aa q h2)
   omega
  obtain⟨h1,h2⟩:=zmC h hf hz;have e:zG r l (q+1)=0:=by unfold zG;rw[ye (by omega)]
  rw[h2,yq] at hl;unfold za3;rw[<-ab,h1,e];simp only[Int.add_zero];rw[ye (by omega)]
 have h1:=zma h hf (by omega);rw[yg hl] at h1;have h2:=zk3 r D l S (q+1) (l.length-1-(q+1)) h1;rw[show q+1+(l.length-1-(q+1))=l.length-1 by omega] at h2;unfold za3;rw[h2]
theorem zvy{r:Rd}{D:Nat->Nat->Int}{l S S':List Int}(h:zb7 r D l S (l.length-1)=some ((zam r D l (l.length-1)).1+zG r l (l.length-1),S'))(hlen:2<=l.length)(hz:l.getD (l.length-1) 0=0)(hf:(zam r D l (l.length-1)).2=false):za3 r D l S=some S':=by
 have e:zG r l (l.length-1)=0:=by unfold zG;rw[ye (by omega)]
 have hc:(zam r D l (l.length-1)).1<=r.close:=by
  obtain⟨m,hm⟩:∃m,l.length-1=m+1:=⟨l.length-2,by omega⟩
  rw[hm] at hf hz⊢;simp only[zam,yg hz,Bool.or_eq_false_iff,yI] at hf⊢;omega
 unfold za3;rw[h,e];simp only[Int.add_zero];rw[yg hc]
def zb(r:Rd)(D:Nat->Nat->Int):Ins:=⟨r.stops.length,r.vans.toNat,r.load,r.close,D,λs=>zp r s 1,λs=>zp r s 2,λs=>zp r s 3,λs=>zp r s 4⟩
theorem zdC{r:Rd}(h:zE r){s:Nat}(h1:1<=s)(h2:s<=r.stops.length):0<=zp r s 1/\0<=zp r s 2/\zp r s 2<=zp r s 3/\0<=zp r s 4/\zp r s 1<=10000/\zp r s 3<=10000/\zp r s 4<=10000:=by
 have aa:s-1<r.stops.length:=by omega
 obtain⟨a,b,c,d,e,he,ab⟩:=h.stops (r.stops[s-1]) (ym aa);have hg:r.stops.getD (s-1) []=[a,b,c,d,e]:=by rw[yj,yl aa];exact he
 unfold zp;rw[hg];simp only[zas,yA,yq,za7] at ab;show 0<=b/\0<=c/\c<=d/\0<=e/\b<=10000/\d<=10000/\e<=10000;omega
theorem zeS{r:Rd}{D:Nat->Nat->Int}(h:zE r)(hD:∀a b,a<r.stops.length+1->b<r.stops.length+1->-1<=D a b):zbu (zb r D):=by have hh:=h.head;simp only[zaK,yA,yq,za7] at hh;exact⟨by show 0<=r.close;omega,by show 0<=r.load;omega,λs h1 h2=>(zdC h h1 h2).1,λs h1 h2=>⟨(zdC h h1 h2).2.1,(zdC h h1 h2).2.2.1⟩,λs h1 h2=>(zdC h h1 h2).2.2.2.1,λa b ha hb=>hD a b (ybA ha) (ybA hb)⟩
def zL(c:List Nat):List Int:=c.map λ(s:Nat)=>(s:Int)
theorem zeF(c:List Nat)(i:Nat):((zL c).getD i 0)=((c.getD i 0:Nat):Int):=by unfold zL;rw[yj,yj,yal];cases c[i]?<;>rfl
theorem zaJ(c:List Nat):(zL c).length=c.length:=by simp[zL]
theorem zjg(D:Nat->Nat->Int)(c:List Nat)(k:Nat):z8 D (zL c) k=D (c.getD k 0) (c.getD (k+1) 0):=by unfold z8;rw[zeF,zeF];simp
theorem zjL(r:Rd)(D:Nat->Nat->Int)(c:List Nat):z7 r (zL c)=zbn (zb r D) c:=by
 unfold z7 zbn zL;rw[yah];congr 1;apply yad;intro s _;simp only[Function.comp];by_cases h:s=0
 ·rw[yg (by omega),yg h]
 rw[ye (by omega),ye h];rfl
theorem zm7:∀(c:List Nat)(i:Nat),i+1<c.length->(c.getD i 0,c.getD (i+1) 0)∈nbr c:=by
 intro c;induction c with
 | nil=>intro i h;simp at h
 | cons x c ih=>
  intro i h;cases c with
  | nil=>simp at h
  | cons y c=>
   cases i with
   | zero=>simp[nbr]
   | succ i=>have:=ih i (by simpa using h);show (((y::c).getD i 0),((y::c).getD (i+1) 0))∈(x,y)::nbr (y::c);exact yaf _ this
theorem zjH(D:Nat->Nat->Int)(c:List Nat):zT D (zL c)=true↔∀p∈nbr c,D p.1 p.2≠-1:=by
 unfold zT;rw[yF];constructor
 ·intro h p hp;obtain⟨i,hi,rfl⟩:=ziX c p hp;have:=h i (by rw[zaJ];simp;omega);rw[zjg] at this;simpa using this
 intro h i hi;have aa:i+1<c.length:=by rw[zaJ] at hi;simp at hi;omega
 rw[zjg];have:=h _ (zm7 c i aa);simpa using this
theorem zvY(D:Nat->Nat->Int):∀(c:List Nat),zbG D (zL c) (c.length-1)=zc2 D (nbr c):=by
 intro c;have ab:∀k,k<c.length->zbG D (zL c) k=zc2 D (nbr (c.take (k+1))):=by
  intro k;induction k with
  | zero=>
   intro h;have:nbr (c.take 1)=[]:=by
    cases c with
    | nil=>rfl
    | cons x c=>rfl
   rw[this];rfl
  | succ k ih=>
   intro h;rw[zcH,ih (by omega),zjg];have e1:c.take (k+1+1)=c.take (k+1)++[c.getD (k+1) 0]:=by rw[yr h,yj,yl h];rfl
   have aa:c.take (k+1)≠[]:=by intro e;have h9:=yan List.length e;rw[yaR,yay] at h9;omega
   rw[e1,zi9 _ _ aa];unfold zc2;rw[yL,yaZ];have hl:(c.take (k+1)).getLast?.getD 0=c.getD k 0:=by rw[ybV];simp only[yaR];rw[show min (k+1) c.length-1=k by omega,yaV (by omega),yj]
   rw[hl];simp
 cases hc:c with
 | nil=>rfl
 | cons x d=>
  rw[<-hc];have hl:c.length-1<c.length:=by rw[hc];simp
  have:=ab (c.length-1) hl;rw[this,show c.length-1+1=c.length by omega,ya0]
def fQ(I:Ins)(c:List Nat):Nat->Option Int
 | 0=>some 0
 | k+1=>(fQ I c k).bind λt=>zaG I (t+(if k=0 then 0 else I.D (c.getD (k-1) 0) (c.getD k 0))) (c.getD k 0)
theorem zwC(r:Rd)(D:Nat->Nat->Int)(c:List Nat)(S:List Int):∀k,(zbD r D (zL c) S k).map (·.1)=fQ (zb r D) c k:=by
 intro k;induction k with
 | zero=>rfl
 | succ k ih=>
  rw[zcO];show _=(fQ (zb r D) c k).bind _;rw[<-ih];cases hg:zbD r D (zL c) S k with
  | none=>rfl
  | some st=>
   obtain⟨t,S'⟩:=st;show Option.map _ (zdj r D (zL c) (some (t,S')) k)=zaG (zb r D) (t+(if k=0 then 0 else D (c.getD (k-1) 0) (c.getD k 0))) (c.getD k 0);have ab:zcE D (zL c) k=if k=0 then 0 else D (c.getD (k-1) 0) (c.getD k 0):=by
    unfold zcE;by_cases h:k=0
    ·rw[yg h,yg h]
    rw[ye h,ye h,zjg,show k-1+1=k by omega]
   have aa:∀a s,zaG (zb r D) a s=if s=0 then (if a<=r.close then some a else none) else if (if a<zp r s 2 then zp r s 2 else a)<=zp r s 3 then some ((if a<zp r s 2 then zp r s 2 else a)+zp r s 4) else none:=λ_ _=>rfl
   rw[aa];unfold zdj zaz;simp only[zeF,ab];generalize (t+(if k=0 then 0 else D (c.getD (k-1) 0) (c.getD k 0)))=a;generalize c.getD k 0=s;by_cases h0:s=0
   ·rw[yg (by omega),yg h0];by_cases h1:a<=r.close
    ·rw[yg h1,yg h1];rfl
    rw[ye h1,ye h1];rfl
   rw[ye (by omega),ye h0];simp only[yam];generalize (if a<zp r s 2 then zp r s 2 else a)=m;by_cases h1:zp r s 3<m
   ·rw[yg h1,ye (by omega)];rfl
   rw[ye h1,yg (by omega)];rfl
theorem zvT(I:Ins):∀(l pre:List Nat)(x:Nat)(t:Int),fQ I (pre++x::l) (pre.length+1)=some t->(fQ I (pre++x::l) (pre.length+1+l.length)).isSome=zcd I t x l:=by
 intro l;induction l with
 | nil=>intro pre x t h;rw[yay,ybg,h];rfl
 | cons y l ih=>
  intro pre x t h;have ab:(pre++x::y::l).getD pre.length 0=x:=by simp[List.getD_eq_getElem?_getD]
  have ac:(pre++x::y::l).getD (pre.length+1) 0=y:=by rw[yj,yaw (by omega)];simp
  have aa:fQ I (pre++x::y::l) (pre.length+1+1)=zaG I (t+I.D x y) y:=by show (fQ I (pre++x::y::l) (pre.length+1)).bind _=_;rw[h];show zaG I (t+(if pre.length+1=0 then 0 else I.D ((pre++x::y::l).getD (pre.length+1-1) 0) ((pre++x::y::l).getD (pre.length+1) 0))) ((pre++x::y::l).getD (pre.length+1) 0)=_;rw[ye (by omega),yab,ab,ac]
  rw[zem];cases ha:zaG I (t+I.D x y) y with
  | none=>
   rw[ha] at aa;have ad:∀k,fQ I (pre++x::y::l) (pre.length+1+1+k)=none:=by
    intro k;induction k with
    | zero=>exact aa
    | succ k ihk=>show (fQ I (pre++x::y::l) (pre.length+1+1+k)).bind _=none;rw[ihk];rfl
   have:=ad l.length;rw[show pre.length+1+(y::l).length=pre.length+1+1+l.length by simp;omega,this];rfl
  | some u=>
   rw[ha] at aa;have e:pre++x::y::l=(pre++[x])++y::l:=by simp
   have:=ih (pre++[x]) y u (by rw[<-e];simpa using aa);rw[<-e] at this;simp only;rw[<-this];congr 2;simp only[yz,yJ,yay];omega
theorem zuH(I:Ins)(c:List Nat):(fQ I c c.length).isSome=zd7 I c:=by
 cases c with
 | nil=>rfl
 | cons s l=>
  show _=(match zaG I 0 s with|none=>false|some t=>zcd I t s l)
  have h1:fQ I (s::l) 1=zaG I 0 s:=by show zaG I (0+(if 0=0 then 0 else _)) ((s::l).getD 0 0)=_;rw[yg rfl];rfl
  cases ha:zaG I 0 s with
  | none=>
   rw[ha] at h1;have aa:∀k,fQ I (s::l) (1+k)=none:=by
    intro k;induction k with
    | zero=>exact h1
    | succ k ihk=>show (fQ I (s::l) (1+k)).bind _=none;rw[ihk];rfl
   have:=aa l.length;rw[show (s::l).length=1+l.length by simp;omega,this];rfl
  | some t=>have:=zvT I l [] s t (by simpa using h1.trans ha);simp only[yax,yay,yat] at this;show _=zcd I t s l;rw[<-this];congr 2;simp only[yJ];omega
theorem zmy(r:Rd)(D:Nat->Nat->Int)(c:List Nat)(S:List Int):(zay r D (zL c) S).isSome=zd7 (zb r D) c:=by unfold zay;rw[<-zuH,<-zwC r D c S c.length,zaJ];cases zbD r D (zL c) S c.length<;>rfl
def zef(p:List UInt8):List Nat:=p.map λc=>c.toNat-48
def zaX(l:List UInt8):List (List Nat):=if l=[] then [] else (zD 47 l).map zef
def rtZ(ρ:List Nat):List Int:=zL (0::(ρ++[0]))
theorem ziW{n:Nat}{l:List UInt8}(h:zaf n l=true):zn l=(zaX l).map rtZ:=by
 by_cases hn:l=[]
 ·subst hn;rfl
 have hp:=zfL n l;rw[h] at hp;unfold zcU at hp;have aa:(zD 47 l).all (okP n)=true:=by
  cases l with
  | nil=>exact absurd rfl hn
  | cons x t=>simpa using hp
 rw[zhK l hn];unfold zaX;rw[ye hn,yah];apply yad;intro p ab;have h1:=yF.1 aa p ab;unfold okP at h1;rw[yA,yF] at h1;have hd:zgc p=zL (zef p):=by unfold zgc zL zef;rw[yah];apply yad;intro c hc;have:=h1.2 c hc;unfold okC at this;simp only[yA,yq] at this;simp only[Function.comp];omega
 show zbK p=rtZ (zef p);unfold zbK rtZ;rw[hd];simp[zL]
theorem zp0{n:Nat}{l:List UInt8}(h:zaf n l=true):(∀ρ∈zaX l,ρ≠[])/\∀s∈(zaX l).flatten,1<=s/\s<=n:=by
 by_cases hn:l=[]
 ·subst hn;have:zaX []=[]:=rfl;rw[this];exact⟨λρ h=>absurd h (by simp),λs h=>absurd h (by simp)⟩
 have hp:=zfL n l;rw[h] at hp;unfold zcU at hp;have ac:(zD 47 l).all (okP n)=true:=by
  cases l with
  | nil=>exact absurd rfl hn
  | cons x t=>simpa using hp
 have ab:∀p∈zD 47 l,p≠[]/\∀c∈p,49<=c.toNat/\c.toNat-48<=n:=λp ad=>by have h1:=yF.1 ac p ad;unfold okP at h1;rw[yA,yF] at h1;refine⟨by simpa using h1.1,λc hc=>?_⟩;have:=h1.2 c hc;unfold okC at this;simpa using this
 unfold zaX;rw[ye hn];constructor
 ·intro ρ hρ;obtain⟨p,aa,rfl⟩:=yo.1 hρ;have:=(ab p aa).1;unfold zef;simpa using this
 intro s hs;obtain⟨ρ,hρ,hm⟩:=y8.1 hs;obtain⟨p,aa,rfl⟩:=yo.1 hρ;obtain⟨c,hc,rfl⟩:=yo.1 hm;have:=(ab p aa).2 c hc;omega
theorem zng(d:Nat)(hd:1<=d):∀l:List UInt8,(∀c∈l,c=47\/49<=c.toNat)->(((zD 47 l).map zef).flatten).count d=zao l d:=by
 intro l;refine zeg (P:=λl=>(∀c∈l,c=47\/49<=c.toNat)->(((zD 47 l).map zef).flatten).count d=zao l d) ?_ ?_ l
 ·intro _;show ([zef []].flatten).count d=0;simp[zef]
 intro l c ih hb;have h1:=ih λx hx=>hb x (by simp[hx]);rw[zc8,<-h1];unfold zD;rw[zed];generalize spl 47 l=st;obtain⟨P,C⟩:=st;unfold zaT;by_cases hc:c=47
 ·rw[yg hc,ye (by rw[hc];show ¬(47=48+d);omega)];simp[zef]
 rw[ye hc];have hcb:49<=c.toNat:=by
  rcases hb c (by simp) with e|e
  ·exact absurd e hc
  exact e
 simp only[yL,yE,ybf,yaP,yM,ybE,yY,yaI,zef];have:List.count d [c.toNat-48]=if c.toNat=48+d then 1 else 0:=by
  rw[List.count_singleton];by_cases e:c.toNat=48+d
  ·rw[yg e];simp;omega
  rw[ye e];simp;omega
 rw[this];omega
theorem zfN{n:Nat}{l:List UInt8}(h:zaf n l=true){d:Nat}(hd:1<=d):(zaX l).flatten.count d=zao l d:=by
 by_cases hn:l=[]
 ·subst hn;rfl
 unfold zaX;rw[ye hn];exact zng d hd l λc hc=>by
  rcases zgw h c hc with e|e
  ·exact .inl e
  exact .inr e.1
theorem zjw{r:Rd}{D:Nat->Nat->Int}:∀(L:List (List Int)) (S:List Int),(∀l∈L,∀S S',(za3 r D l S).isSome=(za3 r D l S').isSome)->((zak r D L S).isSome=true↔∀l∈L,(za3 r D l S).isSome=true):=by
 intro L;induction L with
 | nil=>intro S _;simp[zak]
 | cons l L ih=>
  intro S h;have aa:zak r D (l::L) S=match za3 r D l S with|none=>none|some S'=>zak r D L S':=by
   unfold zak;rw[yae];cases ht:za3 r D l S with
   | none=>
    have:∀M:List (List Int),M.foldl (λst l=>st.bind (za3 r D l)) none=none:=by
     intro M;induction M with
     | nil=>rfl
     | cons x M ihm=>simpa using ihm
    simp only[Option.bind_some,ht];exact this L
   | some S'=>simp only[Option.bind_some,ht]
  rw[aa];cases ht:za3 r D l S with
  | none=>simp[ht]
  | some S'=>
   simp only;rw[ih S' λx hx=>h x (by simp[hx])];constructor
   ·intro hh x hx;rcases yG.1 hx with e|e
    ·rw[e,ht];rfl
    rw[h x (by simp[e]) S S'];exact hh x e
   intro hh x hx;rw[h x (by simp[hx]) S' S];exact hh x (by simp[hx])
theorem zqo{n k:Nat}{ρ:List Nat}(hk:ρ.length<=k)(h:∀s∈ρ,1<=s/\s<=n):zet n k (rtZ ρ):=by refine⟨zL ρ,by simp[rtZ,zL],by rw[zaJ];exact hk,λx hx=>?_⟩;obtain⟨s,hs,rfl⟩:=yo.1 hx;have:=h s hs;constructor<;>omega
theorem zeO{r:Rd}{D:Nat->Nat->Int}(hc:0<=r.close){ρ:List Nat}{n:Nat}(h:∀s∈ρ,1<=s/\s<=n)(S:List Int):(za3 r D (rtZ ρ) S).isSome=zcd (zb r D) 0 0 (ρ++[0]):=by
 rw[<-(zqo (yh _) h).times hc];unfold rtZ;rw[zmy];have e:zaG (zb r D) 0 0=some 0:=by unfold zaG;rw[yg rfl];exact yg hc
 show (match zaG (zb r D) 0 0 with|none=>false|some t=>zcd (zb r D) t 0 (ρ++[0]))=_;rw[e]
theorem zhi{r:Rd}{D:Nat->Nat->Int}(al:zE r){l:List UInt8}:(∃c S,zI r D l=(c,some S,0))↔(zaf r.stops.length l=true/\zO (zb r D) (zaX l)):=by
 have hh:=al.head;simp only[zaK,yA,yq,za7] at hh;have ac:0<=r.close:=by omega
 constructor
 ·rintro⟨c,S,hj⟩;unfold zI at hj;by_cases h1:zx r.stops.length l=0
  ·rw[ye (by omega)] at hj;by_cases h2:r.vans<((zn l).length:Int)
   ·rw[yg h2] at hj;cases hj
   rw[ye h2] at hj;by_cases h3:(zn l).all (zH r)=false
   ·rw[yg h3] at hj;cases hj
   rw[ye h3] at hj;by_cases h4:(zn l).all (zT D)=false
   ·rw[yg h4] at hj;cases hj
   rw[ye h4] at hj;obtain⟨_,aa,ae⟩:=zfe h1;refine⟨aa,?_⟩;have ad:=ziW aa;obtain⟨ak,af⟩:=zp0 aa;have ag:(zn l).all (zH r)=true:=by simpa using h3
   have ah:(zn l).all (zT D)=true:=by simpa using h4
   rw[ad] at h2 ag ah hj;have ab:∀ρ∈zaX l,∀s∈ρ,1<=s/\s<=r.stops.length:=λρ hρ s hs=>af s (y8.2 ⟨ρ,hρ,hs⟩);refine⟨?_,ak,af,ziy λs hs=>?_,λs k1 k2=>?_,λρ hρ=>?_,λp hp=>?_,λρ hρ=>?_⟩
   ·show (zaX l).length<=r.vans.toNat;simp at h2;omega
   ·have an:=af s hs;rw[zfN aa an.1];have:=ae (s-1) (by omega);rwa[show s-1+1=s by omega] at this
   ·refine List.count_pos_iff.1 ?_;rw[zfN aa k1];have:=ae (s-1) (by have:s<=r.stops.length:=k2;omega);rw[show s-1+1=s by omega] at this;omega
   ·have h5:=yF.1 ag (rtZ ρ) (yo.2 ⟨ρ,hρ,rfl⟩);unfold zH rtZ at h5;rw[zjL r D] at h5;have e:zbn (zb r D) (0::(ρ++[0]))=zbn (zb r D) ρ:=by
     have:0::(ρ++[0])=[0]++ρ++[0]:=by simp
     rw[this,zcb,zcb];simp[zbn]
    rw[e] at h5;exact yaE h5
   ·obtain⟨L,hL,aj⟩:=y8.1 hp;obtain⟨ρ,hρ,rfl⟩:=yo.1 hL;have h5:=yF.1 ah (rtZ ρ) (yo.2 ⟨ρ,hρ,rfl⟩);unfold rtZ at h5;rw[zjH] at h5;rw[zcc] at aj;exact h5 p aj
   cases ht:zak r D ((zaX l).map rtZ) (List.replicate r.stops.length 0) with
   | none=>rw[ht] at hj;cases hj
   | some S'=>have:=(zjw (r:=r) (D:=D) ((zaX l).map rtZ) (List.replicate r.stops.length 0) (λx hx S S'=>by obtain⟨σ,hσ,rfl⟩:=yo.1 hx;rw[zeO (D:=D) ac (ab σ hσ),zeO (D:=D) ac (ab σ hσ)])).1 (by rw[ht];rfl) (rtZ ρ) (yo.2 ⟨ρ,hρ,rfl⟩);rwa[zeO ac (ab ρ hρ)] at this
  rw[yg h1] at hj;cases hj
 rintro⟨aa,hp⟩;have ad:=ziW aa;have ab:∀ρ∈zaX l,∀s∈ρ,1<=s/\s<=r.stops.length:=λρ hρ s hs=>hp.stops s (y8.2 ⟨ρ,hρ,hs⟩);have ai:∀d,d<r.stops.length->zao l (d+1)=1:=λd hd=>by rw[<-zfN aa (by omega)];have:=List.Nodup.count hp.once (a:=d+1);rw[yg (hp.all (d+1) (by omega) (by show d+1<=r.stops.length;omega))] at this;exact this
 have h1:zx r.stops.length l=0:=by
  unfold zx;rw[ye (by rw[aa];simp),ye,ye]
  ·rw[y9];rintro⟨d,hd,hh⟩;have:=ai d (by simpa using hd);simp at hh;omega
  rw[y9];rintro⟨d,hd,hh⟩;have:=ai d (by simpa using hd);simp at hh;omega
 have h2:¬r.vans<((zn l).length:Int):=by rw[ad];have:(zaX l).length<=r.vans.toNat:=hp.few;simp;omega
 have h3:¬(zn l).all (zH r)=false:=by
  rw[ad];have:((zaX l).map rtZ).all (zH r)=true:=by
   rw[yF];intro x hx;obtain⟨ρ,hρ,rfl⟩:=yo.1 hx;unfold zH rtZ;rw[zjL r D];have e:zbn (zb r D) (0::(ρ++[0]))=zbn (zb r D) ρ:=by
    have:0::(ρ++[0])=[0]++ρ++[0]:=by simp
    rw[this,zcb,zcb];simp[zbn]
   rw[e];exact yak (hp.load ρ hρ)
  rw[this];simp
 have h4:¬(zn l).all (zT D)=false:=by
  rw[ad];have:((zaX l).map rtZ).all (zT D)=true:=by rw[yF];intro x hx;obtain⟨ρ,hρ,rfl⟩:=yo.1 hx;unfold rtZ;rw[zjH];intro p am;exact hp.way p (y8.2 ⟨_,yo.2 ⟨ρ,hρ,rfl⟩,by rw[zcc];exact am⟩)
  rw[this];simp
 have h5:(zak r D (zn l) (List.replicate r.stops.length 0)).isSome=true:=by
  rw[ad];refine(zjw _ _ (λx hx S S'=>?_)).2 (λx hx=>?_)
  ·obtain⟨σ,hσ,rfl⟩:=yo.1 hx;rw[zeO ac (ab σ hσ),zeO ac (ab σ hσ)]
  obtain⟨σ,hσ,rfl⟩:=yo.1 hx;rw[zeO ac (ab σ hσ)];exact hp.time σ hσ
 unfold zI;rw[ye (by omega),ye h2,ye h3,ye h4];cases ht:zak r D (zn l) (List.replicate r.stops.length 0) with
 | none=>rw[ht] at h5;cases h5
 | some S=>exact⟨_,S,rfl⟩
theorem zgN{r:Rd}{D:Nat->Nat->Int}{l:List UInt8}{c:Int}{S:List Int}(hj:zI r D l=(c,some S,0)):c=zR (zb r D) (zaX l):=by
 have aa:zaf r.stops.length l=true:=by
  unfold zI at hj;by_cases h1:zx r.stops.length l=0
  ·exact(zfe h1).2.1
  rw[yg h1] at hj;cases hj
 have hc:c=zb0 D (zn l):=by
  unfold zI at hj;by_cases h1:zx r.stops.length l≠0
  ·rw[yg h1] at hj;cases hj
  rw[ye h1] at hj;by_cases h2:r.vans<((zn l).length:Int)
  ·rw[yg h2] at hj;cases hj
  rw[ye h2] at hj;by_cases h3:(zn l).all (zH r)=false
  ·rw[yg h3] at hj;cases hj
  rw[ye h3] at hj;by_cases h4:(zn l).all (zT D)=false
  ·rw[yg h4] at hj;cases hj
  rw[ye h4] at hj;cases ht:zak r D (zn l) (List.replicate r.stops.length 0) with
  | none=>rw[ht] at hj;cases hj
  | some S'=>rw[ht] at hj;simp only[Prod.mk.injEq] at hj;exact hj.1.symm
 rw[hc,ziW aa];unfold zb0 zR zaE;rw[yah];have:∀L:List (List Nat),((L.map ((λl:List Int=>zbG D l (l.length-1)) ∘ rtZ)).sum)=zc2 (zb r D).D ((L.map zbv).flatten):=by
  intro L;induction L with
  | nil=>rfl
  | cons ρ L ih=>simp only[yE,yZ,yM,Function.comp];unfold zc2 at ih⊢;rw[yL,yaZ,<-ih];congr 1;unfold rtZ;rw[zaJ,zvY,zcc];rfl
 exact this _
end Go.Proofs.YtebinaopncclgabGreatDoor
