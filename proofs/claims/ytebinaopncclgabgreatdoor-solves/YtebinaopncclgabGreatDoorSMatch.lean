import Derived.Test.YtebinaopncclgabGreatDoorQUnder
set_option maxRecDepth 100000
set_option maxHeartbeats 8000000
namespace Go.Proofs.YtebinaopncclgabGreatDoor
structure zcA (I:Ins) (bh:Nat->Nat) (fs:List Nat):Prop where
 rng:∀s,1<=s->s<=I.n->bh s<=I.n
 fr:∀f∈fs,1<=f/\f<=I.n
 few:fs.length<=I.vans
 fnd:fs.Nodup
 inj:∀s t,1<=s->s<=I.n->1<=t->t<=I.n->bh s=bh t->bh s≠0->s=t
 sep:∀s,1<=s->s<=I.n->bh s∉fs
 all:∀b,1<=b->b<=I.n->b∈fs\/∃s,1<=s/\s<=I.n/\bh s=b
inductive zbC (bh:Nat->Nat):Nat->List Nat->Prop
 | home:zbC bh 0 []
 | next {x:Nat} {d:List Nat}:x≠0->zbC bh (bh x) d->zbC bh x (bh x::d)
theorem zbC.one{bh:Nat->Nat}{x:Nat}{d:List Nat}(h:zbC bh x d):∀{e:List Nat},zbC bh x e->d=e:=by
 induction h with
 | home=>intro e he;cases he with
  | home=>rfl
  | next h0 _=>exact absurd rfl h0
 | next h0 _ ih=>intro e he;cases he with
  | home=>exact absurd rfl h0
  | next _ h2=>rw[ih h2]
def rtQ(bh:Nat->Nat):Nat->Nat->List Nat
 | 0,_=>[]
 | f+1,s=>if s=0 then [] else s::rtQ bh f (bh s)
theorem ziR{bh:Nat->Nat}{x:Nat}{d:List Nat}(h:zbC bh x d):∀f,d.length<=f->x::d=rtQ bh f x++[0]/\(rtQ bh f x).map bh=d:=by
 induction h with
 | home=>
  intro f _;cases f with
  | zero=>exact⟨rfl,rfl⟩
  | succ f=>unfold rtQ;rw[yg rfl];exact⟨rfl,rfl⟩
 | next h0 _ ih=>
  intro f hf;cases f with
  | zero=>simp at hf
  | succ f=>obtain⟨h1,h2⟩:=ih f (by simpa using hf);unfold rtQ;rw[ye h0];exact⟨by rw[yaM,<-h1],by rw[yE,h2]⟩
open Classical in
noncomputable def zcD(I:Ins)(bh:Nat->Nat):Nat->List Nat->List Nat
 | 0,_=>[]
 | f+1,c=>if zU I c then c else if c.getLast?.getD 0=0 then [] else zcD I bh f (c++[bh (c.getLast?.getD 0)])
theorem zfb(c:List Nat)(x:Nat):(c++[x]).getLast?.getD 0=x:=by simp
def zwh(bh:Nat->Nat)(fs:List Nat)(c:List Nat):Prop:=∀p∈nbr c,(p.1≠0/\p.2=bh p.1)\/(p.1=0/\p.2∈fs)
theorem zi9(c:List Nat)(x:Nat)(h:c≠[]):nbr (c++[x])=nbr c++[(c.getLast?.getD 0,x)]:=by
 obtain⟨a,y,rfl⟩:∃a y,c=a++[y]:=⟨c.dropLast,c.getLast h,(yaF h).symm⟩
 rw[zfb,yaa];show nbr (a++y::[x])=_;rw[zh7];rfl
structure zbL (I:Ins) (bh:Nat->Nat) (fs:List Nat) (c:List Nat):Prop where
 ne:c≠[]
 rng:∀s∈c,s<=I.n
 on:zwh bh fs c
 ends:∀u v,c=u++0::v->u=[]\/v=[]
theorem zbL.snoc{I:Ins}{bh:Nat->Nat}{fs:List Nat}{c:List Nat}(ht:zcA I bh fs)(h:zbL I bh fs c)(h0:c.getLast?.getD 0≠0):zbL I bh fs (c++[bh (c.getLast?.getD 0)]):=by
 have hl:c.getLast?.getD 0∈c:=by
  obtain⟨a,y,rfl⟩:∃a y,c=a++[y]:=⟨c.dropLast,c.getLast h.ne,(yaF h.ne).symm⟩
  rw[zfb];simp
 refine⟨by simp,λs hs=>?_,λp hp=>?_,λu v e=>?_⟩
 ·rcases yH.1 hs with e|e
  ·exact h.rng s e
  simp only[yaj] at e;rw[e];exact ht.rng _ (by omega) (h.rng _ hl)
 ·rw[zi9 c _ h.ne] at hp;rcases yH.1 hp with e|e
  ·exact h.on p e
  simp only[yaj] at e;rw[e];exact .inl ⟨h0,rfl⟩
 by_cases hv:v=[]
 ·exact .inr hv
 left;obtain⟨v',y,rfl⟩:∃v' y,v=v'++[y]:=⟨v.dropLast,v.getLast hv,(yaF hv).symm⟩
 have e2:c++[bh (c.getLast?.getD 0)]=(u++0::v')++[y]:=by rw[e];simp
 have e3:=(List.append_inj' e2 rfl).1;rcases h.ends u v' e3 with h1|h1
 ·exact h1
 subst h1;rw[e3,zfb] at h0;exact absurd rfl h0
theorem zmm{I:Ins}{bh:Nat->Nat}{fs:List Nat}(ht:zcA I bh fs):∀(f:Nat)(c:List Nat),zbL I bh fs c->c.length+f=10->zcD I bh f c≠[]->zbL I bh fs (zcD I bh f c)/\zU I (zcD I bh f c)/\(zcD I bh f c).length<=9:=by
 intro f;induction f with
 | zero=>intro c _ _ h;exact absurd rfl h
 | succ f ih=>
  intro c hc hl h;unfold zcD at h⊢;by_cases hb:zU I c
  ·rw[yg hb];exact⟨hc,hb,by omega⟩
  rw[ye hb] at h⊢;by_cases h0:c.getLast?.getD 0=0
  ·rw[yg h0] at h;exact absurd rfl h
  rw[ye h0] at h⊢;exact ih _ (hc.snoc ht h0) (by simp;omega) h
theorem zmd{I:Ins}{bh:Nat->Nat}{fs:List Nat}(hn:I.n<=7)(ht:zcA I bh fs):∀(f:Nat)(c:List Nat),zbL I bh fs c->c.length+f=10->(f=0->¬zhu c)->(∀s∈c.tail,s≠0)\/(∃a,c=a++[0]/\(∀s∈a.tail,s≠0))->zcD I bh f c=[]->∃d,zbC bh (c.getLast?.getD 0) d/\¬zU I (c++d):=by
 intro f;induction f with
 | zero=>
  intro c hc hl ae hz _;exfalso;have aa:c.length=10:=by omega
  have ac:=Classical.not_not.1 (ae rfl);have h1:=zbk _ ((List.range I.n).map (· + 1)) ac λs hs=>by
   obtain⟨h1,h2⟩:=yag.1 hs;have h3:=hc.rng s h1;have h4:s≠0:=by simpa using h2
   exact yo.2 ⟨s-1,by simp;omega,by omega⟩
  rw[yN,yaD] at h1;have hf:∀(l:List Nat),(∀s∈l,s≠0)->(l.filter λs=>decide (s≠0))=l:=λl h=>zeH h;rcases hz with hz|⟨a,rfl,hz⟩
  ·cases c with
   | nil=>simp at aa
   | cons x c=>
    have h2:(c.filter λs=>decide (s≠0)).length<=((x::c).filter λs=>decide (s≠0)).length:=by rw[ybY];split<;>simp
    rw[hf c (by simpa using hz)] at h2;simp at aa;omega
  rw[yaL,yz] at h1;cases a with
  | nil=>simp at aa
  | cons x a=>
   have h2:(a.filter λs=>decide (s≠0)).length<=((x::a).filter λs=>decide (s≠0)).length:=by rw[ybY];split<;>simp
   rw[hf a (by simpa using hz)] at h2;simp at aa;omega
 | succ f ih=>
  intro c hc hl ae hz h;unfold zcD at h;by_cases hb:zU I c
  ·rw[yg hb] at h;exact absurd h hc.ne
  rw[ye hb] at h;by_cases h0:c.getLast?.getD 0=0
  ·refine⟨[],?_,by simpa using hb⟩;rw[h0];exact .home
  rw[ye h0] at h;have ab:∀s∈c.tail,s≠0:=by
   rcases hz with hz|⟨a,rfl,_⟩
   ·exact hz
   rw[zfb] at h0;exact absurd rfl h0
  have af:=hc.snoc ht h0;by_cases ad:zhu (c++[bh (c.getLast?.getD 0)])
  · -- it is blocked there
   cases f with
   | zero=>
    exfalso;have ac:(c.filter λs=>decide (s≠0)).Nodup:=by apply yV;intro ag;exact hb ⟨.inl ag⟩
    have h1:=zbk _ ((List.range I.n).map (· + 1)) ac λs hs=>by
     obtain⟨h1,h2⟩:=yag.1 hs;have h3:=hc.rng s h1;have h4:s≠0:=by simpa using h2
     exact yo.2 ⟨s-1,by simp;omega,by omega⟩
    rw[yN,yaD] at h1;cases c with
    | nil=>exact hc.ne rfl
    | cons x c=>
     have h2:(c.filter λs=>decide (s≠0)).length<=((x::c).filter λs=>decide (s≠0)).length:=by rw[ybY];split<;>simp
     rw[zeH (by simpa using ab)] at h2;simp at hl;omega
   | succ f=>unfold zcD at h;rw[yg ⟨.inl ad⟩] at h;simp at h
  obtain⟨d,h1,h2⟩:=ih _ af (by simp;omega) (λ_=>ad) (by
   by_cases e:bh (c.getLast?.getD 0)=0
   ·right;exact⟨c,by rw[e],ab⟩
   left;cases c with
   | nil=>exact absurd rfl hc.ne
   | cons x c=>
    intro s hs;simp only[yaM,List.tail_cons] at hs ab;rcases yH.1 hs with k|k
    ·exact ab s k
    simp only[yaj] at k;rw[k];exact e) h
  rw[zfb] at h1;exact⟨_,.next h0 h1,by simpa using h2⟩
theorem zk8{bh:Nat->Nat}{s p:Nat}:∀(L:List Nat),(∀q∈L,bh q=s->q=p)->bh p=s->(L.map bh).count s=L.count p:=by
 intro L;induction L with
 | nil=>intro _ _;rfl
 | cons q L ih=>
  intro h hp;rw[yE,yaW,yaW,ih (λx hx=>h x (by simp[hx])) hp];by_cases e:q=p
  ·rw[e];simp[hp]
  have:bh q≠s:=λh'=>e (h q (by simp) h');simp[e,this]
theorem zjR{bh:Nat->Nat}{s:Nat}(L:List Nat)(h:∀q∈L,bh q≠s):(L.map bh).count s=0:=by rw[ya1];intro hm;obtain⟨q,hq,e⟩:=yo.1 hm;exact h q hq e
theorem ziy{L:List Nat}(h:∀s∈L,L.count s=1):L.Nodup:=by
 induction L with
 | nil=>exact ybQ
 | cons x L ih=>have hx:=h x (by simp);rw[List.count_cons_self] at hx;have aa:x∉L:=ya1.1 (by omega);refine yaO.2 ⟨aa,ih λs hs=>?_⟩;have:=h s (by simp[hs]);rw[yaW] at this;have ab:¬x=s:=λe=>aa (e▸hs);simp[ab] at this;exact this
theorem zjr{I:Ins}(bh:Nat->Nat)(fs:List Nat){s:Nat}(h:s<=I.n):zbL I bh fs [s]:=by
 refine⟨by simp,by simpa using h,λp hp=>absurd hp (by simp[nbr]),λu v e=>?_⟩;cases u with
 | nil=>exact .inl rfl
 | cons x u=>simp at e
theorem zkq{I:Ins}(bh:Nat->Nat){fs:List Nat}{f:Nat}(hf:f∈fs)(h:1<=f/\f<=I.n):zbL I bh fs [0,f]:=by
 refine⟨by simp,λs hs=>?_,λp hp=>?_,λu v e=>?_⟩
 ·simp only[yG,ybF,or_false] at hs;omega
 ·have:p=(0,f):=by simpa[nbr] using hp
  rw[this];exact .inr ⟨rfl,hf⟩
 cases u with
 | nil=>exact .inl rfl
 | cons x u=>
  cases u with
  | nil=>simp only[yaM,yax,yb4] at e;omega
  | cons y u=>simp at e
theorem zsu{I:Ins}(hI:zbu I)(hn:I.n<=7){bh:Nat->Nat}{fs:List Nat}(ht:zcA I bh fs)(hs:∀s,1<=s->s<=I.n->zcD I bh 9 [s]=[])(hf:∀f∈fs,zcD I bh 8 [0,f]=[]):zO I (fs.map (rtQ bh 7))/\(∀f∈fs,∃d,zbC bh f d):=by
 have aj:∀s,1<=s->s<=I.n->∃d,zbC bh s d/\d.length<=8:=λs h1 h2=>by
  obtain⟨d,h3,h4⟩:=zmd (fs:=fs) hn ht 9 [s] (zjr bh fs h2) rfl (λh=>absurd h (by omega)) (.inl λx hx=>absurd hx (by simp)) (hs s h1 h2);have ag:zbC bh s d:=by simpa using h3
  refine⟨d,ag,?_⟩;have an:(([s]++d).filter λs=>decide (s≠0)).Nodup:=yV λai=>h4 ⟨.inl ai⟩;have hr:∀x d,zbC bh x d->x<=I.n->∀y∈d,y<=I.n:=by
   intro x d hp;induction hp with
   | home=>intro _ y hy;cases hy
   | @next x' d' h0 _ ih=>
    intro hx y hy;have hb:=ht.rng x' (by omega) hx;rcases yG.1 hy with e|e
    ·rw[e];exact hb
    exact ih hb y e
  have ac:=zbk _ ((List.range I.n).map (· + 1)) an λy hy=>by
   obtain⟨h5,h6⟩:=yag.1 hy;have h7:y<=I.n:=by
    rcases yH.1 h5 with e|e
    ·simp only[yaj] at e;omega
    exact hr s d ag h2 y e
   have h8:y≠0:=by simpa using h6
   exact yo.2 ⟨y-1,by simp;omega,by omega⟩
  rw[yN,yaD] at ac;have ah:∀x d,zbC bh x d->d.length<=((x::d).filter λs=>decide (s≠0)).length:=by
   intro x d hp;induction hp with
   | home=>simp
   | next h0 _ ih=>rw[yQ (by simpa using h0)];simp only[yJ];omega
  have:=ah s d ag;simp only[ybG] at ac;omega
 have ad:∀f∈fs,∃d,zbC bh f d/\d.length<=7/\¬zU I (0::f::d):=λf aa=>by
  have au:=ht.fr f aa;obtain⟨d,h3,h4⟩:=zmd (fs:=fs) hn ht 8 [0,f] (zkq bh aa au) rfl (λh=>absurd h (by omega)) (.inl λx hx=>by simp only[List.tail_cons,yaj] at hx;omega) (hf f aa);have ag:zbC bh f d:=by simpa using h3
  refine⟨d,ag,?_,by simpa using h4⟩;have an:((0::f::d).filter λs=>decide (s≠0)).Nodup:=yV λai=>h4 ⟨.inl ai⟩;have hr:∀x d,zbC bh x d->x<=I.n->∀y∈d,y<=I.n:=by
   intro x d hp;induction hp with
   | home=>intro _ y hy;cases hy
   | @next x' d' h0 _ ih=>
    intro hx y hy;have hb:=ht.rng x' (by omega) hx;rcases yG.1 hy with e|e
    ·rw[e];exact hb
    exact ih hb y e
  have ac:=zbk _ ((List.range I.n).map (· + 1)) an λy hy=>by
   obtain⟨h5,h6⟩:=yag.1 hy;have h8:y≠0:=by simpa using h6
   have h7:y<=I.n:=by
    rcases yG.1 h5 with e|e
    ·omega
    rcases yG.1 e with e|e
    ·omega
    exact hr f d ag au.2 y e
   exact yo.2 ⟨y-1,by simp;omega,by omega⟩
  rw[yN,yaD] at ac;have ah:∀x d,zbC bh x d->d.length<=((x::d).filter λs=>decide (s≠0)).length:=by
   intro x d hp;induction hp with
   | home=>simp
   | next h0 _ ih=>rw[yQ (by simpa using h0)];simp only[yJ];omega
  have h9:=ah f d ag;rw[yS (by simp)] at ac;omega
 have ak:∀f∈fs,0::(rtQ bh 7 f++[0])=0::f::(rtQ bh 7 f).map bh:=λf aa=>by obtain⟨d,h1,h2,_⟩:=ad f aa;obtain⟨h3,h4⟩:=ziR h1 7 h2;rw[<-h3,h4]
 have af:∀f∈fs,¬zU I (0::(rtQ bh 7 f++[0])):=λf aa=>by obtain⟨d,h1,h2,h3⟩:=ad f aa;obtain⟨h4,_⟩:=ziR h1 7 h2;rw[<-h4];exact h3
 have am:∀(k x:Nat),x<=I.n->∀y∈rtQ bh k x,1<=y/\y<=I.n:=by
  intro k;induction k with
  | zero=>intro x _ y hy;cases hy
  | succ k ih=>
   intro x hx y hy;unfold rtQ at hy;by_cases h0:x=0
   ·rw[yg h0] at hy;cases hy
   rw[ye h0] at hy;rcases yG.1 hy with e|e
   ·omega
   exact ih (bh x) (ht.rng x (by omega) hx) y e
 have ab:∀s∈(fs.map (rtQ bh 7)).flatten,1<=s/\s<=I.n:=λs ar=>by obtain⟨ρ,hρ,h1⟩:=y8.1 ar;obtain⟨f,aa,rfl⟩:=yo.1 hρ;exact am 7 f (ht.fr f aa).2 s h1
 have ac:∀s,s≠0->(fs.map (rtQ bh 7)).flatten.count s=fs.count s+((fs.map (rtQ bh 7)).flatten.map bh).count s:=by
  intro s hs0;have ax:∀L:List Nat,(∀f∈L,f∈fs)->(L.map (rtQ bh 7)).flatten.count s=L.count s+((L.map (rtQ bh 7)).flatten.map bh).count s:=by
   intro L;induction L with
   | nil=>intro _;rfl
   | cons f L ih=>
    intro h;have h1:=ih λx hx=>h x (by simp[hx]);have h2:=ak f (h f (by simp));have h3:=yan (List.count s) h2;rw[yaW,yaW,yaW,yaI] at h3;have e0:List.count s [0]=0:=by rw[ya1];simp;omega
    rw[yE,yM,yaI,yL,yaI,h1,yaW];omega
  exact ax fs λf h=>h
 have ao:∀(k s:Nat),1<=s->s<=I.n->(∀d,zbC bh s d->d.length+k>=9)->(fs.map (rtQ bh 7)).flatten.count s=1:=by
  intro k;induction k with
  | zero=>intro s h1 h2 h3;obtain⟨d,h4,h5⟩:=aj s h1 h2;have:=h3 d h4;omega
  | succ k ih=>
   intro s h1 h2 h3;rw[ac s (by omega)];rcases ht.all s h1 h2 with hm|⟨p,ap,aq,al⟩
   ·have e1:fs.count s=1:=by have:=List.Nodup.count ht.fnd (a:=s);rw[yg hm] at this;exact this
    have e2:((fs.map (rtQ bh 7)).flatten.map bh).count s=0:=zjR _ λq hq e=>by have:=ab q hq;exact ht.sep q this.1 this.2 (by rw[e];exact hm)
    omega
   have av:s∉fs:=λhm=>ht.sep p ap aq (by rw[al];exact hm);have e1:fs.count s=0:=ya1.2 av;have e2:((fs.map (rtQ bh 7)).flatten.map bh).count s=(fs.map (rtQ bh 7)).flatten.count p:=zk8 _ (λq hq e=>by
    have:=ab q hq;exact ht.inj q p this.1 this.2 ap aq (by rw[e,al]) (by rw[e];omega)) al;have e3:=ih p ap aq (λd hd=>by
    cases hd with
    | home=>omega
    | next h0 hd'=>rw[al] at hd';have:=h3 _ hd';simp only[yJ];omega);omega
 have ae:∀s,1<=s->s<=I.n->(fs.map (rtQ bh 7)).flatten.count s=1:=λs h1 h2=>ao 9 s h1 h2 λd _=>by omega
 refine⟨⟨by simpa using ht.few,λρ hρ=>?_,ab,ziy λs ar=>?_,λs h1 h2=>?_,λρ hρ=>?_,λp hp=>?_,λρ hρ=>?_⟩,λf aa=>?_⟩
 ·obtain⟨f,aa,rfl⟩:=yo.1 hρ;have:=ht.fr f aa;unfold rtQ;rw[ye (by omega)];simp
 ·have:=ab s ar;exact ae s this.1 this.2
 ·exact List.count_pos_iff.1 (by rw[ae s h1 h2];omega)
 ·obtain⟨f,aa,rfl⟩:=yo.1 hρ;apply yV;intro ai;refine af f aa ⟨.inr (.inl ?_)⟩;have e:0::(rtQ bh 7 f++[0])=[0]++rtQ bh 7 f++[0]:=by simp
  rw[e,zcb,zcb];simp only[zbn,yE,ybf,yZ,List.sum_nil,ycf] at ai⊢;omega
 ·obtain⟨L,hL,aw⟩:=y8.1 hp;obtain⟨ρ,hρ,rfl⟩:=yo.1 hL;obtain⟨f,aa,rfl⟩:=yo.1 hρ;intro e;exact af f aa ⟨.inr (.inr (.inl ⟨p,by rw[<-zcc];exact aw,e⟩))⟩
 ·obtain⟨f,aa,rfl⟩:=yo.1 hρ;apply yV;intro ai;refine af f aa ⟨.inr (.inr (.inr ?_))⟩;have e:zaG I 0 0=some 0:=by unfold zaG;rw[yg rfl,yg hI.close]
  show (match zaG I 0 0 with|none=>false|some t=>zcd I t 0 (rtQ bh 7 f++[0]))=false;rw[e];simpa using ai
 obtain⟨d,h1,_⟩:=ad f aa;exact⟨d,h1⟩
def bhQ(n:Nat)(col:Nat->Int)(s:Nat):Nat:=zr n (col (s-1)).toNat
def fsQ(n vans:Nat)(col:Nat->Int):List Nat:=((List.range vans).map λk=>zr n (col (n+k)).toNat).filter λs=>decide (s≠0)
theorem ziT{n i j:Nat}(h:zr n i=zr n j)(h0:zr n i≠0):i=j:=by
 unfold zr at h h0;by_cases h1:i<n
 ·rw[yg h1] at h;by_cases h2:j<n
  ·rw[yg h2] at h;omega
  rw[ye h2] at h;omega
 rw[ye h1] at h0;exact absurd rfl h0
theorem zfW{n:Nat}{T D:Nat->Nat->Int}{a b:Nat}(h:zbZ n T D a b≠-1):(a=0/\b=0)\/(a≠b/\T a b≠2/\feS n T a b=false/\D a b≠-1/\zbZ n T D a b=D a b):=by
 unfold zbZ at h⊢;by_cases h0:a=0/\b=0
 ·exact .inl h0
 right;rw[ye h0] at h⊢;by_cases h1:a=b\/T a b=2\/feS n T a b=true
 ·rw[yg h1] at h;exact absurd rfl h
 rw[ye h1] at h⊢;refine⟨λe=>h1 (.inl e),λe=>h1 (.inr (.inl e)),?_,h,rfl⟩;cases hf:feS n T a b with
 | false=>rfl
 | true=>exact absurd (.inr (.inr hf)) h1
theorem zkD{N:Nat}{C:Nat->Nat->Int}{col u v:Nat->Int}{cost:Int}(ht:zdd N C col u v cost){j:Nat}(hj:j<N):∃i,i<N/\(col i).toNat=j:=by
 obtain⟨hp,_,_⟩:=zpi ht;apply yV;intro ab;have h1:=zbk (j::((List.range N).map λi=>(i,(col i).toNat)).map (·.2)) (List.range N) (yaO.2 ⟨λhm=>by
   obtain⟨p,aa,e⟩:=yo.1 hm;obtain⟨i,hi,rfl⟩:=yo.1 aa;exact ab ⟨i,by simpa using hi,e⟩,hp.s1⟩) (λx hx=>by
  rcases yG.1 hx with e|e
  ·rw[e];simpa using hj
  obtain⟨p,aa,rfl⟩:=yo.1 e;simpa using(hp.f2 p aa).2)
 simp at h1;omega
theorem zhk{N:Nat}{C:Nat->Nat->Int}{col u v:Nat->Int}{cost:Int}(ht:zdd N C col u v cost){i j:Nat}(hi:i<N)(hj:j<N)(h:(col i).toNat=(col j).toNat):i=j:=by obtain⟨k,h1,_⟩:=ht.tcol i hi;obtain⟨m,h2,_⟩:=ht.tcol j hj;exact ht.one i j hi hj (by omega)
theorem zhe{n vans:Nat}{col:Nat->Int}{f:Nat}:f∈fsQ n vans col↔f≠0/\∃k,k<vans/\zr n (col (n+k)).toNat=f:=by
 unfold fsQ;rw[yag,yo];constructor
 ·rintro⟨⟨k,hk,e⟩,h0⟩;exact⟨by simpa using h0,k,by simpa using hk,e⟩
 rintro⟨h0,k,hk,e⟩;exact⟨⟨k,by simpa using hk,e⟩,by simpa using h0⟩
theorem zjz{I:Ins}{T:Nat->Nat->Int}{col u v:Nat->Int}{cost:Int}(ht:zdd (I.n+I.vans) (zX I T) col u v cost):zcA I (bhQ I.n col) (fsQ I.n I.vans col):=by
 refine⟨λs _ _=>by have:=zcT I.n (col (s-1)).toNat;unfold bhQ;omega,λf hf=>?_,?_,?_,λs t h1 h2 h3 h4 e h0=>?_,λs h1 h2 hm=>?_,λb h1 h2=>?_⟩
 ·obtain⟨h0,k,_,rfl⟩:=zhe.1 hf;have:=zcT I.n (col (I.n+k)).toNat;omega
 ·unfold fsQ;refine yP (yau _ _) ?_;simp
 ·unfold fsQ;have ac:∀L:List Nat,L.Nodup->(∀k∈L,k<I.vans)->((L.map λk=>zr I.n (col (I.n+k)).toNat).filter λs=>decide (s≠0)).Nodup:=by
   intro L;induction L with
   | nil=>intro _ _;exact ybQ
   | cons k L ih=>
    intro hn hl;have ab:=yaO.1 hn;have h1:=ih ab.2 λx hx=>hl x (by simp[hx]);rw[yE];by_cases h0:zr I.n (col (I.n+k)).toNat=0
    ·rw[yS (by simpa using h0)];exact h1
    rw[yQ (by simpa using h0)];refine yaO.2 ⟨λhm=>?_,h1⟩;obtain⟨h2,_⟩:=yag.1 hm;obtain⟨k',aa,e⟩:=yo.1 h2;have h3:=ziT e.symm h0;have h4:=zhk ht (by have:=hl k (by simp);omega) (by have:=hl k' (by simp[aa]);omega) h3;have:k=k':=by omega
    exact ab.1 (this▸aa)
  exact ac _ ybi λk hk=>by simpa using hk
 ·have:=zhk ht (by omega) (by omega) (ziT e h0);omega
 ·obtain⟨h0,k,hk,e⟩:=zhe.1 hm;have:=zhk ht (i:=s-1) (j:=I.n+k) (by omega) (by omega) (ziT e.symm h0);omega
 obtain⟨i,hi,e⟩:=zkD ht (j:=b-1) (by omega);have hb:zr I.n (col i).toNat=b:=by rw[e];exact zff ⟨h1,h2⟩
 by_cases h3:i<I.n
 ·exact .inr ⟨i+1,by omega,by omega,by unfold bhQ;simpa using hb⟩
 left;refine zhe.2 ⟨by omega,i-I.n,by omega,?_⟩;rw[show I.n+(i-I.n)=i by omega];exact hb
def zhX(I:Ins)(col:Nat->Int)(a b:Nat):Prop:=(a≠0/\b=bhQ I.n col a)\/(a=0/\b∈fsQ I.n I.vans col)
theorem znV{I:Ins}{col:Nat->Int}{a b:Nat}(ha:a<=I.n)(h:zhX I col a b):∃i,i<I.n+I.vans/\zr I.n i=a/\zr I.n (col i).toNat=b/\¬(a=0/\b=0):=by
 rcases h with ⟨h0,rfl⟩|⟨rfl,hm⟩
 ·exact⟨a-1,by omega,zff ⟨by omega,ha⟩,rfl,λe=>h0 e.1⟩
 obtain⟨h0,k,hk,e⟩:=zhe.1 hm;exact⟨I.n+k,by omega,zfB _ _,e,λe=>h0 e.2⟩
theorem zlt{I:Ins}{T:Nat->Nat->Int}{col u v:Nat->Int}{cost:Int}(ht:zdd (I.n+I.vans) (zX I T) col u v cost){a b:Nat}(ha:a<=I.n)(h:zhX I col a b):a≠b/\T a b≠2/\b<=I.n/\I.D a b≠-1:=by
 obtain⟨i,hi,h1,h2,h3⟩:=znV ha h;obtain⟨k,hk,_,ho⟩:=ht.tcol i hi;have e:(col i).toNat=k:=by rw[hk];rfl
 rw[e] at h2;unfold zX at ho;rw[h1,h2] at ho;rcases zfW ho with h4|⟨h4,h5,_,h6,_⟩
 ·exact absurd h4 h3
 have:=zcT I.n k;exact⟨h4,h5,by omega,h6⟩
theorem zqN{I:Ins}{T:Nat->Nat->Int}{col u v:Nat->Int}{cost:Int}(ht:zdd (I.n+I.vans) (zX I T) col u v cost){a b:Nat}(ha:a<=I.n)(hb:b<=I.n)(hab:a≠b)(h:T a b=1):zhX I col a b:=by
 have aa:∀x y c,feS I.n T x y=false->c<=I.n->¬zgL T x y c:=λx y c hf hc ac=>by have:=ya5.1 hf c (by simp;omega);exact this (by simpa using ac)
 by_cases h0:a=0
 ·right;subst h0;obtain⟨i,hi,e⟩:=zkD ht (j:=b-1) (by omega);have ab:zr I.n (col i).toNat=b:=by rw[e];exact zff ⟨by omega,hb⟩
  obtain⟨k,hk,_,ho⟩:=ht.tcol i hi;have ek:(col i).toNat=k:=by rw[hk];rfl
  unfold zX at ho;rw[<-ek,ab] at ho;by_cases h3:i<I.n
  ·exfalso;have hl:zr I.n i=i+1:=by unfold zr;rw[yg h3]
   rw[hl] at ho;rcases zfW ho with h4|⟨_,_,h5,_⟩
   ·omega
   exact aa _ _ 0 h5 (by omega) (.inr ⟨by omega,by omega,h⟩)
  refine⟨rfl,zhe.2 ⟨by omega,i-I.n,by omega,?_⟩⟩;rw[show I.n+(i-I.n)=i by omega];exact ab
 left;refine⟨h0,?_⟩;have hi:a-1<I.n+I.vans:=by omega
 obtain⟨k,hk,_,ho⟩:=ht.tcol (a-1) hi;have ek:(col (a-1)).toNat=k:=by rw[hk];rfl
 unfold zX at ho;rw[zff ⟨by omega,ha⟩] at ho;show b=zr I.n (col (a-1)).toNat;rw[ek];rcases zfW ho with h4|⟨_,_,h5,_⟩
 ·omega
 apply yV;intro ad;exact aa _ _ b h5 hb (.inl ⟨h0,ad,h⟩)
theorem zsS(f:Nat->Int)(n m:Nat):zQ f (List.range (n+m))=zQ f (List.range n)+zQ (λk=>f (n+k)) (List.range m):=by rw[ych,zd4,ziQ]
theorem zqj{I:Ins}{T:Nat->Nat->Int}{col u v:Nat->Int}{cost:Int}(ht:zdd (I.n+I.vans) (zX I T) col u v cost)(hp:zO I ((fsQ I.n I.vans col).map (rtQ (bhQ I.n col) 7)))(hd:∀f∈fsQ I.n I.vans col,∃d,zbC (bhQ I.n col) f d/\d.length<=7):zR I ((fsQ I.n I.vans col).map (rtQ (bhQ I.n col) 7))=cost:=by
 let bh:=bhQ I.n col;let fs:=fsQ I.n I.vans col;let g:Nat->Int:=λs=>I.D s (bh s);have ab:∀f∈fs,zbv (rtQ bh 7 f)=(0,f)::(rtQ bh 7 f).map λs=>(s,bh s):=λf hf=>by
  obtain⟨d,h1,h2⟩:=hd f hf;obtain⟨h3,h4⟩:=ziR h1 7 h2;unfold zbv;rw[<-h3];show (0,f)::(rtQ bh 7 f).zip d=_;congr 1;rw[<-h4];have:∀L:List Nat,L.zip (L.map bh)=L.map λs=>(s,bh s):=by
   intro L;induction L with
   | nil=>rfl
   | cons x L ih=>rw[yE,List.zip_cons_cons,ih];rfl
  exact this _
 have h1:∀L:List Nat,(∀f∈L,f∈fs)->zc2 I.D (zaE (L.map (rtQ bh 7)))=(L.map λf=>I.D 0 f).sum+((L.map (rtQ bh 7)).flatten.map g).sum:=by
  intro L;induction L with
  | nil=>intro _;rfl
  | cons f L ih=>intro h;have h2:=ih λx hx=>h x (by simp[hx]);unfold zaE zc2 at h2⊢;rw[yE,yE,yM,yL,yaZ,h2,ab f (h f (by simp))];simp only[yE,yZ,yM,yL,yaZ,yah];have e:((rtQ bh 7 f).map ((λp:Nat×Nat=>I.D p.1 p.2) ∘ λs=>(s,bh s)))=(rtQ bh 7 f).map g:=rfl;rw[e];omega
 have h2:((fs.map (rtQ bh 7)).flatten.map g).sum=zQ (λi=>g (i+1)) (List.range I.n):=by
  have e1:∀L:List Nat,(∀s∈L,1<=s)->(L.map g).sum=zQ (λi=>g (i+1)) (L.map (· - 1)):=by
   intro L;induction L with
   | nil=>intro _;rfl
   | cons s L ih=>intro h;have hs:=h s (by simp);simp only[yE,yZ,zQ];rw[ih λx hx=>h x (by simp[hx]),show s-1+1=s by omega]
  rw[e1 _ λs hs=>(hp.stops s hs).1];refine zgS _ I.n _ (zew hp.once λa ha b hb e=>?_) (λx hx=>?_) (by rw[yN];exact hp.count)
  ·have:=hp.stops a ha;have:=hp.stops b hb;omega
  obtain⟨s,hs,rfl⟩:=yo.1 hx;have:=hp.stops s hs;omega
 have aa:∀i,i<I.n+I.vans->zX I T i (col i).toNat=if zr I.n i=0/\zr I.n (col i).toNat=0 then 0 else I.D (zr I.n i) (zr I.n (col i).toNat):=λi hi=>by
  obtain⟨k,hk,_,ho⟩:=ht.tcol i hi;have ek:(col i).toNat=k:=by rw[hk];rfl
  rw[ek];unfold zX at ho⊢;rcases zfW ho with h4|⟨h4,_,_,_,h5⟩
  ·rw[yg h4];unfold zbZ;rw[yg h4]
  rw[h5,ye λe=>h4 (by rw[e.1,e.2])]
 have h3:zQ (λi=>zX I T i (col i).toNat) (List.range I.n)=zQ (λi=>g (i+1)) (List.range I.n):=zeN λi hi=>by
  have ac:i<I.n:=by simpa using hi
  have hl:zr I.n i=i+1:=by unfold zr;rw[yg ac]
  rw[aa i (by omega),hl,ye (by omega)];show _=I.D (i+1) (zr I.n (col (i+1-1)).toNat);rw[yab]
 have h4:zQ (λk=>zX I T (I.n+k) (col (I.n+k)).toNat) (List.range I.vans)=(fs.map λf=>I.D 0 f).sum:=by
  have ad:∀L:List Nat,(∀k∈L,k<I.vans)->zQ (λk=>zX I T (I.n+k) (col (I.n+k)).toNat) L=(((L.map λk=>zr I.n (col (I.n+k)).toNat).filter λs=>decide (s≠0)).map λf=>I.D 0 f).sum:=by
   intro L;induction L with
   | nil=>intro _;rfl
   | cons k L ih=>
    intro h;have hk:=h k (by simp);simp only[zQ];rw[ih λx hx=>h x (by simp[hx]),aa (I.n+k) (by omega),zfB,yE];by_cases h0:zr I.n (col (I.n+k)).toNat=0
    ·rw[yg ⟨rfl,h0⟩,yS (by simpa using h0)];omega
    rw[ye λe=>h0 e.2,yQ (by simpa using h0)];simp
  exact ad _ λk hk=>by simpa using hk
 show zc2 I.D (zaE (fs.map (rtQ bh 7)))=cost;rw[h1 fs λf h=>h,h2,ht.tcost,zsS,h3,h4];omega
inductive zab (n:Nat):zo->Prop
 | nil:zab n []
 | cons {a b:Nat} {s:Bool} {P:zo}:a<=n->b<=n->a≠b->zt P a b=0->zab n P->zab n (((a,b),s)::P)
theorem zeQ{n:Nat}{P:zo}(h:zab n P):∀{ab:Nat×Nat} {s:Bool},(ab,s)∈P->zt P ab.1 ab.2=(if s=true then 1 else 2)/\ab.1<=n/\ab.2<=n/\ab.1≠ab.2:=by
 induction h with
 | nil=>intro ab s hm;cases hm
 | @cons a b t P h1 h2 h3 h4 _ ih=>
  intro ab s hm;rcases yG.1 hm with e|e
  ·cases e;exact⟨zgl _ _ _ _,h1,h2,h3⟩
  obtain⟨k1,k2⟩:=ih e;refine⟨?_,k2⟩;have aa:¬(ab.1=a/\ab.2=b):=λe=>by rw[e.1,e.2,h4] at k1;cases s<;>simp at k1
  exact(zgr aa).trans k1
theorem zlu{n:Nat}{P:zo}(h:zab n P){a b:Nat}(h0:zt P a b=0):∀s,((a,b),s)∉P:=λs hm=>by have:=(zeQ h hm).1;simp only at this;rw[h0] at this;cases s<;>simp at this
theorem zhq{n:Nat}{P:zo}(h:zab n P)(a b:Nat):zt P a b=0\/zt P a b=1\/zt P a b=2:=by
 induction h with
 | nil=>exact .inl rfl
 | @cons a' b' t P h1 h2 h3 h4 _ ih=>
  by_cases e:a=a'/\b=b'
  ·rw[e.1,e.2];have:zt (((a',b'),t)::P) a' b'=if t=true then 1 else 2:=zgl _ _ _ _
   rw[this];cases t<;>simp
  have:zt (((a',b'),t)::P) a b=zt P a b:=zgr e;rw[this];exact ih
theorem zo5{n:Nat}{P:zo}(h:zab n P){a b:Nat}(h1:zt P a b=1):((a,b),true)∈P:=by
 induction h with
 | nil=>exact absurd h1 (show (0:Int)≠1 by omega)
 | @cons a' b' t P _ _ _ h4 _ ih=>
  by_cases e:a=a'/\b=b'
  ·rw[e.1,e.2] at h1⊢;have:zt (((a',b'),t)::P) a' b'=if t=true then 1 else 2:=zgl _ _ _ _
   rw[this] at h1;cases t with
   | true=>simp
   | false=>simp at h1
  have:zt (((a',b'),t)::P) a b=zt P a b:=zgr e;rw[this] at h1;exact yaf _ (ih h1)
theorem zjv{n:Nat}{P:zo}(h:zab n P):zab n (zad P):=by
 induction h with
 | nil=>exact .nil
 | @cons a b s P h1 h2 h3 h4 h5 ih=>
  show zab n (if s=true then ((a,b),false)::P else zad P);split
  ·exact .cons h1 h2 h3 h4 h5
  exact ih
theorem zjn{n:Nat}{P:zo}(h:zab n P):(P.map (·.1)).Nodup:=by
 induction h with
 | nil=>exact ybQ
 | @cons a b s P h1 h2 h3 h4 h5 ih=>rw[yE];refine yaO.2 ⟨λhm=>?_,ih⟩;obtain⟨p,hp,e⟩:=yo.1 hm;obtain⟨ab,t⟩:=p;simp only at e;subst e;exact zlu h5 h4 t hp
theorem zp8{α:Type}[DecidableEq α]:∀(L M:List α),L.Nodup->(∀x∈L,x∈M)->L.length<=M.length:=by
 intro L;induction L with
 | nil=>intro M _ _;simp
 | cons a L ih=>intro M hd h;have ha:a∈M:=h a (by simp);have aa:=yaO.1 hd;have h1:=ih (M.erase a) aa.2 (λx hx=>by have ab:x≠a:=λe=>aa.1 (e▸hx);exact(List.mem_erase_of_ne ab).2 (h x (by simp[hx])));rw[ybs ha] at h1;have:0<M.length:=List.length_pos_of_mem ha;simp;omega
def zj2:List Nat:=(List.range 64).filter λk=>decide (k/8≠k%8)
theorem zne:zj2.length=56:=by decide
theorem zdM{n:Nat}(hn:n<=7){P:zo}(h:zab n P):P.length<=56:=by
 have hr:∀p∈P,p.1.1<=n/\p.1.2<=n/\p.1.1≠p.1.2:=λp hp=>(zeQ h (ab:=p.1) (s:=p.2) hp).2;have h1:=zbk ((P.map (·.1)).map λq=>q.1*8+q.2) zj2 (by
  rw[yar,ya6];refine yba (λha hb aa e=>aa ?_) (yar.1 (zjn h));obtain⟨p,hp,rfl⟩:=yo.1 ha;obtain⟨q,hq,rfl⟩:=yo.1 hb;have h1:=hr p hp;have h2:=hr q hq;exact Prod.ext (by omega) (by omega)) (λx hx=>by
  obtain⟨q,hq,rfl⟩:=yo.1 hx;obtain⟨p,hp,rfl⟩:=yo.1 hq;have h1:=hr p hp;unfold zj2;refine yag.2 ⟨by simp;omega,?_⟩;simp only[yq];omega);rw[yN,yN,zne] at h1;exact h1
theorem znu{I:Ins}{P:zo}(h:zab I.n P){col u v:Nat->Int}{cost:Int}(ht:zdd (I.n+I.vans) (zX I (zt P)) col u v cost){a b:Nat}(ha:a<=I.n)(af:zhX I col a b)(h0:zt P a b=0):zA P+1<=I.n+I.vans:=by
 have h1:=zp8 ((a,b)::((P.filter (·.2)).map (·.1))) ((List.range (I.n+I.vans)).map λi=>(zr I.n i,zr I.n (col i).toNat)) (yaO.2 ⟨λhm=>by
   obtain⟨p,hp,e⟩:=yo.1 hm;obtain⟨aa,_⟩:=yag.1 hp;obtain⟨ab,t⟩:=p;simp only at e;subst e;exact zlu h h0 t aa,(List.Sublist.map _ List.filter_sublist).nodup (zjn h)⟩) (λx hx=>by
  have ad:∀c d,c<=I.n->zhX I col c d->(c,d)∈(List.range (I.n+I.vans)).map λi=>(zr I.n i,zr I.n (col i).toNat):=λc d hc ae=>by obtain⟨i,hi,e1,e2,_⟩:=znV hc ae;exact yo.2 ⟨i,by simpa using hi,by rw[e1,e2]⟩
  rcases yG.1 hx with e|e
  ·rw[e];exact ad a b ha af
  obtain⟨p,hp,rfl⟩:=yo.1 e;obtain⟨aa,ac⟩:=yag.1 hp;obtain⟨ab,t⟩:=p;simp only at ac;subst ac;obtain⟨k1,k2,k3,k4⟩:=zeQ h aa;exact ad ab.1 ab.2 k2 (zqN ht k2 k3 k4 (by simpa using k1)))
 simp only[yJ,yN,yaD] at h1;exact h1
def bqN:Nat->Nat->Nat
 | 0,_=>1
 | _+1,0=>1
 | d+1,f+1=>1+bqN d f+bqN d (f+1)
theorem zro(d f:Nat):1<=bqN d f:=by
 cases d with
 | zero=>exact yh _
 | succ d=>cases f with
  | zero=>exact yh _
  | succ f=>unfold bqN;omega
def zh1:zo->Nat
 | []=>0
 | p::P=>(if p.2=true then bqN (56-(P.length+1)) (10-zA P) else 0)+zh1 P
theorem zg0(p:(Nat×Nat)×Bool)(P:zo):zh1 (p::P)=(if p.2=true then bqN (56-(P.length+1)) (10-zA P) else 0)+zh1 P:=rfl
theorem zlx(d f:Nat):bqN (d+1) (f+1)=1+bqN d f+bqN d (f+1):=rfl
def zeR(P:zo):Nat:=bqN (56-P.length) (10-zA P)+zh1 P
theorem zox{P:zo}{ab:Nat×Nat}(h1:P.length<56)(h2:zA P<10):zeR ((ab,true)::P)+1=zeR P:=by
 have e1:zA ((ab,true)::P)=zA P+1:=by unfold zA;rw[yQ rfl];simp
 unfold zeR;rw[zg0,e1,yJ,yg rfl];obtain⟨d,hd⟩:∃d,56-P.length=d+1:=⟨55-P.length,by omega⟩
 obtain⟨f,hf⟩:∃f,10-zA P=f+1:=⟨9-zA P,by omega⟩
 rw[hd,hf,show 56-(P.length+1)=d by omega,show 10-(zA P+1)=f by omega,zlx];omega
theorem zqe:∀(P:zo),0<zA P->zeR (zad P)<=zh1 P:=by
 intro P;induction P with
 | nil=>intro h;cases h
 | cons p P ih=>
  intro h;rw[zg0];unfold zad;by_cases hp:p.2=true
  ·rw[yg hp,yg hp];unfold zeR;rw[zg0];have e1:zA ((p.1,false)::P)=zA P:=by unfold zA;rw[yS (by simp)]
   rw[e1,yJ,ye (by simp)];omega
  rw[ye hp,ye hp];have e1:zA (p::P)=zA P:=by unfold zA;rw[yS hp]
  rw[e1] at h;have:=ih h;omega
theorem zpA:∀(P:zo),zA P=0->zad P=[]:=by
 intro P;induction P with
 | nil=>intro _;rfl
 | cons p P ih=>
  intro h;unfold zad;by_cases hp:p.2=true
  ·unfold zA at h;rw[yQ hp] at h;simp at h
  rw[ye hp];refine ih ?_;unfold zA at h⊢;rwa[yS hp] at h
end Go.Proofs.YtebinaopncclgabGreatDoor
