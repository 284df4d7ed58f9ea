import Derived.Test.YtebinaopncclgabGreatDoorLPlain
import Derived.Test.YtebinaopncclgabGreatDoorRHope
import Derived.Laws.CopyOwn
set_option maxRecDepth 100000
set_option maxHeartbeats 8000000
namespace Go.Proofs.YtebinaopncclgabGreatDoor
def zS(ρ:List Nat):Nat:=ρ.foldl (λs k=>zg2 s (k-1)) 0
theorem zhz(ρ:List Nat)(k:Nat):zS (ρ++[k])=zg2 (zS ρ) (k-1):=by simp[zS]
theorem zk1{P:List Nat->Prop}(h0:P [])(h1:∀l c,P l->P (l++[c]))(l:List Nat):P l:=by
 have aa:∀m:List Nat,P m.reverse:=by
  intro m;induction m with
  | nil=>exact h0
  | cons c m ih=>rw[List.reverse_cons];exact h1 _ c ih
 have:=aa l.reverse;rwa[List.reverse_reverse] at this
theorem zdI{ρ:List Nat}:(∀s∈ρ,1<=s)->∀i,(zS ρ).testBit i=true↔i+1∈ρ:=by
 induction ρ using zk1 with
 | h0=>intro _ i;simp[zS]
 | h1 l c ih=>
  intro h i;have hc:=h c (by simp);rw[zhz,zuE,yb5,ih (λs hs=>h s (by simp[hs])),yH,yaj,yq];constructor
  ·rintro (h1|h1)
   ·exact .inl h1
   exact .inr (by omega)
  rintro (h1|h1)
  ·exact .inl h1
  exact .inr (by omega)
theorem zu6{n:Nat}{ρ:List Nat}:(∀s∈ρ,1<=s/\s<=n)->zS ρ<2^n:=by
 induction ρ using zk1 with
 | h0=>intro _;simp[zS];exact Nat.pos_of_ne_zero (by simp)
 | h1 l c ih=>intro h;have hc:=h c (by simp);rw[zhz];exact zqI (ih λs hs=>h s (by simp[hs])) (by omega)
theorem zlP{ρ:List Nat}(h:∀s∈ρ,1<=s):zS ρ=0↔ρ=[]:=by
 constructor
 ·intro e;cases ρ with
  | nil=>rfl
  | cons a l=>have h1:=h a (by simp);have h2:=(zdI h (a-1)).2 (by rw[show a-1+1=a by omega];simp);rw[e] at h2;simp at h2
 intro e;rw[e];rfl
structure GoQ (I:Ins) (l:List Nat):Prop where
 load:zbn I l<=I.load
 way:∀p∈nbr l,I.D p.1 p.2≠-1
 time:zd7 I l=true
structure RtQ (I:Ins) (ρ:List Nat):Prop where
 rng:∀s∈ρ,1<=s/\s<=I.n
 one:ρ.Nodup
 load:zbn I ρ<=I.load
 way:∀p∈zbv ρ,I.D p.1 p.2≠-1
 time:zcd I 0 0 (ρ++[0])=true
def zck(I:Ins)(ρ:List Nat):Int:=zc2 I.D (zbv ρ)
theorem zgY{I:Ins}(hI:zbu I)(l:List Nat):zd7 I (0::l)=zcd I 0 0 l:=by
 show (match zaG I 0 0 with|none=>false|some t=>zcd I t 0 l)=_;have:zaG I 0 0=some 0:=by unfold zaG;rw[yg rfl,yg hI.close]
 rw[this]
theorem zkX(I:Ins)(l:List Nat):zbn I (0::l)=zbn I l:=by simp[zbn]
theorem zu2{I:Ins}(hI:zbu I){ρ:List Nat}(hr:∀s∈ρ,1<=s/\s<=I.n)(hn:ρ.Nodup):GoQ I (0::(ρ++[0]))↔RtQ I ρ:=by
 have h0:zbn I (0::(ρ++[0]))=zbn I ρ:=by rw[zkX,zcb];simp[zbn]
 constructor
 ·intro h;exact⟨hr,hn,by have:=h.load;rw[h0] at this;exact this,λp hp=>h.way p (by rw[<-zcc];exact hp),by rw[<-zgY hI];exact h.time⟩
 intro h;exact⟨by rw[h0];exact h.load,λp hp=>h.way p (by rw[zcc];exact hp),by rw[zgY hI];exact h.time⟩
theorem zvI{I:Ins}(hI:zbu I){ρ σ:List Nat}{k:Nat}(h:RtQ I (ρ++k::σ)):GoQ I (0::(ρ++[k])):=by
 have e:ρ++k::σ=(ρ++[k])++σ:=by simp
 refine⟨?_,λp hp=>?_,?_⟩
 ·have h1:=h.load;have h2:=zi3 hI σ λs hs=>(h.rng s (by simp[hs])).2;rw[e,zcb] at h1;rw[zkX];omega
 ·refine h.way p ?_;rw[zcc,e];have:=znO [] (0::(ρ++[k])) (σ++[0]) hp;simpa using this
 rw[zgY hI];have h1:=h.time;rw[e,yaa] at h1;exact znJ _ _ h1
theorem zjQ{I:Ins}(hI:zbu I){ρ:List Nat}(h:RtQ I ρ):0<=zck I ρ:=by
 have aa:∀A:List (Nat×Nat),(∀p∈A,0<=I.D p.1 p.2)->0<=zc2 I.D A:=by
  intro A;induction A with
  | nil=>intro _;simp[zc2]
  | cons a A ih=>intro hA;have h1:=ih λp hp=>hA p (by simp[hp]);have h2:=hA a (by simp);show 0<=((a::A).map λp=>I.D p.1 p.2).sum;rw[yE,yZ];have h3:zc2 I.D A=(A.map λp=>I.D p.1 p.2).sum:=rfl;omega
 refine aa _ λp hp=>?_;have h1:=h.way p hp;have ha:p.1∈(zbv ρ).map (·.1):=yo.2 ⟨p,hp,rfl⟩;have hb:p.2∈(zbv ρ).map (·.2):=yo.2 ⟨p,hp,rfl⟩;rw[zgQ] at ha;rw[ziH] at hb;have h2:p.1<=I.n:=by
  rcases yG.1 ha with e|e
  ·omega
  exact(h.rng _ e).2
 have h3:p.2<=I.n:=by
  rcases yH.1 hb with e|e
  ·exact(h.rng _ e).2
  simp at e;omega
 have h4:=hI.D p.1 p.2 h2 h3;omega
structure zci (I:Ins) (ρ:List Nat) (Q:List Nat->Prop) (T T':Nat->Int):Prop where
 old:∀s,T s≠-1->T' s≠-1/\T' s<=T s
 src:∀s,T' s=T s\/∃σ,RtQ I (ρ++σ)/\ρ++σ≠[]/\zS (ρ++σ)=s/\T' s=zck I (ρ++σ)
 new:∀σ,Q σ->RtQ I (ρ++σ)->ρ++σ≠[]->T' (zS (ρ++σ))≠-1/\T' (zS (ρ++σ))<=zck I (ρ++σ)
def zdm(k:Nat)(σ:List Nat):Prop:=σ=[]\/∃h t,σ=h::t/\h<k
theorem znS{I:Ins}{ρ:List Nat}{k:Nat}{T T':Nat->Int}(h:zci I ρ (zdm k) T T')(hk:∀t,¬RtQ I (ρ++k::t)):zci I ρ (zdm (k+1)) T T':=by
 refine⟨h.old,h.src,λσ hQ hr hne=>?_⟩;rcases hQ with e|⟨a,t,e,ha⟩
 ·exact h.new σ (.inl e) hr hne
 by_cases aa:a=k
 ·rw[e,aa] at hr;exact absurd hr (hk t)
 exact h.new σ (.inr ⟨a,t,e,by omega⟩) hr hne
theorem zpC{I:Ins}{ρ:List Nat}{k:Nat}{T T1 T2:Nat->Int}(h:zci I ρ (zdm k) T T1)(h2:zci I (ρ++[k]) (λ_=>True) T1 T2):zci I ρ (zdm (k+1)) T T2:=by
 have aa:∀s,T1 s≠-1->T2 s≠-1/\T2 s<=T1 s:=h2.old;refine⟨λs hs=>?_,λs=>?_,λσ hQ hr hne=>?_⟩
 ·have h3:=h.old s hs;have h4:=aa s h3.1;exact⟨h4.1,by omega⟩
 ·rcases h2.src s with e|⟨σ,k1,k2,k3,k4⟩
  ·rcases h.src s with e1|⟨σ,k1,k2,k3,k4⟩
   ·exact .inl (e.trans e1)
   exact .inr ⟨σ,k1,k2,k3,e.trans k4⟩
  rw[yaa] at k1 k2 k3 k4;exact .inr ⟨[k]++σ,k1,k2,k3,k4⟩
 have hold:∀σ,zdm k σ->RtQ I (ρ++σ)->ρ++σ≠[]->T2 (zS (ρ++σ))≠-1/\T2 (zS (ρ++σ))<=zck I (ρ++σ):=λσ hQ hr hne=>by have h3:=h.new σ hQ hr hne;have h4:=aa _ h3.1;exact⟨h4.1,by omega⟩
 rcases hQ with e|⟨a,t,e,ha⟩
 ·exact hold σ (.inl e) hr hne
 by_cases ab:a=k
 ·have e2:ρ++σ=ρ++[k]++t:=by rw[e,ab];simp
  rw[e2] at hr hne⊢;exact h2.new t trivial hr hne
 exact hold σ (.inr ⟨a,t,e,by omega⟩) hr hne
theorem zmq{I:Ins}{ρ:List Nat}{T T':Nat->Int}(h:zci I ρ (zdm (I.n+1)) T T'):zci I ρ (λ_=>True) T T':=by
 refine⟨h.old,h.src,λσ _ hr hne=>h.new σ ?_ hr hne⟩;cases σ with
 | nil=>exact .inl rfl
 | cons a t=>exact .inr ⟨a,t,rfl,by have:=(hr.rng a (by simp)).2;omega⟩
def zcM(a b:Int):Int:=if a=-1\/(b≠-1/\b<a) then b else a
theorem zui{I:Ins}(hI:zbu I){ρ:List Nat}{T:Nat->Int}(aa:ρ≠[])(h:RtQ I ρ):zci I ρ (zdm 1) T (up1 T (zS ρ) (zcM (T (zS ρ)) (zck I ρ))):=by
 have hp:=zjQ hI h;have hl:zcM (T (zS ρ)) (zck I ρ)≠-1/\zcM (T (zS ρ)) (zck I ρ)<=zck I ρ/\(T (zS ρ)≠-1->zcM (T (zS ρ)) (zck I ρ)<=T (zS ρ))/\(zcM (T (zS ρ)) (zck I ρ)=T (zS ρ)\/zcM (T (zS ρ)) (zck I ρ)=zck I ρ):=by
  unfold zcM;by_cases c:T (zS ρ)=-1\/(zck I ρ≠-1/\zck I ρ<T (zS ρ))
  ·rw[yg c];exact⟨by omega,yaB _,by omega,.inr rfl⟩
  rw[ye c];exact⟨by omega,by omega,by omega,.inl rfl⟩
 refine⟨λs hs=>?_,λs=>?_,λσ hQ hr hn=>?_⟩
 ·unfold up1;by_cases e:s=zS ρ
  ·rw[yg e];rw[e] at hs⊢;exact⟨hl.1,hl.2.2.1 hs⟩
  rw[ye e];exact⟨hs,yaB _⟩
 ·unfold up1;by_cases e:s=zS ρ
  ·rw[yg e];rcases hl.2.2.2 with c|c
   ·exact .inl (by rw[c,e])
   exact .inr ⟨[],by rw[yY];exact h,by rw[yY];exact aa,by rw[yY];exact e.symm,by rw[yY];exact c⟩
  rw[ye e];exact .inl rfl
 have e:σ=[]:=by
  rcases hQ with e|⟨a,t,e,ha⟩
  ·exact e
  have h1:1<=a:=(hr.rng a (by simp[e])).1;omega
 rw[e,yY];unfold up1;rw[yg rfl];exact⟨hl.1,hl.2.1⟩
theorem znH{I:Ins}{ρ:List Nat}{T:Nat->Int}(h:ρ=[]\/¬RtQ I ρ):zci I ρ (zdm 1) T T:=by
 refine⟨λs hs=>⟨hs,yaB _⟩,λs=>.inl rfl,λσ hQ hr hn=>?_⟩;have e:σ=[]:=by
  rcases hQ with e|⟨a,t,e,ha⟩
  ·exact e
  have h1:1<=a:=(hr.rng a (by simp[e])).1;omega
 rw[e,yY] at hr hn;rcases h with h|h
 ·exact absurd h hn
 exact absurd hr h
structure zjX (I:Ins) (T:Nat->Int):Prop where
 src:∀s,s≠0->T s≠-1->∃ρ,RtQ I ρ/\ρ≠[]/\zS ρ=s/\T s=zck I ρ
 new:∀ρ,RtQ I ρ->ρ≠[]->T (zS ρ)≠-1/\T (zS ρ)<=zck I ρ
theorem zsB{I:Ins}{T:Nat->Int}(h:zci I [] (λ_=>True) (λs=>if s=0 then 0 else -1) T):zjX I T:=by
 refine⟨λs hs ht=>?_,λρ hr hne=>?_⟩
 ·rcases h.src s with e|⟨σ,k1,k2,k3,k4⟩
  ·rw[ye hs] at e;exact absurd e ht
  exact⟨σ,by simpa using k1,by simpa using k2,by simpa using k3,by simpa using k4⟩
 exact h.new ρ trivial (by simpa using hr) (by simpa using hne)
structure zeT (I:Ins) (s v:Nat) (R:List (List Nat)):Prop where
 few:R.length<=v
 ok:∀ρ∈R,ρ≠[]/\RtQ I ρ
 one:R.flatten.Nodup
 bits:∀i,s.testBit i=true↔i+1∈R.flatten
def zfm(I:Ins)(s v:Nat)(c:Int):Prop:=(c=-1/\∀R,¬zeT I s v R)\/(c≠-1/\(∃R,zeT I s v R/\zR I R=c)/\∀R,zeT I s v R->c<=zR I R)
theorem zkP(I:Ins)(ρ:List Nat)(R:List (List Nat)):zR I (ρ::R)=zck I ρ+zR I R:=by unfold zR zck zc2 zaE;rw[yE,yM,yL,List.sum_append]
theorem zsZ{α:Type}(f:α->Int){a b:List α}(h:a.Perm b):(a.map f).sum=(b.map f).sum:=by
 induction h with
 | nil=>rfl
 | cons x _ ih=>rw[yE,yE,yZ,yZ,ih]
 | swap x y l=>simp only[yE,yZ];omega
 | trans _ _ ih1 ih2=>rw[ih1,ih2]
theorem zgF(I:Ins):∀R:List (List Nat),zR I R=(R.map (zck I)).sum:=by
 intro R;induction R with
 | nil=>rfl
 | cons ρ R ih=>rw[zkP,ih,yE,yZ]
theorem zid{I:Ins}(hI:zbu I){R:List (List Nat)}(h:∀ρ∈R,RtQ I ρ):0<=zR I R:=by
 rw[zgF];induction R with
 | nil=>simp
 | cons ρ R ih=>have h1:=ih λx hx=>h x (by simp[hx]);have h2:=zjQ hI (h ρ (by simp));rw[yE,yZ];omega
theorem zlV{I:Ins}{v:Nat}:zfm I 0 v 0:=by
 refine .inr ⟨by omega,⟨[],⟨by simp,λρ h=>absurd h (by simp),by simp,λi=>by simp⟩,rfl⟩,λR hR=>?_⟩;have:R=[]:=by
  cases R with
  | nil=>rfl
  | cons ρ R=>
   obtain⟨aa,hr⟩:=hR.ok ρ (by simp);obtain⟨a,l,rfl⟩:∃a l,ρ=a::l:=by
    cases ρ with
    | nil=>exact absurd rfl aa
    | cons a l=>exact⟨a,l,rfl⟩
   have h1:=(hr.rng a (by simp)).1;have h2:=(hR.bits (a-1)).2 (by rw[show a-1+1=a by omega];simp);simp at h2
 rw[this];exact yaB _
theorem ztB{I:Ins}{s:Nat}(hs:s≠0):zfm I s 0 (-1):=by
 refine .inl ⟨rfl,λR hR=>hs ?_⟩;have hf:=hR.few;have:R=[]:=yaK (by omega);subst this;apply ybJ;intro i;have:=hR.bits i;cases h:s.testBit i with
 | false=>simp
 | true=>rw[h] at this;simp at this
theorem zvJ{ρ:List Nat}{s:Nat}(hr:∀x∈ρ,1<=x)(h:∀x∈ρ,s.testBit (x-1)=true):zS ρ&&&s=zS ρ:=by
 apply ybJ;intro i;rw[yb6];cases hb:(zS ρ).testBit i with
 | false=>rfl
 | true=>have:=(zdI hr i).1 hb;have h2:=h (i+1) this;rw[yab] at h2;rw[h2];rfl
theorem zf3{I:Ins}{s v:Nat}{R:List (List Nat)}{ρ:List Nat}(h:zeT I s (v+1) R)(hm:ρ∈R):zS ρ&&&s=zS ρ/\zeT I (s^^^zS ρ) v (R.erase ρ)/\zR I R=zck I ρ+zR I (R.erase ρ):=by
 have hp:=List.perm_cons_erase hm;have hr:=(h.ok ρ hm).2;have h1:∀x∈ρ,1<=x:=λx hx=>(hr.rng x hx).1;have aa:∀x,x∈R.flatten↔x∈ρ\/x∈(R.erase ρ).flatten:=λx=>by rw[(hp.flatten).mem_iff,yM,yH]
 have ae:(ρ++(R.erase ρ).flatten).Nodup:=by have:=(hp.flatten).nodup_iff.1 h.one;rwa[yM] at this
 have ab:∀x,x∈ρ->x∉(R.erase ρ).flatten:=λx hx hy=>(ya7.1 ae).2.2 x hx x hy rfl;have ac:zS ρ&&&s=zS ρ:=zvJ h1 λx hx=>(h.bits (x-1)).2 (by rw[show x-1+1=x by have:=h1 x hx;omega];exact(aa x).2 (.inl hx));refine⟨ac,⟨?_,λσ hσ=>h.ok σ (List.mem_of_mem_erase hσ),(ya7.1 ae).2.1,λi=>?_⟩,?_⟩
 ·have:=h.few;rw[ybs hm];omega
 ·rw[yb7];have h2:=zdI h1 i;have h3:=h.bits i;have h4:=aa (i+1);cases hb:(zS ρ).testBit i with
  | false=>
   rw[Bool.xor_false,h3,h4];have:i+1∉ρ:=λhh=>by have:=h2.2 hh;rw[hb] at this;cases this
   exact⟨λh=>h.elim (λh=>absurd h this) id,.inr⟩
  | true=>
   have ad:=h2.1 hb;have h5:s.testBit i=true:=h3.2 (h4.2 (.inl ad));rw[h5];constructor
   ·intro h;cases h
   intro h;exact absurd h (ab _ ad)
 rw[zgF,zgF,zsZ (zck I) hp,yE,yZ]
theorem zub{I:Ins}{s v:Nat}{R:List (List Nat)}{ρ:List Nat}(hr:RtQ I ρ)(ab:ρ≠[])(hs:zS ρ&&&s=zS ρ)(h:zeT I (s^^^zS ρ) v R):zeT I s (v+1) (ρ::R):=by
 have h1:∀x∈ρ,1<=x:=λx hx=>(hr.rng x hx).1;have aa:∀i,(zS ρ).testBit i=true->s.testBit i=true:=λi hb=>by rw[<-hs,yb6] at hb;exact(Bool.and_eq_true_iff.1 hb).2
 refine⟨by have:=h.few;simp;omega,λσ hσ=>?_,?_,λi=>?_⟩
 ·rcases yG.1 hσ with e|e
  ·rw[e];exact⟨ab,hr⟩
  exact h.ok σ e
 ·rw[yM];refine ya7.2 ⟨hr.one,h.one,λx hx y hy e=>?_⟩;subst e;have hx1:=h1 x hx;have h2:=(h.bits (x-1)).2 (by rw[show x-1+1=x by omega];exact hy);rw[yb7] at h2;have h3:=(zdI h1 (x-1)).2 (by rw[show x-1+1=x by omega];exact hx);rw[h3,aa _ h3] at h2;cases h2
 rw[yM,yH,<-zdI h1 i,<-h.bits i,yb7];cases hb:(zS ρ).testBit i with
 | false=>simp
 | true=>rw[aa i hb];simp
structure zep (I:Ins) (s v j:Nat) (best:Int) (p:Nat):Prop where
 least:∀R ρ,zeT I s (v+1) R->ρ∈R->j+1∈ρ->p<zS ρ->best≠-1/\best<=zR I R
 some_:best≠-1->∃R,zeT I s (v+1) R/\zR I R=best
theorem zo0{I:Ins}{s v j:Nat}:zep I s v j (-1) s:=by
 refine⟨λR ρ h hm _ hlt=>?_,λh=>absurd rfl h⟩;have h1:=(zf3 h hm).1;have h2:zS ρ<=s:=by rw[<-h1];exact yb0
 omega
def zlh(s p p':Nat):Prop:=∀q,q&&&s=q->q<p->q<=p'
theorem zkW{I:Ins}{T:Nat->Int}(hT:zjX I T){s v j p p':Nat}{best:Int}(h:zep I s v j best p)(hn:zlh s p p')(hp:p.testBit j=false\/T p=-1):zep I s v j best p':=by
 refine⟨λR ρ hR hm hj hlt=>?_,h.some_⟩;have h1:=(zf3 hR hm).1;by_cases ab:p<zS ρ
 ·exact h.least R ρ hR hm hj ab
 by_cases e:zS ρ=p
 ·obtain⟨aa,hr⟩:=hR.ok ρ hm;rcases hp with hp|hp
  ·have:=(zdI (λx hx=>(hr.rng x hx).1) j).2 hj;rw[e,hp] at this;cases this
  have:=(hT.new ρ hr aa).1;rw[e] at this;exact absurd hp this
 have:=hn (zS ρ) h1 (by omega);omega
theorem zqz{I:Ins}{s v j p p':Nat}{best:Int}(h:zep I s v j best p)(hn:zlh s p p')(hc:zfm I (s^^^p) v (-1)):zep I s v j best p':=by
 refine⟨λR ρ hR hm hj hlt=>?_,h.some_⟩;obtain⟨h1,h2,_⟩:=zf3 hR hm;by_cases aa:p<zS ρ
 ·exact h.least R ρ hR hm hj aa
 by_cases e:zS ρ=p
 ·rw[e] at h2;rcases hc with ⟨_,hc⟩|⟨hc,_⟩
  ·exact absurd h2 (hc _)
  exact absurd rfl hc
 have:=hn (zS ρ) h1 (by omega);omega
theorem zsJ{I:Ins}(hI:zbu I){T:Nat->Int}(hT:zjX I T){s v j p p':Nat}{best rest:Int}(h:zep I s v j best p)(hn:zlh s p p')(hp:p&&&s=p)(h0:p≠0)(ht:T p≠-1)(hr:rest≠-1)(hc:zfm I (s^^^p) v rest):zep I s v j (zcM best (rest+T p)) p'/\0<=rest/\0<=T p:=by
 rcases hc with ⟨e,_⟩|⟨_,⟨R0,ab,ac⟩,aa⟩
 ·exact absurd e hr
 obtain⟨ρ0,k1,k2,k3,k4⟩:=hT.src p h0 ht;have ah:0<=rest:=by rw[<-ac];exact zid hI λρ hρ=>(ab.ok ρ hρ).2
 have aj:0<=T p:=by rw[k4];exact zjQ hI k1
 have ae:zeT I s (v+1) (ρ0::R0):=zub k1 k2 (by rw[k3];exact hp) (by rw[k3];exact ab);have ad:zR I (ρ0::R0)=rest+T p:=by rw[zkP,ac,k4];omega
 have hl:zcM best (rest+T p)≠-1/\zcM best (rest+T p)<=rest+T p/\(best≠-1->zcM best (rest+T p)<=best)/\(zcM best (rest+T p)=best\/zcM best (rest+T p)=rest+T p):=by
  unfold zcM;by_cases c:best=-1\/(rest+T p≠-1/\rest+T p<best)
  ·rw[yg c];exact⟨by omega,yaB _,by omega,.inr rfl⟩
  rw[ye c];exact⟨by omega,by omega,by omega,.inl rfl⟩
 refine⟨⟨λR ρ hR hm hj hlt=>⟨hl.1,?_⟩,λ_=>?_⟩,ah,aj⟩
 ·obtain⟨h1,h2,h3⟩:=zf3 hR hm;by_cases ag:p<zS ρ
  ·have h4:=h.least R ρ hR hm hj ag;have h5:=hl.2.2.1 h4.1;omega
  by_cases e:zS ρ=p
  ·obtain⟨af,ai⟩:=hR.ok ρ hm;rw[e] at h2;have h4:=aa _ h2;have h5:=(hT.new ρ ai af).2;rw[e] at h5;omega
  have:=hn (zS ρ) h1 (by omega);omega
 rcases hl.2.2.2 with e|e
 ·by_cases hb:best=-1
  ·rw[e] at hl;exact absurd hb hl.1
  rw[e];exact h.some_ hb
 rw[e];exact⟨_,ae,ad⟩
theorem ztE{I:Ins}{s v j:Nat}{best:Int}(h:zep I s v j best 0)(hj:s.testBit j=true):zfm I s (v+1) best:=by
 have aa:∀R,zeT I s (v+1) R->best≠-1/\best<=zR I R:=λR hR=>by have h1:=(hR.bits j).1 hj;obtain⟨ρ,hρ,ab⟩:=y8.1 h1;obtain⟨ac,hr⟩:=hR.ok ρ hρ;have h2:zS ρ≠0:=λe=>ac ((zlP λx hx=>(hr.rng x hx).1).1 e);exact h.least R ρ hR hρ ab (by omega)
 by_cases hb:best=-1
 ·exact .inl ⟨hb,λR hR=>(aa R hR).1 hb⟩
 exact .inr ⟨hb,h.some_ hb,λR hR=>(aa R hR).2⟩
theorem zg9{I:Ins}{R:List (List Nat)}:zeT I (2^I.n-1) I.vans R↔zO I R:=by
 have hb:∀i,(2^I.n-1).testBit i=true↔i<I.n:=λi=>by rw[Nat.testBit_two_pow_sub_one,yq]
 constructor
 ·intro h;refine⟨h.few,λρ hρ=>(h.ok ρ hρ).1,λs hs=>?_,h.one,λs h1 h2=>?_,λρ hρ=>(h.ok ρ hρ).2.load,λp hp=>?_,λρ hρ=>(h.ok ρ hρ).2.time⟩
  ·obtain⟨ρ,hρ,hm⟩:=y8.1 hs;exact(h.ok ρ hρ).2.rng s hm
  ·have:=(h.bits (s-1)).1 ((hb _).2 (by omega));rwa[show s-1+1=s by omega] at this
  obtain⟨l,hl,hm⟩:=y8.1 hp;obtain⟨ρ,hρ,rfl⟩:=yo.1 hl;exact(h.ok ρ hρ).2.way p hm
 intro h;refine⟨h.few,λρ hρ=>⟨h.ne ρ hρ,λs hs=>h.stops s (y8.2 ⟨ρ,hρ,hs⟩),zgZ h.once hρ,h.load ρ hρ,λp hp=>h.way p (y8.2 ⟨_,yo.2 ⟨ρ,hρ,rfl⟩,hp⟩),h.time ρ hρ⟩,h.once,λi=>?_⟩;rw[hb];exact⟨λhi=>h.all (i+1) (by omega) (by omega),λhm=>by have:=(h.stops _ hm).2;omega⟩
open Go.RowKit Go.IntWalk
theorem zv7{r:Rd}{D:Nat->Nat->Int}{zs:List Int}(hz:∀x∈zs,0<=x)(S:List Int):GoQ (zb r D) (zs.map Int.toNat)↔(zH r zs=true/\zT D zs=true/\(zay r D zs S).isSome=true):=by
 have e:=znZ hz;have h1:z7 r zs=zbn (zb r D) (zs.map Int.toNat):=by rw[<-zjL,e]
 have h2:zT D zs=true↔∀p∈nbr (zs.map Int.toNat),D p.1 p.2≠-1:=by rw[<-zjH,e]
 have h3:(zay r D zs S).isSome=zd7 (zb r D) (zs.map Int.toNat):=by rw[<-zmy,e]
 have h4:zH r zs=true↔zbn (zb r D) (zs.map Int.toNat)<=(zb r D).load:=by unfold zH;rw[h1,ybd];rfl
 rw[h3,h4,h2];exact⟨λh=>⟨h.load,h.way,h.time⟩,λh=>⟨h.1,h.2.1,h.2.2⟩⟩
open Classical in
theorem zsC(r:Rd)(vs vr vw:Value)(gi ci:Nat)(zs:List Int)(w:World)(ae:zE r)(hs:StR w vs r)(hq:SqR w vw (r.stops.length+1) (za r))(hl:zs.length<=20)(ay:0<zs.length)(af:gi<w.heap.size)(ad:∀j (hj:j<zs.length),w.cell? ⟨gi,j,none⟩=some (.int .i64 zs[j]))(hx:∀x∈zs,0<=x/\x<(r.stops.length:Int)+1)(ag:∃ao n c,vr=.slice ao n c):Calls Tryz.prog 218 #[.agg (zi r vs vr vw),.slice (some ⟨gi,0,none⟩) zs.length ci] w λe w'=>e=.returned (.bool (decide (GoQ (zb r (za r)) (zs.map Int.toNat))))/\Below w.heap.size w w':=by
 have HW:Hid (∀W,Below w.heap.size w W->Calls Tryz.prog 173 #[.agg (zi r vs vr vw),.slice (some ⟨gi,0,none⟩) zs.length ci] W λe w'=>e=.returned (.int .i64 (z7 r zs))/\Below W.heap.size W w'):=λW hW=>by obtain⟨a2,c2,aA,_⟩:=hq;exact zhL r zs vs vr vw gi ci W ae (hs.below hW) (ya af hW.size) (λj hj=>zc hW (ad j hj) af) (by omega) hx ag ⟨_,_,_,aA⟩
 have HL:Hid (∀W,Below w.heap.size w W->Calls Tryz.prog 109 #[.agg (zi r vs vr vw),.slice (some ⟨gi,0,none⟩) zs.length ci] W λe w'=>e=.returned (.int .i64 (zbo (za r) zs))/\Below W.heap.size W w'):=λW hW=>by obtain⟨a2,c2,az,_⟩:=hs;exact ze1 r (za r) zs vs vr vw gi ci W (hq.below hW) (zaB ae) (ya af hW.size) (λj hj=>zc hW (ad j hj) af) (by omega) hx ⟨_,_,_,az⟩ ag
 have ai:Hid (∀W,Below w.heap.size w W->Calls Tryz.prog 110 #[.agg (zi r vs vr vw),.slice (some ⟨gi,0,none⟩) zs.length ci,.int .i64 ((zs.length-1:Nat):Int)] W λe w'=>e=.returned (.tuple #[.int .i64 (zaj r (za r) zs (zs.length-1)).1,.bool (zaj r (za r) zs (zs.length-1)).2])/\Below W.heap.size W w'):=λW hW=>zgx r (za r) zs vs vr vw gi ci w ae hs hq (zaB ae) af ad (by omega) hx ag (zs.length-1) (by omega) W hW;have ap:=hid (zv7 (r:=r) (D:=za r) (λx aB=>(hx x aB).1) []);have al:=hid (zka (r:=r) (D:=za r) [] ae hx ay);have aq:Hid (zH r zs=decide (z7 r zs<=r.load)):=rfl;have ar:Hid ((zbo (za r) zs=-1↔zT (za r) zs=false)):=zjI (zaB ae) hx;have hLW:=zaH.1 ae.head;obtain⟨W,hW⟩:∃W,W=w.alloc (.cells (zi r vs vr vw) 109):=⟨_,rfl⟩
 obtain⟨au,an,k0,k1,k2,k3,k4,k5,k6,k7⟩:=za1 hW;have ak:=hid au;have ax:=hid hW;obtain⟨a1,n1,c1,rfl⟩:=ag;obtain⟨a2,c2,rfl,_⟩:=hq;obtain⟨a3,c3,rfl,_⟩:=hs;generalize z7 r zs=wt at*;generalize zbo (za r) zs=ln at*;generalize zaj r (za r) zs (zs.length-1)=bg at*;obtain⟨bt,bl⟩:=bg;dsimp only at ai al;have aj:Hid (∀b:Bool,(b=true↔(wt<=r.load/\ln≠-1/\bl=false))->b=decide (GoQ (zb r (za r)) (zs.map Int.toNat))):=λb h=>by
  rw[yW,h,yq,ap.out,aq.out,al.out,yq];have:=ar.out;constructor
  ·rintro⟨h1,h2,h3⟩;exact⟨h1,by cases hw:zT (za r) zs with|true=>rfl|false=>exact absurd (this.2 hw) h2,by rw[h3];rfl⟩
  rintro⟨h1,h2,h3⟩;exact⟨h1,λe=>(by have:=this.1 e;rw[h2] at this;cases this),by simpa using h3⟩
 clear au ad hx ae ap al aq ar;unfold zi at*;go_in;have lb:=an;have av:((zs.length-1:Nat):Int)=(zs.length:Int)-1:=by omega
 rw[av] at ai;have hwz:IntKind.i64.wrap ((zs.length:Int)-1)=(zs.length:Int)-1:=zm _ (by omega);clear av;go_wp2_with fail;rw[<-hW];refine(HW.out _ ak.out).mono ?_;rintro e2 w2⟨rfl,aa⟩;have l2:=ya lb aa.size;have ah:Hid (Below w.heap.size w w2):=ak.out.trans (aa.mono ak.out.size);have q0:=zc aa k0 lb;have q1:=zc aa k1 lb;have q2:=zc aa k2 lb;have q3:=zc aa k3 lb;have q4:=zc aa k4 lb;have q5:=zc aa k5 lb;have q6:=zc aa k6 lb;have q7:=zc aa k7 lb;clear aa HW k0 k1 k2 k3 k4 k5 k6 k7 hW ax;go_wp2_with fail;refine(HL.out _ ah.out).mono ?_;rintro e3 w3⟨rfl,ab⟩;have l3:=ya l2 ab.size;have ac:Hid (Below w.heap.size w w3):=ah.out.trans (ab.mono ah.out.size);have p0:=zc ab q0 l2;have p1:=zc ab q1 l2;have p2:=zc ab q2 l2;have p3:=zc ab q3 l2;have p4:=zc ab q4 l2;have p5:=zc ab q5 l2;have p6:=zc ab q6 l2;have p7:=zc ab q7 l2;clear ab HL q0 q1 q2 q3 q4 q5 q6 q7;by_cases h1:r.load<wt
 ·have e1:decide (r.load<wt)=true:=by simpa using h1
  have HD:=hid (aj.out false ⟨λh=>(by cases h),λh=>by omega⟩);clear h1;go_wp2_with fail;go_ret;exact⟨zh HD.out,by first|exact ac.out|exact zC ac.out _⟩
 have e1:decide (r.load<wt)=false:=by simpa using h1
 by_cases h2:ln=-1
 ·have e2:(ln == -1)=true:=by simpa using h2
  have HD:=hid (aj.out false ⟨λh=>(by cases h),λh=>absurd h2 h.2.1⟩);clear h1 h2;go_wp2_with fail;go_ret;exact⟨zh HD.out,by first|exact ac.out|exact zC ac.out _⟩
 have e2:(ln == -1)=false:=by simpa using h2
 have HD:=hid (aj.out (!bl) ⟨λh=>⟨by omega,h2,by simpa using h⟩,λh=>by rw[h.2.2];rfl⟩);clear h1 h2;go_wp2_with fail;refine(ai.out _ (by first|exact ac.out|exact zC ac.out _)).mono ?_;rintro e4 w4⟨rfl,am⟩;have aw:Hid (Below w.heap.size w w4):=by first|exact ac.out.trans (am.mono ac.out.size)|exact(zC ac.out _).trans (am.mono ac.out.size)
 clear am;go_wp2_with fail;go_ret;exact⟨zh HD.out,aw.out⟩
open Go Go.RowKit
theorem zla{P:Program}(w:World)(dT sT ty ab:TypeId)(g o aa ad:Nat)(a:Addr)(ac ag:Nat)(cur:Array Value)(t:TypeId)(cs:List Value)(size k:Nat)(hu:P.underlying dT=some (.slice ab))(hs:(P.info? ab).map (·.size)=some size)(hg:w.heap[g]?=some (.cells cur t (0,0)))(hk:Nat.min ac aa=k)(hn:cs.length=k*size)(af:∀j v,cs[j]?=some v->w.cell? (a.add j)=some v)(ae:o+cs.length<=cur.size)(h1:∀v∈cs,v.oneCell'=true):(Builtin.copy_ #[dT,sT] ty #[.slice (some ⟨g,o,none⟩) aa ad,.slice (some a) ac ag]).run P w=.ok (goInt k) (w.setRow g (cur.toList.take o++cs++cur.toList.drop (o+cs.length)).toArray):=by
 have hl:=run_loadCells_list (P:=P) w a cs af;have ai:=run_storeCells_at P g o t cs 0 cur w hg (by simpa using ae) h1;cases hq:P.info? ab with
 | none=>simp[hq] at hs
 | some i=>
  have hi:i.size=size:=by simpa[hq] using hs
  have ah:min ac aa=k:=hk;simp[Builtin.copy_,run_underlying hu,Builtin.lenOf,Builtin.firstCells,sizeOf,typeInfo,hq,hi,ah,<-hn,hl,ai]
theorem zlb{P:Program}(w:World)(dT sT ty ab:TypeId)(d a:Option Addr)(aa ad ac ae size:Nat)(hu:P.underlying dT=some (.slice ab))(hs:(P.info? ab).map (·.size)=some size)(hn:Nat.min ac aa=0):(Builtin.copy_ #[dT,sT] ty #[.slice d aa ad,.slice a ac ae]).run P w=.ok (goInt 0) w:=by
 cases hq:P.info? ab with
 | none=>simp[hq] at hs
 | some i=>
  have hl:∀(x:Addr),(loadCells x 0).run P w=.ok #[] w:=λx=>by simpa using run_loadCells_list (P:=P) w x [] (by simp)
  have af:min ac aa=0:=hn;cases d<;>cases a<;>simp[Builtin.copy_,run_underlying hu,Builtin.lenOf,Builtin.firstCells,sizeOf,typeInfo,hq,af,storeCells,hl]
theorem ziF{P:Program}{w:World}{am:Array Oper}{rest:List Oper}{o:Oper}{a:Act}{Q:Exit->Act->World->Prop}(an:o.guard=none)(d s:Operand)(dT sT:TypeId)(ho:o.op=.call { callee:=.builtin .copy,args:=#[d,s],argTypes:=#[dT,sT] })(ac:TypeId)(size:Nat)(hu:P.underlying dT=some (.slice ac))(al:(P.info? ac).map (·.size)=some size)(g ab ae:Nat)(sp:Option Addr)(aa ag:Nat)(hd:a.eval d=.slice (some ⟨g,0,none⟩) ab ae)(hs:a.eval s=.slice sp aa ag)(cur:Array Value)(t:TypeId)(hg:w.heap[g]?=some (.cells cur t (0,0)))(cs:List Value)(hk:aa<=ab)(hn:cs.length=aa*size)(aj:0<aa->∃ad,sp=some ad/\∀j v,cs[j]?=some v->w.cell? (ad.add j)=some v)(ai:cs.length<=cur.size)(h1:∀v∈cs,v.oneCell'=true)(h:∀w',w'.heap[g]?=some (.cells (cs++cur.toList.drop cs.length).toArray t (0,0))->w.grownBy w' (some g)->wpList P am Q rest (a.put o.dst (goInt aa)) w'):wpList P am Q (o::rest) a w:=by
 have ah:Nat.min aa ab=aa:=Nat.min_eq_left hk;refine wpList_plain an λK hK=>?_;rcases Nat.eq_zero_or_pos aa with h0|h0
 ·subst h0;have af:=zlb (P:=P) w dT sT o.type ac (some ⟨g,0,none⟩) sp ab ae 0 ag size hu al ah;unfold Oper.wp;simp[execOp,ho,resolve,invoke,builtin,hd,hs,af,Result.andThen];obtain rfl:cs=[]:=List.eq_nil_of_length_eq_zero (by simpa using hn);exact hK _ _ (h w (by simpa using hg) ⟨rfl,rfl,rfl,Nat.le_refl _,λ_ _ _=>rfl⟩)
 obtain⟨ad,rfl,ak⟩:=aj h0;have af:=zla (P:=P) w dT sT o.type ac g 0 ab ae ad aa ag cur t cs size aa hu al hg ah hn ak (by simpa using ai) h1;unfold Oper.wp;simp[execOp,ho,resolve,invoke,builtin,hd,hs,af,Result.andThen];refine hK _ _ (h _ ?_ ⟨rfl,rfl,rfl,by simp[World.setRow],λk _ hk=>setRow_other w g k _ (λe=>hk (by rw[e]))⟩);simpa using setRow_heap w g cur _ t _ hg
def zce(w:World)(g:Nat)(zs:List Int):Prop:=g<w.heap.size/\∀j (hj:j<zs.length),w.cell? ⟨g,j,none⟩=some (.int .i64 zs[j])
theorem zce.below{w w':World}{g:Nat}{zs:List Int}(h:zce w g zs)(hb:Below w.heap.size w w'):zce w' g zs:=⟨ya h.1 hb.size,λj hj=>zc hb (h.2 j hj) h.1⟩
theorem znD(g c:Nat)(zs:List Int)(k:Int)(w:World)(hn:zs.length<=100)(hr:zce w g zs):Calls Tryz.prog 217 #[.slice (some ⟨g,0,none⟩) zs.length c,.int .i64 k] w λe w'=>∃g',e=.returned (.slice (some ⟨g',0,none⟩) (zs.length+1) (zs.length+1))/\w.heap.size<=g'/\zce w' g' (zs++[k])/\Below w.heap.size w w':=by
 obtain⟨i0,hi,aC,aA,aD⟩:=info_parts Tryz.infoInt;have HR:=hid hr;obtain⟨n,hN⟩:∃n,n=zs.length:=⟨_,rfl⟩
 have ad:Hid ((zd zs).length=n):=by show _=_;simp[zd,hN]
 have aw:Hid (∀j (hj:j<(zs++[k]).length),n≠j->(zd zs)[j]?=some (.int .i64 (zs++[k])[j])):=λj hj hne=>by
  have aj:j<zs.length:=by simp at hj;omega
  rw[yaG aj];simp[zd,aj]
 have au:Hid (∀hj:n<(zs++[k]).length,(zs++[k])[n]=k):=λhj=>by subst hN;simp
 have av:Hid (∀v∈zd zs,v.oneCell'=true):=λv hv=>by obtain⟨j,_,rfl⟩:=yo.1 hv;rfl
 have ar:Hid ((zs++[k]).length=n+1):=by show _=_;simp[hN]
 have aq:Hid (∀W,zce W g zs->∀j v,(zd zs)[j]?=some v->W.cell? ⟨g,j,none⟩=some v):=λW h j v hv=>by
  have hj:j<zs.length:=by have:=(ybn.1 hv).1;simpa[zd] using this
  rw[h.2 j hj,<-hv];simp[zd,hj]
 rw[<-hN] at hn⊢;clear hN;clear hr;go_in;go_wp2_with(refine wpList_make_full _ rfl _ _ 40 rfl w.heap.size 3 i0 (.int .i64 0) 1 Tryz.underlying40 hi aC aA .i64 .i64 _ _ (n+1) rfl rfl ?a1 ?a2 ?a3 ?a4 ?a5 ?_)
 case a1=>omega
 case a2=>omega
 case a3=>rw[aD];omega
 case a4=>unfold maxLen;omega
 case a5=>exact yh _
 intro w1 ab af;obtain⟨_,ae,am,az,_⟩:=zgm (g:=w.heap.size) (by simpa using ab);have al:Below w.heap.size w w1:=(yk _ _).grown af (yh _) (by simp);have an:=hid al;have ap:=hid (HR.out.below al);have ao:=hid am;have ak:=hid az;have hgl1:w.heap.size<w1.heap.size:=(yc.1 am).1;clear ab af al am az;go_wp2_with(refine ziF rfl _ _ 40 40 rfl 3 1 Tryz.underlying40 (by rw[hi];simp[aA]) w.heap.size (n+1) (n+1) (some ⟨g,0,none⟩) n c rfl rfl ae 3 ao.out (zd zs) (by omega) (by rw[ad.out];omega) ?b1 ?b2 ?b3 ?_)
 case b1=>intro h0;refine⟨⟨g,0,none⟩,rfl,λj v hv=>?_⟩;rw[ybX,yat];exact aq.out _ ap.out j v hv
 case b2=>rw[ad.out];have:=ak.out;omega
 case b3=>exact av.out
 intro w2 ac ag;obtain⟨aa,ai⟩:∃aa,aa=(zd zs++List.drop (zd zs).length ae.toList).toArray:=⟨_,rfl⟩
 rw[<-ai] at ac;have ah:aa.size=n+1:=by rw[ai];have:=ak.out;simp[ad.out];omega
 have ay:∀j,j<n->aa[j]?=(zd zs)[j]?:=λj hj=>by rw[ai];simp only[List.getElem?_toArray];rw[yaC (by rw[ad.out];exact hj)]
 have ax:Below w.heap.size w w2:=an.out.grown ag (by omega) (λk hk=>by cases hk;omega);have e0:w2.cell? ⟨w.heap.size,n,none⟩=some (aa.getD n (.int .i64 0)):=by rw[yi _ _ _ _ _ _ ac,Array.getElem?_eq_getElem (by omega)];simp[Array.getD,ah]
 have ef:∀o,w2.frozen? ⟨w.heap.size,o,none⟩=false:=λo=>yv w2 _ o _ _ ac;have hgl2:w.heap.size<w2.heap.size:=(yc.1 ac).1;have h3:=yw w2 w.heap.size n _ _ (.int .i64 k) ac;have aB:=hid ax;have HL:Hid (zce (w2.setCell ⟨w.heap.size,n,none⟩ (.int .i64 k)) w.heap.size (zs++[k])):=by
  refine⟨(yc.1 h3).1,λj hj=>?_⟩;rw[yi _ _ _ _ _ _ h3,ybO];by_cases e:n=j
  ·subst e;rw[yg rfl,yg (by omega)];rw[au.out hj]
  have aj:j<n:=by rw[ar.out] at hj;omega
  rw[ye e,ay j aj,aw.out j hj e]
 have ik:(n:Int)<(n:Int)+1:=by omega
 have i0n:(0:Int)<=(n:Int):=by omega
 clear ac ag ai ah ay ax h3 ao ap ak an HR ad aw au av ar aq;go_wp2_with go_in;go_ret;exact⟨w.heap.size,rfl,yh _,HL.out,aB.out.setCell (by exact yh _) _⟩
end Go.Proofs.YtebinaopncclgabGreatDoor
