import Derived.Test.YtebinaopncclgabGreatDoorSMatch
set_option maxRecDepth 100000
set_option maxHeartbeats 8000000
namespace Go.Proofs.YtebinaopncclgabGreatDoor
theorem zqr{I:Ins}{cl:Option Int}{P P':zo}{nd:zu}(h:zab I.n P)(hs:zax I cl P nd=some P'):zab I.n P':=by
 unfold zax at hs;split at hs
 ·split at hs
  ·rename_i hc;cases hs;obtain⟨⟨h1,h2,h3,h4,h5⟩,h6⟩:=hc;exact .cons (by omega) (by omega) (by omega) h6 h
  cases hs
 split at hs
 ·cases hs;exact zjv h
 cases hs
noncomputable def zbV(I:Ins)(cl:Option Int):zo->List zu->Nat->Nat
 | _,[],_=>0
 | P,nd::l,i=>match zax I cl P nd with
  | none=>i+1
  | some P'=>zbV I cl P' l (i+1)
theorem ze0(I:Ins)(cl:Option Int)(P:zo)(nd:zu)(l:List zu)(i:Nat):zbV I cl P (nd::l) i=match zax I cl P nd with|none=>i+1|some P'=>zbV I cl P' l (i+1):=rfl
theorem zgh(I:Ins)(cl:Option Int):∀(l:List zu)(P:zo)(i:Nat),zbV I cl P l i=0↔∃P',zdO I cl P l=some P'
 | [],P,i=>⟨λ_=>⟨P,rfl⟩,λ_=>rfl⟩
 | nd::l,P,i=>by
  rw[ze0,zeG];cases zax I cl P nd with
  | none=>exact⟨λh=>absurd h (by simp),λ⟨P',h⟩=>by cases h⟩
  | some P1=>exact zgh I cl l P1 (i+1)
theorem zfl:∀(l:List zu)(o:Nat),zV o l=true->∀nd∈l,zac nd=true:=by
 intro l;induction l with
 | nil=>intro o _ nd hm;cases hm
 | cons x l ih=>
  intro o h nd hm;simp only[zV,yA] at h;rcases yG.1 hm with rfl|hm
  ·exact h.1.2
  exact ih _ h.2 nd hm
theorem zpU{l:List zu}{o:Nat}(h:zV o l=true){nd:zu}(hm:nd∈l):nd.2.length<=20/\(∀z∈nd.2,-100000000<=z/\z<=100000000)/\(nd.1=1->nd.2.length=2):=by obtain⟨h1,h2⟩:=zcp (zfl l o h nd hm);have h3:=zeo h1;exact⟨by omega,h2,λh=>by omega⟩
def zbX(I:Ins)(cl:Option Int)(L:List zu)(P:zo)(i k bad next:Nat):Prop:=(bad≠0/\zbV I cl P (L.drop i) i=bad)\/(bad=0/\i<next/\next<=L.length/\zV k (L.drop next)=true/\zbV I cl P (L.drop i) i=zbV I cl (zad P) (L.drop next) next)
theorem ze7{L:List zu}{i k:Nat}(h:zV (k+1) (L.drop i)=true):∃hi:i<L.length,L.drop i=L[i]::L.drop (i+1)/\zac L[i]=true/\zV (zbw (k+1) L[i].1) (L.drop (i+1))=true:=by
 by_cases hi:i<L.length
 ·refine⟨hi,yac hi,?_⟩;rw[yac hi] at h;simp only[zV,yA] at h;exact⟨h.1.2,h.2⟩
 rw[ybB (by omega)] at h;simp[zV] at h
theorem zst{I:Ins}{cl:Option Int}{L:List zu}{P:zo}{i k next:Nat}(h:zV (k+1) (L.drop i)=true){nd:zu}(hn:L[i]?=some nd)(hs:zax I cl P nd=none):zbX I cl L P i k (i+1) next:=by obtain⟨hi,e,_,_⟩:=ze7 h;rw[yl hi] at hn;cases hn;refine .inl ⟨by omega,?_⟩;rw[e,ze0,hs]
theorem zp6{I:Ins}{cl:Option Int}{L:List zu}{P P':zo}{i k:Nat}(h:zV (k+1) (L.drop i)=true){nd:zu}(hn:L[i]?=some nd)(hk:nd.1≠1)(hs:zax I cl P nd=some P'):zbX I cl L P i k 0 (i+1):=by
 obtain⟨hi,e,_,ht⟩:=ze7 h;rw[yl hi] at hn;cases hn;have hP:P'=zad P:=by
  unfold zax at hs;rw[ye hk] at hs;split at hs
  ·cases hs;rfl
  cases hs
 subst hP;unfold zbw at ht;rw[ye hk] at ht;refine .inr ⟨rfl,by omega,by omega,ht,?_⟩;rw[e,ze0,hs]
theorem zl3{I:Ins}{cl:Option Int}{L:List zu}{P:zo}{i k:Nat}{ab:Nat×Nat}(h:zV (k+1) (L.drop i)=true){nd:zu}(hn:L[i]?=some nd)(hk:nd.1=1)(hs:zax I cl P nd=some ((ab,true)::P)):zV (k+2) (L.drop (i+1))=true/\(∀ac next aa,ac≠0->zbX I cl L ((ab,true)::P) (i+1) (k+1) ac next->zbX I cl L P i k ac aa) /\(∀next ac aa,zbX I cl L ((ab,true)::P) (i+1) (k+1) 0 next->zV (k+1) (L.drop next)=true/\i<next/\next<=L.length/\(zbX I cl L ((ab,false)::P) next k ac aa->zbX I cl L P i k ac aa)):=by
 obtain⟨hi,e,_,ht⟩:=ze7 h;rw[yl hi] at hn;cases hn;unfold zbw at ht;rw[yg hk] at ht;have hf:zbV I cl P (L.drop i) i=zbV I cl ((ab,true)::P) (L.drop (i+1)) (i+1):=by rw[e,ze0,hs]
 refine⟨ht,λac next aa hb h1=>?_,λnext ac aa h1=>?_⟩
 ·rcases h1 with ⟨_,h1⟩|⟨h1,_⟩
  ·exact .inl ⟨hb,hf.trans h1⟩
  exact absurd h1 hb
 rcases h1 with ⟨h1,_⟩|⟨_,h1,h2,h3,h4⟩
 ·exact absurd rfl h1
 refine⟨h3,by omega,h2,λh5=>?_⟩;have e2:zad ((ab,true)::P)=(ab,false)::P:=rfl;have e3:zad ((ab,false)::P)=zad P:=rfl;rw[e2] at h4;rcases h5 with ⟨k1,k2⟩|⟨k1,k2,k3,k4,k5⟩
 ·exact .inl ⟨k1,hf.trans (h4.trans k2)⟩
 rw[e3] at k5;exact .inr ⟨k1,by omega,k3,k4,hf.trans (h4.trans k5)⟩
theorem zqX{I:Ins}{cl:Option Int}{L:List zu}{aa next:Nat}(h:zbX I cl L [] 0 0 aa next):zbV I cl [] L 0=aa:=by
 rcases h with ⟨_,h⟩|⟨h1,h2,h3,h4,h5⟩
 ·simpa using h
 have e:L.drop next=[]:=by
  cases hd:L.drop next with
  | nil=>rfl
  | cons x t=>rw[hd] at h4;simp[zV] at h4
 rw[e] at h5;rw[h1];have e2:zbV I cl (zad []) [] next=0:=rfl
 rw[e2] at h5;simpa using h5
end Go.Proofs.YtebinaopncclgabGreatDoor
