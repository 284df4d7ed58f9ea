import Derived.Test.YtebinaopncclgabGreatDoorQCell
set_option maxRecDepth 100000
set_option maxHeartbeats 8000000
namespace Go.Proofs.YtebinaopncclgabGreatDoor
theorem zpi{N:Nat}{C:Nat->Nat->Int}{col u v:Nat->Int}{cost:Int}(ht:zdd N C col u v cost):zl9 N ((List.range N).map λi=>(i,(col i).toNat))/\(∀p∈(List.range N).map λi=>(i,(col i).toNat),C p.1 p.2≠-1)/\(((List.range N).map λi=>(i,(col i).toNat)).map λp=>C p.1 p.2).sum=cost:=by
 have hc:∀i,i<N->(col i).toNat<N/\C i (col i).toNat≠-1:=λi hi=>by obtain⟨k,h1,h2,h3⟩:=ht.tcol i hi;rw[h1];exact⟨by simpa using h2,by simpa using h3⟩
 refine⟨⟨?_,λp hp=>?_,by simp,?_⟩,λp hp=>?_,?_⟩
 ·rw[yah];have:(List.range N).map ((λp:Nat×Nat=>p.1) ∘ λi=>(i,(col i).toNat))=List.range N:=by have:(List.range N).map ((λp:Nat×Nat=>p.1) ∘ λi=>(i,(col i).toNat))=(List.range N).map id:=yad λ_ _=>rfl;rw[this,ycc]
  rw[this];exact ybi
 ·obtain⟨i,hi,rfl⟩:=yo.1 hp;have ac:i<N:=by simpa using hi
  exact⟨ac,(hc i ac).1⟩
 ·rw[yah];refine zew ybi λa ha b hb e=>?_;have aa:a<N:=by simpa using ha
  have ab:b<N:=by simpa using hb
  obtain⟨k,h1,_⟩:=ht.tcol a aa;obtain⟨m,h2,_⟩:=ht.tcol b ab;refine ht.one a b aa ab ?_;simp only[Function.comp] at e;omega
 ·obtain⟨i,hi,rfl⟩:=yo.1 hp;exact(hc i (by simpa using hi)).2
 rw[ht.tcost,yah];have:∀L:List Nat,(L.map ((λp:Nat×Nat=>C p.1 p.2) ∘ λi=>(i,(col i).toNat))).sum=zQ (λi=>C i (col i).toNat) L:=by
  intro L;induction L with
  | nil=>rfl
  | cons x L ih=>simp only[yE,yZ,zQ,ih];rfl
 exact this _
end Go.Proofs.YtebinaopncclgabGreatDoor
