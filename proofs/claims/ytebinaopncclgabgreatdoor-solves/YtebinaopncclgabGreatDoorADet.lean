import Derived.Test.YtebinaopncclgabGreatDoorAPlain
set_option maxRecDepth 100000
set_option maxHeartbeats 8000000
namespace Go.Proofs.YtebinaopncclgabGreatDoor
def zbi(x:Int)(f:Nat->Int)(k:Nat):Nat->Int:=λc=>if c<k then x else f c
theorem zkH(x:Int)(f:Nat->Int):zbi x f 0=f:=by funext c;unfold zbi;rw[if_neg (by omega)]
theorem zkw(x:Int)(f:Nat->Int)(k:Nat):up1 (zbi x f k) k x=zbi x f (k+1):=by
 funext c;unfold up1 zbi;by_cases e:c=k
 ·rw[if_pos e,if_pos (by omega)]
 rw[if_neg e];by_cases h:c<k
 ·rw[if_pos h,if_pos (by omega)]
 rw[if_neg h,if_neg (by omega)]
inductive zc3 (n:Nat) (C:Nat->Nat->Int) (u v ow:Nat->Int):(Nat->Int)->(Nat->Int)->(Nat->Bool)->(Nat->Int)->(Nat->Int)->(Nat->Bool)->Int->Prop where
 | no {far fr:Nat->Int} {dn:Nat->Bool}:zch n far dn=-1->zc3 n C u v ow far fr dn far fr dn (-1)
 | hit {far fr:Nat->Int} {dn:Nat->Bool} {c:Nat}:zch n far dn=(c:Int)->ow c=-1->zc3 n C u v ow far fr dn far fr (up1 dn c true) (c:Int)
 | more {far fr far' fr':Nat->Int} {dn dn':Nat->Bool} {e:Int} {c:Nat}:zch n far dn=(c:Int)->ow c≠-1->zc3 n C u v ow (zag n C u v (ow c).toNat (far c) far (up1 dn c true)) (zbM n C u v (ow c).toNat c (far c) far fr (up1 dn c true)) (up1 dn c true) far' fr' dn' e->zc3 n C u v ow far fr dn far' fr' dn' e
theorem zc3.one{n:Nat}{C:Nat->Nat->Int}{u v ow far fr a b:Nat->Int}{dn d:Nat->Bool}{e:Int}(h:zc3 n C u v ow far fr dn a b d e):∀{a' b':Nat->Int} {d':Nat->Bool} {e':Int},zc3 n C u v ow far fr dn a' b' d' e'->a=a'/\b=b'/\d=d'/\e=e':=by
 induction h with
 | no h1=>
  intro a' b' d' e' h2;cases h2 with
  | no _=>exact⟨rfl,rfl,rfl,rfl⟩
  | hit h3 _=>rw[h1] at h3;omega
  | more h3 _ _=>rw[h1] at h3;omega
 | hit h1 h1'=>
  intro a' b' d' e' h2;cases h2 with
  | no h3=>rw[h1] at h3;omega
  | hit h3 _=>rw[h1] at h3;cases Int.ofNat.inj h3;exact⟨rfl,rfl,rfl,rfl⟩
  | more h3 h4 _=>rw[h1] at h3;cases Int.ofNat.inj h3;exact absurd h1' h4
 | more h1 h1' _ ih=>
  intro a' b' d' e' h2;cases h2 with
  | no h3=>rw[h1] at h3;omega
  | hit h3 h4=>rw[h1] at h3;cases Int.ofNat.inj h3;exact absurd h4 h1'
  | more h3 _ h5=>rw[h1] at h3;cases Int.ofNat.inj h3;exact ih h5
inductive zdw (root:Nat) (fr:Nat->Int):(Nat->Int)->Nat->(Nat->Int)->Prop where
 | last {ow:Nat->Int} {c:Nat}:fr c=-1->zdw root fr ow c (up1 ow c root)
 | more {ow res:Nat->Int} {c d:Nat}:fr c=(d:Int)->zdw root fr (up1 ow c (ow d)) d res->zdw root fr ow c res
theorem zdw.one{root:Nat}{fr ow a:Nat->Int}{c:Nat}(h:zdw root fr ow c a):∀{a':Nat->Int},zdw root fr ow c a'->a=a':=by
 induction h with
 | last h1=>
  intro a' h2;cases h2 with
  | last _=>rfl
  | more h3 _=>rw[h1] at h3;omega
 | more h1 _ ih=>
  intro a' h2;cases h2 with
  | last h3=>rw[h1] at h3;omega
  | more h3 h4=>rw[h1] at h3;cases Int.ofNat.inj h3;exact ih h4
structure zhx where
 whole:Bool
 cost:Int
 col:Nat->Int
 u:Nat->Int
 v:Nat->Int
 S:Nat->Bool
def znL(n:Nat)(C:Nat->Nat->Int)(u v:Nat->Int)(root:Nat):Nat->Int:=zag n C u v root 0 (zbi (-1) (λ_=>0) n) (λ_=>false)
def zqT(n:Nat)(C:Nat->Nat->Int)(u v:Nat->Int)(root:Nat):Nat->Int:=zbM n C u v root (-1) 0 (zbi (-1) (λ_=>0) n) (λ_=>0) (λ_=>false)
inductive zdx (n:Nat) (C:Nat->Nat->Int):Nat->(Nat->Int)->(Nat->Int)->(Nat->Int)->zhx->Prop where
 | done {u v ow:Nat->Int}:zdx n C n u v ow ⟨true,zQ (λc=>C (ow c).toNat c) (List.range n),zcY ow n,u,v,λ_=>false⟩
 | short {k:Nat} {u v ow far fr:Nat->Int} {dn:Nat->Bool}:k<n->zc3 n C u v ow (znL n C u v k) (zqT n C u v k) (λ_=>false) far fr dn (-1)->zdx n C k u v ow ⟨false,0,λ_=>0,λ_=>0,λ_=>0,shS ow dn k n⟩
 | more {k c:Nat} {u v ow ow' far fr:Nat->Int} {dn:Nat->Bool} {res:zhx}:k<n->zc3 n C u v ow (znL n C u v k) (zqT n C u v k) (λ_=>false) far fr dn (c:Int)->zdw k fr ow c ow'->zdx n C (k+1) (rzU ow far dn (far c) (up1 u k (u k+far c)) n) (rzV ow far dn (far c) v n) ow' res->zdx n C k u v ow res
theorem zdx.one{n k:Nat}{C:Nat->Nat->Int}{u v ow:Nat->Int}{a:zhx}(h:zdx n C k u v ow a):∀{b:zhx},zdx n C k u v ow b->a=b:=by
 induction h with
 | done=>
  intro b h2;cases h2 with
  | done=>rfl
  | short h3 _=>omega
  | more h3 _ _ _=>omega
 | short h1 h1'=>
  intro b h2;cases h2 with
  | done=>omega
  | short _ h3=>obtain⟨_,_,rfl,_⟩:=h1'.one h3;rfl
  | more _ h3 _ _=>have:=(h1'.one h3).2.2.2;omega
 | more h1 h1' h1'' _ ih=>
  intro b h2;cases h2 with
  | done=>omega
  | short _ h3=>have:=(h1'.one h3).2.2.2;omega
  | more _ h3 h4 h5=>obtain⟨rfl,rfl,rfl,e⟩:=h1'.one h3;cases Int.ofNat.inj e;cases h1''.one h4;exact ih h5
def zej(n:Nat)(C:Nat->Nat->Int)(x:zhx):Prop:=zdx n C 0 (λ_=>0) (λ_=>0) (zbi (-1) (λ_=>0) n) x
open Classical in
noncomputable def zgz(n:Nat)(C:Nat->Nat->Int):zhx:=if h:∃x,zej n C x then Classical.choose h else ⟨false,0,λ_=>0,λ_=>0,λ_=>0,λ_=>false⟩
theorem zlU{n:Nat}{C:Nat->Nat->Int}{x:zhx}(h:zej n C x):zgz n C=x:=by unfold zgz;rw[dif_pos ⟨x,h⟩];exact(Classical.choose_spec (⟨x,h⟩:∃x,zej n C x)).one h
end Go.Proofs.YtebinaopncclgabGreatDoor
