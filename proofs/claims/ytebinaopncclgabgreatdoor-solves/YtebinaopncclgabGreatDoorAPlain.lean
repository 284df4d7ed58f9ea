set_option maxRecDepth 100000
set_option maxHeartbeats 8000000
namespace Go.Proofs.YtebinaopncclgabGreatDoor
def up1{α:Type}(f:Nat->α)(i:Nat)(x:α):Nat->α:=λj=>if j=i then x else f j
def spC(n:Nat)(C:Nat->Nat->Int)(u v:Nat->Int)(row:Nat)(start:Int)(far:Nat->Int)(dn:Nat->Bool)(c:Nat):Prop:=c<n/\dn c=false/\C row c≠-1/\(far c=-1\/start+C row c-u row-v c<far c)
instance (n:Nat) (C:Nat->Nat->Int) (u v:Nat->Int) (row:Nat) (start:Int) (far:Nat->Int) (dn:Nat->Bool) (c:Nat):Decidable (spC n C u v row start far dn c):=by unfold spC;infer_instance
def zag(n:Nat)(C:Nat->Nat->Int)(u v:Nat->Int)(row:Nat)(start:Int)(far:Nat->Int)(dn:Nat->Bool)(c:Nat):Int:=if spC n C u v row start far dn c then start+C row c-u row-v c else far c
def zbM(n:Nat)(C:Nat->Nat->Int)(u v:Nat->Int)(row:Nat)(frm start:Int)(far fr:Nat->Int)(dn:Nat->Bool)(c:Nat):Int:=if spC n C u v row start far dn c then frm else fr c
def zdc(far:Nat->Int)(dn:Nat->Bool)(best:Int)(c:Nat):Int:=if dn c=true\/far c=-1 then best else if best=-1\/far c<far best.toNat then (c:Int) else best
def zch(n:Nat)(far:Nat->Int)(dn:Nat->Bool):Int:=(List.range n).foldl (zdc far dn) (-1)
theorem zkZ(n:Nat)(far:Nat->Int)(dn:Nat->Bool):zch (n+1) far dn=zdc far dn (zch n far dn) n:=by simp[zch,List.range_succ]
theorem zsE(n:Nat)(far:Nat->Int)(dn:Nat->Bool):(zch n far dn=-1/\∀c,c<n->dn c=true\/far c=-1)\/∃k:Nat,zch n far dn=k/\k<n/\dn k=false/\far k≠-1/\∀c,c<n->dn c=false->far c≠-1->far k<=far c:=by
 induction n with
 | zero=>left;exact⟨rfl,λc h=>absurd h (by omega)⟩
 | succ n ih=>
  rw[zkZ];unfold zdc;by_cases h:dn n=true\/far n=-1
  ·rw[if_pos h];rcases ih with ⟨e,h1⟩|⟨k,e,hk,hd,hf,hm⟩
   ·left;exact⟨e,λc hc=>by
     by_cases aa:c=n
     ·rw[aa];exact h
     exact h1 c (by omega)⟩
   right;refine⟨k,e,by omega,hd,hf,λc hc h1 h2=>?_⟩;by_cases aa:c=n
   ·rw[aa] at h1 h2;rcases h with h|h
    ·rw[h] at h1;cases h1
    exact absurd h h2
   exact hm c (by omega) h1 h2
  rw[if_neg h];have ac:dn n=false:=by
   cases hb:dn n
   ·rfl
   exact absurd (.inl hb) h
  have ad:far n≠-1:=λe=>h (.inr e);rcases ih with ⟨e,h1⟩|⟨k,e,hk,hd,hf,hm⟩
  ·rw[e,if_pos (.inl rfl)];right;refine⟨n,rfl,by omega,ac,ad,λc hc h2 h3=>?_⟩;by_cases aa:c=n
   ·rw[aa];exact Int.le_refl _
   rcases h1 c (by omega) with h4|h4
   ·rw[h4] at h2;cases h2
   exact absurd h4 h3
  rw[e];by_cases ab:(k:Int)=-1\/far n<far (k:Int).toNat
  ·rw[if_pos ab];have hlt2:far n<far k:=by
    rcases ab with h|h
    ·omega
    simpa using h
   right;refine⟨n,rfl,by omega,ac,ad,λc hc h2 h3=>?_⟩;by_cases aa:c=n
   ·rw[aa];exact Int.le_refl _
   have:=hm c (by omega) h2 h3;omega
  rw[if_neg ab];have ae:far k<=far n:=by have:¬far n<far (k:Int).toNat:=λh=>ab (.inr h);simp at this;exact this
  right;refine⟨k,rfl,by omega,hd,hf,λc hc h2 h3=>?_⟩;by_cases aa:c=n
  ·rw[aa];exact ae
  exact hm c (by omega) h2 h3
structure zdU (n:Nat) (C:Nat->Nat->Int) (u v ow:Nat->Int) (root:Nat):Prop where
 under:∀i j,i<n->j<n->C i j≠-1->u i+v j<=C i j
 own:∀j,j<n->ow j=-1\/∃i:Nat,ow j=i/\i<root/\C i j≠-1/\u i+v j=C i j
 inj:∀j k,j<n->k<n->ow j=ow k->ow j≠-1->j=k
 free:∀j,j<n->ow j=-1->v j=0
 vneg:∀j,j<n->v j<=0
 upos:∀i,i<n->0<=u i
 uzero:∀i,i<n->root<=i->u i=0
 all:∀i:Nat,i<root->∃j,j<n/\ow j=i
 ubd:∀i,i<n->u i<=(root:Int)*2000000
 vbd:∀j,j<n->-((root:Int)*2000000)<=v j
def zev(n:Nat)(C:Nat->Nat->Int):Prop:=∀i j,i<n->j<n->-1<=C i j/\C i j<=200000
structure zdl (n:Nat) (C:Nat->Nat->Int) (u v ow:Nat->Int) (root:Nat) (far fr:Nat->Int) (dn:Nat->Bool) (ord:Nat->Nat) (cnt:Nat) (P:Nat->Prop):Prop where
 sub:∀c,c<n->P c->dn c=true/\ow c≠-1
 known:∀c,c<n->dn c=true->far c≠-1
 pos:∀c,c<n->far c=-1\/0<=far c
 rootRow:∀j,j<n->C root j≠-1->far j≠-1/\far j<=C root j-u root-v j
 row:∀c,c<n->P c->∀j,j<n->C (ow c).toNat j≠-1->far j≠-1/\far j<=far c+C (ow c).toNat j-u (ow c).toNat-v j
 mon:∀c,c<n->dn c=true->∀j,j<n->dn j=false->far j≠-1->far c<=far j
 way:∀j,j<n->far j≠-1->(fr j=-1/\C root j≠-1/\far j=C root j-u root-v j)\/∃c:Nat,c<n/\fr j=c/\P c/\(dn j=true->ord c<ord j)/\C (ow c).toNat j≠-1/\far j=far c+C (ow c).toNat j-u (ow c).toNat-v j
 rank:∀c,c<n->dn c=true->ord c<cnt
 bd:∀j,j<n->far j≠-1->far j<=((cnt:Int)+1)*200000-v j
theorem zpm{n:Nat}{C:Nat->Nat->Int}{u v ow:Nat->Int}{root:Nat}(hc:zev n C)(ht:zdU n C u v ow root)(hr:root<n)(far fr:Nat->Int)(hf:∀c,c<n->far c=-1)(ord:Nat->Nat):zdl n C u v ow root (zag n C u v root 0 far (λ_=>false)) (zbM n C u v root (-1) 0 far fr (λ_=>false)) (λ_=>false) ord 0 (λ_=>False):=by
 have aa:∀c,c<n->(spC n C u v root 0 far (λ_=>false) c↔C root c≠-1):=λc h=>by unfold spC;simp[hf c h,h]
 have e1:∀c,c<n->C root c≠-1->zag n C u v root 0 far (λ_=>false) c=C root c-u root-v c:=λc h h1=>by unfold zag;rw[if_pos ((aa c h).2 h1)];omega
 have e2:∀c,c<n->C root c=-1->zag n C u v root 0 far (λ_=>false) c=-1:=λc h h1=>by unfold zag;rw[if_neg (λh2=>(aa c h).1 h2 h1),hf c h]
 have hu:=ht.uzero root hr (Nat.le_refl _);have hp:∀c,c<n->C root c≠-1->0<=C root c-u root-v c:=λc h h1=>by have:=ht.under root c hr h h1;omega
 refine⟨λc _ h=>h.elim,λc _ h=>(by cases h),λc h=>?_,λj h h1=>?_,λc _ h=>h.elim,λc _ h=>(by cases h),λj h h1=>?_,λc _ h=>(by cases h),λj h h1=>?_⟩
 ·by_cases h1:C root c=-1
  ·exact .inl (e2 c h h1)
  exact .inr (by rw[e1 c h h1];exact hp c h h1)
 ·rw[e1 j h h1];have:=hp j h h1;exact⟨by omega,Int.le_refl _⟩
 ·by_cases h2:C root j=-1
  ·exact absurd (e2 j h h2) h1
  left;exact⟨by unfold zbM;rw[if_pos ((aa j h).2 h2)],h2,e1 j h h2⟩
 by_cases h2:C root j=-1
 ·exact absurd (e2 j h h2) h1
 rw[e1 j h h2];have:=(hc root j hr h).2;simp;omega
theorem zsA{n:Nat}{C:Nat->Nat->Int}{u v ow:Nat->Int}{root:Nat}{far fr:Nat->Int}{dn:Nat->Bool}{ord:Nat->Nat}{cnt k:Nat}(h:zdl n C u v ow root far fr dn ord cnt (λc=>dn c=true))(_hk:k<n)(hd:dn k=false)(hf:far k≠-1)(hm:∀c,c<n->dn c=false->far c≠-1->far k<=far c):zdl n C u v ow root far fr (up1 dn k true) (up1 ord k cnt) (cnt+1) (λc=>dn c=true):=by
 have ad:∀c,dn c=true->c≠k:=λc hc e=>by rw[e,hd] at hc;cases hc
 have hu:∀c,dn c=true->up1 dn k true c=true:=λc hc=>by unfold up1;rw[if_neg (ad c hc)];exact hc
 refine⟨λc hc hp=>⟨hu c hp,(h.sub c hc hp).2⟩,λc hc hp=>?_,h.pos,h.rootRow,h.row,λc hc hp j hj aa ab=>?_,λj hj ab=>?_,λc hc hp=>?_,λj hj ab=>?_⟩
 ·unfold up1 at hp;by_cases e:c=k
  ·rw[e];exact hf
  rw[if_neg e] at hp;exact h.known c hc hp
 ·have ae:j≠k:=λe=>by rw[e] at aa;unfold up1 at aa;rw[if_pos rfl] at aa;cases aa
  unfold up1 at hp aa;rw[if_neg ae] at aa;by_cases e:c=k
  ·rw[e];exact hm j hj aa ab
  rw[if_neg e] at hp;exact h.mon c hc hp j hj aa ab
 ·rcases h.way j hj ab with h1|⟨c,hc,h1,h2,h3,h4⟩
  ·exact .inl h1
  right;refine⟨c,hc,h1,h2,λac=>?_,h4⟩;unfold up1 at ac⊢;rw[if_neg (ad c h2)];by_cases e:j=k
  ·rw[if_pos e];exact h.rank c hc h2
  rw[if_neg e] at ac⊢;exact h3 ac
 ·unfold up1 at hp⊢;by_cases e:c=k
  ·rw[if_pos e];omega
  rw[if_neg e] at hp⊢;have:=h.rank c hc hp;omega
 have:=h.bd j hj ab;omega
theorem zm9{n:Nat}{C:Nat->Nat->Int}{u v ow:Nat->Int}{root:Nat}{far fr:Nat->Int}{dn:Nat->Bool}{ord:Nat->Nat}{cnt k:Nat}(hc:zev n C)(ht:zdU n C u v ow root)(hrn:root<n)(h:zdl n C u v ow root far fr dn ord cnt (λc=>dn c=true/\c≠k))(hk:k<n)(hd:dn k=true)(ho:ow k≠-1)(ae:∀c,c<n->dn c=true->far c<=far k)(ak:∀j,j<n->dn j=false->far j≠-1->far k<=far j)(ah:∀j,j<n->far j≠-1->far j<=(cnt:Int)*200000-v j):zdl n C u v ow root (zag n C u v (ow k).toNat (far k) far dn) (zbM n C u v (ow k).toNat k (far k) far fr dn) dn ord cnt (λc=>dn c=true):=by
 obtain⟨i,hi,hir,hio,hit⟩:∃i:Nat,ow k=i/\i<root/\C i k≠-1/\u i+v k=C i k:=by
  rcases ht.own k hk with h1|h1
  ·exact absurd h1 ho
  exact h1
 have ai:i<n:=by omega
 rw[hi];simp only[Int.toNat_natCast];have am:far k≠-1:=h.known k hk hd;have hfk0:0<=far k:=by rcases h.pos k hk with h1|h1;exact absurd h1 am;exact h1
 have ac:∀j,j<n->C i j≠-1->0<=C i j-u i-v j:=λj hj h1=>by have:=ht.under i j ai hj h1;omega
 have af:∀c,dn c=true->zag n C u v i (far k) far dn c=far c:=λc h1=>by unfold zag;rw[if_neg];intro h2;unfold spC at h2;rw[h1] at h2;exact absurd h2.2.1 (by simp)
 have aa:∀j,j<n->(zag n C u v i (far k) far dn j=far j/\zbM n C u v i k (far k) far fr dn j=fr j)\/(dn j=false/\C i j≠-1/\zag n C u v i (far k) far dn j=far k+C i j-u i-v j/\zbM n C u v i k (far k) far fr dn j=k/\(far j=-1\/far k+C i j-u i-v j<far j)):=λj hj=>by
  by_cases h1:spC n C u v i (far k) far dn j
  ·right;unfold zag zbM;rw[if_pos h1,if_pos h1];exact⟨h1.2.1,h1.2.2.1,rfl,rfl,h1.2.2.2⟩
  left;unfold zag zbM;rw[if_neg h1,if_neg h1];exact⟨rfl,rfl⟩
 have an:∀j,j<n->far j≠-1->zag n C u v i (far k) far dn j≠-1/\zag n C u v i (far k) far dn j<=far j:=λj hj h1=>by
  rcases aa j hj with ⟨e,_⟩|⟨_,h2,e,_,h3⟩
  ·rw[e];exact⟨h1,Int.le_refl _⟩
  rw[e];have:=ac j hj h2;rcases h3 with h3|h3
  ·exact absurd h3 h1
  exact⟨by omega,by omega⟩
 have al:∀j,j<n->C i j≠-1->zag n C u v i (far k) far dn j≠-1/\zag n C u v i (far k) far dn j<=far k+C i j-u i-v j:=λj hj h1=>by
  have hr:=ac j hj h1;cases ag:dn j
  ·by_cases h2:spC n C u v i (far k) far dn j
   ·unfold zag;rw[if_pos h2];exact⟨by omega,Int.le_refl _⟩
   have h3:far j≠-1/\far j<=far k+C i j-u i-v j:=by refine⟨λe=>h2 ⟨hj,ag,h1,.inl e⟩,?_⟩;apply Int.not_lt.1;intro e;exact h2 ⟨hj,ag,h1,.inr e⟩
   unfold zag;rw[if_neg h2];exact h3
  rw[af j ag];have:=ae j hj ag;exact⟨h.known j hj ag,by omega⟩
 refine⟨λc ab hp=>⟨hp,?_⟩,λc ab hp=>?_,λc ab=>?_,λj hj h1=>?_,λc ab hp j hj h1=>?_,λc ab hp j hj aj ad=>?_,λj hj ad=>?_,h.rank,λj hj ad=>?_⟩
 ·by_cases e:c=k
  ·rw[e];exact ho
  exact(h.sub c ab ⟨hp,e⟩).2
 ·rw[af c hp];exact h.known c ab hp
 ·rcases aa c ab with ⟨e,_⟩|⟨_,h2,e,_⟩
  ·rw[e];exact h.pos c ab
  rw[e];have:=ac c ab h2;right;omega
 ·have h2:=h.rootRow j hj h1;have h3:=an j hj h2.1;exact⟨h3.1,by omega⟩
 ·rw[af c hp];by_cases e:c=k
  ·rw[e,hi] at h1⊢;simp only[Int.toNat_natCast] at h1⊢;exact al j hj h1
  have h2:=h.row c ab ⟨hp,e⟩ j hj h1;have h3:=an j hj h2.1;exact⟨h3.1,by omega⟩
 ·rw[af c hp];have h1:=ae c ab hp;rcases aa j hj with ⟨e,_⟩|⟨_,h2,e,_⟩
  ·rw[e] at ad⊢;have:=ak j hj aj ad;omega
  rw[e];have:=ac j hj h2;omega
 ·rcases aa j hj with ⟨e,e2⟩|⟨aj,h2,e,e2,_⟩
  ·rw[e] at ad⊢;rw[e2];rcases h.way j hj ad with h3|⟨c,ab,h3,h4,h5,h6,h7⟩
   ·exact .inl h3
   right;exact⟨c,ab,h3,h4.1,h5,h6,by rw[af c h4.1];exact h7⟩
  right;refine⟨k,hk,e2,hd,λh3=>(by rw[aj] at h3;cases h3),by rw[hi];simpa using h2,?_⟩;rw[e,af k hd,hi];simp
 rcases aa j hj with ⟨e,_⟩|⟨_,h2,e,_⟩
 ·rw[e] at ad⊢;exact h.bd j hj ad
 rw[e];have h3:=ah k hk am;have h4:=(hc i j ai hj).2;have h5:=(hc i k ai hk).1;omega
structure zi5 (n:Nat) (C:Nat->Nat->Int) (u v ow:Nat->Int) (root:Nat) (far fr:Nat->Int) (dn:Nat->Bool) (ord:Nat->Nat) (cnt e:Nat):Prop where
 inv:zdl n C u v ow root far fr dn ord cnt (λc=>dn c=true/\c≠e)
 lt:e<n
 dne:dn e=true
 free:ow e=-1
 last:∀c,c<n->dn c=true->far c<=far e
 small:far e<=2000000
structure zqv (n:Nat) (u v ow:Nat->Int) (root:Nat) (far:Nat->Int) (dn:Nat->Bool) (D:Int) (u' v':Nat->Int):Prop where
 ur:u' root=u root+D
 uo:∀c,c<n->dn c=true->ow c≠-1->u' (ow c).toNat=u (ow c).toNat+(D-far c)
 us:∀i,i<n->i≠root->(∀c,c<n->dn c=true->ow c≠(i:Int))->u' i=u i
 vd:∀c,c<n->dn c=true->ow c≠-1->v' c=v c-(D-far c)
 vs:∀c,c<n->¬(dn c=true/\ow c≠-1)->v' c=v c
structure zp2 (n:Nat) (ow fr:Nat->Int) (root e:Nat) (W:Nat->Prop) (j:Nat) (ow':Nat->Int):Prop where
 jlt:j<n
 jw:¬W j
 jr:fr j=-1
 oj:ow' j=root
 gw:∀c,c<n->W c->∃d:Nat,d<n/\fr c=d/\ow' c=ow d/\(W d\/d=j)
 gs:∀c,c<n->¬W c->c≠j->ow' c=ow c
 one:∀c d,c<n->d<n->W c->W d->fr c=fr d->c=d
 led:∀c,c<n->W c\/c=j->c≠e->∃d,d<n/\W d/\fr d=(c:Int)
 gd:∀c,c<n->W c\/c=j->c=e\/ow c≠-1
theorem zrD{n:Nat}{C:Nat->Nat->Int}{u v ow:Nat->Int}{root:Nat}{far fr:Nat->Int}{dn:Nat->Bool}{ord:Nat->Nat}{cnt e j:Nat}{u' v' ow':Nat->Int}{W:Nat->Prop}(ht:zdU n C u v ow root)(hrn:root<n)(he:zi5 n C u v ow root far fr dn ord cnt e)(ac:zqv n u v ow root far dn (far e) u' v')(hg:zp2 n ow fr root e W j ow')(an:∀c,c<n->W c\/c=j->dn c=true):zdU n C u' v' ow' (root+1):=by
 have hi:=he.inv;have aw:far e≠-1:=hi.known e he.lt he.dne;have av:0<=far e:=by rcases hi.pos e he.lt with h|h;exact absurd h aw;exact h
 have al:∀c,c<n->dn c=true->0<=far e-far c/\0<=far c:=λc hc h=>by
  have h1:=he.last c hc h;have h2:=hi.known c hc h;rcases hi.pos c hc with h3|h3
  ·exact absurd h3 h2
  omega
 have ae:∀c,c<n->ow c≠-1->∃i:Nat,ow c=i/\i<root/\C i c≠-1/\u i+v c=C i c:=λc hc h=>by
  rcases ht.own c hc with h1|h1
  ·exact absurd h1 h
  exact h1
 have hP:∀c,c<n->dn c=true->ow c≠-1->dn c=true/\c≠e:=λc _ h1 h2=>⟨h1,λe2=>h2 (by rw[e2];exact he.free)⟩
 have ak:∀i,i<n->(∃d:Int,u' i=u i+(far e-d)/\0<=d/\d<=far e/\∀k,k<n->C i k≠-1->far k≠-1/\far k<=d+C i k-u i-v k)\/u' i=u i:=λi ab=>by
  by_cases h1:i=root
  ·left;refine⟨0,by rw[h1,ac.ur];omega,Int.le_refl _,av,λk hk h2=>?_⟩;rw[h1] at h2⊢;have:=hi.rootRow k hk h2;exact⟨this.1,by omega⟩
  by_cases h2:∃c,c<n/\dn c=true/\ow c=(i:Int)
  ·obtain⟨c,hc,h3,h4⟩:=h2;have aj:ow c≠-1:=by rw[h4];omega
   left;refine⟨far c,?_,(al c hc h3).2,he.last c hc h3,λk hk h5=>?_⟩
   ·have:=ac.uo c hc h3 aj;rw[h4] at this;simpa using this
   have:=hi.row c hc (hP c hc h3 aj) k hk (by rw[h4];simpa using h5);rw[h4] at this;simpa using this
  right;exact ac.us i ab h1 (λc hc h3 h4=>h2 ⟨c,hc,h3,h4⟩)
 have ad:∀k,k<n->(dn k=true/\v' k=v k-(far e-far k))\/(dn k=false/\v' k=v k):=λk hk=>by
  cases hd:dn k
  ·right;exact⟨rfl,ac.vs k hk (by rw[hd];simp)⟩
  left;refine⟨rfl,?_⟩;by_cases h1:ow k=-1
  ·rw[ac.vs k hk (by simp[h1])];have h2:k=e:=by
    by_cases h3:k=e
    ·exact h3
    exact absurd h1 (hi.sub k hk ⟨hd,h3⟩).2
   rw[h2];omega
  exact ac.vd k hk hd h1
 have under:∀i k,i<n->k<n->C i k≠-1->u' i+v' k<=C i k:=λi k ab hk h1=>by
  have h0:=ht.under i k ab hk h1;rcases ak i ab with ⟨d,h2,h3,h4,h5⟩|h2
  ·have h6:=h5 k hk h1;rcases ad k hk with ⟨h7,h8⟩|⟨h7,h8⟩
   ·rw[h2,h8];omega
   have h9:=hi.mon e he.lt he.dne k hk h7 h6.1;rw[h2,h8];omega
  rcases ad k hk with ⟨h7,h8⟩|⟨_,h8⟩
  ·have:=(al k hk h7).1;rw[h2,h8];omega
  rw[h2,h8];exact h0
 have ao:∀c,c<n->ow c≠-1->∀i:Nat,ow c=i->u' i+v' c=u i+v c:=λc hc h1 i h2=>by
  obtain⟨i',e1,ai,_,_⟩:=ae c hc h1;have ax:i'=i:=by rw[e1] at h2;omega
  subst ax;cases hd:dn c
  ·rw[ac.vs c hc (by rw[hd];simp),ac.us i' (by omega) (by omega) (λk hk h3 h4=>by have:=ht.inj k c hk hc (by rw[h4,h2]) (by rw[h4];omega);rw[this,hd] at h3;cases h3)]
  have h3:=ac.uo c hc hd h1;rw[h2] at h3;simp only[Int.toNat_natCast] at h3;rw[h3,ac.vd c hc hd h1];omega
 have ay:∀k,k<n->v' k<=v k:=λk hk=>by
  rcases ad k hk with ⟨h1,h2⟩|⟨_,h2⟩
  ·have:=(al k hk h1).1;rw[h2];omega
  rw[h2];exact Int.le_refl _
 have ap:∀i,i<n->u i<=u' i/\u' i<=u i+2000000:=λi ab=>by
  have:=he.small;rcases ak i ab with ⟨d,h1,h2,h3,_⟩|h1
  ·rw[h1];omega
  rw[h1];omega
 have ag:∀c,c<n->ow' c=-1\/∃i:Nat,ow' c=i/\i<root+1/\C i c≠-1/\u' i+v' c=C i c:=λc hc=>by
  by_cases hw:W c
  ·obtain⟨d,hdn',h1,h2,_⟩:=hg.gw c hc hw;have af:=an c hc (.inl hw);rcases hi.way c hc (hi.known c hc af) with ⟨h3,_⟩|⟨c',ah,h3,h4,_,h6,h7⟩
   ·rw[h1] at h3;omega
   have aq:c'=d:=by rw[h1] at h3;omega
   subst aq;have aj:=(hi.sub c' ah h4).2;obtain⟨i,e1,ai,_,_⟩:=ae c' ah aj;right;refine⟨i,by rw[h2,e1],by omega,by rw[e1] at h6;simpa using h6,?_⟩;have h8:=ac.uo c' ah h4.1 aj;rw[e1] at h7 h8;simp only[Int.toNat_natCast] at h7 h8;rcases ad c hc with ⟨_,h9⟩|⟨h9,_⟩
   ·rw[h8,h9];omega
   rw[h9] at af;cases af
  by_cases hj:c=j
  ·subst hj;have af:=an c hc (.inr rfl);rcases hi.way c hc (hi.known c hc af) with ⟨_,h4,h5⟩|⟨c',ah,h3,_⟩
   ·right;refine⟨root,hg.oj,by omega,h4,?_⟩;rcases ad c hc with ⟨_,h9⟩|⟨h9,_⟩
    ·rw[ac.ur,h9];omega
    rw[h9] at af;cases af
   rw[hg.jr] at h3;omega
  rw[hg.gs c hc hw hj];by_cases h1:ow c=-1
  ·exact .inl h1
  obtain⟨i,e1,ai,h2,h3⟩:=ae c hc h1;exact .inr ⟨i,e1,by omega,h2,by rw[ao c hc h1 i e1];exact h3⟩
 have aa:∀c,c<n->ow c≠(root:Int):=λc hc h=>by
  by_cases h1:ow c=-1
  ·omega
  obtain⟨i,e1,ai,_⟩:=ae c hc h1;omega
 have am:∀c,c<n->(W c/\∃d:Nat,d<n/\fr c=d/\ow' c=ow d/\(W d\/d=j))\/(c=j/\ow' c=root)\/(¬W c/\c≠j/\ow' c=ow c):=λc hc=>by
  by_cases hw:W c
  ·exact .inl ⟨hw,hg.gw c hc hw⟩
  by_cases hj:c=j
  ·exact .inr (.inl ⟨hj,by rw[hj];exact hg.oj⟩)
  exact .inr (.inr ⟨hw,hj,hg.gs c hc hw hj⟩)
 have inj:∀c k,c<n->k<n->ow' c=ow' k->ow' c≠-1->c=k:=λc k hc hk h1 h2=>by
  rcases am c hc with ⟨w1,d,d1,d2,d3,d4⟩|⟨w1,d3⟩|⟨w1,w2,d3⟩<;>rcases am k hk with ⟨x1,f,f1,f2,f3,f4⟩|⟨x1,f3⟩|⟨x1,x2,f3⟩
  ·have:d=f:=ht.inj d f d1 f1 (by rw[<-d3,<-f3];exact h1) (by rw[<-d3];exact h2);exact hg.one c k hc hk w1 x1 (by rw[d2,f2,this])
  ·rw[d3,f3] at h1;exact absurd h1 (aa d d1)
  ·have:d=k:=ht.inj d k d1 hk (by rw[<-d3,<-f3];exact h1) (by rw[<-d3];exact h2);rw[this] at d4;rcases d4 with d4|d4
   ·exact absurd d4 x1
   exact absurd d4 x2
  ·rw[d3,f3] at h1;exact absurd h1.symm (aa f f1)
  ·rw[w1,x1]
  ·rw[d3,f3] at h1;exact absurd h1.symm (aa k hk)
  ·have:c=f:=ht.inj c f hc f1 (by rw[<-d3,<-f3];exact h1) (by rw[<-d3];exact h2);rw[<-this] at f4;rcases f4 with f4|f4
   ·exact absurd f4 w1
   exact absurd f4 w2
  ·rw[d3,f3] at h1;exact absurd h1 (aa c hc)
  exact ht.inj c k hc hk (by rw[<-d3,<-f3];exact h1) (by rw[<-d3];exact h2)
 refine⟨under,ag,inj,λk hk h=>?_,λk hk=>?_,λi ab=>?_,λi ab h=>?_,λi ai=>?_,λi ab=>?_,λk hk=>?_⟩
 · -- a free column was free
  have h1:ow k=-1:=by
   rcases am k hk with ⟨w1,d,d1,d2,d3,d4⟩|⟨w1,d3⟩|⟨w1,w2,d3⟩
   ·rw[d3] at h;have au:d≠e:=λe2=>by
     have af:=an k hk (.inl w1);rcases hi.way k hk (hi.known k hk af) with ⟨h3,_⟩|⟨c',ah,h3,h4,_⟩
     ·rw[d2] at h3;omega
     have:c'=d:=by rw[d2] at h3;omega
     rw[this] at h4;exact h4.2 e2
    rcases hg.gd d d1 d4 with h2|h2
    ·exact absurd h2 au
    exact absurd h h2
   ·omega
   rw[<-d3];exact h
  have h2:=ht.free k hk h1;have h3:v' k=v k:=ac.vs k hk (by simp[h1]);rw[h3,h2]
 ·have:=ay k hk;have:=ht.vneg k hk;omega
 ·have:=(ap i ab).1;have:=ht.upos i ab;omega
 ·rw[ac.us i ab (by omega) (λc hc _ h4=>by
   by_cases h5:ow c=-1
   ·omega
   obtain⟨i',e1,ai,_⟩:=ae c hc h5;omega)]
  exact ht.uzero i ab (by omega)
 ·by_cases h1:i=root
  ·exact⟨j,hg.jlt,by rw[h1];exact hg.oj⟩
  obtain⟨c,hc,h2⟩:=ht.all i (by omega);by_cases h3:W c\/c=j
  ·have ar:c≠e:=λe2=>by rw[e2,he.free] at h2;omega
   obtain⟨d,hd,hw,hf⟩:=hg.led c hc h3 ar;obtain⟨d',d1,d2,d3,_⟩:=hg.gw d hd hw;have:d'=c:=by rw[hf] at d2;omega
   exact⟨d,hd,by rw[d3,this,h2]⟩
  exact⟨c,hc,by rw[hg.gs c hc (λh=>h3 (.inl h)) (λh=>h3 (.inr h)),h2]⟩
 ·have h1:=(ap i ab).2;have h2:=ht.ubd i ab;have:((root+1:Nat):Int)*2000000=(root:Int)*2000000+2000000:=by omega
  omega
 have h2:=ht.vbd k hk;have h3:=he.small;have:((root+1:Nat):Int)*2000000=(root:Int)*2000000+2000000:=by omega
 rcases ad k hk with ⟨h4,h5⟩|⟨_,h5⟩
 ·have:=(al k hk h4);rw[h5];omega
 rw[h5];omega
def rzU(ow far:Nat->Int)(dn:Nat->Bool)(D:Int)(u0:Nat->Int):Nat->Nat->Int
 | 0=>u0
 | k+1=>if dn k=true/\ow k≠-1 then up1 (rzU ow far dn D u0 k) (ow k).toNat (rzU ow far dn D u0 k (ow k).toNat+(D-far k)) else rzU ow far dn D u0 k
def rzV(ow far:Nat->Int)(dn:Nat->Bool)(D:Int)(v0:Nat->Int):Nat->Nat->Int
 | 0=>v0
 | k+1=>if dn k=true/\ow k≠-1 then up1 (rzV ow far dn D v0 k) k (rzV ow far dn D v0 k k-(D-far k)) else rzV ow far dn D v0 k
theorem zmK(ow far:Nat->Int)(dn:Nat->Bool)(D:Int)(v0:Nat->Int)(k c:Nat):rzV ow far dn D v0 k c=if c<k/\dn c=true/\ow c≠-1 then v0 c-(D-far c) else v0 c:=by
 induction k with
 | zero=>unfold rzV;rw[if_neg (by omega)]
 | succ k ih=>
  unfold rzV;by_cases h:dn k=true/\ow k≠-1
  ·rw[if_pos h];unfold up1;by_cases e:c=k
   ·subst e;rw[if_pos rfl,if_pos ⟨by omega,h⟩,ih,if_neg (by omega)]
   rw[if_neg e,ih];by_cases h2:c<k/\dn c=true/\ow c≠-1
   ·rw[if_pos h2,if_pos ⟨by omega,h2.2⟩]
   rw[if_neg h2,if_neg (λh3=>h2 ⟨by omega,h3.2⟩)]
  rw[if_neg h,ih];by_cases h2:c<k/\dn c=true/\ow c≠-1
  ·rw[if_pos h2,if_pos ⟨by omega,h2.2⟩]
  rw[if_neg h2,if_neg];rintro⟨h3,h4⟩;by_cases e:c=k
  ·subst e;exact h h4
  exact h2 ⟨by omega,h4⟩
theorem zqE{n:Nat}{C:Nat->Nat->Int}{u v ow:Nat->Int}{root:Nat}{far:Nat->Int}{dn:Nat->Bool}{D:Int}(ht:zdU n C u v ow root):zqv n u v ow root far dn D (rzU ow far dn D (up1 u root (u root+D)) n) (rzV ow far dn D v n):=by
 have ac:∀c,c<n->ow c≠-1->∃i:Nat,ow c=i/\i<root:=λc hc h=>by
  rcases ht.own c hc with h1|⟨i,h1,h2,_⟩
  ·exact absurd h1 h
  exact⟨i,h1,h2⟩
 have ae:∀k,k<=n->rzU ow far dn D (up1 u root (u root+D)) k root=u root+D/\(∀c,c<k->dn c=true->ow c≠-1->rzU ow far dn D (up1 u root (u root+D)) k (ow c).toNat=u (ow c).toNat+(D-far c))/\(∀i,i≠root->(∀c,c<k->dn c=true->ow c≠(i:Int))->rzU ow far dn D (up1 u root (u root+D)) k i=u i):=by
  intro k;induction k with
  | zero=>intro _;refine⟨by unfold rzU up1;simp,λc h=>absurd h (by omega),λi h _=>?_⟩;unfold rzU up1;rw[if_neg h]
  | succ k ih=>
   intro hk;obtain⟨h1,h2,h3⟩:=ih (by omega);unfold rzU;by_cases h:dn k=true/\ow k≠-1
   ·rw[if_pos h];obtain⟨i,e1,hir⟩:=ac k (by omega) h.2;have ad:(ow k).toNat=i:=by rw[e1];simp
    have ab:rzU ow far dn D (up1 u root (u root+D)) k i=u i:=h3 i (by omega) (λc hc hd e2=>by have:=ht.inj c k (by omega) (by omega) (by rw[e2,e1]) (by rw[e2];omega);omega);rw[ad,ab];refine⟨?_,λc hc hd ho=>?_,λx hx aa=>?_⟩
    ·unfold up1;rw[if_neg (by omega)];exact h1
    ·by_cases e:c=k
     ·subst e;rw[ad];unfold up1;rw[if_pos rfl]
     obtain⟨ic,e2,_⟩:=ac c (by omega) ho;have:ic≠i:=λe3=>e (ht.inj c k (by omega) (by omega) (by rw[e2,e1,e3]) ho);rw[show (ow c).toNat=ic by rw[e2];simp];unfold up1;rw[if_neg this];have:=h2 c (by omega) hd ho;rw[show (ow c).toNat=ic by rw[e2];simp] at this;exact this
    unfold up1;rw[if_neg (λe=>aa k (by omega) h.1 (by rw[e1,e]))];exact h3 x hx (λc hc=>aa c (by omega))
   rw[if_neg h];refine⟨h1,λc hc hd ho=>?_,λx hx aa=>h3 x hx (λc hc=>aa c (by omega))⟩;by_cases e:c=k
   ·subst e;exact absurd ⟨hd,ho⟩ h
   exact h2 c (by omega) hd ho
 obtain⟨h1,h2,h3⟩:=ae n (Nat.le_refl _);refine⟨h1,h2,λi _ hr aa=>h3 i hr aa,λc hc hd ho=>?_,λc _ h=>?_⟩
 ·rw[zmK,if_pos ⟨hc,hd,ho⟩]
 rw[zmK,if_neg (λh2=>h h2.2)]
theorem zv4{n:Nat}{C:Nat->Nat->Int}{u v ow:Nat->Int}{root:Nat}{far:Nat->Int}{dn:Nat->Bool}{D:Int}(ht:zdU n C u v ow root)(hD:0<=D/\D<=2000000)(hf:∀c,c<n->dn c=true->0<=far c/\far c<=D)(hr:root<n)(hn:n<=10):∀k,k<=n->∀i,i<n->0<=rzU ow far dn D (up1 u root (u root+D)) k i/\rzU ow far dn D (up1 u root (u root+D)) k i<=20000000+(k+1)*2000000:=by
 intro k;induction k with
 | zero=>
  intro _ i hi;have h1:=ht.upos i hi;have h2:=ht.ubd i hi;have h3:(root:Int)*2000000<=20000000:=by omega
  unfold rzU up1;split
  ·rename_i e;rw[<-e];omega
  omega
 | succ k ih=>
  intro hk i hi;have h1:=ih (by omega) i hi;rw[rzU];generalize rzU ow far dn D (up1 u root (u root+D)) k=U at*;split
  ·rename_i h;unfold up1;split
   ·rename_i e;have h2:=hf k (by omega) h.1;rw[<-e];omega
   omega
  omega
structure zmO (n:Nat) (ow fr:Nat->Int) (dn:Nat->Bool) (ord:Nat->Nat) (e:Nat) (W:Nat->Prop) (j:Nat) (OW:Nat->Int):Prop where
 jlt:j<n
 jw:¬W j
 gw:∀c,c<n->W c->∃d:Nat,d<n/\fr c=d/\OW c=ow d/\(W d\/d=j)
 gs:∀c,c<n->¬W c->OW c=ow c
 one:∀c d,c<n->d<n->W c->W d->fr c=fr d->c=d
 led:∀c,c<n->W c\/c=j->c≠e->∃d,d<n/\W d/\fr d=(c:Int)
 gd:∀c,c<n->W c\/c=j->(c=e\/ow c≠-1)/\dn c=true
 up:∀c,c<n->W c->ord j<ord c
 fro:∀c,c<n->W c->∀d:Nat,fr c=d->ord j<=ord d
theorem zqa{n:Nat}{C:Nat->Nat->Int}{u v ow:Nat->Int}{root:Nat}{far fr:Nat->Int}{dn:Nat->Bool}{ord:Nat->Nat}{cnt e:Nat}(he:zi5 n C u v ow root far fr dn ord cnt e):zmO n ow fr dn ord e (λ_=>False) e ow:=
 ⟨he.lt,λh=>h,λ_ _ h=>h.elim,λ_ _ _=>rfl,λ_ _ _ _ h=>h.elim,λc _ h hne=>by rcases h with h|h;exact h.elim;exact absurd h hne,λc _ h=>by
  rcases h with h|h
  ·exact h.elim
  rw[h];exact⟨.inl rfl,he.dne⟩,λ_ _ h=>h.elim,λ_ _ h=>h.elim⟩
theorem zqU{n:Nat}{C:Nat->Nat->Int}{u v ow:Nat->Int}{root:Nat}{far fr:Nat->Int}{dn:Nat->Bool}{ord:Nat->Nat}{cnt e j:Nat}{W:Nat->Prop}{OW:Nat->Int}(he:zi5 n C u v ow root far fr dn ord cnt e)(hg:zmO n ow fr dn ord e W j OW)(hf:fr j≠-1):∃d:Nat,d<n/\fr j=d/\ord d<ord j/\zmO n ow fr dn ord e (λc=>W c\/c=j) d (up1 OW j (OW d)):=by
 have af:=(hg.gd j hg.jlt (.inr rfl)).2;rcases he.inv.way j hg.jlt (he.inv.known j hg.jlt af) with ⟨h1,_⟩|⟨d,hd,h1,h2,h3,_⟩
 ·exact absurd h1 hf
 have ac:=h3 af;have ae:¬W d:=λh=>by have:=hg.up d hd h;omega
 have ag:d≠j:=λe2=>by rw[e2] at ac;omega
 refine⟨d,hd,h1,ac,hd,?_,λc hc hw=>?_,λc hc hw=>?_,λc c' hc ad hw aa ab=>?_,λc hc hw ah=>?_,λc hc hw=>?_,λc hc hw=>?_,λc hc hw x hx=>?_⟩
 ·rintro (h|h)
  ·exact ae h
  exact ag h
 ·rcases hw with hw|hw
  ·obtain⟨x,x1,x2,x3,x4⟩:=hg.gw c hc hw;refine⟨x,x1,x2,?_,.inl x4⟩;unfold up1;rw[if_neg (λe2=>by rw[e2] at hw;exact hg.jw hw)];exact x3
  subst hw;refine⟨d,hd,h1,?_,.inr rfl⟩;unfold up1;rw[if_pos rfl];exact hg.gs d hd ae
 ·unfold up1;rw[if_neg (λe2=>hw (.inr e2))];exact hg.gs c hc (λh=>hw (.inl h))
 ·rcases hw with hw|hw<;>rcases aa with aa|aa
  ·exact hg.one c c' hc ad hw aa ab
  ·exfalso;rw[aa,h1] at ab;have:=hg.fro c hc hw d ab;omega
  ·exfalso;rw[hw,h1] at ab;have:=hg.fro c' ad aa d ab.symm;omega
  ·rw[hw,aa]
 ·rcases hw with hw|hw
  ·obtain⟨x,x1,x2,x3⟩:=hg.led c hc hw ah;exact⟨x,x1,.inl x2,x3⟩
  exact⟨j,hg.jlt,.inr rfl,by rw[h1,hw]⟩
 ·rcases hw with hw|hw
  ·exact hg.gd c hc hw
  rw[hw];exact⟨.inr (he.inv.sub d hd h2).2,h2.1⟩
 ·rcases hw with hw|hw
  ·have:=hg.up c hc hw;omega
  rw[hw];exact ac
 rcases hw with hw|hw
 ·have:=hg.fro c hc hw x hx;omega
 rw[hw,h1] at hx;have:x=d:=by omega
 rw[this];omega
theorem zup{n:Nat}{C:Nat->Nat->Int}{u v ow:Nat->Int}{root:Nat}{far fr:Nat->Int}{dn:Nat->Bool}{ord:Nat->Nat}{cnt e j:Nat}{W:Nat->Prop}{OW:Nat->Int}(_he:zi5 n C u v ow root far fr dn ord cnt e)(hg:zmO n ow fr dn ord e W j OW)(hf:fr j=-1):zp2 n ow fr root e W j (up1 OW j (root:Int))/\∀c,c<n->W c\/c=j->dn c=true:=by
 refine⟨⟨hg.jlt,hg.jw,hf,by unfold up1;simp,λc hc hw=>?_,λc hc hw aa=>?_,hg.one,hg.led,λc hc hw=>(hg.gd c hc hw).1⟩,λc hc hw=>(hg.gd c hc hw).2⟩
 ·obtain⟨x,x1,x2,x3,x4⟩:=hg.gw c hc hw;refine⟨x,x1,x2,?_,x4⟩;unfold up1;rw[if_neg (λe2=>by rw[e2] at hw;exact hg.jw hw)];exact x3
 unfold up1;rw[if_neg aa];exact hg.gs c hc hw
theorem zbk:∀(L M:List Nat),L.Nodup->(∀x∈L,x∈M)->L.length<=M.length:=by
 intro L;induction L with
 | nil=>intro M _ _;simp
 | cons a L ih=>intro M hd h;have ha:a∈M:=h a (by simp);have aa:=List.nodup_cons.1 hd;have h1:=ih (M.erase a) aa.2 (λx hx=>by have ab:x≠a:=λe=>aa.1 (e▸hx);exact(List.mem_erase_of_ne ab).2 (h x (by simp[hx])));rw[List.length_erase_of_mem ha] at h1;have:0<M.length:=List.length_pos_of_mem ha;simp;omega
def zQ(f:Nat->Int):List Nat->Int
 | []=>0
 | x::r=>f x+zQ f r
theorem zd4(f:Nat->Int)(a b:List Nat):zQ f (a++b)=zQ f a+zQ f b:=by
 induction a with
 | nil=>simp[zQ]
 | cons x a ih=>simp only[List.cons_append,zQ,ih];omega
theorem zpg(f:Nat->Int):∀(L:List Nat)(x:Nat),x∈L->zQ f L=f x+zQ f (L.erase x):=by
 intro L;induction L with
 | nil=>intro x h;cases h
 | cons a L ih=>
  intro x h;by_cases e:a=x
  ·subst e;simp[zQ]
  have hx:x∈L:=by
   rcases List.mem_cons.1 h with h|h
   ·exact absurd h.symm e
   exact h
  rw[List.erase_cons_tail (by simpa using e)];simp only[zQ];rw[ih x hx];omega
theorem zgS(f:Nat->Int):∀(n:Nat)(L:List Nat),L.Nodup->(∀x∈L,x<n)->L.length=n->zQ f L=zQ f (List.range n):=by
 intro n;induction n with
 | zero=>intro L _ _ h;cases L with
  | nil=>rfl
  | cons x r=>simp at h
 | succ n ih=>
  intro L hd h hl;have hn:n∈L:=by apply Classical.byContradiction;intro aa;have h1:=zbk L (List.range n) hd (λx hx=>by have:=h x hx;have:x≠n:=λe=>aa (e▸hx);simp;omega);simp at h1;omega
  rw[zpg f L n hn,List.range_succ,zd4,ih (L.erase n) (hd.erase n) (λx hx=>by have h2:=(hd.mem_erase_iff).1 hx;have:=h x h2.2;have:=h2.1;omega) (by rw[List.length_erase_of_mem hn];omega)];simp[zQ];omega
theorem ziQ(f:Nat->Int)(g:Nat->Nat)(L:List Nat):zQ f (L.map g)=zQ (λx=>f (g x)) L:=by
 induction L with
 | nil=>rfl
 | cons x L ih=>simp[zQ,ih]
theorem zeN{f g:Nat->Int}{L:List Nat}(h:∀x∈L,f x=g x):zQ f L=zQ g L:=by
 induction L with
 | nil=>rfl
 | cons x L ih=>simp only[zQ];rw[h x (by simp),ih (λy hy=>h y (by simp[hy]))]
theorem zi0(f g:Nat->Int)(L:List Nat):zQ (λx=>f x+g x) L=zQ f L+zQ g L:=by
 induction L with
 | nil=>rfl
 | cons x L ih=>simp only[zQ,ih];omega
theorem zkV{n:Nat}{C:Nat->Nat->Int}{u v ow:Nat->Int}(ht:zdU n C u v ow n):∀j,j<n->∃i:Nat,ow j=i/\i<n/\C i j≠-1/\u i+v j=C i j:=by
 intro j hj;rcases ht.own j hj with h|h
 ·exfalso;have aa:∀i,∃c,i<n->c<n/\ow c=(i:Int):=λi=>by
   by_cases hi:i<n
   ·obtain⟨c,h1,h2⟩:=ht.all i hi;exact⟨c,λ_=>⟨h1,h2⟩⟩
   exact⟨0,λh=>absurd h hi⟩
  obtain⟨g,hg⟩:=Classical.axiomOfChoice aa;have ab:(j::(List.range n).map g).Nodup:=by
   rw[List.nodup_cons];refine⟨λhm=>?_,?_⟩
   ·obtain⟨i,hi,e⟩:=List.mem_map.1 hm;have:=(hg i (by simpa using hi)).2;rw[e,h] at this;omega
   rw[List.nodup_iff_pairwise_ne,List.pairwise_map];refine List.Pairwise.imp_of_mem ?_ (List.nodup_iff_pairwise_ne.1 List.nodup_range);intro a b ha hb ac e;have h1:=(hg a (by simpa using ha)).2;have h2:=(hg b (by simpa using hb)).2;rw[e,h2] at h1;exact ac (by omega)
  have:=zbk _ (List.range n) ab (λx hx=>by
   rcases List.mem_cons.1 hx with h1|h1
   ·rw[h1];simpa using hj
   obtain⟨i,hi,e⟩:=List.mem_map.1 h1;rw[<-e];simpa using(hg i (by simpa using hi)).1)
  simp at this;omega
 exact h
def zcY(ow:Nat->Int):Nat->Nat->Int
 | 0=>λ_=>0
 | k+1=>up1 (zcY ow k) (ow k).toNat (k:Int)
def zdV(ow x:Nat->Int):Nat->Nat->Int
 | 0=>λ_=>0
 | k+1=>up1 (zdV ow x k) (ow k).toNat (x (ow k).toNat)
theorem zu1{n:Nat}{ow:Nat->Int}(hi:∀j,j<n->∃i:Nat,ow j=i)(aa:∀j k,j<n->k<n->ow j=ow k->j=k):∀k,k<=n->∀c,c<k->zcY ow k (ow c).toNat=c:=by
 intro k;induction k with
 | zero=>intro _ c h;omega
 | succ k ih=>
  intro hk c hc;unfold zcY up1;by_cases e:c=k
  ·rw[e,if_pos rfl]
  obtain⟨a,ha⟩:=hi c (by omega);obtain⟨b,hb⟩:=hi k (by omega);rw[if_neg (λh=>e (aa c k (by omega) (by omega) (by rw[ha,hb] at h⊢;simp at h;rw[h])))];exact ih (by omega) c (by omega)
theorem zu3(ow x:Nat->Int):∀k c,c<k->zdV ow x k (ow c).toNat=x (ow c).toNat:=by
 intro k;induction k with
 | zero=>intro c h;omega
 | succ k ih=>
  intro c hc;unfold zdV up1;by_cases e:(ow c).toNat=(ow k).toNat
  ·rw[if_pos e,e]
  rw[if_neg e];by_cases e2:c=k
  ·subst e2;exact absurd rfl e
  exact ih c (by omega)
structure zdd (n:Nat) (C:Nat->Nat->Int) (col u v:Nat->Int) (cost:Int):Prop where
 tcol:∀i,i<n->∃k:Nat,col i=k/\k<n/\C i k≠-1
 one:∀i j,i<n->j<n->col i=col j->i=j
 under:∀i j,i<n->j<n->C i j≠-1->u i+v j<=C i j
 tcost:cost=zQ (λi=>C i (col i).toNat) (List.range n)
 sum:cost=zQ (λi=>u i+v i) (List.range n)
 ubd:∀i,i<n->-100000000<=u i/\u i<=100000000
 vbd:∀i,i<n->-100000000<=v i/\v i<=100000000
theorem zoG{n:Nat}{C:Nat->Nat->Int}{u v ow:Nat->Int}(hn:n<=10)(ht:zdU n C u v ow n):zdd n C (zcY ow n) u v (zQ (λc=>C (ow c).toNat c) (List.range n))/\(∀i,i<n->zdV ow u n i=u i):=by
 have ha:=zkV ht;have ac:∀j k,j<n->k<n->ow j=ow k->j=k:=λj k hj hk e=>ht.inj j k hj hk e (by obtain⟨i,h,_⟩:=ha j hj;rw[h];omega);have ag:=zu1 (λj hj=>by obtain⟨i,h,_⟩:=ha j hj;exact⟨i,h⟩) ac n (Nat.le_refl _);have ad:∀i,i<n->∃c,c<n/\ow c=(i:Int):=λi hi=>ht.all i hi;have ab:∀i,i<n->∃c,c<n/\ow c=(i:Int)/\zcY ow n i=c:=λi hi=>by obtain⟨c,h1,h2⟩:=ad i hi;refine⟨c,h1,h2,?_⟩;have:=ag c h1;rw[h2] at this;simpa using this
 have ah:((List.range n).map λc=>(ow c).toNat).Nodup:=by rw[List.nodup_iff_pairwise_ne,List.pairwise_map];refine List.Pairwise.imp_of_mem ?_ (List.nodup_iff_pairwise_ne.1 List.nodup_range);intro a b ae af ai e;obtain⟨x,hx,_⟩:=ha a (by simpa using ae);obtain⟨y,hy,_⟩:=ha b (by simpa using af);rw[hx,hy] at e;simp at e;exact ai (ac a b (by simpa using ae) (by simpa using af) (by rw[hx,hy,e]))
 have aa:∀f:Nat->Int,zQ (λc=>f (ow c).toNat) (List.range n)=zQ f (List.range n):=λf=>by rw[<-ziQ f (λc=>(ow c).toNat)];refine zgS f n _ ah (λx hx=>?_) (by simp);obtain⟨c,hc,e⟩:=List.mem_map.1 hx;obtain⟨i,h1,h2,_⟩:=ha c (by simpa using hc);rw[<-e,h1];simpa using h2
 refine⟨⟨λi hi=>?_,λi j hi hj e=>?_,ht.under,?_,?_,λi hi=>?_,λj hj=>?_⟩,λi hi=>?_⟩
 ·obtain⟨c,h1,h2,h3⟩:=ab i hi;obtain⟨i',e1,_,h4,_⟩:=ha c h1;have:i'=i:=by rw[h2] at e1;omega
  exact⟨c,h3,h1,by rw[<-this];exact h4⟩
 ·obtain⟨c,h1,h2,h3⟩:=ab i hi;obtain⟨d,g1,g2,g3⟩:=ab j hj;rw[h3,g3] at e;have:c=d:=by omega
  rw[this,g2] at h2;omega
 ·rw[<-aa (λi=>C i (zcY ow n i).toNat)];refine zeN λc hc=>?_;rw[ag c (by simpa using hc)];simp
 ·rw[zi0 u v,<-aa u,<-zi0];refine zeN λc hc=>?_;obtain⟨i,h1,_,_,h4⟩:=ha c (by simpa using hc);rw[h1];simp only[Int.toNat_natCast];omega
 ·have:=ht.upos i hi;have:=ht.ubd i hi;have:(n:Int)*2000000<=20000000:=by omega
  omega
 ·have:=ht.vneg j hj;have:=ht.vbd j hj;have:(n:Int)*2000000<=20000000:=by omega
  omega
 obtain⟨c,h1,h2⟩:=ad i hi;have:=zu3 ow u n c h1;rw[h2] at this;simpa using this
structure zhT (n:Nat) (C:Nat->Nat->Int) (S T:Nat->Bool):Prop where
 open_:∀i j,i<n->j<n->S i=true->C i j≠-1->T j=true
 few:((List.range n).filter T).length<((List.range n).filter S).length
def shS(ow:Nat->Int)(dn:Nat->Bool)(root:Nat):Nat->Nat->Bool
 | 0=>up1 (λ_=>false) root true
 | k+1=>if dn k=true then up1 (shS ow dn root k) (ow k).toNat true else shS ow dn root k
theorem zlw(ow:Nat->Int)(dn:Nat->Bool)(root:Nat):∀k i,shS ow dn root k i=true↔i=root\/∃c,c<k/\dn c=true/\(ow c).toNat=i:=by
 intro k;induction k with
 | zero=>
  intro i;unfold shS up1;by_cases h:i=root
  ·simp[h]
  simp[h]
 | succ k ih=>
  intro i;unfold shS;by_cases hd:dn k=true
  ·rw[if_pos hd];unfold up1;by_cases e:i=(ow k).toNat
   ·rw[if_pos e];exact⟨λ_=>.inr ⟨k,by omega,hd,e.symm⟩,λ_=>rfl⟩
   rw[if_neg e,ih i];constructor
   ·rintro (h|⟨c,h1,h2,h3⟩)
    ·exact .inl h
    exact .inr ⟨c,by omega,h2,h3⟩
   rintro (h|⟨c,h1,h2,h3⟩)
   ·exact .inl h
   refine .inr ⟨c,?_,h2,h3⟩;by_cases e2:c=k
   ·subst e2;exact absurd h3.symm e
   omega
  rw[if_neg hd,ih i];constructor
  ·rintro (h|⟨c,h1,h2,h3⟩)
   ·exact .inl h
   exact .inr ⟨c,by omega,h2,h3⟩
  rintro (h|⟨c,h1,h2,h3⟩)
  ·exact .inl h
  refine .inr ⟨c,?_,h2,h3⟩;by_cases e2:c=k
  ·subst e2;exact absurd h2 hd
  omega
theorem zpI{n:Nat}{C:Nat->Nat->Int}{u v ow:Nat->Int}{root:Nat}{far fr:Nat->Int}{dn:Nat->Bool}{ord:Nat->Nat}{cnt:Nat}(ht:zdU n C u v ow root)(hr:root<n)(h:zdl n C u v ow root far fr dn ord cnt (λc=>dn c=true))(ah:∀c,c<n->dn c=true\/far c=-1):zhT n C (shS ow dn root n) dn:=by
 have ab:∀c,c<n->dn c=true->∃i:Nat,ow c=i/\i<root:=λc hc hd=>by
  rcases ht.own c hc with h1|⟨i,h1,h2,_⟩
  ·exact absurd h1 (h.sub c hc hd).2
  exact⟨i,h1,h2⟩
 refine⟨λi j hi hj hs aa=>?_,?_⟩
 ·have hf:far j≠-1:=by
   rcases (zlw ow dn root n i).1 hs with h1|⟨c,h1,h2,h3⟩
   ·rw[h1] at aa;exact(h.rootRow j hj aa).1
   rw[<-h3] at aa;exact(h.row c h1 h2 j hj aa).1
  rcases ah j hj with h1|h1
  ·exact h1
  exact absurd h1 hf
 have af:(root::((List.range n).filter dn).map λc=>(ow c).toNat).Nodup:=by
  rw[List.nodup_cons];refine⟨λhm=>?_,?_⟩
  ·obtain⟨c,hc,e⟩:=List.mem_map.1 hm;have ac:=List.mem_filter.1 hc;obtain⟨i,h1,h2⟩:=ab c (by simpa using ac.1) ac.2;rw[h1] at e;simp at e;omega
  rw[List.nodup_iff_pairwise_ne,List.pairwise_map];refine List.Pairwise.imp_of_mem ?_ (List.Pairwise.filter _ (List.nodup_iff_pairwise_ne.1 List.nodup_range));intro a b ha hb ag e;have ad:=List.mem_filter.1 ha;have ae:=List.mem_filter.1 hb;obtain⟨x,hx,_⟩:=ab a (by simpa using ad.1) ad.2;obtain⟨y,hy,_⟩:=ab b (by simpa using ae.1) ae.2;rw[hx,hy] at e;simp at e;exact ag (ht.inj a b (by simpa using ad.1) (by simpa using ae.1) (by rw[hx,hy,e]) (by rw[hx];omega))
 have:=zbk _ ((List.range n).filter (shS ow dn root n)) af (λx hx=>by
  rcases List.mem_cons.1 hx with h1|h1
  ·rw[h1,List.mem_filter];exact⟨by simpa using hr,(zlw ow dn root n root).2 (.inl rfl)⟩
  obtain⟨c,hc,e⟩:=List.mem_map.1 h1;have ac:=List.mem_filter.1 hc;obtain⟨i,h2,h3⟩:=ab c (by simpa using ac.1) ac.2;rw[List.mem_filter];refine⟨?_,(zlw ow dn root n x).2 (.inr ⟨c,by simpa using ac.1,ac.2,e⟩)⟩;rw[h2] at e;simp at e⊢;omega)
 simp at this;omega
def dnN(n:Nat)(dn:Nat->Bool):Nat:=((List.range n).filter dn).length
theorem zqF(n:Nat)(dn:Nat->Bool):dnN n dn<=n:=by unfold dnN;have:=List.length_filter_le dn (List.range n);simp at this;exact this
theorem zqW{n:Nat}{dn:Nat->Bool}{k:Nat}(hk:k<n)(hd:dn k=false):dnN n (up1 dn k true)=dnN n dn+1:=by
 unfold dnN;have aa:∀m,((List.range m).filter (up1 dn k true)).length=((List.range m).filter dn).length+(if k<m then 1 else 0):=by
  intro m;induction m with
  | zero=>simp
  | succ m ih=>
   rw[List.range_succ,List.filter_append,List.filter_append,List.length_append,List.length_append,ih];by_cases e:m=k
   ·subst e;have e1:up1 dn m true m=true:=by unfold up1;simp
    rw[if_neg (by omega),if_pos (by omega)];simp[e1,hd]
   have e1:up1 dn k true m=dn m:=by unfold up1;rw[if_neg e]
   have e2:(if k<m then 1 else 0)=(if k<m+1 then 1 else 0:Nat):=by
    by_cases h:k<m
    ·rw[if_pos h,if_pos (by omega)]
    rw[if_neg h,if_neg (by omega)]
   rw[e2];cases hm:dn m<;>simp[e1,hm]<;>omega
 rw[aa n,if_pos hk]
end Go.Proofs.YtebinaopncclgabGreatDoor
