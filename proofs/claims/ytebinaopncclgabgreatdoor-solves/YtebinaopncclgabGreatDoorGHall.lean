import Derived.Test.YtebinaopncclgabGreatDoorGChain
set_option maxRecDepth 100000
set_option maxHeartbeats 8000000
namespace Go.Proofs.YtebinaopncclgabGreatDoor
open Go.RowKit
def ex(x:Int):Int:=if x=-1 then 1000000000 else x
theorem zee{x M:Int}(h:-1<=x/\x<=M)(hM:M<=100000000):0<=ex x/\ex x<=1000000000/\(x≠-1->ex x=x)/\(x=-1->ex x=1000000000):=by
 unfold ex;split
 ·exact⟨by omega,by omega,λh=>absurd ‹_› h,λ_=>rfl⟩
 exact⟨by omega,by omega,λ_=>rfl,λh=>absurd h ‹_›⟩
def Tri(N:Nat)(E:Nat->Nat->Int):Prop:=∀a b c,a<N->b<N->c<N->E a b<=E a c+E c b
theorem zoE{N v x y:Nat}{F:Nat->Nat->Int}(h:zbS N 40960000 F)(hv:v<N)(hx:x<N)(hy:y<N):ex (gF v F x y)=min (ex (F x y)) (ex (F x v)+ex (F v y)):=by
 have a:=h.2 x y hx hy;have b:=h.2 x v hx hv;have c:=h.2 v y hv hy;have ea:=zee a (by omega);have eb:=zee b (by omega);have ec:=zee c (by omega);unfold gF;by_cases h1:F x v≠-1/\F v y≠-1
 ·rw[yg h1];have e1:=eb.2.2.1 h1.1;have e2:=ec.2.2.1 h1.2;unfold zbx;by_cases h2:F x y=-1
  ·rw[yg (Or.inl h2),ea.2.2.2 h2,e1,e2];unfold ex;rw[ye (by omega)];omega
  have e3:=ea.2.2.1 h2;by_cases h3:F x v+F v y<F x y
  ·rw[yg (Or.inr h3),e1,e2,e3];unfold ex;rw[ye (by omega)];omega
  rw[ye (by omega),e1,e2,e3];omega
 rw[ye h1];by_cases h2:F x v=-1
 ·have:=eb.2.2.2 h2;omega
 have h3:F v y=-1:=by
  by_cases h4:F v y=-1
  ·exact h4
  exact absurd ⟨h2,h4⟩ h1
 have:=ec.2.2.2 h3;omega
def zwx(N v:Nat)(E:Nat->Nat->Int):Prop:=∀a b c,a<N->b<N->c<v->E a b<=E a c+E c b
theorem zvV{N:Nat}{F:Nat->Nat->Int}(h:zbS N 10000 F)(hN:N<=12):∀v,v<=N->zwx N v (λx y=>ex (fwF F v x y)):=by
 intro v;induction v with
 | zero=>intro _ a b c _ _ hc;omega
 | succ v ih=>
  intro hv a b c ha hb hc;have hL:=zc7 h hN (show v<=N by omega);have I:=ih (by omega);have ab:v<N:=by omega
  have g:∀x y,x<N->y<N->ex (fwF F (v+1) x y)=min (ex (fwF F v x y)) (ex (fwF F v x v)+ex (fwF F v v y)):=λx y hx hy=>zoE hL ab hx hy;have pos:∀x y,x<N->y<N->0<=ex (fwF F v x y):=λx y hx hy=>(zee (hL.2 x y hx hy) (by omega)).1;have aa:c<N:=by omega
  dsimp only;rw[g a b ha hb,g a c ha aa,g c b aa hb];have ae:ex (fwF F v v v)=0:=by rw[hL.1 v ab];rfl
  by_cases ad:c=v
  ·subst ad;rw[ae];have:=pos a c ha aa;have:=pos c b aa hb;omega
  have ac:c<v:=by omega
  have i1:=I a b c ha hb ac;have i2:=I v b c ab hb ac;have i3:=I a v c ha ab ac;dsimp only at i1 i2 i3;have p1:=pos v c ab aa;have p2:=pos c v aa ab;have p3:=pos a c ha aa;have p4:=pos c b aa hb;have p5:=pos a v ha ab;have p6:=pos v b ab hb;omega
theorem zwz{N:Nat}{F:Nat->Nat->Int}(h:zbS N 10000 F)(hN:N<=12):∀v,v<=N->∀x y,x<N->y<N->ex (fwF F v x y)<=ex (F x y):=by
 intro v;induction v with
 | zero=>intro _ x y _ _;exact yaB _
 | succ v ih=>intro hv x y hx hy;have hL:=zc7 h hN (show v<=N by omega);have:=ih (by omega) x y hx hy;have g:ex (fwF F (v+1) x y)=min (ex (fwF F v x y)) (ex (fwF F v x v)+ex (fwF F v v y)):=zoE hL (by omega) hx hy;omega
theorem znp{N:Nat}{F:Nat->Nat->Int}{M:Nat->Nat->Int}(h:zbS N 10000 F)(hN:N<=12)(hT:Tri N M)(hM:∀x y,x<N->y<N->M x y<=ex (F x y)):∀v,v<=N->∀x y,x<N->y<N->M x y<=ex (fwF F v x y):=by
 intro v;induction v with
 | zero=>intro _ x y hx hy;exact hM x y hx hy
 | succ v ih=>
  intro hv x y hx hy;have hL:=zc7 h hN (show v<=N by omega);have aa:v<N:=by omega
  have g:ex (fwF F (v+1) x y)=min (ex (fwF F v x y)) (ex (fwF F v x v)+ex (fwF F v v y)):=zoE hL aa hx hy;have i1:=ih (by omega) x y hx hy;have i2:=ih (by omega) x v hx aa;have i3:=ih (by omega) v y aa hy;have t:=hT x y v hx hy aa;omega
theorem ziZ{r:Rd}(h:zE r):r.nodes=(r.nodes.toNat:Int)/\r.nodes.toNat<=12:=by have hh:=zaH.1 h.head;omega
theorem zn5{r:Rd}(h:zE r):zbS r.nodes.toNat 10000 (zaV r.roads):=zgV r.roads (by rw[<-(ziZ h).1];exact h.roads) _ (zhf _)
theorem zrB{r:Rd}(h:zE r){x y:Nat}(hx:x<r.nodes.toNat)(hy:y<r.nodes.toNat):-1<=zfi r x y/\zfi r x y<=40960000:=(zc7 (zn5 h) (ziZ h).2 (yh _)).2 x y hx hy
theorem zjx(p q:Nat->Bool)(h:∀x,p x=true->q x=true):∀L:List Nat,L.countP p<=L.countP q/\(L.countP p=L.countP q->∀x∈L,p x=q x):=by
 intro L;induction L with
 | nil=>exact⟨yh _,λ_ x hx=>absurd hx (by simp)⟩
 | cons y L ih=>
  have hy:=h y;rw[List.countP_cons,List.countP_cons];cases hp:p y<;>cases hq:q y
  ·simp only[Bool.false_eq_true,yck,ybg];refine⟨ih.1,λe x hx=>?_⟩;rcases yG.1 hx with rfl|hx
   ·rw[hp,hq]
   exact ih.2 e x hx
  ·simp only[Bool.false_eq_true,yck,ycf,ybg];exact⟨by have:=ih.1;omega,λe=>by have:=ih.1;omega⟩
  ·rw[hp,hq] at hy;exact absurd (hy rfl) (by simp)
  simp only[ycf];refine⟨by have:=ih.1;omega,λe x hx=>?_⟩;rcases yG.1 hx with rfl|hx
  ·rw[hp,hq]
  exact ih.2 (by omega) x hx
theorem zsc(c:Nat->Nat)(m:Nat)(h0:1<=c 0)(hm:∀k,c k<=c (k+1))(hb:∀k,c k<=m):∃k,k<m/\c k=c (k+1):=by
 false_or_by_contra;rename_i aa;have ab:∀k,k<=m->k+1<=c k:=by
  intro k;induction k with
  | zero=>intro _;exact h0
  | succ k ih=>intro hk;have h1:=ih (by omega);have h2:=hm k;have h3:c k≠c (k+1):=λe=>aa ⟨k,by omega,e⟩;omega
 have:=ab m (yh _);have:=hb m;omega
theorem ztN{N:Nat}{F:Nat->Nat->Int}(h:zbS N 10000 F)(hN:N<=12){a b:Nat}(ha:a<N)(hb:b<N):fwF F N a b<=110000:=by
 have hl:=zc7 h hN (yh N);have ab:=zvV h hN N (yh _);have af:=zwz h hN N (yh _);let E:=λx=>ex (fwF F N a x);let S:Nat->Nat->Bool:=λk x=>decide (E x<=(k:Int)*10000);obtain⟨k,hk,hc⟩:=zsc (λk=>(List.range N).countP (S k)) N (by
   apply List.countP_pos_iff.2;refine⟨a,by simpa using ha,?_⟩;have h0:fwF F N a a=0:=hl.1 a ha;show decide (ex (fwF F N a a)<=((0:Nat):Int)*10000)=true;rw[h0];decide)
  (λk=>(zjx (S k) (S (k+1)) (λx hx=>by
   have h1:E x<=(k:Int)*10000:=by simpa[S] using hx
   show decide _=true;rw[yq];push_cast;omega) _).1)
  (λk=>by have:=List.countP_le_length (p:=S k) (l:=List.range N);simpa using this);have aa:=(zjx (S k) (S (k+1)) (λx hx=>by
   have h1:E x<=(k:Int)*10000:=by simpa[S] using hx
   show decide _=true;rw[yq];push_cast;omega) (List.range N)).2 hc;have ae:∀x,x<N->E x<=((k+1:Nat):Int)*10000->E x<=(k:Int)*10000:=λx hx h1=>by
  have h2:=aa x (by simpa using hx);have h3:S (k+1) x=true:=by show decide _=true;rw[yq];exact h1
  rw[h3] at h2;simpa[S] using h2
 have ad:∀x y,x<N->y<N->E x<=(k:Int)*10000->¬E y<=(k:Int)*10000->F x y=-1:=λx y hx hy h1 h2=>by
  false_or_by_contra;rename_i ag;have h3:=h.2 x y hx hy;have h4:=ab a y x ha hy hx;have h5:=af x y hx hy;have h6:ex (F x y)=F x y:=by unfold ex;rw[ye ag]
  have h7:E y<=E x+ex (fwF F N x y):=h4;apply h2;apply ae y hy
  push_cast
  omega
 have hbase:=h.2;let M:Nat->Nat->Int:=λx y=>if E x<=(k:Int)*10000/\¬E y<=(k:Int)*10000 then 1000000000 else 0
 have hg:=znp (M:=M) h hN (λx y c _ _ _=>by
   show M x y<=M x c+M c y;dsimp only[M];by_cases h1:E x<=(k:Int)*10000<;>by_cases h2:E y<=(k:Int)*10000<;>by_cases h3:E c<=(k:Int)*10000<;>simp[h1,h2,h3])
  (λx y hx hy=>by
   show M x y<=_;dsimp only[M];split
   ·rename_i hh;rw[ad x y hx hy hh.1 hh.2];decide
   exact(zee (h.2 x y hx hy) (by decide)).1)
 by_cases ac:E b<=(k:Int)*10000
 ·have h1:=hl.2 a b ha hb;have h2:=zee h1 (by decide);by_cases e:fwF F N a b=-1
  ·omega
  have h3:=h2.2.2.1 e;have h4:E b=fwF F N a b:=h3;omega
 have h1:=hg N (yh _) a b ha hb;have h2:M a b=1000000000:=by
  dsimp only[M];have h0:fwF F N a a=0:=hl.1 a ha;have:E a=0:=by show ex (fwF F N a a)=0;rw[h0];rfl
  rw[yg ⟨by rw[this];omega,ac⟩]
 rw[h2] at h1;have h3:=hl.2 a b ha hb;by_cases e:fwF F N a b=-1
 ·omega
 have:=(zee h3 (by decide)).2.2.1 e;omega
theorem zpE{r:Rd}(h:zE r):∀a b,a<r.stops.length+1->b<r.stops.length+1->-1<=za r a b/\za r a b<=110000:=by
 intro a b ha hb;have hhd:=zaH.1 h.head;obtain⟨N,hN⟩:∃N:Nat,r.nodes=N:=⟨r.nodes.toNat,by omega⟩
 have h1:=zeP h hN ha;have h2:=zeP h hN hb;exact⟨(zrB h (by omega) (by omega)).1,ztN (zn5 h) (ziZ h).2 (by omega) (by omega)⟩
open Go.RowKit Go.IntWalk
def zde(C:Nat->Nat->Int)(zs:List Int)(j i:Nat):Prop:=C (zs.getD i 0).toNat j≠-1
theorem zjJ{C:Nat->Nat->Int}{zs:List Int}{j:Nat}:(∃i,i<zs.length/\zde C zs j i)↔(zs.any λr=>decide (C r.toNat j≠-1))=true:=by
 rw[y9];constructor
 ·rintro⟨i,h1,h2⟩;exact⟨_,zbW h1,by simpa[zde] using h2⟩
 rintro⟨x,hx,h⟩;obtain⟨i,hi,rfl⟩:=yaA.1 hx;refine⟨i,hi,?_⟩;unfold zde;rw[yj,yl hi];simpa using h
def zcu(C:Nat->Nat->Int)(zs:List Int)(k:Nat):Nat:=((List.range k).filter λj=>zs.any λr=>decide (C r.toNat j≠-1)).length
theorem znE(C:Nat->Nat->Int)(zs:List Int)(k:Nat):zcu C zs (k+1)=zcu C zs k+(if (zs.any λr=>decide (C r.toNat k≠-1))=true then 1 else 0):=by
 unfold zcu;rw[yR,yaL,yz];congr 1;split
 ·rename_i h;rw[yQ (p:=λj=>zs.any λr=>decide (C r.toNat j≠-1)) h];rfl
 rename_i h;rw[yS (p:=λj=>zs.any λr=>decide (C r.toNat j≠-1)) h];rfl
theorem zri(C:Nat->Nat->Int)(zs:List Int)(k:Nat):zcu C zs k<=k:=by unfold zcu;have:=yau (λj=>zs.any λr=>decide (C r.toNat j≠-1)) (List.range k);simpa using this
def zbU(N:Nat)(zs:List Int)(i:Nat):Prop:=0<=zs.getD i 0/\zs.getD i 0<(N:Int)/\(0<i->zs.getD (i-1) 0<zs.getD i 0)
theorem zum{N:Nat}{zs:List Int}:((∀x∈zs,0<=x/\x<(N:Int))/\zh9 zs)↔∀i,i<zs.length->zbU N zs i:=by
 constructor
 ·rintro⟨h1,h2⟩i hi;refine⟨(h1 _ (zbW hi)).1,(h1 _ (zbW hi)).2,λh0=>?_⟩;obtain⟨k,rfl⟩:∃k,i=k+1:=⟨i-1,by omega⟩
  exact h2 k hi
 intro h;refine⟨λx hx=>?_,λi hi=>?_⟩
 ·obtain⟨i,hi,rfl⟩:=yaA.1 hx;have:=h i hi;unfold zbU at this;rw[yj,yl hi,yK] at this;exact⟨this.1,this.2.1⟩
 exact(h (i+1) hi).2.2 (by omega)
end Go.Proofs.YtebinaopncclgabGreatDoor
