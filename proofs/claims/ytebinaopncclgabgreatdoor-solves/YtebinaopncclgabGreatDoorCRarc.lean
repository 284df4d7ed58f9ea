import Derived.Test.YtebinaopncclgabGreatDoorCPlain
set_option maxRecDepth 100000
set_option maxHeartbeats 8000000
namespace Go.Proofs.YtebinaopncclgabGreatDoor
open Go.RowKit Go.IntWalk
def zbt(w:World)(v:Value)(L:List (List Int)):Prop:=∃ao c,v=.slice ao L.length c/\∀i (h:i<L.length),∃g x y,ao=some ⟨g,0,none⟩/\g<w.heap.size/\L[i]=[x,y]/\w.cell? ⟨g,i*2,none⟩=some (.int .i64 x)/\w.cell? ⟨g,i*2+1,none⟩=some (.int .i64 y)
theorem zbt.below{w w':World}{v:Value}{L:List (List Int)}(h:zbt w v L)(hb:Below w.heap.size w w'):zbt w' v L:=by obtain⟨ao,c,e,h⟩:=h;refine⟨ao,c,e,λi hi=>?_⟩;obtain⟨g,x,y,h1,h2,h3,h4,h5⟩:=h i hi;exact⟨g,x,y,h1,ya h2 hb.size,h3,zc hb h4 h2,zc hb h5 h2⟩
theorem zbt.own{w:World}{B:Nat}{v:Value}{L:List (List Int)}(h:w.ownsRow B 191 2 v L.length (zd L.flatten))(hs:∀s∈L,s.length=2):zbt w v L:=by
 obtain⟨ao,c,hv,h1,h2⟩:=zg h;refine⟨ao,c,hv,λi hi=>?_⟩;cases ao with
 | none=>exact absurd (h2 rfl) (by omega)
 | some a=>
  subst hv;obtain⟨g,rfl,_,hg⟩:=h1 a rfl;have hl:=hs _ (ym hi);obtain⟨x,y,e⟩:∃x y,L[i]=[x,y]:=by
   match L[i],hl with
   | [x,y],_=>exact⟨x,y,rfl⟩
  have hc:∀j z,j<2->L[i][j]?=some z->w.cell? ⟨g,i*2+j,none⟩=some (.int .i64 z):=λj z hj hz=>by rw[h.cellAt (i*2+j) (by omega)];exact zek hs hi hj hz
  exact⟨g,x,y,rfl,hg,e,hc 0 x (by omega) (by rw[e];rfl),hc 1 y (by omega) (by rw[e];rfl)⟩
theorem zhy.two{n:Nat}{L:List (List Int)}(h:zhy n L):∀s∈L,s.length=2:=λs hs=>by obtain⟨a,b,rfl,_⟩:=h s hs;rfl
theorem zgW(L:List (List Int))(v:Value)(a b:Int)(w:World)(hl:zbt w v L)(hn:L.length<=4000000):Calls Tryz.prog 123 #[v,.int .i64 a,.int .i64 b] w λe w'=>e=.returned (.bool (decide ([a,b]∈L)))/\Below w.heap.size w w':=by
 obtain⟨ao,c,rfl,hl⟩:=hl;have HL:=hid hl;clear hl;go_in;go_wp2_with fail;go_loop[7] (λi=>∃k:Nat,k<=L.length/\i=.int .i64 k/\Hid (∀j (h:j<L.length),j<k->L[j]≠[a,b])) (λi=>L.length-(intOf i).toNat)
 ·exact⟨0,yu _,rfl,λj _ hj=>absurd hj (by omega)⟩
 obtain⟨k,hk,rfl,HK⟩:=hrel;by_cases ab:k<L.length
 ·obtain⟨g,x,y,rfl,hg,aa,x0,y0⟩:=HL.out k ab;have ik:(0:Int)<=(k:Int):=by omega
  have jk:(k:Int)<(L.length:Int):=by omega
  by_cases hx:x=a
  ·have c1:(x==a)=true:=by simp[hx]
   by_cases hy:y=b
   ·have c2:(y==b)=true:=by simp[hy]
    have HX:Hid (decide ([a,b]∈L)=true):=by show _=_;rw[ybd,<-hx,<-hy,<-aa];exact ym _
    clear hx hy aa;go_wp2_with go_in
    all_goals
     go_ret;exact⟨zh HX.out.symm,yk _ _⟩
   have c2:(y==b)=false:=by simpa using hy
   have HN:Hid (∀j (h:j<L.length),j<k+1->L[j]≠[a,b]):=λj h hj=>by
    by_cases e:j=k
    ·subst e;rw[aa];intro e2;simp at e2;exact hy e2.2
    exact HK.out j h (by omega)
   clear hx hy aa;go_wp2_with go_in;go_round
   ·exact⟨k+1,by omega,by go_num,HN⟩
   simp[intOf];omega
  have c1:(x==a)=false:=by simpa using hx
  have HN:Hid (∀j (h:j<L.length),j<k+1->L[j]≠[a,b]):=λj h hj=>by
   by_cases e:j=k
   ·subst e;rw[aa];intro e2;simp at e2;exact hx e2.1
   exact HK.out j h (by omega)
  clear hx aa;go_wp2_with go_in;go_round
  ·exact⟨k+1,by omega,by go_num,HN⟩
  simp[intOf];omega
 have HX:Hid (decide ([a,b]∈L)=false):=by show _=_;rw[yI];intro hm;obtain⟨j,hj,e⟩:=yaA.1 hm;exact HK.out j hj (by omega) e
 go_wp2_with go_in;go_ret;exact⟨zh HX.out.symm,yk _ _⟩
theorem zrk(L:List (List Int))(v:Value)(a b:Nat)(w:World)(hl:zbt w v L)(hn:L.length<=4000000)(ha:a<=7)(hb:b<=7):Calls Tryz.prog 210 #[v,.int .i64 a,.int .i64 b] w λe w'=>e=.returned (.bool (zdi L a b))/\Below w.heap.size w w':=by
 obtain⟨ao,c,rfl,hl⟩:=hl;have HL:=hid hl;clear hl;obtain⟨P,hP⟩:∃P:Int->Int->Prop,P=λx y=>(a≠0/\x=(a:Int)/\y≠(b:Int))\/(b≠0/\y=(b:Int)/\x≠(a:Int)):=⟨_,rfl⟩
 have HT:Hid (∀k (h:k<L.length) x y,L[k]=[x,y]->P x y->zdi L a b=true):=λk h x y e hp=>by unfold zdi;rw[y9];refine⟨L[k],ym _,?_⟩;rw[ybd,e];rw[hP] at hp;exact hp
 have HF:Hid ((∀k (h:k<L.length),∃x y,L[k]=[x,y]/\¬P x y)->zdi L a b=false):=λh=>by unfold zdi;rw[ya5];intro q hq;obtain⟨k,hk,e⟩:=yaA.1 hq;obtain⟨x,y,e2,hp⟩:=h k hk;rw[<-e,e2,ybd];rw[hP] at hp;exact hp
 generalize zdi L a b=ans at*;have HP:=hid hP;clear hP;go_in;go_wp2_with fail;go_loopw[7] (λi wr=>∃k:Nat,k<=L.length/\i=.int .i64 k/\Hid (∀j (h:j<L.length),j<k->∃x y,L[j]=[x,y]/\¬P x y)/\Hid (Below w.heap.size w wr)) (λi _=>L.length-(intOf i).toNat)
 ·exact⟨0,yu _,rfl,λj _ hj=>absurd hj (by omega),yk _ _⟩
 obtain⟨k,hk,rfl,HK,HB⟩:=hrel;by_cases ah:k<L.length
 ·obtain⟨g,x,y,rfl,hg,ag,x0,y0⟩:=HL.out k ah;have x1:=zc HB.out x0 hg;have y1:=zc HB.out y0 hg;have hgr:=ya hg HB.out.size;have ik:(0:Int)<=(k:Int):=by omega
  have jk:(k:Int)<(L.length:Int):=by omega
  have af:Hid (P x y↔((a≠0/\x=(a:Int)/\y≠(b:Int))\/(b≠0/\y=(b:Int)/\x≠(a:Int)))):=by show _↔_;rw[HP.out]
  have HY:Hid (((a≠0/\x=(a:Int)/\y≠(b:Int))\/(b≠0/\y=(b:Int)/\x≠(a:Int)))->ans=true):=λhp=>HT.out k ah x y ag (af.out.2 hp);have HN:Hid (¬((a≠0/\x=(a:Int)/\y≠(b:Int))\/(b≠0/\y=(b:Int)/\x≠(a:Int)))->∀j (h:j<L.length),j<k+1->∃x y,L[j]=[x,y]/\¬P x y):=λhp j h hj=>by
   by_cases e:j=k
   ·subst e;exact⟨x,y,ag,λq=>hp (af.out.1 q)⟩
   exact HK.out j h (by omega)
  clear af;have ae:=HB.out.size;clear ag x0 y0 HK;by_cases ad:a=0
  ·have a1:¬(0:Int)<(a:Int):=by omega
   by_cases ac:b=0
   ·have b1:¬(0:Int)<(b:Int):=by omega
    by_cases ab:x=a
    ·have c1:(x==(a:Int))=true:=by simp[ab]
     have c2:(x != (a:Int))=false:=by simp[ab]
     by_cases aa:y=b
     ·have d1:(y==(b:Int))=true:=by simp[aa]
      have d2:(y != (b:Int))=false:=by simp[aa]
      have HX:=hid (HN.out (λh=>by rcases h with h|h;exact h.1 ad;exact h.1 ac));clear HY HN;clear ab aa ad ac;go_wp2_with go_in;go_roundw
      ·exact⟨k+1,by omega,by go_num,HX,by first|exact HB.out.alloc ae _|exact HB.out⟩
      simp[intOf];omega
     have d1:(y==(b:Int))=false:=by simpa using aa
     have d2:(y != (b:Int))=true:=by simpa using aa
     have HX:=hid (HN.out (λh=>by rcases h with h|h;exact h.1 ad;exact h.1 ac));clear HY HN;clear ab aa ad ac;go_wp2_with go_in;go_roundw
     ·exact⟨k+1,by omega,by go_num,HX,by first|exact HB.out.alloc ae _|exact HB.out⟩
     simp[intOf];omega
    have c1:(x==(a:Int))=false:=by simpa using ab
    have c2:(x != (a:Int))=true:=by simpa using ab
    by_cases aa:y=b
    ·have d1:(y==(b:Int))=true:=by simp[aa]
     have d2:(y != (b:Int))=false:=by simp[aa]
     have HX:=hid (HN.out (λh=>by rcases h with h|h;exact h.1 ad;exact h.1 ac));clear HY HN;clear ab aa ad ac;go_wp2_with go_in;go_roundw
     ·exact⟨k+1,by omega,by go_num,HX,by first|exact HB.out.alloc ae _|exact HB.out⟩
     simp[intOf];omega
    have d1:(y==(b:Int))=false:=by simpa using aa
    have d2:(y != (b:Int))=true:=by simpa using aa
    have HX:=hid (HN.out (λh=>by rcases h with h|h;exact h.1 ad;exact h.1 ac));clear HY HN;clear ab aa ad ac;go_wp2_with go_in;go_roundw
    ·exact⟨k+1,by omega,by go_num,HX,by first|exact HB.out.alloc ae _|exact HB.out⟩
    simp[intOf];omega
   have b1:(0:Int)<(b:Int):=by omega
   by_cases ab:x=a
   ·have c1:(x==(a:Int))=true:=by simp[ab]
    have c2:(x != (a:Int))=false:=by simp[ab]
    by_cases aa:y=b
    ·have d1:(y==(b:Int))=true:=by simp[aa]
     have d2:(y != (b:Int))=false:=by simp[aa]
     have HX:=hid (HN.out (λh=>by rcases h with h|h;exact h.1 ad;exact h.2.2 ab));clear HY HN;clear ab aa ad ac;go_wp2_with go_in;go_roundw
     ·exact⟨k+1,by omega,by go_num,HX,by first|exact HB.out.alloc ae _|exact HB.out⟩
     simp[intOf];omega
    have d1:(y==(b:Int))=false:=by simpa using aa
    have d2:(y != (b:Int))=true:=by simpa using aa
    have HX:=hid (HN.out (λh=>by rcases h with h|h;exact h.1 ad;exact aa h.2.1));clear HY HN;clear ab aa ad ac;go_wp2_with go_in;go_roundw
    ·exact⟨k+1,by omega,by go_num,HX,by first|exact HB.out.alloc ae _|exact HB.out⟩
    simp[intOf];omega
   have c1:(x==(a:Int))=false:=by simpa using ab
   have c2:(x != (a:Int))=true:=by simpa using ab
   by_cases aa:y=b
   ·have d1:(y==(b:Int))=true:=by simp[aa]
    have d2:(y != (b:Int))=false:=by simp[aa]
    have HX:=hid (HY.out (.inr ⟨ac,aa,ab⟩));clear HY HN;clear ab aa ad ac;go_wp2_with go_in
    all_goals
     go_ret;exact⟨zh HX.out.symm,by first|exact HB.out.alloc ae _|exact HB.out⟩
   have d1:(y==(b:Int))=false:=by simpa using aa
   have d2:(y != (b:Int))=true:=by simpa using aa
   have HX:=hid (HN.out (λh=>by rcases h with h|h;exact h.1 ad;exact aa h.2.1));clear HY HN;clear ab aa ad ac;go_wp2_with go_in;go_roundw
   ·exact⟨k+1,by omega,by go_num,HX,by first|exact HB.out.alloc ae _|exact HB.out⟩
   simp[intOf];omega
  have a1:(0:Int)<(a:Int):=by omega
  by_cases ac:b=0
  ·have b1:¬(0:Int)<(b:Int):=by omega
   by_cases ab:x=a
   ·have c1:(x==(a:Int))=true:=by simp[ab]
    have c2:(x != (a:Int))=false:=by simp[ab]
    by_cases aa:y=b
    ·have d1:(y==(b:Int))=true:=by simp[aa]
     have d2:(y != (b:Int))=false:=by simp[aa]
     have HX:=hid (HN.out (λh=>by rcases h with h|h;exact h.2.2 aa;exact h.1 ac));clear HY HN;clear ab aa ad ac;go_wp2_with go_in;go_roundw
     ·exact⟨k+1,by omega,by go_num,HX,by first|exact HB.out.alloc ae _|exact HB.out⟩
     simp[intOf];omega
    have d1:(y==(b:Int))=false:=by simpa using aa
    have d2:(y != (b:Int))=true:=by simpa using aa
    have HX:=hid (HY.out (.inl ⟨ad,ab,aa⟩));clear HY HN;clear ab aa ad ac;go_wp2_with go_in
    all_goals
     go_ret;exact⟨zh HX.out.symm,by first|exact HB.out.alloc ae _|exact HB.out⟩
   have c1:(x==(a:Int))=false:=by simpa using ab
   have c2:(x != (a:Int))=true:=by simpa using ab
   by_cases aa:y=b
   ·have d1:(y==(b:Int))=true:=by simp[aa]
    have d2:(y != (b:Int))=false:=by simp[aa]
    have HX:=hid (HN.out (λh=>by rcases h with h|h;exact ab h.2.1;exact h.1 ac));clear HY HN;clear ab aa ad ac;go_wp2_with go_in;go_roundw
    ·exact⟨k+1,by omega,by go_num,HX,by first|exact HB.out.alloc ae _|exact HB.out⟩
    simp[intOf];omega
   have d1:(y==(b:Int))=false:=by simpa using aa
   have d2:(y != (b:Int))=true:=by simpa using aa
   have HX:=hid (HN.out (λh=>by rcases h with h|h;exact ab h.2.1;exact h.1 ac));clear HY HN;clear ab aa ad ac;go_wp2_with go_in;go_roundw
   ·exact⟨k+1,by omega,by go_num,HX,by first|exact HB.out.alloc ae _|exact HB.out⟩
   simp[intOf];omega
  have b1:(0:Int)<(b:Int):=by omega
  by_cases ab:x=a
  ·have c1:(x==(a:Int))=true:=by simp[ab]
   have c2:(x != (a:Int))=false:=by simp[ab]
   by_cases aa:y=b
   ·have d1:(y==(b:Int))=true:=by simp[aa]
    have d2:(y != (b:Int))=false:=by simp[aa]
    have HX:=hid (HN.out (λh=>by rcases h with h|h;exact h.2.2 aa;exact h.2.2 ab));clear HY HN;clear ab aa ad ac;go_wp2_with go_in;go_roundw
    ·exact⟨k+1,by omega,by go_num,HX,by first|exact HB.out.alloc ae _|exact HB.out⟩
    simp[intOf];omega
   have d1:(y==(b:Int))=false:=by simpa using aa
   have d2:(y != (b:Int))=true:=by simpa using aa
   have HX:=hid (HY.out (.inl ⟨ad,ab,aa⟩));clear HY HN;clear ab aa ad ac;go_wp2_with go_in
   all_goals
    go_ret;exact⟨zh HX.out.symm,by first|exact HB.out.alloc ae _|exact HB.out⟩
  have c1:(x==(a:Int))=false:=by simpa using ab
  have c2:(x != (a:Int))=true:=by simpa using ab
  by_cases aa:y=b
  ·have d1:(y==(b:Int))=true:=by simp[aa]
   have d2:(y != (b:Int))=false:=by simp[aa]
   have HX:=hid (HY.out (.inr ⟨ac,aa,ab⟩));clear HY HN;clear ab aa ad ac;go_wp2_with go_in
   all_goals
    go_ret;exact⟨zh HX.out.symm,by first|exact HB.out.alloc ae _|exact HB.out⟩
  have d1:(y==(b:Int))=false:=by simpa using aa
  have d2:(y != (b:Int))=true:=by simpa using aa
  have HX:=hid (HN.out (λh=>by rcases h with h|h;exact ab h.2.1;exact aa h.2.1));clear HY HN;clear ab aa ad ac;go_wp2_with go_in;go_roundw
  ·exact⟨k+1,by omega,by go_num,HX,by first|exact HB.out.alloc ae _|exact HB.out⟩
  simp[intOf];omega
 have HX:=hid (HF.out (λj h=>HK.out j h (by omega)));go_wp2_with go_in;go_ret;exact⟨zh HX.out.symm,HB.out⟩
theorem Tryz.infoArc:(Tryz.prog.info? 191).map (λi=>(i.zero,i.size,i.bytes))=some (some (.agg #[.int .i64 0,.int .i64 0]),2,16):=by kernel_rfl
theorem zuu(a b:Int):∀u∈[Value.int .i64 a,.int .i64 b],u.oneCell'=true:=by intro u hu;simp at hu;rcases hu with rfl|rfl<;>rfl
end Go.Proofs.YtebinaopncclgabGreatDoor
