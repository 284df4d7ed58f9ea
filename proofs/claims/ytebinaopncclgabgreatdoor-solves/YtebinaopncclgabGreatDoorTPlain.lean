import Derived.Test.YtebinaopncclgabGreatDoorPlainG
set_option maxRecDepth 100000
set_option maxHeartbeats 8000000
namespace Go.Proofs.YtebinaopncclgabGreatDoor
open Go.RowKit
def zM(c:UInt8):List UInt8->List (List UInt8)
 | []=>[[]]
 | x::t=>if x=c then []::zM c t else match zM c t with|[]=>[[x]]|p::ps=>(x::p)::ps
theorem zcm(c x:UInt8)(t:List UInt8):zM c (x::t)=if x=c then []::zM c t else match zM c t with|[]=>[[x]]|p::ps=>(x::p)::ps:=rfl
theorem zdD(c:UInt8)(l:List UInt8):zM c l≠[]:=by
 cases l with
 | nil=>simp[zM]
 | cons x t=>
  rw[zcm];split
  ·simp
  split<;>simp
theorem zs7(c:UInt8)(l:List UInt8):∀P C,(l.foldl (zaT c) (P,C)).1++[(l.foldl (zaT c) (P,C)).2]=P++(match zM c l with|[]=>[C]|p::ps=>(C++p)::ps):=by
 induction l with
 | nil=>intro P C;simp[zM]
 | cons x t ih=>
  intro P C;rw[yae,zcm];by_cases h:x=c
  ·have e:zaT c (P,C) x=(P++[C],[]):=by unfold zaT;rw[yg h]
   rw[e,ih (P++[C]) []];have aa:=zdD c t;rw[yg h];cases hs:zM c t with
   | nil=>exact absurd hs aa
   | cons p ps=>simp
  have e:zaT c (P,C) x=(P,C++[x]):=by unfold zaT;rw[ye h]
  rw[e,ih P (C++[x])];have aa:=zdD c t;rw[ye h];cases hs:zM c t with
  | nil=>exact absurd hs aa
  | cons p ps=>simp
theorem zjV(c:UInt8)(l:List UInt8):zD c l=zM c l:=by
 have h:=zs7 c l [] [];unfold zD spl;rw[h];have aa:=zdD c l;cases hs:zM c l with
 | nil=>exact absurd hs aa
 | cons p ps=>simp
theorem zin{c:UInt8}{a:List UInt8}(h:c∉a):zM c a=[a]:=by
 induction a with
 | nil=>rfl
 | cons x t ih=>have h1:x≠c:=λe=>h (by simp[e]);rw[zcm,ye h1,ih (λe=>h (by simp[e]))]
theorem zf0{c:UInt8}{a b:List UInt8}(h:c∉a):zM c (a++c::b)=a::zM c b:=by
 induction a with
 | nil=>show zM c (c::b)=_;rw[zcm,yg rfl]
 | cons x t ih=>have h1:x≠c:=λe=>h (by simp[e]);show zM c (x::(t++c::b))=_;rw[zcm,ye h1,ih (λe=>h (by simp[e]))]
theorem zb8(l:List UInt8):z6 l=true↔∀c∈l,48<=c.toNat/\c.toNat<=57:=by
 unfold z6;rw[yF];constructor
 ·intro h c hc;have:=h c hc;simp only[yA,yq,UInt8.le_iff_toNat_le] at this;exact this
 intro h c hc;have:=h c hc;simp only[yA,yq,UInt8.le_iff_toNat_le];exact this
theorem zeU(n:Nat):(dg n).toNat=48+n%10:=by unfold dg;rw[UInt8.toNat_ofNat'];omega
theorem zg1(f:Nat):∀n,z6 (zba f n)=true:=by
 induction f with
 | zero=>intro n;rw[zb8];intro c hc;simp only[zba,yaj] at hc;subst hc;rw[zeU];omega
 | succ f ih=>
  intro n;by_cases h:9<n
  ·rw[zc5 h,zb8];intro c hc;rcases yH.1 hc with h1|h1
   ·exact(zb8 _).1 (ih _) c h1
   simp only[yaj] at h1;subst h1;rw[zeU];omega
  rw[zcV (by omega),zb8];intro c hc;simp only[yaj] at hc;subst hc;rw[zeU];omega
theorem zhQ(f n:Nat):zba f n≠[]:=by
 cases f with
 | zero=>simp[zba]
 | succ f=>
  by_cases h:9<n
  ·rw[zc5 h];simp
  rw[zcV (by omega)];simp
theorem zkN(f:Nat):∀n,n<10^(f+1)->val (zba f n)=n:=by
 induction f with
 | zero=>
  intro n h;have hd:=zeU n;have h10:n<10:=by simpa using h
  simp only[zba,val,yae,List.foldl_nil];omega
 | succ f ih=>
  intro n h;by_cases h9:9<n
  ·rw[zc5 h9,zfy,ih (n/10) (by rw[ybq] at h;omega),zeU];omega
  rw[zcV (by omega)];have hd:=zeU n;simp only[val,yae,List.foldl_nil];omega
theorem zqV(f:Nat):∀n,n<10^(f+1)->(zba f n).head?≠some 48\/zba f n=[48]:=by
 induction f with
 | zero=>
  intro n h;by_cases e:dg n=48
  ·right;simp[zba,e]
  left;simp[zba,e]
 | succ f ih=>
  intro n h;by_cases h9:9<n
  ·left;rw[zc5 h9];have h1:=ih (n/10) (by rw[ybq] at h;omega);have aa:=zhQ f (n/10);have hv:=zkN f (n/10) (by rw[ybq] at h;omega);rw[List.head?_append];rcases h1 with h1|h1
   ·cases hh:(zba f (n/10)).head? with
    | none=>exact absurd (List.head?_eq_none_iff.1 hh) aa
    | some x=>rw[hh] at h1;simpa using h1
   rw[h1] at hv;have:val [48]=0:=by decide
   omega
  rw[zcV (by omega)];by_cases e:dg n=48
  ·right;rw[e]
  left;simp[e]
theorem zpZ{c:UInt8}(v:Nat)(h:48<=c.toNat/\c.toNat<=57):dg (10*v+(c.toNat-48))=c:=by apply yaH.1;rw[zeU];omega
theorem zvp{d:List UInt8}(h:z6 d=true)(ab:d≠[])(hh:d.head?≠some 48):1<=val d:=by
 cases d with
 | nil=>exact absurd rfl ab
 | cons c t=>
  have hc:=(zb8 _).1 h c (by simp);have hc2:c.toNat≠48:=λe=>hh (by
   have:c=48:=yaH.1 e;simp[this]);have aa:∀(l:List UInt8)(a:Nat),1<=a->1<=l.foldl (λn c=>10*n+(c.toNat-48)) a:=by
   intro l;induction l with
   | nil=>intro a ha;simpa using ha
   | cons x l ih=>intro a ha;rw[yae];exact ih _ (by omega)
  unfold val;rw[yae];exact aa t _ (by omega)
theorem zvg:∀(f:Nat)(d:List UInt8),d.length<=f+1->z6 d=true->d≠[]->(d.head?≠some 48\/d=[48])->zba f (val d)=d:=by
 intro f;induction f with
 | zero=>
  intro d hl hd aa _
  match d,hl,aa with
  | [c],_,_=>
   have hc:=(zb8 _).1 hd c (by simp);have:val [c]=10*0+(c.toNat-48):=by simp[val]
   rw[this];show [dg _]=_;rw[zpZ 0 hc]
 | succ f ih=>
  intro d hl hd aa hh;obtain⟨a,c,rfl⟩:∃a c,d=a++[c]:=⟨d.dropLast,d.getLast aa,(yaF aa).symm⟩
  have hc:=(zb8 _).1 hd c (by simp);have ab:z6 a=true:=(zb8 _).2 λx hx=>(zb8 _).1 hd x (by simp[hx]);rw[zfy];by_cases ha:a=[]
  ·subst ha;have e0:val []=0:=rfl;rw[e0,zcV (by omega),zpZ 0 hc];rfl
  have ac:a.head?≠some 48:=by
   cases a with
   | nil=>exact absurd rfl ha
   | cons x t=>
    rcases hh with h|h
    ·simpa using h
    have:=yan List.length h;simp at this
  have hp:=zvp ab ha ac;rw[zc5 (by omega),zpZ _ hc];have e:(10*val a+(c.toNat-48))/10=val a:=by omega
  rw[e,ih a (by simp at hl;omega) ab ha (.inl ac)]
def zeq(d:List UInt8):Option Nat:=if d≠[]/\z6 d=true/\d.length<=9/\(d.head?≠some 48\/d=[48])/\val d<=100000000 then some (val d) else none
def za4:List UInt8->Option Int
 | []=>none
 | c::r=>if c=45 then (match zeq r with|some n=>if n=0 then none else some (-(n:Int))|none=>none) else (match zeq (c::r) with|some n=>some (n:Int)|none=>none)
theorem zfX(c:UInt8)(r:List UInt8):za4 (c::r)=if c=45 then (match zeq r with|some n=>if n=0 then none else some (-(n:Int))|none=>none) else (match zeq (c::r) with|some n=>some (n:Int)|none=>none):=rfl
def zaM(z:Int):List UInt8:=if z<0 then 45::zba 9 (-z).toNat else zba 9 z.toNat
theorem zkd{d:List UInt8}{n:Nat}(h:zeq d=some n):d=zba 9 n/\n<=100000000/\d.length<=9:=by
 unfold zeq at h;split at h
 ·rename_i hh;obtain⟨h1,h2,h3,h4,h5⟩:=hh;cases h;exact⟨(zvg 9 d (by omega) h2 h1 h4).symm,h5,h3⟩
 cases h
theorem zhH{n:Nat}(h:n<=100000000):(zba 9 n).length<=9:=by
 have aa:∀f n,n<10^(f+1)->∀g,(zba (f+g) n).length<=f+1:=by
  intro f;induction f with
  | zero=>intro n h g;rw[zcV (by simp at h;omega)];simp
  | succ f ih=>
   intro n h g;by_cases h9:9<n
   ·rw[show f+1+g=(f+g)+1 by omega,zc5 h9,yz];have:=ih (n/10) (by rw[ybq] at h;omega) g;simp;omega
   rw[zcV (by omega)];simp
 exact aa 8 n (by omega) 1
theorem zlq{n:Nat}(h:n<=100000000):zeq (zba 9 n)=some n:=by unfold zeq;have hv:=zkN 9 n (by omega);rw[yg ⟨zhQ 9 n,zg1 9 n,zhH h,zqV 9 n (by omega),by rw[hv];exact h⟩,hv]
theorem zpF(f n:Nat):(45:UInt8)∉zba f n:=λh=>by have:=(zb8 _).1 (zg1 f n) _ h;simp at this
theorem zlB{z:Int}(h1:-100000000<=z)(h2:z<=100000000):za4 (zaM z)=some z:=by
 unfold zaM;by_cases h:z<0
 ·rw[yg h];rw[zfX,yg rfl,zlq (by omega)];simp only;rw[ye (by omega)];congr 1;omega
 rw[ye h];cases hd:zba 9 z.toNat with
 | nil=>exact absurd hd (zhQ _ _)
 | cons c r=>have hc:c≠45:=λe=>zpF 9 z.toNat (by rw[hd,e];simp);rw[zfX,ye hc,<-hd,zlq (by omega)];simp only;congr 1;omega
theorem zkF{w:List UInt8}{z:Int}(h:za4 w=some z):w=zaM z/\-100000000<=z/\z<=100000000:=by
 cases w with
 | nil=>cases h
 | cons c r=>
  rw[zfX] at h;by_cases hc:c=45
  ·rw[yg hc] at h;cases hn:zeq r with
   | none=>rw[hn] at h;cases h
   | some n=>
    rw[hn] at h;simp only at h;by_cases h0:n=0
    ·rw[yg h0] at h;cases h
    rw[ye h0] at h;cases h;have:=zkd hn;refine⟨?_,by omega,by omega⟩;unfold zaM;rw[yg (by omega),hc,this.1];congr 2;omega
  rw[ye hc] at h;cases hn:zeq (c::r) with
  | none=>rw[hn] at h;cases h
  | some n=>rw[hn] at h;cases h;have:=zkd hn;refine⟨?_,by omega,by omega⟩;unfold zaM;rw[ye (by omega),this.1];congr 1
theorem zmx{z:Int}(h1:-100000000<=z)(h2:z<=100000000):(zaM z).length<=10/\1<=(zaM z).length:=by
 unfold zaM;split
 ·have:=zhH (n:=(-z).toNat) (by omega);simp;omega
 have:=zhH (n:=z.toNat) (by omega);have h:=zhQ 9 z.toNat;have:1<=(zba 9 z.toNat).length:=by
  cases hd:zba 9 z.toNat with
  | nil=>exact absurd hd h
  | cons=>simp
 omega
theorem zlO{z:Int}{c:UInt8}(h:c∈zaM z):c=45\/(48<=c.toNat/\c.toNat<=57):=by
 unfold zaM at h;split at h
 ·rcases yG.1 h with h|h
  ·exact .inl h
  exact .inr ((zb8 _).1 (zg1 _ _) c h)
 exact .inr ((zb8 _).1 (zg1 _ _) c h)
abbrev zu:=Int×List Int
def zda(p:List UInt8):Int:=if p=[98] then 1 else if p=[100] then 2 else if p=[104] then 3 else if p=[99] then 4 else 0
def zgv(k:Int):UInt8:=if k=1 then 98 else if k=2 then 100 else if k=3 then 104 else 99
def zbs(k:Int)(n:Nat):Bool:=if k=1 then n==2 else if k=2 then (n%2==0&&decide (0<n)&&decide (n<=20)) else if k=3 then (decide (0<n)&&decide (n<=10)) else if k=4 then (decide (0<n)&&decide (n<=9)) else false
def zcI:List (List UInt8)->Option (List Int)
 | []=>some []
 | p::ps=>match za4 p with|none=>none|some z=>match zcI ps with|none=>none|some zs=>some (z::zs)
theorem zex(p:List UInt8)(ps:List (List UInt8)):zcI (p::ps)=match za4 p with|none=>none|some z=>match zcI ps with|none=>none|some zs=>some (z::zs):=rfl
def zdr(line:List UInt8):Option zu:=
 match zM 32 line with
 | []=>none
 | p::ps=>match zcI ps with|none=>none|some zs=>if zbs (zda p) zs.length=true then some (zda p,zs) else none
def zbw(o:Nat)(k:Int):Nat:=if k=1 then o+1 else o-1
def goT:Nat->List zu->List (List UInt8)->List zu×Nat×Int
 | _,acc,[]=>([],acc.length+1,14)
 | o,acc,[l]=>if l=[]/\o=0 then (acc,0,0) else ([],acc.length+1,14)
 | o,acc,l::l'::t=>if o=0 then ([],acc.length+1,14) else match zdr l with|none=>([],acc.length+1,14)|some nd=>goT (zbw o nd.1) (acc++[nd]) (l'::t)
theorem zh5(o:Nat)(aa:List zu)(l:List UInt8):goT o aa [l]=if l=[]/\o=0 then (aa,0,0) else ([],aa.length+1,14):=rfl
theorem zhR(o:Nat)(aa:List zu)(l l':List UInt8)(t:List (List UInt8)):goT o aa (l::l'::t)=if o=0 then ([],aa.length+1,14) else match zdr l with|none=>([],aa.length+1,14)|some nd=>goT (zbw o nd.1) (aa++[nd]) (l'::t):=rfl
def zbc(text:List UInt8):List zu×Nat×Int:=goT 1 [] (zM 10 text)
def zac(nd:zu):Bool:=zbs nd.1 nd.2.length&&nd.2.all λz=>decide (-100000000<=z)&&decide (z<=100000000)
def zV:Nat->List zu->Bool
 | o,[]=>o==0
 | o,nd::t=>o != 0&&zac nd&&zV (zbw o nd.1) t
def zf2(nd:zu):List UInt8:=zgv nd.1::(nd.2.map λz=>32::zaM z).flatten
def zdu(nd:zu):List UInt8:=zf2 nd++[10]
def zaD(l:List zu):List UInt8:=(l.map zdu).flatten
def zgj(l:List zu):List UInt8×Int:=if zV 1 l=true then (zaD l,0) else ([],14)
theorem zeo{k:Int}{n:Nat}(h:zbs k n=true):(k=1/\n=2)\/(k=2/\n%2=0/\0<n/\n<=20)\/(k=3/\0<n/\n<=10)\/(k=4/\0<n/\n<=9):=by
 unfold zbs at h;split at h
 ·left;simp at h;omega
 split at h
 ·right;left;simp at h;omega
 split at h
 ·right;right;left;simp at h;omega
 split at h
 ·right;right;right;simp at h;omega
 cases h
theorem zjG:∀{ps:List (List UInt8)} {zs:List Int},zcI ps=some zs->zs.length=ps.length/\∀z∈zs,-100000000<=z/\z<=100000000:=by
 intro ps;induction ps with
 | nil=>intro zs h;cases h;exact⟨rfl,λz hz=>by cases hz⟩
 | cons p ps ih=>
  intro zs h;rw[zex] at h;cases h1:za4 p with
  | none=>rw[h1] at h;cases h
  | some z=>
   rw[h1] at h;simp only at h;cases h2:zcI ps with
   | none=>rw[h2] at h;cases h
   | some zs'=>
    rw[h2] at h;cases h;have h3:=ih h2;have h4:=zkF h1;refine⟨by simp[h3.1],λy hy=>?_⟩;rcases yG.1 hy with e|e
    ·rw[e];exact h4.2
    exact h3.2 y e
theorem zoW(ps:List (List UInt8))(p:List UInt8):zcI (ps++[p])=match zcI ps with|none=>none|some zs=>match za4 p with|none=>none|some z=>some (zs++[z]):=by
 induction ps with
 | nil=>simp only[yax,zcI]
 | cons q ps ih=>
  rw[yaM,zex,zex,ih];cases za4 q with
  | none=>rfl
  | some z=>
   simp only;cases zcI ps with
   | none=>rfl
   | some zs=>
    simp only;cases za4 p with
    | none=>rfl
    | some y=>rfl
theorem ztt{ps:List (List UInt8)}{p:List UInt8}(hp:p∈ps)(h:za4 p=none):zcI ps=none:=by
 induction ps with
 | nil=>cases hp
 | cons q ps ih=>
  rw[zex];rcases yG.1 hp with e|e
  ·rw[<-e,h]
  rw[ih e];cases za4 q<;>rfl
theorem ztw{l:List UInt8}{nd:zu}(h:zdr l=some nd):zac nd=true:=by
 unfold zdr at h;split at h
 ·cases h
 rename_i p ps _;split at h
 ·cases h
 rename_i zs hz;split at h
 ·rename_i hc;cases h;unfold zac;have:=(zjG hz).2;rw[hc,yaY,yF];intro z hm;have:=this z hm;simp;omega
 cases h
theorem zvO:∀(ls:List (List UInt8)) (o:Nat) (aa:List zu),(goT o aa ls).2.2=0->∃m,(goT o aa ls).1=aa++m/\(goT o aa ls).2.1=0/\zV o m=true:=by
 intro ls;induction ls with
 | nil=>intro o aa h;exact absurd h (by simp[goT])
 | cons l t ih=>
  intro o aa h;cases t with
  | nil=>
   rw[zh5] at h⊢;by_cases hh:l=[]/\o=0
   ·rw[yg hh];exact⟨[],by simp,rfl,by simp[zV,hh.2]⟩
   rw[ye hh] at h;exact absurd h (by simp)
  | cons l' t=>
   rw[zhR] at h⊢;by_cases h0:o=0
   ·rw[yg h0] at h;exact absurd h (by simp)
   rw[ye h0] at h⊢;cases hn:zdr l with
   | none=>rw[hn] at h;exact absurd h (by simp)
   | some nd=>rw[hn] at h;simp only at h⊢;obtain⟨m,h1,h2,h3⟩:=ih _ _ h;refine⟨nd::m,by rw[h1];simp,h2,?_⟩;unfold zV;rw[ztw hn,h3];simp[h0]
theorem zmD{s:List UInt8}(h:(zbc s).2.2=0):zV 1 (zbc s).1=true/\(zbc s).2.1=0:=by obtain⟨m,h1,h2,h3⟩:=zvO _ _ _ h;unfold zbc;rw[h1,h2];exact⟨by simpa using h3,rfl⟩
theorem zsN:∀(ls:List (List UInt8)) (o:Nat) (aa:List zu),(goT o aa ls).1.length<=aa.length+ls.length:=by
 intro ls;induction ls with
 | nil=>intro o aa;simp[goT]
 | cons l t ih=>
  intro o aa;cases t with
  | nil=>rw[zh5];split<;>simp
  | cons l' t=>
   rw[zhR];split
   ·simp
   split
   ·simp
   rename_i nd _;have:=ih (zbw o nd.1) (aa++[nd]);simp at this⊢;omega
theorem zmt{k:Int}{n:Nat}(h:zbs k n=true):zda [zgv k]=k/\zgv k≠32/\zgv k≠10:=by rcases zeo h with h|h|h|h<;>(rw[h.1];decide)
theorem zm3(a:UInt8)(ha:a≠32)(zs:List Int):zM 32 (a::(zs.map λz=>32::zaM z).flatten)=[a]::zs.map zaM:=by
 have h0:∀z:Int,(32:UInt8)∉zaM z:=λz hz=>by
  rcases zlO hz with h|h
  ·revert h;decide
  simp at h
 have aa:∀(zs:List Int)(p:List UInt8),(32:UInt8)∉p->zM 32 (p++(zs.map λz=>32::zaM z).flatten)=p::zs.map zaM:=by
  intro zs;induction zs with
  | nil=>intro p hp;simpa using zin hp
  | cons z zs ih=>intro p hp;simp only[yE,yM,yaM];rw[zf0 hp,ih _ (h0 z)]
 have:=aa zs [a] (by simpa using λe=>ha e.symm);simpa using this
theorem zts:∀{zs:List Int},(∀z∈zs,-100000000<=z/\z<=100000000)->zcI (zs.map zaM)=some zs:=by
 intro zs;induction zs with
 | nil=>intro _;rfl
 | cons z zs ih=>intro h;rw[yE,zex];have:=h z (by simp);rw[zlB this.1 this.2,ih λy hy=>h y (by simp[hy])]
theorem zcp{nd:zu}(h:zac nd=true):zbs nd.1 nd.2.length=true/\∀z∈nd.2,-100000000<=z/\z<=100000000:=by unfold zac at h;rw[yA,yF] at h;exact⟨h.1,λz hz=>by have:=h.2 z hz;simpa using this⟩
theorem zqS{nd:zu}(h:zac nd=true):zdr (zf2 nd)=some nd:=by obtain⟨h1,h2⟩:=zcp h;obtain⟨k1,k2,_⟩:=zmt h1;unfold zdr zf2;rw[zm3 _ k2];simp only;rw[zts h2];simp only;rw[k1,yg h1]
theorem zhI{nd:zu}(h:zac nd=true):(10:UInt8)∉zf2 nd:=by
 obtain⟨h1,h2⟩:=zcp h;obtain⟨_,_,k3⟩:=zmt h1;unfold zf2;intro hm;rcases yG.1 hm with e|e
 ·exact k3 e.symm
 obtain⟨l,hl,hc⟩:=y8.1 e;obtain⟨z,_,rfl⟩:=yo.1 hl;rcases yG.1 hc with e|e
 ·revert e;decide
 rcases zlO e with h|h
 ·revert h;decide
 simp at h
theorem zvq:∀(l:List zu)(o:Nat)(aa:List zu),zV o l=true->goT o aa (zM 10 (zaD l))=(aa++l,0,0):=by
 intro l;induction l with
 | nil=>intro o aa h;simp only[zaD,ybf,ybE,zM];unfold zV at h;rw[zh5,yg ⟨rfl,by simpa using h⟩];simp
 | cons nd l ih=>
  intro o aa h;unfold zV at h;simp only[yA,ybH] at h;have e:zaD (nd::l)=zf2 nd++10::zaD l:=by simp[zaD,zdu]
  rw[e,zf0 (zhI h.1.2)];have ab:=zdD 10 (zaD l);cases hs:zM 10 (zaD l) with
  | nil=>exact absurd hs ab
  | cons p ps=>rw[zhR,ye h.1.1,zqS h.1.2];simp only;rw[<-hs,ih _ _ h.2];simp
theorem zoK{l:List zu}(h:zV 1 l=true):zbc (zaD l)=(l,0,0):=by unfold zbc;rw[zvq l 1 [] h];rfl
end Go.Proofs.YtebinaopncclgabGreatDoor
