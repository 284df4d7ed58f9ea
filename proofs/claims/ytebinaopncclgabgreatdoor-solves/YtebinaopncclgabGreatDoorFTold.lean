import Derived.Test.YtebinaopncclgabGreatDoorGBox
import Derived.ProofKit
import Derived.OpenShut
import Derived.ChangeOld
import Derived.Deep.Slices
set_option maxRecDepth 100000
set_option maxHeartbeats 8000000
namespace Go.Proofs.YtebinaopncclgabGreatDoor
structure Dv where
 cost:Int
 spot:Nat
 now:Int
 want:Int
 S:List Int
def zfD(r:Rd)(D:Nat->Nat->Int)(x:Dv):Option Dv:=if D x.spot 0=-1\/r.close<x.now+D x.spot 0 then none else some ⟨x.cost+D x.spot 0,0,0,0,x.S⟩
def dvT(r:Rd)(D:Nat->Nat->Int)(x:Dv)(k:Nat):Int:=if x.now+D x.spot k<zp r k 2 then zp r k 2 else x.now+D x.spot k
def zjo(r:Rd)(D:Nat->Nat->Int)(x:Dv)(k:Nat):Option Dv:=
 if D x.spot k=-1\/zp r k 3<dvT r D x k\/r.load<x.want+zp r k 1 then none
 else some ⟨x.cost+D x.spot k,k,dvT r D x k+zp r k 4,x.want+zp r k 1,x.S.set (k-1) (dvT r D x k)⟩
def zlH(r:Rd)(D:Nat->Nat->Int)(st:Option Dv)(c:UInt8):Option Dv:=
 match st with
 | none=>none
 | some x=>if c=47 then zfD r D x else zjo r D x (c.toNat-48)
def zgd(r:Rd)(D:Nat->Nat->Int)(Z:List Int)(l:List UInt8):Option Dv:=l.foldl (zlH r D) (some ⟨0,0,0,0,Z⟩)
theorem zrx(r:Rd)(D:Nat->Nat->Int)(Z:List Int)(l:List UInt8)(c:UInt8):zgd r D Z (l++[c])=zlH r D (zgd r D Z l) c:=by simp[zgd]
def zh2(r:Rd)(D:Nat->Nat->Int)(Z:List Int)(l:List UInt8):Option (Int×List Int):=
 if l=[] then some (0,Z) else match zgd r D Z l with
  | none=>none
  | some x=>match zfD r D x with
   | none=>none
   | some y=>some (y.cost,y.S)
theorem zg6{l t:List Int}{i:Nat}(h:i<l.length):(l++t).getD i 0=l.getD i 0:=by rw[yj,yj,yaC h]
theorem zgB{l:List Int}{x:Int}{t:List Int}:(l++x::t).getD l.length 0=x:=by rw[yj];simp
theorem zgX{D:Nat->Nat->Int}{l t:List Int}{q:Nat}(h:q+1<l.length):z8 D (l++t) q=z8 D l q:=by unfold z8;rw[zg6 (by omega),zg6 h]
theorem zl7{D:Nat->Nat->Int}{l t:List Int}:∀q,q<l.length->zbG D (l++t) q=zbG D l q:=by
 intro q;induction q with
 | zero=>intro _;rfl
 | succ q ih=>intro h;rw[zcH,zcH,ih (by omega),zgX h]
theorem zrs{r:Rd}{D:Nat->Nat->Int}{l l':List Int}{q:Nat}(st:Option (Int×List Int))(h1:z8 D l q=z8 D l' q)(h2:l.getD (q+1) 0=l'.getD (q+1) 0):zdg r D l st q=zdg r D l' st q:=by
 cases st with
 | none=>rfl
 | some st=>obtain⟨a,b⟩:=st;unfold zdg zbR;revert h1 h2;generalize z8 D l q=d;generalize l.getD (q+1) 0=y;intro h1 h2;subst h1 h2;rfl
theorem zmT{r:Rd}{D:Nat->Nat->Int}{l S:List Int}{q k:Nat}{t d:Int}(h1:z8 D l q=d)(h2:l.getD (q+1) 0=(k:Int))(hk:k≠0):zdg r D l (some (t,S)) q=if zp r k 3<(if t+d<zp r k 2 then zp r k 2 else t+d) then none else some ((if t+d<zp r k 2 then zp r k 2 else t+d)+zp r k 4,S.set (k-1) (if t+d<zp r k 2 then zp r k 2 else t+d)):=by unfold zdg zbR;revert h1 h2;generalize z8 D l q=d';generalize l.getD (q+1) 0=y;intro h1 h2;subst h1 h2;simp only;rw[ye (by omega)];rfl
theorem zmH{r:Rd}{D:Nat->Nat->Int}{l t S:List Int}:∀q,q<l.length->zb7 r D (l++t) S q=zb7 r D l S q:=by
 intro q;induction q with
 | zero=>intro _;rfl
 | succ q ih=>intro h;rw[zcP,zcP,ih (by omega)];exact zrs _ (zgX h) (zg6 h)
theorem zsz(p t:List UInt8)(h:p++t≠[]):∃x rest,zn (p++t)=(zq p).1++((zq p).2++x++[0])::rest:=by
 have aa:∀t:List UInt8,(∃x,(zq (p++t)).1=(zq p).1/\(zq (p++t)).2=(zq p).2++x)\/∃x rest,(zq (p++t)).1=(zq p).1++((zq p).2++x++[0])::rest:=by
  intro t;refine zeg (P:=λt=>(∃x,(zq (p++t)).1=(zq p).1/\(zq (p++t)).2=(zq p).2++x)\/∃x rest,(zq (p++t)).1=(zq p).1++((zq p).2++x++[0])::rest) ?_ ?_ t
  ·exact .inl ⟨[],by simp,by simp⟩
  intro t c ih;rw[<-yaa,zcn];unfold zd6;by_cases hc:c=47
  ·rw[yg hc];rcases ih with ⟨x,h1,h2⟩|⟨x,rest,h1⟩
   ·exact .inr ⟨x,[],by simp only[h1,h2]⟩
   refine .inr ⟨x,rest++[(zq (p++t)).2++[0]],?_⟩;simp only[h1];simp
  rw[ye hc];rcases ih with ⟨x,h1,h2⟩|⟨x,rest,h1⟩
  ·exact .inl ⟨x++[(c.toNat:Int)-48],h1,by simp only[h2];simp⟩
  exact .inr ⟨x,rest,h1⟩
 unfold zn;rw[ye h];rcases aa t with ⟨x,h1,h2⟩|⟨x,rest,h1⟩
 ·exact⟨x,[],by rw[h1,h2]⟩
 refine⟨x,rest++[(zq (p++t)).2++[0]],?_⟩;rw[h1];simp
def zhg(r:Rd)(D:Nat->Nat->Int)(Z:List Int)(L:List (List Int)):Prop:=L.all (zH r)=true/\L.all (zT D)=true/\zak r D L Z≠none
theorem zt8{r:Rd}{D:Nat->Nat->Int}{Z:List Int}{L:List (List Int)}{l:List Int}(hm:l∈L)(h:zH r l=false):¬zhg r D Z L:=λg=>by have:=yF.1 g.1 l hm;rw[h] at this;cases this
theorem znU{r:Rd}{D:Nat->Nat->Int}{Z:List Int}{L:List (List Int)}{l:List Int}{q:Nat}(hm:l∈L)(hq:q+1<l.length)(h:z8 D l q=-1):¬zhg r D Z L:=λg=>by have h1:=yF.1 g.2.1 l hm;have h2:=yF.1 h1 q (by simp;omega);rw[h] at h2;simp at h2
theorem zlQ{r:Rd}{D:Nat->Nat->Int}{Z S:List Int}{L R:List (List Int)}{l:List Int}(h0:zak r D L Z=some S)(h:za3 r D l S=none):¬zhg r D Z (L++l::R):=λg=>by have h1:=zic r D (L++[l]) R Z (by rw[zf9,h0];exact h);exact g.2.2 (by rw[show L++l::R=L++[l]++R by simp];exact h1)
theorem zrb{r:Rd}(hr:∀k,0<=zp r k 1)(l:List Int):0<=z7 r l:=by
 induction l with
 | nil=>simp[z7]
 | cons x t ih=>have h1:=hr x.toNat;unfold z7 at ih⊢;simp only[yE,yZ];split<;>omega
theorem zp5(r:Rd)(a b:List Int):z7 r (a++b)=z7 r a+z7 r b:=by simp[z7]
structure zgy (r:Rd) (D:Nat->Nat->Int) (Z:List Int) (p:List UInt8) (x:Dv):Prop where
 load:(zq p).1.all (zH r)=true
 way:(zq p).1.all (zT D)=true
 time:∃S0,zak r D (zq p).1 Z=some S0/\zb7 r D (zq p).2 S0 ((zq p).2.length-1)=some (x.now,x.S)
 want:z7 r (zq p).2=x.want
 fits:x.want<=r.load
 legs:∀q,q+1<(zq p).2.length->z8 D (zq p).2 q≠-1
 cost:x.cost=zb0 D (zq p).1+zbG D (zq p).2 ((zq p).2.length-1)
 last:(zq p).2.getD ((zq p).2.length-1) 0=x.spot
theorem zwg{r:Rd}{D:Nat->Nat->Int}{Z:List Int}(hl:0<=r.load):zgy r D Z [] ⟨0,0,0,0,Z⟩:=⟨rfl,rfl,⟨Z,rfl,rfl⟩,by simp[zq,z7],hl,λq h=>absurd h (by simp[zq]),by simp[zq,zb0,zbG],rfl⟩
theorem zmc{r:Rd}{D:Nat->Nat->Int}{Z:List Int}{p:List UInt8}{x:Dv}(h:zgy r D Z p x)(k:Int)(_hk:0<=k)(t:List Int):z8 D ((zq p).2++k::t) ((zq p).2.length-1)=D x.spot k.toNat:=by have hl:=(zfH p).2.1;have h1:=h.last;unfold z8;rw[zg6 (by omega),h1,show (zq p).2.length-1+1=(zq p).2.length by omega,zgB];simp
theorem zhY{r:Rd}{D:Nat->Nat->Int}{Z:List Int}{p:List UInt8}{x:Dv}(h:zgy r D Z p x):(∀y,zfD r D x=some y->((zq p).1++[(zq p).2++[0]]).all (zH r)=true/\((zq p).1++[(zq p).2++[0]]).all (zT D)=true/\zak r D ((zq p).1++[(zq p).2++[0]]) Z=some y.S/\y.cost=zb0 D ((zq p).1++[(zq p).2++[0]])/\y.spot=0/\y.now=0/\y.want=0)/\ (zfD r D x=none->∀R,¬zhg r D Z ((zq p).1++((zq p).2++[0])::R)):=by
 have hl:=(zfH p).2.1;have aa:=zmc h 0 (by omega) [];obtain⟨S0,ac,ad⟩:=h.time;have ae:zb7 r D ((zq p).2++[0]) S0 ((zq p).2.length)=some (x.now+D x.spot 0,x.S):=by
  have e:(zq p).2.length=(zq p).2.length-1+1:=by omega
  rw[e,zcP,zmH _ (by omega),ad];simp only[zdg];rw[show (zq p).2.length-1+1=(zq p).2.length by omega,zgB,yg rfl,aa];rfl
 have e2:((zq p).2++[(0:Int)]).length-1=(zq p).2.length:=by simp
 have ab:za3 r D ((zq p).2++[0]) S0=if x.now+D x.spot 0<=r.close then some x.S else none:=by unfold za3;rw[e2,ae]
 unfold zfD;constructor
 ·intro y hy;by_cases hb:D x.spot 0=-1\/r.close<x.now+D x.spot 0
  ·rw[yg hb] at hy;cases hy
  rw[ye hb] at hy;cases hy;refine⟨?_,?_,?_,?_,rfl,rfl,rfl⟩
  ·rw[yX,h.load];have:zH r ((zq p).2++[0])=true:=by unfold zH;rw[zeZ,h.want,yg rfl];have:=h.fits;simpa using this
   simp[this]
  ·rw[yX,h.way];have:zT D ((zq p).2++[0])=true:=by
    refine yF.2 λq hq=>?_;have hq':q<(zq p).2.length:=by simpa using hq
    by_cases he:q+1<(zq p).2.length
    ·have:=h.legs q he;rw[zgX he];simpa using this
    have:q=(zq p).2.length-1:=by omega
    rw[this,aa];have:¬D x.spot 0=-1:=λe=>hb (.inl e);simpa using this
   simp[this]
  ·rw[zf9,ac];show za3 r D ((zq p).2++[0]) S0=_;rw[ab,yg (by omega)]
  show x.cost+D x.spot 0=_;have e3:(zq p).2.length=(zq p).2.length-1+1:=by omega
  rw[zgC,h.cost,e2,e3,zcH,zl7 _ (by omega)];simp only[yab];rw[aa];simp;omega
 intro hn R;by_cases hb:D x.spot 0=-1\/r.close<x.now+D x.spot 0
 ·rcases hb with hb|hb
  ·exact znU (q:=(zq p).2.length-1) (l:=(zq p).2++[0]) (by simp) (by simp;omega) (by rw[aa];exact hb)
  exact zlQ ac (by rw[ab,ye (by omega)])
 rw[ye hb] at hn;cases hn
theorem zn6{r:Rd}{D:Nat->Nat->Int}{Z:List Int}{p:List UInt8}{x:Dv}{c:UInt8}(hr:∀k,0<=zp r k 1)(h:zgy r D Z p x)(hc:c≠47)(hk:49<=c.toNat):(∀y,zjo r D x (c.toNat-48)=some y->zgy r D Z (p++[c]) y)/\ (zjo r D x (c.toNat-48)=none->∀t R,¬zhg r D Z ((zq p).1++((zq p).2++((c.toNat:Int)-48)::t)::R)):=by
 have hl:=(zfH p).2.1;have ae:(c.toNat:Int)-48=((c.toNat-48:Nat):Int):=by omega
 have hk1:1<=c.toNat-48:=by omega
 have ab:zq (p++[c])=((zq p).1,(zq p).2++[(c.toNat:Int)-48]):=by rw[zcn];unfold zd6;rw[ye hc]
 rw[ae] at ab⊢;generalize c.toNat-48=k at*;have aa:∀t,z8 D ((zq p).2++(k:Int)::t) ((zq p).2.length-1)=D x.spot k:=λt=>by rw[zmc h (k:Int) (by omega) t];simp
 obtain⟨S0,ac,af⟩:=h.time;have ad:∀t,zb7 r D ((zq p).2++(k:Int)::t) S0 ((zq p).2.length)=if zp r k 3<dvT r D x k then none else some (dvT r D x k+zp r k 4,x.S.set (k-1) (dvT r D x k)):=λt=>by
  have e:(zq p).2.length=(zq p).2.length-1+1:=by omega
  rw[e,zcP,zmH _ (by omega),af];exact zmT (aa t) (by rw[show (zq p).2.length-1+1=(zq p).2.length by omega,zgB]) (by omega)
 unfold zjo;constructor
 ·intro y hy;by_cases hb:D x.spot k=-1\/zp r k 3<dvT r D x k\/r.load<x.want+zp r k 1
  ·rw[yg hb] at hy;cases hy
  rw[ye hb] at hy;cases hy;have e2:((zq p).2++[(k:Int)]).length-1=(zq p).2.length:=by simp
  refine⟨by rw[ab];exact h.load,by rw[ab];exact h.way,⟨S0,by rw[ab];exact ac,?_⟩,?_,?_,?_,?_,?_⟩
  ·rw[ab];simp only[e2];rw[ad [],ye (λe=>hb (.inr (.inl e)))]
  ·rw[ab];simp only;rw[zeZ,h.want,ye (by omega)];simp
  ·show x.want+zp r k 1<=r.load;by_cases e:r.load<x.want+zp r k 1
   ·exact absurd (.inr (.inr e)) hb
   omega
  ·intro q hq;rw[ab] at hq⊢;simp only at hq⊢;by_cases he:q+1<(zq p).2.length
   ·rw[zgX he];exact h.legs q he
   have:q=(zq p).2.length-1:=by simp at hq;omega
   rw[this,aa []];exact λe=>hb (.inl e)
  ·rw[ab];simp only[e2];show x.cost+D x.spot k=_;have e:zbG D ((zq p).2++[(k:Int)]) ((zq p).2.length)=zbG D (zq p).2 ((zq p).2.length-1)+D x.spot k:=by
    have e3:(zq p).2.length=(zq p).2.length-1+1:=by omega
    rw[e3,zcH,zl7 _ (by omega)];simp only[yab];rw[aa []]
   rw[e,h.cost];omega
  rw[ab];simp only[e2];rw[zgB]
 intro hn t R;have hlen:((zq p).2++(k:Int)::t).length=(zq p).2.length+1+t.length:=by simp;omega
 by_cases hb:D x.spot k=-1\/zp r k 3<dvT r D x k\/r.load<x.want+zp r k 1
 ·rcases hb with hb|hb|hb
  ·exact znU (q:=(zq p).2.length-1) (l:=(zq p).2++(k:Int)::t) (by simp) (by omega) (by rw[aa];exact hb)
  ·refine zlQ ac ?_;have h1:=zk3 r D ((zq p).2++(k:Int)::t) S0 ((zq p).2.length) t.length (by rw[ad,yg hb]);unfold za3;rw[show ((zq p).2++(k:Int)::t).length-1=(zq p).2.length+t.length by omega,h1]
  refine zt8 (l:=(zq p).2++(k:Int)::t) (by simp) ?_;unfold zH;have h1:=zrb hr t;rw[zp5,h.want];have e:z7 r ((k:Int)::t)=zp r k 1+z7 r t:=by simp only[z7,yE,yZ];rw[ye (by omega)];simp
  rw[e];have:¬(x.want+(zp r k 1+z7 r t)<=r.load):=by omega
  simpa using this
 rw[ye hb] at hn;cases hn
theorem ztj{r:Rd}{D:Nat->Nat->Int}{Z:List Int}{p:List UInt8}{x y:Dv}(ab:0<=r.load)(h:zgy r D Z p x)(hy:zfD r D x=some y):zgy r D Z (p++[47]) y:=by
 obtain⟨h1,h2,h3,h4,h5,h6,h7⟩:=(zhY h).1 y hy;have aa:zq (p++[47])=((zq p).1++[(zq p).2++[0]],[0]):=by rw[zcn];rfl
 refine⟨by rw[aa];exact h1,by rw[aa];exact h2,⟨y.S,by rw[aa];exact h3,by rw[aa,h6];rfl⟩,by rw[aa,h7];simp[z7],by rw[h7];exact ab,λq hq=>?_,?_,?_⟩
 ·rw[aa] at hq;simp at hq
 ·rw[aa,h4];simp[zbG]
 rw[aa,h5];rfl
theorem zwn{r:Rd}{D:Nat->Nat->Int}{Z:List Int}(hr:∀k,0<=zp r k 1)(ab:0<=r.load)(l:List UInt8):(∀c∈l,c=47\/49<=c.toNat)->(∀x,zgd r D Z l=some x->zgy r D Z l x)/\(zgd r D Z l=none->∀t,¬zhg r D Z (zn (l++t))):=by
 refine zeg (P:=λl=>(∀c∈l,c=47\/49<=c.toNat)->(∀x,zgd r D Z l=some x->zgy r D Z l x)/\(zgd r D Z l=none->∀t,¬zhg r D Z (zn (l++t)))) ?_ ?_ l
 ·intro _;exact⟨λx hx=>(by cases hx;exact zwg ab),λh=>(by cases h)⟩
 intro l c ih hb;obtain⟨i1,i2⟩:=ih (λx hx=>hb x (by simp[hx]));rw[zrx];cases hg:zgd r D Z l with
 | none=>exact⟨λx hx=>(by cases hx),λ_ t=>(by rw[yaa];exact i2 hg _)⟩
 | some x=>
  have hx:=i1 x hg;unfold zlH;by_cases hc:c=47
  ·simp only[hc,ycf];refine⟨λy hy=>ztj ab hx hy,λhn t=>?_⟩;obtain⟨xx,rest,e⟩:=zsz (l++[47]) t (by simp);have aa:zq (l++[47])=((zq l).1++[(zq l).2++[0]],[0]):=by rw[zcn];rfl
   rw[aa] at e;rw[e,yaa];exact(zhY hx).2 hn _
  simp only[hc,yck];have hk:49<=c.toNat:=by
   rcases hb c (by simp) with h|h
   ·exact absurd h hc
   exact h
  refine⟨λy hy=>(zn6 hr hx hc hk).1 y hy,λhn t=>?_⟩;obtain⟨xx,rest,e⟩:=zsz (l++[c]) t (by simp);have aa:zq (l++[c])=((zq l).1,(zq l).2++[(c.toNat:Int)-48]):=by rw[zcn];unfold zd6;rw[ye hc]
  rw[aa] at e;rw[e];have:=(zn6 hr hx hc hk).2 hn (xx++[0]) rest;simpa using this
theorem zm8{r:Rd}{D:Nat->Nat->Int}{Z:List Int}(hr:∀k,0<=zp r k 1)(ab:0<=r.load){l:List UInt8}(hb:∀c∈l,c=47\/49<=c.toNat):(∀C S,zh2 r D Z l=some (C,S)->(zn l).all (zH r)=true/\(zn l).all (zT D)=true/\zak r D (zn l) Z=some S/\zb0 D (zn l)=C)/\(zh2 r D Z l=none->¬zhg r D Z (zn l)):=by
 obtain⟨h1,h2⟩:=zwn (Z:=Z) (D:=D) hr ab l hb;unfold zh2;by_cases hn:l=[]
 ·rw[yg hn];subst hn;refine⟨λC S e=>?_,λe=>(by cases e)⟩;cases e;exact⟨rfl,rfl,rfl,rfl⟩
 rw[ye hn];have aa:zn l=(zq l).1++[(zq l).2++[0]]:=by unfold zn;rw[ye hn]
 cases hg:zgd r D Z l with
 | none=>exact⟨λC S e=>(by cases e),λ_=>(by have:=h2 hg [];simpa using this)⟩
 | some x=>
  have hx:=h1 x hg;cases hh:zfD r D x with
  | none=>simp only[hh];refine⟨λC S e=>(by cases e),λ_=>?_⟩;rw[aa];exact(zhY hx).2 hh []
  | some y=>simp only[hh];refine⟨λC S e=>?_,λe=>(by cases e)⟩;cases e;obtain⟨k1,k2,k3,k4,_⟩:=(zhY hx).1 y hh;rw[aa];exact⟨k1,k2,k3,k4.symm⟩
open Go.RowKit Go.IntWalk
def zvN(r:Rd)(vs vr:Value):Array Value:=#[.int .i64 r.vans,.int .i64 r.load,.int .i64 r.close,.int .i64 r.nodes,.int .i64 r.home,vs,vr]
structure YIs (w:World) (yb B:Nat) (r:Rd) (vs vr:Value):Prop where
 heap:w.heap[yb]?=some (.cells (zvN r vs vr) 28 (0,0))
 stops:w.ownsRow B 62 5 vs r.stops.length (zd r.stops.flatten)
 roads:w.ownsRow B 64 3 vr r.roads.length (zd r.roads.flatten)
theorem YIs.below{w w':World}{yb B:Nat}{r:Rd}{vs vr:Value}(h:YIs w yb B r vs vr)(hb:Below w.heap.size w w'):YIs w' yb B r vs vr:=⟨by rw[hb.block yb (yc.1 h.heap).1];exact h.heap,ze h.stops hb,ze h.roads hb⟩
def zfj(r:Rd)(D:Nat->Nat->Int)(l:List UInt8):Option (Int×List Int):=if zx r.stops.length l=0/\¬r.vans<((zn l).length:Int) then zh2 r D (List.replicate r.stops.length 0) l else none
theorem zq7{r:Rd}(ac:zE r)(k:Nat):0<=zp r k 1:=by
 unfold zp;by_cases h:k-1<r.stops.length
 ·obtain⟨b0,b1,b2,b3,b4,ab,ad⟩:=ac.stops _ (ym h);have aa:r.stops.getD (k-1) []=[b0,b1,b2,b3,b4]:=by rw[yj,yl h,yK,ab]
  simp only[zas,yA,za7,yq] at ad;rw[aa];show 0<=b1;omega
 have aa:r.stops.getD (k-1) []=[]:=by rw[yj,yao (by omega)];rfl
 rw[aa];exact yaB _
theorem zkb{r:Rd}{D:Nat->Nat->Int}{l:List UInt8}(aa:zE r):(∀C S,zfj r D l=some (C,S)->zI r D l=(C,some S,0))/\(zfj r D l=none->∃e,e≠0/\zI r D l=(0,none,e)):=by
 have ab:0<=r.load:=by have:=zaH.1 aa.head;omega
 unfold zfj zI;by_cases hf:zx r.stops.length l=0
 ·have hb:∀c∈l,c=47\/49<=c.toNat:=λc hc=>by
   rcases zgw (zfe hf).2.1 c hc with h|h
   ·exact .inl h
   exact .inr h.1
  rw[ye (show ¬zx r.stops.length l≠0 by omega)];by_cases hv:r.vans<((zn l).length:Int)
  ·rw[ye (λh=>h.2 hv),yg hv];exact⟨λC S e=>(by cases e),λ_=>⟨8,by omega,rfl⟩⟩
  rw[yg ⟨hf,hv⟩,ye hv];obtain⟨h1,h2⟩:=zm8 (r:=r) (D:=D) (Z:=List.replicate r.stops.length 0) (zq7 aa) ab hb;refine⟨λC S e=>?_,λe=>?_⟩
  ·obtain⟨k1,k2,k3,k4⟩:=h1 C S e;rw[ye (by rw[k1];simp),ye (by rw[k2];simp),k3,k4]
  have h3:=h2 e;by_cases g1:(zn l).all (zH r)=false
  ·rw[yg g1];exact⟨9,by omega,rfl⟩
  rw[ye g1];by_cases g2:(zn l).all (zT D)=false
  ·rw[yg g2];exact⟨10,by omega,rfl⟩
  rw[ye g2];cases ht:zak r D (zn l) (List.replicate r.stops.length 0) with
  | none=>exact⟨11,by omega,rfl⟩
  | some S=>exact absurd ⟨by simpa using g1,by simpa using g2,by rw[ht];simp⟩ h3
 rw[ye (λh=>hf h.1),yg hf];exact⟨λC S e=>(by cases e),λ_=>⟨_,hf,rfl⟩⟩
theorem zdp.sq{w:World}{B:Nat}{v:Value}{n:Nat}{D:Nat->Nat->Int}(h:zdp w B v n D)(hn:n<=100):SqR w v n D:=by obtain⟨g,rfl,hg,hr⟩:=h;refine⟨_,_,rfl,hn,λi hi=>?_⟩;obtain⟨gi,h1,h2,h3⟩:=hr i hi;exact⟨g,gi,n,rfl,hg.2,h1,h2.2,h3⟩
open Go.RowKit
theorem zp9{r:Rd}{D:Nat->Nat->Int}{l:List UInt8}(h:(zI r D l).2.2=0):∃S,zI r D l=((zI r D l).1,some S,0):=by
 unfold zI at h⊢;split at h
 ·rename_i h1;exact absurd h h1
 rename_i h1;rw[ye h1];split at h
 ·cases h
 rename_i h2;rw[ye h2];split at h
 ·cases h
 rename_i h3;rw[ye h3];split at h
 ·cases h
 rename_i h4;rw[ye h4];cases ht:zak r D (zn l) (List.replicate r.stops.length 0) with
 | none=>rw[ht] at h;cases h
 | some S=>exact⟨S,rfl⟩
theorem ztx{r:Rd}(aa:zE r):zbu (zb r (za r)):=zeS aa λa b ha hb=>(zaB aa a b ha hb).1
theorem ziz{r:Rd}{l t:List UInt8}(h:zbz r l t=(0,0)):(zb2 r l).2=0/\(zbc t).2.2=0/\∃P',zdO (zb r (za r)) (zb2 r l).1 [] (zbc t).1=some P':=by
 unfold zbz at h;split at h
 ·rename_i h1;injection h with _ h2;exact absurd h2 h1
 rename_i h1;split at h
 ·injection h with _ h2;exact absurd h2 (by omega)
 rename_i h2;split at h
 ·rename_i h3;exact⟨by omega,by omega,(zgh _ _ _ _ _).1 h3⟩
 injection h with _ h3;exact absurd h3 (by omega)
theorem zif{r:Rd}(aa:zE r){l t:List UInt8}(h:zbz r l t=(0,0)){R:List (List Nat)}(hp:zO (zb r (za r)) R):∃c,(zb2 r l).1=some c/\c<=zR (zb r (za r)) R:=by obtain⟨_,h2,P',h3⟩:=ziz h;exact zmY (ztx aa) hp h3 (zmD h2).1
theorem zo2{r:Rd}(aa:zE r){t:List UInt8}(h:zbz r zcj t=(0,0)){R:List (List Nat)}(hp:zO (zb r (za r)) R):False:=by obtain⟨c,h1,_⟩:=zif aa h hp;unfold zb2 at h1;rw[yg rfl] at h1;cases h1
theorem znq{r:Rd}(aa:zE r){l t:List UInt8}(hl:l≠zcj)(h:zbz r l t=(0,0)):∃c S,zI r (za r) l=(c,some S,0)/\∀R,zO (zb r (za r)) R->c<=zR (zb r (za r)) R:=by
 obtain⟨h1,_,_⟩:=ziz h;have hk:=λR hp=>zif aa h (R:=R) hp;unfold zb2 at h1 hk;rw[ye hl] at h1 hk;by_cases hj:(zI r (za r) l).2.2≠0
 ·rw[yg hj] at h1;exact absurd h1 hj
 rw[ye hj] at hk;obtain⟨S,hS⟩:=zp9 (r:=r) (D:=za r) (l:=l) (by omega);refine⟨_,S,hS,λR hp=>?_⟩;obtain⟨c,e,hc⟩:=hk R hp;cases e;exact hc
theorem zqC{r:Rd}(aa:zE r){l:List UInt8}{C:Int}{S:List Int}(h:zfj r (za r) l=some (C,S)):zO (zb r (za r)) (zaX l)/\C=zR (zb r (za r)) (zaX l):=by have hj:=(zkb aa).1 C S h;obtain⟨_,hq⟩:=(zhi (D:=za r) aa).1 ⟨C,S,hj⟩;exact⟨hq,zgN hj⟩
theorem zjc{r:Rd}(aa:zE r){l:List UInt8}{c:Int}{S:List Int}(h:zI r (za r) l=(c,some S,0)):zfj r (za r) l=some (c,S):=by
 obtain⟨h1,h2⟩:=zkb (D:=za r) (l:=l) aa;cases hd:zfj r (za r) l with
 | none=>obtain⟨e,he,hj⟩:=h2 hd;rw[hj] at h;cases h
 | some cs=>obtain⟨C,S'⟩:=cs;have hj:=h1 C S' hd;rw[hj] at h;cases h;rfl
theorem zqc{r:Rd}(aa:zE r){l t:List UInt8}(h:zbz r zcj t=(0,0)):zfj r (za r) l=none:=by
 cases hd:zfj r (za r) l with
 | none=>rfl
 | some cs=>obtain⟨C,S⟩:=cs;exact(zo2 aa h (zqC aa hd).1).elim
theorem zm0{r:Rd}(aa:zE r){l t:List UInt8}(hl:l≠zcj)(h:zbz r l t=(0,0)):∃c S,zfj r (za r) l=some (c,S)/\∀l2 C S2,zfj r (za r) l2=some (C,S2)->c<=C:=by obtain⟨c,S,hj,hk⟩:=znq aa hl h;refine⟨c,S,zjc aa hj,λl2 C S2 hd=>?_⟩;obtain⟨h1,h2⟩:=zqC aa hd;rw[h2];exact hk _ h1
def zwc(v:Int)(l:ByteArray)(c:Int)(t:ByteArray):Value:=.agg #[.int .i64 v,.string l,.int .i64 c,.string t]
theorem zt0{s:ByteArray}{k:Nat}(h:k<s.size):(s.data.toList.take (k+1)).count 10=(s.data.toList.take k).count 10+(if s[k]=10 then 1 else 0):=by
 rw[zco s k h,yaI];congr 1;by_cases e:s[k]=10
 ·rw[yg e,e];rfl
 rw[ye e];exact ya1.2 (by simpa using λh=>e h.symm)
end Go.Proofs.YtebinaopncclgabGreatDoor
