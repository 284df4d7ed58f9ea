import Derived.Test.YtebinaopncclgabGreatDoorRTree
set_option maxRecDepth 100000
set_option maxHeartbeats 8000000
namespace Go.Proofs.YtebinaopncclgabGreatDoor
open Go.RowKit Go.IntWalk
def zf8(w:World)(l:List UInt8)(e:Ending)(w':World):Prop:=(∃z,e=.returned (.tuple #[.int .i64 z,.bool (za4 l).isSome])/\∀x,za4 l=some x->z=x)/\Below w.heap.size w w'
theorem zct{w w':World}{l:List UInt8}{e:Ending}{z:Int}(h:za4 l=none)(he:e=.returned (.tuple #[.int .i64 z,.bool false]))(hb:Below w.heap.size w w'):zf8 w l e w':=⟨⟨z,by rw[h];exact he,λx hx=>by rw[h] at hx;cases hx⟩,hb⟩
theorem zhh{w w':World}{l:List UInt8}{e:Ending}{z:Int}(h:za4 l=some z)(he:e=.returned (.tuple #[.int .i64 z,.bool true]))(hb:Below w.heap.size w w'):zf8 w l e w':=⟨⟨z,by rw[h];exact he,λx hx=>by rw[h] at hx;cases hx;rfl⟩,hb⟩
theorem zqO(s:ByteArray)(w:World)(hs:s.size<=2000000):Calls Tryz.prog 188 #[.string s] w (zf8 w s.data.toList):=by
 by_cases hA:1<s.size
 ·have hA0:0<s.size:=by omega
  have hl:s.data.toList.length=s.size:=by simp
  have al:s.data.toList.getD 0 0=s[0]:=by rw[yj,yl (by omega)];rfl
  by_cases hm:s[0]=45
  ·have he:((s[0].toNat:Int)==45)=true:=by rw[hm];rfl
   have hz:(s.extract 1 s.size).size=s.size-1:=by simp
   obtain⟨D,hD⟩:∃D,s.extract 1 s.size=D:=⟨_,rfl⟩
   rw[hD] at hz;have aa:1<s.data.toList.length/\s.data.toList.getD 0 0=45:=⟨by omega,by rw[al,hm]⟩
   have ai:zc9 s.data.toList=D.data.toList:=by unfold zc9;rw[yg aa,<-hD,ybt];show _=((s.data.toList.drop 1).take (s.size-1)).toArray.toList;rw[yD (by simp)]
   have ah:zcL s.data.toList=(-(val D.data.toList:Int)):=by unfold zcL;rw[yg aa,ai]
   have am:D.size<s.size:=by omega
   clear hl al aa;have HZ:Hid (zcL s.data.toList=(-(val D.data.toList:Int))):=ah;by_cases hg:z6 D.data.toList=true/\1<=D.size/\D.size<=9
   ·have hv:=zgA hg.1 (by simpa using hg.2.2);have b1:(z6 D.data.toList&&decide (1<=D.size))=true:=by rw[hg.1,yak hg.2.1];rfl
    have aj:¬(9<D.size):=by omega
    have HV:Hid (∀W,Calls Tryz.prog 202 #[.string D] W λe w'=>e=.returned (.int .i64 (val D.data.toList))/\w'=W):=λW=>zj0 D W hg.2.2 hg.1;have af:=hid (zjW (l:=s.data.toList));have ad:=hid (zhE (l:=s.data.toList));rw[HZ.out] at af ad;have ae:Hid (∀W,Calls Tryz.prog 160 #[.int .i64 (-(val D.data.toList:Int))] W λe w'=>e=.returned (.string ⟨(zaM (-(val D.data.toList:Int))).toArray⟩)/\Below W.heap.size W w'):=λW=>zfK _ W (by omega) (by omega);generalize ak:val D.data.toList=v at*;clear hg ak HZ ah;by_cases q1:zaM (-(v:Int))=s.data.toList
    ·have c1:(zaM (-(v:Int))==s.toList)=true:=by rw[zb5];simpa using q1
     by_cases q2:-100000000<=(-(v:Int))/\(-(v:Int))<=100000000
     ·have ac:Hid (za4 s.data.toList=some (-(v:Int))):=ad.out.2 ⟨q1,q2.1,q2.2⟩;obtain⟨q3,q4⟩:=q2;clear q1 af ad;go_in;go_wp2_with fail;refine(zaO D _ (by unfold maxLen;omega)).mono ?_;rintro e1 w1⟨rfl,rfl⟩;rw[b1];go_wp2_with fail;refine(HV.out _).mono ?_;rintro e2 w2⟨rfl,rfl⟩;go_wp2_with fail;refine(ae.out _).mono ?_;rintro e3 w3⟨rfl,ab⟩;have ag:=hid ab;clear ab HV ae;go_wp2;go_ret2;exact zhh ac.out rfl ag.out
     have ac:Hid (za4 s.data.toList=none):=af.out (λh=>q2 (ad.out.1 h).2);clear q1 af ad;have q3:¬(-100000000<=(-(v:Int))):=λh=>q2 ⟨h,by omega⟩;clear q2;go_in;go_wp2_with fail;refine(zaO D _ (by unfold maxLen;omega)).mono ?_;rintro e1 w1⟨rfl,rfl⟩;rw[b1];go_wp2_with fail;refine(HV.out _).mono ?_;rintro e2 w2⟨rfl,rfl⟩;go_wp2_with fail;refine(ae.out _).mono ?_;rintro e3 w3⟨rfl,ab⟩;have ag:=hid ab;clear ab HV ae;go_wp2;go_ret2;exact zct ac.out rfl ag.out
    have c1:(zaM (-(v:Int))==s.toList)=false:=by rw[zb5];simpa using q1
    have ac:Hid (za4 s.data.toList=none):=af.out (λh=>q1 (ad.out.1 h).1);clear q1 af ad;go_in;go_wp2_with fail;refine(zaO D _ (by unfold maxLen;omega)).mono ?_;rintro e1 w1⟨rfl,rfl⟩;rw[b1];go_wp2_with fail;refine(HV.out _).mono ?_;rintro e2 w2⟨rfl,rfl⟩;go_wp2_with fail;refine(ae.out _).mono ?_;rintro e3 w3⟨rfl,ab⟩;have ag:=hid ab;clear ab HV ae;go_wp2;go_ret2;exact zct ac.out rfl ag.out
   have ac:Hid (za4 s.data.toList=none):=by
    show _=_;cases hn:za4 s.data.toList with
    | none=>rfl
    | some x=>
     obtain⟨k1,k2,k3,_⟩:=zfU hn;rw[ai] at k1 k2 k3;refine absurd ⟨k1,?_,by simpa using k3⟩ hg;rcases yaS D.size with h0|h0
     ·exact absurd (yaK (by simpa using h0)) k2
     exact h0
   by_cases b1:(z6 D.data.toList&&decide (1<=D.size))=true
   ·have aj:9<D.size:=by rw[yA,yq] at b1;false_or_by_contra;rename_i hc;exact hg ⟨b1.1,b1.2,by omega⟩
    clear hg HZ ah;go_in;go_wp2_with fail;refine(zaO D _ (by unfold maxLen;omega)).mono ?_;rintro e1 w1⟨rfl,rfl⟩;rw[b1];go_wp2;go_ret2;exact zct ac.out rfl (yk _ _)
   have b1:(z6 D.data.toList&&decide (1<=D.size))=false:=by simpa using b1
   clear hg HZ ah;go_in;go_wp2_with fail;refine(zaO D _ (by unfold maxLen;omega)).mono ?_;rintro e1 w1⟨rfl,rfl⟩;rw[b1];go_wp2;go_ret2;exact zct ac.out rfl (yk _ _)
  have he:((s[0].toNat:Int)==45)=false:=by rw[yO];intro h;exact hm (yaH.1 (by have:(45:UInt8).toNat=45:=rfl;omega))
  have aa:¬(1<s.data.toList.length/\s.data.toList.getD 0 0=45):=λh=>hm (by rw[<-al];exact h.2);have ai:zc9 s.data.toList=s.data.toList:=by unfold zc9;rw[ye aa]
  have ah:zcL s.data.toList=((val s.data.toList:Nat):Int):=by unfold zcL;rw[ye aa,ai]
  have am:¬(s.size<s.size):=by omega
  clear hl al aa;have HZ:Hid (zcL s.data.toList=((val s.data.toList:Nat):Int)):=ah;by_cases hg:z6 s.data.toList=true/\1<=s.size/\s.size<=9
  ·have hv:=zgA hg.1 (by simpa using hg.2.2);have b1:(z6 s.data.toList&&decide (1<=s.size))=true:=by rw[hg.1,yak hg.2.1];rfl
   have aj:¬(9<s.size):=by omega
   have HV:Hid (∀W,Calls Tryz.prog 202 #[.string s] W λe w'=>e=.returned (.int .i64 (val s.data.toList))/\w'=W):=λW=>zj0 s W hg.2.2 hg.1;have af:=hid (zjW (l:=s.data.toList));have ad:=hid (zhE (l:=s.data.toList));rw[HZ.out] at af ad;have ae:Hid (∀W,Calls Tryz.prog 160 #[.int .i64 ((val s.data.toList:Nat):Int)] W λe w'=>e=.returned (.string ⟨(zaM ((val s.data.toList:Nat):Int)).toArray⟩)/\Below W.heap.size W w'):=λW=>zfK _ W (by omega) (by omega);generalize ak:val s.data.toList=v at*;clear hg ak HZ ah;by_cases q1:zaM (v:Int)=s.data.toList
   ·have c1:(zaM (v:Int)==s.toList)=true:=by rw[zb5];simpa using q1
    by_cases q2:-100000000<=(v:Int)/\(v:Int)<=100000000
    ·have ac:Hid (za4 s.data.toList=some (v:Int)):=ad.out.2 ⟨q1,q2.1,q2.2⟩;obtain⟨q3,q4⟩:=q2;clear q1 af ad;go_in;go_wp2_with fail;refine(zaO s _ (by unfold maxLen;omega)).mono ?_;rintro e1 w1⟨rfl,rfl⟩;rw[b1];go_wp2_with fail;refine(HV.out _).mono ?_;rintro e2 w2⟨rfl,rfl⟩;go_wp2_with fail;refine(ae.out _).mono ?_;rintro e3 w3⟨rfl,ab⟩;have ag:=hid ab;clear ab HV ae;go_wp2;go_ret2;exact zhh ac.out rfl ag.out
    have ac:Hid (za4 s.data.toList=none):=af.out (λh=>q2 (ad.out.1 h).2);clear q1 af ad;have q3:-100000000<=(v:Int):=by omega
    have q4:¬((v:Int)<=100000000):=λh=>q2 ⟨q3,h⟩;have q5:decide ((v:Int)<=100000000)=false:=by simpa using q4
    clear q2;go_in;go_wp2_with fail;refine(zaO s _ (by unfold maxLen;omega)).mono ?_;rintro e1 w1⟨rfl,rfl⟩;rw[b1];go_wp2_with fail;refine(HV.out _).mono ?_;rintro e2 w2⟨rfl,rfl⟩;go_wp2_with fail;refine(ae.out _).mono ?_;rintro e3 w3⟨rfl,ab⟩;have ag:=hid ab;clear ab HV ae;go_wp2;go_ret2;exact zct ac.out rfl ag.out
   have c1:(zaM (v:Int)==s.toList)=false:=by rw[zb5];simpa using q1
   have ac:Hid (za4 s.data.toList=none):=af.out (λh=>q1 (ad.out.1 h).1);clear q1 af ad;go_in;go_wp2_with fail;refine(zaO s _ (by unfold maxLen;omega)).mono ?_;rintro e1 w1⟨rfl,rfl⟩;rw[b1];go_wp2_with fail;refine(HV.out _).mono ?_;rintro e2 w2⟨rfl,rfl⟩;go_wp2_with fail;refine(ae.out _).mono ?_;rintro e3 w3⟨rfl,ab⟩;have ag:=hid ab;clear ab HV ae;go_wp2;go_ret2;exact zct ac.out rfl ag.out
  have ac:Hid (za4 s.data.toList=none):=by
   show _=_;cases hn:za4 s.data.toList with
   | none=>rfl
   | some x=>
    obtain⟨k1,k2,k3,_⟩:=zfU hn;rw[ai] at k1 k2 k3;refine absurd ⟨k1,?_,by simpa using k3⟩ hg;rcases yaS s.size with h0|h0
    ·exact absurd (yaK (by simpa using h0)) k2
    exact h0
  by_cases b1:(z6 s.data.toList&&decide (1<=s.size))=true
  ·have aj:9<s.size:=by rw[yA,yq] at b1;false_or_by_contra;rename_i hc;exact hg ⟨b1.1,b1.2,by omega⟩
   clear hg HZ ah;go_in;go_wp2_with fail;refine(zaO s _ (by unfold maxLen;omega)).mono ?_;rintro e1 w1⟨rfl,rfl⟩;rw[b1];go_wp2;go_ret2;exact zct ac.out rfl (yk _ _)
  have b1:(z6 s.data.toList&&decide (1<=s.size))=false:=by simpa using b1
  clear hg HZ ah;go_in;go_wp2_with fail;refine(zaO s _ (by unfold maxLen;omega)).mono ?_;rintro e1 w1⟨rfl,rfl⟩;rw[b1];go_wp2;go_ret2;exact zct ac.out rfl (yk _ _)
 have hl:s.data.toList.length=s.size:=by simp
 have aa:¬(1<s.data.toList.length/\s.data.toList.getD 0 0=45):=λh=>hA (by omega);have ai:zc9 s.data.toList=s.data.toList:=by unfold zc9;rw[ye aa]
 have ah:zcL s.data.toList=((val s.data.toList:Nat):Int):=by unfold zcL;rw[ye aa,ai]
 have am:¬(s.size<s.size):=by omega
 clear hl aa;have HZ:Hid (zcL s.data.toList=((val s.data.toList:Nat):Int)):=ah;by_cases hg:z6 s.data.toList=true/\1<=s.size/\s.size<=9
 ·have hv:=zgA hg.1 (by simpa using hg.2.2);have b1:(z6 s.data.toList&&decide (1<=s.size))=true:=by rw[hg.1,yak hg.2.1];rfl
  have aj:¬(9<s.size):=by omega
  have HV:Hid (∀W,Calls Tryz.prog 202 #[.string s] W λe w'=>e=.returned (.int .i64 (val s.data.toList))/\w'=W):=λW=>zj0 s W hg.2.2 hg.1;have af:=hid (zjW (l:=s.data.toList));have ad:=hid (zhE (l:=s.data.toList));rw[HZ.out] at af ad;have ae:Hid (∀W,Calls Tryz.prog 160 #[.int .i64 ((val s.data.toList:Nat):Int)] W λe w'=>e=.returned (.string ⟨(zaM ((val s.data.toList:Nat):Int)).toArray⟩)/\Below W.heap.size W w'):=λW=>zfK _ W (by omega) (by omega);generalize ak:val s.data.toList=v at*;clear hg ak HZ ah;by_cases q1:zaM (v:Int)=s.data.toList
  ·have c1:(zaM (v:Int)==s.toList)=true:=by rw[zb5];simpa using q1
   by_cases q2:-100000000<=(v:Int)/\(v:Int)<=100000000
   ·have ac:Hid (za4 s.data.toList=some (v:Int)):=ad.out.2 ⟨q1,q2.1,q2.2⟩;obtain⟨q3,q4⟩:=q2;clear q1 af ad;go_in;go_wp2_with fail;refine(zaO s _ (by unfold maxLen;omega)).mono ?_;rintro e1 w1⟨rfl,rfl⟩;rw[b1];go_wp2_with fail;refine(HV.out _).mono ?_;rintro e2 w2⟨rfl,rfl⟩;go_wp2_with fail;refine(ae.out _).mono ?_;rintro e3 w3⟨rfl,ab⟩;have ag:=hid ab;clear ab HV ae;go_wp2;go_ret2;exact zhh ac.out rfl ag.out
   have ac:Hid (za4 s.data.toList=none):=af.out (λh=>q2 (ad.out.1 h).2);clear q1 af ad;have q3:-100000000<=(v:Int):=by omega
   have q4:¬((v:Int)<=100000000):=λh=>q2 ⟨q3,h⟩;have q5:decide ((v:Int)<=100000000)=false:=by simpa using q4
   clear q2;go_in;go_wp2_with fail;refine(zaO s _ (by unfold maxLen;omega)).mono ?_;rintro e1 w1⟨rfl,rfl⟩;rw[b1];go_wp2_with fail;refine(HV.out _).mono ?_;rintro e2 w2⟨rfl,rfl⟩;go_wp2_with fail;refine(ae.out _).mono ?_;rintro e3 w3⟨rfl,ab⟩;have ag:=hid ab;clear ab HV ae;go_wp2;go_ret2;exact zct ac.out rfl ag.out
  have c1:(zaM (v:Int)==s.toList)=false:=by rw[zb5];simpa using q1
  have ac:Hid (za4 s.data.toList=none):=af.out (λh=>q1 (ad.out.1 h).1);clear q1 af ad;go_in;go_wp2_with fail;refine(zaO s _ (by unfold maxLen;omega)).mono ?_;rintro e1 w1⟨rfl,rfl⟩;rw[b1];go_wp2_with fail;refine(HV.out _).mono ?_;rintro e2 w2⟨rfl,rfl⟩;go_wp2_with fail;refine(ae.out _).mono ?_;rintro e3 w3⟨rfl,ab⟩;have ag:=hid ab;clear ab HV ae;go_wp2;go_ret2;exact zct ac.out rfl ag.out
 have ac:Hid (za4 s.data.toList=none):=by
  show _=_;cases hn:za4 s.data.toList with
  | none=>rfl
  | some x=>
   obtain⟨k1,k2,k3,_⟩:=zfU hn;rw[ai] at k1 k2 k3;refine absurd ⟨k1,?_,by simpa using k3⟩ hg;rcases yaS s.size with h0|h0
   ·exact absurd (yaK (by simpa using h0)) k2
   exact h0
 by_cases b1:(z6 s.data.toList&&decide (1<=s.size))=true
 ·have aj:9<s.size:=by rw[yA,yq] at b1;false_or_by_contra;rename_i hc;exact hg ⟨b1.1,b1.2,by omega⟩
  exact absurd aj (by omega)
 have b1:(z6 s.data.toList&&decide (1<=s.size))=false:=by simpa using b1
 clear hg HZ ah;go_in;go_wp2_with fail;refine(zaO s _ (by unfold maxLen;omega)).mono ?_;rintro e1 w1⟨rfl,rfl⟩;rw[b1];go_wp2;go_ret2;exact zct ac.out rfl (yk _ _)
theorem zhJ(c:UInt8):∀l:List UInt8,(zM c l).length<=l.length+1
 | []=>by simp[zM]
 | x::t=>by
  have:=zhJ c t;rw[zcm];split
  ·simp;omega
  cases hq:zM c t with
  | nil=>simp
  | cons p ps=>rw[hq] at this;simp at*;omega
theorem zoM(k:Int)(n:Nat)(w:World)(hn:n<=4000000):Calls Tryz.prog 127 #[.int .i64 k,.int .i64 n] w λe w'=>e=.returned (.bool (zbs k n))/\w'=w:=by
 by_cases h1:k=1
 ·subst h1;go_in;go_wp2
  all_goals
   go_ret;refine⟨zcZ ?_,rfl⟩;rw[yW];simp[zbs];try omega
 have e1:(k==1)=false:=by simpa using h1
 by_cases h2:k=2
 ·subst h2;go_in;go_wp2
  all_goals
   go_ret;refine⟨zcZ ?_,rfl⟩;rw[yW];simp[zbs];try omega
 have e2:(k==2)=false:=by simpa using h2
 by_cases h3:k=3
 ·subst h3;go_in;go_wp2
  all_goals
   go_ret;refine⟨zcZ ?_,rfl⟩;rw[yW];simp[zbs];try omega
 have e3:(k==3)=false:=by simpa using h3
 by_cases h4:k=4
 ·subst h4;go_in;go_wp2
  all_goals
   go_ret;refine⟨zcZ ?_,rfl⟩;rw[yW];simp[zbs];try omega
 have e4:(k==4)=false:=by simpa using h4
 have hc:zbs k n=false:=by unfold zbs;rw[ye h1,ye h2,ye h3,ye h4]
 go_in;go_wp2;go_ret;exact⟨zcZ hc.symm,rfl⟩
def zca(p:List UInt8)(m:Nat):Int:=if p=[98]/\0<m then 1 else if p=[100]/\1<m then 2 else if p=[104]/\2<m then 3 else if p=[99]/\3<m then 4 else 0
theorem zug(p:List UInt8):zca p 4=zda p:=by unfold zca zda;simp
theorem zrJ(p:List UInt8):zca p 0=0:=by unfold zca;simp
theorem zf7{p:List UInt8}{m:Nat}(hm:m<4)(hp:p≠[[98,100,104,99].getD m 0]):zca p (m+1)=zca p m:=by
 have:m=0\/m=1\/m=2\/m=3:=by omega
 unfold zca;rcases this with rfl|rfl|rfl|rfl<;>simp at hp<;>simp[hp]
theorem zj9:((⟨#[98,100,104,99]⟩:ByteArray).extract 0 1).toList=[98]:=by rw[zb5,ybt];rfl
theorem zkn:((⟨#[98,100,104,99]⟩:ByteArray).extract 1 2).toList=[100]:=by rw[zb5,ybt];rfl
theorem zkK:((⟨#[98,100,104,99]⟩:ByteArray).extract 2 3).toList=[104]:=by rw[zb5,ybt];rfl
theorem zki:((⟨#[98,100,104,99]⟩:ByteArray).extract 3 4).toList=[99]:=by rw[zb5,ybt];rfl
theorem zfR{B:Nat}{w w':World}(h:Below B w w')(m:Nat):Below B w (w'.drewN m):=⟨h.os,h.tape,h.output,h.size,h.block⟩
theorem zeM{B b k m:Nat}{v:Value}{w w':World}(h:Below B w w')(hb:B<=b):Below B w ((w'.drewN m).setCell ⟨b,k,none⟩ v):=(zfR h m).setCell hb _
theorem ziw(c:UInt8):∀(l:List UInt8),∀q∈zM c l,q.length<=l.length
 | [],q,h=>by simp[zM] at h;rw[h];simp
 | x::t,q,h=>by
  have ih:=ziw c t;rw[zcm] at h;split at h
  ·rcases yG.1 h with rfl|h
   ·simp
   have:=ih q h;simp;omega
  cases hs:zM c t with
  | nil=>rw[hs] at h;simp at h;rw[h];simp
  | cons p ps=>
   rw[hs] at h;rcases yG.1 h with rfl|h
   ·have:=ih p (by rw[hs];simp);simp;omega
   have:=ih q (by rw[hs];simp[h]);simp;omega
theorem zth{w X w':World}{p n size:Nat}{e:TypeId}{o:Obj}{v:Value}{xs:List Value}(hh:X.heap=(w.alloc o).heap)(hp:p<w.heap.size)(ho:w.ownsRow (p+1) e size v n xs)(hg:X.grownBy w' v.ownBlock):w'.heap[p]?=w.heap[p]?:=by
 have h1:X.heap[p]?=w.heap[p]?:=by rw[hh];exact yT _ _ _ hp
 have h2:p<X.heap.size:=by rw[hh];show p<(w.heap.push o).size;simp;omega
 rw[hg.block p h2 (λhe=>by have:=(ho.lt p he.symm).1;omega),h1]
def zkk(w:World)(x:Option zu)(e:Ending)(w':World):Prop:=(∃(k:Int)(ao:Option Addr)(n c:Nat),e=.returned (.tuple #[.agg #[.int .i64 k,.slice ao n c],.bool x.isSome])/\∀nd,x=some nd->k=nd.1/\n=nd.2.length/\w'.ownsRow w.heap.size 3 1 (.slice ao n c) nd.2.length (zd nd.2))/\Below w.heap.size w w'
theorem zsb(s:ByteArray)(w:World)(hs:s.size<=2000000):Calls Tryz.prog 126 #[.string s] w (zkk w (zdr s.data.toList)):=by
 obtain⟨i0,hi,a1,a2,a3⟩:=info_parts Tryz.infoInt;have al:=hid (λW=>zeA 32 s W hs);have aN:=zhJ 32 s.data.toList;rw[show s.data.toList.length=s.size by simp] at aN;have ar:Hid (zdr s.data.toList=match zM 32 s.data.toList with|[]=>none|p::ps=>match zcI ps with|none=>none|some zs=>if zbs (zda p) zs.length=true then some (zda p,zs) else none):=rfl;rw[zjV] at al;generalize zdr s.data.toList=ans at*;have aQ:=hid (zdD 32 s.data.toList);have aR:Hid (∀q∈zM 32 s.data.toList,q.length<=s.size):=λq hq=>by have:=ziw 32 s.data.toList q hq;simpa using this
 generalize zM 32 s.data.toList=L at*;obtain⟨p,ps,rfl⟩:∃p ps,L=p::ps:=by
  cases L with
  | nil=>exact absurd rfl aQ.out
  | cons p ps=>exact⟨p,ps,rfl⟩
 dsimp only at ar;go_in;go_wp2_with fail;refine(al.out _).mono ?_;rintro e1 w1⟨v1,rfl,aH,aG⟩;obtain⟨g,cap,cur,rfl,aW,aL,_⟩:=zF aH (by simp);have ay:g<w1.heap.size:=(yc.1 aL).1;have an:w1.heap[w.heap.size]?=some (.cells #[.int .i64 0,.slice none 0 0] 76 (0,0)):=(aG.block _ (by simp)).trans (yx w _);have au:w.heap.size<w1.heap.size:=(yc.1 an).1;have aw:Hid (Below w.heap.size w w1):=(zj w _).trans (aG.mono (by simp));have aq:=hid an;have aJ:=hid aH;have aX:(p::ps).length=ps.length+1:=rfl;rw[aX] at aN⊢;clear aH aG an aL al aW;go_wp2_with fail;go_loopw[6] (λi wr=>∃m:Nat,i=.int .i64 m/\m<=4/\Hid (wr.heap[w1.heap.size]?=some (.cells #[.int .i64 (zca p m),.slice none 0 0] 76 (0,0)))/\Hid (Below w1.heap.size w1 wr)) (λi _=>4-(intOf i).toNat)
 ·exact⟨0,rfl,by omega,by rw[zrJ];exact yx w1 _,zj w1 _⟩
 obtain⟨m,rfl,hm,ak,ae⟩:=hrel;have x0:wr.cell? ⟨g,0,none⟩=some (.string ⟨p.toArray⟩):=(ae.out.cell (by exact ay)).trans (by rw[aJ.out.cellAt 0 (by simp)];rfl);have c0:wr.cell? ⟨w1.heap.size,0,none⟩=some (.int .i64 (zca p m)):=yi wr _ 0 _ _ _ ak.out;have c1:wr.cell? ⟨w1.heap.size,1,none⟩=some (.slice none 0 0):=yi wr _ 1 _ _ _ ak.out;have cf:=λo=>yv wr w1.heap.size o _ _ ak.out;have hkl:w1.heap.size<wr.heap.size:=(yc.1 ak.out).1;have hgw:=ya ay ae.out.size;by_cases ap:m<4
 ·have aV:m=0\/m=1\/m=2\/m=3:=by omega
  have aa:=ak;clear ak;rcases aV with rfl|rfl|rfl|rfl
  ·by_cases hp:p=[98]
   ·have HK:Hid (zca p 1=1):=by show _=_;rw[hp];decide
    have HN:Hid (((wr.setCell ⟨w1.heap.size,0,none⟩ (.int .i64 1))).heap[w1.heap.size]?=some (.cells #[.int .i64 (zca p 1),.slice none 0 0] 76 (0,0))):=by show _=_;rw[yw wr _ 0 _ _ _ aa.out,HK.out];rfl
    have am:(p==((⟨#[98,100,104,99]⟩:ByteArray).extract 0 1).toList)=true:=by rw[zj9,hp];rfl
    clear aa hp HK
    try simp only[Int.natCast_zero]
    go_wp2_with fail;go_quiet (fail);go_wp2_with fail;go_roundw
    ·exact⟨1,by go_num,by omega,HN,zeM ae.out (yh _)⟩
    simp[intOf]
   have HK:Hid (zca p 1=zca p 0):=zf7 (m:=0) (by omega) (by simpa using hp);have am:(p==((⟨#[98,100,104,99]⟩:ByteArray).extract 0 1).toList)=false:=by rw[zj9];exact yO.2 hp
   clear hp
   try simp only[Int.natCast_zero]
   go_wp2_with fail;go_quiet (fail);go_wp2_with fail;go_roundw
   ·exact⟨1,by go_num,by omega,by rw[HK.out];exact aa,zfR ae.out _⟩
   simp[intOf]
  ·by_cases hp:p=[100]
   ·have HK:Hid (zca p 2=2):=by show _=_;rw[hp];decide
    have HN:Hid (((wr.setCell ⟨w1.heap.size,0,none⟩ (.int .i64 2))).heap[w1.heap.size]?=some (.cells #[.int .i64 (zca p 2),.slice none 0 0] 76 (0,0))):=by show _=_;rw[yw wr _ 0 _ _ _ aa.out,HK.out];rfl
    have am:(p==((⟨#[98,100,104,99]⟩:ByteArray).extract 1 2).toList)=true:=by rw[zkn,hp];rfl
    clear aa hp HK
    try simp only[Int.natCast_one]
    go_wp2_with fail;go_quiet (fail);go_wp2_with fail;go_roundw
    ·exact⟨2,by go_num,by omega,HN,zeM ae.out (yh _)⟩
    simp[intOf]
   have HK:Hid (zca p 2=zca p 1):=zf7 (m:=1) (by omega) (by simpa using hp);have am:(p==((⟨#[98,100,104,99]⟩:ByteArray).extract 1 2).toList)=false:=by rw[zkn];exact yO.2 hp
   clear hp
   try simp only[Int.natCast_one]
   go_wp2_with fail;go_quiet (fail);go_wp2_with fail;go_roundw
   ·exact⟨2,by go_num,by omega,by rw[HK.out];exact aa,zfR ae.out _⟩
   simp[intOf]
  ·by_cases hp:p=[104]
   ·have HK:Hid (zca p 3=3):=by show _=_;rw[hp];decide
    have HN:Hid (((wr.setCell ⟨w1.heap.size,0,none⟩ (.int .i64 3))).heap[w1.heap.size]?=some (.cells #[.int .i64 (zca p 3),.slice none 0 0] 76 (0,0))):=by show _=_;rw[yw wr _ 0 _ _ _ aa.out,HK.out];rfl
    have am:(p==((⟨#[98,100,104,99]⟩:ByteArray).extract 2 3).toList)=true:=by rw[zkK,hp];rfl
    clear aa hp HK
    try simp only[ybr]
    go_wp2_with fail;go_quiet (fail);go_wp2_with fail;go_roundw
    ·exact⟨3,by go_num,by omega,HN,zeM ae.out (yh _)⟩
    simp[intOf]
   have HK:Hid (zca p 3=zca p 2):=zf7 (m:=2) (by omega) (by simpa using hp);have am:(p==((⟨#[98,100,104,99]⟩:ByteArray).extract 2 3).toList)=false:=by rw[zkK];exact yO.2 hp
   clear hp
   try simp only[ybr]
   go_wp2_with fail;go_quiet (fail);go_wp2_with fail;go_roundw
   ·exact⟨3,by go_num,by omega,by rw[HK.out];exact aa,zfR ae.out _⟩
   simp[intOf]
  by_cases hp:p=[99]
  ·have HK:Hid (zca p 4=4):=by show _=_;rw[hp];decide
   have HN:Hid (((wr.setCell ⟨w1.heap.size,0,none⟩ (.int .i64 4))).heap[w1.heap.size]?=some (.cells #[.int .i64 (zca p 4),.slice none 0 0] 76 (0,0))):=by show _=_;rw[yw wr _ 0 _ _ _ aa.out,HK.out];rfl
   have am:(p==((⟨#[98,100,104,99]⟩:ByteArray).extract 3 4).toList)=true:=by rw[zki,hp];rfl
   clear aa hp HK
   try simp only[ybr]
   go_wp2_with fail;go_quiet (fail);go_wp2_with fail;go_roundw
   ·exact⟨4,by go_num,by omega,HN,zeM ae.out (yh _)⟩
   simp[intOf]
  have HK:Hid (zca p 4=zca p 3):=zf7 (m:=3) (by omega) (by simpa using hp);have am:(p==((⟨#[98,100,104,99]⟩:ByteArray).extract 3 4).toList)=false:=by rw[zki];exact yO.2 hp
  clear hp
  try simp only[ybr]
  go_wp2_with fail;go_quiet (fail);go_wp2_with fail;go_roundw
  ·exact⟨4,by go_num,by omega,by rw[HK.out];exact aa,zfR ae.out _⟩
  simp[intOf]
 obtain rfl:m=4:=by omega
 rw[zug] at c0 ak;go_wp2_with fail;clear x0 c0 c1 cf ap hm;go_loopw[7] (λi wq=>∃(m:Nat)(zs:List Int)(v:Value),i=.int .i64 ((m+1:Nat):Int)/\m<=ps.length/\Hid (zcI (ps.take m)=some zs)/\Hid (wq.heap[w1.heap.size]?=some (.cells #[.int .i64 (zda p),v] 76 (0,0)))/\Hid (wq.ownsRow (w1.heap.size+1) 3 1 v zs.length (zd zs))/\Hid (Below w1.heap.size w1 wq)) (λi _=>ps.length+1-(intOf i).toNat)
 ·exact⟨0,[],.slice none 0 0,rfl,by omega,rfl,ak,yC _ _ _ _,ae⟩
 obtain⟨m,zs,v,rfl,hm,HZ,af,ax,ab⟩:=hrel;have hzb:zs.length<=2000001:=by have:=(zjG HZ.out).1;simp at this;omega
 obtain⟨av,cv,rfl,_,_⟩:=zg ax.out;have c0:wr.cell? ⟨w1.heap.size,0,none⟩=some (.int .i64 (zda p)):=yi wr _ 0 _ _ _ af.out;have c1:wr.cell? ⟨w1.heap.size,1,none⟩=some (.slice av zs.length cv):=yi wr _ 1 _ _ _ af.out;have ah:w1.heap.size<wr.heap.size:=(yc.1 af.out).1;have hgw2:=ya ay ab.out.size;by_cases ap:m<ps.length
 ·have x0:wr.cell? ⟨g,m+1,none⟩=some (.string ⟨ps[m].toArray⟩):=(ab.out.cell (by exact ay)).trans (by rw[aJ.out.cellAt (m+1) (by simp;omega)];simp[zbE,ap]);have aZ:ps[m].length<=s.size:=by have:=aR.out ps[m] (yaf _ (ym ap));omega
  have aD:Hid (zcI (ps.take (m+1))=match za4 ps[m] with|none=>none|some z=>some (zs++[z])):=by show _=_;rw[yr ap,zoW,HZ.out];cases za4 ps[m]<;>rfl
  have aE:Hid (za4 ps[m]=none->zcI ps=none):=ztt (ym ap);have al:Hid (∀W,Below wr.heap.size wr W->Calls Tryz.prog 188 #[.string ⟨ps[m].toArray⟩] W (zf8 W ps[m])):=λW _=>by have h:=zqO ⟨ps[m].toArray⟩ W (by show ps[m].toArray.size<=_;simp;omega);simpa using h
  generalize ps[m]=x at*;clear aZ HZ;cases hx:za4 x with
  | none=>
   have aI:Hid (ans=none):=by show _=_;rw[ar.out,aE.out hx]
   clear aD aE ar;go_wp2_with fail;refine(al.out wr (yk _ _)).mono ?_;rintro e2 w2⟨⟨z,he,_⟩,ag⟩;have he:e2=.returned (.tuple #[.int .i64 z,.bool false]):=by rw[he,hx];rfl
   subst he;have d0:=(ag.cell (p:=⟨w1.heap.size,0,none⟩) (by exact ah)).trans c0;have d1:=(ag.cell (p:=⟨w1.heap.size,1,none⟩) (by exact ah)).trans c1;have ad:Hid (Below w1.heap.size w1 w2):=ab.out.trans (ag.mono ab.out.size);have ac:w2.heap[w.heap.size]?=_:=(ad.out.block _ au).trans aq.out;have m0:w2.cell? ⟨w.heap.size,0,none⟩=some (.int .i64 0):=yi w2 w.heap.size 0 _ _ _ ac;have m1:w2.cell? ⟨w.heap.size,1,none⟩=some (.slice none 0 0):=yi w2 w.heap.size 1 _ _ _ ac;have mf:=λo=>yv w2 w.heap.size o _ _ ac;have aT:w.heap.size<w2.heap.size:=(yc.1 ac).1;have az:Hid (Below w.heap.size w w2):=aw.out.trans (ad.out.mono aw.out.size);clear c0 c1 ag al hx ac;go_wp2_with fail;refine yB (v:=.tuple #[.agg #[.int .i64 (zda p),.slice av zs.length cv],.bool false]) (by simp[results,Tryz.results126,go_sem,m0,m1]) rfl ?_;exact⟨⟨_,_,_,_,by rw[aI.out];rfl,λnd h=>(by rw[aI.out] at h;cases h)⟩,(az.out.setCell (yh _) _).setCell (yh _) _⟩
  | some z=>
   have aS:Hid (zcI (ps.take (m+1))=some (zs++[z])):=by show _=_;rw[aD.out,hx]
   clear aD aE;go_wp2_with fail;refine(al.out wr (yk _ _)).mono ?_;rintro e2 w2⟨⟨z',he,a0⟩,ag⟩;obtain rfl:=a0 z hx;have he:e2=.returned (.tuple #[.int .i64 z',.bool true]):=by rw[he,hx];rfl
   subst he;have d1:=(ag.cell (p:=⟨w1.heap.size,1,none⟩) (by exact ah)).trans c1;have ad:Hid (Below w1.heap.size w1 w2):=ab.out.trans (ag.mono ab.out.size);have aj:Hid (w2.heap[w1.heap.size]?=_):=(ag.block _ ah).trans af.out;have df:=λo=>yv w2 w1.heap.size o _ _ aj.out;have aM:=ya ah ag.size;have aB:=hid (ze ax.out ag);have hp5:w1.heap.size+1<=w2.heap.size:=aM;clear c0 c1 ag al hx af ab ax;go_wp2_with(at_builtin;refine yy _ rfl _ _ 40 rfl (w1.heap.size+1) 3 i0 (.int .i64 0) 1 8 Tryz.underlying40 hi a1 a2 a3 rfl (by decide) _ _ _ rfl (aB.out.alloc _) ⟨w2.heap.size,0,none⟩ 1 1 [.int .i64 z'] rfl rfl ?c1 ?c2 ?c3 ?c4 ?c5 ?_)
   case c1=>exact cell_one_new _ _ _
   case c2=>intro u hu;simp at hu;subst hu;rfl
   case c3=>unfold maxLen;omega
   case c4=>omega
   case c5=>simp;omega
   intro v5 w5 ai ao _;have aK:=hid ai;have aC:Hid (w5.heap[w1.heap.size]?=w2.heap[w1.heap.size]?):=zth (w:=w2) (by exact rfl) aM aB.out ao;have aP:Hid (Below w1.heap.size w1 w5):=(ad.out.trans ((zj w2 _).mono ad.out.size)).grown ao (by simp;omega) (λq hq=>by have:=(aB.out.lt q hq).1;omega);obtain⟨g5,aF,cur5,aY,_,_,_⟩:=zF ai (by omega);clear ai ao;subst aY;have c5:w5.cell? ⟨w1.heap.size,1,none⟩=some (.slice av zs.length cv):=yi w5 _ 1 _ _ _ (aC.out.trans aj.out);have f5:w5.frozen? ⟨w1.heap.size,1,none⟩=false:=yv w5 w1.heap.size 1 _ _ (aC.out.trans aj.out);go_wp2;go_roundw
   ·(repeat apply Exists.intro)
    refine And.intro ?_ rfl;refine⟨m+1,zs++[z'],.slice (some ⟨g5,0,none⟩) (zs.length+1) aF,by go_num,by omega,aS,?_,?_,aP.out.setCell (yh _) _⟩
    ·show _=_;rw[yw w5 _ 1 _ _ _ (aC.out.trans aj.out)];rfl
    ·show World.ownsRow _ _ _ _ _ _ _;rw[yz,show zd (zs++[z'])=zd zs++[.int .i64 z'] from by simp[zd]];exact ownsRow_setCell_other aK.out (by intro h;have h1:w1.heap.size+1<=w1.heap.size:=(aK.out.lt w1.heap.size h).1;omega) _
   simp[intOf];omega
 obtain rfl:m=ps.length:=by omega
 rw[ya0] at HZ;have HA:Hid (ans=if zbs (zda p) zs.length=true then some (zda p,zs) else none):=by show _=_;rw[ar.out,HZ.out]
 have aO:=hid (λW=>zoM (zda p) zs.length W (by omega));have ac:wr.heap[w.heap.size]?=_:=(ab.out.block _ au).trans aq.out;have m0:wr.cell? ⟨w.heap.size,0,none⟩=some (.int .i64 0):=yi wr w.heap.size 0 _ _ _ ac;have m1:wr.cell? ⟨w.heap.size,1,none⟩=some (.slice none 0 0):=yi wr w.heap.size 1 _ _ _ ac;have mf:=λo=>yv wr w.heap.size o _ _ ac;have aT:w.heap.size<wr.heap.size:=(yc.1 ac).1;have az:Hid (Below w.heap.size w wr):=aw.out.trans (ab.out.mono aw.out.size);have aA:=hid ac;generalize aU:zbs (zda p) zs.length=cb at*;clear ar HZ ac aU;go_wp2_with fail;refine(aO.out _).mono ?_;rintro e3 w3⟨rfl,rfl⟩;go_wp2_with fail;refine yB (v:=.tuple #[.agg #[.int .i64 (zda p),.slice av zs.length cv],.bool cb]) (by simp[results,Tryz.results126,go_sem,m0,m1]) rfl ?_;refine⟨⟨_,_,_,_,by rw[HA.out];cases cb<;>rfl,λnd h=>?_⟩,(az.out.setCell (yh _) _).setCell (yh _) _⟩;rw[HA.out] at h;cases cb
 ·cases h
 cases h;exact⟨rfl,rfl,ztV aA.out (zan ax.out (by omega)) (by decide)⟩
end Go.Proofs.YtebinaopncclgabGreatDoor
