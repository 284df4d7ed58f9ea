import Derived.IntWalk
import Derived.Below
import Derived.Test.YtebinaopncclgabGreatDoorRows
import Derived.WalkKit
import Derived.WalkSpells
import Derived.WalkLawsBesides
import Derived.StillTactics
import Derived.Deep.QuietTactic
import Derived.BigQuiet
import Derived.Outline
set_option maxRecDepth 100000
set_option maxHeartbeats 8000000
namespace Go.Proofs.YtebinaopncclgabGreatDoor
open Go.RowKit
def zaN(a b:Int):Int:=if a=-1\/(b≠-1/\b<a) then b else a
def z6(l:List UInt8):Bool:=l.all λc=>48<=c&&c<=57
def val(l:List UInt8):Nat:=l.foldl (λn c=>10*n+(c.toNat-48)) 0
def zy(l:List UInt8):Bool:=decide (1<=l.length)&&decide (l.length<=5)&&z6 l
def zai(l:List UInt8):Int:=if zy l then (val l:Int) else 0
theorem zco(s:ByteArray)(k:Nat)(h:k<s.size):s.data.toList.take (k+1)=s.data.toList.take k++[s[k]]:=by rw[List.take_succ_eq_append_getElem (by simpa using h)];rfl
theorem zcw(s:ByteArray)(k:Nat)(h:s.size<=k):s.data.toList.take k=s.data.toList:=List.take_of_length_le (by simpa using h)
theorem zfy(l:List UInt8)(c:UInt8):val (l++[c])=10*val l+(c.toNat-48):=by simp[val]
theorem zf4(l:List UInt8)(c:UInt8):z6 (l++[c])=(z6 l&&(decide (48<=(c.toNat:Int))&&decide ((c.toNat:Int)<=57))):=by
 have e:(decide (48<=c)&&decide (c<=57))=(decide (48<=(c.toNat:Int))&&decide ((c.toNat:Int)<=57)):=by rw[Bool.eq_iff_iff];simp[UInt8.le_iff_toNat_le];omega
 simp[z6,e]
theorem zkp(l:List UInt8)(k:Nat)(h:z6 (l.take k)=false):z6 l=false:=by rw[<-List.take_append_drop k l];unfold z6 at*;rw[List.all_append,h];rfl
theorem zvR(l:List UInt8):∀a:Nat,z6 l=true->l.foldl (λn c=>10*n+(c.toNat-48)) a<(a+1)*10^l.length:=by
 induction l with
 | nil=>intro a _;simp
 | cons c t ih=>intro a h;have h':z6 ([c]++t)=true:=h;simp only[z6,List.all_append,List.all_cons,List.all_nil,Bool.and_true,Bool.and_eq_true,decide_eq_true_eq] at h';have hc:c.toNat<=57:=UInt8.le_iff_toNat_le.1 h'.1.2;have:=ih (10*a+(c.toNat-48)) h'.2;simp only[List.foldl_cons,List.length_cons,Nat.pow_succ];refine Nat.lt_of_lt_of_le this ?_;rw[Nat.mul_comm (10^t.length) 10,<-Nat.mul_assoc];exact Nat.mul_le_mul_right _ (by omega)
theorem zqR(l:List UInt8)(h:z6 l=true):val l<10^l.length:=by have:=zvR l 0 h;simpa[val] using this
theorem zmz(l:List UInt8)(h:z6 l=true)(hl:l.length<=5):val l<=99999:=by have h1:=zqR l h;have h2:10^l.length<=10^5:=Nat.pow_le_pow_right (by decide) hl;omega
theorem zmw{l:List UInt8}(h:zy l=true):zai l=val l:=by unfold zai;rw[if_pos h]
theorem zn4{l:List UInt8}(h:zy l=false):zai l=0:=by unfold zai;rw[if_neg (by simp[h])]
theorem ztP{l:List UInt8}(h1:1<=l.length)(h2:l.length<=5)(h3:z6 l=true):zy l=true:=by simp[zy,h1,h2,h3]
theorem zqL{l:List UInt8}(h:¬(1<=l.length/\l.length<=5)):zy l=false:=by
 unfold zy;by_cases h1:1<=l.length
 ·have h2:¬l.length<=5:=λh2=>h ⟨h1,h2⟩;simp[h2]
 simp[h1]
theorem zpH{l:List UInt8}(h:z6 l=false):zy l=false:=by simp[zy,h]
def fit(z:Int):Bool:=decide (0<=z)&&decide (z<=10000)
theorem za7(z:Int):fit z=true↔0<=z/\z<=10000:=by simp[fit]
open Go.RowKit Go.IntWalk
theorem zK{k:IntKind}{a b:Int}(h:a=b):Ending.returned (.int k a)=.returned (.int k b):=by rw[h]
theorem zh{a b:Bool}(h:a=b):Ending.returned (.bool a)=.returned (.bool b):=by rw[h]
theorem zju{k:IntKind}{a b:Int}{c d:Bool}(h:a=b)(h':c=d):Ending.returned (.tuple #[.int k a,.bool c])=.returned (.tuple #[.int k b,.bool d]):=by rw[h,h']
theorem zou(s:ByteArray)(w:World)(hs:s.size<=maxLen):Calls Tryz.prog 192 #[.string s] w λe w'=>e=.returned (.tuple #[.int .i64 (zai s.data.toList),.bool (zy s.data.toList)])/\w'=w:=by
 unfold maxLen at hs;by_cases hl:1<=s.size/\s.size<=5
 ·obtain⟨ag,ah⟩:=hl;go_in;go_wp2;go_loop[4,5] (λv i=>∃k:Nat,k<=s.size/\i=.int .i64 k/\v=.int .i64 (val (s.data.toList.take k))/\Hid (z6 (s.data.toList.take k)=true)) (λ_ i=>s.size-(intOf i).toNat)
  ·exact⟨0,Nat.zero_le _,rfl,rfl,rfl⟩
  obtain⟨k,hk,rfl,rfl,HD⟩:=hrel;have hv:=zmz (s.data.toList.take k) HD.out (by simp;omega);by_cases ai:k<s.size
  ·have HT:=zco s k ai;have HS:Hid (val (s.data.toList.take (k+1))=10*val (s.data.toList.take k)+(s[k].toNat-48)):=by rw[HT];exact zfy _ _
   have ac:Hid (z6 (s.data.toList.take (k+1))=(z6 (s.data.toList.take k)&&(decide (48<=(s[k].toNat:Int))&&decide ((s[k].toNat:Int)<=57)))):=by rw[HT];exact zf4 _ _
   clear HT;by_cases hd:48<=(s[k].toNat:Int)/\(s[k].toNat:Int)<=57
   ·obtain⟨ae,af⟩:=hd;go_wp2;go_round
    ·exact⟨k+1,by omega,by go_num,by rw[HS.out];go_num,by show _=true;rw[ac.out,HD.out];simp[ae,af]⟩
    simp[intOf];omega
   have aa:zy s.data.toList=false:=zpH (zkp _ (k+1) (by rw[ac.out];simp;intro _ _;omega));have ab:=zn4 aa;go_wp2
   all_goals
    go_ret2;exact⟨zju (by first|rfl|exact ab.symm) (by first|rfl|exact aa.symm),rfl⟩
  go_wp2;go_ret2;have ad:zy s.data.toList=true:=ztP (by simpa using ag) (by simpa using ah) (by have:=HD.out;rw[zcw s k (by omega)] at this;exact this);exact⟨zju (by rw[zmw ad,zcw s k (by omega)]) ad.symm,rfl⟩
 have aa:zy s.data.toList=false:=zqL (by simpa using hl);have ab:=zn4 aa;by_cases h1:s.size<1
 ·go_in;go_wp2;go_ret2;exact⟨zju (by first|rfl|exact ab.symm) (by first|rfl|exact aa.symm),rfl⟩
 have h5:5<s.size:=by omega
 go_in;go_wp2;go_ret2;exact⟨zju (by first|rfl|exact ab.symm) (by first|rfl|exact aa.symm),rfl⟩
theorem zmv{zs:List Int}{k:Nat}(aa:k<zs.length):(zs.take (k+1)).all fit=((zs.take k).all fit&&fit zs[k]):=by rw[List.take_succ_eq_append_getElem aa,List.all_append];simp
theorem zpe{zs:List Int}{k:Nat}(aa:k<zs.length)(h:fit zs[k]=false):zs.all fit=false:=by rw[List.all_eq_false];exact⟨zs[k],List.getElem_mem aa,by simp[h]⟩
theorem zor(b:Nat)(zs:List Int)(c:Nat)(w:World)(hs:zs.length<=100)(hc:∀i,i<zs.length->w.cell? ⟨b,i,none⟩=some (.int .i64 (zs.getD i 0))):Calls Tryz.prog 193 #[.slice (some ⟨b,0,none⟩) zs.length c] w λe w'=>e=.returned (.bool (zs.all fit))/\w'=w:=by
 go_in;go_wp2;go_loop[3] (λi=>∃k:Nat,k<=zs.length/\i=.int .i64 k/\Hid ((zs.take k).all fit=true)) (λi=>zs.length-(intOf i).toNat)
 ·exact⟨0,Nat.zero_le _,rfl,rfl⟩
 obtain⟨k,hk,rfl,HF⟩:=hrel;by_cases aa:k<zs.length
 ·have hck:=hc k aa;clear hc;by_cases hz:0<=zs[k]/\zs[k]<=10000
  ·obtain⟨ab,ac⟩:=hz;go_wp2;go_round
   ·exact⟨k+1,by omega,by go_num,by show _=true;rw[zmv aa,HF.out,(za7 _).2 ⟨ab,ac⟩];rfl⟩
   simp[intOf];omega
  have HN:Hid (zs.all fit=false):=zpe aa (by rw[Bool.eq_false_iff];intro h;exact hz ((za7 _).1 h));go_wp2
  all_goals
   go_ret;exact⟨zh HN.out.symm,rfl⟩
 go_wp2;go_ret;exact⟨zh (by have:=HF.out;rw[List.take_of_length_le (by omega)] at this;exact this.symm),rfl⟩
theorem ziK(b n:Nat)(zs:List Int)(c:Nat)(w:World)(hn:zs.length=n)(hs:n<=100)(hc:∀i,i<n->w.cell? ⟨b,i,none⟩=some (.int .i64 (zs.getD i 0))):Calls Tryz.prog 193 #[.slice (some ⟨b,0,none⟩) n c] w λe w'=>e=.returned (.bool (zs.all fit))/\w'=w:=by subst hn;exact zor b zs c w hs hc
def zaK(v l c n h:Int):Bool:=decide (1<=v/\v<=3/\1<=n/\n<=12/\0<=h/\h<n)&&(fit l&&fit c)
def zas(a b c d e:Int)(nodes:Int):Bool:=decide (0<=a/\a<nodes/\c<=d)&&(fit b&&(fit c&&(fit d&&fit e)))
def zaZ(a b c:Int)(nodes:Int):Bool:=decide (0<=a/\a<nodes/\0<=b/\b<nodes)&&fit c
theorem zmp{p:Prop}[Decidable p]{b:Bool}(h:¬p):(decide p&&b)=false:=by simp[h]
theorem zjT{p:Prop}[Decidable p]{b:Bool}(h:p):(decide p&&b)=b:=by simp[h]
theorem zqk{v l c n h:Int}(p:¬(1<=v/\v<=3/\1<=n/\n<=12/\0<=h/\h<n)):zaK v l c n h=false:=zmp p
theorem zp1{v l c n h:Int}(p:1<=v/\v<=3/\1<=n/\n<=12/\0<=h/\h<n):zaK v l c n h=(fit l&&fit c):=zjT p
theorem zqf{a b c d e n:Int}(p:¬(0<=a/\a<n/\c<=d)):zas a b c d e n=false:=zmp p
theorem zoO{a b c d e n:Int}(p:0<=a/\a<n/\c<=d):zas a b c d e n=(fit b&&(fit c&&(fit d&&fit e))):=zjT p
theorem zrA{a b c n:Int}(p:¬(0<=a/\a<n/\0<=b/\b<n)):zaZ a b c n=false:=zmp p
theorem zoh{a b c n:Int}(p:0<=a/\a<n/\0<=b/\b<n):zaZ a b c n=fit c:=zjT p
theorem zj(w:World)(o:Obj):Below w.heap.size w (w.alloc o):=(Below.refl _ _).alloc (Nat.le_refl _) _
theorem zaa(w:World)(o o':Obj):Below w.heap.size w ((w.alloc o).alloc o'):=(zj w o).alloc (by simp) _
theorem zvL{f:Nat->Option Value}{a b:Int}(h0:f 0=some (.int .i64 a))(h1:f 1=some (.int .i64 b)):∀i,i<2->f i=some (.int .i64 ([a,b].getD i 0)):=by
 intro i hi
 match i,hi with
 | 0,_=>exact h0
 | 1,_=>exact h1
theorem zvM{f:Nat->Option Value}{a:Int}(h0:f 0=some (.int .i64 a)):∀i,i<1->f i=some (.int .i64 ([a].getD i 0)):=by
 intro i hi
 match i,hi with
 | 0,_=>exact h0
theorem zwp{f:Nat->Option Value}{a b c d:Int}(h0:f 0=some (.int .i64 a))(h1:f 1=some (.int .i64 b))(h2:f 2=some (.int .i64 c))(h3:f 3=some (.int .i64 d)):∀i,i<4->f i=some (.int .i64 ([a,b,c,d].getD i 0)):=by
 intro i hi
 match i,hi with
 | 0,_=>exact h0
 | 1,_=>exact h1
 | 2,_=>exact h2
 | 3,_=>exact h3
end Go.Proofs.YtebinaopncclgabGreatDoor
