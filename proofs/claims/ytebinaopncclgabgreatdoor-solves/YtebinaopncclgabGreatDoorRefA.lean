import Derived.Test.YtebinaopncclgabGreatDoorPlainG
set_option maxRecDepth 100000
set_option maxHeartbeats 8000000
namespace Go.Proofs.YtebinaopncclgabGreatDoor
open Go.RowKit
def zZ(T:List TypeId)(w w':World):Prop:=∀(k:Nat)(cur:Array Value)(t:TypeId)(z:Nat×Nat),w.heap[k]?=some (.cells cur t z)->t∉T->w'.heap[k]?=some (.cells cur t z)
theorem zZ.refl(T:List TypeId)(w:World):zZ T w w:=λ_ _ _ _ h _=>h
theorem zZ.trans{T:List TypeId}{a b c:World}(h:zZ T a b)(h':zZ T b c):zZ T a c:=λk cur t z hk ht=>h' k cur t z (h k cur t z hk ht) ht
theorem zZ.of_below{T:List TypeId}{w w':World}(h:Below w.heap.size w w'):zZ T w w':=λk cur t z hk _=>by rw[h.block k (Array.getElem?_eq_some_iff.1 hk).1];exact hk
theorem zZ.setCell{T:List TypeId}{w:World}{g o:Nat}{cur:Array Value}{e:TypeId}{z:Nat×Nat}(hg:w.heap[g]?=some (.cells cur e z))(he:e∈T)(u:Value):zZ T w (w.setCell ⟨g,o,none⟩ u):=by
 intro k cur' t z' hk ht;by_cases aa:k=g
 ·subst aa;rw[hg] at hk;cases hk;exact absurd he ht
 rw[Below.heap_setCell _ _ _ _ aa];exact hk
theorem zZ.grown{T:List TypeId}{w w':World}{v:Value}{B n size:Nat}{e:TypeId}{xs:List Value}(aa:w.ownsRow B e size v n xs)(he:e∈T)(hg:w.grownBy w' v.ownBlock):zZ T w w':=by
 intro k cur t z hk ht;rw[hg.block k (Array.getElem?_eq_some_iff.1 hk).1 ?_]
 ·exact hk
 intro hv;rcases aa.2 with ⟨rfl,_⟩|⟨g,cap,cur',rfl,_,ab,_⟩
 ·simp[Value.ownBlock] at hv
 simp only[Value.ownBlock,Option.some.injEq] at hv;subst hv;rw[ab] at hk;cases hk;exact ht he
theorem zcs{T:List TypeId}{w w':World}{v:Value}{B n size:Nat}{e:TypeId}{xs:List Value}(aa:w.ownsRow B e size v n xs)(h:zZ T w w')(he:e∉T):w'.ownsRow B e size v n xs:=by
 refine⟨aa.1,?_⟩;rcases aa.2 with hn|⟨g,cap,cur,hv,hb,hg,rest⟩
 ·exact .inl hn
 exact .inr ⟨g,cap,cur,hv,hb,h g cur e _ hg he,rest⟩
theorem ze{w w':World}{v:Value}{B n size:Nat}{e:TypeId}{xs:List Value}(aa:w.ownsRow B e size v n xs)(h:Below w.heap.size w w'):w'.ownsRow B e size v n xs:=by
 refine⟨aa.1,?_⟩;rcases aa.2 with hn|⟨g,cap,cur,hv,hb,hg,rest⟩
 ·exact .inl hn
 exact .inr ⟨g,cap,cur,hv,hb,by rw[h.block g (Array.getElem?_eq_some_iff.1 hg).1];exact hg,rest⟩
theorem zfh{w:World}{v v':Value}{B B' n n' size aa:Nat}{e e':TypeId}{xs ad:List Value}(h:w.ownsRow B e size v n xs)(h':w.ownsRow B' e' aa v' n' ad)(he:e≠e'):v.ownBlock=none\/v.ownBlock≠v'.ownBlock:=by
 rcases h.2 with ⟨rfl,_⟩|⟨g,cap,cur,rfl,_,hg,_⟩
 ·exact .inl rfl
 right;rcases h'.2 with ⟨rfl,_⟩|⟨g',cap',cur',rfl,_,ab,_⟩
 ·simp[Value.ownBlock]
 simp only[Value.ownBlock,ne_eq,Option.some.injEq];intro ac;subst ac;rw[hg] at ab;cases ab;exact he rfl
theorem zan{w:World}{v:Value}{B B' n size:Nat}{e:TypeId}{xs:List Value}(h:w.ownsRow B e size v n xs)(hB:B'<=B):w.ownsRow B' e size v n xs:=by
 refine⟨h.1,?_⟩;rcases h.2 with hn|⟨g,cap,cur,hv,hb,rest⟩
 ·exact .inl hn
 exact .inr ⟨g,cap,cur,hv,Nat.le_trans hB hb,rest⟩
theorem zaL{w:World}{v:Value}{B n size:Nat}{e:TypeId}{xs:List Value}(h:w.ownsRow B e size v n xs){g o:Nat}{cur:Array Value}{e':TypeId}{z:Nat×Nat}(hg:w.heap[g]?=some (.cells cur e' z))(he:e≠e')(u:Value):(w.setCell ⟨g,o,none⟩ u).ownsRow B e size v n xs:=zcs h (zZ.setCell (T:=[e']) hg (by simp) u) (by simpa using he)
theorem zF{w:World}{v:Value}{B n size:Nat}{e:TypeId}{xs:List Value}(h:w.ownsRow B e size v n xs)(hn:0<n):∃g cap cur,v=.slice (some ⟨g,0,none⟩) n cap/\B<=g/\w.heap[g]?=some (.cells cur e (0,0))/\n<=cap:=by
 rcases h.2 with ⟨_,h0⟩|⟨g,cap,cur,hv,hb,hg,hc,_⟩
 ·omega
 exact⟨g,cap,cur,hv,hb,hg,hc⟩
theorem zg{w:World}{v:Value}{B n size:Nat}{e:TypeId}{xs:List Value}(h:w.ownsRow B e size v n xs):∃ao cap,v=.slice ao n cap/\(∀a,ao=some a->∃g,a=⟨g,0,none⟩/\B<=g/\g<w.heap.size)/\(ao=none->n=0):=by
 rcases h.2 with ⟨rfl,rfl⟩|⟨g,cap,cur,rfl,hb,hg,hc,_⟩
 ·exact⟨none,0,rfl,by simp,λ_=>rfl⟩
 exact⟨some ⟨g,0,none⟩,cap,rfl,λa ha=>⟨g,(Option.some.inj ha).symm,hb,(Array.getElem?_eq_some_iff.1 hg).1⟩,by simp⟩
open Go.RowKit Go.IntWalk
theorem zeA(c:UInt8)(s:ByteArray)(w:World)(hs:s.size<=2000000):Calls Tryz.prog 94 #[.string s,.int .u8 c.toNat] w λe w'=>∃v,e=.returned v/\w'.ownsRow w.heap.size 9 1 v (zD c s.data.toList).length (zbE (zD c s.data.toList))/\Below w.heap.size w w':=by
 obtain⟨i0,hi,ah,ai,aj⟩:=info_parts Tryz.infoStr;obtain⟨l,hl⟩:∃l,l=s.data.toList:=⟨_,rfl⟩
 have ag:s.size=l.length:=by rw[hl];simp
 have HL:Hid (l=s.data.toList):=hl;have HSZ:Hid (s.size=l.length):=ag;have am:s.size<=l.length:=by omega
 have an:l.length<=s.size:=by omega
 clear hl ag;go_in;go_wp2;go_loopw[5,6,7] (λv bg i wr=>∃k b:Nat,k<=s.size/\b<=k/\i=.int .i64 k/\bg=.int .i64 b/\Hid (cuC c l k=(l.drop b).take (k-b))/\(cuP c l k).length<=k/\wr.ownsRow w.heap.size 9 1 v (cuP c l k).length (zbE (cuP c l k))/\Below w.heap.size w wr) (λ_ _ i _=>s.size-(intOf i).toNat)
 ·exact⟨0,0,yu _,yh _,rfl,rfl,rfl,yh _,yC _ _ _ _,yk _ _⟩
 obtain⟨k,b,hk,hb,rfl,rfl,HC,hlen,ac,ad⟩:=hrel;have ae:=ad.size;by_cases hlt:k<s.size
 ·have af:k<l.length:=by omega
  have HX:Hid (s[k]=l[k]):=by show s[k]=l[k];subst HL;rfl
  by_cases hc:l[k]=c
  ·have ak:((s[k].toNat:Int)==(c.toNat:Int))=true:=by rw[HX.out,hc];simp
   clear am an;go_wp2_with(first
    | (at_builtin;refine yy _ rfl _ _ 148 rfl w.heap.size 9 i0 (.string ByteArray.empty) 1 16 Tryz.underlying148 hi ah ai aj rfl (by decide) _ _ _ rfl (ac.alloc _) ⟨wr.heap.size,0,none⟩ 1 1 [.string (s.extract b k)] rfl rfl ?c1 ?c2 ?c3 ?c4 ?c5 ?_)
    | go_in)
   case c1=>exact cell_one_new _ _ _
   case c2=>intro u hu;simp at hu;subst hu;rfl
   case c3=>unfold maxLen;omega
   case c4=>omega
   case c5=>simp;omega
   intro v' w1 aa ab _;rw[zel] at aa;have R:=zdR ae ac ad aa ab;clear aa ab ac ad;go_wp2;go_roundw
   ·obtain⟨e1,e2⟩:=zrR af hc;refine⟨k+1,k+1,by omega,yh _,by go_num,by go_num,?_,?_,?_,R.2⟩
    ·show _=_;rw[e2];simp
    ·rw[e1];simp;omega
    rw[e1,HC.out];subst HL;exact R.1
   simp[intOf];omega
  have ak:((s[k].toNat:Int)==(c.toNat:Int))=false:=by rw[yO];intro e;exact hc (by rw[<-HX.out];exact yaH.1 (by omega))
  go_wp2;go_roundw
  ·obtain⟨e1,e2⟩:=znX af hc;refine⟨k+1,b,by omega,by omega,by go_num,rfl,?_,?_,?_,ad⟩
   ·show _=_;rw[e2,HC.out];exact zg8 hb af
   ·rw[e1];omega
   rw[e1];exact ac
  simp[intOf];omega
 have al:k=s.size:=by omega
 subst al;go_wp2_with(first
   | (at_builtin;refine yy _ rfl _ _ 148 rfl w.heap.size 9 i0 (.string ByteArray.empty) 1 16 Tryz.underlying148 hi ah ai aj rfl (by decide) _ _ _ rfl (ac.alloc _) ⟨wr.heap.size,0,none⟩ 1 1 [.string (s.extract b s.size)] rfl rfl ?d1 ?d2 ?d3 ?d4 ?d5 ?_)
   | go_in)
 case d1=>exact cell_one_new _ _ _
 case d2=>intro u hu;simp at hu;subst hu;rfl
 case d3=>unfold maxLen;omega
 case d4=>omega
 case d5=>simp;omega
 intro v' w1 aa ab _;rw[zel] at aa;have R:=zdR ae ac ad aa ab;clear aa ab ac ad;go_wp2;go_ret;refine⟨v',rfl,?_,R.2⟩;have e1:=zr9 (c:=c) (l:=l) (k:=s.size) (by omega);rw[HC.out] at e1;subst HL;rw[e1];exact R.1
theorem zvs(ls:List (List UInt8))(k:Nat):(full (ls.take k)).length<=k:=by unfold full;have h1:=yau (λx:List UInt8=>!x.isEmpty) (ls.take k);have h2:=ybM k ls;omega
theorem zqJ(s:ByteArray)(w:World)(hs:s.size<=100000):Calls Tryz.prog 95 #[.string s] w λe w'=>∃v,e=.returned v/\w'.ownsRow w.heap.size 9 1 v (zcR s.data.toList).length (zbE (zcR s.data.toList))/\Below w.heap.size w w':=by
 obtain⟨i0,hi,aq,ar,au⟩:=info_parts Tryz.infoStr;have ag:=zeA 32 s w (by omega);have aj:=zgf 32 s.data.toList;have hl1:1<=(zD 32 s.data.toList).length:=by unfold zD;simp
 have ap:s.data.toList.length=s.size:=by simp
 have ad:=zrX s.data.toList;generalize zD 32 s.data.toList=ls at*;have hl2:ls.length<=100001:=by omega
 have HC:=hid ag;have HF:=hid ad;clear ag aj ap ad;go_in;go_wp2_with fail;refine HC.out.mono ?_;rintro e1 w1⟨v1,rfl,ac,ai⟩;obtain⟨g,cap,cur,rfl,_,hg,hcap⟩:=zF ac (by omega);have ao:g<w1.heap.size:=(yc.1 hg).1;have HO:=hid ac;have an:=hid ai;have al:=ai.size;clear HC ac hg ai;go_wp2_with fail;go_loopw[3,5] (λv i wr=>∃k:Nat,k<=ls.length/\i=.int .i64 k/\wr.ownsRow w1.heap.size 9 1 v (full (ls.take k)).length (zbE (full (ls.take k)))/\Below w1.heap.size w1 wr) (λ_ i _=>ls.length-(intOf i).toNat)
 ·exact⟨0,yu _,rfl,yC _ _ _ _,yk _ _⟩
 obtain⟨k,hk,rfl,ab,aa⟩:=hrel;have ah:=aa.size;by_cases am:k<ls.length
 ·have hcell:wr.cell? ⟨g,k,none⟩=some (.string ⟨(ls[k]).toArray⟩):=by rw[aa.cell (by exact ao),HO.out.cellAt k (by omega)];simp[zbE,am]
  have ak:Hid (full (ls.take (k+1))=full (ls.take k)++(if ls[k]=[] then [] else [ls[k]])):=zsK am;have hle:=zvs ls k;generalize ls[k]=x at*;cases x with
  | nil=>
   go_wp2;go_roundw
   ·exact⟨k+1,by omega,by go_num,by rw[ak.out];simpa using ab,aa⟩
   simp[intOf];omega
  | cons a t=>
   go_wp2_with(first
    | (at_builtin;refine yy _ rfl _ _ 148 rfl w1.heap.size 9 i0 (.string ByteArray.empty) 1 16 Tryz.underlying148 hi aq ar au rfl (by decide) _ _ _ rfl (ab.alloc _) ⟨wr.heap.size,0,none⟩ 1 1 [.string ⟨(a::t).toArray⟩] rfl rfl ?c1 ?c2 ?c3 ?c4 ?c5 ?_)
    | go_in)
   case c1=>exact cell_one_new _ _ _
   case c2=>intro u hu;simp at hu;subst hu;rfl
   case c3=>unfold maxLen;omega
   case c4=>omega
   case c5=>simp;omega
   intro v' w2 af ae _;have R:=zdR (w:=w1) ah ab aa af ae;clear af ae ab aa;go_wp2;go_roundw
   ·exact⟨k+1,by omega,by go_num,by rw[ak.out];simpa using R.1,R.2⟩
   simp[intOf];omega
 go_wp2;go_ret;refine⟨_,rfl,?_,an.out.trans (aa.mono al)⟩;rw[HF.out];have:=zan ab al;rw[yD (by omega)] at this;exact this
theorem znG(s:ByteArray):(!s.toList.isEmpty)=decide (1<=s.size):=by
 rw[<-decide_eq_emptyBytes];by_cases h:s=ByteArray.empty
 ·subst h;rfl
 have:1<=s.size:=by
  rcases yaS s.size with h0|h0
  ·exact absurd (ByteArray.size_eq_zero_iff.1 h0) h
  exact h0
 simp[h,this]
theorem zaO(s:ByteArray)(w:World)(hs:s.size<=maxLen):Calls Tryz.prog 154 #[.string s] w λe w'=>e=.returned (.bool (z6 s.data.toList&&decide (1<=s.size)))/\w'=w:=by
 unfold maxLen at hs;go_in;go_wp2;go_loop[3] (λi=>∃k:Nat,k<=s.size/\i=.int .i64 k/\Hid (z6 (s.data.toList.take k)=true)) (λi=>s.size-(intOf i).toNat)
 ·exact⟨0,yu _,rfl,rfl⟩
 obtain⟨k,hk,rfl,HD⟩:=hrel;by_cases ae:k<s.size
 ·have HT:=zco s k ae;have ab:Hid (z6 (s.data.toList.take (k+1))=(z6 (s.data.toList.take k)&&(decide (48<=(s[k].toNat:Int))&&decide ((s[k].toNat:Int)<=57)))):=by rw[HT];exact zf4 _ _
  clear HT;by_cases hd:48<=(s[k].toNat:Int)/\(s[k].toNat:Int)<=57
  ·obtain⟨ac,ad⟩:=hd;go_wp2;go_round
   ·exact⟨k+1,by omega,by go_num,by show _=true;rw[ab.out,HD.out];simp[ac,ad]⟩
   simp[intOf];omega
  have af:z6 s.data.toList=false:=zkp _ (k+1) (by rw[ab.out];simp;intro _ _;omega);go_wp2
  all_goals
   go_ret;exact⟨zh (by first|rfl|(rw[af];rfl)),rfl⟩
 have aa:z6 s.data.toList=true:=by have:=HD.out;rw[zcw s k (by omega)] at this;exact this
 have HY:=hid aa;clear aa;go_wp2;go_ret;exact⟨zh (by rw[HY.out,yaY];exact znG s),by trivial⟩
theorem zop(s:ByteArray)(w:World)(hs:s.size<=5)(hd:z6 s.data.toList=true):Calls Tryz.prog 202 #[.string s] w λe w'=>e=.returned (.int .i64 (val s.data.toList))/\w'=w:=by
 have ac:=hid hd;clear hd;go_in;go_wp2;go_loop[3,4] (λn i=>∃k:Nat,k<=s.size/\i=.int .i64 k/\n=.int .i64 (val (s.data.toList.take k))) (λ_ i=>s.size-(intOf i).toNat)
 ·exact⟨0,yu _,rfl,rfl⟩
 obtain⟨k,hk,rfl,rfl⟩:=hrel;by_cases ae:k<s.size
 ·have HT:=zco s k ae;have ad:z6 (s.data.toList.take k)=true:=by have h:=ac.out;rw[<-yav k s.data.toList] at h;unfold z6 at h⊢;rw[yX,yA] at h;exact h.1
  have aa:z6 (s.data.toList.take (k+1))=true:=by have h:=ac.out;rw[<-yav (k+1) s.data.toList] at h;unfold z6 at h⊢;rw[yX,yA] at h;exact h.1
  have hv:=zmz _ ad (by simp;omega);have ab:=aa;rw[HT,zf4,yA,yA,yq,yq] at ab;have HS:Hid (val (s.data.toList.take (k+1))=10*val (s.data.toList.take k)+(s[k].toNat-48)):=by show _=_;rw[HT];exact zfy _ _
  have hc1:=ab.2.1;have hc2:=ab.2.2;clear HT ab ad aa;go_wp2;go_round
  ·exact⟨k+1,by omega,by go_num,by rw[HS.out];go_num⟩
  simp[intOf];omega
 go_wp2;go_ret;exact⟨zK (by rw[zcw s k (by omega)]),by trivial⟩
end Go.Proofs.YtebinaopncclgabGreatDoor
