import Derived.Test.YtebinaopncclgabGreatDoorBase
import Derived.Lib.Strings
set_option maxRecDepth 100000
set_option maxHeartbeats 8000000
namespace Go.Proofs.YtebinaopncclgabGreatDoor
open Go.RowKit Go.IntWalk
theorem zc{B:Nat}{w v:World}{a:Addr}{x:Option Value}(h:Go.RowKit.Below B w v)(k:w.cell? a=x)(p:a.block<B):v.cell? a=x:=(h.cell p).trans k
set_option linter.defProp false
def ya:=@Nat.lt_of_lt_of_le
def yc:=@Array.getElem?_eq_some_iff
def ye:=@if_neg
def yg:=@if_pos
def yh:=@Nat.le_refl
def yi:=@cell_of_row
def yj:=@List.getD_eq_getElem?_getD
def yk:=@Below.refl
def yl:=@List.getElem?_eq_getElem
def ym:=@List.getElem_mem
def yo:=@List.mem_map
def yq:=@decide_eq_true_eq
def yr:=@List.take_succ_eq_append_getElem
def yt:=@Below.heap_setCell
def yu:=@Nat.zero_le
def yv:=@frozen_of_row
def yw:=@heap_setCell_same
def yx:=@heap_alloc_new
def yy:=@wpList_append_own
def yz:=@List.length_append
def yA:=@Bool.and_eq_true
def yB:=@bodyPost_ret
def yC:=@World.ownsRow_nil
def yD:=@List.take_of_length_le
def yE:=@List.map_cons
def yF:=@List.all_eq_true
def yG:=@List.mem_cons
def yH:=@List.mem_append
def yI:=@decide_eq_false_iff_not
def yJ:=@List.length_cons
def yK:=@Option.getD_some
def yL:=@List.map_append
def yM:=@List.flatten_cons
def yN:=@List.length_map
def yO:=@beq_eq_false_iff_ne
def yP:=@Nat.le_trans
def yQ:=@List.filter_cons_of_pos
def yR:=@List.range_succ
def yS:=@List.filter_cons_of_neg
def yT:=@Below.heap_alloc
def yU:=@Array.getElem?_push
def yV:=@Classical.byContradiction
def yW:=@Bool.eq_iff_iff
def yX:=@List.all_append
def yY:=@List.append_nil
def yZ:=@List.sum_cons
def y8:=@List.mem_flatten
def y9:=@List.any_eq_true
def yaa:=@List.append_assoc
def yab:=@Nat.add_sub_cancel
def yac:=@List.drop_eq_getElem_cons
def yad:=@List.map_congr_left
def yae:=@List.foldl_cons
def yaf:=@List.mem_cons_of_mem
def yag:=@List.mem_filter
def yah:=@List.map_map
def yai:=@List.all_eq_false
def yaj:=@List.mem_singleton
def yak:=@decide_eq_true
def yal:=@List.getElem?_map
def yam:=@Int.toNat_natCast
def yan:=@congrArg
def yao:=@List.getElem?_eq_none
def yap:=@Array.size_push
def yaq:=@Int.toNat_of_nonneg
def yar:=@List.nodup_iff_pairwise_ne
def yas:=@toList_madeCells_one
def yat:=@Nat.zero_add
def yau:=@List.length_filter_le
def yav:=@List.take_append_drop
def yaw:=@List.getElem?_append_right
def yax:=@List.nil_append
def yay:=@List.length_nil
def yaz:=@World.cell?_of_block
def yaA:=@List.mem_iff_getElem
def yaB:=@Int.le_refl
def yaC:=@List.getElem?_append_left
def yaD:=@List.length_range
def yaE:=@of_decide_eq_true
def yaF:=@List.dropLast_concat_getLast
def yaG:=@List.getElem_append_left
def yaH:=@UInt8.toNat_inj
def yaI:=@List.count_append
def yaJ:=@ByteArray.data_append
def yaK:=@List.eq_nil_of_length_eq_zero
def yaL:=@List.filter_append
def yaM:=@List.cons_append
def yaN:=@Array.size_append
def yaO:=@List.nodup_cons
def yaP:=@List.flatten_append
def yaQ:=@List.length_pos_iff
def yaR:=@List.length_take
def yaS:=@Nat.eq_zero_or_pos
def yaT:=@List.mem_range
def yaU:=@Nat.pow_le_pow_right
def yaV:=@List.getElem?_take_of_lt
def yaW:=@List.count_cons
def yaX:=@List.foldl_append
def yaY:=@Bool.true_and
def yaZ:=@List.sum_append_int
def ya0:=@List.take_length
def ya1:=@List.count_eq_zero
def ya2:=@Nat.lt_of_le_of_lt
def ya3:=@ByteArray.ext
def ya4:=@World.ownsRow_lit
def ya5:=@List.any_eq_false
def ya6:=@List.pairwise_map
def ya7:=@List.nodup_append
def ya8:=@bodyPost_end
def ya9:=@Nat.le_of_lt
def yba:=@List.Pairwise.imp_of_mem
def ybb:=@List.getElem?_range
def ybc:=@List.getElem?_cons_succ
def ybd:=@decide_eq_true_iff
def ybe:=@Bool.and_false
def ybf:=@List.map_nil
def ybg:=@Nat.add_zero
def ybh:=@List.Perm.append
def ybi:=@List.nodup_range
def ybj:=@Array.toArray_toList
def ybk:=@Array.toList_append
def ybl:=@Array.length_toList
def ybm:=@List.toList_toArray
def ybn:=@List.getElem?_eq_some_iff
def ybo:=@World.cell?_setCell_other
def ybp:=@List.map_set
def ybq:=@Nat.pow_succ
def ybr:=@Int.cast_ofNat_Int
def ybs:=@List.length_erase_of_mem
def ybt:=@Lib.extract_eq
def ybu:=@List.Perm.refl
def ybv:=@Ne.symm
def ybw:=@Int.eq_ofNat_of_zero_le
def ybx:=@List.length_eq_zero_iff
def yby:=@List.ext_getElem?
def ybz:=@List.getElem?_set
def ybA:=@Nat.lt_succ_of_le
def ybB:=@List.drop_eq_nil_of_le
def ybC:=@ByteArray.getElem_eq_getElem_data
def ybD:=@Nat.and_mod_two_eq_one
def ybE:=@List.flatten_nil
def ybF:=@List.not_mem_nil
def ybG:=@List.singleton_append
def ybH:=@bne_iff_ne
def ybI:=@List.replicate_succ'
def ybJ:=@Nat.eq_of_testBit_eq
def ybK:=@Array.size_replicate
def ybL:=@Option.some.inj
def ybM:=@List.length_take_le
def ybN:=@List.getD_cons_succ
def ybO:=@Array.getElem?_setIfInBounds
def ybP:=@List.take_zero
def ybQ:=@List.nodup_nil
def ybR:=@of_decide_eq_false
def ybS:=@Nat.add_assoc
def ybT:=@List.size_toArray
def ybU:=@List.pairwise_iff_getElem
def ybV:=@List.getLast?_eq_getElem?
def ybW:=@World.size_alloc
def ybX:=@Addr.add_lit
def ybY:=@List.filter_cons
def ybZ:=@decide_eq_decide
def yb0:=@Nat.and_le_right
def yb1:=@IntKind.wrap_i64
def yb2:=@setRow_other
def yb3:=@List.getElem?_replicate
def yb4:=@List.cons.injEq
def yb5:=@Bool.or_eq_true
def yb6:=@Nat.testBit_and
def yb7:=@Nat.testBit_xor
def yb8:=@Nat.le_antisymm
def yb9:=@Nat.two_pow_pos
def yca:=@Nat.and_div_two
def ycb:=@Option.map_some
def ycc:=@List.map_id
def ycd:=@Array.toList_replicate
def yce:=@List.pairwise_lt_range
def ycf:=@if_true
def ych:=@List.range_add
def yck:=@if_false
def ycm:=@Bool.false_or
def ycn:=@Addr.mk.injEq
def zbE(ls:List (List UInt8)):List Value:=ls.map λl=>Value.string ⟨l.toArray⟩
theorem zni(a b:List (List UInt8)):zbE (a++b)=zbE a++zbE b:=by simp[zbE]
def zaT(c:UInt8)(st:List (List UInt8)×List UInt8)(x:UInt8):List (List UInt8)×List UInt8:=if x=c then (st.1++[st.2],[]) else (st.1,st.2++[x])
def spl(c:UInt8)(l:List UInt8):List (List UInt8)×List UInt8:=l.foldl (zaT c) ([],[])
def zD(c:UInt8)(l:List UInt8):List (List UInt8):=(spl c l).1++[(spl c l).2]
def zb6(st:List (List UInt8)×List UInt8)(x:UInt8):List (List UInt8)×List UInt8:=if x=32 then (if st.2=[] then st.1 else st.1++[st.2],[]) else (st.1,st.2++[x])
def spf(l:List UInt8):List (List UInt8)×List UInt8:=l.foldl zb6 ([],[])
def zcR(l:List UInt8):List (List UInt8):=if (spf l).2=[] then (spf l).1 else (spf l).1++[(spf l).2]
def lnP(l:List UInt8)(k:Nat):List (List UInt8):=(spl 10 (l.take k)).1
def lnC(l:List UInt8)(k:Nat):List UInt8:=(spl 10 (l.take k)).2
def fdP(l:List UInt8)(k:Nat):List (List UInt8):=(spf (l.take k)).1
def fdC(l:List UInt8)(k:Nat):List UInt8:=(spf (l.take k)).2
theorem zdb{l:List UInt8}{k:Nat}(h:k<l.length):l.take (k+1)=l.take k++[l[k]]:=List.take_succ_eq_append_getElem h
theorem zed(c:UInt8)(l:List UInt8)(x:UInt8):spl c (l++[x])=zaT c (spl c l) x:=by simp[spl]
theorem zi7(l:List UInt8)(x:UInt8):spf (l++[x])=zb6 (spf l) x:=by simp[spf]
theorem zvU{l:List UInt8}{k:Nat}(h:k<l.length)(hc:l[k]=10):lnP l (k+1)=lnP l k++[lnC l k]/\lnC l (k+1)=[]:=by unfold lnP lnC;rw[zdb h,zed,zaT,if_pos hc];exact⟨rfl,rfl⟩
theorem zvk{l:List UInt8}{k:Nat}(h:k<l.length)(hc:l[k]≠10):lnP l (k+1)=lnP l k/\lnC l (k+1)=lnC l k++[l[k]]:=by unfold lnP lnC;rw[zdb h,zed,zaT,if_neg hc];exact⟨rfl,rfl⟩
theorem zv3{l:List UInt8}{k:Nat}(h:k<l.length)(hc:l[k]=32)(aa:fdC l k≠[]):fdP l (k+1)=fdP l k++[fdC l k]/\fdC l (k+1)=[]:=by unfold fdP fdC at*;rw[zdb h,zi7,zb6,if_pos hc,if_neg aa];exact⟨rfl,rfl⟩
theorem zvB{l:List UInt8}{k:Nat}(h:k<l.length)(hc:l[k]=32)(he:fdC l k=[]):fdP l (k+1)=fdP l k/\fdC l (k+1)=[]:=by unfold fdP fdC at*;rw[zdb h,zi7,zb6,if_pos hc,if_pos he];exact⟨rfl,rfl⟩
theorem zvn{l:List UInt8}{k:Nat}(h:k<l.length)(hc:l[k]≠32):fdP l (k+1)=fdP l k/\fdC l (k+1)=fdC l k++[l[k]]:=by unfold fdP fdC;rw[zdb h,zi7,zb6,if_neg hc];exact⟨rfl,rfl⟩
theorem zv1{l:List UInt8}{k:Nat}(h:l.length<=k):zD 10 l=lnP l k++[lnC l k]:=by unfold lnP lnC;rw[List.take_of_length_le h];rfl
theorem zr0{l:List UInt8}{k:Nat}(h:l.length<=k):zcR l=if fdC l k=[] then fdP l k else fdP l k++[fdC l k]:=by unfold fdP fdC;rw[List.take_of_length_le h];rfl
theorem zg8{l:List UInt8}{b k:Nat}(hb:b<=k)(h:k<l.length):(l.drop b).take (k-b)++[l[k]]=(l.drop b).take (k+1-b):=by
 have:k+1-b=(k-b)+1:=by omega
 rw[this,List.take_succ_eq_append_getElem (by simp;omega)];simp;congr 1;omega
theorem zq4{l:List UInt8}{b k:Nat}(hb:b<k)(hk:k<=l.length):(l.drop b).take (k-b)≠[]:=by intro h;have:=congrArg List.length h;simp at this;omega
theorem zel(s:ByteArray)(b k:Nat):Value.string (s.extract b k)=Value.string ⟨((s.data.toList.drop b).take (k-b)).toArray⟩:=by rw[Lib.extract_eq]
theorem Tryz.infoStr:(Tryz.prog.info? 9).map (λi=>(i.zero,i.size,i.bytes))=some (some (.string ByteArray.empty),1,16):=by kernel_rfl
theorem zdR{w wr w1:World}{B:Nat}{v v':Value}{ps:List (List UInt8)}{x:List UInt8}(hB:B<=wr.heap.size)(ad:wr.ownsRow B 9 1 v ps.length (zbE ps))(ac:Below B w wr){o:Obj}(ab:w1.ownsRow B 9 1 v' (ps.length+1) (zbE ps++[.string ⟨x.toArray⟩]))(aa:(wr.alloc o).grownBy w1 v.ownBlock):w1.ownsRow B 9 1 v' (ps++[x]).length (zbE (ps++[x]))/\Below B w w1:=by refine⟨by rw[zni,yz];exact ab,?_⟩;exact(ac.alloc hB o).grown aa (by simp;omega) (λk hk=>(ad.lt k hk).1)
theorem zrL(s:ByteArray)(w:World)(hs:s.size<=1000000):Calls Tryz.prog 79 #[.string s] w λe w'=>∃v,e=.returned v/\w'.ownsRow w.heap.size 9 1 v (zD 10 s.data.toList).length (zbE (zD 10 s.data.toList))/\Below w.heap.size w w':=by
 obtain⟨i0,hi,ah,ai,aj⟩:=info_parts Tryz.infoStr;obtain⟨l,hl⟩:∃l,l=s.data.toList:=⟨_,rfl⟩
 have ag:s.size=l.length:=by rw[hl];simp
 have HL:Hid (l=s.data.toList):=hl;have HSZ:Hid (s.size=l.length):=ag;have am:s.size<=l.length:=by omega
 have an:l.length<=s.size:=by omega
 clear hl ag;go_in;go_wp2;go_loopw[3,4,5] (λv bg i wr=>∃k b:Nat,k<=s.size/\b<=k/\i=.int .i64 k/\bg=.int .i64 b/\Hid (lnC l k=(l.drop b).take (k-b))/\(lnP l k).length<=k/\wr.ownsRow w.heap.size 9 1 v (lnP l k).length (zbE (lnP l k))/\Below w.heap.size w wr) (λ_ _ i _=>s.size-(intOf i).toNat)
 ·exact⟨0,0,yu _,yh _,rfl,rfl,rfl,yh _,yC _ _ _ _,yk _ _⟩
 obtain⟨k,b,hk,hb,rfl,rfl,HC,hlen,ac,ad⟩:=hrel;have ae:=ad.size;by_cases hlt:k<s.size
 ·have af:k<l.length:=by omega
  have HX:Hid (s[k]=l[k]):=by show s[k]=l[k];subst HL;rfl
  by_cases hc:l[k]=10
  ·have ak:((s[k].toNat:Int)==10)=true:=by rw[HX.out,hc];rfl
   clear am an;go_wp2_with(first
    | (at_builtin;refine yy _ rfl _ _ 148 rfl w.heap.size 9 i0 (.string ByteArray.empty) 1 16 Tryz.underlying148 hi ah ai aj rfl (by decide) _ _ _ rfl (ac.alloc _) ⟨wr.heap.size,0,none⟩ 1 1 [.string (s.extract b k)] rfl rfl ?c1 ?c2 ?c3 ?c4 ?c5 ?_)
    | go_in)
   case c1=>exact cell_one_new _ _ _
   case c2=>intro u hu;simp at hu;subst hu;rfl
   case c3=>unfold maxLen;omega
   case c4=>omega
   case c5=>simp;omega
   intro v' w1 aa ab _;rw[zel] at aa;have R:=zdR ae ac ad aa ab;clear aa ab ac ad;go_wp2;go_roundw
   ·obtain⟨e1,e2⟩:=zvU af hc;refine⟨k+1,k+1,by omega,yh _,by go_num,by go_num,?_,?_,?_,R.2⟩
    ·show _=_;rw[e2];simp
    ·rw[e1];simp;omega
    rw[e1,HC.out];subst HL;exact R.1
   simp[intOf];omega
  have ak:((s[k].toNat:Int)==10)=false:=by rw[yO];intro e;exact hc (by rw[<-HX.out];exact yaH.1 (by have h10:(10:UInt8).toNat=10:=rfl;omega))
  go_wp2;go_roundw
  ·obtain⟨e1,e2⟩:=zvk af hc;refine⟨k+1,b,by omega,by omega,by go_num,rfl,?_,?_,?_,ad⟩
   ·show _=_;rw[e2,HC.out];exact zg8 hb af
   ·rw[e1];omega
   rw[e1];exact ac
  simp[intOf];omega
 have al:k=s.size:=by omega
 subst al;go_wp2_with(first
   | (at_builtin;refine yy _ rfl _ _ 148 rfl w.heap.size 9 i0 (.string ByteArray.empty) 1 16 Tryz.underlying148 hi ah ai aj rfl (by decide) _ _ _ rfl (ac.alloc _) ⟨wr.heap.size,0,none⟩ 1 1 [.string (s.extract b s.size)] rfl rfl ?d1 ?d2 ?d3 ?d4 ?d5 ?_)
   | go_in)
 case d1=>exact cell_one_new _ _ _
 case d2=>intro u hu;simp at hu;subst hu;rfl
 case d3=>unfold maxLen;omega
 case d4=>omega
 case d5=>simp;omega
 intro v' w1 aa ab _;rw[zel] at aa;have R:=zdR ae ac ad aa ab;clear aa ab ac ad;go_wp2;go_ret;refine⟨v',rfl,?_,R.2⟩;have e1:=zv1 (l:=l) (k:=s.size) (by omega);rw[HC.out] at e1;subst HL;rw[e1];exact R.1
theorem zje(s:ByteArray)(w:World)(hs:s.size<=1000000):Calls Tryz.prog 131 #[.string s] w λe w'=>∃v,e=.returned v/\w'.ownsRow w.heap.size 9 1 v (zcR s.data.toList).length (zbE (zcR s.data.toList))/\Below w.heap.size w w':=by
 obtain⟨i0,hi,ah,ai,aj⟩:=info_parts Tryz.infoStr;obtain⟨l,hl⟩:∃l,l=s.data.toList:=⟨_,rfl⟩
 have ao:s.size=l.length:=by rw[hl];simp
 have HL:Hid (l=s.data.toList):=hl;have am:s.size<=l.length:=by omega
 have an:l.length<=s.size:=by omega
 clear hl ao;go_in;go_wp2;go_loopw[3,4,5] (λv bg i wr=>∃k b:Nat,k<=s.size/\b<=k/\i=.int .i64 k/\bg=.int .i64 b/\Hid (fdC l k=(l.drop b).take (k-b))/\(fdP l k).length<=k/\wr.ownsRow w.heap.size 9 1 v (fdP l k).length (zbE (fdP l k))/\Below w.heap.size w wr) (λ_ _ i _=>s.size-(intOf i).toNat)
 ·exact⟨0,0,yu _,yh _,rfl,rfl,rfl,yh _,yC _ _ _ _,yk _ _⟩
 obtain⟨k,b,hk,hb,rfl,rfl,HC,hlen,ab,ac⟩:=hrel;have ae:=ac.size;by_cases hlt:k<s.size
 ·have af:k<l.length:=by omega
  have HX:Hid (s[k]=l[k]):=by show s[k]=l[k];subst HL;rfl
  by_cases hc:l[k]=32
  ·have ak:((s[k].toNat:Int) != 32)=false:=by rw[HX.out,hc];rfl
   by_cases ag:b<k
   ·clear am an;go_wp2_with(first
     | (at_builtin;refine yy _ rfl _ _ 148 rfl w.heap.size 9 i0 (.string ByteArray.empty) 1 16 Tryz.underlying148 hi ah ai aj rfl (by decide) _ _ _ rfl (ab.alloc _) ⟨wr.heap.size,0,none⟩ 1 1 [.string (s.extract b k)] rfl rfl ?c1 ?c2 ?c3 ?c4 ?c5 ?_)
     | go_in)
    case c1=>exact cell_one_new _ _ _
    case c2=>intro u hu;simp at hu;subst hu;rfl
    case c3=>unfold maxLen;omega
    case c4=>omega
    case c5=>simp;omega
    intro v' w1 aa ad _;rw[zel] at aa;have R:=zdR ae ab ac aa ad;clear aa ad ab ac;go_wp2;go_roundw
    ·obtain⟨e1,e2⟩:=zv3 af hc (by rw[HC.out];exact zq4 ag (by omega));refine⟨k+1,k+1,by omega,yh _,by go_num,by go_num,?_,?_,?_,R.2⟩
     ·show _=_;rw[e2];simp
     ·rw[e1];simp;omega
     rw[e1,HC.out];subst HL;exact R.1
    simp[intOf];omega
   go_wp2;go_roundw
   ·obtain⟨e1,e2⟩:=zvB af hc (by rw[HC.out,show k-b=0 by omega];simp);refine⟨k+1,k+1,by omega,yh _,by go_num,by go_num,?_,?_,?_,ac⟩
    ·show _=_;rw[e2];simp
    ·rw[e1];omega
    rw[e1];exact ab
   simp[intOf];omega
  have ak:((s[k].toNat:Int) != 32)=true:=by rw[ybH];intro e;exact hc (by rw[<-HX.out];exact yaH.1 (by have h10:(32:UInt8).toNat=32:=rfl;omega))
  go_wp2;go_roundw
  ·obtain⟨e1,e2⟩:=zvn af hc;refine⟨k+1,b,by omega,by omega,by go_num,rfl,?_,?_,?_,ac⟩
   ·show _=_;rw[e2,HC.out];exact zg8 hb af
   ·rw[e1];omega
   rw[e1];exact ab
  simp[intOf];omega
 have al:k=s.size:=by omega
 subst al;by_cases ag:b<s.size
 ·go_wp2_with(first
   | (at_builtin;refine yy _ rfl _ _ 148 rfl w.heap.size 9 i0 (.string ByteArray.empty) 1 16 Tryz.underlying148 hi ah ai aj rfl (by decide) _ _ _ rfl (ab.alloc _) ⟨wr.heap.size,0,none⟩ 1 1 [.string (s.extract b s.size)] rfl rfl ?d1 ?d2 ?d3 ?d4 ?d5 ?_)
   | go_in)
  case d1=>exact cell_one_new _ _ _
  case d2=>intro u hu;simp at hu;subst hu;rfl
  case d3=>unfold maxLen;omega
  case d4=>omega
  case d5=>simp;omega
  ·intro v' w1 aa ad _;rw[zel] at aa;have R:=zdR ae ab ac aa ad;clear aa ad ab ac;go_wp2;go_ret;refine⟨v',rfl,?_,R.2⟩;have e1:=zr0 (l:=l) (k:=s.size) (by omega);rw[HC.out,ye (zq4 ag (by omega))] at e1;subst HL;rw[e1];exact R.1
 go_wp2;go_ret;refine⟨_,rfl,?_,ac⟩;have e1:=zr0 (l:=l) (k:=s.size) (by omega);rw[HC.out,show s.size-b=0 by omega] at e1;subst HL;rw[e1];simpa using ab
end Go.Proofs.YtebinaopncclgabGreatDoor
