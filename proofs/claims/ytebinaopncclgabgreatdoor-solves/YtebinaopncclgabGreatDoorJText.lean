import Derived.Test.YtebinaopncclgabGreatDoorWaysZ
set_option maxRecDepth 100000
set_option maxHeartbeats 8000000
namespace Go.Proofs.YtebinaopncclgabGreatDoor
open Go.RowKit Go.IntWalk
def zbI(n:Nat)(st:Option Nat)(c:UInt8):Option Nat:=
 match st with
 | none=>none
 | some len=>if c=47 then (if len=0 then none else some 0) else if c.toNat<49\/n<c.toNat-48 then none else some (len+1)
def zcC(n:Nat)(l:List UInt8):Option Nat:=l.foldl (zbI n) (some 0)
def zaf(n:Nat)(l:List UInt8):Bool:=match zcC n l with|none=>false|some len=>decide (0<len)||l.isEmpty
theorem zfV(n:Nat)(l:List UInt8)(c:UInt8):zcC n (l++[c])=zbI n (zcC n l) c:=by simp[zcC]
theorem zqP(n:Nat)(l t:List UInt8)(h:zcC n l=none):zcC n (l++t)=none:=by
 have aa:∀t:List UInt8,t.foldl (zbI n) none=none:=by
  intro t;induction t with
  | nil=>rfl
  | cons x t ih=>simpa[zbI] using ih
 unfold zcC at h⊢;rw[yaX,h,aa]
theorem zfY{n k:Nat}{l:List UInt8}(h:zcC n (l.take k)=none):zaf n l=false:=by unfold zaf;have:=zqP n (l.take k) (l.drop k) h;rw[yav] at this;rw[this]
theorem zfv(s:ByteArray):s.toList.isEmpty=s.data.toList.isEmpty:=by
 have h1:=znG s;have h2:s.data.toList.isEmpty=!decide (1<=s.size):=by
  cases hd:s.data.toList with
  | nil=>
   have h3:s.size=0:=by have:=yan List.length hd;simpa using this
   rw[h3];rfl
  | cons x t=>
   have h3:s.size=t.length+1:=by have:=yan List.length hd;simpa using this
   rw[h3];simp
 rw[h2,<-h1];simp
theorem zpT(n:Nat)(s:ByteArray)(w:World)(_hn:n<=7)(hs:s.size<=maxLen):Calls Tryz.prog 205 #[.string s,.int .i64 n] w λe w'=>e=.returned (.bool (zaf n s.data.toList))/\w'=w:=by
 unfold maxLen at hs;go_in;go_wp2_with fail;go_loop[5,6] (λlen i=>∃k m:Nat,i=.int .i64 k/\len=.int .i64 m/\k<=s.size/\m<=k/\Hid (zcC n (s.data.toList.take k)=some m)) (λ_ i=>s.size-(intOf i).toNat)
 ·exact⟨0,0,rfl,rfl,by omega,by omega,rfl⟩
 obtain⟨k,m,rfl,rfl,hk,hmk,HG⟩:=hrel;by_cases ad:k<s.size
 ·have HT:=zco s k ad;have HS:Hid (zcC n (s.data.toList.take (k+1))=zbI n (some m) s[k]):=by show _=_;rw[HT,zfV,HG.out]
  clear HT;have hb:s[k].toNat<256:=s[k].toNat_lt;by_cases hc:s[k].toNat=47
  ·have aa:s[k]=47:=yaH.1 (by rw[hc];rfl);have e1:((s[k].toNat:Int)==47)=true:=by simp[hc]
   by_cases hm:m=0
   ·have HX:Hid (zaf n s.data.toList=false):=zfY (k:=k+1) (by rw[HS.out];unfold zbI;simp[aa,hm]);subst hm;clear HS aa hc;go_wp2;go_ret;exact⟨zh HX.out.symm,rfl⟩
   have HX:Hid (zcC n (s.data.toList.take (k+1))=some 0):=by show _=_;rw[HS.out];unfold zbI;simp[aa,hm]
   have e2:((m:Int)==0)=false:=by simp;omega
   clear HS aa hc;go_wp2;go_round
   ·exact⟨k+1,0,by go_num,rfl,by omega,by omega,HX⟩
   simp[intOf];omega
  have aa:s[k]≠47:=λe=>hc (by rw[e];rfl);have e1:((s[k].toNat:Int)==47)=false:=by simp;omega
  by_cases ac:s[k].toNat<49
  ·have HX:Hid (zaf n s.data.toList=false):=zfY (k:=k+1) (by rw[HS.out];unfold zbI;simp[aa,ac]);clear HS aa hc;go_wp2;go_ret;exact⟨zh HX.out.symm,rfl⟩
  by_cases ab:n<s[k].toNat-48
  ·have HX:Hid (zaf n s.data.toList=false):=zfY (k:=k+1) (by rw[HS.out];unfold zbI;simp[aa,ab]);clear HS aa hc;go_wp2;go_ret;exact⟨zh HX.out.symm,rfl⟩
  have HX:Hid (zcC n (s.data.toList.take (k+1))=some (m+1)):=by show _=_;rw[HS.out];unfold zbI;simp[aa,ac];omega
  clear HS aa hc;go_wp2;go_round
  ·exact⟨k+1,m+1,by go_num,by go_num,by omega,by omega,HX⟩
  simp[intOf];omega
 have HX:Hid (zaf n s.data.toList=(decide (0<m)||s.data.toList.isEmpty)):=by show _=_;unfold zaf;rw[<-zcw s k (by omega),HG.out,zcw s k (by omega)]
 by_cases hm:0<m
 ·go_wp2
  all_goals
   go_ret;exact⟨zh (by rw[HX.out];simp[hm]),rfl⟩
 have ae:m=0:=by omega
 subst ae;have HV:Hid (s.toList.isEmpty=s.data.toList.isEmpty):=zfv s;go_wp2
 all_goals
  go_ret;refine⟨zh ?_,rfl⟩;rw[HX.out,<-HV.out];simp
def zao(l:List UInt8)(d:Nat):Nat:=(l.filter λc=>c.toNat==48+d).length
theorem zc8(l:List UInt8)(c:UInt8)(d:Nat):zao (l++[c]) d=zao l d+(if c.toNat=48+d then 1 else 0):=by
 unfold zao;rw[yaL,yz];by_cases h:c.toNat=48+d
 ·simp[h]
 simp[h]
theorem zlY(l:List UInt8)(d:Nat):zao l d<=l.length:=yau _ _
theorem zhA{n:Nat}{l:List UInt8}(h:zaf n l=true){k:Nat}(hk:k<l.length):l[k]=47\/(49<=l[k].toNat/\l[k].toNat-48<=n):=by
 have h1:zcC n (l.take (k+1))≠none:=λe=>by rw[zfY e] at h;cases h
 rw[yr hk,zfV] at h1;cases hp:zcC n (l.take k) with
 | none=>rw[hp] at h1;exact absurd rfl h1
 | some m=>
  rw[hp] at h1;unfold zbI at h1;by_cases hc:l[k]=47
  ·exact .inl hc
  right;simp only[hc,yck] at h1;by_cases hb:l[k].toNat<49\/n<l[k].toNat-48
  ·rw[yg hb] at h1;exact absurd rfl h1
  omega
def zx(n:Nat)(l:List UInt8):Int:=if zaf n l=false then 5 else if (List.range n).any (λd=>decide (1<zao l (d+1)))=true then 6 else if (List.range n).any (λd=>decide (zao l (d+1)=0))=true then 7 else 0
def zdW(l:List UInt8)(n:Nat):List Value:=(List.range (n+1)).map λd=>Value.int .i64 (zao l d)
theorem zeV{l:List UInt8}{n d:Nat}(h:d<n+1):(zdW l n)[d]?=some (.int .i64 (zao l d)):=by simp[zdW,h]
theorem ztK{l:List UInt8}{n d:Nat}{c:UInt8}(hc:c.toNat=48+d)(_hd:d<n+1):(zdW l n).set d (.int .i64 ((zao l d:Int)+1))=zdW (l++[c]) n:=by
 apply yby;intro i;by_cases hi:i<n+1
 ·rw[ybz];by_cases hid:d=i
  ·subst hid;rw[yg rfl,yg (by simp[zdW];omega),zeV hi,zc8,yg hc];simp
  rw[ye hid,zeV hi,zeV hi,zc8,ye (by omega)];simp
 rw[yao (by simp[zdW];omega),yao (by simp[zdW];omega)]
theorem zrN{l:List UInt8}{n:Nat}{c:UInt8}(hc:c=47):zdW (l++[c]) n=zdW l n:=by unfold zdW;apply yad;intro d _;rw[zc8,ye (by rw[hc];show ¬(47=48+d);omega)];simp
theorem zqQ(n:Nat):zdW [] n=List.replicate (n+1) (.int .i64 0):=by
 apply yby;intro i;by_cases hi:i<n+1
 ·rw[zeV hi,yb3,yg hi];rfl
 rw[yao (by simp[zdW];omega),yao (by simp;omega)]
theorem zk5(n:Nat)(s:ByteArray)(w:World)(hn:n<=7)(hs:s.size<=maxLen):Calls Tryz.prog 166 #[.string s,.int .i64 n] w λe w'=>e=.returned (.int .i64 (zx n s.data.toList))/\Below w.heap.size w w':=by
 obtain⟨i0,hi,az,aA,aB⟩:=info_parts Tryz.infoInt;have HP:=hid (zpT n s w hn hs);unfold maxLen at hs;cases hpl:zaf n s.data.toList
 ·have HF:Hid (zx n s.data.toList=5):=by show _=_;unfold zx;rw[yg hpl]
  rw[hpl] at HP;go_in;go_wp2_with(go_at_call 205;refine HP.out.mono ?_;rintro e1 w1⟨rfl,rfl⟩);go_ret;exact⟨zK HF.out.symm,yk _ _⟩
 rw[hpl] at HP;have ag:=hid hpl;clear hpl;go_in;go_wp2_with(first
  | (go_at_call 205;refine HP.out.mono ?_;rintro e1 w1⟨au,aq⟩;subst au;rw[aq];clear aq w1)
  | (at_make;refine wpList_make_full _ rfl _ _ 40 rfl w.heap.size 3 i0 (.int .i64 0) 1 Tryz.underlying40 hi az aA .i64 .i64 _ _ (n+1) rfl rfl ?m1 ?m2 ?m3 ?m4 ?m5 ?_))
 case m1=>omega
 case m2=>omega
 case m3=>rw[aB];omega
 case m4=>unfold maxLen;omega
 case m5=>exact yh _
 intro w1 ad aa;have ac:Below w.heap.size w w1:=(yk _ _).grown aa (yh _) (by simp);have ab:w1.ownsRow w.heap.size 3 1 (.slice (some ⟨w.heap.size,0,none⟩) (n+1:Nat) (n+1:Nat)) (n+1) (zdW (s.data.toList.take 0) n):=by
  have e:(madeCells #[Value.int IntKind.i64 0] (n+1)).toList=zdW (s.data.toList.take 0) n:=by rw[yas,ybP,zqQ]
  rw[<-e];exact ad
 clear ad aa;go_wp2;go_loopw[6] (λi wr=>∃k:Nat,k<=s.size/\i=.int .i64 k/\Hid (wr.ownsRow w.heap.size 3 1 (.slice (some ⟨w.heap.size,0,none⟩) (n+1:Nat) (n+1:Nat)) (n+1) (zdW (s.data.toList.take k) n))/\Hid (Below w.heap.size w wr)) (λi _=>s.size-(intOf i).toNat)
 ·exact⟨0,yu _,rfl,ab,ac⟩
 clear ab ac;obtain⟨k,hk,rfl,HO,HB⟩:=hrel;by_cases ap:k<s.size
 ·have HT:=hid (zco s k ap);have hb:s[k].toNat<256:=s[k].toNat_lt;have ai:s[k]=47\/(49<=s[k].toNat/\s[k].toNat-48<=n):=zhA ag.out (k:=k) (by simpa using ap);by_cases hc:s[k].toNat=47
  ·have am:s[k]=47:=yaH.1 (by rw[hc];rfl);have HC:=hid am;have e1:((s[k].toNat:Int)==47)=true:=by simp[hc]
   clear am ai;go_wp2;go_roundw
   ·refine⟨k+1,by omega,by go_num,?_,HB⟩;show World.ownsRow _ _ _ _ _ _ _;rw[HT.out,zrN HC.out];exact HO.out
   simp[intOf];omega
  have hd:49<=s[k].toNat/\s[k].toNat-48<=n:=by
   rcases ai with h|h
   ·exact absurd (by rw[h];rfl) hc
   exact h
  have e1:((s[k].toNat:Int)==47)=false:=by simp;omega
  obtain⟨d,ar⟩:∃d,s[k].toNat=48+d:=⟨s[k].toNat-48,by omega⟩
  have HD:=hid ar;have ao:d<n+1:=by omega
  have hdl:d<=7:=by omega
  have hfz:=HO.out.frozenAt d;have ah:wr.cell? ⟨w.heap.size,d,none⟩=some (.int .i64 (zao (s.data.toList.take k) d)):=by rw[HO.out.cellAt d (by omega)];exact zeV ao
  have an:zao (s.data.toList.take k) d<=k:=yP (zlY _ _) (ybM _ _);clear ai;go_wp2;have S:=HO.out.stored d (.int .i64 ((zao (s.data.toList.take k) d:Int)+1));go_roundw
  ·refine⟨k+1,by omega,by go_num,?_,HB.out.setCell (yh _) _⟩;show World.ownsRow _ _ _ _ _ _ _;rw[HT.out,<-ztK HD.out ao];exact S.1
  simp[intOf];omega
 have ak:Hid (wr.ownsRow w.heap.size 3 1 (.slice (some ⟨w.heap.size,0,none⟩) (n+1:Nat) (n+1:Nat)) (n+1) (zdW s.data.toList n)):=by have:=HO.out;rw[zcw s k (by omega)] at this;exact this
 have ae:∀d,zao s.data.toList d<=s.size:=λd=>yP (zlY _ _) (by simp);have aj:=hid ae;clear HO ae;go_wp2_with fail;go_loop[7] (λi=>∃p:Nat,p<=n/\i=.int .i64 (p+1:Nat)/\Hid (∀j,j<p->zao s.data.toList (j+1)<=1)) (λi=>n+1-(intOf i).toNat)
 ·exact⟨0,yu _,rfl,λj hj=>absurd hj (by omega)⟩
 obtain⟨p,hp,rfl,HS⟩:=hrel;by_cases aw:p<n
 ·have ah:wr.cell? ⟨w.heap.size,p+1,none⟩=some (.int .i64 (zao s.data.toList (p+1))):=by rw[ak.out.cellAt (p+1) (by omega)];exact zeV (by omega)
  have an:=aj.out (p+1);by_cases af:1<zao s.data.toList (p+1)
  ·have HF:Hid (zx n s.data.toList=6):=by show _=_;unfold zx;rw[ye (by rw[ag.out];simp),yg];exact y9.2 ⟨p,by simp[aw],by simpa using af⟩
   go_wp2;go_ret;exact⟨zK HF.out.symm,HB.out⟩
  go_wp2;go_round
  ·exact⟨p+1,by omega,by go_num,λj hj=>by
   by_cases h:j=p
   ·subst h;omega
   exact HS.out j (by omega)⟩
  simp[intOf];omega
 have av:p=n:=by omega
 subst av;have al:Hid ((List.range p).any (λd=>decide (1<zao s.data.toList (d+1)))=false):=by show _=_;rw[ya5];intro d hd;have:=HS.out d (by simpa using hd);simpa using this
 clear HS;go_wp2_with fail;go_loop[8] (λi=>∃q:Nat,q<=p/\i=.int .i64 (q+1:Nat)/\Hid (∀j,j<q->zao s.data.toList (j+1)≠0)) (λi=>p+1-(intOf i).toNat)
 ·exact⟨0,yu _,rfl,λj hj=>absurd hj (by omega)⟩
 obtain⟨q,hq,rfl,HS⟩:=hrel;by_cases ay:q<p
 ·have ah:wr.cell? ⟨w.heap.size,q+1,none⟩=some (.int .i64 (zao s.data.toList (q+1))):=by rw[ak.out.cellAt (q+1) (by omega)];exact zeV (by omega)
  have an:=aj.out (q+1);by_cases af:zao s.data.toList (q+1)=0
  ·have HF:Hid (zx p s.data.toList=7):=by show _=_;unfold zx;rw[ye (by rw[ag.out];simp),ye (by rw[al.out];simp),yg];exact y9.2 ⟨q,by simp[ay],by simpa using af⟩
   rw[af] at ah;go_wp2;go_ret;exact⟨zK HF.out.symm,HB.out⟩
  have e2:((zao s.data.toList (q+1):Int)==0)=false:=by simp;omega
  go_wp2;go_round
  ·exact⟨q+1,by omega,by go_num,λj hj=>by
   by_cases h:j=q
   ·subst h;exact af
   exact HS.out j (by omega)⟩
  simp[intOf];omega
 have ax:q=p:=by omega
 subst ax;have HF:Hid (zx q s.data.toList=0):=by show _=_;unfold zx;rw[ye (by rw[ag.out];simp),ye (by rw[al.out];simp),ye];intro h;obtain⟨d,hd,h0⟩:=y9.1 h;exact HS.out d (by simpa using hd) (by simpa using h0)
 go_wp2;go_ret;exact⟨zK HF.out.symm,HB.out⟩
end Go.Proofs.YtebinaopncclgabGreatDoor
