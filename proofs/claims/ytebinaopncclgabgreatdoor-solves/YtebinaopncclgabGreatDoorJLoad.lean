import Derived.Test.YtebinaopncclgabGreatDoorJText
set_option maxRecDepth 100000
set_option maxHeartbeats 8000000
namespace Go.Proofs.YtebinaopncclgabGreatDoor
open Go.RowKit Go.IntWalk
structure Rts (w:World) (B U:Nat) (v:Value) (L:List (List Int)) (vs:List Value):Prop where
 own:w.ownsRow B 40 1 v vs.length vs
 len:vs.length=L.length
 row:∀i (h:i<vs.length) (h':i<L.length),∃gi ci cur,vs[i]=.slice (some ⟨gi,0,none⟩) L[i].length ci/\(B<=gi/\gi<U)/\w.heap[gi]?=some (.cells cur 3 (0,0))/\∀j (hj:j<L[i].length),cur[j]?=some (.int .i64 L[i][j])
theorem Rts.nil(w:World)(B U:Nat):Rts w B U (.slice none 0 0) [] []:=⟨yC _ _ _ _,rfl,λi h=>absurd h (by simp)⟩
theorem Rts.below{w w':World}{B U U':Nat}{v:Value}{L:List (List Int)}{vs:List Value}(h:Rts w B U v L vs)(hb:Below w.heap.size w w')(hU:U<=U'):Rts w' B U' v L vs:=⟨ze h.own hb,h.len,λi hi aa=>by obtain⟨gi,ci,cur,k1,k2,k3,k4⟩:=h.row i hi aa;exact⟨gi,ci,cur,k1,by omega,by rw[hb.block _ (yc.1 k3).1];exact k3,k4⟩⟩
theorem Rts.base{w:World}{B B' U:Nat}{v:Value}{L:List (List Int)}{vs:List Value}(h:Rts w B U v L vs)(hb:B'<=B):Rts w B' U v L vs:=⟨zan h.own hb,h.len,λi hi aa=>by obtain⟨gi,ci,cur,k1,k2,k3,k4⟩:=h.row i hi aa;exact⟨gi,ci,cur,k1,by omega,k3,k4⟩⟩
theorem Rts.at{w:World}{B U:Nat}{v:Value}{L:List (List Int)}{vs:List Value}(h:Rts w B U v L vs){i:Nat}(hi:i<L.length):∃g c gi ci,v=.slice (some ⟨g,0,none⟩) L.length c/\g<w.heap.size/\w.cell? ⟨g,i,none⟩=some (.slice (some ⟨gi,0,none⟩) L[i].length ci)/\gi<w.heap.size/\∀j (hj:j<L[i].length),w.cell? ⟨gi,j,none⟩=some (.int .i64 L[i][j]):=by have hl:=h.len;obtain⟨gi,ci,cur,k1,k2,k3,k4⟩:=h.row i (by omega) hi;obtain⟨g,cap,e,hg,hc⟩:=zdf h.own (i:=i) (by omega) (by omega);exact⟨g,cap,gi,ci,by rw[<-hl];exact e,hg,by rw[hc,k1],(yc.1 k3).1,λj hj=>by rw[yi _ _ _ _ _ _ k3];exact k4 j hj⟩
theorem Rts.grown{w w':World}{B U:Nat}{v l:Value}{L:List (List Int)}{vs:List Value}{Bl q:Nat}{zs:List Value}(h:Rts w B U v L vs)(hl:w.ownsRow Bl 3 1 l q zs)(hB:U<=Bl)(hg:w.grownBy w' l.ownBlock):Rts w' B U v L vs:=⟨h.own.kept hg (zfh h.own hl (by decide)),h.len,λi hi aa=>by obtain⟨gi,ci,cur,k1,k2,k3,k4⟩:=h.row i hi aa;refine⟨gi,ci,cur,k1,k2,?_,k4⟩;rw[hg.block _ (yc.1 k3).1 (λe=>by have h5:=(hl.lt _ e.symm).1;omega)];exact k3⟩
theorem Rts.push{w X w':World}{B U Bl:Nat}{v v' l:Value}{L:List (List Int)}{vs:List Value}{zs:List Int}(h:Rts w B U v L vs)(hl:w.ownsRow Bl 3 1 l zs.length (zd zs))(hn:0<zs.length)(hB:B<=Bl)(hX:Below w.heap.size w X)(hg:X.grownBy w' v.ownBlock)(ho:w'.ownsRow B 40 1 v' (vs.length+1) (vs++[l])):Rts w' B w'.heap.size v' (L++[zs]) (vs++[l]):=by
 have hk:zZ [40] w w':=(zZ.of_below hX).trans (zZ.grown (ze h.own hX) (by simp) hg);have aa:=h.len;refine⟨by rw[yz];exact ho,by simp[aa],λi hi hi'=>?_⟩;by_cases ab:i<vs.length
 ·obtain⟨gi,ci,cur,k1,k2,k3,k4⟩:=h.row i ab (by omega);have k5:=hk _ _ _ _ k3 (by decide);have e:(L++[zs])[i]=L[i]:=yaG (by omega);exact⟨gi,ci,cur,by rw[yaG ab,e];exact k1,⟨k2.1,(yc.1 k5).1⟩,k5,λj hj=>by simp only[e] at hj⊢;exact k4 j hj⟩
 have ad:i=vs.length:=by simp at hi;omega
 subst ad;have e:(L++[zs])[vs.length]=zs:=by simp[aa]
 rcases hl.2 with ⟨_,h0⟩|⟨g,cap,cur,rfl,hb,ac,h1,h2,h3,h4⟩
 ·omega
 have k5:=hk _ _ _ _ ac (by decide);refine⟨g,cap,cur,by rw[e];simp,⟨by omega,(yc.1 k5).1⟩,k5,λj hj=>?_⟩;simp only[e] at hj⊢;have h6:(zd zs)[j]?=some (.int .i64 zs[j]):=by simp[zd,hj]
 rw[<-h4,yaV (by omega)] at h6;simpa using h6
def zd6(st:List (List Int)×List Int)(c:UInt8):List (List Int)×List Int:=if c=47 then (st.1++[st.2++[0]],[0]) else (st.1,st.2++[(c.toNat:Int)-48])
def zq(l:List UInt8):List (List Int)×List Int:=l.foldl zd6 ([],[0])
def zn(l:List UInt8):List (List Int):=if l=[] then [] else (zq l).1++[(zq l).2++[0]]
theorem zcn(l:List UInt8)(c:UInt8):zq (l++[c])=zd6 (zq l) c:=by simp[zq]
theorem zfH(l:List UInt8):(zq l).1.length<=l.length/\0<(zq l).2.length/\(zq l).2.length<=l.length+1:=by
 have ab:∀n (l:List UInt8),l.length=n->(zq l).1.length<=l.length/\0<(zq l).2.length/\(zq l).2.length<=l.length+1:=by
  intro n;induction n with
  | zero=>intro l h;have:l=[]:=ybx.1 h;subst this;simp[zq]
  | succ n ih=>
   intro l h;have aa:l≠[]:=λe=>by rw[e] at h;simp at h
   rw[<-yaF aa,zcn];have:=ih l.dropLast (by simp[h]);unfold zd6;by_cases hc:l.getLast aa=47
   ·rw[yg hc];simp;simp at this;omega
   rw[ye hc];simp;simp at this;omega
 exact ab _ l rfl
theorem zpM(s:ByteArray)(w:World)(hs:s.size<=1000)(hb:∀k (h:k<s.size),s[k]=47\/49<=s[k].toNat):Calls Tryz.prog 167 #[.string s] w λe w'=>∃v vs,e=.returned v/\Rts w' w.heap.size w'.heap.size v (zn s.data.toList) vs/\Below w.heap.size w w':=by
 obtain⟨i0,hi,aC,aD,aE⟩:=info_parts Tryz.infoInt;obtain⟨j0,hj,aG,aH,aI⟩:=info_parts Tryz.infoInts;have aJ:=hid hb;clear hb;go_in;go_wp2_with fail;go_loopw[3,4,5] (λlv rv i wr=>∃(k U:Nat)(vs:List Value),k<=s.size/\i=.int .i64 k/\w.heap.size<=U/\U<=wr.heap.size/\Hid (Rts wr w.heap.size U lv (zq (s.data.toList.take k)).1 vs)/\Hid (wr.ownsRow U 3 1 rv (zq (s.data.toList.take k)).2.length (zd (zq (s.data.toList.take k)).2))/\Hid (Below w.heap.size w wr)) (λ_ _ i _=>s.size-(intOf i).toNat)
 ·refine⟨0,w.heap.size,[],yu _,rfl,yh _,by simp,Rts.nil _ _ _,?_,zj _ _⟩;have:=ya4 (base:=w.heap.size) (e:=3) (size:=1) w #[.int .i64 0] 1 (by simp) (by unfold maxLen;omega) rfl;show World.ownsRow _ _ _ _ _ _ _;simpa[zq,zd] using this
 obtain⟨k,U,vs,hk,rfl,hU,av,HL,HR,HB⟩:=hrel;have au:=zfH (s.data.toList.take k);have aN:(s.data.toList.take k).length<=k:=ybM _ _;generalize aw:zq (s.data.toList.take k)=st at*;have aK:st.1.length<=1000:=by omega
 have aL:0<st.2.length:=au.2.1;have hl3:st.2.length<=1001:=by omega
 clear au aN;obtain⟨g,an,curr,rfl,_,_,hcr⟩:=zF HR.out aL;obtain⟨al,ai,rfl,_,_⟩:=zg HL.out.own;have hvl:vs.length<=1000:=by rw[HL.out.len];exact aK
 by_cases aF:k<s.size
 ·have HT:=hid (zco s k aF);have hb:s[k].toNat<256:=s[k].toNat_lt;by_cases hc:s[k].toNat=47
  ·have aq:s[k]=47:=yaH.1 (by rw[hc];rfl);have HN:Hid (zq (s.data.toList.take (k+1))=(st.1++[st.2++[0]],[0])):=by show _=_;rw[HT.out,zcn,aw];unfold zd6;rw[yg aq]
   have e1:((s[k].toNat:Int)==47)=true:=by simp[hc]
   clear aq;go_wp2_with(at_builtin;refine yy _ rfl _ _ 40 rfl U 3 i0 (.int .i64 0) 1 8 Tryz.underlying40 hi aC aD aE rfl (by decide) _ _ _ rfl (HR.out.alloc _) ⟨wr.heap.size,0,none⟩ 1 1 [.int .i64 (0)] rfl rfl ?c1 ?c2 ?c3 ?c4 ?c5 ?_)
   case c1=>exact cell_one_new _ _ _
   case c2=>intro u hu;simp at hu;subst hu;rfl
   case c3=>unfold maxLen;omega
   case c4=>omega
   case c5=>simp;omega
   intro v1 w1 ab ae _;have aa:(wr.alloc (.cells #[.int .i64 (0)] 3)).grownBy w1 (Value.slice (some ⟨g,0,none⟩) st.2.length an).ownBlock:=ae;obtain⟨zs,ag⟩:∃zs,zs=st.2++[0]:=⟨_,rfl⟩
   have ar:0<zs.length:=by rw[ag];simp
   have ak:Hid (w1.ownsRow U 3 1 v1 zs.length (zd zs)):=by show World.ownsRow _ _ _ _ _ _ _;rw[ag];exact(zfw (w:=wr) av HR.out (yk _ _) ab aa).1
   have ah:Hid (Rts w1 w.heap.size U (.slice al vs.length ai) st.1 vs):=(HL.out.below (zj wr _) (yh _)).grown (ze HR.out (zj wr _)) (yh _) aa;have am:Hid (Below w.heap.size w w1):=(HB.out.trans ((zj wr _).mono (by omega))).grown aa (by simp;omega) (λx hx=>by have:=(HR.out.lt x hx).1;omega);have aB:U<=w1.heap.size:=by have h1:=aa.size;simp at h1;omega
   rw[<-ag] at HN;clear ab ae aa HR HL HB ag;obtain⟨g1,ac,az,rfl,_,_,_⟩:=zF ak.out ar;go_wp2_with(at_builtin;refine yy _ rfl _ _ 31 rfl w.heap.size 40 j0 (.slice none 0 0) 1 24 Tryz.underlying31 hj aG aH aI rfl (by decide) _ _ _ rfl ((ah.out.own).alloc _) ⟨w1.heap.size,0,none⟩ 1 1 [.slice (some ⟨g1,0,none⟩) zs.length ac] rfl rfl ?d1 ?d2 ?d3 ?d4 ?d5 ?_)
   case d1=>exact za0 rfl rfl
   case d2=>intro u hu;simp at hu;subst hu;rfl
   case d3=>unfold maxLen;omega
   case d4=>omega
   case d5=>simp;omega
   intro v2 w2 af aj _;have ad:(w1.alloc (.cells #[.slice (some ⟨g1,0,none⟩) zs.length ac] 40)).grownBy w2 (Value.slice al vs.length ai).ownBlock:=aj;have ay:Hid (Rts w2 w.heap.size w2.heap.size v2 (st.1++[zs]) (vs++[.slice (some ⟨g1,0,none⟩) zs.length ac])):=ah.out.push ak.out ar (by omega) (zj w1 _) ad af;have ax:Hid (Below w.heap.size w w2):=(am.out.trans ((zj w1 _).mono (by omega))).grown ad (by simp;omega) (λx hx=>(ah.out.own.lt x hx).1);have aM:w1.heap.size<=w2.heap.size:=by have h1:=ad.size;simp at h1;omega
   clear af aj ad ak ah am;go_wp2_with fail;go_roundw
   ·refine⟨k+1,w2.heap.size,vs++[.slice (some ⟨g1,0,none⟩) zs.length ac],by omega,by go_num,by omega,by simp,?_,?_,ax.out.trans ((zj w2 _).mono (by omega))⟩
    ·show Rts _ _ _ _ _ _;rw[HN.out];exact ay.out.below (zj w2 _) (yh _)
    have:=ya4 (base:=w2.heap.size) (e:=3) (size:=1) w2 #[.int .i64 0] 1 (by simp) (by unfold maxLen;omega) rfl;show World.ownsRow _ _ _ _ _ _ _;rw[HN.out];simpa[zd] using this
   simp[intOf];omega
  have aq:s[k]≠47:=λe=>hc (by rw[e];rfl);have h49:49<=s[k].toNat:=by rcases aJ.out k aF with h|h;exact absurd h aq;exact h
  have HN:Hid (zq (s.data.toList.take (k+1))=(st.1,st.2++[(s[k].toNat:Int)-48])):=by show _=_;rw[HT.out,zcn,aw];unfold zd6;rw[ye aq]
  have e1:((s[k].toNat:Int)==47)=false:=by simp;omega
  clear aq;go_wp2_with(at_builtin;refine yy _ rfl _ _ 40 rfl U 3 i0 (.int .i64 0) 1 8 Tryz.underlying40 hi aC aD aE rfl (by decide) _ _ _ rfl (HR.out.alloc _) ⟨wr.heap.size,0,none⟩ 1 1 [.int .i64 ((s[k].toNat:Int)-48)] rfl rfl ?c1 ?c2 ?c3 ?c4 ?c5 ?_)
  case c1=>exact cell_one_new _ _ _
  case c2=>intro u hu;simp at hu;subst hu;rfl
  case c3=>unfold maxLen;omega
  case c4=>omega
  case c5=>simp;omega
  intro v1 w1 ab ae _;have aa:(wr.alloc (.cells #[.int .i64 ((s[k].toNat:Int)-48)] 3)).grownBy w1 (Value.slice (some ⟨g,0,none⟩) st.2.length an).ownBlock:=ae;obtain⟨zs,ag⟩:∃zs,zs=st.2++[(s[k].toNat:Int)-48]:=⟨_,rfl⟩
  have ar:0<zs.length:=by rw[ag];simp
  have ak:Hid (w1.ownsRow U 3 1 v1 zs.length (zd zs)):=by show World.ownsRow _ _ _ _ _ _ _;rw[ag];exact(zfw (w:=wr) av HR.out (yk _ _) ab aa).1
  have ah:Hid (Rts w1 w.heap.size U (.slice al vs.length ai) st.1 vs):=(HL.out.below (zj wr _) (yh _)).grown (ze HR.out (zj wr _)) (yh _) aa;have am:Hid (Below w.heap.size w w1):=(HB.out.trans ((zj wr _).mono (by omega))).grown aa (by simp;omega) (λx hx=>by have:=(HR.out.lt x hx).1;omega);have aB:U<=w1.heap.size:=by have h1:=aa.size;simp at h1;omega
  rw[<-ag] at HN;clear ab ae aa HR HL HB ag;go_wp2;go_roundw
  ·refine⟨k+1,U,vs,by omega,by go_num,hU,aB,?_,?_,am⟩
   ·show Rts _ _ _ _ _ _;rw[HN.out];exact ah.out
   show World.ownsRow _ _ _ _ _ _ _;rw[HN.out];exact ak.out
  simp[intOf];omega
 have ao:s.data.toList.take k=s.data.toList:=zcw s k (by omega);by_cases hz:s.size=0
 ·have ap:s.data.toList=[]:=ybx.1 (by simpa using hz);have HF:Hid (zn s.data.toList=[]/\st.1=[]):=by refine⟨by unfold zn;rw[yg ap],?_⟩;rw[<-aw,ao,ap];rfl
  have HV:Hid (s.toList.isEmpty=s.data.toList.isEmpty):=zfv s;have aO:s.toList.isEmpty=true:=by rw[HV.out,ap];rfl
  go_wp2
  all_goals
   go_ret;refine⟨_,vs,rfl,?_,HB.out⟩;have:=HL.out.below (yk wr.heap.size wr) av;rw[HF.out.2] at this;rw[HF.out.1];exact this
 have aA:s.data.toList≠[]:=λe=>hz (by have:=yan List.length e;simpa using this);have HF:Hid (zn s.data.toList=st.1++[st.2++[0]]):=by show _=_;unfold zn;rw[ye aA,<-ao,aw]
 have HV:Hid (s.toList.isEmpty=s.data.toList.isEmpty):=zfv s;have aO:s.toList.isEmpty=false:=by rw[HV.out];simpa using aA
 clear ao aA;go_wp2_with(at_builtin;refine yy _ rfl _ _ 40 rfl U 3 i0 (.int .i64 0) 1 8 Tryz.underlying40 hi aC aD aE rfl (by decide) _ _ _ rfl (HR.out.alloc _) ⟨wr.heap.size,0,none⟩ 1 1 [.int .i64 (0)] rfl rfl ?c1 ?c2 ?c3 ?c4 ?c5 ?_)
 case c1=>exact cell_one_new _ _ _
 case c2=>intro u hu;simp at hu;subst hu;rfl
 case c3=>unfold maxLen;omega
 case c4=>omega
 case c5=>simp;omega
 intro v1 w1 ab ae _;have aa:(wr.alloc (.cells #[.int .i64 (0)] 3)).grownBy w1 (Value.slice (some ⟨g,0,none⟩) st.2.length an).ownBlock:=ae;obtain⟨zs,ag⟩:∃zs,zs=st.2++[0]:=⟨_,rfl⟩
 have ar:0<zs.length:=by rw[ag];simp
 have ak:Hid (w1.ownsRow U 3 1 v1 zs.length (zd zs)):=by show World.ownsRow _ _ _ _ _ _ _;rw[ag];exact(zfw (w:=wr) av HR.out (yk _ _) ab aa).1
 have ah:Hid (Rts w1 w.heap.size U (.slice al vs.length ai) st.1 vs):=(HL.out.below (zj wr _) (yh _)).grown (ze HR.out (zj wr _)) (yh _) aa;have am:Hid (Below w.heap.size w w1):=(HB.out.trans ((zj wr _).mono (by omega))).grown aa (by simp;omega) (λx hx=>by have:=(HR.out.lt x hx).1;omega);have aB:U<=w1.heap.size:=by have h1:=aa.size;simp at h1;omega
 rw[<-ag] at HF;clear ab ae aa HR HL HB ag;obtain⟨g1,ac,az,rfl,_,_,_⟩:=zF ak.out ar;go_wp2_with(at_builtin;refine yy _ rfl _ _ 31 rfl w.heap.size 40 j0 (.slice none 0 0) 1 24 Tryz.underlying31 hj aG aH aI rfl (by decide) _ _ _ rfl ((ah.out.own).alloc _) ⟨w1.heap.size,0,none⟩ 1 1 [.slice (some ⟨g1,0,none⟩) zs.length ac] rfl rfl ?d1 ?d2 ?d3 ?d4 ?d5 ?_)
 case d1=>exact za0 rfl rfl
 case d2=>intro u hu;simp at hu;subst hu;rfl
 case d3=>unfold maxLen;omega
 case d4=>omega
 case d5=>simp;omega
 intro v2 w2 af aj _;have ad:(w1.alloc (.cells #[.slice (some ⟨g1,0,none⟩) zs.length ac] 40)).grownBy w2 (Value.slice al vs.length ai).ownBlock:=aj;have ay:Hid (Rts w2 w.heap.size w2.heap.size v2 (st.1++[zs]) (vs++[.slice (some ⟨g1,0,none⟩) zs.length ac])):=ah.out.push ak.out ar (by omega) (zj w1 _) ad af;have ax:Hid (Below w.heap.size w w2):=(am.out.trans ((zj w1 _).mono (by omega))).grown ad (by simp;omega) (λx hx=>(ah.out.own.lt x hx).1);have aM:w1.heap.size<=w2.heap.size:=by have h1:=ad.size;simp at h1;omega
 clear af aj ad ak ah am;go_wp2;go_ret;refine⟨_,vs++[.slice (some ⟨g1,0,none⟩) zs.length ac],rfl,?_,ax.out⟩;rw[HF.out];exact ay.out
def RtR(w:World)(v:Value)(L:List (List Int)):Prop:=∃ao c,v=.slice ao L.length c/\L.length<=1000/\∀i (h:i<L.length),∃g gi ci,ao=some ⟨g,0,none⟩/\g<w.heap.size/\w.cell? ⟨g,i,none⟩=some (.slice (some ⟨gi,0,none⟩) L[i].length ci)/\gi<w.heap.size/\∀j (hj:j<L[i].length),w.cell? ⟨gi,j,none⟩=some (.int .i64 L[i][j])
theorem Rts.read{w:World}{B U:Nat}{v:Value}{L:List (List Int)}{vs:List Value}(h:Rts w B U v L vs)(hl:L.length<=1000):RtR w v L:=by obtain⟨ao,c,hv,_,_⟩:=zg h.own;rw[h.len] at hv;refine⟨ao,c,hv,hl,λi hi=>?_⟩;obtain⟨g,c',gi,ci,e,h1,h2,h3,h4⟩:=h.at hi;rw[hv] at e;cases e;exact⟨g,gi,ci,rfl,h1,h2,h3,h4⟩
theorem RtR.below{w w':World}{v:Value}{L:List (List Int)}(h:RtR w v L)(hb:Below w.heap.size w w'):RtR w' v L:=by obtain⟨ao,c,h1,h2,h3⟩:=h;refine⟨ao,c,h1,h2,λi hi=>?_⟩;obtain⟨g,gi,ci,k1,k2,k3,k4,k5⟩:=h3 i hi;exact⟨g,gi,ci,k1,ya k2 hb.size,zc hb k3 k2,ya k4 hb.size,λj hj=>zc hb (k5 j hj) k4⟩
def z8(D:Nat->Nat->Int)(l:List Int)(k:Nat):Int:=D (l.getD k 0).toNat (l.getD (k+1) 0).toNat
def zT(D:Nat->Nat->Int)(l:List Int):Bool:=(List.range (l.length-1)).all λk=>decide (z8 D l k≠-1)
theorem zfT(p n:Nat)(D:Nat->Nat->Int)(L:List (List Int))(vf v:Value)(w:World)(hp:p<w.heap.size)(hf:w.cell? ⟨p,7,none⟩=some vf)(hq:SqR w vf n D)(hr:RtR w v L)(hx:∀l∈L,l.length<=1000/\∀x∈l,0<=x/\x<n):Calls Tryz.prog 169 #[.pointer (some ⟨p,0,none⟩),v] w λe w'=>e=.returned (.bool (L.all (zT D)))/\Below w.heap.size w w':=by
 obtain⟨af,cf,rfl,hn,ar⟩:=hq;obtain⟨ao,co,rfl,hL,aq⟩:=hr;have aw:=hid ar;have av:=hid aq;have HX:=hid hx;clear ar aq hx;go_in;go_wp2_with fail;go_loopw[5] (λi wr=>∃a:Nat,a<=L.length/\i=.int .i64 a/\Hid ((L.take a).all (zT D)=true)/\Hid (Below w.heap.size w wr)) (λi _=>L.length-(intOf i).toNat)
 ·exact⟨0,yu _,rfl,rfl,yk _ _⟩
 obtain⟨a,ha,rfl,HA,HB⟩:=hrel;by_cases an:a<L.length
 ·obtain⟨g,gi,ci,rfl,hg,hc,ag,ae⟩:=av.out a an;obtain⟨l,hl⟩:∃l,l=L[a]:=⟨_,rfl⟩
  have aa:l∈L:=by rw[hl];exact ym _
  have hll:=(HX.out l aa).1;have ai:Hid (∀x∈l,0<=x/\x<n):=(HX.out l aa).2;have ab:Hid (∀j (hj:j<l.length),w.cell? ⟨gi,j,none⟩=some (.int .i64 l[j])):=by intro j hj;subst hl;exact ae j hj
  rw[<-hl] at hc;have HC:=hid hc;have hc:=zc HB.out HC.out hg;have am:=ya hg HB.out.size;have HT:Hid ((L.take (a+1)).all (zT D)=zT D l):=by show _=_;rw[yr an,yX,HA.out,<-hl];simp
  have au:Hid (zT D l=false->L.all (zT D)=false):=λh=>yai.2 ⟨l,aa,by rw[h];simp⟩;clear ae hl aa;go_wp2_with fail;go_loopw[6] (λk wr=>∃q:Nat,q<=l.length-1/\k=.int .i64 (q+1:Nat)/\Hid (∀j,j<q->z8 D l j≠-1)/\Hid (Below w.heap.size w wr)) (λk _=>l.length-(intOf k).toNat)
  ·exact⟨0,yu _,rfl,λj hj=>absurd hj (by omega),HB⟩
  clear HB hc am;obtain⟨q,hq,rfl,HQ,HB⟩:=hrel;have hc:=zc HB.out HC.out hg;have am:=ya hg HB.out.size;have hiw:=ya ag HB.out.size;have hpw:=ya hp HB.out.size;by_cases ap:q+1<l.length
  ·obtain⟨x,hx⟩:∃x,x=l[q]:=⟨_,rfl⟩
   obtain⟨y,hy⟩:∃y,y=l[q+1]:=⟨_,rfl⟩
   have hx1:=ai.out x (by rw[hx];exact ym _);have hy1:=ai.out y (by rw[hy];exact ym _);have x0:wr.cell? ⟨gi,q,none⟩=_:=(HB.out.cell (by exact ag)).trans (ab.out q (by omega));have y0:wr.cell? ⟨gi,q+1,none⟩=_:=(HB.out.cell (by exact ag)).trans (ab.out (q+1) ap);rw[<-hx] at x0;rw[<-hy] at y0;obtain⟨xn,rfl⟩:∃xn:Nat,x=xn:=⟨x.toNat,by omega⟩
   obtain⟨yn,rfl⟩:∃yn:Nat,y=yn:=⟨y.toNat,by omega⟩
   obtain⟨fg,ac,aj,rfl,ak,ay,ad,al⟩:=aw.out xn (by omega);have hd:wr.cell? ⟨ac,yn,none⟩=_:=(HB.out.cell (by exact ad)).trans (al yn (by omega));have hfw:=zc HB.out ay ak;have hp7:=zc HB.out hf hp;have hgf:=ya ak HB.out.size;have hgif:=ya ad HB.out.size;have ia:(0:Int)<=(a:Int):=by omega
   have ja:(a:Int)<(L.length:Int):=by omega
   have iq:(0:Int)<=(q:Int):=by omega
   have jq:(q:Int)<(l.length:Int):=by omega
   have iq1:(0:Int)<=(q:Int)+1:=by omega
   have jq1:(q:Int)+1<(l.length:Int):=by omega
   have ix:(0:Int)<=(xn:Int):=by omega
   have jx:(xn:Int)<(n:Int):=by omega
   have iy:(0:Int)<=(yn:Int):=by omega
   have jy:(yn:Int)<(n:Int):=by omega
   have hww:IntKind.i64.wrap ((q:Int)+1-1)=q:=by rw[show (q:Int)+1-1=q by omega];exact zm _ (by omega)
   have hww2:IntKind.i64.wrap (q:Int)=q:=zm _ (by omega);have htn:((q:Int)+1).toNat=q+1:=by omega
   have HD:Hid (z8 D l q=D xn yn):=by show _=_;unfold z8;rw[yj,yj,yl (by omega),yl ap,yK,yK,<-hx,<-hy];simp
   generalize ax:D xn yn=d at*;clear al hx hy ax;by_cases ah:d=-1
   ·subst ah;have HF:Hid (L.all (zT D)=false):=au.out (yai.2 ⟨q,by simp;omega,by rw[HD.out];simp⟩);go_wp2_with fail;go_region_held3 (λw'=>w'.cell? ⟨p,7,none⟩=some (.slice (some ⟨fg,0,none⟩) n cf)/\w'.cell? ⟨g,a,none⟩=some (.slice (some ⟨gi,0,none⟩) l.length ci)/\w'.cell? ⟨gi,q,none⟩=some (.int .i64 xn)/\w'.cell? ⟨gi,q+1,none⟩=some (.int .i64 yn)/\w'.cell? ⟨fg,xn,none⟩=some (.slice (some ⟨ac,0,none⟩) n aj)/\w'.cell? ⟨ac,yn,none⟩=some (.int .i64 (-1))) (go_keep) (fail);go_wp2;go_ret;exact⟨zh HF.out.symm,by first|exact HB.out|exact HB.out.drew⟩
   have e1:(d==(-1:Int))=false:=by simpa using ah
   go_wp2_with fail;go_region_held3 (λw'=>w'.cell? ⟨p,7,none⟩=some (.slice (some ⟨fg,0,none⟩) n cf)/\w'.cell? ⟨g,a,none⟩=some (.slice (some ⟨gi,0,none⟩) l.length ci)/\w'.cell? ⟨gi,q,none⟩=some (.int .i64 xn)/\w'.cell? ⟨gi,q+1,none⟩=some (.int .i64 yn)/\w'.cell? ⟨fg,xn,none⟩=some (.slice (some ⟨ac,0,none⟩) n aj)/\w'.cell? ⟨ac,yn,none⟩=some (.int .i64 d)) (go_keep) (fail);go_wp2;go_roundw
   ·exact⟨q+1,by omega,by go_num,λj hj=>by
    by_cases h:j=q
    ·subst h;rw[HD.out];exact ah
    exact HQ.out j (by omega),by first|exact HB.out|exact HB.out.drew⟩
   simp[intOf];omega
  have HF:Hid (zT D l=true):=yF.2 λk hk=>by
   have:k<l.length-1:=by simpa using hk
   simpa using HQ.out k (by omega)
  go_wp2;go_roundw
  ·exact⟨a+1,by omega,by go_num,by show _=true;rw[HT.out];exact HF.out,HB⟩
  simp[intOf];omega
 have HF:Hid (L.all (zT D)=true):=by have:=HA.out;rw[yD (by omega)] at this;exact this
 go_wp2;go_ret;exact⟨zh HF.out.symm,by first|exact HB.out|exact HB.out.drew⟩
def zbG(D:Nat->Nat->Int)(l:List Int)(q:Nat):Int:=((List.range q).map (z8 D l)).sum
def zb0(D:Nat->Nat->Int)(L:List (List Int)):Int:=(L.map λl=>zbG D l (l.length-1)).sum
theorem zcH(D:Nat->Nat->Int)(l:List Int)(q:Nat):zbG D l (q+1)=zbG D l q+z8 D l q:=by simp[zbG,List.range_succ]
theorem zgC(D:Nat->Nat->Int)(L:List (List Int))(l:List Int):zb0 D (L++[l])=zb0 D L+zbG D l (l.length-1):=by simp[zb0]
theorem zoY(p n:Nat)(D:Nat->Nat->Int)(L:List (List Int))(vf v:Value)(w:World)(hp:p<w.heap.size)(hf:w.cell? ⟨p,7,none⟩=some vf)(hq:SqR w vf n D)(hD:∀a b,a<n->b<n->-1<=D a b/\D a b<=40960000)(hr:RtR w v L)(hx:∀l∈L,l.length<=1000/\∀x∈l,0<=x/\x<n):Calls Tryz.prog 171 #[.pointer (some ⟨p,0,none⟩),v] w λe w'=>e=.returned (.int .i64 (zb0 D L))/\Below w.heap.size w w':=by
 obtain⟨af,cf,rfl,hn,aq⟩:=hq;obtain⟨ao,co,rfl,hL,ap⟩:=hr;have av:=hid aq;have au:=hid ap;have HX:=hid hx;have ar:=hid hD;clear aq ap hx hD;go_in;go_wp2_with fail;go_loopw[5,6] (λsm i wr=>∃(a:Nat)(S:Int),a<=L.length/\i=.int .i64 a/\sm=.int .i64 S/\(-(a:Int)*40960000000<=S/\S<=(a:Int)*40960000000)/\Hid (S=zb0 D (L.take a))/\Hid (Below w.heap.size w wr)) (λ_ i _=>L.length-(intOf i).toNat)
 ·exact⟨0,0,yu _,rfl,rfl,by omega,rfl,yk _ _⟩
 obtain⟨a,S,ha,rfl,rfl,hS,HA,HB⟩:=hrel;by_cases am:a<L.length
 ·obtain⟨g,gi,ci,rfl,hg,hc,ah,ae⟩:=au.out a am;obtain⟨l,hl⟩:∃l,l=L[a]:=⟨_,rfl⟩
  have aa:l∈L:=by rw[hl];exact ym _
  have hll:=(HX.out l aa).1;have ai:Hid (∀x∈l,0<=x/\x<n):=(HX.out l aa).2;have ab:Hid (∀j (hj:j<l.length),w.cell? ⟨gi,j,none⟩=some (.int .i64 l[j])):=by intro j hj;subst hl;exact ae j hj
  rw[<-hl] at hc;have HC:=hid hc;have hc:=zc HB.out HC.out hg;have al:=ya hg HB.out.size;have HT:Hid (zb0 D (L.take (a+1))=S+zbG D l (l.length-1)):=by show _=_;rw[yr am,zgC,<-HA.out,<-hl]
  clear ae hl aa;go_wp2_with fail;go_loopw[5,7] (λsm k wr=>∃(q:Nat)(T:Int),q<=l.length-1/\k=.int .i64 (q+1:Nat)/\sm=.int .i64 (S+T)/\(-(q:Int)*40960000<=T/\T<=(q:Int)*40960000)/\Hid (T=zbG D l q)/\Hid (Below w.heap.size w wr)) (λ_ k _=>l.length-(intOf k).toNat)
  ·exact⟨0,0,yu _,rfl,by go_num,by omega,rfl,HB⟩
  clear HB hc al;obtain⟨q,T,hq,rfl,rfl,hT,HQ,HB⟩:=hrel;have hc:=zc HB.out HC.out hg;have al:=ya hg HB.out.size;have hiw:=ya ah HB.out.size;have hpw:=ya hp HB.out.size;by_cases an:q+1<l.length
  ·obtain⟨x,hx⟩:∃x,x=l[q]:=⟨_,rfl⟩
   obtain⟨y,hy⟩:∃y,y=l[q+1]:=⟨_,rfl⟩
   have hx1:=ai.out x (by rw[hx];exact ym _);have hy1:=ai.out y (by rw[hy];exact ym _);have x0:wr.cell? ⟨gi,q,none⟩=_:=(HB.out.cell (by exact ah)).trans (ab.out q (by omega));have y0:wr.cell? ⟨gi,q+1,none⟩=_:=(HB.out.cell (by exact ah)).trans (ab.out (q+1) an);rw[<-hx] at x0;rw[<-hy] at y0;obtain⟨xn,rfl⟩:∃xn:Nat,x=xn:=⟨x.toNat,by omega⟩
   obtain⟨yn,rfl⟩:∃yn:Nat,y=yn:=⟨y.toNat,by omega⟩
   obtain⟨fg,ag,aw,rfl,aj,ay,ac,ak⟩:=av.out xn (by omega);have hd:wr.cell? ⟨ag,yn,none⟩=_:=(HB.out.cell (by exact ac)).trans (ak yn (by omega));have hfw:=zc HB.out ay aj;have hp7:=zc HB.out hf hp;have hgf:=ya aj HB.out.size;have hgif:=ya ac HB.out.size;have ia:(0:Int)<=(a:Int):=by omega
   have ja:(a:Int)<(L.length:Int):=by omega
   have iq:(0:Int)<=(q:Int):=by omega
   have jq:(q:Int)<(l.length:Int):=by omega
   have iq1:(0:Int)<=(q:Int)+1:=by omega
   have jq1:(q:Int)+1<(l.length:Int):=by omega
   have ix:(0:Int)<=(xn:Int):=by omega
   have jx:(xn:Int)<(n:Int):=by omega
   have iy:(0:Int)<=(yn:Int):=by omega
   have jy:(yn:Int)<(n:Int):=by omega
   have hww:IntKind.i64.wrap ((q:Int)+1-1)=q:=by rw[show (q:Int)+1-1=q by omega];exact zm _ (by omega)
   have hww2:IntKind.i64.wrap (q:Int)=q:=zm _ (by omega);have htn:((q:Int)+1).toNat=q+1:=by omega
   have HD:Hid (z8 D l q=D xn yn):=by show _=_;unfold z8;rw[yj,yj,yl (by omega),yl an,yK,yK,<-hx,<-hy];simp
   have hdb:=ar.out xn yn (by omega) (by omega);generalize ax:D xn yn=d at*;have hws:IntKind.i64.wrap (S+T+d)=S+T+d:=zm _ (by omega);clear ak hx hy ax;go_wp2_with fail;go_region_held3 (λw'=>w'.cell? ⟨p,7,none⟩=some (.slice (some ⟨fg,0,none⟩) n cf)/\w'.cell? ⟨g,a,none⟩=some (.slice (some ⟨gi,0,none⟩) l.length ci)/\w'.cell? ⟨gi,q,none⟩=some (.int .i64 xn)/\w'.cell? ⟨gi,q+1,none⟩=some (.int .i64 yn)/\w'.cell? ⟨fg,xn,none⟩=some (.slice (some ⟨ag,0,none⟩) n aw)/\w'.cell? ⟨ag,yn,none⟩=some (.int .i64 d)) (go_keep) (fail);go_wp2;go_roundw
   ·exact⟨q+1,T+d,by omega,by go_num,by rw[<-Int.add_assoc],by omega,by show _=_;rw[zcH,HD.out,HQ.out],by first|exact HB.out|exact HB.out.drew⟩
   simp[intOf];omega
  have ad:q=l.length-1:=by omega
  have HF:Hid (S+T=zb0 D (L.take (a+1))):=by show _=_;rw[HT.out,HQ.out,ad]
  clear ad;go_wp2;go_roundw
  ·exact⟨a+1,S+T,by omega,by go_num,rfl,by omega,HF,HB⟩
  simp[intOf];omega
 have HF:Hid (S=zb0 D L):=by have:=HA.out;rw[yD (by omega)] at this;exact this
 go_wp2;go_ret;exact⟨zK HF.out,by first|exact HB.out|exact HB.out.drew⟩
def StR(w:World)(v:Value)(r:Rd):Prop:=∃ao c,v=.slice ao r.stops.length c/\∀i (h:i<r.stops.length),∃g,ao=some ⟨g,0,none⟩/\g<w.heap.size/\∀j z,j<5->r.stops[i][j]?=some z->w.cell? ⟨g,i*5+j,none⟩=some (.int .i64 z)
def zp(r:Rd)(x j:Nat):Int:=(r.stops.getD (x-1) []).getD j 0
def z7(r:Rd)(l:List Int):Int:=(l.map λx=>if x=0 then 0 else zp r x.toNat 1).sum
def zH(r:Rd)(l:List Int):Bool:=decide (z7 r l<=r.load)
theorem zeZ(r:Rd)(l:List Int)(x:Int):z7 r (l++[x])=z7 r l+(if x=0 then 0 else zp r x.toNat 1):=by simp[z7]
theorem ziu(p:Nat)(r:Rd)(L:List (List Int))(vs v:Value)(w:World)(hp:p<w.heap.size)(ae:zE r)(h1:w.cell? ⟨p,1,none⟩=some (.int .i64 r.load))(h5:w.cell? ⟨p,5,none⟩=some vs)(hs:StR w vs r)(hr:RtR w v L)(hx:∀l∈L,l.length<=1000/\∀x∈l,0<=x/\x<r.stops.length+1):Calls Tryz.prog 168 #[.pointer (some ⟨p,0,none⟩),v] w λe w'=>e=.returned (.bool (L.all (zH r)))/\Below w.heap.size w w':=by
 obtain⟨ast,cs,rfl,aq⟩:=hs;obtain⟨ao,co,rfl,hL,al⟩:=hr;have hn:=ae.nstops;have ay:=hid aq;have ax:=hid al;have HX:=hid hx;have aw:=hid ae;clear aq al hx ae;go_in;go_wp2_with fail;go_loopw[5] (λi wr=>∃a:Nat,a<=L.length/\i=.int .i64 a/\Hid ((L.take a).all (zH r)=true)/\Hid (Below w.heap.size w wr)) (λi _=>L.length-(intOf i).toNat)
 ·exact⟨0,yu _,rfl,rfl,yk _ _⟩
 obtain⟨a,ha,rfl,HA,HB⟩:=hrel;by_cases aj:a<L.length
 ·obtain⟨g,gi,ci,rfl,hg,hc,ag,ab⟩:=ax.out a aj;obtain⟨l,hl⟩:∃l,l=L[a]:=⟨_,rfl⟩
  have aa:l∈L:=by rw[hl];exact ym _
  have hll:=(HX.out l aa).1;have ar:Hid (∀x∈l,0<=x/\x<r.stops.length+1):=(HX.out l aa).2;have ac:Hid (∀j (hj:j<l.length),w.cell? ⟨gi,j,none⟩=some (.int .i64 l[j])):=by intro j hj;subst hl;exact ab j hj
  rw[<-hl] at hc;have HC:=hid hc;have hc:=zc HB.out HC.out hg;have ai:=ya hg HB.out.size;have HT:Hid ((L.take (a+1)).all (zH r)=zH r l):=by show _=_;rw[yr aj,yX,HA.out,<-hl];simp
  have av:Hid (zH r l=false->L.all (zH r)=false):=λh=>yai.2 ⟨l,aa,by rw[h];simp⟩;clear ab hl aa;go_wp2_with fail;go_loopw[6,7] (λsm k wr=>∃(q:Nat)(T:Int),q<=l.length/\k=.int .i64 q/\sm=.int .i64 T/\(0<=T/\T<=(q:Int)*10000)/\Hid (T=z7 r (l.take q))/\Hid (Below w.heap.size w wr)) (λ_ k _=>l.length-(intOf k).toNat)
  ·exact⟨0,0,yu _,rfl,rfl,by omega,rfl,HB⟩
  clear HB hc ai;obtain⟨q,T,hq,rfl,rfl,hT,HQ,HB⟩:=hrel;have hc:=zc HB.out HC.out hg;have ai:=ya hg HB.out.size;have hiw:=ya ag HB.out.size;have hpw:=ya hp HB.out.size;have hp1:=zc HB.out h1 hp;by_cases ak:q<l.length
  ·obtain⟨x,hx⟩:∃x,x=l[q]:=⟨_,rfl⟩
   have hx1:=ar.out x (by rw[hx];exact ym _);have x0:=zc HB.out (ac.out q ak) ag;rw[<-hx] at x0;have HN:Hid (z7 r (l.take (q+1))=T+(if x=0 then 0 else zp r x.toNat 1)):=by show _=_;rw[yr ak,zeZ,<-HQ.out,<-hx]
   obtain⟨xn,rfl⟩:∃xn:Nat,x=xn:=⟨x.toNat,by omega⟩
   clear hx;by_cases hz:xn=0
   ·subst hz;go_wp2_with go_in;go_roundw
    ·exact⟨q+1,T,by omega,by go_num,rfl,by omega,by show _=_;rw[HN.out];simp,by first|exact HB.out|exact HB.out.drew⟩
    simp[intOf];omega
   obtain⟨m,rfl⟩:∃m,xn=m+1:=⟨xn-1,by omega⟩
   obtain⟨sg,rfl,an,am⟩:=ay.out m (by omega);obtain⟨b0,b1,b2,b3,b4,ad,ap⟩:=aw.out.stops _ (ym (show m<r.stops.length by omega));have hw1:wr.cell? ⟨sg,m*5+1,none⟩=some (.int .i64 b1):=(HB.out.cell (by exact an)).trans (am 1 b1 (by omega) (by rw[ad];rfl));have hp5:=zc HB.out h5 hp;have hsw:=ya an HB.out.size;have hV:zp r (m+1) 1=b1:=by
    have az:r.stops.getD m []=[b0,b1,b2,b3,b4]:=by rw[yj,yl (show m<r.stops.length by omega),yK,ad]
    unfold zp;rw[yab,az];rfl
   have hbb:0<=b1/\b1<=10000:=by simp only[zas,yA,za7,yq] at ap;omega
   have au:Hid (z7 r (l.take (q+1))=T+b1):=by show _=_;rw[HN.out,ye (by omega),show ((m+1:Nat):Int).toNat=m+1 by omega,hV]
   clear am ad ap hV HN hz;go_wp2_with go_in;go_roundw
   ·exact⟨q+1,T+b1,by omega,by go_num,rfl,by omega,au.out.symm,by first|exact HB.out|exact HB.out.drew⟩
   simp[intOf];omega
  have af:Hid (T=z7 r l):=by have:=HQ.out;rw[yD (by omega)] at this;exact this
  by_cases ah:r.load<T
  ·have HF:Hid (L.all (zH r)=false):=av.out (by unfold zH;rw[<-af.out];simpa using ah);go_wp2_with go_in;go_ret;exact⟨zh HF.out.symm,by first|exact HB.out|exact HB.out.drew⟩
  have HF:Hid (zH r l=true):=by show _=_;unfold zH;rw[<-af.out];simpa using ah
  go_wp2_with go_in;go_roundw
  ·exact⟨a+1,by omega,by go_num,by show _=true;rw[HT.out];exact HF.out,by first|exact HB.out|exact HB.out.drew⟩
  simp[intOf];omega
 have HF:Hid (L.all (zH r)=true):=by have:=HA.out;rw[yD (by omega)] at this;exact this
 go_wp2;go_ret;exact⟨zh HF.out.symm,HB.out⟩
end Go.Proofs.YtebinaopncclgabGreatDoor
