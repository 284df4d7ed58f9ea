import Derived.Test.YtebinaopncclgabGreatDoorQJudge
set_option maxRecDepth 100000
set_option maxHeartbeats 8000000
namespace Go.Proofs.YtebinaopncclgabGreatDoor
open Go.RowKit Go.IntWalk
theorem znr(n:Nat)(s:ByteArray)(w:World)(_hn:n<=7)(hs:s.size<=2000000):Calls Tryz.prog 106 #[.string s,.int .i64 n] w λe w'=>e=.returned (.bool (zcU n s.data.toList))/\Below w.heap.size w w':=by
 have HC:=hid (zeA 47 s w hs);have HV:Hid (s.toList.isEmpty=s.data.toList.isEmpty):=zfv s;have ah:=zgf 47 s.data.toList;have hl1:1<=(zD 47 s.data.toList).length:=by unfold zD;simp
 have aj:=hid (zft 47 s.data.toList);have ap:s.data.toList.length=s.size:=by simp
 cases hem:s.data.toList.isEmpty
 ·have HF:Hid (zcU n s.data.toList=(zD 47 s.data.toList).all (okP n)):=by show _=_;unfold zcU;rw[hem];rfl
  have hv:s.toList.isEmpty=false:=by rw[HV.out,hem]
  generalize zcU n s.data.toList=ans at*;generalize zD 47 s.data.toList=ls at*;have hl2:ls.length<=2000001:=by omega
  have an:Hid (∀f∈ls,f.length<=2000000):=λf hf=>by have:=aj.out f hf;omega
  clear ah ap aj hem HV;go_in;go_wp2_with fail;refine HC.out.mono ?_;rintro e1 w1⟨v1,rfl,ab,al⟩;obtain⟨g,cap,cur,rfl,_,hg,hcap⟩:=zF ab (by omega);have ad:g<w1.heap.size:=(yc.1 hg).1;have HO:=hid ab;have aa:=hid al;clear HC ab hg al;go_wp2_with fail;go_loopw[6] (λi wr=>∃k:Nat,k<=ls.length/\i=.int .i64 k/\Hid ((ls.take k).all (okP n)=true)/\Hid (Below w1.heap.size w1 wr)) (λi _=>ls.length-(intOf i).toNat)
  ·exact⟨0,yu _,rfl,rfl,yk _ _⟩
  obtain⟨k,hk,rfl,HA,HB⟩:=hrel;by_cases ae:k<ls.length
  ·obtain⟨p,hp⟩:∃p:ByteArray,p=⟨(ls[k]).toArray⟩:=⟨_,rfl⟩
   have ai:Hid (w1.cell? ⟨g,k,none⟩=some (.string p)):=by show _=_;rw[HO.out.cellAt k (by omega),hp];simp[zbE,ae]
   have ac:wr.cell? ⟨g,k,none⟩=some (.string p):=zc HB.out ai.out ad;have am:=ya ad HB.out.size;have af:p.data.toList=ls[k]:=by rw[hp]
   have hps:p.size<=2000000:=by
    have h1:=an.out _ (ym ae);have h2:p.size=p.data.toList.length:=by simp
    rw[h2,af];exact h1
   have HT:Hid ((ls.take (k+1)).all (okP n)=okP n p.data.toList):=by show _=_;rw[yr ae,yX,HA.out,af];simp
   have ag:Hid (okP n p.data.toList=false->ans=false):=λh=>by rw[HF.out];exact yai.2 ⟨ls[k],ym ae,by rw[<-af,h];simp⟩
   have ak:Hid (p.toList.isEmpty=p.data.toList.isEmpty):=zfv p;clear hp af;cases hpe:p.data.toList.isEmpty
   ·have ar:p.toList.isEmpty=false:=by rw[ak.out,hpe]
    have ao:=hid hpe;clear hpe;go_wp2_with go_in;go_loopw[7] (λj wr=>∃q:Nat,q<=p.size/\j=.int .i64 q/\Hid (∀t (h:t<p.size),t<q->okC n p[t]=true)/\Hid (Below w1.heap.size w1 wr)) (λj _=>p.size-(intOf j).toNat)
    ·exact⟨0,yu _,rfl,λt h h'=>absurd h' (by omega),by first|exact HB.out|exact HB.out.drew⟩
    clear HB ac am;obtain⟨q,hq,rfl,HQ,HB⟩:=hrel;have ac:wr.cell? ⟨g,k,none⟩=some (.string p):=zc HB.out ai.out ad;have am:=ya ad HB.out.size;by_cases hql:q<p.size
    ·have hb:p[q].toNat<256:=p[q].toNat_lt;by_cases h49:p[q].toNat<49
     ·have HX:Hid (ans=false):=ag.out (by unfold okP;have:p.data.toList.all (okC n)=false:=yai.2 ⟨p[q],by show _∈_;simp[ByteArray.getElem_eq_getElem_data],by unfold okC;simp;omega⟩;rw[this];simp);go_wp2_with go_in
      all_goals
       go_ret;exact⟨zh HX.out.symm,by first|exact aa.out.trans (HB.out.mono aa.out.size)|exact aa.out.trans (HB.out.drew.mono aa.out.size)⟩
     by_cases hbig:n<p[q].toNat-48
     ·have HX:Hid (ans=false):=ag.out (by unfold okP;have:p.data.toList.all (okC n)=false:=yai.2 ⟨p[q],by show _∈_;simp[ByteArray.getElem_eq_getElem_data],by unfold okC;simp;omega⟩;rw[this];simp);go_wp2_with go_in
      all_goals
       go_ret;exact⟨zh HX.out.symm,by first|exact aa.out.trans (HB.out.mono aa.out.size)|exact aa.out.trans (HB.out.drew.mono aa.out.size)⟩
     have HX:Hid (okC n p[q]=true):=by show _=_;unfold okC;simp;omega
     go_wp2_with go_in;go_roundw
     ·exact⟨q+1,by omega,by go_num,λt h h'=>(by
      by_cases ht:t=q
      ·subst ht;exact HX.out
      exact HQ.out t h (by omega)),by first|exact HB.out|exact HB.out.drew⟩
     simp[intOf];omega
    have HX:Hid (okP n p.data.toList=true):=by
     show _=_;unfold okP;rw[ao.out];simp only[Bool.not_false,yaY];refine yF.2 λc hc=>?_;obtain⟨t,ht,rfl⟩:=yaA.1 hc;have aq:t<p.size:=by simpa using ht
     exact HQ.out t aq (by omega)
    go_wp2_with go_in;go_roundw
    ·exact⟨k+1,by omega,by go_num,by show _=_;rw[HT.out];exact HX.out,by first|exact HB.out|exact HB.out.drew⟩
    simp[intOf];omega
   have ar:p.toList.isEmpty=true:=by rw[ak.out,hpe]
   have HX:Hid (ans=false):=ag.out (by unfold okP;rw[hpe];rfl);clear hpe;go_wp2_with go_in
   all_goals
    go_ret;exact⟨zh HX.out.symm,by first|exact aa.out.trans (HB.out.mono aa.out.size)|exact aa.out.trans (HB.out.drew.mono aa.out.size)⟩
  have HX:Hid (ans=true):=by show _=_;rw[HF.out];have:=HA.out;rw[yD (by omega)] at this;exact this
  go_wp2;go_ret;exact⟨zh HX.out.symm,aa.out.trans (HB.out.mono aa.out.size)⟩
 have HF:Hid (zcU n s.data.toList=true):=by show _=_;unfold zcU;rw[hem];rfl
 have hv:s.toList.isEmpty=true:=by rw[HV.out,hem]
 clear hem;go_in;go_wp2
 all_goals
  go_ret;exact⟨zh HF.out.symm,yk _ _⟩
theorem zqt(d:Nat)(s:ByteArray)(w:World)(hd:d<=10)(hs:s.size<=2000000):Calls Tryz.prog 172 #[.string s,.int .i64 d] w λe w'=>e=.returned (.int .i64 (zao s.data.toList d))/\w'=w:=by
 go_in;go_wp2_with fail;go_loop[5,6] (λc i=>∃k m:Nat,i=.int .i64 k/\c=.int .i64 m/\k<=s.size/\m<=k/\Hid (zao (s.data.toList.take k) d=m)) (λ_ i=>s.size-(intOf i).toNat)
 ·exact⟨0,0,rfl,rfl,by omega,by omega,rfl⟩
 obtain⟨k,m,rfl,rfl,hk,hmk,HG⟩:=hrel;by_cases aa:k<s.size
 ·have HT:=zco s k aa;have hb:s[k].toNat<256:=s[k].toNat_lt;by_cases hc:s[k].toNat=48+d
  ·have HX:Hid (zao (s.data.toList.take (k+1)) d=m+1):=by show _=_;rw[HT,zc8,HG.out,yg hc]
   have e1:((s[k].toNat:Int)==48+(d:Int))=true:=by simp[hc]
   clear HT hc;go_wp2;go_round
   ·exact⟨k+1,m+1,by go_num,by go_num,by omega,by omega,HX⟩
   simp[intOf];omega
  have HX:Hid (zao (s.data.toList.take (k+1)) d=m):=by show _=_;rw[HT,zc8,HG.out,ye hc];rfl
  have e1:((s[k].toNat:Int)==48+(d:Int))=false:=by simp;omega
  clear HT hc;go_wp2;go_round
  ·exact⟨k+1,m,by go_num,rfl,by omega,by omega,HX⟩
  simp[intOf];omega
 have HX:Hid (zao s.data.toList d=m):=by have:=HG.out;rw[zcw s k (by omega)] at this;exact this
 go_wp2;go_ret;exact⟨zK (by rw[HX.out]),rfl⟩
theorem zq3(s:ByteArray)(w:World)(hs:s.size<=1000):Calls Tryz.prog 174 #[.string s] w λe w'=>∃v,e=.returned v/\w'.ownsRow w.heap.size 3 1 v (zbK s.data.toList).length (zd (zbK s.data.toList))/\Below w.heap.size w w':=by
 obtain⟨i0,hi,ai,aj,ak⟩:=info_parts Tryz.infoInt;go_in;go_wp2_with fail;go_loopw[3,4] (λrv i wr=>∃(k:Nat)(zs:List Int),k<=s.size/\i=.int .i64 k/\0<zs.length/\zs.length<=k+1/\Hid (zs=0::zgc (s.data.toList.take k))/\Hid (wr.ownsRow w.heap.size 3 1 rv zs.length (zd zs))/\Hid (Below w.heap.size w wr)) (λ_ i _=>s.size-(intOf i).toNat)
 ·refine⟨0,[0],yu _,rfl,by simp,by simp,rfl,?_,zj _ _⟩;have:=ya4 (base:=w.heap.size) (e:=3) (size:=1) w #[.int .i64 0] 1 (by simp) (by unfold maxLen;omega) rfl;show World.ownsRow _ _ _ _ _ _ _;simpa[zd] using this
 obtain⟨k,zs,hk,rfl,al,hl1,HZ,HR,HB⟩:=hrel;have ah:=HB.out.size;obtain⟨g,ad,curr,rfl,_,_,hcr⟩:=zF HR.out al;by_cases am:k<s.size
 ·have HT:=hid (zco s k am);have hb:s[k].toNat<256:=s[k].toNat_lt;have HN:Hid (zs++[(s[k].toNat:Int)-48]=0::zgc (s.data.toList.take (k+1))):=by show _=_;rw[HT.out,HZ.out];simp[zgc]
  go_wp2_with(at_builtin;refine yy _ rfl _ _ 40 rfl w.heap.size 3 i0 (.int .i64 0) 1 8 Tryz.underlying40 hi ai aj ak rfl (by decide) _ _ _ rfl (HR.out.alloc _) ⟨wr.heap.size,0,none⟩ 1 1 [.int .i64 ((s[k].toNat:Int)-48)] rfl rfl ?c1 ?c2 ?c3 ?c4 ?c5 ?_)
  case c1=>exact cell_one_new _ _ _
  case c2=>intro u hu;simp at hu;subst hu;rfl
  case c3=>unfold maxLen;omega
  case c4=>omega
  case c5=>simp;omega
  intro v1 w1 aa ac _;have ab:(wr.alloc (.cells #[.int .i64 ((s[k].toNat:Int)-48)] 3)).grownBy w1 (Value.slice (some ⟨g,0,none⟩) zs.length ad).ownBlock:=ac;have R:=zfw (w:=w) ah HR.out HB.out aa ab;obtain⟨ys,ae⟩:∃ys,ys=zs++[(s[k].toNat:Int)-48]:=⟨_,rfl⟩
  have ap:ys.length=zs.length+1:=by rw[ae];simp
  have ag:Hid (w1.ownsRow w.heap.size 3 1 v1 ys.length (zd ys)):=by show World.ownsRow _ _ _ _ _ _ _;rw[ae];exact R.1
  have af:=hid R.2;rw[<-ae] at HN;clear aa ac ab HR HB ae R;have an:0<ys.length:=by omega
  have ao:ys.length<=k+1+1:=by omega
  clear ap;go_wp2;go_roundw
  ·exact⟨k+1,ys,by omega,by go_num,an,ao,HN,ag,af⟩
  simp[intOf];omega
 have HF:Hid (zbK s.data.toList=zs++[0]):=by show _=_;rw[HZ.out,zcw s k (by omega)];rfl
 go_wp2_with(at_builtin;refine yy _ rfl _ _ 40 rfl w.heap.size 3 i0 (.int .i64 0) 1 8 Tryz.underlying40 hi ai aj ak rfl (by decide) _ _ _ rfl (HR.out.alloc _) ⟨wr.heap.size,0,none⟩ 1 1 [.int .i64 0] rfl rfl ?c1 ?c2 ?c3 ?c4 ?c5 ?_)
 case c1=>exact cell_one_new _ _ _
 case c2=>intro u hu;simp at hu;subst hu;rfl
 case c3=>unfold maxLen;omega
 case c4=>omega
 case c5=>simp;omega
 intro v1 w1 aa ac _;have ab:(wr.alloc (.cells #[.int .i64 0] 3)).grownBy w1 (Value.slice (some ⟨g,0,none⟩) zs.length ad).ownBlock:=ac;have R:=zfw (w:=w) ah HR.out HB.out aa ab;have ag:=hid R.1;have af:=hid R.2;clear aa ac ab HR HB R;go_wp2;go_ret;refine⟨_,rfl,?_,af.out⟩;rw[HF.out];exact ag.out
theorem ziv(s:ByteArray)(w:World)(hs:s.size<=1000):Calls Tryz.prog 108 #[.string s] w λe w'=>∃v vs,e=.returned v/\Rts w' w.heap.size w'.heap.size v (zn s.data.toList) vs/\Below w.heap.size w w':=by
 obtain⟨j0,hj,aD,aE,aF⟩:=info_parts Tryz.infoInts;have HC:=hid (zeA 47 s w (by omega));have HV:Hid (s.toList.isEmpty=s.data.toList.isEmpty):=zfv s;have af:=zgf 47 s.data.toList;have aB:1<=(zD 47 s.data.toList).length:=by unfold zD;simp
 have am:=hid (zft 47 s.data.toList);have av:s.data.toList.length=s.size:=by simp
 cases hem:s.data.toList.isEmpty
 ·have aw:s.data.toList≠[]:=λe=>by rw[e] at hem;cases hem
  have HF:Hid (zn s.data.toList=(zD 47 s.data.toList).map zbK):=zhK _ aw;have hv:s.toList.isEmpty=false:=by rw[HV.out,hem]
  generalize zn s.data.toList=ans at*;generalize zD 47 s.data.toList=ls at*;have hl2:ls.length<=1001:=by omega
  have aA:Hid (∀f∈ls,f.length<=1000):=λf hf=>by have:=am.out f hf;omega
  clear af av am hem HV aw;go_in;go_wp2_with fail;refine HC.out.mono ?_;rintro e1 w1⟨v1,rfl,aa,ar⟩;obtain⟨g,cap,cur,rfl,_,hg,hcap⟩:=zF aa (by omega);have au:g<w1.heap.size:=(yc.1 hg).1;have HO:=hid aa;have aj:=hid ar;clear HC aa hg ar;go_wp2_with fail;go_loopw[4,5] (λlv i wr=>∃(k:Nat)(vs:List Value),k<=ls.length/\i=.int .i64 k/\vs.length<=1001/\Hid (Rts wr w1.heap.size wr.heap.size lv ((ls.take k).map zbK) vs)/\Hid (Below w1.heap.size w1 wr)) (λ_ i _=>ls.length-(intOf i).toNat)
  ·exact⟨0,[],yu _,rfl,by simp,Rts.nil _ _ _,yk _ _⟩
  obtain⟨k,vs,hk,rfl,hvl,HL,HB⟩:=hrel;obtain⟨al,ao,rfl,_,_⟩:=zg HL.out.own;by_cases ap:k<ls.length
  ·obtain⟨p,hp⟩:∃p:ByteArray,p=⟨(ls[k]).toArray⟩:=⟨_,rfl⟩
   have hcell:wr.cell? ⟨g,k,none⟩=some (.string p):=by rw[HB.out.cell (by exact au),HO.out.cellAt k (by omega),hp];simp[zbE,ap]
   have hgw:=ya au HB.out.size;have aq:p.data.toList=ls[k]:=by rw[hp]
   have aC:p.size<=1000:=by
    have h1:=aA.out _ (ym ap);have h2:p.size=p.data.toList.length:=by simp
    rw[h2,aq];exact h1
   have HT:Hid ((ls.take (k+1)).map zbK=(ls.take k).map zbK++[zbK p.data.toList]):=by show _=_;rw[yr ap,yL,aq];simp
   have hvk:vs.length<=1000:=by have h1:=HL.out.len;simp at h1;omega
   have HC:=hid (zq3 p wr aC);have ax:0<(zbK p.data.toList).length:=by simp[zbK]
   generalize zbK p.data.toList=zs at*;clear hp aq;go_wp2_with(first
    | (go_at_call 174;refine HC.out.mono ?_;rintro e2 w2⟨v2,rfl,ac,ai⟩;have an:=hid ac;have ah:=hid (HL.out.below ai (yh _));have ak:Hid (Below w1.heap.size w1 w2):=HB.out.trans (ai.mono HB.out.size);have hs12:=ak.out.size;have hs2:=ai.size;have hs1:=HB.out.size;clear ac ai;obtain⟨g2,ab,cur2,rfl,_,_,_⟩:=zF an.out ax)
    | (at_builtin;refine yy _ rfl _ _ 31 rfl w1.heap.size 40 j0 (.slice none 0 0) 1 24 Tryz.underlying31 hj aD aE aF rfl (by decide) _ _ _ rfl ((ah.out.own).alloc _) ⟨w2.heap.size,0,none⟩ 1 1 [.slice (some ⟨g2,0,none⟩) zs.length ab] rfl rfl ?d1 ?d2 ?d3 ?d4 ?d5 ?_))
   case d1=>exact za0 rfl rfl
   case d2=>intro u hu;simp at hu;subst hu;rfl
   case d3=>unfold maxLen;omega
   case d4=>omega
   case d5=>simp;omega
   intro v3 w3 ad ag _;have ae:(w2.alloc (.cells #[.slice (some ⟨g2,0,none⟩) zs.length ab] 40)).grownBy w3 (Value.slice al vs.length ao).ownBlock:=ag;have az:Hid (Rts w3 w1.heap.size w3.heap.size v3 ((ls.take k).map zbK++[zs]) (vs++[.slice (some ⟨g2,0,none⟩) zs.length ab])):=ah.out.push an.out ax (by omega) (zj w2 _) ae ad;have ay:Hid (Below w1.heap.size w1 w3):=(ak.out.trans ((zj w2 _).mono (by omega))).grown ae (by simp;omega) (λx hx=>(ah.out.own.lt x hx).1);clear ad ag ae an ah ak HL HB;go_wp2;go_roundw
   ·exact⟨k+1,vs++[.slice (some ⟨g2,0,none⟩) zs.length ab],by omega,by go_num,by simp;omega,by show Rts _ _ _ _ _ _;rw[HT.out];exact az.out,ay⟩
   simp[intOf];omega
  have HX:Hid (ans=(ls.take k).map zbK):=by show _=_;rw[HF.out,yD (by omega)]
  go_wp2;go_ret;refine⟨_,vs,rfl,?_,aj.out.trans (HB.out.mono aj.out.size)⟩;rw[HX.out];exact HL.out.base aj.out.size
 have he:s.data.toList=[]:=by simpa using hem
 have HF:Hid (zn s.data.toList=[]):=by show _=_;unfold zn;rw[yg he]
 have hv:s.toList.isEmpty=true:=by rw[HV.out,hem]
 clear hem he HC aB af am av;go_in;go_wp2
 all_goals
  go_ret;refine⟨_,[],rfl,?_,yk _ _⟩;rw[HF.out];exact Rts.nil _ _ _
theorem zia{r:Rd}(ae:zE r){w:World}{ao:Option Addr}(ag:∀i (h:i<r.stops.length),∃g,ao=some ⟨g,0,none⟩/\g<w.heap.size/\∀j z,j<5->r.stops[i][j]?=some z->w.cell? ⟨g,i*5+j,none⟩=some (.int .i64 z)){m:Nat}(hm:m<r.stops.length):∃g b0 b1 b2 b3 b4,ao=some ⟨g,0,none⟩/\g<w.heap.size/\w.cell? ⟨g,m*5,none⟩=some (.int .i64 b0)/\w.cell? ⟨g,m*5+1,none⟩=some (.int .i64 b1)/\w.cell? ⟨g,m*5+2,none⟩=some (.int .i64 b2)/\w.cell? ⟨g,m*5+3,none⟩=some (.int .i64 b3)/\w.cell? ⟨g,m*5+4,none⟩=some (.int .i64 b4) /\(∀j,zp r (m+1) j=[b0,b1,b2,b3,b4].getD j 0)/\(0<=b1/\b1<=10000)/\(0<=b2/\b2<=10000)/\(0<=b3/\b3<=10000)/\(0<=b4/\b4<=10000):=by
 obtain⟨g,e,hg,hc⟩:=ag m hm;obtain⟨b0,b1,b2,b3,b4,ac,af⟩:=ae.stops _ (ym hm);have aa:∀j z,j<5->[b0,b1,b2,b3,b4][j]?=some z->w.cell? ⟨g,m*5+j,none⟩=some (.int .i64 z):=λj z hj hz=>hc j z hj (by rw[ac];exact hz);have ad:r.stops.getD m []=[b0,b1,b2,b3,b4]:=by rw[yj,yl hm,yK,ac]
 have ab:(0<=b1/\b1<=10000)/\(0<=b2/\b2<=10000)/\(0<=b3/\b3<=10000)/\(0<=b4/\b4<=10000):=by simp only[zas,yA,za7,yq] at af;omega
 exact⟨g,b0,b1,b2,b3,b4,e,hg,aa 0 b0 (by omega) rfl,aa 1 b1 (by omega) rfl,aa 2 b2 (by omega) rfl,aa 3 b3 (by omega) rfl,aa 4 b4 (by omega) rfl,λj=>by unfold zp;rw[yab,ad],ab.1,ab.2.1,ab.2.2.1,ab.2.2.2⟩
theorem zhL(r:Rd)(l:List Int)(vs vr vw:Value)(gi ci:Nat)(w:World)(ag:zE r)(hs:StR w vs r)(af:gi<w.heap.size)(ac:∀j (hj:j<l.length),w.cell? ⟨gi,j,none⟩=some (.int .i64 l[j]))(hll:l.length<=1000)(hx:∀x∈l,0<=x/\x<r.stops.length+1)(ar:∃ao n c,vr=.slice ao n c)(au:∃ao n c,vw=.slice ao n c):Calls Tryz.prog 173 #[.agg (zi r vs vr vw),.slice (some ⟨gi,0,none⟩) l.length ci] w λe w'=>e=.returned (.int .i64 (z7 r l))/\Below w.heap.size w w':=by
 obtain⟨W,hW⟩:∃W,W=w.alloc (.cells (zi r vs vr vw) 109):=⟨_,rfl⟩
 obtain⟨aa,ab,_,_,_,_,_,k5,_,_⟩:=za1 hW;have ad:=hid aa;have HS:=hid (hs.below aa);have ae:Hid (∀j (hj:j<l.length),W.cell? ⟨gi,j,none⟩=some (.int .i64 l[j])):=λj hj=>zc aa (ac j hj) af;have ah:=ya af aa.size;have aq:=hid hW;have HX:=hid hx;have am:=hid ag;have hn:=ag.nstops;obtain⟨a1,n1,c1,rfl⟩:=ar;obtain⟨a2,n2,c2,rfl⟩:=au;obtain⟨ast,cs,rfl,ak⟩:=HS.out;have an:=hid ak;clear hs ac hW aa hx ag HS af ak;unfold zi at*;go_in;go_wp2_with fail;go_loopw[5,6] (λsm i wr=>∃(q:Nat)(T:Int),q<=l.length/\i=.int .i64 q/\sm=.int .i64 T/\(0<=T/\T<=(q:Int)*10000)/\Hid (T=z7 r (l.take q))/\Hid (Below W.heap.size W wr)) (λ_ i _=>l.length-(intOf i).toNat)
 ·exact⟨0,0,yu _,rfl,rfl,by omega,rfl,by show Below _ _ _;rw[aq.out];exact yk _ _⟩
 obtain⟨q,T,hq,rfl,rfl,hT,HQ,HB⟩:=hrel;have hiw:=ya ah HB.out.size;have hbw:=ya ab HB.out.size;by_cases ai:q<l.length
 ·obtain⟨x,hx⟩:∃x,x=l[q]:=⟨_,rfl⟩
  have hx1:=HX.out x (by rw[hx];exact ym _);have x0:=zc HB.out (ae.out q ai) ah;rw[<-hx] at x0;have HN:Hid (z7 r (l.take (q+1))=T+(if x=0 then 0 else zp r x.toNat 1)):=by show _=_;rw[yr ai,zeZ,<-HQ.out,<-hx]
  obtain⟨xn,rfl⟩:∃xn:Nat,x=xn:=⟨x.toNat,by omega⟩
  clear hx;by_cases hz:xn=0
  ·subst hz;go_wp2_with go_in;go_roundw
   ·exact⟨q+1,T,by omega,by go_num,rfl,by omega,by show _=_;rw[HN.out];simp,by first|exact HB.out|exact HB.out.drew⟩
   simp[intOf];omega
  obtain⟨m,rfl⟩:∃m,xn=m+1:=⟨xn-1,by omega⟩
  obtain⟨sg,b0,b1,b2,b3,b4,rfl,aj,s0,s1,s2,s3,s4,hV,hb1,_,_,_⟩:=zia am.out an.out (show m<r.stops.length by omega);have hw1:wr.cell? ⟨sg,m*5+1,none⟩=some (.int .i64 b1):=zc HB.out s1 aj;have hp5:=zc HB.out k5 ab;have hsw:=ya aj HB.out.size;have al:Hid (z7 r (l.take (q+1))=T+b1):=by show _=_;rw[HN.out,ye (by omega),show ((m+1:Nat):Int).toNat=m+1 by omega,hV];rfl
  have iq:(0:Int)<=(q:Int):=by omega
  have jq:(q:Int)<(l.length:Int):=by omega
  have im:(0:Int)<=(m:Int):=by omega
  have jm:(m:Int)<(r.stops.length:Int):=by omega
  have hww:IntKind.i64.wrap ((m:Int)+1-1)=m:=by rw[show (m:Int)+1-1=m by omega];exact zm _ (by omega)
  have hww2:IntKind.i64.wrap (m:Int)=m:=zm _ (by omega);have hws:IntKind.i64.wrap (T+b1)=T+b1:=zm _ (by omega);clear hV HN hz s0 s1 s2 s3 s4;go_wp2_with fail;go_region_held3 (λw'=>w'.cell? ⟨w.heap.size,5,none⟩=some (.slice (some ⟨sg,0,none⟩) r.stops.length cs)/\w'.cell? ⟨gi,q,none⟩=some (.int .i64 ((m+1:Nat):Int))/\w'.cell? ⟨sg,m*5+1,none⟩=some (.int .i64 b1)) (go_keep) (fail);go_wp2;go_roundw
  ·exact⟨q+1,T+b1,by omega,by go_num,rfl,by omega,al.out.symm,by first|exact HB.out|exact HB.out.drew⟩
  simp[intOf];omega
 have ap:Hid (T=z7 r l):=by have:=HQ.out;rw[yD (by omega)] at this;exact this
 go_wp2_with go_in;go_ret;exact⟨zK ap.out,by first|exact ad.out.trans (HB.out.mono ad.out.size)|exact ad.out.trans (HB.out.drew.mono ad.out.size)⟩
def zbo(D:Nat->Nat->Int)(l:List Int):Int:=if zT D l=true then zbG D l (l.length-1) else -1
theorem ze1(r:Rd)(D:Nat->Nat->Int)(l:List Int)(vs vr vw:Value)(gi ci:Nat)(w:World)(hq:SqR w vw (r.stops.length+1) D)(hD:∀a b,a<r.stops.length+1->b<r.stops.length+1->-1<=D a b/\D a b<=40960000)(ak:gi<w.heap.size)(ai:∀j (hj:j<l.length),w.cell? ⟨gi,j,none⟩=some (.int .i64 l[j]))(hll:l.length<=1000)(hx:∀x∈l,0<=x/\x<r.stops.length+1)(aA:∃ao n c,vs=.slice ao n c)(az:∃ao n c,vr=.slice ao n c):Calls Tryz.prog 109 #[.agg (zi r vs vr vw),.slice (some ⟨gi,0,none⟩) l.length ci] w λe w'=>e=.returned (.int .i64 (zbo D l))/\Below w.heap.size w w':=by
 obtain⟨W,hW⟩:∃W,W=w.alloc (.cells (zi r vs vr vw) 109):=⟨_,rfl⟩
 obtain⟨ae,ag,_,_,_,_,_,_,_,k7⟩:=za1 hW;have aa:=hid ae;have HS:=hid (hq.below ae);have ac:Hid (∀j (hj:j<l.length),W.cell? ⟨gi,j,none⟩=some (.int .i64 l[j])):=λj hj=>zc ae (ai j hj) ak;have aj:=ya ak ae.size;have aw:=hid hW;have HX:Hid (∀x∈l,0<=x/\x<((r.stops.length+1:Nat):Int)):=λx hm=>by have:=hx x hm;omega
 have au:=hid hD;obtain⟨a1,n1,c1,rfl⟩:=az;obtain⟨a2,n2,c2,rfl⟩:=aA;obtain⟨af,cf,rfl,hn,ar⟩:=HS.out;have av:=hid ar;generalize r.stops.length+1=n at*;clear hq ai hW ae hx HS ak ar hD;unfold zi at*;go_in;go_wp2_with fail;go_loopw[5,6] (λsm k wr=>∃(q:Nat)(T:Int),q<=l.length-1/\k=.int .i64 (q+1:Nat)/\sm=.int .i64 T/\(-(q:Int)*40960000<=T/\T<=(q:Int)*40960000)/\Hid (T=zbG D l q)/\Hid (∀j,j<q->z8 D l j≠-1)/\Hid (Below W.heap.size W wr)) (λ_ k _=>l.length-(intOf k).toNat)
 ·exact⟨0,0,yu _,rfl,rfl,by omega,rfl,λj hj=>absurd hj (by omega),by show Below _ _ _;rw[aw.out];exact yk _ _⟩
 obtain⟨q,T,hq,rfl,rfl,hT,HQ,ab,HB⟩:=hrel;have hiw:=ya aj HB.out.size;have hpw:=ya ag HB.out.size;by_cases aq:q+1<l.length
 ·obtain⟨x,hx⟩:∃x,x=l[q]:=⟨_,rfl⟩
  obtain⟨y,hy⟩:∃y,y=l[q+1]:=⟨_,rfl⟩
  have hx1:=HX.out x (by rw[hx];exact ym _);have hy1:=HX.out y (by rw[hy];exact ym _);have x0:wr.cell? ⟨gi,q,none⟩=_:=(HB.out.cell (by exact aj)).trans (ac.out q (by omega));have y0:wr.cell? ⟨gi,q+1,none⟩=_:=(HB.out.cell (by exact aj)).trans (ac.out (q+1) aq);rw[<-hx] at x0;rw[<-hy] at y0;obtain⟨xn,rfl⟩:∃xn:Nat,x=xn:=⟨x.toNat,by omega⟩
  obtain⟨yn,rfl⟩:∃yn:Nat,y=yn:=⟨y.toNat,by omega⟩
  obtain⟨fg,ad,am,rfl,an,ay,ah,ap⟩:=av.out xn (by omega);have hd:wr.cell? ⟨ad,yn,none⟩=_:=(HB.out.cell (by exact ah)).trans (ap yn (by omega));have hfw:=zc HB.out ay an;have hp7:=zc HB.out k7 ag;have hgf:=ya an HB.out.size;have hgif:=ya ah HB.out.size;have hdb:=au.out xn yn (by omega) (by omega);have iq:(0:Int)<=(q:Int):=by omega
  have jq:(q:Int)<(l.length:Int):=by omega
  have iq1:(0:Int)<=(q:Int)+1:=by omega
  have jq1:(q:Int)+1<(l.length:Int):=by omega
  have ix:(0:Int)<=(xn:Int):=by omega
  have jx:(xn:Int)<(n:Int):=by omega
  have iy:(0:Int)<=(yn:Int):=by omega
  have jy:(yn:Int)<(n:Int):=by omega
  have hww:IntKind.i64.wrap ((q:Int)+1-1)=q:=by rw[show (q:Int)+1-1=q by omega];exact zm _ (by omega)
  have hww2:IntKind.i64.wrap (q:Int)=q:=zm _ (by omega);have htn:((q:Int)+1).toNat=q+1:=by omega
  have HD:Hid (z8 D l q=D xn yn):=by show _=_;unfold z8;rw[yj,yj,yl (by omega),yl aq,yK,yK,<-hx,<-hy];simp
  generalize ax:D xn yn=d at*;clear ap hx hy ax;by_cases al:d=-1
  ·subst al;have HF:Hid (zbo D l=-1):=by show _=_;unfold zbo;rw[ye];intro h;have:=yF.1 h q (by simp;omega);rw[HD.out] at this;simp at this
   go_wp2_with fail;go_region_held3 (λw'=>w'.cell? ⟨w.heap.size,7,none⟩=some (.slice (some ⟨fg,0,none⟩) n cf)/\w'.cell? ⟨gi,q,none⟩=some (.int .i64 xn)/\w'.cell? ⟨gi,q+1,none⟩=some (.int .i64 yn)/\w'.cell? ⟨fg,xn,none⟩=some (.slice (some ⟨ad,0,none⟩) n am)/\w'.cell? ⟨ad,yn,none⟩=some (.int .i64 (-1))) (go_keep) (fail);go_wp2;go_ret;exact⟨zK HF.out.symm,by first|exact aa.out.trans (HB.out.mono aa.out.size)|exact aa.out.trans (HB.out.drew.mono aa.out.size)⟩
  have e1:(d==(-1:Int))=false:=by simpa using al
  have HR:Hid (T+d=zbG D l (q+1)):=by show _=_;rw[zcH,<-HQ.out,HD.out]
  go_wp2_with fail;go_region_held3 (λw'=>w'.cell? ⟨w.heap.size,7,none⟩=some (.slice (some ⟨fg,0,none⟩) n cf)/\w'.cell? ⟨gi,q,none⟩=some (.int .i64 xn)/\w'.cell? ⟨gi,q+1,none⟩=some (.int .i64 yn)/\w'.cell? ⟨fg,xn,none⟩=some (.slice (some ⟨ad,0,none⟩) n am)/\w'.cell? ⟨ad,yn,none⟩=some (.int .i64 d)) (go_keep) (fail);go_wp2;go_roundw
  ·exact⟨q+1,T+d,by omega,by go_num,rfl,by omega,HR,λj hj=>(by
   by_cases h:j=q
   ·subst h;rw[HD.out];exact al
   exact ab.out j (by omega)),by first|exact HB.out|exact HB.out.drew⟩
  simp[intOf];omega
 have HF:Hid (zbo D l=T):=by
  show _=_;have hw:zT D l=true:=yF.2 λk hk=>by
   have:k<l.length-1:=by simpa using hk
   simpa using ab.out k (by omega)
  unfold zbo;rw[yg hw,show l.length-1=q by omega,HQ.out]
 go_wp2;go_ret;exact⟨zK HF.out.symm,by first|exact aa.out.trans (HB.out.mono aa.out.size)|exact aa.out.trans (HB.out.drew.mono aa.out.size)⟩
end Go.Proofs.YtebinaopncclgabGreatDoor
