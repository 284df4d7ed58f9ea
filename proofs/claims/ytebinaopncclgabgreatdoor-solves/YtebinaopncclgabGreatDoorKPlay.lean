import Derived.Test.YtebinaopncclgabGreatDoorRCheck
import Derived.Test.YtebinaopncclgabGreatDoorSSolve
import Derived.Test.YtebinaopncclgabGreatDoorKCheap
import Derived.Test.YtebinaopncclgabGreatDoorOpenS
set_option maxRecDepth 100000
set_option maxHeartbeats 8000000
namespace Go.Proofs.YtebinaopncclgabGreatDoor
open Go.RowKit Go.IntWalk
theorem zgH(c:UInt8):∀l:List UInt8,(zM c l).length=l.count c+1
 | []=>by simp[zM]
 | x::t=>by
  have:=zgH c t;rw[zcm,yaW];by_cases h:x=c
  ·rw[yg h];simp[h];omega
  rw[ye h];cases hq:zM c t with
  | nil=>exact absurd hq (zdD c t)
  | cons p ps=>rw[hq] at this;simp[h] at*;omega
theorem zpk(c:UInt8)(s:ByteArray)(w:World)(hs:s.size<=70368744177664)(ag:s.data.toList.count c<=4000000000000):Calls Tryz.prog 94 #[.string s,.int .u8 c.toNat] w λe w'=>∃v,e=.returned v/\w'.ownsRow w.heap.size 9 1 v (zD c s.data.toList).length (zbE (zD c s.data.toList))/\Below w.heap.size w w':=by
 obtain⟨i0,hi,ai,aj,ak⟩:=info_parts Tryz.infoStr;obtain⟨l,hl⟩:∃l,l=s.data.toList:=⟨_,rfl⟩
 have ah:s.size=l.length:=by rw[hl];simp
 have HL:Hid (l=s.data.toList):=hl;have HSZ:Hid (s.size=l.length):=ah;have an:s.size<=l.length:=by omega
 have ao:l.length<=s.size:=by omega
 rw[<-hl] at ag;clear hl ah;go_in;go_wp2;go_loopw[5,6,7] (λv bg i wr=>∃k b:Nat,k<=s.size/\b<=k/\i=.int .i64 k/\bg=.int .i64 b/\Hid (cuC c l k=(l.drop b).take (k-b))/\(cuP c l k).length<=k/\Hid ((cuP c l k).length=(l.take k).count c)/\wr.ownsRow w.heap.size 9 1 v (cuP c l k).length (zbE (cuP c l k))/\Below w.heap.size w wr) (λ_ _ i _=>s.size-(intOf i).toNat)
 ·exact⟨0,0,yu _,yh _,rfl,rfl,rfl,yh _,rfl,yC _ _ _ _,yk _ _⟩
 obtain⟨k,b,hk,hb,rfl,rfl,HC,hlen,HQ,ac,ad⟩:=hrel;have hcb4:(cuP c l k).length<=4000000000000:=by rw[HQ.out];exact yP ((List.take_sublist k l).count_le c) ag
 have ae:=ad.size;by_cases hlt:k<s.size
 ·have af:k<l.length:=by omega
  have HX:Hid (s[k]=l[k]):=by show s[k]=l[k];subst HL;rfl
  by_cases hc:l[k]=c
  ·have al:((s[k].toNat:Int)==(c.toNat:Int))=true:=by rw[HX.out,hc];simp
   clear an ao;go_wp2_with(first
    | (at_builtin;refine yy _ rfl _ _ 148 rfl w.heap.size 9 i0 (.string ByteArray.empty) 1 16 Tryz.underlying148 hi ai aj ak rfl (by decide) _ _ _ rfl (ac.alloc _) ⟨wr.heap.size,0,none⟩ 1 1 [.string (s.extract b k)] rfl rfl ?c1 ?c2 ?c3 ?c4 ?c5 ?_)
    | go_in)
   case c1=>exact cell_one_new _ _ _
   case c2=>intro u hu;simp at hu;subst hu;rfl
   case c3=>unfold maxLen;omega
   case c4=>omega
   case c5=>simp;omega
   intro v' w1 aa ab _;rw[zel] at aa;have R:=zdR ae ac ad aa ab;clear aa ab ac ad;go_wp2;go_roundw
   ·obtain⟨e1,e2⟩:=zrR af hc;refine⟨k+1,k+1,by omega,yh _,by go_num,by go_num,?_,?_,?_,?_,R.2⟩
    ·show _=_;rw[e2];simp
    ·rw[e1];simp;omega
    ·show _=_;rw[e1,yz,HQ.out,yr af,yaI,hc];simp
    rw[e1,HC.out];subst HL;exact R.1
   simp[intOf];omega
  have al:((s[k].toNat:Int)==(c.toNat:Int))=false:=by rw[yO];intro e;exact hc (by rw[<-HX.out];exact yaH.1 (by omega))
  go_wp2;go_roundw
  ·obtain⟨e1,e2⟩:=znX af hc;refine⟨k+1,b,by omega,by omega,by go_num,rfl,?_,?_,?_,?_,ad⟩
   ·show _=_;rw[e2,HC.out];exact zg8 hb af
   ·rw[e1];omega
   ·show _=_;rw[e1,HQ.out,yr af,yaI];simp[hc]
   rw[e1];exact ac
  simp[intOf];omega
 have am:k=s.size:=by omega
 subst am;go_wp2_with(first
   | (at_builtin;refine yy _ rfl _ _ 148 rfl w.heap.size 9 i0 (.string ByteArray.empty) 1 16 Tryz.underlying148 hi ai aj ak rfl (by decide) _ _ _ rfl (ac.alloc _) ⟨wr.heap.size,0,none⟩ 1 1 [.string (s.extract b s.size)] rfl rfl ?d1 ?d2 ?d3 ?d4 ?d5 ?_)
   | go_in)
 case d1=>exact cell_one_new _ _ _
 case d2=>intro u hu;simp at hu;subst hu;rfl
 case d3=>unfold maxLen;omega
 case d4=>omega
 case d5=>simp;omega
 intro v' w1 aa ab _;rw[zel] at aa;have R:=zdR ae ac ad aa ab;clear aa ab ac ad;go_wp2;go_ret;refine⟨v',rfl,?_,R.2⟩;have e1:=zr9 (c:=c) (l:=l) (k:=s.size) (by omega);rw[HC.out] at e1;subst HL;rw[e1];exact R.1
theorem zqn(s:ByteArray)(w:World)(hs:s.size<=70368744177664)(aG:s.data.toList.count 10<=4000000000000)(aJ:∀q∈zM 10 s.data.toList,q.length<=2000000):Calls Tryz.prog 69 #[.string s] w (zmu w (zbc s.data.toList)):=by
 obtain⟨i0,hi,aT,aU,aV⟩:=info_parts Tryz.infoNode;have aw:=hid (λW=>zpk 10 s W hs aG);have hsl:(zM 10 s.data.toList).length<=4000000000001:=by rw[zgH];omega
 have aN:Hid (zbc s.data.toList=goT 1 [] (zM 10 s.data.toList)):=rfl;rw[zjV] at aw;have aL:=hid aJ;clear aJ aG hs;have aS:0<(zM 10 s.data.toList).length:=yaQ.2 (zdD 10 s.data.toList);generalize zbc s.data.toList=ans at*;generalize zM 10 s.data.toList=L at*;go_in;go_wp2_with fail;refine(aw.out _).mono ?_;rintro e1 w1⟨v1,rfl,az,aF⟩;obtain⟨g,cap,cur,rfl,aQ,aH,_⟩:=zF az aS;have aq:g<w1.heap.size:=(yc.1 aH).1;have ab:=hid aF;have aD:=hid az;clear az aF aH aw aQ;go_wp2_with fail;go_loopw[6,7,8] (λv op i wr=>∃(k o:Nat)(aa:List zu),i=.int .i64 k/\op=.int .i64 o/\k+1<=L.length/\o<=k+1/\aa.length=k/\Hid (zal wr w1.heap.size v aa)/\Hid (Below w1.heap.size w1 wr)/\Hid (ans=goT o aa (L.drop k))) (λ_ _ i _=>L.length-(intOf i).toNat)
 ·exact⟨0,1,[],rfl,rfl,by omega,by omega,rfl,zal.nil _ _,by first|exact yk _ _|exact zj _ _,by simpa using aN⟩
 obtain⟨k,o,aa,rfl,rfl,hk,ho,ac,HN,HB,HG⟩:=hrel;by_cases hlt:k+1<L.length
 ·have x0:wr.cell? ⟨g,k,none⟩=some (.string ⟨L[k].toArray⟩):=(HB.out.cell (by exact aq)).trans (by rw[aD.out.cellAt k (by omega)];simp[zbE]);have aR:=ya aq HB.out.size;have HD:Hid (L.drop k=L[k]::L.drop (k+1)):=yac (by omega);have aC:Hid (L.drop (k+1)=L[k+1]::L.drop (k+2)):=yac (by omega);have ad:Hid (ans=if o=0 then ([],aa.length+1,14) else match zdr L[k] with|none=>([],aa.length+1,14)|some nd=>goT (zbw o nd.1) (aa++[nd]) (L.drop (k+1))):=by
   show _=_;rw[HG.out,HD.out,aC.out,zhR];by_cases h:o=0
   ·rw[yg h,yg h]
   rw[ye h,ye h];cases zdr L[k]<;>rfl
  have ag:Hid (∀W,Calls Tryz.prog 126 #[.string ⟨L[k].toArray⟩] W (zkk W (zdr L[k]))):=λW=>by have h:=zsb ⟨L[k].toArray⟩ W (by show L[k].toArray.size<=_;have:=aL.out L[k] (ym _);simp;omega);simpa using h
  generalize L[k]=x at*;clear HD aC HG;obtain⟨vs,ar,ak,au⟩:=HN.out;obtain⟨av,cv,rfl,_,_⟩:=zg ak;have aO:=hid ar;have aE:=hid ak;have aP:=hid au;have aj:=hid ac;rw[ac] at aE ad⊢;clear ac;clear ar ak au HN;have bl:decide ((k:Int)+1<(L.length:Int))=true:=by simp;omega
  cases hx:zdr x with
  | none=>
   have HR:Hid (ans=([],k+1,14)):=by
    show _=_;rw[ad.out,hx];by_cases h:o=0
    ·rw[yg h]
    rw[ye h]
   rw[hx] at ag;clear ad hx;go_wp2_with fail;refine(ag.out _).mono ?_;rintro e2 w2⟨⟨kk,ao,n,c,rfl,_⟩,af⟩;have ae:Hid (Below w1.heap.size w1 w2):=HB.out.trans (af.mono HB.out.size);clear af ag;dsimp only[Option.isSome];go_wp2_with fail;refine yB (v:=.tuple #[.slice none 0 0,.int .i64 ((k:Int)+1),.int .i64 14]) (by simp[results,Tryz.results69,go_sem]) rfl ?_;exact⟨λ_=>by rw[HR.out];rfl,λh=>(by rw[HR.out] at h;cases h),by first|exact ab.out.trans (ae.out.mono ab.out.size)|exact ab.out.trans ((ae.out.alloc ae.out.size _).mono ab.out.size)⟩
  | some nd=>
   by_cases h0:o=0
   ·have HR:Hid (ans=([],k+1,14)):=by show _=_;rw[ad.out,yg h0]
    rw[hx] at ag;subst h0;clear ad hx;go_wp2_with fail;refine(ag.out _).mono ?_;rintro e2 w2⟨⟨kk,ao,n,c,rfl,_⟩,af⟩;have ae:Hid (Below w1.heap.size w1 w2):=HB.out.trans (af.mono HB.out.size);clear af ag;dsimp only[Option.isSome];go_wp2_with fail;refine yB (v:=.tuple #[.slice none 0 0,.int .i64 ((k:Int)+1),.int .i64 14]) (by simp[results,Tryz.results69,go_sem]) rfl ?_;exact⟨λ_=>by rw[HR.out];rfl,λh=>(by rw[HR.out] at h;cases h),by first|exact ab.out.trans (ae.out.mono ab.out.size)|exact ab.out.trans ((ae.out.alloc ae.out.size _).mono ab.out.size)⟩
   have HR:Hid (ans=goT (zbw o nd.1) (aa++[nd]) (L.drop (k+1))):=by show _=_;rw[ad.out,ye h0,hx]
   rw[hx] at ag;have b0:((o:Int)==0)=false:=by simpa using h0
   clear ad hx;go_wp2_with fail;refine(ag.out _).mono ?_;rintro e2 w2⟨⟨kk,al,n,cl,rfl,q2⟩,af⟩;obtain⟨rfl,rfl,aI⟩:=q2 nd rfl;have ae:Hid (Below w1.heap.size w1 w2):=HB.out.trans (af.mono HB.out.size);have aK:=hid (zan aI HB.out.size);have an:=hid (ze aE.out af);have aM:Hid (∀i (h:i<aa.length),w2.ownsRow w1.heap.size 3 1 (vs.getD i (.slice none 0 0)) aa[i].2.length (zd aa[i].2)):=λi h=>ze (aP.out i h) af;have aA:=ae.out.size;clear af q2 aI ag;dsimp only[Option.isSome];go_wp2_with(first
    | (at_builtin;refine yy _ rfl _ _ 56 rfl w1.heap.size 76 i0 (.agg #[.int .i64 0,.slice none 0 0]) 2 32 Tryz.underlying56 hi aT aU aV rfl (by decide) _ _ _ rfl ((an.out.alloc _).alloc _) ⟨w2.heap.size+1,0,none⟩ 1 1 [.int .i64 nd.1,.slice al nd.2.length cl] rfl rfl ?c1 ?c2 ?c3 ?c4 ?c5 ?_)
    | fail)
   case c1=>exact zwk (w:=w2.alloc _) rfl rfl (by simp)
   case c2=>intro u hu;simp at hu;rcases hu with rfl|rfl<;>rfl
   case c3=>unfold maxLen;omega
   case c4=>omega
   case c5=>simp;omega
   intro v3 w3 ai ah _;have hX:Below w2.heap.size w2 ((w2.alloc (.cells #[.int .i64 nd.1,.slice al nd.2.length cl] 76)).alloc (.cells #[.int .i64 nd.1,.slice al nd.2.length cl] 76)):=zaa w2 _ _;have am:Hid (zal w3 w1.heap.size v3 (aa++[nd])):=zal.push aO.out (by rw[aj.out];exact an.out) aM.out aK.out hX ah (by rw[aj.out];exact ai);have aB:Hid (Below w1.heap.size w1 w3):=(ae.out.trans (hX.mono aA)).grown ah (by simp;omega) (λq hq=>(an.out.lt q hq).1);have ay:w3.heap[w2.heap.size]?=some (.cells #[.int .i64 nd.1,.slice al nd.2.length cl] 76 (0,0)):=by
    have h4:((w2.alloc (.cells #[.int .i64 nd.1,.slice al nd.2.length cl] 76)).alloc (.cells #[.int .i64 nd.1,.slice al nd.2.length cl] 76)).heap[w2.heap.size]?=some (.cells #[.int .i64 nd.1,.slice al nd.2.length cl] 76 (0,0)):=by rw[yT _ _ _ (by simp)];exact yx w2 _
    rw[ah.block _ (yc.1 h4).1 (λhe=>by have:=(an.out.lt _ he.symm).2;omega)];exact h4
   have n0:w3.cell? ⟨w2.heap.size,0,none⟩=some (.int .i64 nd.1):=yi w3 w2.heap.size 0 _ _ _ ay;have hbl:w2.heap.size<w3.heap.size:=(yc.1 ay).1;clear hX ai ah ay;obtain⟨vs3,q1,q2,q3⟩:=am.out;obtain⟨a3,c3,rfl,_,_⟩:=zg q2;clear q1 q2 q3;by_cases h1:nd.1=1
   ·have b1:(nd.1==1)=true:=by simpa using h1
    have ax:Hid (zbw o nd.1=o+1):=by show _=_;unfold zbw;rw[yg h1]
    clear h1;go_wp2_with fail;go_roundw
    ·exact⟨k+1,o+1,aa++[nd],by go_num,by go_num,by omega,by omega,by simp[aj.out],(by have h9:=am.out;rw[yz] at h9;first|exact h9|exact am),aB,by rw[<-ax.out];exact HR⟩
    simp[intOf];omega
   have b1:(nd.1==1)=false:=by simpa using h1
   have ax:Hid (zbw o nd.1=o-1):=by show _=_;unfold zbw;rw[ye h1]
   clear h1;go_wp2_with fail;go_roundw
   ·exact⟨k+1,o-1,aa++[nd],by go_num,by go_num,by omega,by omega,by simp[aj.out],(by have h9:=am.out;rw[yz] at h9;first|exact h9|exact am),aB,by rw[<-ax.out];exact HR⟩
   simp[intOf];omega
 have ap:L.length=k+1:=by omega
 have x0:wr.cell? ⟨g,k,none⟩=some (.string ⟨(L[k]'(by omega)).toArray⟩):=(HB.out.cell (by exact aq)).trans (by rw[aD.out.cellAt k (by omega)];simp[zbE]);have aR:=ya aq HB.out.size;have ad:Hid (ans=if L[k]'(by omega)=[]/\o=0 then (aa,0,0) else ([],aa.length+1,14)):=by show _=_;rw[HG.out,yac (by omega),ybB (by omega),zh5]
 generalize L[k]'(by omega)=x at*;obtain⟨vs,ar,ak,au⟩:=HN.out;obtain⟨av,cv,rfl,_,_⟩:=zg ak;have aj:=hid ac;clear ar ak au HG;rw[ap];by_cases hx:x=[]
 ·subst hx;by_cases h0:o=0
  ·subst h0;have HR:Hid (ans=(aa,0,0)):=by show _=_;rw[ad.out,yg ⟨rfl,rfl⟩]
   clear ad ac ap;go_wp2_with fail;refine yB (v:=.tuple #[.slice av aa.length cv,.int .i64 0,.int .i64 0]) (by simp[results,Tryz.results69,go_sem]) rfl ?_;refine⟨λh=>absurd (by rw[HR.out]) h,λ_=>⟨_,rfl,?_⟩,ab.out.trans (HB.out.mono ab.out.size)⟩;rw[HR.out];exact HN.out.base ab.out.size
  have HR:Hid (ans=([],k+1,14)):=by show _=_;rw[ad.out,ye (λh=>h0 h.2),aj.out]
  have b0:decide (0<(o:Int))=true:=by simp;omega
  clear ad ac ap;go_wp2_with fail;refine yB (v:=.tuple #[.slice none 0 0,.int .i64 ((k:Int)+1),.int .i64 14]) (by simp[results,Tryz.results69,go_sem]) rfl ?_;exact⟨λ_=>by rw[HR.out];rfl,λh=>(by rw[HR.out] at h;cases h),ab.out.trans (HB.out.mono ab.out.size)⟩
 have HR:Hid (ans=([],k+1,14)):=by show _=_;rw[ad.out,ye (λh=>hx h.1),aj.out]
 have b0:x.isEmpty=false:=by simpa using hx
 clear ad ac ap;go_wp2_with fail;refine yB (v:=.tuple #[.slice none 0 0,.int .i64 ((k:Int)+1),.int .i64 14]) (by simp[results,Tryz.results69,go_sem]) rfl ?_;exact⟨λ_=>by rw[HR.out];rfl,λh=>(by rw[HR.out] at h;cases h),ab.out.trans (HB.out.mono ab.out.size)⟩
theorem zjU{r:Rd}(aa:zE r){R:zP}(hp:zO (zb r (za r)) R):(zah R).length<=100:=by have h1:=zkC (R:=R);have h2:=hp.count;have h3:=hp.few;have hn:=aa.nstops;have hv:=zdk aa;have h4:R.flatten.length=r.stops.length:=h2;omega
theorem zl6{r:Rd}(aa:zE r){fc:Option zP}(hp:∀R,fc=some R->zO (zb r (za r)) R):(zcg fc).length<=100/\((fc=none/\zcg fc=zcj/\zd9 (zb r (za r)) fc=0)\/(fc.isSome=true/\zcg fc≠zcj/\∃S,zfj r (za r) (zcg fc)=some (zd9 (zb r (za r)) fc,S))):=by
 cases fc with
 | none=>exact⟨by simp[zcg],.inl ⟨rfl,rfl,rfl⟩⟩
 | some R=>have h:=hp R rfl;obtain⟨S,hj⟩:=zer aa h;exact⟨zjU aa h,.inr ⟨rfl,zgR (zhr aa h),S,zjc aa hj⟩⟩
structure zv6 (r:Rd) (b:Nat):Prop where
 size:(zdo (zb r (za r)) b).length<=100
 short:zvS ⟨(zbT (zb r (za r)) b).toArray⟩
 check:zbz r (zdo (zb r (za r)) b) (zbT (zb r (za r)) b)=(0,0)
 case_:(zdZ (zb r (za r)) b=2/\zdo (zb r (za r)) b=zcj/\zeD (zb r (za r)) b=0)\/(zdZ (zb r (za r)) b=1/\zdo (zb r (za r)) b≠zcj/\∃S,zfj r (za r) (zdo (zb r (za r)) b)=some (zeD (zb r (za r)) b,S))
 lines:(zbT (zb r (za r)) b).count 10=(zk (zb r (za r)) b).1.L.length
theorem zuC{r:Rd}(aa:zE r){b:Nat}(hg:zbJ (zb r (za r)) b)(hd:(zk (zb r (za r)) b).2=true):zv6 r b:=by
 obtain⟨ab,_⟩:=(zgo (zh6 aa) aa.nstops (zdk aa).1 (zdk aa).2 b hg).2 hd;have hT:zbT (zb r (za r)) b=zaD (zk (zb r (za r)) b).1.L:=by unfold zbT;rw[yg hd]
 have hV:zdZ (zb r (za r)) b=if (zk (zb r (za r)) b).1.fc.isSome=true then 1 else 2:=by unfold zdZ;rw[yg hd]
 obtain⟨h1,h2⟩:=zul (zfl _ 1 ab.tree);have h3:=ab.len;have h4:=zgu;obtain⟨h5,h6⟩:=zl6 aa ab.plan;refine⟨h5,⟨?_,?_⟩,?_,?_,?_⟩
 ·show (zbT (zb r (za r)) b).toArray.size<=_;rw[ybT,hT];omega
 ·show ((zbT (zb r (za r)) b).toArray.toList).count 10<=_;rw[ybm,hT,h2];omega
 ·rw[hT];exact zsP aa ab
 ·rw[hV];rcases h6 with ⟨k1,k2,k3⟩|⟨k1,k2,S,k3⟩
  ·exact .inl ⟨by rw[k1];rfl,k2,k3⟩
  exact .inr ⟨by rw[k1];rfl,k2,S,k3⟩
 rw[hT];exact h2
theorem zsw(s:ByteArray)(r:Rd)(B b:Nat)(w:World)(hs:s.size<=maxLen)(hp:zv s.data.toList=(r,0,0))(ad:zE r)(hb:b<=144115188075855872)(hT:zdX B w)(hB:B<=w.heap.size):Calls Tryz.prog 13 #[.string s,.int .i64 b] w λe w'=>e=.returned (.tuple #[zwc (zdZ (zb r (za r)) b) ⟨(zdo (zb r (za r)) b).toArray⟩ (zeD (zb r (za r)) b) ⟨(zbT (zb r (za r)) b).toArray⟩,.int .i64 0])/\zbJ (zb r (za r)) b/\Below w.heap.size w w':=by have HC:Hid (∀W,Below w.heap.size w W->Calls Tryz.prog 24 #[.string s,.int .i64 b] W λe w'=>e=.returned (.tuple #[.agg #[.int .i64 (zdZ (zb r (za r)) b),.string ⟨(zdo (zb r (za r)) b).toArray⟩,.int .i64 (zeD (zb r (za r)) b),.string ⟨(zbT (zb r (za r)) b).toArray⟩],.int .i64 0])/\zbJ (zb r (za r)) b/\Below W.heap.size W w'):=λW hW=>zs4 s r B b W hs hp ad hb (hT.on hW hB) (yP hB hW.size);clear hp ad hT;unfold zwc;generalize zdZ (zb r (za r)) b=v at*;generalize zdo (zb r (za r)) b=pl at*;generalize zeD (zb r (za r)) b=c at*;generalize zbT (zb r (za r)) b=tx at*;go_in;go_wp2_with fail;refine(HC.out _ (zj w _)).mono ?_;rintro e1 w1⟨rfl,ac,ab⟩;have aa:w1.heap[w.heap.size]?=some (.cells #[.int .i64 0,.string ⟨#[]⟩,.int .i64 0,.string ⟨#[]⟩] 35 (0,0)):=(ab.block _ (by simp)).trans (yx w _);have y0:w1.cell? ⟨w.heap.size,0,none⟩=_:=yi w1 _ 0 _ _ _ aa;have y1:w1.cell? ⟨w.heap.size,1,none⟩=_:=yi w1 _ 1 _ _ _ aa;have y2:w1.cell? ⟨w.heap.size,2,none⟩=_:=yi w1 _ 2 _ _ _ aa;have y3:w1.cell? ⟨w.heap.size,3,none⟩=_:=yi w1 _ 3 _ _ _ aa;have ly:w.heap.size<w1.heap.size:=(yc.1 aa).1;have f0:=yv w1 w.heap.size 0 _ _ aa;have f1:=yv w1 w.heap.size 1 _ _ aa;have f2:=yv w1 w.heap.size 2 _ _ aa;have f3:=yv w1 w.heap.size 3 _ _ aa;have HG:=hid ac;have ae:Hid (Below w.heap.size w w1):=(zj w _).trans (ab.mono (by simp));clear ac ab aa HC;go_wp2_with fail;refine yB (v:=.tuple #[.agg #[.int .i64 v,.string ⟨pl.toArray⟩,.int .i64 c,.string ⟨tx.toArray⟩],.int .i64 0]) (by simp[results,Tryz.results13,go_sem,y0,y1,y2,y3]) rfl ?_;exact⟨rfl,HG.out,(((ae.out.setCell (by exact yh _) _).setCell (by exact yh _) _).setCell (by exact yh _) _).setCell (by exact yh _) _⟩
theorem YIs.sq{w:World}{yb B:Nat}{r:Rd}{vs vr:Value}(h:YIs w yb B r vs vr)(aa:zE r):StR w vs r:=StR.own h.stops (λs hs=>(aa.nice.stops s hs).1)
theorem zmW:∀{L:List zu},(∀nd∈L,zac nd=true)->∀q∈zM 10 (zaD L),q.length<=2000000:=by
 intro L;induction L with
 | nil=>intro _ q hq;simp[zaD,zM] at hq;simp[hq]
 | cons nd L ih=>
  intro h q hq;have e:zaD (nd::L)=zf2 nd++10::zaD L:=by simp[zaD,zdu]
  rw[e,zf0 (zhI (h nd (by simp)))] at hq;rcases yG.1 hq with hq|hq
  ·have h3:=zi2 (h nd (by simp));unfold zdu at h3;rw[yz] at h3;rw[hq];omega
  exact ih (λx hx=>h x (by simp[hx])) q hq
structure zof (r:Rd) (b:Nat) (v:Int) (P:List UInt8) (c:Int) (t:List UInt8) (best:Int):Prop where
 size:P.length<=100
 nodes:t.count 10<=b
 tlen:t.length<=70368744177664/\t.count 10<=4000000000000
 judge:(P=zcj/\c=0)\/(P≠zcj/\∃S,zI r (za r) P=(c,some S,0))
 case_:(v=3/\t=[]/\b<144115188075855872)\/(zbz r P t=(0,0)/\(∀q∈zM 10 t,q.length<=2000000)/\((v=1/\P≠zcj/\c=best)\/(v=2/\P=zcj/\best=-1)))
theorem zwb{r:Rd}(aa:zE r){b:Nat}(hb:b<=144115188075855872)(hg:zbJ (zb r (za r)) b):zof r b (zdZ (zb r (za r)) b) (zdo (zb r (za r)) b) (zeD (zb r (za r)) b) (zbT (zb r (za r)) b) (zfc (zb r (za r))):=by
 have hI:=zh6 aa;obtain⟨ah,ac⟩:=zgo hI aa.nstops (zdk aa).1 (zdk aa).2 b hg;have hL:=zkf hI;have ab:∀R,(zk (zb r (za r)) b).1.fc=some R->zO (zb r (za r)) R:=by
  cases hd:(zk (zb r (za r)) b).2 with
  | true=>exact(ac hd).1.plan
  | false=>exact(ah hd).1.plan
 have hj:(zdo (zb r (za r)) b=zcj/\zeD (zb r (za r)) b=0)\/(zdo (zb r (za r)) b≠zcj/\∃S,zI r (za r) (zdo (zb r (za r)) b)=(zeD (zb r (za r)) b,some S,0)):=by
  unfold zdo zeD;cases hf:(zk (zb r (za r)) b).1.fc with
  | none=>exact .inl ⟨rfl,rfl⟩
  | some R=>exact .inr ⟨zgR (zhr aa (ab R hf)),zer aa (ab R hf)⟩
 have ad:=(zl6 aa ab).1;cases hd:(zk (zb r (za r)) b).2 with
 | false=>
  have hT:zbT (zb r (za r)) b=[]:=by unfold zbT;rw[hd];rfl
  have hV:zdZ (zb r (za r)) b=3:=by unfold zdZ;rw[hd];rfl
  refine⟨ad,by rw[hT];exact yu _,by rw[hT];exact⟨yu _,yu _⟩,hj,.inl ⟨hV,hT,?_⟩⟩;rcases Nat.lt_or_ge b 144115188075855872 with h|h
  ·exact h
  have:=ztY hI aa.nstops (zdk aa).1 (zdk aa).2 (by omega) hg;rw[hd] at this;cases this
 | true=>
  have hT:zbT (zb r (za r)) b=zaD (zk (zb r (za r)) b).1.L:=by unfold zbT;rw[yg hd]
  have hf:=zuC aa hg hd;have ai:=(ac hd).2.1;have aj:=zfl _ 1 (ac hd).1.tree;have ak:=hf.short;refine⟨ad,by rw[hf.lines];exact ai,?_,hj,.inr ⟨hf.check,by rw[hT];exact zmW aj,?_⟩⟩
  ·obtain⟨k1,k2⟩:=ak;have e1:(⟨(zbT (zb r (za r)) b).toArray⟩:ByteArray).size=(zbT (zb r (za r)) b).length:=by show (zbT (zb r (za r)) b).toArray.size=_;rw[ybT]
   have e2:(⟨(zbT (zb r (za r)) b).toArray⟩:ByteArray).data.toList=zbT (zb r (za r)) b:=by show (zbT (zb r (za r)) b).toArray.toList=_;rw[ybm]
   rw[e1] at k1;rw[e2] at k2;exact⟨k1,k2⟩
  rcases hf.case_ with ⟨k1,k2,k3⟩|⟨k1,k2,S,k3⟩
  ·refine .inr ⟨k1,k2,?_⟩;rcases hL with ⟨h,_⟩|⟨_,⟨R,hR,_⟩,_⟩
   ·exact h
   obtain⟨S,hS⟩:=zer aa hR;have h1:=zjc aa hS;have h2:=hf.check;rw[k2] at h2;rw[zqc aa h2] at h1;cases h1
  refine .inl ⟨k1,k2,?_⟩;obtain⟨c,S2,h1,h2⟩:=zm0 aa k2 hf.check;rw[k3] at h1;cases h1;have ag:∃R,zO (zb r (za r)) R/\zR (zb r (za r)) R=zeD (zb r (za r)) b:=by
   unfold zdo at k2;cases he:(zk (zb r (za r)) b).1.fc with
   | none=>rw[he] at k2;exact absurd rfl k2
   | some R=>exact⟨R,ab R he,by unfold zeD;rw[he];rfl⟩
  obtain⟨R,hR,hc⟩:=ag;refine zkY (.inr ⟨?_,⟨R,hR,hc⟩,λR' ae=>?_⟩) hL
  ·have:=zi6 hI hR;omega
  obtain⟨S',af⟩:=zer aa ae;exact h2 _ _ _ (zjc aa af)
def noA(f:Int):Value:=.tuple #[.agg #[.int .i64 0,.string ⟨#[]⟩,.int .i64 0,.string ⟨#[]⟩],.int .i64 f]
def zc0(er:Int):Int:=if er≠0 then er else 16
theorem zj3{w w1 X:World}{o:Obj}{a:Nat}(aa:w1.heap[a]?=some (.cells #[.int .i64 0,.string ⟨#[]⟩,.int .i64 0,.string ⟨#[]⟩] 35 (0,0)))(hb:Below a w w1)(h:X=(((((w1.setCell ⟨a,0,none⟩ (.int .i64 0)).setCell ⟨a,1,none⟩ (.string ⟨#[]⟩)).setCell ⟨a,2,none⟩ (.int .i64 0)).setCell ⟨a,3,none⟩ (.string ⟨#[]⟩)).alloc o)):X.heap[a]?=some (.cells #[.int .i64 0,.string ⟨#[]⟩,.int .i64 0,.string ⟨#[]⟩] 35 (0,0))/\Below a w X:=by have hl:=(yc.1 aa).1;have h1:=yw w1 a 0 _ _ (.int .i64 0) aa;have h2:=yw _ a 1 _ _ (.string ⟨#[]⟩) h1;have h3:=yw _ a 2 _ _ (.int .i64 0) h2;have h4:=yw _ a 3 _ _ (.string ⟨#[]⟩) h3;have ab:=(yc.1 h4).1;have ac:=(((hb.setCell (p:=⟨a,0,none⟩) (yh _) (.int .i64 0)).setCell (p:=⟨a,1,none⟩) (yh _) (.string ⟨#[]⟩)).setCell (p:=⟨a,2,none⟩) (yh _) (.int .i64 0)).setCell (p:=⟨a,3,none⟩) (yh _) (.string ⟨#[]⟩);rw[h];exact⟨(yT _ _ _ ab).trans h4,ac.alloc (ya9 ab) _⟩
theorem ztU(s:ByteArray)(b:Int)(w:World)(hs:s.size<=maxLen)(h:(zv s.data.toList).2.2≠0\/b<0\/144115188075855872<b):Calls Tryz.prog 24 #[.string s,.int .i64 b] w λe w'=>e=.returned (noA (zc0 (zv s.data.toList).2.2))/\Below w.heap.size w w':=by
 have am:Hid (∀W,Calls Tryz.prog 37 #[.string s] W (zfa W (zv s.data.toList))):=λW=>zkc s W hs;obtain⟨W0,ax⟩:∃W0,W0=w.alloc (.cells #[.int .i64 0,.string ⟨#[]⟩,.int .i64 0,.string ⟨#[]⟩] 35):=⟨_,rfl⟩
 have al:Hid (Below w.heap.size w W0):=by show Below _ _ _;rw[ax];exact zj w _
 have ak:W0.heap[w.heap.size]?=some (.cells #[.int .i64 0,.string ⟨#[]⟩,.int .i64 0,.string ⟨#[]⟩] 35 (0,0)):=by rw[ax];exact yx w _
 have ai:=hid ak;have ay:w.heap.size<W0.heap.size:=(yc.1 ak).1;have aj:=hid ax;generalize zv s.data.toList=x at*;obtain⟨r,nat,er⟩:=x;dsimp only at h⊢;clear hs ax ak;by_cases he:er=0
 ·subst he;have az:(decide (b<0)||decide (144115188075855872<b))=true:=by
   rcases h with h|h|h
   ·exact absurd rfl h
   ·simp[h]
   simp[h]
  have au:b<0\/(¬b<0/\144115188075855872<b):=by omega
  clear h az;rcases au with hb|⟨hb,az⟩
  ·have ao:Hid (zc0 0=16):=rfl;go_in;go_wp2_with fail;rw[<-aj.out];refine(am.out _).mono ?_;rintro e1 w1⟨vs,vr,rfl,ah,ag,af⟩;unfold zap;obtain⟨aq,ae,av,_,_⟩:=zg ah;obtain⟨ap,ad,aw,_,_⟩:=zg ag;subst av aw;have aa:=(af.block _ ay).trans ai.out;have y0:w1.cell? ⟨w.heap.size,0,none⟩=_:=yi w1 _ 0 _ _ _ aa;have y1:w1.cell? ⟨w.heap.size,1,none⟩=_:=yi w1 _ 1 _ _ _ aa;have y2:w1.cell? ⟨w.heap.size,2,none⟩=_:=yi w1 _ 2 _ _ _ aa;have y3:w1.cell? ⟨w.heap.size,3,none⟩=_:=yi w1 _ 3 _ _ _ aa;have ly:w.heap.size<w1.heap.size:=(yc.1 aa).1;have f0:=yv w1 w.heap.size 0 _ _ aa;have f1:=yv w1 w.heap.size 1 _ _ aa;have f2:=yv w1 w.heap.size 2 _ _ aa;have f3:=yv w1 w.heap.size 3 _ _ aa;have an:Hid (Below w.heap.size w w1):=al.out.trans (af.mono al.out.size);have ac:=hid aa;clear ah ag af am aa;go_wp2_with fail;obtain⟨X,hX⟩:∃X,X=(((((w1.setCell ⟨w.heap.size,0,none⟩ (.int .i64 0)).setCell ⟨w.heap.size,1,none⟩ (.string ⟨#[]⟩)).setCell ⟨w.heap.size,2,none⟩ (.int .i64 0)).setCell ⟨w.heap.size,3,none⟩ (.string ⟨#[]⟩)).alloc (.cells #[.int .i64 r.vans,.int .i64 r.load,.int .i64 r.close,.int .i64 r.nodes,.int .i64 r.home,.slice aq r.stops.length ae,.slice ap r.roads.length ad] 28)):=⟨_,rfl⟩
   obtain⟨ab,ar⟩:=zj3 ac.out an.out hX;rw[<-hX];have z0:X.cell? ⟨w.heap.size,0,none⟩=some (.int .i64 0):=yi X _ 0 _ _ _ ab;have z1:X.cell? ⟨w.heap.size,1,none⟩=some (.string ⟨#[]⟩):=yi X _ 1 _ _ _ ab;have z2:X.cell? ⟨w.heap.size,2,none⟩=some (.int .i64 0):=yi X _ 2 _ _ _ ab;have z3:X.cell? ⟨w.heap.size,3,none⟩=some (.string ⟨#[]⟩):=yi X _ 3 _ _ _ ab;refine yB (v:=noA 16) (by simp[results,Tryz.results24,go_sem,z0,z1,z2,z3,noA]) rfl ?_;exact⟨by rw[ao.out],ar⟩
  have ao:Hid (zc0 0=16):=rfl;go_in;go_wp2_with fail;rw[<-aj.out];refine(am.out _).mono ?_;rintro e1 w1⟨vs,vr,rfl,ah,ag,af⟩;unfold zap;obtain⟨aq,ae,av,_,_⟩:=zg ah;obtain⟨ap,ad,aw,_,_⟩:=zg ag;subst av aw;have aa:=(af.block _ ay).trans ai.out;have y0:w1.cell? ⟨w.heap.size,0,none⟩=_:=yi w1 _ 0 _ _ _ aa;have y1:w1.cell? ⟨w.heap.size,1,none⟩=_:=yi w1 _ 1 _ _ _ aa;have y2:w1.cell? ⟨w.heap.size,2,none⟩=_:=yi w1 _ 2 _ _ _ aa;have y3:w1.cell? ⟨w.heap.size,3,none⟩=_:=yi w1 _ 3 _ _ _ aa;have ly:w.heap.size<w1.heap.size:=(yc.1 aa).1;have f0:=yv w1 w.heap.size 0 _ _ aa;have f1:=yv w1 w.heap.size 1 _ _ aa;have f2:=yv w1 w.heap.size 2 _ _ aa;have f3:=yv w1 w.heap.size 3 _ _ aa;have an:Hid (Below w.heap.size w w1):=al.out.trans (af.mono al.out.size);have ac:=hid aa;clear ah ag af am aa;go_wp2_with fail;obtain⟨X,hX⟩:∃X,X=(((((w1.setCell ⟨w.heap.size,0,none⟩ (.int .i64 0)).setCell ⟨w.heap.size,1,none⟩ (.string ⟨#[]⟩)).setCell ⟨w.heap.size,2,none⟩ (.int .i64 0)).setCell ⟨w.heap.size,3,none⟩ (.string ⟨#[]⟩)).alloc (.cells #[.int .i64 r.vans,.int .i64 r.load,.int .i64 r.close,.int .i64 r.nodes,.int .i64 r.home,.slice aq r.stops.length ae,.slice ap r.roads.length ad] 28)):=⟨_,rfl⟩
  obtain⟨ab,ar⟩:=zj3 ac.out an.out hX;rw[<-hX];have z0:X.cell? ⟨w.heap.size,0,none⟩=some (.int .i64 0):=yi X _ 0 _ _ _ ab;have z1:X.cell? ⟨w.heap.size,1,none⟩=some (.string ⟨#[]⟩):=yi X _ 1 _ _ _ ab;have z2:X.cell? ⟨w.heap.size,2,none⟩=some (.int .i64 0):=yi X _ 2 _ _ _ ab;have z3:X.cell? ⟨w.heap.size,3,none⟩=some (.string ⟨#[]⟩):=yi X _ 3 _ _ _ ab;refine yB (v:=noA 16) (by simp[results,Tryz.results24,go_sem,z0,z1,z2,z3,noA]) rfl ?_;exact⟨by rw[ao.out],ar⟩
 have ao:Hid (zc0 er=er):=by show _=_;unfold zc0;rw[yg he]
 have b0:(er != 0)=true:=by simpa using he
 clear he h;go_in;go_wp2_with fail;rw[<-aj.out];refine(am.out _).mono ?_;rintro e1 w1⟨vs,vr,rfl,ah,ag,af⟩;unfold zap;obtain⟨aq,ae,av,_,_⟩:=zg ah;obtain⟨ap,ad,aw,_,_⟩:=zg ag;subst av aw;have aa:=(af.block _ ay).trans ai.out;have y0:w1.cell? ⟨w.heap.size,0,none⟩=_:=yi w1 _ 0 _ _ _ aa;have y1:w1.cell? ⟨w.heap.size,1,none⟩=_:=yi w1 _ 1 _ _ _ aa;have y2:w1.cell? ⟨w.heap.size,2,none⟩=_:=yi w1 _ 2 _ _ _ aa;have y3:w1.cell? ⟨w.heap.size,3,none⟩=_:=yi w1 _ 3 _ _ _ aa;have ly:w.heap.size<w1.heap.size:=(yc.1 aa).1;have f0:=yv w1 w.heap.size 0 _ _ aa;have f1:=yv w1 w.heap.size 1 _ _ aa;have f2:=yv w1 w.heap.size 2 _ _ aa;have f3:=yv w1 w.heap.size 3 _ _ aa;have an:Hid (Below w.heap.size w w1):=al.out.trans (af.mono al.out.size);have ac:=hid aa;clear ah ag af am aa;go_wp2_with fail;obtain⟨X,hX⟩:∃X,X=(((((w1.setCell ⟨w.heap.size,0,none⟩ (.int .i64 0)).setCell ⟨w.heap.size,1,none⟩ (.string ⟨#[]⟩)).setCell ⟨w.heap.size,2,none⟩ (.int .i64 0)).setCell ⟨w.heap.size,3,none⟩ (.string ⟨#[]⟩)).alloc (.cells #[.int .i64 r.vans,.int .i64 r.load,.int .i64 r.close,.int .i64 r.nodes,.int .i64 r.home,.slice aq r.stops.length ae,.slice ap r.roads.length ad] 28)):=⟨_,rfl⟩
 obtain⟨ab,ar⟩:=zj3 ac.out an.out hX;rw[<-hX];have z0:X.cell? ⟨w.heap.size,0,none⟩=some (.int .i64 0):=yi X _ 0 _ _ _ ab;have z1:X.cell? ⟨w.heap.size,1,none⟩=some (.string ⟨#[]⟩):=yi X _ 1 _ _ _ ab;have z2:X.cell? ⟨w.heap.size,2,none⟩=some (.int .i64 0):=yi X _ 2 _ _ _ ab;have z3:X.cell? ⟨w.heap.size,3,none⟩=some (.string ⟨#[]⟩):=yi X _ 3 _ _ _ ab;refine yB (v:=noA er) (by simp[results,Tryz.results24,go_sem,z0,z1,z2,z3,noA]) rfl ?_;exact⟨by rw[ao.out],ar⟩
theorem zse(s:ByteArray)(b:Int)(w:World)(hs:s.size<=maxLen)(h:(zv s.data.toList).2.2≠0\/b<0\/144115188075855872<b):Calls Tryz.prog 13 #[.string s,.int .i64 b] w λe w'=>e=.returned (noA (zc0 (zv s.data.toList).2.2))/\Below w.heap.size w w':=by have HC:=hid (λW=>ztU s b W hs h);generalize zc0 (zv s.data.toList).2.2=f at*;clear h;unfold noA at*;go_in;go_wp2_with fail;refine(HC.out _).mono ?_;rintro e1 w1⟨rfl,ab⟩;have aa:w1.heap[w.heap.size]?=some (.cells #[.int .i64 0,.string ⟨#[]⟩,.int .i64 0,.string ⟨#[]⟩] 35 (0,0)):=(ab.block _ (by simp)).trans (yx w _);have y0:w1.cell? ⟨w.heap.size,0,none⟩=_:=yi w1 _ 0 _ _ _ aa;have y1:w1.cell? ⟨w.heap.size,1,none⟩=_:=yi w1 _ 1 _ _ _ aa;have y2:w1.cell? ⟨w.heap.size,2,none⟩=_:=yi w1 _ 2 _ _ _ aa;have y3:w1.cell? ⟨w.heap.size,3,none⟩=_:=yi w1 _ 3 _ _ _ aa;have ly:w.heap.size<w1.heap.size:=(yc.1 aa).1;have f0:=yv w1 w.heap.size 0 _ _ aa;have f1:=yv w1 w.heap.size 1 _ _ aa;have f2:=yv w1 w.heap.size 2 _ _ aa;have f3:=yv w1 w.heap.size 3 _ _ aa;have ac:Hid (Below w.heap.size w w1):=(zj w _).trans (ab.mono (by simp));clear ab aa HC;go_wp2_with fail;refine yB (v:=.tuple #[.agg #[.int .i64 0,.string ⟨#[]⟩,.int .i64 0,.string ⟨#[]⟩],.int .i64 f]) (by simp[results,Tryz.results13,go_sem,y0,y1,y2,y3]) rfl ?_;exact⟨rfl,(((ac.out.setCell (by exact yh _) _).setCell (by exact yh _) _).setCell (by exact yh _) _).setCell (by exact yh _) _⟩
theorem zrC(s:ByteArray)(b:Int)(w:World)(hs:s.size<=maxLen)(h:(zv s.data.toList).2.2≠0\/b<0\/144115188075855872<b):Calls Tryz.prog 33 #[.string s,.int .i64 b,.agg #[.int .i64 0,.string ⟨#[]⟩,.int .i64 0,.string ⟨#[]⟩],.int .i64 (zc0 (zv s.data.toList).2.2)] w λe w'=>e=.returned (.bool true)/\Below w.heap.size w w':=by
 have ak:Hid (∀W,Calls Tryz.prog 52 #[.string s] W (zfp W (zv s.data.toList))):=λW=>zmb s W hs;have aE:(zv s.data.toList).2.2=0->zE (zv s.data.toList).1:=zfq;have aB:=hid aE;clear aE;generalize zv s.data.toList=x at*;obtain⟨r,nat,er⟩:=x;dsimp only at h aB⊢;obtain⟨W0,av⟩:∃W0,W0=w.alloc (.cells #[.int .i64 0,.string ⟨#[]⟩,.int .i64 0,.string ⟨#[]⟩] 35):=⟨_,rfl⟩
 have aj:Hid (Below w.heap.size w W0):=by show Below _ _ _;rw[av];exact zj w _
 have ah:W0.heap[w.heap.size]?=some (.cells #[.int .i64 0,.string ⟨#[]⟩,.int .i64 0,.string ⟨#[]⟩] 35 (0,0)):=by rw[av];exact yx w _
 have af:=hid ah;have ay:w.heap.size<W0.heap.size:=(yc.1 ah).1;have ag:=hid av;clear hs av ah;by_cases he:er=0
 ·subst he;have aw:Hid (zc0 0=16):=rfl;rw[aw.out];have hns:=(aB.out rfl).nstops;have an:b<0\/(¬b<0/\144115188075855872<b):=by
   rcases h with h|h|h
   ·exact absurd rfl h
   ·exact .inl h
   omega
  clear h;rcases an with hb|⟨hb,hb2⟩
  ·skip
   go_in;go_wp2_with fail;rw[<-ag.out];refine(ak.out _).mono ?_;rintro e1 w1⟨vs,vr,vw,rfl,ad,ac,_,ai,ab⟩;dsimp only at ad ac ai;obtain⟨aD,am,aq,_,_⟩:=zg ad;obtain⟨aC,al,ar,_,_⟩:=zg ac;obtain⟨us,ap,ao⟩:=ai rfl;have az:SqR w1 vw (r.stops.length+1) (za r):=ao.sq ap (by omega);obtain⟨aF,ax,au,_⟩:=az;subst aq ar au;have aa:=(ab.block _ ay).trans af.out;have y0:w1.cell? ⟨w.heap.size,0,none⟩=some (.int .i64 0):=yi w1 _ 0 _ _ _ aa;have y1:w1.cell? ⟨w.heap.size,1,none⟩=some (.string ⟨#[]⟩):=yi w1 _ 1 _ _ _ aa;have y2:w1.cell? ⟨w.heap.size,2,none⟩=some (.int .i64 0):=yi w1 _ 2 _ _ _ aa;have y3:w1.cell? ⟨w.heap.size,3,none⟩=some (.string ⟨#[]⟩):=yi w1 _ 3 _ _ _ aa;have ly:w.heap.size<w1.heap.size:=(yc.1 aa).1;have ae:Hid (Below w.heap.size w w1):=aj.out.trans (ab.mono aj.out.size);clear ad ac ab ak aa ai ao ap;unfold zi at*;go_wp2_with fail;go_ret;exact⟨rfl,ae.out.alloc ae.out.size _⟩
  skip
  go_in;go_wp2_with fail;rw[<-ag.out];refine(ak.out _).mono ?_;rintro e1 w1⟨vs,vr,vw,rfl,ad,ac,_,ai,ab⟩;dsimp only at ad ac ai;obtain⟨aD,am,aq,_,_⟩:=zg ad;obtain⟨aC,al,ar,_,_⟩:=zg ac;obtain⟨us,ap,ao⟩:=ai rfl;have az:SqR w1 vw (r.stops.length+1) (za r):=ao.sq ap (by omega);obtain⟨aF,ax,au,_⟩:=az;subst aq ar au;have aa:=(ab.block _ ay).trans af.out;have y0:w1.cell? ⟨w.heap.size,0,none⟩=some (.int .i64 0):=yi w1 _ 0 _ _ _ aa;have y1:w1.cell? ⟨w.heap.size,1,none⟩=some (.string ⟨#[]⟩):=yi w1 _ 1 _ _ _ aa;have y2:w1.cell? ⟨w.heap.size,2,none⟩=some (.int .i64 0):=yi w1 _ 2 _ _ _ aa;have y3:w1.cell? ⟨w.heap.size,3,none⟩=some (.string ⟨#[]⟩):=yi w1 _ 3 _ _ _ aa;have ly:w.heap.size<w1.heap.size:=(yc.1 aa).1;have ae:Hid (Below w.heap.size w w1):=aj.out.trans (ab.mono aj.out.size);clear ad ac ab ak aa ai ao ap;unfold zi at*;go_wp2_with fail;go_ret;exact⟨rfl,ae.out.alloc ae.out.size _⟩
 have aw:Hid (zc0 er=er):=by show _=_;unfold zc0;rw[yg he]
 rw[aw.out];have b0:(er != 0)=true:=by simpa using he
 have b1:(er==0)=false:=by simpa using he
 have b2:(er==er)=true:=by simp
 clear he h;go_in;go_wp2_with fail;rw[<-ag.out];refine(ak.out _).mono ?_;rintro e1 w1⟨vs,vr,vw,rfl,ad,ac,aA,_,ab⟩;dsimp only at ad ac aA;obtain⟨aD,am,aq,_,_⟩:=zg ad;obtain⟨aC,al,ar,_,_⟩:=zg ac;have au:=aA (by simpa using b0);subst aq ar au;have aa:=(ab.block _ ay).trans af.out;have y0:w1.cell? ⟨w.heap.size,0,none⟩=some (.int .i64 0):=yi w1 _ 0 _ _ _ aa;have y1:w1.cell? ⟨w.heap.size,1,none⟩=some (.string ⟨#[]⟩):=yi w1 _ 1 _ _ _ aa;have y2:w1.cell? ⟨w.heap.size,2,none⟩=some (.int .i64 0):=yi w1 _ 2 _ _ _ aa;have y3:w1.cell? ⟨w.heap.size,3,none⟩=some (.string ⟨#[]⟩):=yi w1 _ 3 _ _ _ aa;have ly:w.heap.size<w1.heap.size:=(yc.1 aa).1;have ae:Hid (Below w.heap.size w w1):=aj.out.trans (ab.mono aj.out.size);clear ad ac ab ak aa aA;unfold zi at*;go_wp2_with fail;go_ret;exact⟨rfl,ae.out.alloc ae.out.size _⟩
theorem zi4{w:World}{b:Nat}{v c:Int}{P t:ByteArray}{ty:TypeId}(h:w.heap[b]?=some (.cells #[.int .i64 v,.string P,.int .i64 c,.string t] ty (0,0))):w.cell? ⟨b,0,none⟩=some (.int .i64 v)/\w.cell? ⟨b,1,none⟩=some (.string P)/\w.cell? ⟨b,2,none⟩=some (.int .i64 c)/\w.cell? ⟨b,3,none⟩=some (.string t)/\b<w.heap.size:=⟨yi w b 0 _ _ _ h,yi w b 1 _ _ _ h,yi w b 2 _ _ _ h,yi w b 3 _ _ _ h,(yc.1 h).1⟩
theorem zr6(s P t:ByteArray)(r:Rd)(b:Nat)(v c:Int)(w:World)(hs:s.size<=maxLen)(hp:zv s.data.toList=(r,0,0))(a4:zE r)(hb:b<=144115188075855872)(ha:zof r b v P.data.toList c t.data.toList (zfc (zb r (za r)))):Calls Tryz.prog 33 #[.string s,.int .i64 b,.agg #[.int .i64 v,.string P,.int .i64 c,.string t],.int .i64 0] w λe w'=>e=.returned (.bool true)/\Below w.heap.size w w':=by
 have aV:Hid (∀W,Calls Tryz.prog 52 #[.string s] W (zfp W (r,0,0))):=λW=>by rw[<-hp];exact zmb s W hs
 have av:=hid a4;have hns:=av.out.nstops;have aY:P.size<=2000000:=by have h:=ha.size;rw[show P.data.toList.length=P.size by simp] at h;omega
 have a7:t.size<=70368744177664:=by have h:=ha.tlen.1;rw[show t.data.toList.length=t.size by simp] at h;exact h
 have an:Hid (zbz r P.data.toList t.data.toList=(0,0)->(∀q∈zM 10 t.data.toList,q.length<=2000000)->∀W,Calls Tryz.prog 76 #[.string s,.string P,.string t] W λe w'=>e=.returned (.tuple #[.int .i64 0,.int .i64 0])/\Below W.heap.size W w'):=λh1 h2 W=>by
  have h:=ztX s P t W hs aY (λW=>zqn t W a7 ha.tlen.2 h2) (by
   have h3:=zsN (zM 10 t.data.toList) 1 [];have h4:(zbc t.data.toList).1.length<=(zM 10 t.data.toList).length:=by unfold zbc;simpa using h3
   rw[zgH] at h4;have h5:=ha.tlen.2;omega);have e:zdA (zv s.data.toList) P.data.toList t.data.toList=(0,0):=by unfold zdA;rw[hp,ye (by simp)];exact h1
  rw[e] at h;exact h
 have aI:Hid (∀W,Calls Tryz.prog 78 #[.string t] W λe w'=>e=.returned (.int .i64 (t.data.toList.count 10:Nat))/\w'=W):=λW=>zpX t W (by omega);have a2:=ha.nodes;obtain⟨nn,a3⟩:∃nn:Nat,nn=t.data.toList.count 10:=⟨_,rfl⟩
 rw[<-a3] at aI a2;clear a3;have au:=hid ha.judge;have am:=hid ha.case_;obtain⟨W0,aD⟩:∃W0,W0=w.alloc (.cells #[.int .i64 v,.string P,.int .i64 c,.string t] 35):=⟨_,rfl⟩
 have aH:Hid (Below w.heap.size w W0):=by show Below _ _ _;rw[aD];exact zj w _
 have al:W0.heap[w.heap.size]?=some (.cells #[.int .i64 v,.string P,.int .i64 c,.string t] 35 (0,0)):=by rw[aD];exact yx w _
 have ap:=hid al;have bc:w.heap.size<W0.heap.size:=(yc.1 al).1;have aJ:=hid aD;clear hs hp a4 aD al ha a7;obtain⟨z,hz⟩:∃z:Int,z=(b:Int):=⟨_,rfl⟩
 rw[<-hz];have HZ:=hid hz;have bb0:decide (z<0)=false:=by simp;omega
 have bb1:decide (144115188075855872<z)=false:=by simp;omega
 have hnd2:decide (z<(nn:Int))=false:=by simp;omega
 clear hz hb a2;go_in;go_wp2_with fail;rw[<-aJ.out];refine(aV.out _).mono ?_;rintro e1 w1⟨vs,vr,vw,rfl,aG,aP,_,aO,aL⟩;dsimp only at aG aP aO;obtain⟨us,a8,a1⟩:=aO rfl;have a5:SqR w1 vw (r.stops.length+1) (za r):=a1.sq a8 (by omega);have a6:StR w1 vs r:=StR.own aG (λs hs=>(av.out.nice.stops s hs).1);have aW:=hid a5;have aX:=hid a6;obtain⟨ax,ad,bd,_,_⟩:=zg aG;obtain⟨aw,ac,be,_,_⟩:=zg aP;obtain⟨ay,ae,bf,_⟩:=a5;subst bd be bf;have aq:=hid ((aL.block _ bc).trans ap.out);have aS:Hid (Below w.heap.size w w1):=aH.out.trans (aL.mono aH.out.size);clear aG aP aL aV aO a1 a8 a6 ap aH;obtain⟨W1,aE⟩:∃W1,W1=w1.alloc (.cells (zi r (.slice ax r.stops.length ad) (.slice aw r.roads.length ac) (.slice ay (r.stops.length+1) ae)) 109):=⟨_,rfl⟩
 obtain⟨aF,aN,_⟩:=za1 aE;have a9:Hid (W1.heap[w1.heap.size]?=some (.cells (zi r (.slice ax r.stops.length ad) (.slice aw r.roads.length ac) (.slice ay (r.stops.length+1) ae)) 109 (0,0))):=by show _=_;rw[aE];exact yx w1 _
 have bg:w.heap.size<w1.heap.size:=(yc.1 aq.out).1;have aa:Hid (∀W,Below W1.heap.size W1 W->W.heap[w.heap.size]?=some (.cells #[.int .i64 v,.string P,.int .i64 c,.string t] 35 (0,0))/\W.heap[w1.heap.size]?=some (.cells (zi r (.slice ax r.stops.length ad) (.slice aw r.roads.length ac) (.slice ay (r.stops.length+1) ae)) 109 (0,0))/\Below w1.heap.size w1 W/\Below w.heap.size w W):=λW hW=>by have h2:Below w1.heap.size w1 W:=aF.trans (hW.mono aF.size);exact⟨(h2.block _ bg).trans aq.out,(hW.block _ aN).trans a9.out,h2,aS.out.trans (h2.mono aS.out.size)⟩
 have aU:Hid (∀W,Below W1.heap.size W1 W->Calls Tryz.prog 77 #[.agg (zi r (.slice ax r.stops.length ad) (.slice aw r.roads.length ac) (.slice ay (r.stops.length+1) ae))] W λe w'=>e=.returned (.int .i64 (zfc (zb r (za r))))/\Below W.heap.size W w'):=λW hW=>zo6 r _ _ _ W av.out (aX.out.below (aa.out W hW).2.2.1) (aW.out.below (aa.out W hW).2.2.1) ⟨_,_,_,rfl⟩;have HJ:Hid (∀W,Below W1.heap.size W1 W->Calls Tryz.prog 58 #[.agg (zi r (.slice ax r.stops.length ad) (.slice aw r.roads.length ac) (.slice ay (r.stops.length+1) ae)),.string P] W (zen W r.stops.length (zI r (za r) P.data.toList))):=λW hW=>zjq r (za r) P _ _ _ W av.out (aX.out.below (aa.out W hW).2.2.1) (aW.out.below (aa.out W hW).2.2.1) (zaB av.out) aY ⟨_,_,_,rfl⟩;have aK:=hid aE;have HBW:=hid aF;clear aE aF;obtain⟨y0,y1,y2,y3,ly⟩:=zi4 (aa.out W1 (yk _ _)).1;obtain⟨q0,q1,q2,q3,q4,q5,q6,q7⟩:=zfP (aa.out W1 (yk _ _)).2.1;unfold zi at*;generalize zfc (zb r (za r))=lv at*;go_wp2_with fail;rw[<-aK.out];refine(aU.out _ (yk _ _)).mono ?_;rintro e2 w2⟨rfl,aZ⟩;have ab:=hid aZ;clear y0 y1 y2 y3 ly q0 q1 q2 q3 q4 q5 q6 q7 aZ aU;obtain⟨y0,y1,y2,y3,ly⟩:=zi4 (aa.out w2 ab.out).1;have lg:w1.heap.size<w2.heap.size:=(yc.1 (aa.out w2 ab.out).2.1).1;go_wp2_with fail;refine(aI.out _).mono ?_;rintro e3 w3⟨rfl,rfl⟩;have hcc:(c != c)=false:=by simp
 clear aI;rcases au.out with ⟨ah,ba⟩|⟨ah,S,hj⟩
 ·have z2:(P.toList==[110,111,110,101])=true:=by rw[zb5,ah];rfl
  subst ba;rcases am.out with ⟨hv,ht,aM⟩|⟨az,aB,aR⟩
  ·subst hv;have aQ:t=⟨#[]⟩:=by cases t;simp at ht;simp[ht]
   subst aQ;have bm:decide (z<144115188075855872)=true:=by rw[HZ.out];simp;omega
   have ak:=hid (aa.out w3 ab.out).2.2.2;clear an HJ ah ht aM au am;go_wp2_with fail;go_ret;exact⟨rfl,ak.out⟩
  rcases aR with ⟨_,hx,_⟩|⟨hv,_,af⟩
  ·exact absurd ah hx
  subst hv af;have ar:=hid (an.out az aB);clear an HJ ah az aB au am;go_wp2_with fail;refine(ar.out _).mono ?_;rintro e4 w4⟨rfl,ai⟩;have ag:Hid (Below W1.heap.size W1 w4):=ab.out.trans (ai.mono ab.out.size);have ak:=hid (aa.out w4 ag.out).2.2.2;clear y0 y1 y2 y3 ly ai ar;obtain⟨y0,y1,y2,y3,ly⟩:=zi4 (aa.out w4 ag.out).1;go_wp2_with fail;go_ret;exact⟨rfl,ak.out⟩
 have z2:(P.toList==[110,111,110,101])=false:=by rw[zb5];exact yO.2 ah
 rw[hj] at HJ;have aC:Hid (∀W e w',zen W r.stops.length (c,some S,0) e w'->∃ao n cp,e=.returned (.tuple #[.int .i64 c,.slice ao n cp,.int .i64 0])/\Below W.heap.size W w'):=λW e w' bb=>by obtain⟨v,he,h1,h2,h3⟩:=bb;obtain⟨ao,cp,hv,_,_⟩:=zg (h2 S rfl).1;exact⟨ao,_,cp,by rw[he,hv],h3⟩
 obtain⟨q0,q1,q2,q3,q4,q5,q6,q7⟩:=zfP (aa.out w3 ab.out).2.1;rcases am.out with ⟨hv,ht,aM⟩|⟨az,aB,aR⟩
 ·subst hv;have aQ:t=⟨#[]⟩:=by cases t;simp at ht;simp[ht]
  subst aQ;have bm:decide (z<144115188075855872)=true:=by rw[HZ.out];simp;omega
  clear an ah ht aM au am hj;go_wp2_with fail;refine(HJ.out _ ab.out).mono ?_;intro e4 w4 aA;obtain⟨aj,nj,cj,rfl,ai⟩:=aC.out _ e4 w4 aA;have ag:Hid (Below W1.heap.size W1 w4):=ab.out.trans (ai.mono ab.out.size);have ak:=hid (aa.out w4 ag.out).2.2.2;clear y0 y1 y2 y3 ly q0 q1 q2 q3 q4 q5 q6 q7 ai aA HJ aC;obtain⟨y0,y1,y2,y3,ly⟩:=zi4 (aa.out w4 ag.out).1;go_wp2_with fail;go_ret;exact⟨rfl,ak.out⟩
 rcases aR with ⟨hv,_,af⟩|⟨_,hx,_⟩
 ·subst hv af;have ar:=hid (an.out az aB);have hce:(c==c)=true:=by simp
  clear an ah az aB au am hj;go_wp2_with fail;refine(HJ.out _ ab.out).mono ?_;intro e4 w4 aA;obtain⟨aj,nj,cj,rfl,ai⟩:=aC.out _ e4 w4 aA;have ag:Hid (Below W1.heap.size W1 w4):=ab.out.trans (ai.mono ab.out.size);clear y0 y1 y2 y3 ly q0 q1 q2 q3 q4 q5 q6 q7 ai aA HJ aC;obtain⟨y0,y1,y2,y3,ly⟩:=zi4 (aa.out w4 ag.out).1;go_wp2_with fail;refine(ar.out _).mono ?_;rintro e5 w5⟨rfl,a0⟩;have aT:Hid (Below W1.heap.size W1 w5):=ag.out.trans (a0.mono ag.out.size);have ak:=hid (aa.out w5 aT.out).2.2.2;clear y0 y1 y2 y3 ly a0 ar;obtain⟨y0,y1,y2,y3,ly⟩:=zi4 (aa.out w5 aT.out).1;go_wp2_with fail;go_ret;exact⟨rfl,ak.out⟩
 exact absurd hx ah
theorem zme{l:List UInt8}(h:(zv l).2.2=0):(zv l).2.1=0:=by
 unfold zv at h⊢;split
 ·rename_i h1;rw[yg h1] at h
 rename_i h1;rw[ye h1] at h;split
 ·rename_i h2;rw[yg h2] at h;split
  ·rfl
  rename_i h3;rw[ye h3] at h;cases h
 rename_i h2;rw[ye h2] at h;exact absurd h h2
def zkQ(s:ByteArray)(b:Int)(w:World)(e:Ending)(w':World):Prop:=∃(v c f:Int)(P t:ByteArray),e=.returned (.tuple #[.agg #[.int .i64 v,.string P,.int .i64 c,.string t],.int .i64 f])/\(-9223372036854775808<=f/\f<=9223372036854775807)/\Hid (∀W2,Calls Tryz.prog 33 #[.string s,.int .i64 b,.agg #[.int .i64 v,.string P,.int .i64 c,.string t],.int .i64 f] W2 λe w'=>e=.returned (.bool true)/\Below W2.heap.size W2 w')/\Below w.heap.size w w'
theorem zoV(s:ByteArray)(b:Int)(B:Nat)(w:World)(hs:s.size<=maxLen)(hT:zdX B w)(hB:B<=w.heap.size):Calls Tryz.prog 13 #[.string s,.int .i64 b] w (zkQ s b w):=by
 by_cases h:(zv s.data.toList).2.2≠0\/b<0\/144115188075855872<b
 ·refine(zse s b w hs h).mono ?_;rintro e w'⟨rfl,hb⟩;have hr:=znl s.data.toList;refine⟨0,0,zc0 (zv s.data.toList).2.2,⟨#[]⟩,⟨#[]⟩,rfl,?_,λW2=>zrC s b W2 hs h,hb⟩;unfold zc0;split<;>omega
 have h0:(zv s.data.toList).2.2=0:=by
  by_cases e:(zv s.data.toList).2.2=0
  ·exact e
  exact absurd (.inl e) h
 have aa:=zfq h0;obtain⟨r,hr,hp⟩:∃r,r=(zv s.data.toList).1/\zv s.data.toList=(r,0,0):=by have h1:=zme h0;generalize zv s.data.toList=x at*;obtain⟨r,a,b⟩:=x;dsimp only at h0 h1;exact⟨r,rfl,by rw[h0,h1]⟩
 rw[<-hr] at aa;have ab:0<=b:=by omega
 have hb1:b<=144115188075855872:=by omega
 have h2:=zsw s r B b.toNat w hs hp aa (by omega) hT hB;rw[yaq ab] at h2;refine h2.mono ?_;rintro e w'⟨rfl,hg,hb⟩;refine⟨_,_,0,_,_,rfl,by omega,λW2=>?_,hb⟩;have h3:=zr6 s ⟨(zdo (zb r (za r)) b.toNat).toArray⟩ ⟨(zbT (zb r (za r)) b.toNat).toArray⟩ r b.toNat (zdZ (zb r (za r)) b.toNat) (zeD (zb r (za r)) b.toNat) W2 hs hp aa (by omega) (by have:=zwb aa (by omega) hg;show zof r _ _ (zdo (zb r (za r)) b.toNat).toArray.toList _ (zbT (zb r (za r)) b.toNat).toArray.toList _;rw[ybm,ybm];exact this);rw[yaq ab] at h3;exact h3
theorem zm1(w0:World)(hb:Nat)(o:OpV)(ho:o.k=11)(aw:o.s.size<=maxLen)(hT:zdX w0.heap.size w0):zur w0 hb o:=by
 intro w m h hm aj;have ag:w0.heap.size<=w.heap.size:=aj.size;have HH:=hid h;have HS:Hid (∀W,Below w.heap.size w W->Calls Tryz.prog 13 #[.string o.s,.int .i64 o.n] W (zkQ o.s o.n W)):=λW hW=>zoV o.s o.n w0.heap.size W aw (hT.on (aj.trans (hW.mono ag)) (yh _)) (yP ag hW.size);have an:=hid (zvX o w);generalize w0.heap.size=bb at*;unfold OpV.vals;rw[ho];clear h aj hT;go_in;go_wp2_with fail;rw[<-ho];refine(HS.out _ (zj w _)).mono ?_;rintro e1 w1⟨v,c,f,P,t,rfl,hf,ao,af⟩;have ab:=zt5 an.out af;obtain⟨o2,ai⟩:=zwD ab;have o1:w1.cell? ⟨w.heap.size,1,none⟩=some (.int .i64 o.n):=by rw[yi _ _ _ _ _ _ ab];rfl
 have ak:Hid (Below w.heap.size w w1):=(zj w _).trans (af.mono (by simp));clear af HS;obtain⟨W1,ad⟩:∃W1,W1=w1.alloc (.cells #[.int .i64 v,.string P,.int .i64 c,.string t] 35):=⟨_,rfl⟩
 have ae:Below w1.heap.size w1 W1:=by rw[ad];exact zj w1 _
 have ah:W1.heap[w1.heap.size]?=some (.cells #[.int .i64 v,.string P,.int .i64 c,.string t] 35 (0,0)):=by rw[ad];exact yx w1 _
 have ac:Hid (∀W',Below W1.heap.size W1 W'->(W'.cell? ⟨w.heap.size,2,none⟩=some (.string o.s)/\W'.cell? ⟨w.heap.size,1,none⟩=some (.int .i64 o.n)/\W'.cell? ⟨w1.heap.size,0,none⟩=some (.int .i64 v)/\W'.cell? ⟨w1.heap.size,1,none⟩=some (.string P)/\W'.cell? ⟨w1.heap.size,2,none⟩=some (.int .i64 c)/\W'.cell? ⟨w1.heap.size,3,none⟩=some (.string t))/\w1.heap.size<W'.heap.size/\Below w.heap.size w W'):=λW' aa=>by have h2:Below w1.heap.size w1 W':=ae.trans (aa.mono ae.size);obtain⟨y0,y1,y2,y3,ly⟩:=zi4 ((aa.block _ (yc.1 ah).1).trans ah);exact⟨⟨zc h2 o2 ai,zc h2 o1 ai,y0,y1,y2,y3⟩,ly,ak.out.trans (h2.mono ak.out.size)⟩
 have aq:Hid (∀W',Below W1.heap.size W1 W'->Calls Tryz.prog 34 #[.int .i64 f] W' λe w'=>e=.returned (.int .i64 f)/\(w'.cell? ⟨w.heap.size,2,none⟩=some (.string o.s)/\w'.cell? ⟨w.heap.size,1,none⟩=some (.int .i64 o.n)/\w'.cell? ⟨w1.heap.size,0,none⟩=some (.int .i64 v)/\w'.cell? ⟨w1.heap.size,1,none⟩=some (.string P)/\w'.cell? ⟨w1.heap.size,2,none⟩=some (.int .i64 c)/\w'.cell? ⟨w1.heap.size,3,none⟩=some (.string t))/\Hid (Below W1.heap.size W1 w')):=λW' aa=>by refine(zu4 f W' hf).mono ?_;rintro e w'⟨he,rfl⟩;exact⟨he,(ac.out _ aa).1,aa⟩
 have ar:Hid (∀W',Below W1.heap.size W1 W'->Calls Tryz.prog 33 #[.string o.s,.int .i64 o.n,.agg #[.int .i64 v,.string P,.int .i64 c,.string t],.int .i64 f] W' λe w'=>e=.returned (.bool true)/\(w'.cell? ⟨w.heap.size,2,none⟩=some (.string o.s)/\w'.cell? ⟨w.heap.size,1,none⟩=some (.int .i64 o.n)/\w'.cell? ⟨w1.heap.size,0,none⟩=some (.int .i64 v)/\w'.cell? ⟨w1.heap.size,1,none⟩=some (.string P)/\w'.cell? ⟨w1.heap.size,2,none⟩=some (.int .i64 c)/\w'.cell? ⟨w1.heap.size,3,none⟩=some (.string t))/\Hid (Below W1.heap.size W1 w')):=λW' aa=>by refine(ao.out W').mono ?_;rintro e w'⟨he,av⟩;have h2:Below W1.heap.size W1 w':=aa.trans (av.mono aa.size);exact⟨he,(ac.out _ h2).1,h2⟩
 have au:=hid ad;obtain⟨⟨p0,p1,y0,y1,y2,y3⟩,ly,_⟩:=ac.out W1 (yk _ _);have lo:=ya ai ae.size;clear ad ae ah o1 o2 ao hf ab an;go_wp2_with fail;rw[<-au.out];go_region_held3 (λw'=>w'.cell? ⟨w.heap.size,2,none⟩=some (.string o.s)/\w'.cell? ⟨w.heap.size,1,none⟩=some (.int .i64 o.n)/\w'.cell? ⟨w1.heap.size,0,none⟩=some (.int .i64 v)/\w'.cell? ⟨w1.heap.size,1,none⟩=some (.string P)/\w'.cell? ⟨w1.heap.size,2,none⟩=some (.int .i64 c)/\w'.cell? ⟨w1.heap.size,3,none⟩=some (.string t)) (go_keep) (first|(go_at_call 34;refine(aq.out _ (by first|exact yk _ _|exact(yk _ _).drew)).mono ?_;rintro e3 w3⟨rfl,⟨s0,s1,s2,s3,s4,s5⟩,al⟩)|(go_at_call 33;refine(ar.out _ (by first|exact al.out|exact al.out.drew)).mono ?_;rintro e4 w4⟨rfl,⟨t0,t1,t2,t3,t4,t5⟩,ap⟩));have am:=hid (ac.out _ ap.out).2.2;go_wp2_with fail;go_ret;exact⟨rfl,(HH.out.below am.out).more (Nat.le_succ _),am.out.mono ag⟩
theorem zm2(ao:Option Addr)(n c:Nat)(aa:Nat->OpV)(w:World)(hn:n<=703687441776)(hs:zha w ao n aa)(hT:zdX w.heap.size w)(ab:∀i,i<n->(aa i).s.size<=maxLen/\(aa i).t.size<=maxLen/\(aa i).u.size<=maxLen):Calls Tryz.prog 5 #[.slice ao n c] w λe w'=>e=.returned (.bool true)/\Below w.heap.size w w':=by have HC:=hid (zsT 11 11 ao n c aa w hn hs (λi hi h1 h2=>zm1 _ _ _ (by omega) (ab i hi).1 hT));clear hs ab hT;go_in;go_wp2_with fail;refine HC.out.mono ?_;rintro e2 w2⟨rfl,ac⟩;go_wp2;go_ret;exact⟨rfl,ac⟩
end Go.Proofs.YtebinaopncclgabGreatDoor
