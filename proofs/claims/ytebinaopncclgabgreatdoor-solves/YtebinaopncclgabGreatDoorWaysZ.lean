import Derived.Test.YtebinaopncclgabGreatDoorBetw
set_option maxRecDepth 100000
set_option maxHeartbeats 8000000
namespace Go.Proofs.YtebinaopncclgabGreatDoor
open Go.RowKit Go.IntWalk
theorem zdy(a b:Int)(w:World):Calls Tryz.prog 182 #[.int .i64 a,.int .i64 b] w λe w'=>e=.returned (.int .i64 (zaN a b))/\w'=w:=by
 by_cases h1:a=-1
 ·go_in;go_wp2;go_ret;exact⟨zK (by unfold zaN;rw[yg (Or.inl h1)]),rfl⟩
 by_cases h2:b=-1
 ·have e1:(a == -1)=false:=by simp[h1]
  go_in;go_wp2;go_ret;exact⟨zK (by unfold zaN;rw[ye (by omega)]),rfl⟩
 have e1:(a == -1)=false:=by simp[h1]
 have e2:(b != -1)=true:=by simp[h2]
 by_cases h3:b<a
 ·go_in;go_wp2;go_ret;exact⟨zK (by unfold zaN;rw[yg (by omega)]),rfl⟩
 go_in;go_wp2;go_ret;exact⟨zK (by unfold zaN;rw[ye (by omega)]),rfl⟩
theorem zhd{a b:Int}(h:b≠-1):zaN a b=zbx a b:=by
 unfold zaN zbx;by_cases h1:a=-1\/b<a
 ·rw[yg h1,yg (by omega)]
 rw[ye h1,ye (by omega)]
def rdF(T:Nat->Nat->Int)(m:Nat)(i j:Nat):Int:=(List.range m).foldl (λv k=>if T k 0=(i:Int)/\T k 1=(j:Int) then zaN v (T k 2) else v) (zdt i j)
theorem zja(T:Nat->Nat->Int)(m i j:Nat):rdF T (m+1) i j=if T m 0=(i:Int)/\T m 1=(j:Int) then zaN (rdF T m i j) (T m 2) else rdF T m i j:=by simp[rdF,List.range_succ]
theorem zr3{rs:List (List Int)}(h:∀s∈rs,∃a b c,s=[a,b,c]/\0<=a/\0<=b/\0<=c)(i j:Nat):∀k,k<=rs.length->rdF (zeb rs) k i j=zaV (rs.take k) i j:=by
 intro k;induction k with
 | zero=>intro _;rfl
 | succ k ih=>
  intro hk;obtain⟨a,b,c,hs,ha,hb,hc⟩:=h _ (ym (show k<rs.length by omega));rw[zja,ih (by omega),zir (by omega),hs,zcq (by omega) hs,zcq (by omega) hs,zcq (by omega) hs];show (if a=(i:Int)/\b=(j:Int) then zaN _ c else _)=upd _ a.toNat b.toNat (zbx _ c) i j;unfold upd;by_cases aa:a=(i:Int)/\b=(j:Int)
  ·rw[yg aa,yg ⟨by omega,by omega⟩,zhd (by omega)];show _=zbx (zaV (List.take k rs) a.toNat b.toNat) c;rw[show a.toNat=i by omega,show b.toNat=j by omega]
  rw[ye aa,ye (by omega)]
structure zJ (w:World) (B U:Nat) (v:Value) (n:Nat) (D:Nat->Nat->Int) (vs:List Value):Prop where
 own:w.ownsRow B 40 1 v vs.length vs
 row:∀i (h:i<vs.length),∃gi ci cur,vs[i]=.slice (some ⟨gi,0,none⟩) n ci/\(B<=gi/\gi<U)/\w.heap[gi]?=some (.cells cur 3 (0,0))/\∀j,j<n->cur[j]?=some (.int .i64 (D i j))
theorem zJ.nil(w:World)(B U n:Nat)(D:Nat->Nat->Int):zJ w B U (.slice none 0 0) n D []:=⟨yC _ _ _ _,λi h=>absurd h (by simp)⟩
theorem zJ.below{w w':World}{B U U' n:Nat}{v:Value}{D:Nat->Nat->Int}{vs:List Value}(h:zJ w B U v n D vs)(hb:Below w.heap.size w w')(hU:U<=U'):zJ w' B U' v n D vs:=⟨ze h.own hb,λi hi=>by obtain⟨gi,ci,cur,k1,k2,k3,k4⟩:=h.row i hi;exact⟨gi,ci,cur,k1,by omega,by rw[hb.block _ (yc.1 k3).1];exact k3,k4⟩⟩
theorem zJ.base{w:World}{B B' U n:Nat}{v:Value}{D:Nat->Nat->Int}{vs:List Value}(h:zJ w B U v n D vs)(hb:B'<=B):zJ w B' U v n D vs:=⟨zan h.own hb,λi hi=>by obtain⟨gi,ci,cur,k1,k2,k3,k4⟩:=h.row i hi;exact⟨gi,ci,cur,k1,by omega,k3,k4⟩⟩
theorem zJ.at{w:World}{B U n:Nat}{v:Value}{D:Nat->Nat->Int}{vs:List Value}(h:zJ w B U v n D vs){i:Nat}(hi:i<vs.length):∃g c gi ci,v=.slice (some ⟨g,0,none⟩) vs.length c/\g<w.heap.size/\w.cell? ⟨g,i,none⟩=some (.slice (some ⟨gi,0,none⟩) n ci)/\gi<w.heap.size/\∀j,j<n->w.cell? ⟨gi,j,none⟩=some (.int .i64 (D i j)):=by obtain⟨gi,ci,cur,k1,k2,k3,k4⟩:=h.row i hi;obtain⟨g,cap,e,hg,hc⟩:=zdf h.own hi hi;exact⟨g,cap,gi,ci,e,hg,by rw[hc,k1],(yc.1 k3).1,λj hj=>by rw[yi _ _ _ _ _ _ k3];exact k4 j hj⟩
theorem zJ.grown{w w':World}{B U n:Nat}{v l:Value}{D:Nat->Nat->Int}{vs:List Value}{Bl q:Nat}{zs:List Value}(h:zJ w B U v n D vs)(hl:w.ownsRow Bl 3 1 l q zs)(hB:U<=Bl)(hg:w.grownBy w' l.ownBlock):zJ w' B U v n D vs:=⟨h.own.kept hg (zfh h.own hl (by decide)),λi hi=>by obtain⟨gi,ci,cur,k1,k2,k3,k4⟩:=h.row i hi;refine⟨gi,ci,cur,k1,k2,?_,k4⟩;rw[hg.block _ (yc.1 k3).1 (λe=>by have h5:=(hl.lt _ e.symm).1;omega)];exact k3⟩
theorem zJ.push{w X w':World}{B U n Bl:Nat}{v v' l:Value}{D:Nat->Nat->Int}{vs zs:List Value}(h:zJ w B U v n D vs)(hl:w.ownsRow Bl 3 1 l n zs)(hn:0<n)(hB:B<=Bl)(hX:Below w.heap.size w X)(hg:X.grownBy w' v.ownBlock)(ho:w'.ownsRow B 40 1 v' (vs.length+1) (vs++[l]))(hz:∀j,j<n->zs[j]?=some (.int .i64 (D vs.length j))):zJ w' B w'.heap.size v' n D (vs++[l]):=by
 have hk:zZ [40] w w':=(zZ.of_below hX).trans (zZ.grown (ze h.own hX) (by simp) hg);refine⟨by rw[yz];exact ho,λi hi=>?_⟩;by_cases aa:i<vs.length
 ·obtain⟨gi,ci,cur,k1,k2,k3,k4⟩:=h.row i aa;have k5:=hk _ _ _ _ k3 (by decide);exact⟨gi,ci,cur,by rw[yaG aa];exact k1,⟨k2.1,(yc.1 k5).1⟩,k5,k4⟩
 have ac:i=vs.length:=by simp at hi;omega
 subst ac;rcases hl.2 with ⟨_,h0⟩|⟨g,cap,cur,rfl,hb,ab,h1,h2,h3,h4⟩
 ·omega
 have k5:=hk _ _ _ _ ab (by decide);refine⟨g,cap,cur,by simp,⟨by omega,(yc.1 k5).1⟩,k5,λj hj=>?_⟩;have h6:=hz j hj;rw[<-h4,yaV (by omega)] at h6;simpa using h6
theorem zpb(X0 X1 X2 X4:Int)(N:Nat)(T:Nat->Nat->Int)(aW:Value)(ah:Option Addr)(m ab:Nat)(w:World)(hN:N<=12)(hm:m<=40)(hr:zhp w ah m 3 T)(a8:∃a n c,aW=.slice a n c):Calls Tryz.prog 161 #[.agg #[.int .i64 X0,.int .i64 X1,.int .i64 X2,.int .i64 N,.int .i64 X4,aW,.slice ah m ab]] w λe w'=>∃v vs,e=.returned v/\vs.length=N/\zJ w' w.heap.size w'.heap.size v N (rdF T m) vs/\Below w.heap.size w w':=by
 obtain⟨i0,hi,aT,aU,aV⟩:=info_parts Tryz.infoInt;obtain⟨j0,hj,a9,ba,bb⟩:=info_parts Tryz.infoInts;obtain⟨a0,n0,c0,rfl⟩:=a8;have HR:=hid hr;clear hr;go_in;go_wp2_with fail;obtain⟨W,hW⟩:∃W,W=w.alloc (.cells #[.int .i64 X0,.int .i64 X1,.int .i64 X2,.int .i64 N,.int .i64 X4,.slice a0 n0 c0,.slice ah m ab] 28):=⟨_,rfl⟩
 have aN:Hid (W.heap[w.heap.size]?=some (.cells #[.int .i64 X0,.int .i64 X1,.int .i64 X2,.int .i64 N,.int .i64 X4,.slice a0 n0 c0,.slice ah m ab] 28 (0,0))):=by show _=_;rw[hW];exact yx w _
 have aL:Hid (Below w.heap.size w W):=by show Below _ _ _;rw[hW];exact zj w _
 have a1:W.heap.size=w.heap.size+1:=by rw[hW];simp
 rw[<-hW];clear hW;go_loopw[3,4] (λov i wr=>∃(k:Nat)(vs:List Value),i=.int .i64 k/\k<=N/\vs.length=k/\Hid (zJ wr W.heap.size wr.heap.size ov N (rdF T m) vs)/\Hid (Below W.heap.size W wr)) (λ_ i _=>N-(intOf i).toNat)
 ·exact⟨0,[],rfl,by omega,rfl,zJ.nil _ _ _ _ _,yk _ _⟩
 obtain⟨k,vs,rfl,hk,ay,HG,HB⟩:=hrel;have ax:=HB.out.size;have ac:=(HB.out.block _ (by omega:w.heap.size<W.heap.size)).trans aN.out;have d3:wr.cell? ⟨w.heap.size,3,none⟩=some (.int .i64 N):=by rw[yi _ _ _ _ _ _ ac];rfl
 have aA:w.heap.size<wr.heap.size:=by omega
 obtain⟨am,ao,aR,_,_⟩:=zg HG.out.own;rw[ay] at aR;subst aR;clear ac;by_cases hlt:k<N
 ·obtain⟨wo,az⟩:∃wo,wo=wr:=⟨_,rfl⟩
  have aY:Hid (zJ wo W.heap.size wo.heap.size (.slice am k ao) N (rdF T m) vs):=by show zJ _ _ _ _ _ _ _;rw[az];exact HG.out
  have av:Hid (Below W.heap.size W wo):=by show Below _ _ _;rw[az];exact HB.out
  have aE:W.heap.size<=wo.heap.size:=av.out.size;go_wp2_with fail;rw[<-az];clear az HG HB ax d3 aA;go_loopw[5,6] (λl j wr=>∃q:Nat,j=.int .i64 q/\q<=N/\Hid (wr.ownsRow wo.heap.size 3 1 l q (zd ((List.range q).map (rdF T m k))))/\Hid (zJ wr W.heap.size wo.heap.size (.slice am k ao) N (rdF T m) vs)/\Hid (Below wo.heap.size wo wr)) (λ_ j _=>N-(intOf j).toNat)
  ·exact⟨0,rfl,by omega,yC _ _ _ _,aY,yk _ _⟩
  obtain⟨q,rfl,hq,HL,HG,HB⟩:=hrel;have ax:=HB.out.size;have ac:=(HB.out.block _ (by omega:w.heap.size<wo.heap.size)).trans ((av.out.block _ (by omega:w.heap.size<W.heap.size)).trans aN.out);have d3:wr.cell? ⟨w.heap.size,3,none⟩=some (.int .i64 N):=by rw[yi _ _ _ _ _ _ ac];rfl
  have aA:w.heap.size<wr.heap.size:=by omega
  obtain⟨al,an,a5,_,_⟩:=zg HL.out;subst a5;by_cases hlq:q<N
  ·obtain⟨wi,ai⟩:∃wi,wi=wr:=⟨_,rfl⟩
   have aO:Hid (wi.heap[w.heap.size]?=some (.cells #[.int .i64 X0,.int .i64 X1,.int .i64 X2,.int .i64 N,.int .i64 X4,.slice a0 n0 c0,.slice ah m ab] 28 (0,0))):=by show _=_;rw[ai];exact ac
   have aK:Hid (wi.ownsRow wo.heap.size 3 1 (.slice al q an) q (zd ((List.range q).map (rdF T m k)))):=by show World.ownsRow _ _ _ _ _ _ _;rw[ai];exact HL.out
   have aJ:Hid (zJ wi W.heap.size wo.heap.size (.slice am k ao) N (rdF T m) vs):=by show zJ _ _ _ _ _ _ _;rw[ai];exact HG.out
   have aw:Hid (Below wo.heap.size wo wi):=by show Below _ _ _;rw[ai];exact HB.out
   have aP:wo.heap.size<=wi.heap.size:=aw.out.size;have aS:zhp wi ah m 3 T:=HR.out.below (aL.out.trans ((av.out.mono (by omega)).trans (aw.out.mono (by omega))));have aM:=hid aS;clear ac aS;by_cases aQ:(k:Int)=(q:Int)
   ·have HD:Hid (rdF T 0 k q=0):=by show zdt k q=0;unfold zdt;rw[yg (by omega)]
    go_wp2_with fail;rw[<-ai];clear ai HL HG HB ax d3 aA aQ;go_loopw[7,8] (λv i wr=>∃p:Nat,i=.int .i64 p/\v=.int .i64 (rdF T p k q)/\p<=m/\Hid (Below wi.heap.size wi wr)) (λ_ i _=>m-(intOf i).toNat)
    ·exact⟨0,rfl,by rw[HD.out],by omega,yk _ _⟩
    obtain⟨p,rfl,rfl,hp,HC⟩:=hrel;have a2:=HC.out.size;have ac:=(HC.out.block _ (by omega:w.heap.size<wi.heap.size)).trans aO.out;have d6:wr.cell? ⟨w.heap.size,6,none⟩=some (.slice ah m ab):=by rw[yi _ _ _ _ _ _ ac];rfl
    have aI:w.heap.size<wr.heap.size:=by omega
    clear ac;by_cases aG:p<m
    ·obtain⟨g,o,rfl,aF,hc⟩:=aM.out (by omega);have ag:∀j,j<3->wr.cell? ⟨g,o+p*3+j,none⟩=some (.int .i64 (T p j)):=λj hj=>zc HC.out (hc p j aG hj) aF;have y0:wr.cell? ⟨g,o+p*3,none⟩=some (.int .i64 (T p 0)):=ag 0 (by omega);have y1:wr.cell? ⟨g,o+p*3+1,none⟩=some (.int .i64 (T p 1)):=ag 1 (by omega);have y2:wr.cell? ⟨g,o+p*3+2,none⟩=some (.int .i64 (T p 2)):=ag 2 (by omega);have a3:g<wr.heap.size:=by omega
     have HS:=hid (zja T p k q);clear ag hc;generalize T p 0=ra at*;generalize T p 1=rb at*;generalize T p 2=rc at*;by_cases ha:ra=(k:Int)
     ·by_cases hb:rb=(q:Int)
      ·have HV:Hid (rdF T (p+1) k q=zaN (rdF T p k q) rc):=by show _=_;rw[HS.out,yg ⟨ha,hb⟩]
       generalize rdF T p k q=vv at*;have e1:(ra==(k:Int))=true:=by simp[ha]
       have e2:(rb==(q:Int))=true:=by simp[hb]
       clear ha hb HS;go_wp2_with(go_at_call 182;refine(zdy _ _ _).mono ?_;rintro e5 w5⟨rfl,rfl⟩);go_roundw
       ·exact⟨p+1,by go_num,by rw[HV.out],by omega,by first|exact HC|exact HC.out.drew⟩
       simp[intOf];omega
      have HV:Hid (rdF T (p+1) k q=rdF T p k q):=by show _=_;rw[HS.out,ye (λh=>hb h.2)]
      generalize rdF T p k q=vv at*;have e1:(ra==(k:Int))=true:=by simp[ha]
      have e2:(rb==(q:Int))=false:=by simp[hb]
      clear ha hb HS;go_wp2;go_roundw
      ·exact⟨p+1,by go_num,by rw[HV.out],by omega,by first|exact HC|exact HC.out.drew⟩
      simp[intOf];omega
     have HV:Hid (rdF T (p+1) k q=rdF T p k q):=by show _=_;rw[HS.out,ye (λh=>ha h.1)]
     generalize rdF T p k q=vv at*;have e1:(ra==(k:Int))=false:=by simp[ha]
     clear ha HS;go_wp2;go_roundw
     ·exact⟨p+1,by go_num,by rw[HV.out],by omega,by first|exact HC|exact HC.out.drew⟩
     simp[intOf];omega
    have au:p=m:=by omega
    have ak:=hid (ze aK.out HC.out);have aC:=hid (aJ.out.below HC.out (yh _));have HV:Hid (rdF T p k q=rdF T m k q):=by show _=_;rw[au]
    have aq:Below wo.heap.size wo wr:=aw.out.trans (HC.out.mono aP);have aj:=hid aq;clear au aq;generalize rdF T p k q=vv at*;go_wp2_with(at_builtin;refine yy _ rfl _ _ 40 rfl wo.heap.size 3 i0 (.int .i64 0) 1 8 Tryz.underlying40 hi aT aU aV rfl (by decide) _ _ _ rfl (ak.out.alloc _) ⟨wr.heap.size,0,none⟩ 1 1 [.int .i64 vv] rfl rfl ?c1 ?c2 ?c3 ?c4 ?c5 ?_)
    case c1=>exact za0 rfl rfl
    case c2=>intro u hu;simp at hu;subst hu;rfl
    case c3=>unfold maxLen;omega
    case c4=>omega
    case c5=>simp;omega
    intro v' w6 aa ae _;have ap:Hid (w6.ownsRow wo.heap.size 3 1 v' (q+1) (zd ((List.range (q+1)).map (rdF T m k)))):=by
     show World.ownsRow _ _ _ _ _ _ _;have e:zd ((List.range (q+1)).map (rdF T m k))=zd ((List.range q).map (rdF T m k))++[.int .i64 vv]:=by rw[HV.out];simp[zd,List.range_succ]
     rw[e];exact aa
    have ad:(wr.alloc (.cells #[.int .i64 vv] 3)).grownBy w6 (Value.slice al q an).ownBlock:=ae;have aD:Hid (zJ w6 W.heap.size wo.heap.size (.slice am k ao) N (rdF T m) vs):=(aC.out.below (zj wr _) (yh _)).grown (ze ak.out (zj wr _)) (yh _) ad;have aB:Hid (Below wo.heap.size wo w6):=(aj.out.trans ((zj wr _).mono aj.out.size)).grown ad (by have:=aj.out.size;simp;omega) (λx hx=>(ak.out.lt x hx).1);obtain⟨_,_,aH,_,_⟩:=zg ap.out;subst aH;clear aa ae ad;go_wp2;go_roundw
    ·exact⟨q+1,by go_num,by omega,ap,aD,aB⟩
    simp[intOf];omega
   have HD:Hid (rdF T 0 k q=-1):=by show zdt k q=-1;unfold zdt;rw[ye (by omega)]
   have a4:((k:Int)==(q:Int))=false:=by simp;omega
   go_wp2_with fail;rw[<-ai];clear ai HL HG HB ax d3 aA aQ a4;go_loopw[7,8] (λv i wr=>∃p:Nat,i=.int .i64 p/\v=.int .i64 (rdF T p k q)/\p<=m/\Hid (Below wi.heap.size wi wr)) (λ_ i _=>m-(intOf i).toNat)
   ·exact⟨0,rfl,by rw[HD.out],by omega,yk _ _⟩
   obtain⟨p,rfl,rfl,hp,HC⟩:=hrel;have a2:=HC.out.size;have ac:=(HC.out.block _ (by omega:w.heap.size<wi.heap.size)).trans aO.out;have d6:wr.cell? ⟨w.heap.size,6,none⟩=some (.slice ah m ab):=by rw[yi _ _ _ _ _ _ ac];rfl
   have aI:w.heap.size<wr.heap.size:=by omega
   clear ac;by_cases aG:p<m
   ·obtain⟨g,o,rfl,aF,hc⟩:=aM.out (by omega);have ag:∀j,j<3->wr.cell? ⟨g,o+p*3+j,none⟩=some (.int .i64 (T p j)):=λj hj=>zc HC.out (hc p j aG hj) aF;have y0:wr.cell? ⟨g,o+p*3,none⟩=some (.int .i64 (T p 0)):=ag 0 (by omega);have y1:wr.cell? ⟨g,o+p*3+1,none⟩=some (.int .i64 (T p 1)):=ag 1 (by omega);have y2:wr.cell? ⟨g,o+p*3+2,none⟩=some (.int .i64 (T p 2)):=ag 2 (by omega);have a3:g<wr.heap.size:=by omega
    have HS:=hid (zja T p k q);clear ag hc;generalize T p 0=ra at*;generalize T p 1=rb at*;generalize T p 2=rc at*;by_cases ha:ra=(k:Int)
    ·by_cases hb:rb=(q:Int)
     ·have HV:Hid (rdF T (p+1) k q=zaN (rdF T p k q) rc):=by show _=_;rw[HS.out,yg ⟨ha,hb⟩]
      generalize rdF T p k q=vv at*;have e1:(ra==(k:Int))=true:=by simp[ha]
      have e2:(rb==(q:Int))=true:=by simp[hb]
      clear ha hb HS;go_wp2_with(go_at_call 182;refine(zdy _ _ _).mono ?_;rintro e5 w5⟨rfl,rfl⟩);go_roundw
      ·exact⟨p+1,by go_num,by rw[HV.out],by omega,by first|exact HC|exact HC.out.drew⟩
      simp[intOf];omega
     have HV:Hid (rdF T (p+1) k q=rdF T p k q):=by show _=_;rw[HS.out,ye (λh=>hb h.2)]
     generalize rdF T p k q=vv at*;have e1:(ra==(k:Int))=true:=by simp[ha]
     have e2:(rb==(q:Int))=false:=by simp[hb]
     clear ha hb HS;go_wp2;go_roundw
     ·exact⟨p+1,by go_num,by rw[HV.out],by omega,by first|exact HC|exact HC.out.drew⟩
     simp[intOf];omega
    have HV:Hid (rdF T (p+1) k q=rdF T p k q):=by show _=_;rw[HS.out,ye (λh=>ha h.1)]
    generalize rdF T p k q=vv at*;have e1:(ra==(k:Int))=false:=by simp[ha]
    clear ha HS;go_wp2;go_roundw
    ·exact⟨p+1,by go_num,by rw[HV.out],by omega,by first|exact HC|exact HC.out.drew⟩
    simp[intOf];omega
   have au:p=m:=by omega
   have ak:=hid (ze aK.out HC.out);have aC:=hid (aJ.out.below HC.out (yh _));have HV:Hid (rdF T p k q=rdF T m k q):=by show _=_;rw[au]
   have aq:Below wo.heap.size wo wr:=aw.out.trans (HC.out.mono aP);have aj:=hid aq;clear au aq;generalize rdF T p k q=vv at*;go_wp2_with(at_builtin;refine yy _ rfl _ _ 40 rfl wo.heap.size 3 i0 (.int .i64 0) 1 8 Tryz.underlying40 hi aT aU aV rfl (by decide) _ _ _ rfl (ak.out.alloc _) ⟨wr.heap.size,0,none⟩ 1 1 [.int .i64 vv] rfl rfl ?c1 ?c2 ?c3 ?c4 ?c5 ?_)
   case c1=>exact za0 rfl rfl
   case c2=>intro u hu;simp at hu;subst hu;rfl
   case c3=>unfold maxLen;omega
   case c4=>omega
   case c5=>simp;omega
   intro v' w6 aa ae _;have ap:Hid (w6.ownsRow wo.heap.size 3 1 v' (q+1) (zd ((List.range (q+1)).map (rdF T m k)))):=by
    show World.ownsRow _ _ _ _ _ _ _;have e:zd ((List.range (q+1)).map (rdF T m k))=zd ((List.range q).map (rdF T m k))++[.int .i64 vv]:=by rw[HV.out];simp[zd,List.range_succ]
    rw[e];exact aa
   have ad:(wr.alloc (.cells #[.int .i64 vv] 3)).grownBy w6 (Value.slice al q an).ownBlock:=ae;have aD:Hid (zJ w6 W.heap.size wo.heap.size (.slice am k ao) N (rdF T m) vs):=(aC.out.below (zj wr _) (yh _)).grown (ze ak.out (zj wr _)) (yh _) ad;have aB:Hid (Below wo.heap.size wo w6):=(aj.out.trans ((zj wr _).mono aj.out.size)).grown ad (by have:=aj.out.size;simp;omega) (λx hx=>(ak.out.lt x hx).1);obtain⟨_,_,aH,_,_⟩:=zg ap.out;subst aH;clear aa ae ad;go_wp2;go_roundw
   ·exact⟨q+1,by go_num,by omega,ap,aD,aB⟩
   simp[intOf];omega
  have a6:q=N:=by omega
  subst a6;go_wp2_with(at_builtin;refine yy _ rfl _ _ 31 rfl W.heap.size 40 j0 (.slice none 0 0) 1 24 Tryz.underlying31 hj a9 ba bb rfl (by decide) _ _ _ rfl ((HG.out.own).alloc _) ⟨wr.heap.size,0,none⟩ 1 1 [.slice al q an] rfl rfl ?c1 ?c2 ?c3 ?c4 ?c5 ?_)
  case c1=>exact za0 rfl rfl
  case c2=>intro u hu;simp at hu;subst hu;rfl
  case c3=>unfold maxLen;omega
  case c4=>omega
  case c5=>simp;omega
  intro v7 w7 af ar _;have ad:(wr.alloc (.cells #[.slice al q an] 40)).grownBy w7 (Value.slice am k ao).ownBlock:=ar;have aZ:Hid (zJ w7 W.heap.size w7.heap.size v7 q (rdF T m) (vs++[.slice al q an])):=HG.out.push HL.out (by omega) (by omega) (zj wr _) ad (by rw[ay,a1];exact af) (λj hj=>by rw[ay];simp[zd,hj]);have aX:Hid (Below W.heap.size W w7):=((av.out.trans (HB.out.mono aE)).trans ((zj wr _).mono (by omega))).grown ad (by simp;omega) (λx hx=>(HG.out.own.lt x (by rw[hx])).1);obtain⟨_,_,a7,_,_⟩:=zg af;subst a7;clear af ar ad HL HG HB ac d3;go_wp2;go_roundw
  ·exact⟨k+1,_,by go_num,by omega,by simp[ay],aZ,aX⟩
  simp[intOf];omega
 go_wp2;go_ret;have hkn:k=N:=by omega
 exact⟨_,vs,rfl,by omega,(HG.out.base (by omega)),aL.out.trans (HB.out.mono (by omega))⟩
theorem zto(B U N k:Nat)(v0:Value)(F:Nat->Nat->Int)(aE:List Value)(w:World)(hN:N<=12)(hk:k<N)(hl:aE.length=N)(hF:∀a b,a<N->b<N->-1<=F a b/\F a b<=40960000)(h:zJ w B U v0 N F aE):Calls Tryz.prog 162 #[v0,.int .i64 k] w λe w'=>∃v vs,e=.returned v/\vs.length=N/\zJ w' w.heap.size w'.heap.size v N (gF k F) vs/\Below w.heap.size w w':=by
 obtain⟨i0,hi,ax,ay,az⟩:=info_parts Tryz.infoInt;obtain⟨j0,hj,aM,aN,aO⟩:=info_parts Tryz.infoInts;have HH:=hid h;have HF:=hid hF;have av:=hid hl;obtain⟨a0,c0,aD,_,_⟩:=zg h.own;rw[hl] at aD;subst aD;clear h hF hl;go_in;go_wp2_with fail;go_loopw[5,6] (λov i wr=>∃(p:Nat)(vs:List Value),i=.int .i64 p/\p<=N/\vs.length=p/\Hid (zJ wr w.heap.size wr.heap.size ov N (gF k F) vs)/\Hid (Below w.heap.size w wr)) (λ_ i _=>N-(intOf i).toNat)
 ·exact⟨0,[],rfl,by omega,rfl,zJ.nil _ _ _ _ _,yk _ _⟩
 obtain⟨p,vs,rfl,hp,aq,HG,HB⟩:=hrel;have aA:=HB.out.size;obtain⟨ai,ak,aC,_,_⟩:=zg HG.out.own;rw[aq] at aC;subst aC;by_cases aB:p<N
 ·obtain⟨wo,ar⟩:∃wo,wo=wr:=⟨_,rfl⟩
  have aG:Hid (zJ wo w.heap.size wo.heap.size (.slice ai p ak) N (gF k F) vs):=by show zJ _ _ _ _ _ _ _;rw[ar];exact HG.out
  have au:Hid (Below w.heap.size w wo):=by show Below _ _ _;rw[ar];exact HB.out
  have an:w.heap.size<=wo.heap.size:=au.out.size;go_wp2_with fail;rw[<-ar];clear ar HG HB aA;go_loopw[7,8] (λl j wr=>∃q:Nat,j=.int .i64 q/\q<=N/\Hid (wr.ownsRow wo.heap.size 3 1 l q (zd ((List.range q).map (gF k F p))))/\Hid (zJ wr w.heap.size wo.heap.size (.slice ai p ak) N (gF k F) vs)/\Hid (Below wo.heap.size wo wr)) (λ_ j _=>N-(intOf j).toNat)
  ·exact⟨0,rfl,by omega,yC _ _ _ _,aG,yk _ _⟩
  obtain⟨q,rfl,hq,HL,HG,HB⟩:=hrel;have aA:=HB.out.size;obtain⟨ah,aj,aI,_,_⟩:=zg HL.out;subst aI;by_cases aw:q<N
  ·have af:=HH.out.below (au.out.trans (HB.out.mono an)) (yh U);obtain⟨g,c,gp,cp,e1,hg,x1,hgp,y1⟩:=af.at (i:=p) (by rw[av.out];exact aB);obtain⟨g',c',gk,ck,e2,_,x2,hgk,y2⟩:=af.at (i:=k) (by rw[av.out];exact hk);rw[av.out] at e1 e2;cases e1;cases e2;have x3:=y1 q aw;have x4:=y1 k hk;have x5:=y2 q aw;clear y1 y2 af;have f1:=HF.out p k aB hk;have f2:=HF.out k q hk aw;have ag:Hid (gF k F p q=if F p k≠-1/\F k q≠-1 then zbx (F p q) (F p k+F k q) else F p q):=rfl;generalize F p q=A at*;generalize F p k=Bv at*;generalize F k q=Cv at*;by_cases hb:Bv=-1
   ·have HV:Hid (gF k F p q=A):=by show _=_;rw[ag.out,ye (by omega)]
    have e1:(Bv != -1)=false:=by simp[hb]
    clear ag f1 f2 hb;go_wp2_with(first
     | (go_at_call 182;refine(zdy _ _ _).mono ?_;rintro e5 w5⟨rfl,rfl⟩)
     | (at_builtin;refine yy _ rfl _ _ 40 rfl wo.heap.size 3 i0 (.int .i64 0) 1 8 Tryz.underlying40 hi ax ay az rfl (by decide) _ _ _ rfl (HL.out.alloc _) ⟨wr.heap.size,0,none⟩ 1 1 [.int .i64 A] rfl rfl ?c1 ?c2 ?c3 ?c4 ?c5 ?_))
    case c1=>exact za0 rfl rfl
    case c2=>intro u hu;simp at hu;subst hu;rfl
    case c3=>unfold maxLen;omega
    case c4=>omega
    case c5=>simp;omega
    intro v' w6 aa ab _;have ae:Hid (w6.ownsRow wo.heap.size 3 1 v' (q+1) (zd ((List.range (q+1)).map (gF k F p)))):=by
     show World.ownsRow _ _ _ _ _ _ _;have e:zd ((List.range (q+1)).map (gF k F p))=zd ((List.range q).map (gF k F p))++[.int .i64 A]:=by rw[<-HV.out];simp[zd,List.range_succ]
     rw[e];exact aa
    have ac:(wr.alloc (.cells #[.int .i64 A] 3)).grownBy w6 (Value.slice ah q aj).ownBlock:=ab;have am:Hid (zJ w6 w.heap.size wo.heap.size (.slice ai p ak) N (gF k F) vs):=(HG.out.below (zj wr _) (yh _)).grown (ze HL.out (zj wr _)) (yh _) ac;have al:Hid (Below wo.heap.size wo w6):=(HB.out.trans ((zj wr _).mono HB.out.size)).grown ac (by have:=HB.out.size;simp;omega) (λx hx=>(HL.out.lt x hx).1);obtain⟨_,_,ap,_,_⟩:=zg ae.out;subst ap;clear aa ab ac x1 x2 x3 x4 x5;go_wp2;go_roundw
    ·exact⟨q+1,by go_num,by omega,ae,am,al⟩
    simp[intOf];omega
   by_cases hc:Cv=-1
   ·have HV:Hid (gF k F p q=A):=by show _=_;rw[ag.out,ye (by omega)]
    have e1:(Bv != -1)=true:=by simp[hb]
    have e2:(Cv != -1)=false:=by simp[hc]
    clear ag f1 f2 hb hc;go_wp2_with(first
     | (go_at_call 182;refine(zdy _ _ _).mono ?_;rintro e5 w5⟨rfl,rfl⟩)
     | (at_builtin;refine yy _ rfl _ _ 40 rfl wo.heap.size 3 i0 (.int .i64 0) 1 8 Tryz.underlying40 hi ax ay az rfl (by decide) _ _ _ rfl (HL.out.alloc _) ⟨wr.heap.size,0,none⟩ 1 1 [.int .i64 A] rfl rfl ?c1 ?c2 ?c3 ?c4 ?c5 ?_))
    case c1=>exact za0 rfl rfl
    case c2=>intro u hu;simp at hu;subst hu;rfl
    case c3=>unfold maxLen;omega
    case c4=>omega
    case c5=>simp;omega
    intro v' w6 aa ab _;have ae:Hid (w6.ownsRow wo.heap.size 3 1 v' (q+1) (zd ((List.range (q+1)).map (gF k F p)))):=by
     show World.ownsRow _ _ _ _ _ _ _;have e:zd ((List.range (q+1)).map (gF k F p))=zd ((List.range q).map (gF k F p))++[.int .i64 A]:=by rw[<-HV.out];simp[zd,List.range_succ]
     rw[e];exact aa
    have ac:(wr.alloc (.cells #[.int .i64 A] 3)).grownBy w6 (Value.slice ah q aj).ownBlock:=ab;have am:Hid (zJ w6 w.heap.size wo.heap.size (.slice ai p ak) N (gF k F) vs):=(HG.out.below (zj wr _) (yh _)).grown (ze HL.out (zj wr _)) (yh _) ac;have al:Hid (Below wo.heap.size wo w6):=(HB.out.trans ((zj wr _).mono HB.out.size)).grown ac (by have:=HB.out.size;simp;omega) (λx hx=>(HL.out.lt x hx).1);obtain⟨_,_,ap,_,_⟩:=zg ae.out;subst ap;clear aa ab ac x1 x2 x3 x4 x5;go_wp2;go_roundw
    ·exact⟨q+1,by go_num,by omega,ae,am,al⟩
    simp[intOf];omega
   have HV:Hid (gF k F p q=zaN A (Bv+Cv)):=by show _=_;rw[ag.out,yg ⟨hb,hc⟩,zhd (by omega)]
   have e1:(Bv != -1)=true:=by simp[hb]
   have e2:(Cv != -1)=true:=by simp[hc]
   clear ag;have ip:(0:Int)<=(p:Int):=by omega
   have jp:(p:Int)<(N:Int):=by omega
   have iq:(0:Int)<=(q:Int):=by omega
   have jq:(q:Int)<(N:Int):=by omega
   have ik:(0:Int)<=(k:Int):=by omega
   have jk:(k:Int)<(N:Int):=by omega
   have aL:IntKind.i64.wrap (Bv+Cv)=Bv+Cv:=zm _ (by omega);go_wp2_with fail;go_region_held3 (λw'=>w'.cell? ⟨g,p,none⟩=some (.slice (some ⟨gp,0,none⟩) N cp)/\w'.cell? ⟨g,k,none⟩=some (.slice (some ⟨gk,0,none⟩) N ck)/\w'.cell? ⟨gp,q,none⟩=some (.int .i64 A)/\w'.cell? ⟨gp,k,none⟩=some (.int .i64 Bv)/\w'.cell? ⟨gk,q,none⟩=some (.int .i64 Cv)) (go_keep) (first
     | (go_at_call 182;refine(zdy _ _ _).mono ?_;rintro e5 w5⟨rfl,rfl⟩));clear aL f1 f2 hb hc;generalize zaN A (Bv+Cv)=VV at*;go_wp2_with(at_builtin;refine yy _ rfl _ _ 40 rfl wo.heap.size 3 i0 (.int .i64 0) 1 8 Tryz.underlying40 hi ax ay az rfl (by decide) _ _ _ rfl (HL.out.alloc _) ⟨wr.heap.size,0,none⟩ 1 1 [.int .i64 VV] rfl rfl ?c1 ?c2 ?c3 ?c4 ?c5 ?_)
   case c1=>exact za0 (w:=wr) rfl rfl
   case c2=>intro u hu;simp at hu;subst hu;rfl
   case c3=>unfold maxLen;omega
   case c4=>omega
   case c5=>simp;omega
   intro v' w6 aa ab _;have ae:Hid (w6.ownsRow wo.heap.size 3 1 v' (q+1) (zd ((List.range (q+1)).map (gF k F p)))):=by
    show World.ownsRow _ _ _ _ _ _ _;have e:zd ((List.range (q+1)).map (gF k F p))=zd ((List.range q).map (gF k F p))++[.int .i64 VV]:=by rw[<-HV.out];simp[zd,List.range_succ]
    rw[e];exact aa
   have ac:(wr.alloc (.cells #[.int .i64 VV] 3)).grownBy w6 (Value.slice ah q aj).ownBlock:=⟨ab.os,ab.tape,ab.output,ab.size,ab.block⟩
   have am:Hid (zJ w6 w.heap.size wo.heap.size (.slice ai p ak) N (gF k F) vs):=(HG.out.below (zj wr _) (yh _)).grown (ze HL.out (zj wr _)) (yh _) ac;have al:Hid (Below wo.heap.size wo w6):=(HB.out.trans ((zj wr _).mono HB.out.size)).grown ac (by have:=HB.out.size;simp;omega) (λx hx=>(HL.out.lt x hx).1);obtain⟨_,_,ap,_,_⟩:=zg ae.out;subst ap;clear aa ab ac x1 x2 x3 x4 x5;go_wp2;go_roundw
   ·exact⟨q+1,by go_num,by omega,ae,am,al⟩
   simp[intOf];omega
  have aJ:q=N:=by omega
  subst aJ;go_wp2_with(at_builtin;refine yy _ rfl _ _ 31 rfl w.heap.size 40 j0 (.slice none 0 0) 1 24 Tryz.underlying31 hj aM aN aO rfl (by decide) _ _ _ rfl ((HG.out.own).alloc _) ⟨wr.heap.size,0,none⟩ 1 1 [.slice ah q aj] rfl rfl ?c1 ?c2 ?c3 ?c4 ?c5 ?_)
  case c1=>exact za0 rfl rfl
  case c2=>intro u hu;simp at hu;subst hu;rfl
  case c3=>unfold maxLen;omega
  case c4=>omega
  case c5=>simp;omega
  intro v7 w7 ad ao _;have ac:(wr.alloc (.cells #[.slice ah q aj] 40)).grownBy w7 (Value.slice ai p ak).ownBlock:=ao;have aH:Hid (zJ w7 w.heap.size w7.heap.size v7 q (gF k F) (vs++[.slice ah q aj])):=HG.out.push HL.out (by omega) (by omega) (zj wr _) ac (by rw[aq];exact ad) (λj hj=>by rw[aq];simp[zd,hj]);have aF:Hid (Below w.heap.size w w7):=((au.out.trans (HB.out.mono an)).trans ((zj wr _).mono (by omega))).grown ac (by simp;omega) (λx hx=>(HG.out.own.lt x (by rw[hx])).1);obtain⟨_,_,aK,_,_⟩:=zg ad;subst aK;clear ad ao ac HL HG HB;go_wp2;go_roundw
  ·exact⟨p+1,_,by go_num,by omega,by simp[aq],aH,aF⟩
  simp[intOf];omega
 go_wp2;go_ret;exact⟨_,vs,rfl,by omega,HG.out,HB.out⟩
theorem zsl(B i:Nat)(r:Rd)(vs vr:Value)(w:World)(hn:zlM r)(hi:i<r.stops.length+1)(hs:w.ownsRow B 62 5 vs r.stops.length (zd r.stops.flatten)):Calls Tryz.prog 163 #[zap r vs vr,.int .i64 i] w λe w'=>e=.returned (.int .i64 ((sites r).getD i 0))/\Below w.heap.size w w':=by
 have hns:=hn.nstops;obtain⟨aos,caps,rfl,ab,ad⟩:=zg hs;unfold zap;cases i with
 | zero=>clear hs ab ad;go_in;go_wp2;go_ret;exact⟨zK (by simp[sites]),zj _ _⟩
 | succ k=>
  obtain⟨g,rfl,hgl⟩:=zjP ab ad (by omega);have ac:k<r.stops.length:=by omega
  obtain⟨a,b,c,d,e,aa⟩:=zwr (hn.stops _ (ym ac)).1;have x0:w.cell? ⟨g,k*5,none⟩=some (.int .i64 a):=by have h1:=hs.cellAt (k*5+0) (by omega);rw[zek (λs hs=>(hn.stops s hs).1) ac (by omega) (z:=a) (by rw[aa];rfl)] at h1;exact h1
  have HS:Hid ((sites r).getD (k+1) 0=a):=by show _=_;simp[sites,ac,aa]
  have hne:((k:Int)+1==0)=false:=by rw[yO];omega
  clear aa hs ab ad hn;go_in;go_wp2;go_ret;exact⟨zK HS.out.symm,zj _ _⟩
theorem ztu{r:Rd}(h:zE r):rdF (zeb r.roads) r.roads.length=zaV r.roads:=by funext i j;rw[zr3 (λs hs=>by obtain⟨a,b,c,rfl,hk⟩:=h.roads s hs;have:=zfs.1 hk;exact⟨a,b,c,rfl,by omega,by omega,by omega⟩) i j r.roads.length (yh _),ya0]
theorem znT{r:Rd}(h:zE r){N:Nat}(hN:r.nodes=N):zbS N 10000 (zaV r.roads):=zgV r.roads (by rw[<-hN];exact h.roads) _ (zhf _)
def za(r:Rd)(i j:Nat):Int:=zfi r (zbd r i) (zbd r j)
theorem zqY(B B':Nat)(r:Rd)(vs vr:Value)(w:World)(ab:zE r)(hs:w.ownsRow B 62 5 vs r.stops.length (zd r.stops.flatten))(hr:w.ownsRow B' 64 3 vr r.roads.length (zd r.roads.flatten)):Calls Tryz.prog 101 #[zap r vs vr] w λe w'=>∃v us,e=.returned v/\us.length=r.stops.length+1/\zJ w' w.heap.size w'.heap.size v (r.stops.length+1) (za r) us/\Below w.heap.size w w':=by
 obtain⟨i0,hi,bG,bH,bI⟩:=info_parts Tryz.infoInt;obtain⟨j0,hj,bD,bE,bF⟩:=info_parts Tryz.infoInts;have hns:=ab.nstops;have bu:=ab.nroads;have br:=zaH.1 ab.head;obtain⟨N,hN⟩:∃N:Nat,r.nodes=N:=⟨r.nodes.toNat,by omega⟩
 have ah:N<=12:=by omega
 have hN1:1<=N:=by omega
 have a1:Hid (∀W i,Below w.heap.size w W->i<r.stops.length+1->Calls Tryz.prog 163 #[zap r vs vr,.int .i64 i] W λe w'=>e=.returned (.int .i64 (zbd r i))/\Below W.heap.size W w'):=λW i hW hi=>by
  have h1:=zsl B i r vs vr W ab.nice hi (ze hs hW);have h2:(sites r).getD i 0=(zbd r i:Int):=by
   unfold zbd;have hl:i<(sites r).length:=by rw[zdJ];exact hi
   have:=zi1 ab _ (ym hl);rw[show (sites r).getD i 0=(sites r)[i] by simp[hl]];omega
  rw[h2] at h1;exact h1
 have a0:Hid (∀i,i<r.stops.length+1->zbd r i<N):=λi hi=>zeP ab hN hi;have bo:=hid (znT ab hN);obtain⟨aC,ae,bB,a6⟩:=ziI hr ab.shape.roads;obtain⟨aD,af,bC,_,_⟩:=zg hs;subst bB bC;have aZ:Hid (∀W,Below w.heap.size w W->Calls Tryz.prog 161 #[.agg #[.int .i64 r.vans,.int .i64 r.load,.int .i64 r.close,.int .i64 N,.int .i64 r.home,.slice aD r.stops.length af,.slice aC r.roads.length ae]] W λe w'=>∃v us,e=.returned v/\us.length=N/\zJ w' W.heap.size w'.heap.size v N (zaV r.roads) us/\Below W.heap.size W w'):=λW hW=>by have h1:=zpb r.vans r.load r.close r.home N (zeb r.roads) (.slice aD r.stops.length af) aC r.roads.length ae W ah bu (a6.below hW) ⟨_,_,_,rfl⟩;rw[ztu ab] at h1;exact h1
 have bq:Hid (za r=λi j=>fwF (zaV r.roads) N (zbd r i) (zbd r j)):=by show _=_;funext i j;unfold za zfi;rw[show r.nodes.toNat=N by omega]
 generalize za r=SD at*;clear hs hr a6 ab br;unfold zap at*;rw[hN] at*;go_in;go_wp2_with fail;refine(aZ.out _ (zj w _)).mono ?_;rintro e1 w1⟨v1,bJ,rfl,al,a4,aO⟩;have aJ:Hid (w1.heap[w.heap.size]?=some (.cells #[.int .i64 r.vans,.int .i64 r.load,.int .i64 r.close,.int .i64 N,.int .i64 r.home,.slice aD r.stops.length af,.slice aC r.roads.length ae] 28 (0,0))):=by show _=_;rw[aO.block _ (by simp)];exact yx w _
 have aH:=hid (a4.base (show w.heap.size<=_ by simp));have az:Hid (Below w.heap.size w w1):=(zj w _).trans (aO.mono (by simp));have bd:w.heap.size<w1.heap.size:=(yc.1 aJ.out).1;obtain⟨av1,cv1,ba,_,_⟩:=zg aH.out.own;rw[al] at ba;subst ba;have bp:=hid al;clear a4 aO aZ al;go_wp2_with fail;go_loopw[3,4] (λwv i wr=>∃(p:Nat)(us:List Value),i=.int .i64 p/\p<=N/\us.length=N/\Hid (zJ wr w.heap.size wr.heap.size wv N (fwF (zaV r.roads) p) us)/\Hid (Below w1.heap.size w1 wr)) (λ_ i _=>N-(intOf i).toNat)
 ·exact⟨0,bJ,rfl,by omega,bp.out,aH,yk _ _⟩
 obtain⟨p,us,rfl,hp,al,HG,HB⟩:=hrel;have aj:=HB.out.size;have ac:=(HB.out.block _ bd).trans aJ.out;obtain⟨aL,aN,bc,_,_⟩:=zg HG.out.own;rw[al] at bc;subst bc;have aI:=hid al;clear al;obtain⟨x0,x1,x2,x3,x4,x5,x6,_⟩:=zcB ac;by_cases bs:p<N
 ·have aY:=hid (zto w.heap.size wr.heap.size N p (.slice aL N aN) (fwF (zaV r.roads) p) us wr ah bs aI.out (λa b ha hb=>(zc7 bo.out ah hp).2 a b ha hb) HG.out);clear x0 x1 x2 x4 x5 x6 ac;go_wp2_with fail;refine aY.out.mono ?_;rintro e2 w2⟨v2,bf,rfl,ay,aQ,a3⟩;have bj:Hid (zJ w2 w.heap.size w2.heap.size v2 N (fwF (zaV r.roads) (p+1)) bf):=aQ.base (by have:=az.out.size;omega);have bg:Hid (Below w1.heap.size w1 w2):=HB.out.trans (a3.mono aj);obtain⟨_,_,bb,_,_⟩:=zg aQ.own;rw[ay] at bb;subst bb;clear aQ a3 aY HG HB;go_wp2;go_roundw
  ·exact⟨p+1,bf,by go_num,by omega,ay,bj,bg⟩
  simp[intOf];omega
 have aV:Hid (zJ wr w.heap.size wr.heap.size (.slice aL N aN) N (fwF (zaV r.roads) N) us):=by
  have bv:p=N:=by omega
  have h:=HG.out;rw[bv] at h;exact h
 obtain⟨wa,am⟩:∃wa,wa=wr:=⟨_,rfl⟩
 have bn:Hid (zJ wa w.heap.size wa.heap.size (.slice aL N aN) N (fwF (zaV r.roads) N) us):=by show zJ _ _ _ _ _ _ _;rw[am];exact aV.out
 have a2:Hid (wa.heap[w.heap.size]?=some (.cells #[.int .i64 r.vans,.int .i64 r.load,.int .i64 r.close,.int .i64 N,.int .i64 r.home,.slice aD r.stops.length af,.slice aC r.roads.length ae] 28 (0,0))):=by show _=_;rw[am];exact ac
 have aG:Hid (Below w.heap.size w wa):=by show Below _ _ _;rw[am];exact az.out.trans (HB.out.mono az.out.size)
 have be:w.heap.size<wa.heap.size:=by rw[am];omega
 go_wp2_with fail;rw[<-am];clear am HG HB aV aj ac x0 x1 x2 x3 x4 x5 x6 aJ aH az bd;generalize aR:r.stops.length+1=n at*;go_loopw[5,6] (λov i wr=>∃(k:Nat)(os:List Value),i=.int .i64 k/\k<=n/\os.length=k/\Hid (zJ wr wa.heap.size wr.heap.size ov n SD os)/\Hid (Below wa.heap.size wa wr)) (λ_ i _=>n-(intOf i).toNat)
 ·exact⟨0,[],rfl,by omega,rfl,zJ.nil _ _ _ _ _,yk _ _⟩
 obtain⟨k,os,rfl,hk,aF,HG,HB⟩:=hrel;have aj:=HB.out.size;have ac:=(HB.out.block _ be).trans a2.out;obtain⟨x0,x1,x2,x3,x4,x5,x6,_⟩:=zcB ac;obtain⟨aK,aM,a7,_,_⟩:=zg HG.out.own;rw[aF] at a7;subst a7;have aS:w.heap.size<wr.heap.size:=by omega
 by_cases aw:k<n
 ·have an:=hid (a1.out wr k (aG.out.trans (HB.out.mono (by omega))) aw);have hkk:(k:Int)<=(r.stops.length:Int):=by omega
  go_wp2_with fail;refine an.out.mono ?_;rintro e3 w3⟨rfl,aE⟩;have ai:Below wa.heap.size wa w3:=HB.out.trans (aE.mono aj);have bk:=hid (HG.out.below aE aE.size);have aT:=hid ai;have a9:wa.heap.size<=w3.heap.size:=ai.size;have bw:=a0.out k aw;clear aE ai an HG HB aj ac x0 x1 x2 x3 x4 x5 x6 aS;go_wp2_with fail;go_loopw[7,9] (λl j wr=>∃q:Nat,j=.int .i64 q/\q<=n/\Hid (wr.ownsRow w3.heap.size 3 1 l q (zd ((List.range q).map (SD k))))/\Hid (zJ wr wa.heap.size w3.heap.size (.slice aK k aM) n SD os)/\Hid (Below w3.heap.size w3 wr)) (λ_ j _=>n-(intOf j).toNat)
  ·exact⟨0,rfl,by omega,yC _ _ _ _,bk,yk _ _⟩
  obtain⟨q,rfl,hq,HL,HG,HB⟩:=hrel;have aj:=HB.out.size;have aP:Below wa.heap.size wa wr:=aT.out.trans (HB.out.mono a9);have ac:=(aP.block _ be).trans a2.out;obtain⟨x0,x1,x2,x3,x4,x5,x6,_⟩:=zcB ac;have aS:w.heap.size<wr.heap.size:=by omega
  obtain⟨ao,ap,bt,_,_⟩:=zg HL.out;subst bt;have ad:=hid aP;clear aP ac;by_cases a5:q<n
  ·have an:=hid (a1.out wr q (aG.out.trans (ad.out.mono (by omega))) a5);have hqk:(q:Int)<=(r.stops.length:Int):=by omega
   have bx:=a0.out q a5;go_wp2_with fail;refine an.out.mono ?_;rintro e4 w4⟨rfl,aq⟩;have ar:Below wa.heap.size wa w4:=ad.out.trans (aq.mono ad.out.size);have ax:=bn.out.below ar (yh _);obtain⟨g,c,gp,cp,e1,hg,y1,hgp,z1⟩:=ax.at (i:=zbd r k) (by rw[aI.out];exact bw);rw[aI.out] at e1;cases e1;have y2:=z1 (zbd r q) bx;have HV:Hid (SD k q=fwF (zaV r.roads) N (zbd r k) (zbd r q)):=by show _=_;rw[bq.out]
   have aB:=hid (ze HL.out aq);have aU:=hid (HG.out.below aq (yh _));have aA:Hid (Below w3.heap.size w3 w4):=HB.out.trans (aq.mono aj);have hb4s:w3.heap.size<=w4.heap.size:=aA.out.size;clear z1 ax ar aq an x0 x1 x2 x3 x4 x5 x6 HL HG HB ad aS;generalize fwF (zaV r.roads) N (zbd r k) (zbd r q)=VV at*;go_wp2_with(at_builtin;refine yy _ rfl _ _ 40 rfl w3.heap.size 3 i0 (.int .i64 0) 1 8 Tryz.underlying40 hi bG bH bI rfl (by decide) _ _ _ rfl (aB.out.alloc _) ⟨w4.heap.size,0,none⟩ 1 1 [.int .i64 VV] rfl rfl ?c1 ?c2 ?c3 ?c4 ?c5 ?_)
   case c1=>exact za0 rfl rfl
   case c2=>intro u hu;simp at hu;subst hu;rfl
   case c3=>unfold maxLen;omega
   case c4=>omega
   case c5=>simp;omega
   intro v' w6 ag au _;have aX:Hid (w6.ownsRow w3.heap.size 3 1 v' (q+1) (zd ((List.range (q+1)).map (SD k)))):=by
    show World.ownsRow _ _ _ _ _ _ _;have e:zd ((List.range (q+1)).map (SD k))=zd ((List.range q).map (SD k))++[.int .i64 VV]:=by rw[<-HV.out];simp[zd,List.range_succ]
    rw[e];exact ag
   have ak:(w4.alloc (.cells #[.int .i64 VV] 3)).grownBy w6 (Value.slice ao q ap).ownBlock:=au;have bl:Hid (zJ w6 wa.heap.size w3.heap.size (.slice aK k aM) n SD os):=(aU.out.below (zj w4 _) (yh _)).grown (ze aB.out (zj w4 _)) (yh _) ak;have bh:Hid (Below w3.heap.size w3 w6):=(aA.out.trans ((zj w4 _).mono aA.out.size)).grown ak (by simp;omega) (λx hx=>(aB.out.lt x hx).1);obtain⟨_,_,bz,_,_⟩:=zg aX.out;subst bz;clear ag au ak y1 y2 aB aU aA;go_wp2;go_roundw
   ·exact⟨q+1,by go_num,by omega,aX,bl,bh⟩
   simp[intOf];omega
  have a8:q=n:=by omega
  have aW:Hid (wr.ownsRow w3.heap.size 3 1 (.slice ao q ap) n (zd ((List.range n).map (SD k)))):=by have h:=HL.out;rw[a8] at h⊢;exact h
  clear a8;go_wp2_with(at_builtin;refine yy _ rfl _ _ 31 rfl wa.heap.size 40 j0 (.slice none 0 0) 1 24 Tryz.underlying31 hj bD bE bF rfl (by decide) _ _ _ rfl ((HG.out.own).alloc _) ⟨wr.heap.size,0,none⟩ 1 1 [.slice ao q ap] rfl rfl ?c1 ?c2 ?c3 ?c4 ?c5 ?_)
  case c1=>exact za0 rfl rfl
  case c2=>intro u hu;simp at hu;subst hu;rfl
  case c3=>unfold maxLen;omega
  case c4=>omega
  case c5=>simp;omega
  intro v7 w7 aa av _;have ak:(wr.alloc (.cells #[.slice ao q ap] 40)).grownBy w7 (Value.slice aK k aM).ownBlock:=av;have bm:Hid (zJ w7 wa.heap.size w7.heap.size v7 n SD (os++[.slice ao q ap])):=HG.out.push aW.out (by omega) (by omega) (zj wr _) ak (by rw[aF];exact aa) (λj hj=>by rw[aF];simp[zd,hj]);have bi:Hid (Below wa.heap.size wa w7):=((aT.out.trans (HB.out.mono a9)).trans ((zj wr _).mono (by omega))).grown ak (by simp;omega) (λx hx=>(HG.out.own.lt x (by rw[hx])).1);obtain⟨_,_,bA,_,_⟩:=zg aa;subst bA;clear aa av ak HL HG HB aW x0 x1 x2 x3 x4 x5 x6;go_wp2;go_roundw
  ·exact⟨k+1,_,by go_num,by omega,by simp[aF],bm,bi⟩
  simp[intOf];omega
 go_wp2;go_ret;have hkn:k=r.stops.length+1:=by omega
 refine⟨_,os,rfl,by omega,?_,aG.out.trans (HB.out.mono (by omega))⟩;rw[aR];exact HG.out.base (by omega)
def SqR(w:World)(v:Value)(n:Nat)(D:Nat->Nat->Int):Prop:=∃ao c,v=.slice ao n c/\n<=100/\∀i,i<n->∃g gi ci,ao=some ⟨g,0,none⟩/\g<w.heap.size/\w.cell? ⟨g,i,none⟩=some (.slice (some ⟨gi,0,none⟩) n ci)/\gi<w.heap.size/\∀j,j<n->w.cell? ⟨gi,j,none⟩=some (.int .i64 (D i j))
theorem SqR.below{w w':World}{v:Value}{n:Nat}{D:Nat->Nat->Int}(h:SqR w v n D)(hb:Below w.heap.size w w'):SqR w' v n D:=by obtain⟨ao,c,h1,h2,h3⟩:=h;refine⟨ao,c,h1,h2,λi hi=>?_⟩;obtain⟨g,gi,ci,k1,k2,k3,k4,k5⟩:=h3 i hi;exact⟨g,gi,ci,k1,ya k2 hb.size,zc hb k3 k2,ya k4 hb.size,λj hj=>zc hb (k5 j hj) k4⟩
theorem zbj.sq{w:World}{B:Nat}{v:Value}{n:Nat}{D:Nat->Nat->Int}(h:zbj w B v n D)(hn:n<=100):SqR w v n D:=by obtain⟨g,rfl,hg,hr⟩:=h.grid;refine⟨_,_,rfl,hn,λi hi=>?_⟩;obtain⟨gi,h1,h2,h3⟩:=hr i hi;exact⟨g,gi,n,rfl,hg.2,h1,h2.2,h3⟩
theorem zJ.sq{w:World}{B U n:Nat}{v:Value}{D:Nat->Nat->Int}{vs:List Value}(h:zJ w B U v n D vs)(hl:vs.length=n)(hn:n<=100):SqR w v n D:=by obtain⟨ao,c,hv,_,_⟩:=zg h.own;rw[hl] at hv;refine⟨ao,c,hv,hn,λi hi=>?_⟩;obtain⟨g,c',gi,ci,e,h1,h2,h3,h4⟩:=h.at (i:=i) (by omega);rw[hl,hv] at e;cases e;exact⟨g,gi,ci,rfl,h1,h2,h3,h4⟩
theorem SqR.nil(w:World)(D:Nat->Nat->Int):SqR w (.slice none 0 0) 0 D:=⟨none,0,rfl,by omega,λi hi=>absurd hi (by omega)⟩
end Go.Proofs.YtebinaopncclgabGreatDoor
