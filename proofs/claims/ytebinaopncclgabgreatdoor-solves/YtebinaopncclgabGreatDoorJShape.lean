import Derived.Test.YtebinaopncclgabGreatDoorJLoad
set_option maxRecDepth 100000
set_option maxHeartbeats 8000000
namespace Go.Proofs.YtebinaopncclgabGreatDoor
open Go.RowKit Go.IntWalk
def zbR(r:Rd)(D:Nat->Nat->Int)(l:List Int)(q:Nat)(t:Int):Int:=if t+z8 D l q<zp r (l.getD (q+1) 0).toNat 2 then zp r (l.getD (q+1) 0).toNat 2 else t+z8 D l q
def zdg(r:Rd)(D:Nat->Nat->Int)(l:List Int)(st:Option (Int×List Int))(q:Nat):Option (Int×List Int):=
 match st with
 | none=>none
 | some (t,S)=>
  if l.getD (q+1) 0=0 then some (t+z8 D l q,S)
  else if zp r (l.getD (q+1) 0).toNat 3<zbR r D l q t then none
  else some (zbR r D l q t+zp r (l.getD (q+1) 0).toNat 4,S.set ((l.getD (q+1) 0).toNat-1) (zbR r D l q t))
def zb7(r:Rd)(D:Nat->Nat->Int)(l:List Int)(S:List Int)(q:Nat):Option (Int×List Int):=(List.range q).foldl (zdg r D l) (some (0,S))
theorem zcP(r:Rd)(D:Nat->Nat->Int)(l S:List Int)(q:Nat):zb7 r D l S (q+1)=zdg r D l (zb7 r D l S q) q:=by simp[zb7,List.range_succ]
theorem zk3(r:Rd)(D:Nat->Nat->Int)(l S:List Int)(q k:Nat)(h:zb7 r D l S q=none):zb7 r D l S (q+k)=none:=by
 induction k with
 | zero=>exact h
 | succ k ih=>rw[<-ybS,zcP,ih];rfl
def za3(r:Rd)(D:Nat->Nat->Int)(l S:List Int):Option (List Int):=
 match zb7 r D l S (l.length-1) with
 | none=>none
 | some (t,S')=>if t<=r.close then some S' else none
def zcE(D:Nat->Nat->Int)(l:List Int)(k:Nat):Int:=if k=0 then 0 else z8 D l (k-1)
def zaz(r:Rd)(D:Nat->Nat->Int)(l:List Int)(k:Nat)(t:Int):Int:=if t+zcE D l k<zp r (l.getD k 0).toNat 2 then zp r (l.getD k 0).toNat 2 else t+zcE D l k
def zdj(r:Rd)(D:Nat->Nat->Int)(l:List Int)(st:Option (Int×List Int))(k:Nat):Option (Int×List Int):=
 match st with
 | none=>none
 | some (t,S)=>
  if l.getD k 0=0 then (if t+zcE D l k<=r.close then some (t+zcE D l k,S) else none)
  else if zp r (l.getD k 0).toNat 3<zaz r D l k t then none
  else some (zaz r D l k t+zp r (l.getD k 0).toNat 4,S.set ((l.getD k 0).toNat-1) (zaz r D l k t))
def zbD(r:Rd)(D:Nat->Nat->Int)(l:List Int)(S:List Int)(q:Nat):Option (Int×List Int):=(List.range q).foldl (zdj r D l) (some (0,S))
theorem zcO(r:Rd)(D:Nat->Nat->Int)(l S:List Int)(q:Nat):zbD r D l S (q+1)=zdj r D l (zbD r D l S q) q:=by simp[zbD,List.range_succ]
theorem zpt(r:Rd)(D:Nat->Nat->Int)(l S:List Int)(q k:Nat)(h:zbD r D l S q=none):zbD r D l S (q+k)=none:=by
 induction k with
 | zero=>exact h
 | succ k ih=>rw[<-ybS,zcO,ih];rfl
def zay(r:Rd)(D:Nat->Nat->Int)(l S:List Int):Option (List Int):=(zbD r D l S l.length).map (·.2)
theorem zdT{r:Rd}{D:Nat->Nat->Int}{l S:List Int}{q:Nat}(hq:q<l.length)(h:zbD r D l S (q+1)=none):zay r D l S=none:=by have h2:=zpt r D l S (q+1) (l.length-(q+1)) h;rw[show q+1+(l.length-(q+1))=l.length by omega] at h2;unfold zay;rw[h2];rfl
theorem znb(r:Rd)(D:Nat->Nat->Int)(l S:List Int)(hc:0<=r.close)(h2:2<=l.length)(h0:l.getD 0 0=0)(hl:l.getD (l.length-1) 0=0)(aa:∀j,j+2<l.length->l.getD (j+1) 0≠0):zay r D l S=za3 r D l S:=by
 have step:∀st q,q+2<l.length->zdj r D l st (q+1)=zdg r D l st q:=by
  intro st q hq
  match st with
  | none=>rfl
  | some (t,S)=>
   have e:zaz r D l (q+1) t=zbR r D l q t:=by unfold zaz zbR zcE;simp
   show (if l.getD (q+1) 0=0 then _ else if _<zaz r D l (q+1) t then none else some (zaz r D l (q+1) t+_,S.set _ (zaz r D l (q+1) t)))=(if l.getD (q+1) 0=0 then _ else _)
   rw[ye (aa q hq),ye (aa q hq),e]
 have ac:∀q,q+1<l.length->zbD r D l S (q+1)=zb7 r D l S q:=by
  intro q;induction q with
  | zero=>intro _;rw[zcO];show (if l.getD 0 0=0 then (if (0:Int)+zcE D l 0<=r.close then some ((0:Int)+zcE D l 0,S) else none) else _)=_;rw[yg h0,show zcE D l 0=0 from rfl,yg (by omega)];rfl
  | succ q ih=>intro hq;rw[zcO,ih (by omega),step _ q (by omega),zcP]
 obtain⟨m,hm⟩:∃m,l.length=m+2:=⟨l.length-2,by omega⟩
 have ab:l.getD (m+1) 0=0:=by rw[show m+1=l.length-1 by omega];exact hl
 unfold zay za3;rw[hm,zcO,ac m (by omega),show m+2-1=m+1 by omega,zcP]
 match zb7 r D l S m with
 | none=>rfl
 | some (t,S')=>
  have e1:zdj r D l (some (t,S')) (m+1)=if t+z8 D l m<=r.close then some (t+z8 D l m,S') else none:=by show (if l.getD (m+1) 0=0 then _ else _)=_;rw[yg ab];simp[zcE]
  have e2:zdg r D l (some (t,S')) m=some (t+z8 D l m,S'):=by show (if l.getD (m+1) 0=0 then _ else _)=_;rw[yg ab]
  rw[e1,e2];by_cases h:t+z8 D l m<=r.close<;>simp[h]
theorem zpW(p gi ci:Nat)(r:Rd)(D:Nat->Nat->Int)(l S0:List Int)(vf vs:Value)(w0 w:World)(hB:Below w0.heap.size w0 w)(hp:p<w0.heap.size)(aK:zE r)(h2:w0.cell? ⟨p,2,none⟩=some (.int .i64 r.close))(h5:w0.cell? ⟨p,5,none⟩=some vs)(hs:StR w0 vs r)(h7:w0.cell? ⟨p,7,none⟩=some vf)(hq:SqR w0 vf (r.stops.length+1) D)(hD:∀a b,a<r.stops.length+1->b<r.stops.length+1->-1<=D a b/\D a b<=40960000)(aI:gi<w0.heap.size)(aA:∀j (hj:j<l.length),w0.cell? ⟨gi,j,none⟩=some (.int .i64 l[j]))(hll:l.length<=1000)(hx:∀x∈l,0<=x/\x<r.stops.length+1)(hS:S0.length=r.stops.length)(az:w.ownsRow w0.heap.size 3 1 (.slice (some ⟨w0.heap.size,0,none⟩) r.stops.length r.stops.length) r.stops.length (zd S0)):Calls Tryz.prog 206 #[.pointer (some ⟨p,0,none⟩),.slice (some ⟨gi,0,none⟩) l.length ci,.slice (some ⟨w0.heap.size,0,none⟩) r.stops.length r.stops.length] w λe w'=>
   e=.returned (.bool (zay r D l S0).isSome)/\Below w0.heap.size w0 w'/\∃S,S.length=r.stops.length/\(∀S',zay r D l S0=some S'->S=S')/\w'.ownsRow w0.heap.size 3 1 (.slice (some ⟨w0.heap.size,0,none⟩) r.stops.length r.stops.length) r.stops.length (zd S):=by
 obtain⟨ast,cs,rfl,aT⟩:=hs;obtain⟨af,cf,rfl,hn,aS⟩:=hq;have hn7:=aK.nstops;have aN:=hid aT;have aW:=hid aS;have au:=hid aA;have HX:=hid hx;have aM:=hid aK;have aV:=hid hD;have HO:=hid az;have HB:=hid hB;clear aT aS aA hx aK hD az hB;go_in;go_wp2_with fail;go_loopw[7,8] (λtv k wr=>∃(q:Nat)(t:Int)(S:List Int),q<=l.length/\k=.int .i64 (q:Nat)/\tv=.int .i64 t/\(-(q:Int)<=t/\t<=(q:Int)*41000000)/\S.length=r.stops.length/\Hid (zbD r D l S0 q=some (t,S))/\Hid (wr.ownsRow w0.heap.size 3 1 (.slice (some ⟨w0.heap.size,0,none⟩) r.stops.length r.stops.length) r.stops.length (zd S))/\Hid (Below w0.heap.size w0 wr)) (λ_ k _=>l.length-(intOf k).toNat)
 ·exact⟨0,0,S0,yu _,rfl,rfl,by omega,hS,rfl,HO,HB⟩
 clear HB HO;obtain⟨q,t,S,hq,rfl,rfl,ht,ai,HG,HO,HB⟩:=hrel;have aF:=ya hp HB.out.size;have a5:=ya aI HB.out.size;have aE:=zc HB.out h2 hp;by_cases ao:q<l.length
 ·obtain⟨y,hy⟩:∃y,y=l[q]:=⟨_,rfl⟩
  have hy1:=HX.out y (by rw[hy];exact ym _);have y0:wr.cell? ⟨gi,q,none⟩=_:=(HB.out.cell (by exact aI)).trans (au.out q (by omega));rw[<-hy] at y0;obtain⟨yn,rfl⟩:∃yn:Nat,y=yn:=⟨y.toNat,by omega⟩
  have aG:l.getD q 0=yn:=by rw[yj,yl ao,yK,<-hy]
  have ar:=hid aG;have HN:Hid (zbD r D l S0 (q+1)=zdj r D l (some (t,S)) q):=by show _=_;rw[zcO,HG.out]
  have iq:(0:Int)<=(q:Int):=by omega
  have jq:(q:Int)<(l.length:Int):=by omega
  have iy:(0:Int)<=(yn:Int):=by omega
  have jy:(yn:Int)<(r.stops.length:Int)+1:=by omega
  clear hy;by_cases aQ:q=0
  ·have HU:Hid (t+zcE D l q=t):=by show _=_;rw[aQ];simp[zcE]
   have q0:¬(0:Int)<(q:Int):=by omega
   have ad:=HO;have ab:=HB;obtain⟨wx,aq⟩:∃wx,wx=wr:=⟨_,rfl⟩
   rw[<-aq] at ad ab;have tb:-((q:Int)+1)<=t/\t<=((q:Int)+1)*41000000-20000:=by omega
   clear aG aQ;subst aq;clear HB HO aE aF;have aE:=zc ab.out h2 hp;have aF:=ya hp ab.out.size;by_cases hz:yn=0
   ·have ag:Hid (zbD r D l S0 (q+1)=if t<=r.close then some (t,S) else none):=by show _=_;rw[HN.out];show (if l.getD q 0=0 then (if t+zcE D l q<=r.close then some (t+zcE D l q,S) else none) else _)=_;rw[yg (by rw[ar.out,hz];rfl),HU.out]
    subst hz;by_cases ae:t<=r.close
    ·have ak:Hid (zbD r D l S0 (q+1)=some (t,S)):=by show _=_;rw[ag.out,yg ae]
     go_wp2_with go_in;go_roundw
     ·exact⟨q+1,t,S,by omega,by go_num,rfl,by omega,ai,ak,by first|exact ad|exact zcr ad.out rfl,by first|exact ab|exact ab.out.drew⟩
     simp[intOf];omega
    have HF:Hid (zay r D l S0=none):=zdT ao (by rw[ag.out,ye ae]);go_wp2_with go_in;go_ret;refine⟨zh (by rw[HF.out];simp),by first|exact ab.out|exact ab.out.drew,S,ai,λS' e=>(by rw[HF.out] at e;cases e),ad.out⟩
   obtain⟨m,rfl⟩:∃m,yn=m+1:=⟨yn-1,by omega⟩
   obtain⟨sg,rfl,aC,aB⟩:=aN.out m (by omega);obtain⟨b0,b1,b2,b3,b4,an,aD⟩:=aM.out.stops _ (ym (show m<r.stops.length by omega));have ae:∀j z,j<5->[b0,b1,b2,b3,b4][j]?=some z->wx.cell? ⟨sg,m*5+j,none⟩=some (.int .i64 z):=λj z hj hz=>(ab.out.cell (by exact aC)).trans (aB j z hj (by rw[an];exact hz));have s0:wx.cell? ⟨sg,m*5,none⟩=some (.int .i64 b0):=ae 0 b0 (by omega) rfl;have s1:=ae 1 b1 (by omega) rfl;have s2:=ae 2 b2 (by omega) rfl;have s3:=ae 3 b3 (by omega) rfl;have s4:=ae 4 b4 (by omega) rfl;have a7:=zc ab.out h5 hp;have a9:=ya aC ab.out.size;have ay:r.stops.getD m []=[b0,b1,b2,b3,b4]:=by rw[yj,yl (show m<r.stops.length by omega),yK,an]
   have hV:∀j,zp r (m+1) j=[b0,b1,b2,b3,b4].getD j 0:=λj=>by unfold zp;rw[yab,ay]
   have aZ:(0<=b2/\b2<=10000)/\(0<=b3/\b3<=10000)/\(0<=b4/\b4<=10000):=by simp only[zas,yA,za7,yq] at aD;omega
   have a3:=ad.out.frozenAt m;have a6:wx.cell? ⟨w0.heap.size,m,none⟩=some (.int .i64 (S.getD m 0)):=by rw[ad.out.cellAt m (by omega)];simp[zd,List.getD_eq_getElem?_getD,List.getElem?_eq_getElem (show m<S.length by omega)]
   have ap:(l.getD q 0).toNat=m+1:=by rw[ar.out];omega
   have av:Hid (zaz r D l q t=if t<b2 then b2 else t):=by show _=_;unfold zaz;rw[ap,HU.out,hV];rfl
   have ag:Hid (zbD r D l S0 (q+1)=if b3<zaz r D l q t then none else some (zaz r D l q t+b4,S.set m (zaz r D l q t))):=by show _=_;rw[HN.out];show (if l.getD q 0=0 then _ else if zp r (l.getD q 0).toNat 3<zaz r D l q t then none else some (zaz r D l q t+zp r (l.getD q 0).toNat 4,S.set ((l.getD q 0).toNat-1) (zaz r D l q t)))=_;rw[ye (by rw[ar.out];omega),ap,hV,hV];rfl
   have aY:w0.heap.size<wx.heap.size:=za5 ad.out;clear aB an aD hV ay ae ap HN hz;by_cases ac:t<b2
   ·have al:Hid (zaz r D l q t=b2):=by show _=_;rw[av.out,yg ac]
    by_cases aa:b3<b2
    ·have HF:Hid (zay r D l S0=none):=zdT ao (by rw[ag.out,al.out,yg aa]);go_wp2_with go_in
     all_goals
      go_ret;refine⟨zh (by rw[HF.out];simp),ab.out.alloc ab.out.size _,S,ai,λS' e=>(by rw[HF.out] at e;cases e),ad.out.alloc _⟩
    have ak:Hid (zbD r D l S0 (q+1)=some (b2+b4,S.set m (b2))):=by show _=_;rw[ag.out,al.out,ye aa]
    have ah:=hid (ad.out.stored m (.int .i64 (b2))).1;have aj:Hid (Below w0.heap.size w0 (wx.setCell ⟨w0.heap.size,m,none⟩ (.int .i64 (b2)))):=ab.out.setCell (yh _) _;have am:Hid ((zd S).set m (.int .i64 (b2))=zd (S.set m (b2))):=by show _=_;simp[zd,List.map_set]
    go_wp2_with go_in;go_roundw
    ·refine⟨q+1,b2+b4,S.set m (b2),by omega,by go_num,rfl,by omega,by simp[ai],ak,?_,aj.out.alloc aj.out.size _⟩;show World.ownsRow _ _ _ _ _ _ _;rw[<-am.out];exact ah.out.alloc _
    simp[intOf];omega
   have al:Hid (zaz r D l q t=t):=by show _=_;rw[av.out,ye ac]
   by_cases aa:b3<t
   ·have HF:Hid (zay r D l S0=none):=zdT ao (by rw[ag.out,al.out,yg aa]);go_wp2_with go_in
    all_goals
     go_ret;refine⟨zh (by rw[HF.out];simp),ab.out.alloc ab.out.size _,S,ai,λS' e=>(by rw[HF.out] at e;cases e),ad.out.alloc _⟩
   have ak:Hid (zbD r D l S0 (q+1)=some (t+b4,S.set m (t))):=by show _=_;rw[ag.out,al.out,ye aa]
   have ah:=hid (ad.out.stored m (.int .i64 (t))).1;have aj:Hid (Below w0.heap.size w0 (wx.setCell ⟨w0.heap.size,m,none⟩ (.int .i64 (t)))):=ab.out.setCell (yh _) _;have am:Hid ((zd S).set m (.int .i64 (t))=zd (S.set m (t))):=by show _=_;simp[zd,List.map_set]
   go_wp2_with go_in;go_roundw
   ·refine⟨q+1,t+b4,S.set m (t),by omega,by go_num,rfl,by omega,by simp[ai],ak,?_,aj.out.alloc aj.out.size _⟩;show World.ownsRow _ _ _ _ _ _ _;rw[<-am.out];exact ah.out.alloc _
   simp[intOf];omega
  obtain⟨k,rfl⟩:∃k,q=k+1:=⟨q-1,by omega⟩
  obtain⟨x,hx⟩:∃x,x=l[k]:=⟨_,rfl⟩
  have hx1:=HX.out x (by rw[hx];exact ym _);have x0:wr.cell? ⟨gi,k,none⟩=_:=(HB.out.cell (by exact aI)).trans (au.out k (by omega));rw[<-hx] at x0;obtain⟨xn,rfl⟩:∃xn:Nat,x=xn:=⟨x.toNat,by omega⟩
  obtain⟨fg,aH,aX,rfl,aO,a1,ax,aP⟩:=aW.out xn (by omega);have hd:wr.cell? ⟨aH,yn,none⟩=_:=(HB.out.cell (by exact ax)).trans (aP yn (by omega));have a2:=zc HB.out a1 aO;have a8:=zc HB.out h7 hp;have a4:=ya aO HB.out.size;have aJ:=ya ax HB.out.size;have aU:l.getD k 0=xn:=by rw[yj,yl (by omega),yK,<-hx]
  have hdb:=aV.out xn yn (by omega) (by omega);have HU:Hid (t+zcE D l (k+1)=t+D xn yn):=by show _=_;unfold zcE z8;simp only[yab];rw[ye (by omega),aG,aU];simp
  generalize a0:D xn yn=d at*;have ik:(0:Int)<=(k:Int):=by omega
  have jk:(k:Int)<(l.length:Int):=by omega
  have ix:(0:Int)<=(xn:Int):=by omega
  have jx:(xn:Int)<(r.stops.length:Int)+1:=by omega
  have bb:IntKind.i64.wrap ((k:Int)+1-1)=k:=by rw[show (k:Int)+1-1=k by omega];exact zm _ (by omega)
  have aL:IntKind.i64.wrap (k:Int)=k:=zm _ (by omega);have ba:IntKind.i64.wrap (t+d)=t+d:=zm _ (by omega);have tb:-((k:Int)+1+1)<=t+d/\t+d<=((k:Int)+1+1)*41000000-20000:=by omega
  clear aP hx a0 aU aG;go_wp2_with fail;go_region_held3 (λw'=>w'.cell? ⟨p,7,none⟩=some (.slice (some ⟨fg,0,none⟩) (r.stops.length+1) cf)/\w'.cell? ⟨gi,k,none⟩=some (.int .i64 xn)/\w'.cell? ⟨fg,xn,none⟩=some (.slice (some ⟨aH,0,none⟩) (r.stops.length+1) aX)/\w'.cell? ⟨aH,yn,none⟩=some (.int .i64 d)) (go_keep) (fail);obtain⟨wx,aq⟩:∃wx,wx=wr.drew:=⟨_,rfl⟩
  have ab:Hid (Below w0.heap.size w0 wx):=by show Below _ _ _;rw[aq];exact HB.out.drew
  have ad:Hid (wx.ownsRow w0.heap.size 3 1 (.slice (some ⟨w0.heap.size,0,none⟩) r.stops.length r.stops.length) r.stops.length (zd S)):=by show World.ownsRow _ _ _ _ _ _ _;rw[aq];exact zcr HO.out rfl
  rw[<-aq];clear aq HB HO x0 y0 hd a2 a8 a4 aJ aE aF a5 bb aL ba;rename_i aw;clear aw;have aE:=zc ab.out h2 hp;have aF:=ya hp ab.out.size;by_cases hz:yn=0
  ·have ag:Hid (zbD r D l S0 (k+1+1)=if (t+d)<=r.close then some ((t+d),S) else none):=by show _=_;rw[HN.out];show (if l.getD (k+1) 0=0 then (if t+zcE D l (k+1)<=r.close then some (t+zcE D l (k+1),S) else none) else _)=_;rw[yg (by rw[ar.out,hz];rfl),HU.out]
   subst hz;by_cases ae:(t+d)<=r.close
   ·have ak:Hid (zbD r D l S0 (k+1+1)=some ((t+d),S)):=by show _=_;rw[ag.out,yg ae]
    go_wp2_with go_in;go_roundw
    ·exact⟨k+1+1,(t+d),S,by omega,by go_num,rfl,by omega,ai,ak,by first|exact ad|exact zcr ad.out rfl,by first|exact ab|exact ab.out.drew⟩
    simp[intOf];omega
   have HF:Hid (zay r D l S0=none):=zdT ao (by rw[ag.out,ye ae]);go_wp2_with go_in;go_ret;refine⟨zh (by rw[HF.out];simp),by first|exact ab.out|exact ab.out.drew,S,ai,λS' e=>(by rw[HF.out] at e;cases e),ad.out⟩
  obtain⟨m,rfl⟩:∃m,yn=m+1:=⟨yn-1,by omega⟩
  obtain⟨sg,rfl,aC,aB⟩:=aN.out m (by omega);obtain⟨b0,b1,b2,b3,b4,an,aD⟩:=aM.out.stops _ (ym (show m<r.stops.length by omega));have ae:∀j z,j<5->[b0,b1,b2,b3,b4][j]?=some z->wx.cell? ⟨sg,m*5+j,none⟩=some (.int .i64 z):=λj z hj hz=>(ab.out.cell (by exact aC)).trans (aB j z hj (by rw[an];exact hz));have s0:wx.cell? ⟨sg,m*5,none⟩=some (.int .i64 b0):=ae 0 b0 (by omega) rfl;have s1:=ae 1 b1 (by omega) rfl;have s2:=ae 2 b2 (by omega) rfl;have s3:=ae 3 b3 (by omega) rfl;have s4:=ae 4 b4 (by omega) rfl;have a7:=zc ab.out h5 hp;have a9:=ya aC ab.out.size;have ay:r.stops.getD m []=[b0,b1,b2,b3,b4]:=by rw[yj,yl (show m<r.stops.length by omega),yK,an]
  have hV:∀j,zp r (m+1) j=[b0,b1,b2,b3,b4].getD j 0:=λj=>by unfold zp;rw[yab,ay]
  have aZ:(0<=b2/\b2<=10000)/\(0<=b3/\b3<=10000)/\(0<=b4/\b4<=10000):=by simp only[zas,yA,za7,yq] at aD;omega
  have a3:=ad.out.frozenAt m;have a6:wx.cell? ⟨w0.heap.size,m,none⟩=some (.int .i64 (S.getD m 0)):=by rw[ad.out.cellAt m (by omega)];simp[zd,List.getD_eq_getElem?_getD,List.getElem?_eq_getElem (show m<S.length by omega)]
  have ap:(l.getD (k+1) 0).toNat=m+1:=by rw[ar.out];omega
  have av:Hid (zaz r D l (k+1) t=if (t+d)<b2 then b2 else (t+d)):=by show _=_;unfold zaz;rw[ap,HU.out,hV];rfl
  have ag:Hid (zbD r D l S0 (k+1+1)=if b3<zaz r D l (k+1) t then none else some (zaz r D l (k+1) t+b4,S.set m (zaz r D l (k+1) t))):=by show _=_;rw[HN.out];show (if l.getD (k+1) 0=0 then _ else if zp r (l.getD (k+1) 0).toNat 3<zaz r D l (k+1) t then none else some (zaz r D l (k+1) t+zp r (l.getD (k+1) 0).toNat 4,S.set ((l.getD (k+1) 0).toNat-1) (zaz r D l (k+1) t)))=_;rw[ye (by rw[ar.out];omega),ap,hV,hV];rfl
  have aY:w0.heap.size<wx.heap.size:=za5 ad.out;clear aB an aD hV ay ae ap HN hz;by_cases ac:(t+d)<b2
  ·have al:Hid (zaz r D l (k+1) t=b2):=by show _=_;rw[av.out,yg ac]
   by_cases aa:b3<b2
   ·have HF:Hid (zay r D l S0=none):=zdT ao (by rw[ag.out,al.out,yg aa]);go_wp2_with go_in
    all_goals
     go_ret;refine⟨zh (by rw[HF.out];simp),ab.out.alloc ab.out.size _,S,ai,λS' e=>(by rw[HF.out] at e;cases e),ad.out.alloc _⟩
   have ak:Hid (zbD r D l S0 (k+1+1)=some (b2+b4,S.set m (b2))):=by show _=_;rw[ag.out,al.out,ye aa]
   have ah:=hid (ad.out.stored m (.int .i64 (b2))).1;have aj:Hid (Below w0.heap.size w0 (wx.setCell ⟨w0.heap.size,m,none⟩ (.int .i64 (b2)))):=ab.out.setCell (yh _) _;have am:Hid ((zd S).set m (.int .i64 (b2))=zd (S.set m (b2))):=by show _=_;simp[zd,List.map_set]
   go_wp2_with go_in;go_roundw
   ·refine⟨k+1+1,b2+b4,S.set m (b2),by omega,by go_num,rfl,by omega,by simp[ai],ak,?_,aj.out.alloc aj.out.size _⟩;show World.ownsRow _ _ _ _ _ _ _;rw[<-am.out];exact ah.out.alloc _
   simp[intOf];omega
  have al:Hid (zaz r D l (k+1) t=(t+d)):=by show _=_;rw[av.out,ye ac]
  by_cases aa:b3<(t+d)
  ·have HF:Hid (zay r D l S0=none):=zdT ao (by rw[ag.out,al.out,yg aa]);go_wp2_with go_in
   all_goals
    go_ret;refine⟨zh (by rw[HF.out];simp),ab.out.alloc ab.out.size _,S,ai,λS' e=>(by rw[HF.out] at e;cases e),ad.out.alloc _⟩
  have ak:Hid (zbD r D l S0 (k+1+1)=some ((t+d)+b4,S.set m ((t+d)))):=by show _=_;rw[ag.out,al.out,ye aa]
  have ah:=hid (ad.out.stored m (.int .i64 ((t+d)))).1;have aj:Hid (Below w0.heap.size w0 (wx.setCell ⟨w0.heap.size,m,none⟩ (.int .i64 ((t+d))))):=ab.out.setCell (yh _) _;have am:Hid ((zd S).set m (.int .i64 ((t+d)))=zd (S.set m ((t+d)))):=by show _=_;simp[zd,List.map_set]
  go_wp2_with go_in;go_roundw
  ·refine⟨k+1+1,(t+d)+b4,S.set m ((t+d)),by omega,by go_num,rfl,by omega,by simp[ai],ak,?_,aj.out.alloc aj.out.size _⟩;show World.ownsRow _ _ _ _ _ _ _;rw[<-am.out];exact ah.out.alloc _
  simp[intOf];omega
 have aR:q=l.length:=by omega
 have HF:Hid (zay r D l S0=some S):=by show _=_;unfold zay;rw[<-aR,HG.out];rfl
 clear aR;go_wp2_with go_in;go_ret;refine⟨zh (by rw[HF.out];simp),by first|exact HB.out|exact HB.out.drew,S,ai,λS' e=>(by rw[HF.out] at e;cases e;rfl),HO.out⟩
def zak(r:Rd)(D:Nat->Nat->Int)(L:List (List Int))(S:List Int):Option (List Int):=L.foldl (λst l=>st.bind (za3 r D l)) (some S)
def zbN(r:Rd)(D:Nat->Nat->Int)(L:List (List Int))(S:List Int):Option (List Int):=L.foldl (λst l=>st.bind (zay r D l)) (some S)
theorem znz{r:Rd}{D:Nat->Nat->Int}{L:List (List Int)}(S:List Int)(h:∀l∈L,∀S,zay r D l S=za3 r D l S):zbN r D L S=zak r D L S:=by
 unfold zbN zak
 suffices key:∀(L:List (List Int)) (st:Option (List Int)),(∀l∈L,∀S,zay r D l S=za3 r D l S)->L.foldl (λst l=>st.bind (zay r D l)) st=L.foldl (λst l=>st.bind (za3 r D l)) st from key L _ h
 intro L;induction L with
 | nil=>intro st _;rfl
 | cons l L ih=>intro st h;rw[yae,yae,ih _ (λl hl=>h l (by simp[hl])),show zay r D l=za3 r D l from funext (h l (by simp))]
theorem zf9(r:Rd)(D:Nat->Nat->Int)(L:List (List Int))(l S:List Int):zak r D (L++[l]) S=(zak r D L S).bind (za3 r D l):=by simp[zak]
theorem zic(r:Rd)(D:Nat->Nat->Int)(L M:List (List Int))(S:List Int)(h:zak r D L S=none):zak r D (L++M) S=none:=by
 have aa:∀M:List (List Int),M.foldl (λst l=>st.bind (za3 r D l)) none=none:=by
  intro M;induction M with
  | nil=>rfl
  | cons x M ih=>simpa using ih
 unfold zak at h⊢;rw[yaX,h,aa]
theorem zmR(r:Rd)(D:Nat->Nat->Int)(L:List (List Int))(l S:List Int):zbN r D (L++[l]) S=(zbN r D L S).bind (zay r D l):=by simp[zbN]
theorem znj(r:Rd)(D:Nat->Nat->Int)(L M:List (List Int))(S:List Int)(h:zbN r D L S=none):zbN r D (L++M) S=none:=by
 have aa:∀M:List (List Int),M.foldl (λst l=>st.bind (zay r D l)) none=none:=by
  intro M;induction M with
  | nil=>rfl
  | cons x M ih=>simpa using ih
 unfold zbN at h⊢;rw[yaX,h,aa]
theorem zhb(p:Nat)(r:Rd)(D:Nat->Nat->Int)(L:List (List Int))(S0:List Int)(vf vs v:Value)(w0 w:World)(hB:Below w0.heap.size w0 w)(hp:p<w0.heap.size)(af:zE r)(h2:w0.cell? ⟨p,2,none⟩=some (.int .i64 r.close))(h5:w0.cell? ⟨p,5,none⟩=some vs)(hs:StR w0 vs r)(h7:w0.cell? ⟨p,7,none⟩=some vf)(hq:SqR w0 vf (r.stops.length+1) D)(hD:∀a b,a<r.stops.length+1->b<r.stops.length+1->-1<=D a b/\D a b<=40960000)(hr:RtR w0 v L)(hx:∀l∈L,l.length<=1000/\∀x∈l,0<=x/\x<r.stops.length+1)(hS:S0.length=r.stops.length)(ab:w.ownsRow w0.heap.size 3 1 (.slice (some ⟨w0.heap.size,0,none⟩) r.stops.length r.stops.length) r.stops.length (zd S0)):Calls Tryz.prog 170 #[.pointer (some ⟨p,0,none⟩),v,.slice (some ⟨w0.heap.size,0,none⟩) r.stops.length r.stops.length] w λe w'=>
   e=.returned (.bool (zbN r D L S0).isSome)/\Below w0.heap.size w0 w'/\∃S,S.length=r.stops.length/\(∀S',zbN r D L S0=some S'->S=S')/\w'.ownsRow w0.heap.size 3 1 (.slice (some ⟨w0.heap.size,0,none⟩) r.stops.length r.stops.length) r.stops.length (zd S):=by
 obtain⟨ao,co,rfl,hL,aj⟩:=hr;have ak:Hid (∀(gi ci:Nat)(l S:List Int)(W:World),Below w0.heap.size w0 W->gi<w0.heap.size->(∀j (hj:j<l.length),w0.cell? ⟨gi,j,none⟩=some (.int .i64 l[j]))->l∈L->S.length=r.stops.length->W.ownsRow w0.heap.size 3 1 (.slice (some ⟨w0.heap.size,0,none⟩) r.stops.length r.stops.length) r.stops.length (zd S) ->Calls Tryz.prog 206 #[.pointer (some ⟨p,0,none⟩),.slice (some ⟨gi,0,none⟩) l.length ci,.slice (some ⟨w0.heap.size,0,none⟩) r.stops.length r.stops.length] W λe w'=>
    e=.returned (.bool (zay r D l S).isSome)/\Below w0.heap.size w0 w'/\∃S1,S1.length=r.stops.length/\(∀S',zay r D l S=some S'->S1=S')/\w'.ownsRow w0.heap.size 3 1 (.slice (some ⟨w0.heap.size,0,none⟩) r.stops.length r.stops.length) r.stops.length (zd S1)):=
  λgi ci l S W hW hg aa hm hl ho=>zpW p gi ci r D l S vf vs w0 W hW hp af h2 h5 hs h7 hq hD hg aa (hx l hm).1 (hx l hm).2 hl ho;have hn7:=af.nstops;have al:=hid aj;have HO:=hid ab;have HB:=hid hB;clear aj hx af hD ab hB hs hq h2 h5 h7;go_in;go_wp2_with fail;go_loopw[7] (λi wr=>∃(a:Nat)(S:List Int),a<=L.length/\i=.int .i64 a/\S.length=r.stops.length/\Hid (zbN r D (L.take a) S0=some S)/\Hid (wr.ownsRow w0.heap.size 3 1 (.slice (some ⟨w0.heap.size,0,none⟩) r.stops.length r.stops.length) r.stops.length (zd S))/\Hid (Below w0.heap.size w0 wr)) (λi _=>L.length-(intOf i).toNat)
 ·exact⟨0,S0,yu _,rfl,hS,rfl,HO,HB⟩
 clear HB HO;obtain⟨a,S,ha,rfl,ah,HA,HO,HB⟩:=hrel;by_cases ai:a<L.length
 ·obtain⟨g,gi,ci,rfl,hg,hc,an,aa⟩:=al.out a ai;obtain⟨l,hl⟩:∃l,l=L[a]:=⟨_,rfl⟩
  have HC:=ak.out gi ci l S wr HB.out an (by intro j hj;subst hl;exact aa j hj) (by rw[hl];exact ym _) ah HO.out;have ac:=hid HC;rw[<-hl] at hc;have hc:=zc HB.out hc hg;have hgw:=ya hg HB.out.size;have HT:Hid (zbN r D (L.take (a+1)) S0=zay r D l S):=by show _=_;rw[yr ai,zmR,HA.out,<-hl];rfl
  clear HC aa hl;cases hv:zay r D l S with
  | none=>
   have HF:Hid (zbN r D L S0=none):=by have h:=znj r D (L.take (a+1)) (L.drop (a+1)) S0 (by rw[HT.out,hv]);rw[yav] at h;exact h
   rw[hv] at ac;go_wp2_with(go_at_call 206;refine ac.out.mono ?_;rintro e1 w1⟨rfl,ad,S1,ag,_,ae⟩);go_ret;exact⟨zh (by rw[HF.out];rfl),ad,S1,ag,λS' e=>(by rw[HF.out] at e;cases e),ae⟩
  | some S2=>
   have HN:Hid (zbN r D (L.take (a+1)) S0=some S2):=by show _=_;rw[HT.out,hv]
   rw[hv] at ac;go_wp2_with(go_at_call 206;refine ac.out.mono ?_;rintro e1 w1⟨rfl,ad,S1,ag,am,ae⟩);go_roundw
   ·exact⟨a+1,S1,by omega,by go_num,ag,by show _=_;rw[HN.out,am S2 rfl],ae,ad⟩
   simp[intOf];omega
 have HF:Hid (zbN r D L S0=some S):=by have:=HA.out;rw[yD (by omega)] at this;exact this
 go_wp2;go_ret;exact⟨zh (by rw[HF.out];rfl),HB.out,S,ah,λS' e=>(by rw[HF.out] at e;cases e;rfl),HO.out⟩
theorem zeg{P:List UInt8->Prop}(h0:P [])(h1:∀l c,P l->P (l++[c]))(l:List UInt8):P l:=by
 have ab:∀n (l:List UInt8),l.length=n->P l:=by
  intro n;induction n with
  | zero=>intro l h;rw[ybx.1 h];exact h0
  | succ n ih=>
   intro l h;have aa:l≠[]:=λe=>by rw[e] at h;simp at h
   rw[<-yaF aa];exact h1 _ _ (ih _ (by simp[h]))
 exact ab _ l rfl
def zcG(l:List UInt8):Nat->Nat
 | 0=>0
 | n+1=>zcG l n+zao l (n+1)
theorem zls{l:List UInt8}{c:UInt8}(hc:c=47)(n:Nat):zcG (l++[c]) n=zcG l n:=by
 induction n with
 | zero=>rfl
 | succ n ih=>unfold zcG;rw[ih,zc8,ye (by rw[hc];show ¬(47=48+(n+1));omega)];omega
theorem zmj{l:List UInt8}{c:UInt8}(n:Nat):zcG l n<=zcG (l++[c]) n:=by
 induction n with
 | zero=>exact yh _
 | succ n ih=>unfold zcG;rw[zc8];omega
theorem znn{l:List UInt8}{c:UInt8}(n:Nat)(h1:49<=c.toNat)(h2:c.toNat-48<=n):zcG l n+1<=zcG (l++[c]) n:=by
 induction n with
 | zero=>omega
 | succ n ih=>
  unfold zcG;rw[zc8];by_cases h:c.toNat=48+(n+1)
  ·rw[yg h];have:=zmj (l:=l) (c:=c) n;omega
  rw[ye h];have:=ih (by omega);omega
theorem zq9(n:Nat)(l:List UInt8):∀m,zcC n l=some m->l.length+m<=2*zcG l n:=by
 refine zeg (P:=λl=>∀m,zcC n l=some m->l.length+m<=2*zcG l n) ?_ ?_ l
 ·intro m h;have:m=0:=by simpa[zcC] using h.symm
  subst this;simp
 intro l c ih m h;rw[zfV] at h;cases hp:zcC n l with
 | none=>rw[hp] at h;cases h
 | some k=>
  rw[hp] at h;have hk:=ih k hp;unfold zbI at h;by_cases hc:c=47
  ·simp only[hc,ycf] at h;by_cases hz:k=0
   ·rw[yg hz] at h;cases h
   rw[ye hz] at h;cases h;rw[zls hc,yz];simp;omega
  simp only[hc,yck] at h;by_cases hb:c.toNat<49\/n<c.toNat-48
  ·rw[yg hb] at h;cases h
  rw[ye hb] at h;cases h;have:=znn (l:=l) (c:=c) n (by omega) (by omega);rw[yz];simp;omega
theorem zq0{l:List UInt8}{n:Nat}(h:∀d,d<n->zao l (d+1)<=1):zcG l n<=n:=by
 induction n with
 | zero=>exact yh _
 | succ n ih=>unfold zcG;have:=ih (λd hd=>h d (by omega));have:=h n (by omega);omega
theorem zfe{n:Nat}{l:List UInt8}(h:zx n l=0):l.length<=2*n/\zaf n l=true/\∀d,d<n->zao l (d+1)=1:=by
 unfold zx at h;by_cases hp:zaf n l=false
 ·rw[yg hp] at h;cases h
 rw[ye hp] at h;by_cases h6:(List.range n).any (λd=>decide (1<zao l (d+1)))=true
 ·rw[yg h6] at h;cases h
 rw[ye h6] at h;by_cases h7:(List.range n).any (λd=>decide (zao l (d+1)=0))=true
 ·rw[yg h7] at h;cases h
 have ab:∀d,d<n->zao l (d+1)<=1:=λd hd=>by
  by_cases hh:1<zao l (d+1)
  ·exact absurd (y9.2 ⟨d,by simpa using hd,by simpa using hh⟩) h6
  omega
 have aa:zaf n l=true:=by simpa using hp
 refine⟨?_,aa,λd hd=>?_⟩
 ·unfold zaf at aa;cases hg:zcC n l with
  | none=>rw[hg] at aa;cases aa
  | some m=>have:=zq9 n l m hg;have:=zq0 ab;omega
 have h1:=ab d hd;by_cases h0:zao l (d+1)=0
 ·exact absurd (y9.2 ⟨d,by simpa using hd,by simpa using h0⟩) h7
 omega
def zet(n k:Nat)(r:List Int):Prop:=∃mid:List Int,r=0::(mid++[0])/\mid.length<=k/\∀x∈mid,1<=x/\x<=n
theorem zet.mono{n k k':Nat}{r:List Int}(h:zet n k r)(hk:k<=k'):zet n k' r:=by obtain⟨aa,h1,h2,h3⟩:=h;exact⟨aa,h1,by omega,h3⟩
theorem zpz(n:Nat)(l:List UInt8):(∀c∈l,c=47\/(49<=c.toNat/\c.toNat-48<=n))->(∀r∈(zq l).1,zet n l.length r)/\∃aa:List Int,(zq l).2=0::aa/\aa.length<=l.length/\∀x∈aa,1<=x/\x<=(n:Int):=by
 refine zeg (P:=λl=>(∀c∈l,c=47\/(49<=c.toNat/\c.toNat-48<=n))->(∀r∈(zq l).1,zet n l.length r)/\∃aa:List Int,(zq l).2=0::aa/\aa.length<=l.length/\∀x∈aa,1<=x/\x<=(n:Int)) ?_ ?_ l
 ·intro _;exact⟨by simp[zq],[],rfl,yh _,by simp⟩
 intro l c ih hb;obtain⟨h1,aa,h2,h3,h4⟩:=ih (λx hx=>hb x (by simp[hx]));rw[zcn];unfold zd6;by_cases hc:c=47
 ·rw[yg hc];refine⟨λr hr=>?_,[],rfl,by simp,by simp⟩;rcases yH.1 hr with h|h
  ·exact(h1 r h).mono (by simp)
  have:r=(zq l).2++[0]:=by simpa using h
  exact⟨aa,by rw[this,h2];rfl,by simp;omega,h4⟩
 rw[ye hc];have hcb:49<=c.toNat/\c.toNat-48<=n:=by
  rcases hb c (by simp) with h|h
  ·exact absurd h hc
  exact h
 refine⟨λr hr=>(h1 r hr).mono (by simp),aa++[(c.toNat:Int)-48],by show (zq l).2++_=_;rw[h2];rfl,by simp;omega,λx hx=>?_⟩;rcases yH.1 hx with h|h
 ·exact h4 x h
 have:x=(c.toNat:Int)-48:=by simpa using h
 omega
theorem zgw{n:Nat}{l:List UInt8}(h:zaf n l=true):∀c∈l,c=47\/(49<=c.toNat/\c.toNat-48<=n):=by intro c hc;obtain⟨k,hk,rfl⟩:=yaA.1 hc;exact zhA h hk
theorem zfz{n:Nat}{l:List UInt8}(h:zaf n l=true):∀r∈zn l,zet n l.length r:=by
 obtain⟨h1,aa,h2,h3,h4⟩:=zpz n l (zgw h);intro r hr;unfold zn at hr;by_cases hn:l=[]
 ·rw[yg hn] at hr;simp at hr
 rw[ye hn] at hr;rcases yH.1 hr with h|h
 ·exact h1 r h
 have:r=(zq l).2++[0]:=by simpa using h
 exact⟨aa,by rw[this,h2];rfl,h3,h4⟩
theorem zet.sites{n k:Nat}{r:List Int}(h:zet n k r):r.length<=k+2/\(∀x∈r,0<=x/\x<n+1)/\∀j,j+2<r.length->r.getD (j+1) 0≠0:=by
 obtain⟨aa,rfl,h2,h3⟩:=h;refine⟨by simp;omega,λx hx=>?_,λj hj=>?_⟩
 ·rcases yG.1 hx with h|h
  ·omega
  rcases yH.1 h with h|h
  ·have:=h3 x h;omega
  have:x=0:=by simpa using h
  omega
 have ab:j<aa.length:=by simp at hj;omega
 have e:(0::(aa++[0])).getD (j+1) 0=aa[j]:=by rw[ybN,yj,yaC ab,yl ab];rfl
 rw[e];have:=h3 aa[j] (ym _);omega
theorem zht(l:List UInt8):(zn l).length<=l.length+1:=by
 have:=(zfH l).1;unfold zn;by_cases hn:l=[]
 ·rw[yg hn];simp
 rw[ye hn];simp;omega
theorem zet.times{n k:Nat}{r:Rd}{l:List Int}(h:zet n k l)(hc:0<=r.close)(D:Nat->Nat->Int)(S:List Int):zay r D l S=za3 r D l S:=by have h3:=h.sites.2.2;obtain⟨aa,rfl,h2,_⟩:=h;refine znb r D _ S hc (by simp) rfl ?_ h3;rw[show (0::(aa++[0])).length-1=aa.length+1 by simp,ybN,yj,yaw (yh _)];simp
end Go.Proofs.YtebinaopncclgabGreatDoor
