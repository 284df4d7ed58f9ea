import Derived.Test.YtebinaopncclgabGreatDoorDWant
set_option maxRecDepth 100000
set_option maxHeartbeats 8000000
namespace Go.Proofs.YtebinaopncclgabGreatDoor
def zaj(r:Rd)(D:Nat->Nat->Int)(l:List Int):Nat->Int×Bool
 | 0=>(if l.getD 0 0=0 then 0 else zp r (l.getD 0 0).toNat 2,false)
 | i+1=>if l.getD (i+1) 0=0 then ((zaj r D l i).1+zG r l i+z8 D l i,(zaj r D l i).2||decide (r.close<(zaj r D l i).1+zG r l i+z8 D l i))
  else (zbR r D l i ((zaj r D l i).1+zG r l i),(zaj r D l i).2||decide (zp r (l.getD (i+1) 0).toNat 3<zbR r D l i ((zaj r D l i).1+zG r l i)))
theorem ze6{l:List Int}{n:Nat}(hx:∀x∈l,0<=x/\x<(n:Int)+1){i:Nat}(hi:i<l.length):0<=l.getD i 0/\l.getD i 0<(n:Int)+1:=by rw[yj,yl hi];exact hx _ (ym _)
theorem zqm{r:Rd}{D:Nat->Nat->Int}{l:List Int}(S:List Int)(ab:zE r)(hx:∀x∈l,0<=x/\x<(r.stops.length:Int)+1):∀k,k<l.length->((zaj r D l k).2=true->zbD r D l S (k+1)=none)/\((zaj r D l k).2=false->∃S',zbD r D l S (k+1)=some ((zaj r D l k).1+zG r l k,S')):=by
 intro k;have hcl:0<=r.close:=by have:=zaH.1 ab.head;omega
 induction k with
 | zero=>
  intro h;have hs:=ze6 hx h;refine⟨λe=>(by cases e),λ_=>?_⟩;rw[zcO];show ∃S',zdj r D l (some (0,S)) 0=some (_,S');unfold zdj zaz zG zaj;dsimp only;rw[show zcE D l 0=0 from rfl];by_cases h0:l.getD 0 0=0
  ·rw[yg h0,yg (by omega),yg h0,ye (by omega)];exact⟨S,rfl⟩
  have hv:=zdC ab (s:=(l.getD 0 0).toNat) (by omega) (by omega);have e1:(if (0:Int)+0<zp r (l.getD 0 0).toNat 2 then zp r (l.getD 0 0).toNat 2 else 0+0)=zp r (l.getD 0 0).toNat 2:=by split<;>omega
  rw[ye h0,e1,ye (by omega),ye h0,yg (by omega)];exact⟨_,rfl⟩
 | succ k ih=>
  intro h;obtain⟨i1,i2⟩:=ih (by omega);have hs:=ze6 hx h;rw[zcO];cases hl:(zaj r D l k).2 with
  | true=>rw[i1 hl];refine⟨λ_=>rfl,λe=>?_⟩;unfold zaj at e;rw[hl] at e;split at e<;>simp at e
  | false=>
   obtain⟨S',e⟩:=i2 hl;rw[e];have aa:zcE D l (k+1)=z8 D l k:=by unfold zcE;rw[ye (by omega)];rfl
   unfold zdj zaz;dsimp only;rw[aa];by_cases h0:l.getD (k+1) 0=0
   ·have e1:zaj r D l (k+1)=((zaj r D l k).1+zG r l k+z8 D l k,decide (r.close<(zaj r D l k).1+zG r l k+z8 D l k)):=by
     conv=>lhs;unfold zaj
     rw[yg h0,hl];simp
    have e2:zG r l (k+1)=0:=by unfold zG;rw[ye (by omega)]
    rw[e1,e2,yg h0];dsimp only;by_cases hc:(zaj r D l k).1+zG r l k+z8 D l k<=r.close
    ·rw[yg hc];exact⟨λe=>absurd (yaE e) (by omega),λ_=>⟨S',by simp⟩⟩
    rw[ye hc];exact⟨λ_=>rfl,λe=>absurd (ybR e) (by omega)⟩
   have e1:zaj r D l (k+1)=(zbR r D l k ((zaj r D l k).1+zG r l k),decide (zp r (l.getD (k+1) 0).toNat 3<zbR r D l k ((zaj r D l k).1+zG r l k))):=by
    conv=>lhs;unfold zaj
    rw[ye h0,hl];simp
   have e2:zG r l (k+1)=zp r (l.getD (k+1) 0).toNat 4:=by unfold zG;rw[yg (by omega)]
   rw[e1,e2,ye h0];dsimp only;show _/\_;have e3:(if (zaj r D l k).1+zG r l k+z8 D l k<zp r (l.getD (k+1) 0).toNat 2 then zp r (l.getD (k+1) 0).toNat 2 else (zaj r D l k).1+zG r l k+z8 D l k)=zbR r D l k ((zaj r D l k).1+zG r l k):=rfl;rw[e3];by_cases hc:zp r (l.getD (k+1) 0).toNat 3<zbR r D l k ((zaj r D l k).1+zG r l k)
   ·rw[yg hc];exact⟨λ_=>rfl,λe=>absurd hc (ybR e)⟩
   rw[ye hc];exact⟨λe=>absurd (yaE e) hc,λ_=>⟨_,rfl⟩⟩
theorem zka{r:Rd}{D:Nat->Nat->Int}{l:List Int}(S:List Int)(aa:zE r)(hx:∀x∈l,0<=x/\x<(r.stops.length:Int)+1)(hn:0<l.length):(zay r D l S).isSome=!(zaj r D l (l.length-1)).2:=by
 obtain⟨h1,h2⟩:=zqm (D:=D) S aa hx (l.length-1) (by omega);rw[show l.length-1+1=l.length by omega] at h1 h2;unfold zay;cases hl:(zaj r D l (l.length-1)).2 with
 | true=>rw[h1 hl];rfl
 | false=>obtain⟨S',e⟩:=h2 hl;rw[e];rfl
theorem zp7{r:Rd}{D:Nat->Nat->Int}{l:List Int}(aa:zE r)(hD:∀a b,a<r.stops.length+1->b<r.stops.length+1->-1<=D a b/\D a b<=40960000)(hx:∀x∈l,0<=x/\x<(r.stops.length:Int)+1):∀i,i<l.length->-(i:Int)<=(zaj r D l i).1/\(zaj r D l i).1<=((i:Int)+1)*40980000:=by
 intro i;induction i with
 | zero=>
  intro h;have hs:=ze6 hx h;unfold zaj;dsimp only;split
  ·omega
  have hv:=zdC aa (s:=(l.getD 0 0).toNat) (by omega) (by omega);omega
 | succ i ih=>
  intro hi;have h1:=ih (by omega);have hs1:=ze6 hx (show i<l.length by omega);have hs2:=ze6 hx hi;have hst:0<=zG r l i/\zG r l i<=10000:=by
   unfold zG;by_cases hp:0<l.getD i 0
   ·rw[yg hp];have hv:=zdC aa (s:=(l.getD i 0).toNat) (by omega) (by omega);omega
   rw[ye hp];omega
  have hlg:-1<=z8 D l i/\z8 D l i<=40960000:=hD _ _ (by omega) (by omega);by_cases hz:l.getD (i+1) 0=0
  ·simp only[zaj,yg hz];omega
  simp only[zaj,ye hz];have hv:=zdC aa (s:=(l.getD (i+1) 0).toNat) (by omega) (by omega);unfold zbR;by_cases he:(zaj r D l i).1+zG r l i+z8 D l i<zp r (l.getD (i+1) 0).toNat 2
  ·rw[yg he];omega
  rw[ye he];omega
open Go.RowKit Go.IntWalk
theorem ziE{r:Rd}(ac:zE r){x j:Nat}(hx:1<=x/\x<=r.stops.length)(hj:2<=j/\j<=4):0<=zp r x j/\zp r x j<=10000:=by
 have hm:x-1<r.stops.length:=by omega
 obtain⟨b0,b1,b2,b3,b4,aa,ad⟩:=ac.stops _ (ym hm);have ab:r.stops.getD (x-1) []=[b0,b1,b2,b3,b4]:=by rw[yj,yl hm,yK,aa]
 simp only[zas,yA,za7,yq] at ad;unfold zp;rw[ab];have:j=2\/j=3\/j=4:=by omega
 rcases this with rfl|rfl|rfl
 ·show 0<=b2/\b2<=10000;omega
 ·show 0<=b3/\b3<=10000;omega
 show 0<=b4/\b4<=10000;omega
theorem zdz{l:List Int}{n:Nat}(hx:∀x∈l,0<=x/\x<(n:Int)+1){i:Nat}(hi:i<l.length):0<=l.getD i 0/\l.getD i 0<(n:Int)+1:=by rw[yj,yl hi];exact hx _ (ym _)
theorem zrI{r:Rd}{D:Nat->Nat->Int}{l:List Int}(aa:zE r)(hD:∀a b,a<r.stops.length+1->b<r.stops.length+1->-1<=D a b/\D a b<=40960000)(hx:∀x∈l,0<=x/\x<(r.stops.length:Int)+1):∀i,i<l.length->-(i:Int)<=(zam r D l i).1/\(zam r D l i).1<=(i:Int)*40980000:=by
 intro i;induction i with
 | zero=>intro _;simp[zam]
 | succ i ih=>
  intro hi;have h1:=ih (by omega);have hs1:=zdz hx (show i<l.length by omega);have hs2:=zdz hx hi;have hst:0<=zG r l i/\zG r l i<=10000:=by
   unfold zG;by_cases hp:0<l.getD i 0
   ·rw[yg hp];exact ziE aa (by omega) (by omega)
   rw[ye hp];omega
  have hlg:-1<=z8 D l i/\z8 D l i<=40960000:=hD _ _ (by omega) (by omega);by_cases hz:l.getD (i+1) 0=0
  ·simp only[zam,yg hz];omega
  simp only[zam,ye hz];have hv:=ziE aa (x:=(l.getD (i+1) 0).toNat) (j:=2) (by omega) (by omega);unfold zbR;by_cases he:(zam r D l i).1+zG r l i+z8 D l i<zp r (l.getD (i+1) 0).toNat 2
  ·rw[yg he];omega
  rw[ye he];omega
theorem za8{B:Nat}{w w':World}(h:Below B w w')(m:Nat):Below B w (w'.drewN m):=⟨h.os,h.tape,h.output,h.size,h.block⟩
theorem zgx(r:Rd)(D:Nat->Nat->Int)(l:List Int)(vs vr vw:Value)(gi ci:Nat)(w0:World)(a3:zE r)(hs:StR w0 vs r)(hq:SqR w0 vw (r.stops.length+1) D)(hD:∀a b,a<r.stops.length+1->b<r.stops.length+1->-1<=D a b/\D a b<=40960000)(aF:gi<w0.heap.size)(aY:∀j (hj:j<l.length),w0.cell? ⟨gi,j,none⟩=some (.int .i64 l[j]))(hll:l.length<=1000)(hx:∀x∈l,0<=x/\x<r.stops.length+1)(bw:∃ao n c,vr=.slice ao n c):∀i:Nat,i<l.length->∀w,Below w0.heap.size w0 w->Calls Tryz.prog 110 #[.agg (zi r vs vr vw),.slice (some ⟨gi,0,none⟩) l.length ci,.int .i64 i] w λe w'=>e=.returned (.tuple #[.int .i64 (zaj r D l i).1,.bool (zaj r D l i).2])/\Below w.heap.size w w':=by
 obtain⟨a1,n1,c1,rfl⟩:=bw;obtain⟨af,cf,rfl,hn,bl⟩:=hq;obtain⟨aE,cs,rfl,bm⟩:=hs;have a2:=hid bl;have aU:=hid bm;have ar:=hid aY;have HX:=hid hx;have a0:=hid hD;have aJ:=hid a3;have aR:=hid (zp7 a3 hD hx);have hn7:=a3.nstops;clear bl bm aY hx hD a3;intro i;induction i with
 | zero=>
  intro hi w hb;obtain⟨W,hW⟩:∃W,W=w.alloc (.cells (zi r (.slice aE r.stops.length cs) (.slice a1 n1 c1) (.slice af (r.stops.length+1) cf)) 109):=⟨_,rfl⟩
  obtain⟨aA,ad,-,-,-,-,-,k5,-,-⟩:=za1 hW;obtain⟨x,hx⟩:∃x,x=l[0]:=⟨_,rfl⟩
  have bn:=HX.out x (by rw[hx];exact ym _);have aG:l.getD 0 0=x:=by rw[yj,yl hi,yK,hx]
  have a5:Hid (zaj r D l 0=(if x=0 then 0 else zp r x.toNat 2,false)):=by show _=_;unfold zaj;rw[aG]
  have x0:w.cell? ⟨gi,0,none⟩=some (.int .i64 x):=by rw[hb.cell (by exact aF),ar.out 0 hi,hx]
  have y0:W.cell? ⟨gi,0,none⟩=some (.int .i64 x):=zc aA x0 (ya aF hb.size);have hgw:gi<W.heap.size:=ya (ya aF hb.size) aA.size;have aK:=hid hW;have aa:=hid aA;have ag:Below w0.heap.size w0 W:=hb.trans (aA.mono hb.size);obtain⟨xn,rfl⟩:∃xn:Nat,x=xn:=⟨x.toNat,by omega⟩
  generalize zaj r D l 0=ans at*;have aH:Hid (∀m,m<r.stops.length->∃g b0 b1 b2 b3 b4,aE=some ⟨g,0,none⟩/\g<W.heap.size/\W.cell? ⟨g,m*5,none⟩=some (.int .i64 b0)/\W.cell? ⟨g,m*5+1,none⟩=some (.int .i64 b1)/\W.cell? ⟨g,m*5+2,none⟩=some (.int .i64 b2)/\W.cell? ⟨g,m*5+3,none⟩=some (.int .i64 b3)/\W.cell? ⟨g,m*5+4,none⟩=some (.int .i64 b4)/\(∀j,zp r (m+1) j=[b0,b1,b2,b3,b4].getD j 0)/\(0<=b1/\b1<=10000)/\(0<=b2/\b2<=10000)/\(0<=b3/\b3<=10000)/\(0<=b4/\b4<=10000)):=λm hm=>by refine zia aJ.out (λi h=>?_) hm;obtain⟨g,e1,e2,e3⟩:=aU.out i h;exact⟨g,e1,ya e2 ag.size,λj z hj hz=>zc ag (e3 j z hj hz) e2⟩
  unfold zi at*;have hgw0:=ya aF hb.size;clear hW aR hx aG hb aA;by_cases hz:xn=0
  ·subst hz;go_in;go_wp2_with go_in;go_ret2;exact⟨by rw[a5.out];rfl,by first|exact zj w _|exact(zj w _).drew⟩
  obtain⟨m,rfl⟩:∃m,xn=m+1:=⟨xn-1,by omega⟩
  obtain⟨sg,b0,b1,b2,b3,b4,es,aQ,s0,s1,s2,s3,s4,hV,_,_,_,_⟩:=aH.out m (by omega);cases es;have bo:Hid (ans=(b2,false)):=by show _=_;rw[a5.out,ye (by omega),show ((m+1:Nat):Int).toNat=m+1 by omega,hV];rfl
  have im:(0:Int)<=(m:Int):=by omega
  have jm:(m:Int)<(r.stops.length:Int):=by omega
  have a4:IntKind.i64.wrap ((m:Int)+1-1)=m:=by rw[show (m:Int)+1-1=m by omega];exact zm _ (by omega)
  have aI:IntKind.i64.wrap (m:Int)=m:=zm _ (by omega);clear hV hz a5 s0 s1 s3 s4;go_in;go_wp2_with go_in;rw[<-aK.out];go_region_held3 (λw'=>w'.cell? ⟨w.heap.size,5,none⟩=some (.slice (some ⟨sg,0,none⟩) r.stops.length cs)/\w'.cell? ⟨gi,0,none⟩=some (.int .i64 ((m+1:Nat):Int))/\w'.cell? ⟨sg,m*5+2,none⟩=some (.int .i64 b2)) (go_keep) (fail);go_wp2;go_ret2;exact⟨by rw[bo.out];rfl,by first|exact aa.out|exact aa.out.drew⟩
 | succ q IH=>
  intro hi w hb;cases hlq:(zaj r D l q).2 with
  | false=>
   obtain⟨W,hW⟩:∃W,W=w.alloc (.cells (zi r (.slice aE r.stops.length cs) (.slice a1 n1 c1) (.slice af (r.stops.length+1) cf)) 109):=⟨_,rfl⟩
   obtain⟨aA,ad,-,-,k2,-,-,k5,-,k7⟩:=za1 hW;have ag:Below w0.heap.size w0 W:=hb.trans (aA.mono hb.size);have HC:Hid (∀z:Int,z=(q:Int)->Calls Tryz.prog 110 #[.agg (zi r (.slice aE r.stops.length cs) (.slice a1 n1 c1) (.slice af (r.stops.length+1) cf)),.slice (some ⟨gi,0,none⟩) l.length ci,.int .i64 z] W λe w'=>e=.returned (.tuple #[.int .i64 (zaj r D l q).1,.bool false])/\Below W.heap.size W w'):=λz hz=>by subst hz;have h1:=IH (by omega) W ag;rw[hlq] at h1;exact h1
   obtain⟨x,hx⟩:∃x,x=l[q]:=⟨_,rfl⟩
   obtain⟨y,hy⟩:∃y,y=l[q+1]:=⟨_,rfl⟩
   have bn:=HX.out x (by rw[hx];exact ym _);have bA:=HX.out y (by rw[hy];exact ym _);have x0:W.cell? ⟨gi,q,none⟩=_:=(ag.cell (by exact aF)).trans (ar.out q (by omega));have y0:W.cell? ⟨gi,q+1,none⟩=_:=(ag.cell (by exact aF)).trans (ar.out (q+1) hi);rw[<-hx] at x0;rw[<-hy] at y0;have aG:l.getD q 0=x:=by rw[yj,yl (by omega),yK,hx]
   have aP:l.getD (q+1) 0=y:=by rw[yj,yl hi,yK,hy]
   obtain⟨xn,rfl⟩:∃xn:Nat,x=xn:=⟨x.toNat,by omega⟩
   obtain⟨yn,rfl⟩:∃yn:Nat,y=yn:=⟨y.toNat,by omega⟩
   obtain⟨fg,au,aL,rfl,aN,aW,aw,aX⟩:=a2.out xn (by omega);have hd:W.cell? ⟨au,yn,none⟩=_:=(ag.cell (by exact aw)).trans (aX yn (by omega));have aB:=zc ag aW aN;have aT:Hid (z8 D l q=D xn yn):=by show _=_;unfold z8;rw[aG,aP];simp
   have br:=a0.out xn yn (by omega) (by omega);generalize bd:D xn yn=d at*;have ak:=ya aF ag.size;have ap:=ya aN ag.size;have al:=ya aw ag.size;have aH:Hid (∀m,m<r.stops.length->∃g b0 b1 b2 b3 b4,aE=some ⟨g,0,none⟩/\g<W.heap.size/\W.cell? ⟨g,m*5,none⟩=some (.int .i64 b0)/\W.cell? ⟨g,m*5+1,none⟩=some (.int .i64 b1)/\W.cell? ⟨g,m*5+2,none⟩=some (.int .i64 b2)/\W.cell? ⟨g,m*5+3,none⟩=some (.int .i64 b3)/\W.cell? ⟨g,m*5+4,none⟩=some (.int .i64 b4)/\(∀j,zp r (m+1) j=[b0,b1,b2,b3,b4].getD j 0)/\(0<=b1/\b1<=10000)/\(0<=b2/\b2<=10000)/\(0<=b3/\b3<=10000)/\(0<=b4/\b4<=10000)):=λm hm=>by refine zia aJ.out (λi h=>?_) hm;obtain⟨g,e1,e2,e3⟩:=aU.out i h;exact⟨g,e1,ya e2 ag.size,λj z hj hz=>zc ag (e3 j z hj hz) e2⟩
   have a6:=aR.out q (by omega);have bs:(q:Int)<=1000:=by omega
   obtain⟨t,ht⟩:∃t,t=(zaj r D l q).1:=⟨_,rfl⟩
   rw[<-ht] at a6 HC;have aC:Hid ((zaj r D l (q+1))=if (yn:Int)=0 then (t+zG r l q+d,decide (r.close<t+zG r l q+d)) else ((if t+zG r l q+d<zp r yn 2 then zp r yn 2 else t+zG r l q+d),decide (zp r yn 3<(if t+zG r l q+d<zp r yn 2 then zp r yn 2 else t+zG r l q+d)))):=by show _=_;simp only[zaj,hlq,ycm,zbR,aT.out,aP,<-ht,yam]
   have aV:=hid aG;have aS:=hid (zaH.1 aJ.out.head);have bq:0<=r.close/\r.close<=10000:=by have:=aS.out;omega
   generalize zaj r D l (q+1)=ans at*;have aa:=hid aA;have aK:=hid hW;have bt:(0:Int)<=(q:Int):=by omega
   have bu:(q:Int)<(l.length:Int):=by omega
   have be:(0:Int)<=(q:Int)+1:=by omega
   have bf:(q:Int)+1<(l.length:Int):=by omega
   have ix:(0:Int)<=(xn:Int):=by omega
   have jx:(xn:Int)<(r.stops.length:Int)+1:=by omega
   have iy:(0:Int)<=(yn:Int):=by omega
   have jy:(yn:Int)<(r.stops.length:Int)+1:=by omega
   have bz:IntKind.i64.wrap ((q:Int)+1-1)=q:=by rw[show (q:Int)+1-1=q by omega];exact zm _ (by omega)
   have bj:IntKind.i64.wrap (q:Int)=q:=zm _ (by omega);have ai:Hid (W.cell? ⟨gi,q,none⟩=some (.int .i64 xn)/\W.cell? ⟨gi,q+1,none⟩=some (.int .i64 yn)/\W.cell? ⟨au,yn,none⟩=some (.int .i64 d)/\W.cell? ⟨fg,xn,none⟩=some (.slice (some ⟨au,0,none⟩) (r.stops.length+1:Nat) aL)/\W.cell? ⟨w.heap.size,2,none⟩=some (.int .i64 r.close)/\W.cell? ⟨w.heap.size,5,none⟩=some (.slice aE r.stops.length cs)/\W.cell? ⟨w.heap.size,7,none⟩=some (.slice (some ⟨fg,0,none⟩) (r.stops.length+1:Nat) cf)):=⟨x0,y0,hd,aB,k2,k5,k7⟩
   clear aX bd hx hy aG aP x0 y0 hd aB k2 k5 k7 ag hb aA hW aR ht aW aN aw HX a0 aJ a2 aU ar IH aT aS hlq;unfold zi at*;by_cases bk:xn=0
   ·subst bk;have az:Hid (zG r l q=0):=by show _=_;unfold zG;rw[aV.out];simp
    have bh:IntKind.i64.wrap (t+d)=t+d:=zm _ (by omega);go_in;go_wp2_with fail;rw[<-aK.out];refine(HC.out _ (by omega)).mono ?_;rintro e1 w1⟨rfl,av⟩;have ah:=hid av;clear av HC;have x0:=zc ah.out ai.out.1 ak;have y0:=zc ah.out ai.out.2.1 ak;have hd:=zc ah.out ai.out.2.2.1 al;have aB:=zc ah.out ai.out.2.2.2.1 ap;have k7:=zc ah.out ai.out.2.2.2.2.2.2 ad;have g1:=ya ak ah.out.size;have g2:=ya ap ah.out.size;have g3:=ya al ah.out.size;have g4:=ya ad ah.out.size;go_wp2_with fail;go_region_held3 (λw'=>w'.cell? ⟨w.heap.size,7,none⟩=some (.slice (some ⟨fg,0,none⟩) (r.stops.length+1:Nat) cf)/\w'.cell? ⟨gi,q,none⟩=some (.int .i64 (0:Nat))/\w'.cell? ⟨gi,q+1,none⟩=some (.int .i64 yn)/\w'.cell? ⟨fg,0,none⟩=some (.slice (some ⟨au,0,none⟩) (r.stops.length+1:Nat) aL)/\w'.cell? ⟨au,yn,none⟩=some (.int .i64 d)) (go_keep) (fail);obtain⟨wx,ax⟩:∃wx,wx=w1.drew:=⟨_,rfl⟩
    have ab:Hid (Below W.heap.size W wx):=by show Below _ _ _;rw[ax];exact ah.out.drew
    rw[<-ax];clear ax ah x0 y0 hd aB k7 g1 g2 g3 g4;rename_i aj;clear aj;by_cases hz:yn=0
    ·subst hz;have y0:=zc ab.out ai.out.2.1 ak;have k2:=zc ab.out ai.out.2.2.2.2.1 ad;have g1:=ya ak ab.out.size;have g4:=ya ad ab.out.size;by_cases aM:r.close<t+d
     ·have HA:Hid (ans=(t+d,true)):=by show _=_;rw[aC.out,yg (show ((0:Nat):Int)=0 from rfl),az.out,show t+0+d=t+d by omega,yak aM]
      go_wp2_with go_in;go_region_held3 (λw'=>w'.cell? ⟨w.heap.size,2,none⟩=some (.int .i64 r.close)) (go_keep) (fail);go_wp2;go_ret2;refine⟨?_,by first|exact aa.out.trans (ab.out.mono aa.out.size)|exact aa.out.trans (ab.out.drew.mono aa.out.size)|exact aa.out.trans ((ab.out.alloc ab.out.size _).mono aa.out.size)|exact aa.out.trans ((ab.out.drew.alloc ab.out.size _).mono aa.out.size)|exact aa.out.trans ((ab.out.alloc ab.out.size _).drew.mono aa.out.size)|exact aa.out.trans ((ab.out.drew.alloc ab.out.size _).drew.mono aa.out.size)|exact aa.out.trans (ab.out.drew.drew.mono aa.out.size)⟩;rw[HA.out];rfl
     have HA:Hid (ans=(t+d,decide (r.close<t+d))):=by show _=_;rw[aC.out,yg (show ((0:Nat):Int)=0 from rfl),az.out,show t+0+d=t+d by omega]
     go_wp2_with go_in;go_region_held3 (λw'=>w'.cell? ⟨w.heap.size,2,none⟩=some (.int .i64 r.close)) (go_keep) (fail);go_wp2;go_ret2;refine⟨?_,by first|exact aa.out.trans (ab.out.mono aa.out.size)|exact aa.out.trans (ab.out.drew.mono aa.out.size)|exact aa.out.trans ((ab.out.alloc ab.out.size _).mono aa.out.size)|exact aa.out.trans ((ab.out.drew.alloc ab.out.size _).mono aa.out.size)|exact aa.out.trans ((ab.out.alloc ab.out.size _).drew.mono aa.out.size)|exact aa.out.trans ((ab.out.drew.alloc ab.out.size _).drew.mono aa.out.size)|exact aa.out.trans (ab.out.drew.drew.mono aa.out.size)⟩;rw[HA.out];rfl
    obtain⟨m,rfl⟩:∃m,yn=m+1:=⟨yn-1,by omega⟩
    obtain⟨ay,c0,c1,c2,c3,c4,es,ae,s0,s1,s2,s3,s4,hV,a9,ba,bb,bc⟩:=aH.out m (by omega);cases es;have y0:=zc ab.out ai.out.2.1 ak;have k5:=zc ab.out ai.out.2.2.2.2.2.1 ad;have g1:=ya ak ab.out.size;have g4:=ya ad ab.out.size;have s0:=zc ab.out s0 ae;have s1:=zc ab.out s1 ae;have s2:=zc ab.out s2 ae;have s3:=zc ab.out s3 ae;have s4:=zc ab.out s4 ae;have g5:=ya ae ab.out.size;have im:(0:Int)<=(m:Int):=by omega
    have jm:(m:Int)<(r.stops.length:Int):=by omega
    have a4:IntKind.i64.wrap ((m:Int)+1-1)=m:=by rw[show (m:Int)+1-1=m by omega];exact zm _ (by omega)
    have aI:IntKind.i64.wrap (m:Int)=m:=zm _ (by omega);have aD:zp r (m+1) 2=c2:=by rw[hV];rfl
    have aZ:zp r (m+1) 3=c3:=by rw[hV];rfl
    have aq:Hid (ans=((if t+d<c2 then c2 else t+d),decide (c3<(if t+d<c2 then c2 else t+d)))):=by show _=_;rw[aC.out,ye (by omega),az.out,aD,aZ,show t+0+d=t+d by omega]
    clear hV aD aZ hz;go_wp2_with fail;go_region_held3 (λw'=>w'.cell? ⟨w.heap.size,5,none⟩=some (.slice (some ⟨ay,0,none⟩) r.stops.length cs)/\w'.cell? ⟨gi,q+1,none⟩=some (.int .i64 ((m+1:Nat):Int))/\w'.cell? ⟨ay,m*5,none⟩=some (.int .i64 c0)/\w'.cell? ⟨ay,m*5+1,none⟩=some (.int .i64 c1)/\w'.cell? ⟨ay,m*5+2,none⟩=some (.int .i64 c2)/\w'.cell? ⟨ay,m*5+3,none⟩=some (.int .i64 c3)/\w'.cell? ⟨ay,m*5+4,none⟩=some (.int .i64 c4)) (go_keep) (fail);by_cases ac:t+d<c2
    ·by_cases an:c3<c2
     ·have HA:Hid (ans=(c2,true)):=by show _=_;rw[aq.out,yg ac,yak an]
      go_wp2_with go_in;go_region_held3 (λw'=>w'.cell? ⟨wx.heap.size,3,none⟩=some (.int .i64 c3)) (go_keep) (fail);go_wp2;go_ret2;refine⟨?_,by first|exact aa.out.trans (ab.out.mono aa.out.size)|exact aa.out.trans (ab.out.drew.mono aa.out.size)|exact aa.out.trans ((ab.out.alloc ab.out.size _).mono aa.out.size)|exact aa.out.trans ((ab.out.drew.alloc ab.out.size _).mono aa.out.size)|exact aa.out.trans ((ab.out.alloc ab.out.size _).drew.mono aa.out.size)|exact aa.out.trans ((ab.out.drew.alloc ab.out.size _).drew.mono aa.out.size)|exact aa.out.trans (ab.out.drew.drew.mono aa.out.size)⟩;rw[HA.out];rfl
     have HA:Hid (ans=(c2,decide (c3<c2))):=by show _=_;rw[aq.out,yg ac]
     go_wp2_with go_in;go_region_held3 (λw'=>w'.cell? ⟨wx.heap.size,3,none⟩=some (.int .i64 c3)) (go_keep) (fail);go_wp2;go_ret2;refine⟨?_,by first|exact aa.out.trans (ab.out.mono aa.out.size)|exact aa.out.trans (ab.out.drew.mono aa.out.size)|exact aa.out.trans ((ab.out.alloc ab.out.size _).mono aa.out.size)|exact aa.out.trans ((ab.out.drew.alloc ab.out.size _).mono aa.out.size)|exact aa.out.trans ((ab.out.alloc ab.out.size _).drew.mono aa.out.size)|exact aa.out.trans ((ab.out.drew.alloc ab.out.size _).drew.mono aa.out.size)|exact aa.out.trans (ab.out.drew.drew.mono aa.out.size)⟩;rw[HA.out];rfl
    by_cases an:c3<t+d
    ·have HA:Hid (ans=(t+d,true)):=by show _=_;rw[aq.out,ye ac,yak an]
     go_wp2_with go_in;go_region_held3 (λw'=>w'.cell? ⟨wx.heap.size,3,none⟩=some (.int .i64 c3)) (go_keep) (fail);go_wp2;go_ret2;refine⟨?_,by first|exact aa.out.trans (ab.out.mono aa.out.size)|exact aa.out.trans (ab.out.drew.mono aa.out.size)|exact aa.out.trans ((ab.out.alloc ab.out.size _).mono aa.out.size)|exact aa.out.trans ((ab.out.drew.alloc ab.out.size _).mono aa.out.size)|exact aa.out.trans ((ab.out.alloc ab.out.size _).drew.mono aa.out.size)|exact aa.out.trans ((ab.out.drew.alloc ab.out.size _).drew.mono aa.out.size)|exact aa.out.trans (ab.out.drew.drew.mono aa.out.size)⟩;rw[HA.out];rfl
    have HA:Hid (ans=(t+d,decide (c3<t+d))):=by show _=_;rw[aq.out,ye ac]
    go_wp2_with go_in;go_region_held3 (λw'=>w'.cell? ⟨wx.heap.size,3,none⟩=some (.int .i64 c3)) (go_keep) (fail);go_wp2;go_ret2;refine⟨?_,by first|exact aa.out.trans (ab.out.mono aa.out.size)|exact aa.out.trans (ab.out.drew.mono aa.out.size)|exact aa.out.trans ((ab.out.alloc ab.out.size _).mono aa.out.size)|exact aa.out.trans ((ab.out.drew.alloc ab.out.size _).mono aa.out.size)|exact aa.out.trans ((ab.out.alloc ab.out.size _).drew.mono aa.out.size)|exact aa.out.trans ((ab.out.drew.alloc ab.out.size _).drew.mono aa.out.size)|exact aa.out.trans (ab.out.drew.drew.mono aa.out.size)⟩;rw[HA.out];rfl
   obtain⟨a,rfl⟩:∃a,xn=a+1:=⟨xn-1,by omega⟩
   obtain⟨sg,b0,b1,b2,b3,b4,es,aQ,t0,t1,t2,t3,t4,hV,av,a7,a8,bp⟩:=aH.out a (by omega);cases es;have az:Hid (zG r l q=b4):=by show _=_;unfold zG;rw[aV.out,yg (by omega),show ((a+1:Nat):Int).toNat=a+1 by omega,hV];rfl
   have bh:IntKind.i64.wrap (t+b4)=t+b4:=zm _ (by omega);have bi:IntKind.i64.wrap (t+b4+d)=t+b4+d:=zm _ (by omega);have ia:(0:Int)<=(a:Int):=by omega
   have ja:(a:Int)<(r.stops.length:Int):=by omega
   have bx:IntKind.i64.wrap ((a:Int)+1-1)=a:=by rw[show (a:Int)+1-1=a by omega];exact zm _ (by omega)
   have bg:IntKind.i64.wrap (a:Int)=a:=zm _ (by omega);clear hV t0 t1 t2 t3 av a7 a8;have bB:(0:Int)<=(a:Int)+1:=by omega
   have bC:(a:Int)+1<(r.stops.length:Int)+1:=by omega
   have bv:((a:Int)+1).toNat=a+1:=by omega
   go_in;go_wp2_with fail;rw[<-aK.out];refine(HC.out _ (by omega)).mono ?_;rintro e1 w1⟨rfl,av⟩;have ah:=hid av;clear av HC;have x0:=zc ah.out ai.out.1 ak;have k5:=zc ah.out ai.out.2.2.2.2.2.1 ad;have g1:=ya ak ah.out.size;have g4:=ya ad ah.out.size;have u4:=zc ah.out t4 aQ;have g5:=ya aQ ah.out.size;go_wp2_with fail;go_region_held3 (λw'=>w'.cell? ⟨w.heap.size,5,none⟩=some (.slice (some ⟨sg,0,none⟩) r.stops.length cs)/\w'.cell? ⟨gi,q,none⟩=some (.int .i64 ((a+1:Nat):Int))/\w'.cell? ⟨sg,a*5+4,none⟩=some (.int .i64 b4)) (go_keep) (fail);obtain⟨wy,aO⟩:∃wy,wy=w1.drew:=⟨_,rfl⟩
   have am:Hid (Below W.heap.size W wy):=by show Below _ _ _;rw[aO];exact ah.out.drew
   rw[<-aO];clear aO ah x0 k5 g1 g4 u4 g5;rename_i aj;clear aj;have x0:=zc am.out ai.out.1 ak;have y0:=zc am.out ai.out.2.1 ak;have hd:=zc am.out ai.out.2.2.1 al;have aB:=zc am.out ai.out.2.2.2.1 ap;have k7:=zc am.out ai.out.2.2.2.2.2.2 ad;have g1:=ya ak am.out.size;have g2:=ya ap am.out.size;have g3:=ya al am.out.size;have g4:=ya ad am.out.size;go_wp2_with fail;go_region_held3 (λw'=>w'.cell? ⟨w.heap.size,7,none⟩=some (.slice (some ⟨fg,0,none⟩) (r.stops.length+1:Nat) cf)/\w'.cell? ⟨gi,q,none⟩=some (.int .i64 ((a+1:Nat):Int))/\w'.cell? ⟨gi,q+1,none⟩=some (.int .i64 yn)/\w'.cell? ⟨fg,a+1,none⟩=some (.slice (some ⟨au,0,none⟩) (r.stops.length+1:Nat) aL)/\w'.cell? ⟨au,yn,none⟩=some (.int .i64 d)) (go_keep) (fail);obtain⟨wx,ax⟩:∃wx,wx=wy.drew:=⟨_,rfl⟩
   have ab:Hid (Below W.heap.size W wx):=by show Below _ _ _;rw[ax];exact am.out.drew
   rw[<-ax];clear ax am x0 y0 hd aB k7 g1 g2 g3 g4;rename_i aj;clear aj;by_cases hz:yn=0
   ·subst hz;have y0:=zc ab.out ai.out.2.1 ak;have k2:=zc ab.out ai.out.2.2.2.2.1 ad;have g1:=ya ak ab.out.size;have g4:=ya ad ab.out.size;by_cases aM:r.close<t+b4+d
    ·have HA:Hid (ans=(t+b4+d,true)):=by show _=_;rw[aC.out,yg (show ((0:Nat):Int)=0 from rfl),az.out,show t+b4+d=t+b4+d by omega,yak aM]
     go_wp2_with go_in;go_region_held3 (λw'=>w'.cell? ⟨w.heap.size,2,none⟩=some (.int .i64 r.close)) (go_keep) (fail);go_wp2;go_ret2;refine⟨?_,by first|exact aa.out.trans (ab.out.mono aa.out.size)|exact aa.out.trans (ab.out.drew.mono aa.out.size)|exact aa.out.trans ((ab.out.alloc ab.out.size _).mono aa.out.size)|exact aa.out.trans ((ab.out.drew.alloc ab.out.size _).mono aa.out.size)|exact aa.out.trans ((ab.out.alloc ab.out.size _).drew.mono aa.out.size)|exact aa.out.trans ((ab.out.drew.alloc ab.out.size _).drew.mono aa.out.size)|exact aa.out.trans (ab.out.drew.drew.mono aa.out.size)⟩;rw[HA.out];rfl
    have HA:Hid (ans=(t+b4+d,decide (r.close<t+b4+d))):=by show _=_;rw[aC.out,yg (show ((0:Nat):Int)=0 from rfl),az.out,show t+b4+d=t+b4+d by omega]
    go_wp2_with go_in;go_region_held3 (λw'=>w'.cell? ⟨w.heap.size,2,none⟩=some (.int .i64 r.close)) (go_keep) (fail);go_wp2;go_ret2;refine⟨?_,by first|exact aa.out.trans (ab.out.mono aa.out.size)|exact aa.out.trans (ab.out.drew.mono aa.out.size)|exact aa.out.trans ((ab.out.alloc ab.out.size _).mono aa.out.size)|exact aa.out.trans ((ab.out.drew.alloc ab.out.size _).mono aa.out.size)|exact aa.out.trans ((ab.out.alloc ab.out.size _).drew.mono aa.out.size)|exact aa.out.trans ((ab.out.drew.alloc ab.out.size _).drew.mono aa.out.size)|exact aa.out.trans (ab.out.drew.drew.mono aa.out.size)⟩;rw[HA.out];rfl
   obtain⟨m,rfl⟩:∃m,yn=m+1:=⟨yn-1,by omega⟩
   obtain⟨ay,c0,c1,c2,c3,c4,es,ae,s0,s1,s2,s3,s4,hV,a9,ba,bb,bc⟩:=aH.out m (by omega);cases es;have y0:=zc ab.out ai.out.2.1 ak;have k5:=zc ab.out ai.out.2.2.2.2.2.1 ad;have g1:=ya ak ab.out.size;have g4:=ya ad ab.out.size;have s0:=zc ab.out s0 ae;have s1:=zc ab.out s1 ae;have s2:=zc ab.out s2 ae;have s3:=zc ab.out s3 ae;have s4:=zc ab.out s4 ae;have g5:=ya ae ab.out.size;have im:(0:Int)<=(m:Int):=by omega
   have jm:(m:Int)<(r.stops.length:Int):=by omega
   have a4:IntKind.i64.wrap ((m:Int)+1-1)=m:=by rw[show (m:Int)+1-1=m by omega];exact zm _ (by omega)
   have aI:IntKind.i64.wrap (m:Int)=m:=zm _ (by omega);have aD:zp r (m+1) 2=c2:=by rw[hV];rfl
   have aZ:zp r (m+1) 3=c3:=by rw[hV];rfl
   have aq:Hid (ans=((if t+b4+d<c2 then c2 else t+b4+d),decide (c3<(if t+b4+d<c2 then c2 else t+b4+d)))):=by show _=_;rw[aC.out,ye (by omega),az.out,aD,aZ,show t+b4+d=t+b4+d by omega]
   clear hV aD aZ hz;go_wp2_with fail;go_region_held3 (λw'=>w'.cell? ⟨w.heap.size,5,none⟩=some (.slice (some ⟨sg,0,none⟩) r.stops.length cs)/\w'.cell? ⟨gi,q+1,none⟩=some (.int .i64 ((m+1:Nat):Int))/\w'.cell? ⟨sg,m*5,none⟩=some (.int .i64 c0)/\w'.cell? ⟨sg,m*5+1,none⟩=some (.int .i64 c1)/\w'.cell? ⟨sg,m*5+2,none⟩=some (.int .i64 c2)/\w'.cell? ⟨sg,m*5+3,none⟩=some (.int .i64 c3)/\w'.cell? ⟨sg,m*5+4,none⟩=some (.int .i64 c4)) (go_keep) (fail);by_cases ac:t+b4+d<c2
   ·by_cases an:c3<c2
    ·have HA:Hid (ans=(c2,true)):=by show _=_;rw[aq.out,yg ac,yak an]
     go_wp2_with go_in;go_region_held3 (λw'=>w'.cell? ⟨wx.heap.size,3,none⟩=some (.int .i64 c3)) (go_keep) (fail);go_wp2;go_ret2;refine⟨?_,by first|exact aa.out.trans (ab.out.mono aa.out.size)|exact aa.out.trans (ab.out.drew.mono aa.out.size)|exact aa.out.trans ((ab.out.alloc ab.out.size _).mono aa.out.size)|exact aa.out.trans ((ab.out.drew.alloc ab.out.size _).mono aa.out.size)|exact aa.out.trans ((ab.out.alloc ab.out.size _).drew.mono aa.out.size)|exact aa.out.trans ((ab.out.drew.alloc ab.out.size _).drew.mono aa.out.size)|exact aa.out.trans (ab.out.drew.drew.mono aa.out.size)⟩;rw[HA.out];rfl
    have HA:Hid (ans=(c2,decide (c3<c2))):=by show _=_;rw[aq.out,yg ac]
    go_wp2_with go_in;go_region_held3 (λw'=>w'.cell? ⟨wx.heap.size,3,none⟩=some (.int .i64 c3)) (go_keep) (fail);go_wp2;go_ret2;refine⟨?_,by first|exact aa.out.trans (ab.out.mono aa.out.size)|exact aa.out.trans (ab.out.drew.mono aa.out.size)|exact aa.out.trans ((ab.out.alloc ab.out.size _).mono aa.out.size)|exact aa.out.trans ((ab.out.drew.alloc ab.out.size _).mono aa.out.size)|exact aa.out.trans ((ab.out.alloc ab.out.size _).drew.mono aa.out.size)|exact aa.out.trans ((ab.out.drew.alloc ab.out.size _).drew.mono aa.out.size)|exact aa.out.trans (ab.out.drew.drew.mono aa.out.size)⟩;rw[HA.out];rfl
   by_cases an:c3<t+b4+d
   ·have HA:Hid (ans=(t+b4+d,true)):=by show _=_;rw[aq.out,ye ac,yak an]
    go_wp2_with go_in;go_region_held3 (λw'=>w'.cell? ⟨wx.heap.size,3,none⟩=some (.int .i64 c3)) (go_keep) (fail);go_wp2;go_ret2;refine⟨?_,by first|exact aa.out.trans (ab.out.mono aa.out.size)|exact aa.out.trans (ab.out.drew.mono aa.out.size)|exact aa.out.trans ((ab.out.alloc ab.out.size _).mono aa.out.size)|exact aa.out.trans ((ab.out.drew.alloc ab.out.size _).mono aa.out.size)|exact aa.out.trans ((ab.out.alloc ab.out.size _).drew.mono aa.out.size)|exact aa.out.trans ((ab.out.drew.alloc ab.out.size _).drew.mono aa.out.size)|exact aa.out.trans (ab.out.drew.drew.mono aa.out.size)⟩;rw[HA.out];rfl
   have HA:Hid (ans=(t+b4+d,decide (c3<t+b4+d))):=by show _=_;rw[aq.out,ye ac]
   go_wp2_with go_in;go_region_held3 (λw'=>w'.cell? ⟨wx.heap.size,3,none⟩=some (.int .i64 c3)) (go_keep) (fail);go_wp2;go_ret2;refine⟨?_,by first|exact aa.out.trans (ab.out.mono aa.out.size)|exact aa.out.trans (ab.out.drew.mono aa.out.size)|exact aa.out.trans ((ab.out.alloc ab.out.size _).mono aa.out.size)|exact aa.out.trans ((ab.out.drew.alloc ab.out.size _).mono aa.out.size)|exact aa.out.trans ((ab.out.alloc ab.out.size _).drew.mono aa.out.size)|exact aa.out.trans ((ab.out.drew.alloc ab.out.size _).drew.mono aa.out.size)|exact aa.out.trans (ab.out.drew.drew.mono aa.out.size)⟩;rw[HA.out];rfl
  | true=>
   obtain⟨W,hW⟩:∃W,W=w.alloc (.cells (zi r (.slice aE r.stops.length cs) (.slice a1 n1 c1) (.slice af (r.stops.length+1) cf)) 109):=⟨_,rfl⟩
   obtain⟨aA,ad,-,-,k2,-,-,k5,-,k7⟩:=za1 hW;have ag:Below w0.heap.size w0 W:=hb.trans (aA.mono hb.size);have HC:Hid (∀z:Int,z=(q:Int)->Calls Tryz.prog 110 #[.agg (zi r (.slice aE r.stops.length cs) (.slice a1 n1 c1) (.slice af (r.stops.length+1) cf)),.slice (some ⟨gi,0,none⟩) l.length ci,.int .i64 z] W λe w'=>e=.returned (.tuple #[.int .i64 (zaj r D l q).1,.bool true])/\Below W.heap.size W w'):=λz hz=>by subst hz;have h1:=IH (by omega) W ag;rw[hlq] at h1;exact h1
   obtain⟨x,hx⟩:∃x,x=l[q]:=⟨_,rfl⟩
   obtain⟨y,hy⟩:∃y,y=l[q+1]:=⟨_,rfl⟩
   have bn:=HX.out x (by rw[hx];exact ym _);have bA:=HX.out y (by rw[hy];exact ym _);have x0:W.cell? ⟨gi,q,none⟩=_:=(ag.cell (by exact aF)).trans (ar.out q (by omega));have y0:W.cell? ⟨gi,q+1,none⟩=_:=(ag.cell (by exact aF)).trans (ar.out (q+1) hi);rw[<-hx] at x0;rw[<-hy] at y0;have aG:l.getD q 0=x:=by rw[yj,yl (by omega),yK,hx]
   have aP:l.getD (q+1) 0=y:=by rw[yj,yl hi,yK,hy]
   obtain⟨xn,rfl⟩:∃xn:Nat,x=xn:=⟨x.toNat,by omega⟩
   obtain⟨yn,rfl⟩:∃yn:Nat,y=yn:=⟨y.toNat,by omega⟩
   obtain⟨fg,au,aL,rfl,aN,aW,aw,aX⟩:=a2.out xn (by omega);have hd:W.cell? ⟨au,yn,none⟩=_:=(ag.cell (by exact aw)).trans (aX yn (by omega));have aB:=zc ag aW aN;have aT:Hid (z8 D l q=D xn yn):=by show _=_;unfold z8;rw[aG,aP];simp
   have br:=a0.out xn yn (by omega) (by omega);generalize bd:D xn yn=d at*;have ak:=ya aF ag.size;have ap:=ya aN ag.size;have al:=ya aw ag.size;have aH:Hid (∀m,m<r.stops.length->∃g b0 b1 b2 b3 b4,aE=some ⟨g,0,none⟩/\g<W.heap.size/\W.cell? ⟨g,m*5,none⟩=some (.int .i64 b0)/\W.cell? ⟨g,m*5+1,none⟩=some (.int .i64 b1)/\W.cell? ⟨g,m*5+2,none⟩=some (.int .i64 b2)/\W.cell? ⟨g,m*5+3,none⟩=some (.int .i64 b3)/\W.cell? ⟨g,m*5+4,none⟩=some (.int .i64 b4)/\(∀j,zp r (m+1) j=[b0,b1,b2,b3,b4].getD j 0)/\(0<=b1/\b1<=10000)/\(0<=b2/\b2<=10000)/\(0<=b3/\b3<=10000)/\(0<=b4/\b4<=10000)):=λm hm=>by refine zia aJ.out (λi h=>?_) hm;obtain⟨g,e1,e2,e3⟩:=aU.out i h;exact⟨g,e1,ya e2 ag.size,λj z hj hz=>zc ag (e3 j z hj hz) e2⟩
   have a6:=aR.out q (by omega);have bs:(q:Int)<=1000:=by omega
   obtain⟨t,ht⟩:∃t,t=(zaj r D l q).1:=⟨_,rfl⟩
   rw[<-ht] at a6 HC;have aC:Hid ((zaj r D l (q+1))=if (yn:Int)=0 then (t+zG r l q+d,true) else ((if t+zG r l q+d<zp r yn 2 then zp r yn 2 else t+zG r l q+d),true)):=by show _=_;simp only[zaj,hlq,Bool.true_or,zbR,aT.out,aP,<-ht,yam]
   have aV:=hid aG;have aS:=hid (zaH.1 aJ.out.head);have bq:0<=r.close/\r.close<=10000:=by have:=aS.out;omega
   generalize zaj r D l (q+1)=ans at*;have aa:=hid aA;have aK:=hid hW;have bt:(0:Int)<=(q:Int):=by omega
   have bu:(q:Int)<(l.length:Int):=by omega
   have be:(0:Int)<=(q:Int)+1:=by omega
   have bf:(q:Int)+1<(l.length:Int):=by omega
   have ix:(0:Int)<=(xn:Int):=by omega
   have jx:(xn:Int)<(r.stops.length:Int)+1:=by omega
   have iy:(0:Int)<=(yn:Int):=by omega
   have jy:(yn:Int)<(r.stops.length:Int)+1:=by omega
   have bz:IntKind.i64.wrap ((q:Int)+1-1)=q:=by rw[show (q:Int)+1-1=q by omega];exact zm _ (by omega)
   have bj:IntKind.i64.wrap (q:Int)=q:=zm _ (by omega);have ai:Hid (W.cell? ⟨gi,q,none⟩=some (.int .i64 xn)/\W.cell? ⟨gi,q+1,none⟩=some (.int .i64 yn)/\W.cell? ⟨au,yn,none⟩=some (.int .i64 d)/\W.cell? ⟨fg,xn,none⟩=some (.slice (some ⟨au,0,none⟩) (r.stops.length+1:Nat) aL)/\W.cell? ⟨w.heap.size,2,none⟩=some (.int .i64 r.close)/\W.cell? ⟨w.heap.size,5,none⟩=some (.slice aE r.stops.length cs)/\W.cell? ⟨w.heap.size,7,none⟩=some (.slice (some ⟨fg,0,none⟩) (r.stops.length+1:Nat) cf)):=⟨x0,y0,hd,aB,k2,k5,k7⟩
   clear aX bd hx hy aG aP x0 y0 hd aB k2 k5 k7 ag hb aA hW aR ht aW aN aw HX a0 aJ a2 aU ar IH aT aS hlq;unfold zi at*;by_cases bk:xn=0
   ·subst bk;have az:Hid (zG r l q=0):=by show _=_;unfold zG;rw[aV.out];simp
    have bh:IntKind.i64.wrap (t+d)=t+d:=zm _ (by omega);go_in;go_wp2_with fail;rw[<-aK.out];refine(HC.out _ (by omega)).mono ?_;rintro e1 w1⟨rfl,av⟩;have ah:=hid av;clear av HC;have x0:=zc ah.out ai.out.1 ak;have y0:=zc ah.out ai.out.2.1 ak;have hd:=zc ah.out ai.out.2.2.1 al;have aB:=zc ah.out ai.out.2.2.2.1 ap;have k7:=zc ah.out ai.out.2.2.2.2.2.2 ad;have g1:=ya ak ah.out.size;have g2:=ya ap ah.out.size;have g3:=ya al ah.out.size;have g4:=ya ad ah.out.size;go_wp2_with fail;go_region_held3 (λw'=>w'.cell? ⟨w.heap.size,7,none⟩=some (.slice (some ⟨fg,0,none⟩) (r.stops.length+1:Nat) cf)/\w'.cell? ⟨gi,q,none⟩=some (.int .i64 (0:Nat))/\w'.cell? ⟨gi,q+1,none⟩=some (.int .i64 yn)/\w'.cell? ⟨fg,0,none⟩=some (.slice (some ⟨au,0,none⟩) (r.stops.length+1:Nat) aL)/\w'.cell? ⟨au,yn,none⟩=some (.int .i64 d)) (go_keep) (fail);obtain⟨wx,ax⟩:∃wx,wx=w1.drew:=⟨_,rfl⟩
    have ab:Hid (Below W.heap.size W wx):=by show Below _ _ _;rw[ax];exact ah.out.drew
    rw[<-ax];clear ax ah x0 y0 hd aB k7 g1 g2 g3 g4;rename_i aj;clear aj;by_cases hz:yn=0
    ·subst hz;have y0:=zc ab.out ai.out.2.1 ak;have k2:=zc ab.out ai.out.2.2.2.2.1 ad;have g1:=ya ak ab.out.size;have g4:=ya ad ab.out.size;have HA:Hid (ans=(t+d,true)):=by show _=_;rw[aC.out,yg (show ((0:Nat):Int)=0 from rfl),az.out,show t+0+d=t+d by omega]
     go_wp2_with go_in;go_quiet (fail);go_wp2;go_ret2;refine⟨?_,by first|exact aa.out.trans ((za8 ab.out _).mono aa.out.size)|exact aa.out.trans ((za8 (ab.out.alloc ab.out.size _).drew _).mono aa.out.size)|exact aa.out.trans ((za8 (ab.out.alloc ab.out.size _) _).mono aa.out.size)|exact aa.out.trans (ab.out.mono aa.out.size)|exact aa.out.trans (ab.out.drew.mono aa.out.size)|exact aa.out.trans ((ab.out.alloc ab.out.size _).mono aa.out.size)|exact aa.out.trans ((ab.out.drew.alloc ab.out.size _).mono aa.out.size)|exact aa.out.trans ((ab.out.alloc ab.out.size _).drew.mono aa.out.size)|exact aa.out.trans ((ab.out.drew.alloc ab.out.size _).drew.mono aa.out.size)|exact aa.out.trans (ab.out.drew.drew.mono aa.out.size)⟩;rw[HA.out];rfl
    obtain⟨m,rfl⟩:∃m,yn=m+1:=⟨yn-1,by omega⟩
    obtain⟨ay,c0,c1,c2,c3,c4,es,ae,s0,s1,s2,s3,s4,hV,a9,ba,bb,bc⟩:=aH.out m (by omega);cases es;have y0:=zc ab.out ai.out.2.1 ak;have k5:=zc ab.out ai.out.2.2.2.2.2.1 ad;have g1:=ya ak ab.out.size;have g4:=ya ad ab.out.size;have s0:=zc ab.out s0 ae;have s1:=zc ab.out s1 ae;have s2:=zc ab.out s2 ae;have s3:=zc ab.out s3 ae;have s4:=zc ab.out s4 ae;have g5:=ya ae ab.out.size;have im:(0:Int)<=(m:Int):=by omega
    have jm:(m:Int)<(r.stops.length:Int):=by omega
    have a4:IntKind.i64.wrap ((m:Int)+1-1)=m:=by rw[show (m:Int)+1-1=m by omega];exact zm _ (by omega)
    have aI:IntKind.i64.wrap (m:Int)=m:=zm _ (by omega);have aD:zp r (m+1) 2=c2:=by rw[hV];rfl
    have aq:Hid (ans=((if t+d<c2 then c2 else t+d),true)):=by show _=_;rw[aC.out,ye (by omega),az.out,aD,show t+0+d=t+d by omega]
    clear hV aD hz;go_wp2_with fail;go_region_held3 (λw'=>w'.cell? ⟨w.heap.size,5,none⟩=some (.slice (some ⟨ay,0,none⟩) r.stops.length cs)/\w'.cell? ⟨gi,q+1,none⟩=some (.int .i64 ((m+1:Nat):Int))/\w'.cell? ⟨ay,m*5,none⟩=some (.int .i64 c0)/\w'.cell? ⟨ay,m*5+1,none⟩=some (.int .i64 c1)/\w'.cell? ⟨ay,m*5+2,none⟩=some (.int .i64 c2)/\w'.cell? ⟨ay,m*5+3,none⟩=some (.int .i64 c3)/\w'.cell? ⟨ay,m*5+4,none⟩=some (.int .i64 c4)) (go_keep) (fail);by_cases ac:t+d<c2
    ·have HA:Hid (ans=(c2,true)):=by show _=_;rw[aq.out,yg ac]
     go_wp2_with go_in;go_quiet (fail);go_wp2;go_ret2;refine⟨?_,by first|exact aa.out.trans ((za8 ab.out _).mono aa.out.size)|exact aa.out.trans ((za8 (ab.out.alloc ab.out.size _).drew _).mono aa.out.size)|exact aa.out.trans ((za8 (ab.out.alloc ab.out.size _) _).mono aa.out.size)|exact aa.out.trans (ab.out.mono aa.out.size)|exact aa.out.trans (ab.out.drew.mono aa.out.size)|exact aa.out.trans ((ab.out.alloc ab.out.size _).mono aa.out.size)|exact aa.out.trans ((ab.out.drew.alloc ab.out.size _).mono aa.out.size)|exact aa.out.trans ((ab.out.alloc ab.out.size _).drew.mono aa.out.size)|exact aa.out.trans ((ab.out.drew.alloc ab.out.size _).drew.mono aa.out.size)|exact aa.out.trans (ab.out.drew.drew.mono aa.out.size)⟩;rw[HA.out];rfl
    have HA:Hid (ans=(t+d,true)):=by show _=_;rw[aq.out,ye ac]
    go_wp2_with go_in;go_quiet (fail);go_wp2;go_ret2;refine⟨?_,by first|exact aa.out.trans ((za8 ab.out _).mono aa.out.size)|exact aa.out.trans ((za8 (ab.out.alloc ab.out.size _).drew _).mono aa.out.size)|exact aa.out.trans ((za8 (ab.out.alloc ab.out.size _) _).mono aa.out.size)|exact aa.out.trans (ab.out.mono aa.out.size)|exact aa.out.trans (ab.out.drew.mono aa.out.size)|exact aa.out.trans ((ab.out.alloc ab.out.size _).mono aa.out.size)|exact aa.out.trans ((ab.out.drew.alloc ab.out.size _).mono aa.out.size)|exact aa.out.trans ((ab.out.alloc ab.out.size _).drew.mono aa.out.size)|exact aa.out.trans ((ab.out.drew.alloc ab.out.size _).drew.mono aa.out.size)|exact aa.out.trans (ab.out.drew.drew.mono aa.out.size)⟩;rw[HA.out];rfl
   obtain⟨a,rfl⟩:∃a,xn=a+1:=⟨xn-1,by omega⟩
   obtain⟨sg,b0,b1,b2,b3,b4,es,aQ,t0,t1,t2,t3,t4,hV,av,a7,a8,bp⟩:=aH.out a (by omega);cases es;have az:Hid (zG r l q=b4):=by show _=_;unfold zG;rw[aV.out,yg (by omega),show ((a+1:Nat):Int).toNat=a+1 by omega,hV];rfl
   have bh:IntKind.i64.wrap (t+b4)=t+b4:=zm _ (by omega);have bi:IntKind.i64.wrap (t+b4+d)=t+b4+d:=zm _ (by omega);have ia:(0:Int)<=(a:Int):=by omega
   have ja:(a:Int)<(r.stops.length:Int):=by omega
   have bx:IntKind.i64.wrap ((a:Int)+1-1)=a:=by rw[show (a:Int)+1-1=a by omega];exact zm _ (by omega)
   have bg:IntKind.i64.wrap (a:Int)=a:=zm _ (by omega);clear hV t0 t1 t2 t3 av a7 a8;have bB:(0:Int)<=(a:Int)+1:=by omega
   have bC:(a:Int)+1<(r.stops.length:Int)+1:=by omega
   have bv:((a:Int)+1).toNat=a+1:=by omega
   go_in;go_wp2_with fail;rw[<-aK.out];refine(HC.out _ (by omega)).mono ?_;rintro e1 w1⟨rfl,av⟩;have ah:=hid av;clear av HC;have x0:=zc ah.out ai.out.1 ak;have k5:=zc ah.out ai.out.2.2.2.2.2.1 ad;have g1:=ya ak ah.out.size;have g4:=ya ad ah.out.size;have u4:=zc ah.out t4 aQ;have g5:=ya aQ ah.out.size;go_wp2_with fail;go_region_held3 (λw'=>w'.cell? ⟨w.heap.size,5,none⟩=some (.slice (some ⟨sg,0,none⟩) r.stops.length cs)/\w'.cell? ⟨gi,q,none⟩=some (.int .i64 ((a+1:Nat):Int))/\w'.cell? ⟨sg,a*5+4,none⟩=some (.int .i64 b4)) (go_keep) (fail);obtain⟨wy,aO⟩:∃wy,wy=w1.drew:=⟨_,rfl⟩
   have am:Hid (Below W.heap.size W wy):=by show Below _ _ _;rw[aO];exact ah.out.drew
   rw[<-aO];clear aO ah x0 k5 g1 g4 u4 g5;rename_i aj;clear aj;have x0:=zc am.out ai.out.1 ak;have y0:=zc am.out ai.out.2.1 ak;have hd:=zc am.out ai.out.2.2.1 al;have aB:=zc am.out ai.out.2.2.2.1 ap;have k7:=zc am.out ai.out.2.2.2.2.2.2 ad;have g1:=ya ak am.out.size;have g2:=ya ap am.out.size;have g3:=ya al am.out.size;have g4:=ya ad am.out.size;go_wp2_with fail;go_region_held3 (λw'=>w'.cell? ⟨w.heap.size,7,none⟩=some (.slice (some ⟨fg,0,none⟩) (r.stops.length+1:Nat) cf)/\w'.cell? ⟨gi,q,none⟩=some (.int .i64 ((a+1:Nat):Int))/\w'.cell? ⟨gi,q+1,none⟩=some (.int .i64 yn)/\w'.cell? ⟨fg,a+1,none⟩=some (.slice (some ⟨au,0,none⟩) (r.stops.length+1:Nat) aL)/\w'.cell? ⟨au,yn,none⟩=some (.int .i64 d)) (go_keep) (fail);obtain⟨wx,ax⟩:∃wx,wx=wy.drew:=⟨_,rfl⟩
   have ab:Hid (Below W.heap.size W wx):=by show Below _ _ _;rw[ax];exact am.out.drew
   rw[<-ax];clear ax am x0 y0 hd aB k7 g1 g2 g3 g4;rename_i aj;clear aj;by_cases hz:yn=0
   ·subst hz;have y0:=zc ab.out ai.out.2.1 ak;have k2:=zc ab.out ai.out.2.2.2.2.1 ad;have g1:=ya ak ab.out.size;have g4:=ya ad ab.out.size;have HA:Hid (ans=(t+b4+d,true)):=by show _=_;rw[aC.out,yg (show ((0:Nat):Int)=0 from rfl),az.out,show t+b4+d=t+b4+d by omega]
    go_wp2_with go_in;go_quiet (fail);go_wp2;go_ret2;refine⟨?_,by first|exact aa.out.trans ((za8 ab.out _).mono aa.out.size)|exact aa.out.trans ((za8 (ab.out.alloc ab.out.size _).drew _).mono aa.out.size)|exact aa.out.trans ((za8 (ab.out.alloc ab.out.size _) _).mono aa.out.size)|exact aa.out.trans (ab.out.mono aa.out.size)|exact aa.out.trans (ab.out.drew.mono aa.out.size)|exact aa.out.trans ((ab.out.alloc ab.out.size _).mono aa.out.size)|exact aa.out.trans ((ab.out.drew.alloc ab.out.size _).mono aa.out.size)|exact aa.out.trans ((ab.out.alloc ab.out.size _).drew.mono aa.out.size)|exact aa.out.trans ((ab.out.drew.alloc ab.out.size _).drew.mono aa.out.size)|exact aa.out.trans (ab.out.drew.drew.mono aa.out.size)⟩;rw[HA.out];rfl
   obtain⟨m,rfl⟩:∃m,yn=m+1:=⟨yn-1,by omega⟩
   obtain⟨ay,c0,c1,c2,c3,c4,es,ae,s0,s1,s2,s3,s4,hV,a9,ba,bb,bc⟩:=aH.out m (by omega);cases es;have y0:=zc ab.out ai.out.2.1 ak;have k5:=zc ab.out ai.out.2.2.2.2.2.1 ad;have g1:=ya ak ab.out.size;have g4:=ya ad ab.out.size;have s0:=zc ab.out s0 ae;have s1:=zc ab.out s1 ae;have s2:=zc ab.out s2 ae;have s3:=zc ab.out s3 ae;have s4:=zc ab.out s4 ae;have g5:=ya ae ab.out.size;have im:(0:Int)<=(m:Int):=by omega
   have jm:(m:Int)<(r.stops.length:Int):=by omega
   have a4:IntKind.i64.wrap ((m:Int)+1-1)=m:=by rw[show (m:Int)+1-1=m by omega];exact zm _ (by omega)
   have aI:IntKind.i64.wrap (m:Int)=m:=zm _ (by omega);have aD:zp r (m+1) 2=c2:=by rw[hV];rfl
   have aq:Hid (ans=((if t+b4+d<c2 then c2 else t+b4+d),true)):=by show _=_;rw[aC.out,ye (by omega),az.out,aD,show t+b4+d=t+b4+d by omega]
   clear hV aD hz;go_wp2_with fail;go_region_held3 (λw'=>w'.cell? ⟨w.heap.size,5,none⟩=some (.slice (some ⟨sg,0,none⟩) r.stops.length cs)/\w'.cell? ⟨gi,q+1,none⟩=some (.int .i64 ((m+1:Nat):Int))/\w'.cell? ⟨sg,m*5,none⟩=some (.int .i64 c0)/\w'.cell? ⟨sg,m*5+1,none⟩=some (.int .i64 c1)/\w'.cell? ⟨sg,m*5+2,none⟩=some (.int .i64 c2)/\w'.cell? ⟨sg,m*5+3,none⟩=some (.int .i64 c3)/\w'.cell? ⟨sg,m*5+4,none⟩=some (.int .i64 c4)) (go_keep) (fail);by_cases ac:t+b4+d<c2
   ·have HA:Hid (ans=(c2,true)):=by show _=_;rw[aq.out,yg ac]
    go_wp2_with go_in;go_quiet (fail);go_wp2;go_ret2;refine⟨?_,by first|exact aa.out.trans ((za8 ab.out _).mono aa.out.size)|exact aa.out.trans ((za8 (ab.out.alloc ab.out.size _).drew _).mono aa.out.size)|exact aa.out.trans ((za8 (ab.out.alloc ab.out.size _) _).mono aa.out.size)|exact aa.out.trans (ab.out.mono aa.out.size)|exact aa.out.trans (ab.out.drew.mono aa.out.size)|exact aa.out.trans ((ab.out.alloc ab.out.size _).mono aa.out.size)|exact aa.out.trans ((ab.out.drew.alloc ab.out.size _).mono aa.out.size)|exact aa.out.trans ((ab.out.alloc ab.out.size _).drew.mono aa.out.size)|exact aa.out.trans ((ab.out.drew.alloc ab.out.size _).drew.mono aa.out.size)|exact aa.out.trans (ab.out.drew.drew.mono aa.out.size)⟩;rw[HA.out];rfl
   have HA:Hid (ans=(t+b4+d,true)):=by show _=_;rw[aq.out,ye ac]
   go_wp2_with go_in;go_quiet (fail);go_wp2;go_ret2;refine⟨?_,by first|exact aa.out.trans ((za8 ab.out _).mono aa.out.size)|exact aa.out.trans ((za8 (ab.out.alloc ab.out.size _).drew _).mono aa.out.size)|exact aa.out.trans ((za8 (ab.out.alloc ab.out.size _) _).mono aa.out.size)|exact aa.out.trans (ab.out.mono aa.out.size)|exact aa.out.trans (ab.out.drew.mono aa.out.size)|exact aa.out.trans ((ab.out.alloc ab.out.size _).mono aa.out.size)|exact aa.out.trans ((ab.out.drew.alloc ab.out.size _).mono aa.out.size)|exact aa.out.trans ((ab.out.alloc ab.out.size _).drew.mono aa.out.size)|exact aa.out.trans ((ab.out.drew.alloc ab.out.size _).drew.mono aa.out.size)|exact aa.out.trans (ab.out.drew.drew.mono aa.out.size)⟩;rw[HA.out];rfl
theorem zwi{r:Rd}{D:Nat->Nat->Int}{l:List Int}(h0:l.getD 0 0=0):∀i,zam r D l i=zaj r D l i:=by
 intro i;induction i with
 | zero=>show (0,false)=(if l.getD 0 0=0 then (0:Int) else _,false);rw[yg h0]
 | succ i ih=>show (if _ then _ else _)=(if _ then _ else _);rw[ih]
theorem zrr(r:Rd)(D:Nat->Nat->Int)(l:List Int)(vs vr vw:Value)(gi ci:Nat)(w0:World)(ad:zE r)(hs:StR w0 vs r)(hq:SqR w0 vw (r.stops.length+1) D)(hD:∀a b,a<r.stops.length+1->b<r.stops.length+1->-1<=D a b/\D a b<=40960000)(ab:gi<w0.heap.size)(aa:∀j (hj:j<l.length),w0.cell? ⟨gi,j,none⟩=some (.int .i64 l[j]))(ac:l.length<=1000)(hx:∀x∈l,0<=x/\x<r.stops.length+1)(h0:l.getD 0 0=0)(ae:∃ao n c,vr=.slice ao n c):∀i:Nat,i<l.length->(∀q,q<i->(zam r D l q).2=false)->∀w,Below w0.heap.size w0 w->Calls Tryz.prog 110 #[.agg (zi r vs vr vw),.slice (some ⟨gi,0,none⟩) l.length ci,.int .i64 i] w λe w'=>e=.returned (.tuple #[.int .i64 (zam r D l i).1,.bool (zam r D l i).2])/\Below w.heap.size w w':=by intro i hi _ w hw;rw[zwi h0];exact zgx r D l vs vr vw gi ci w0 ad hs hq hD ab aa ac hx ae i hi w hw
end Go.Proofs.YtebinaopncclgabGreatDoor
