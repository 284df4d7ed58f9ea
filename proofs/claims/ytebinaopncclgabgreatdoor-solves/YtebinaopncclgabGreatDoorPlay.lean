import Derived.Test.YtebinaopncclgabGreatDoorSameI
set_option maxRecDepth 100000
set_option maxHeartbeats 8000000
namespace Go.Proofs.YtebinaopncclgabGreatDoor
open Go.RowKit Go.IntWalk
def zeK(w:World)(bd:Nat)(t:TypeId)(size:Nat)(P:Nat->Value->Prop)(v:Value):Prop:=∃ao c,v=.slice ao c c/\c<=maxLen/\(0<c->∃g cur,ao=some ⟨g,0,none⟩/\g<bd/\w.heap[g]?=some (.cells cur t (0,0))/\∀j q,j<c->q<size->∃u,cur[j*size+q]?=some u/\P q u)
theorem zeK.keep{w w':World}{bd aa:Nat}{t:TypeId}{size:Nat}{P:Nat->Value->Prop}{v:Value}{T:List TypeId}(h:zeK w bd t size P v)(hk:zZ T w w')(ht:t∉T)(hb:bd<=aa):zeK w' aa t size P v:=by obtain⟨ao,c,h1,h2,h3⟩:=h;refine⟨ao,c,h1,h2,λhc=>?_⟩;obtain⟨g,cur,k1,k2,k3,k4⟩:=h3 hc;exact⟨g,cur,k1,by omega,hk g cur t _ k3 ht,k4⟩
theorem zeK.lt{w:World}{bd:Nat}{t:TypeId}{size:Nat}{P:Nat->Value->Prop}{v:Value}(h:zeK w bd t size P v):∀g c,v=.slice (some ⟨g,0,none⟩) c c->0<c->g<bd:=by obtain⟨ao,c,h1,h2,h3⟩:=h;intro g c' e hc;rw[h1] at e;cases e;obtain⟨g',cur,k1,k2,_⟩:=h3 hc;cases k1;exact k2
theorem zeK.grown{w w':World}{bd aa:Nat}{t:TypeId}{size:Nat}{P:Nat->Value->Prop}{v:Value}{row:Option Nat}(h:zeK w bd t size P v)(hg:w.grownBy w' row)(hr:∀g c,v=.slice (some ⟨g,0,none⟩) c c->0<c->row≠some g)(hb:bd<=aa):zeK w' aa t size P v:=by obtain⟨ao,c,h1,h2,h3⟩:=h;refine⟨ao,c,h1,h2,λhc=>?_⟩;obtain⟨g,cur,k1,k2,k3,k4⟩:=h3 hc;exact⟨g,cur,k1,by omega,by rw[hg.block g (yc.1 k3).1 (λe=>hr g c (by rw[h1,k1]) hc e.symm)];exact k3,k4⟩
def zuy(i:Nat)(_:Nat)(u:Value):Prop:=u=.int .i64 ((i+1:Nat):Int)
def zwA(i:Nat)(_:Nat)(u:Value):Prop:=∃a c,u=.slice a (i+1) c
def zo7(i:Nat)(q:Nat)(u:Value):Prop:=u=.int .i64 (if q=0 then ((i+1:Nat):Int) else 0)
def zv2(i:Nat)(q:Nat)(u:Value):Prop:=u=if q=0 then .int .i64 ((i+1:Nat):Int) else .slice none 0 0
structure ze9 (w:World) (bb bd hb:Nat) (vi vr vs vd vn:Value) (I R S D N:List Value):Prop where
 box:w.heap[hb]?=some (.cells #[vi,vr,vs,vd,vn] 55 (0,0))
 lo:bb<=hb
 oi:w.ownsRow bb 40 1 vi I.length I
 or:w.ownsRow bb 31 1 vr R.length R
 os:w.ownsRow bb 25 1 vs S.length S
 od:w.ownsRow bb 26 1 vd D.length D
 on:w.ownsRow bb 56 1 vn N.length N
 fi:∀i (h:i<I.length),zeK w bd 3 1 (zuy i) I[i]
 fr:∀i (h:i<R.length),zeK w bd 40 1 (zwA i) R[i]
 fs:∀i (h:i<S.length),zeK w bd 62 5 (zo7 i) S[i]
 fd:∀i (h:i<D.length),zeK w bd 64 3 (zo7 i) D[i]
 fn:∀i (h:i<N.length),zeK w bd 76 2 (zv2 i) N[i]
theorem ze9.below{w w':World}{bb bd hb:Nat}{vi vr vs vd vn:Value}{I R S D N:List Value}(h:ze9 w bb bd hb vi vr vs vd vn I R S D N)(aa:Below w.heap.size w w'){ab:Nat}(h2:bd<=ab):ze9 w' bb ab hb vi vr vs vd vn I R S D N:=
 have hk:zZ [] w w':=zZ.of_below aa
 ⟨by rw[aa.block _ (yc.1 h.box).1];exact h.box,h.lo,ze h.oi aa,ze h.or aa,ze h.os aa,ze h.od aa,ze h.on aa,λi hi=>(h.fi i hi).keep hk (by simp) h2,λi hi=>(h.fr i hi).keep hk (by simp) h2,λi hi=>(h.fs i hi).keep hk (by simp) h2,λi hi=>(h.fd i hi).keep hk (by simp) h2,λi hi=>(h.fn i hi).keep hk (by simp) h2⟩
theorem zdf{w:World}{B n:Nat}{e:TypeId}{v:Value}{xs:List Value}(h:w.ownsRow B e 1 v n xs){i:Nat}(hi:i<n)(hx:i<xs.length):∃g cap,v=.slice (some ⟨g,0,none⟩) n cap/\g<w.heap.size/\w.cell? ⟨g,i,none⟩=some xs[i]:=by obtain⟨g,cap,cur,rfl,_,hg,_⟩:=zF h (by omega);refine⟨g,cap,rfl,(yc.1 hg).1,?_⟩;rw[h.cellAt i (by omega)];simp[hx]
theorem zgi{w:World}{B n size:Nat}{e:TypeId}{v:Value}{xs:List Value}(h:w.ownsRow B e size v n xs):n<=9223372036854775807:=by
 rcases h.2 with ⟨_,h0⟩|⟨g,cap,cur,_,_,_,h1,h2,_⟩
 ·omega
 unfold maxLen at h2;omega
theorem zeC{w:World}{bd:Nat}{t:TypeId}{size:Nat}{P:Nat->Value->Prop}{v:Value}(h:zeK w bd t size P v):∃ao c,v=.slice ao c c/\c<=9223372036854775807/\∀j,j<c->∃g,ao=some ⟨g,0,none⟩/\g<w.heap.size/\∀q,q<size->∃u,w.cell? ⟨g,j*size+q,none⟩=some u/\P q u:=by obtain⟨ao,c,h1,h2,h3⟩:=h;refine⟨ao,c,h1,by unfold maxLen at h2;omega,λj hj=>?_⟩;obtain⟨g,cur,k1,_,k3,k4⟩:=h3 (by omega);refine⟨g,k1,(yc.1 k3).1,λq hq=>?_⟩;obtain⟨u,e1,e2⟩:=k4 j q hj hq;exact⟨u,by rw[yi _ _ _ _ _ _ k3];exact e1,e2⟩
theorem zcl{w:World}{bb bd hb:Nat}{vi vr vs vd vn:Value}{I R S D N:List Value}(h:ze9 w bb bd hb vi vr vs vd vn I R S D N):hb<w.heap.size/\w.cell? ⟨hb,0,none⟩=some vi/\w.cell? ⟨hb,1,none⟩=some vr/\w.cell? ⟨hb,2,none⟩=some vs/\w.cell? ⟨hb,3,none⟩=some vd/\w.cell? ⟨hb,4,none⟩=some vn:=by refine⟨(yc.1 h.box).1,?_,?_,?_,?_,?_⟩<;>(rw[yi _ _ _ _ _ _ h.box];rfl)
theorem zwe{w:World}{g j i:Nat}{u:Value}(h:w.cell? ⟨g,j*1+0,none⟩=some u/\zuy i 0 u):w.cell? ⟨g,j,none⟩=some (.int .i64 ((i:Int)+1)):=by have h1:=h.1;rw[h.2,Nat.mul_one,ybg] at h1;rw[h1];simp
theorem zsf(bb bd hb:Nat)(vi vr vs vd vn:Value)(I R S D N:List Value)(w:World)(h:ze9 w bb bd hb vi vr vs vd vn I R S D N):Calls Tryz.prog 35 #[.pointer (some ⟨hb,0,none⟩)] w λe w'=>e=.returned (.bool true)/\Below w.heap.size w w':=by
 have HH:=hid h;have hmi:=zgi h.oi;have hmr:=zgi h.or;obtain⟨avi,cvi,ak,_,_⟩:=zg h.oi;obtain⟨avr,cvr,al,_,_⟩:=zg h.or;subst ak al;clear h;go_in;go_wp2_with fail;go_loopw[3] (λi wr=>∃k:Nat,i=.int .i64 k/\k<=I.length/\Hid (Below w.heap.size w wr)) (λi _=>I.length-(intOf i).toNat)
 ·exact⟨0,rfl,by omega,yk _ _⟩
 obtain⟨k,rfl,hk,HB⟩:=hrel;obtain⟨aa,c0,c1,_,_,_⟩:=zcl (HH.out.below HB.out (yh bd));by_cases ad:k<I.length
 ·obtain⟨g0,ae,e0,ab,x0⟩:=zdf (ze HH.out.oi HB.out) ad ad;cases e0;obtain⟨ao,c,hv,ai,hc⟩:=zeC (HH.out.fi k ad);rw[hv] at x0;have HC:=hid hc;have HV:=hid hv;clear hc hv c1;go_wp2_with fail;go_loopw[4] (λi wr=>∃p:Nat,i=.int .i64 p/\p<=c/\Hid (Below w.heap.size w wr)) (λi _=>c-(intOf i).toNat)
  ·exact⟨0,rfl,by omega,HB⟩
  clear HB c0 x0 aa ab;obtain⟨p,rfl,hp,HB⟩:=hrel;obtain⟨aa,c0,_,_,_,_⟩:=zcl (HH.out.below HB.out (yh bd));obtain⟨g1,af,e1,ab,x0⟩:=zdf (ze HH.out.oi HB.out) ad ad;cases e1;rw[HV.out] at x0;by_cases ah:p<c
  ·obtain⟨g,rfl,ag,hq⟩:=HC.out p ah;obtain⟨u,hu⟩:=hq 0 (by omega);have y0:=zwe hu;have z0:wr.cell? ⟨g,p,none⟩=some (.int .i64 ((k:Int)+1)):=zc HB.out y0 ag;have aj:g<wr.heap.size:=by have:=HB.out.size;omega
   clear hq hu y0;go_wp2_with fail;go_roundw
   ·exact⟨p+1,by go_num,by omega,HB⟩
   simp[intOf];omega
  go_wp2_with fail;go_roundw
  ·exact⟨k+1,by go_num,by omega,HB⟩
  simp[intOf];omega
 go_wp2_with fail;clear c0 c1 aa;go_loopw[5] (λi wr=>∃k:Nat,i=.int .i64 k/\k<=R.length/\Hid (Below w.heap.size w wr)) (λi _=>R.length-(intOf i).toNat)
 ·exact⟨0,rfl,by omega,HB⟩
 clear HB;obtain⟨m,rfl,hm,HB⟩:=hrel;obtain⟨aa,_,c1,_,_,_⟩:=zcl (HH.out.below HB.out (yh bd));by_cases ac:m<R.length
 ·obtain⟨g0,ae,e0,ab,x0⟩:=zdf (ze HH.out.or HB.out) ac ac;cases e0;obtain⟨ao,c,hv,ai,hc⟩:=zeC (HH.out.fr m ac);rw[hv] at x0;have HC:=hid hc;have HV:=hid hv;clear hc hv;go_wp2_with fail;go_loopw[6] (λi wr=>∃p:Nat,i=.int .i64 p/\p<=c/\Hid (Below w.heap.size w wr)) (λi _=>c-(intOf i).toNat)
  ·exact⟨0,rfl,by omega,HB⟩
  clear HB c1 x0 aa ab;obtain⟨p,rfl,hp,HB⟩:=hrel;obtain⟨aa,_,c1,_,_,_⟩:=zcl (HH.out.below HB.out (yh bd));obtain⟨g1,af,e1,ab,x0⟩:=zdf (ze HH.out.or HB.out) ac ac;cases e1;rw[HV.out] at x0;by_cases ah:p<c
  ·obtain⟨g,rfl,ag,hq⟩:=HC.out p ah;obtain⟨u,hu,a',c',hr⟩:=hq 0 (by omega);rw[hr,Nat.mul_one,ybg] at hu;have z0:wr.cell? ⟨g,p,none⟩=some (.slice a' (m+1) c'):=zc HB.out hu ag;have aj:g<wr.heap.size:=by have:=HB.out.size;omega
   clear hq hu;go_wp2_with fail;go_roundw
   ·exact⟨p+1,by go_num,by omega,HB⟩
   simp[intOf];omega
  go_wp2_with fail;go_roundw
  ·exact⟨m+1,by go_num,by omega,HB⟩
  simp[intOf];omega
 go_wp2;go_ret;exact⟨rfl,HB.out⟩
theorem zrO{w:World}{g j i size q:Nat}{u:Value}(h:w.cell? ⟨g,j*size+q,none⟩=some u/\zo7 i q u):w.cell? ⟨g,j*size+q,none⟩=some (.int .i64 (if q=0 then (i:Int)+1 else 0)):=by have h1:=h.1;rw[h.2] at h1;rw[h1];simp
theorem zpY(bb bd hb:Nat)(vi vr vs vd vn:Value)(I R S D N:List Value)(w:World)(h:ze9 w bb bd hb vi vr vs vd vn I R S D N)(ae:S.length=D.length):Calls Tryz.prog 20 #[.pointer (some ⟨hb,0,none⟩)] w λe w'=>e=.returned (.bool true)/\Below w.heap.size w w':=by
 have HH:=hid h;have hms:=zgi h.os;have hmd:=zgi h.od;have hmn:=zgi h.on;obtain⟨avs,cvs,aB,_,_⟩:=zg h.os;obtain⟨avd,cvd,az,_,_⟩:=zg h.od;obtain⟨avn,cvn,aA,_,_⟩:=zg h.on;subst aB az aA;have HL:=hid ae;clear h ae;go_in;go_wp2_with fail;go_loopw[3] (λi wr=>∃k:Nat,i=.int .i64 k/\k<=S.length/\Hid (Below w.heap.size w wr)) (λi _=>S.length-(intOf i).toNat)
 ·exact⟨0,rfl,by omega,yk _ _⟩
 obtain⟨k,rfl,hk,HB⟩:=hrel;obtain⟨aa,_,_,c2,c3,c4⟩:=zcl (HH.out.below HB.out (yh bd));by_cases af:k<S.length
 ·obtain⟨g0,ag,e0,ac,x0⟩:=zdf (ze HH.out.os HB.out) af af;cases e0;obtain⟨ao,c,hv,av,hc⟩:=zeC (HH.out.fs k af);rw[hv] at x0;have HC:=hid hc;have HV:=hid hv;clear hc hv c3 c4;go_wp2_with fail;go_loopw[4] (λi wr=>∃p:Nat,i=.int .i64 p/\p<=c/\Hid (Below w.heap.size w wr)) (λi _=>c-(intOf i).toNat)
  ·exact⟨0,rfl,by omega,HB⟩
  clear HB c2 x0 aa ac;obtain⟨p,rfl,hp,HB⟩:=hrel;obtain⟨aa,_,_,c2,c3,_⟩:=zcl (HH.out.below HB.out (yh bd));obtain⟨g1,ah,e1,ac,x0⟩:=zdf (ze HH.out.os HB.out) af af;cases e1;rw[HV.out] at x0;by_cases ai:p<c
  ·obtain⟨g,rfl,ad,hq⟩:=HC.out p ai;have zz:∀q,q<5->wr.cell? ⟨g,p*5+q,none⟩=some (.int .i64 (if q=0 then (k:Int)+1 else 0)):=λq aj=>by obtain⟨u,hu⟩:=hq q aj;exact zc HB.out (zrO hu) ad
   have z0:wr.cell? ⟨g,p*5,none⟩=some (.int .i64 ((k:Int)+1)):=zz 0 (by omega);have z1:wr.cell? ⟨g,p*5+1,none⟩=some (.int .i64 0):=zz 1 (by omega);have z2:wr.cell? ⟨g,p*5+2,none⟩=some (.int .i64 0):=zz 2 (by omega);have z3:wr.cell? ⟨g,p*5+3,none⟩=some (.int .i64 0):=zz 3 (by omega);have z4:wr.cell? ⟨g,p*5+4,none⟩=some (.int .i64 0):=zz 4 (by omega);have an:g<wr.heap.size:=by have:=HB.out.size;omega
   clear hq zz c3;go_wp2_with fail;go_roundw
   ·exact⟨p+1,by go_num,by omega,HB⟩
   simp[intOf];omega
  obtain⟨g2,cap2,e2,aw,x2⟩:=zdf (ze HH.out.od HB.out) (i:=k) (by have:=HL.out;omega) (by have:=HL.out;omega);cases e2;obtain⟨ao',c',ak,hcm',am⟩:=zeC (HH.out.fd k (by have:=HL.out;omega));rw[ak] at x2;have ax:k<D.length:=by have:=HL.out;omega
  have ar:=hid am;have au:=hid ak;clear am ak;go_wp2_with fail;clear c2 x0 c3 x2 aa ac aw;go_loopw[5] (λi wr=>∃p:Nat,i=.int .i64 p/\p<=c'/\Hid (Below w.heap.size w wr)) (λi _=>c'-(intOf i).toNat)
  ·exact⟨0,rfl,by omega,HB⟩
  clear HB;obtain⟨m,rfl,hm,HB⟩:=hrel;obtain⟨aa,_,_,_,c3,_⟩:=zcl (HH.out.below HB.out (yh bd));obtain⟨g3,cap3,e3,hg3,x3⟩:=zdf (ze HH.out.od HB.out) (i:=k) (by have:=HL.out;omega) (by have:=HL.out;omega);cases e3;rw[au.out] at x3;have ax:k<D.length:=by have:=HL.out;omega
  by_cases ab:m<c'
  ·obtain⟨g,rfl,ad,hq⟩:=ar.out m ab;have zz:∀q,q<3->wr.cell? ⟨g,m*3+q,none⟩=some (.int .i64 (if q=0 then (k:Int)+1 else 0)):=λq aj=>by obtain⟨u,hu⟩:=hq q aj;exact zc HB.out (zrO hu) ad
   have z0:wr.cell? ⟨g,m*3,none⟩=some (.int .i64 ((k:Int)+1)):=zz 0 (by omega);have z1:wr.cell? ⟨g,m*3+1,none⟩=some (.int .i64 0):=zz 1 (by omega);have z2:wr.cell? ⟨g,m*3+2,none⟩=some (.int .i64 0):=zz 2 (by omega);have an:g<wr.heap.size:=by have:=HB.out.size;omega
   clear hq zz;go_wp2_with fail;go_roundw
   ·exact⟨m+1,by go_num,by omega,HB⟩
   simp[intOf];omega
  go_wp2_with fail;go_roundw
  ·exact⟨k+1,by go_num,by omega,HB⟩
  simp[intOf];omega
 go_wp2_with fail;clear c2 c3 c4 aa;go_loopw[6] (λi wr=>∃k:Nat,i=.int .i64 k/\k<=N.length/\Hid (Below w.heap.size w wr)) (λi _=>N.length-(intOf i).toNat)
 ·exact⟨0,rfl,by omega,HB⟩
 clear HB;obtain⟨m,rfl,hm,HB⟩:=hrel;obtain⟨aa,_,_,_,_,c4⟩:=zcl (HH.out.below HB.out (yh bd));by_cases ab:m<N.length
 ·obtain⟨g0,ag,e0,ac,x0⟩:=zdf (ze HH.out.on HB.out) ab ab;cases e0;obtain⟨ao,c,hv,av,hc⟩:=zeC (HH.out.fn m ab);rw[hv] at x0;have HC:=hid hc;have HV:=hid hv;clear hc hv;go_wp2_with fail;go_loopw[7] (λi wr=>∃p:Nat,i=.int .i64 p/\p<=c/\Hid (Below w.heap.size w wr)) (λi _=>c-(intOf i).toNat)
  ·exact⟨0,rfl,by omega,HB⟩
  clear HB c4 x0 aa ac;obtain⟨p,rfl,hp,HB⟩:=hrel;obtain⟨aa,_,_,_,_,c4⟩:=zcl (HH.out.below HB.out (yh bd));obtain⟨g1,ah,e1,ac,x0⟩:=zdf (ze HH.out.on HB.out) ab ab;cases e1;rw[HV.out] at x0;by_cases ai:p<c
  ·obtain⟨g,rfl,ad,hq⟩:=HC.out p ai;obtain⟨u,hu,hr⟩:=hq 0 (by omega);obtain⟨u1,ap,ay⟩:=hq 1 (by omega);have z0:wr.cell? ⟨g,p*2,none⟩=some (.int .i64 ((m:Int)+1)):=by refine(HB.out.cell (p:=⟨g,p*2,none⟩) (by exact ad)).trans ?_;rw[ybg] at hu;rw[hu,hr];simp
   have z1:wr.cell? ⟨g,p*2+1,none⟩=some (.slice none 0 0):=by refine(HB.out.cell (p:=⟨g,p*2+1,none⟩) (by exact ad)).trans ?_;rw[ap,ay];simp
   have an:g<wr.heap.size:=by have:=HB.out.size;omega
   clear hq hu ap;go_wp2_with fail;go_roundw
   ·exact⟨p+1,by go_num,by omega,HB⟩
   simp[intOf];omega
  go_wp2_with fail;go_roundw
  ·exact⟨m+1,by go_num,by omega,HB⟩
  simp[intOf];omega
 have HS:Hid (Calls Tryz.prog 35 #[.pointer (some ⟨hb,0,none⟩)] wr λe w'=>e=.returned (.bool true)/\Below wr.heap.size wr w'):=zsf bb bd hb _ _ _ _ _ I R S D N wr (HH.out.below HB.out (yh bd));go_wp2_with fail;refine HS.out.mono ?_;rintro e5 w5⟨rfl,al⟩;have aq:Hid (Below w.heap.size w w5):=HB.out.trans (al.mono HB.out.size);clear al;go_wp2;go_ret;exact⟨rfl,aq.out⟩
structure zuL (r:Rd):Prop where
 stops:∀s∈r.stops,s.length=5
 roads:∀s∈r.roads,s.length=3
def zeb(ss:List (List Int))(i j:Nat):Int:=(ss.getD i []).getD j 0
theorem ziI{w:World}{B m:Nat}{e:TypeId}{v:Value}{ss:List (List Int)}(h:w.ownsRow B e m v ss.length (zd ss.flatten))(hs:∀s∈ss,s.length=m):∃ao c,v=.slice ao ss.length c/\zhp w ao ss.length m (zeb ss):=by
 obtain⟨ao,c,hv,h1,h2⟩:=zg h;refine⟨ao,c,hv,λhn=>?_⟩;subst hv;cases ao with
 | none=>exact absurd (h2 rfl) (by omega)
 | some a=>
  obtain⟨g,rfl,_,hg⟩:=h1 a rfl;refine⟨g,0,rfl,hg,λi j hi hj=>?_⟩;have aa:=hs ss[i] (ym hi);have ab:i*m+j<ss.length*m:=by
   have h3:i*m+m<=ss.length*m:=by rw[<-Nat.succ_mul];exact Nat.mul_le_mul_right m hi
   omega
  rw[yat,h.cellAt (i*m+j) ab];have hz:ss[i][j]?=some (zeb ss i j):=by unfold zeb;rw[yl (by omega)];simp[hi,List.getD,aa,hj]
  exact zek hs hi hj hz
theorem zu4(e:Int)(w:World)(h:-9223372036854775808<=e/\e<=9223372036854775807):Calls Tryz.prog 34 #[.int .i64 e] w λq w'=>q=.returned (.int .i64 e)/\w'=w:=by obtain⟨h1,h2⟩:=h;go_in;go_wp2;go_ret;exact⟨rfl,rfl⟩
structure OpV where
 k:Int
 n:Int
 s:ByteArray
 t:ByteArray
 u:ByteArray
 am:Option Addr
 nm:Nat
 cm:Nat
 x0:Int
 x1:Int
 x2:Int
 x3:Int
 x4:Int
 aS:Option Addr
 nS:Nat
 cS:Nat
 aR:Option Addr
 nR:Nat
 cR:Nat
 aL:Option Addr
 nL:Nat
 cL:Nat
def OpV.vals(o:OpV):Array Value:=#[.int .i64 o.k,.int .i64 o.n,.string o.s,.string o.t,.string o.u,.slice o.am o.nm o.cm,.int .i64 o.x0,.int .i64 o.x1,.int .i64 o.x2,.int .i64 o.x3,.int .i64 o.x4,.slice o.aS o.nS o.cS,.slice o.aR o.nR o.cR,.slice o.aL o.nL o.cL]
theorem zvX(o:OpV)(w:World):(w.alloc (.cells o.vals 58)).heap[w.heap.size]?=some (.cells o.vals 58 (0,0)):=yx w _
theorem zt5{o:OpV}{W w':World}{b:Nat}(h:W.heap[b]?=some (.cells o.vals 58 (0,0)))(hb:Below W.heap.size W w'):w'.heap[b]?=some (.cells o.vals 58 (0,0)):=by rw[hb.block _ (yc.1 h).1];exact h
theorem zwD{o:OpV}{W:World}{b:Nat}(h:W.heap[b]?=some (.cells o.vals 58 (0,0))):W.cell? ⟨b,2,none⟩=some (.string o.s)/\b<W.heap.size:=⟨by rw[yi _ _ _ _ _ _ h];rfl,(yc.1 h).1⟩
theorem zlL(r:Rd)(f:List UInt8)(vs:List Int):0<=(zae r f vs).2/\(zae r f vs).2<=4:=by
 have hd:∀a b c d e,0<=(zaw r a b c d e).2/\(zaw r a b c d e).2<=4:=by
  intro a b c d e;unfold zaw;split
  ·simp
  split<;>simp
 have ab:∀a b c d e,0<=(zav r a b c d e).2/\(zav r a b c d e).2<=4:=by
  intro a b c d e;unfold zav;split
  ·simp
  split
  ·simp
  split<;>simp
 have aa:∀a b c,0<=(zat r a b c).2/\(zat r a b c).2<=4:=by
  intro a b c;unfold zat;split
  ·simp
  split
  ·simp
  split<;>simp
 unfold zae;split
 ·split
  ·exact hd _ _ _ _ _
  simp
 split
 ·split
  ·exact ab _ _ _ _ _
  simp
 split
 ·split
  ·exact aa _ _ _
  simp
 simp
theorem zok(ls:List (List UInt8)):∀(r:Rd)(i:Nat),0<=(zbr r i ls).2.2/\(zbr r i ls).2.2<=4:=by
 induction ls with
 | nil=>intro r i;simp[zbr]
 | cons l t ih=>
  intro r i;unfold zbr;split
  ·exact ih _ _
  unfold zW;split
  ·simp
  split
  ·exact zlL _ _ _
  simp
theorem znl(l:List UInt8):-9223372036854775808<=(zv l).2.2/\(zv l).2.2<=9223372036854775807:=by
 have h:=zok (zD 10 l) Rd0 0;unfold zv;split
 ·simp
 split
 ·split<;>simp
 show _<=(zbr Rd0 0 (zD 10 l)).2.2/\(zbr Rd0 0 (zD 10 l)).2.2<=_;omega
end Go.Proofs.YtebinaopncclgabGreatDoor
