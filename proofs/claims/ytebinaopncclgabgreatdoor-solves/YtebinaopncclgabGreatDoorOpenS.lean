import Derived.Test.YtebinaopncclgabGreatDoorPlay
import Derived.ProofKit
import Derived.OpenShut
import Derived.ChangeOld
import Derived.SizedLaws
import Derived.Deep.Slices
set_option maxRecDepth 100000
set_option maxHeartbeats 8000000
namespace Go.Proofs.YtebinaopncclgabGreatDoor
open Go.RowKit Go.IntWalk
def Sep(vi:Value)(R:List Value):Prop:=∀i (h:i<R.length),∀g c,R[i]=.slice (some ⟨g,0,none⟩) c c->0<c->vi.ownBlock≠some g
def zbH(w:World)(bb hb a m:Nat):Prop:=∃vi vr vs vd vn I R S D N,ze9 w bb w.heap.size hb vi vr vs vd vn I R S D N/\S.length=D.length/\I.length<=a/\R.length<=m/\S.length<=m/\N.length<=m/\Sep vi R
theorem zbH.below{w w':World}{bb hb a m:Nat}(h:zbH w bb hb a m)(aa:Below w.heap.size w w'):zbH w' bb hb a m:=by obtain⟨vi,vr,vs,vd,vn,I,R,S,D,N,h1,h2⟩:=h;exact⟨vi,vr,vs,vd,vn,I,R,S,D,N,h1.below aa aa.size,h2⟩
theorem zbH.more{w:World}{bb hb a a' m m':Nat}(h:zbH w bb hb a m)(ha:a<=a')(hm:m<=m'):zbH w bb hb a' m':=by obtain⟨vi,vr,vs,vd,vn,I,R,S,D,N,h1,h2,h3,h4,h5,h6,h7⟩:=h;exact⟨vi,vr,vs,vd,vn,I,R,S,D,N,h1,h2,by omega,by omega,by omega,by omega,h7⟩
theorem zoT(w:World):zbH (w.alloc (.cells #[.slice none 0 0,.slice none 0 0,.slice none 0 0,.slice none 0 0,.slice none 0 0] 55)) w.heap.size w.heap.size 0 0:=⟨_,_,_,_,_,[],[],[],[],[],⟨yx w _,yh _,yC _ _ _ _,yC _ _ _ _,yC _ _ _ _,yC _ _ _ _,yC _ _ _ _,λi h=>absurd h (by simp),λi h=>absurd h (by simp),λi h=>absurd h (by simp),λi h=>absurd h (by simp),λi h=>absurd h (by simp)⟩,rfl,by simp,by simp,by simp,by simp,λi h=>absurd h (by simp)⟩
theorem zwq(bb hb a m:Nat)(w:World)(h:zbH w bb hb a m):Calls Tryz.prog 20 #[.pointer (some ⟨hb,0,none⟩)] w λe w'=>e=.returned (.bool true)/\Below w.heap.size w w':=by obtain⟨vi,vr,vs,vd,vn,I,R,S,D,N,h1,h2,_⟩:=h;exact zpY bb w.heap.size hb vi vr vs vd vn I R S D N w h1 h2
def zeh(w:World)(bb hb m:Nat):Prop:=∃vi vr vs vd vn I R S D N,ze9 w bb w.heap.size hb vi vr vs vd vn I R S D N/\S.length=D.length/\I.length<=8*m/\R.length<=m/\S.length<=m/\N.length<=m/\Sep vi R
theorem zeh.below{w w':World}{bb hb m:Nat}(h:zeh w bb hb m)(aa:Below w.heap.size w w'):zeh w' bb hb m:=zbH.below (a:=8*m) h aa
theorem zeh.more{w:World}{bb hb m m':Nat}(h:zeh w bb hb m)(hm:m<=m'):zeh w bb hb m':=zbH.more (a:=8*m) (a':=8*m') h (by omega) hm
def zha(w:World)(ao:Option Addr)(n:Nat)(ops:Nat->OpV):Prop:=0<n->∃b o,ao=some ⟨b,o,none⟩/\b<w.heap.size/\∀i j,i<n->j<14->w.cell? ⟨b,o+i*14+j,none⟩=(ops i).vals[j]?
def zur(w0:World)(hb:Nat)(o:OpV):Prop:=∀(w:World)(m:Nat),zeh w w0.heap.size hb m->m<=703687441776->Below w0.heap.size w0 w ->Calls Tryz.prog 19 #[.pointer (some ⟨hb,0,none⟩),.agg o.vals] w λe w'=>e=.returned (.bool true)/\zeh w' w0.heap.size hb (m+1)/\Below w0.heap.size w w'
def zvw(w0:World)(hb:Nat)(o:OpV)(a m a' m':Nat):Prop:=∀w:World,zbH w w0.heap.size hb a m->Below w0.heap.size w0 w ->Calls Tryz.prog 19 #[.pointer (some ⟨hb,0,none⟩),.agg o.vals] w λe w'=>e=.returned (.bool true)/\zbH w' w0.heap.size hb a' m'/\Below w0.heap.size w w'
theorem zmf(lo hi:Int)(ao:Option Addr)(n c:Nat)(ac:Nat->OpV)(A Z:Nat->Nat)(w:World)(hn:n<=703687441776)(hs:zha w ao n ac)(hZ:∀k,k<n->A k<=A (k+1)/\Z k<=Z (k+1))(hp:∀i,i<n->lo<=(ac i).k->(ac i).k<=hi->zvw w w.heap.size (ac i) (A i) (Z i) (A (i+1)) (Z (i+1))):Calls Tryz.prog 9 #[.slice ao n c,.int .i64 lo,.int .i64 hi] w λe w'=>e=.returned (.int .i64 (-1))/\Below w.heap.size w w':=by
 have HS:=hid hs;have HP:=hid hp;have HI:Hid (zbH (w.alloc (.cells #[.slice none 0 0,.slice none 0 0,.slice none 0 0,.slice none 0 0,.slice none 0 0] 55)) w.heap.size w.heap.size 0 0):=zoT w;have HZ:=hid hZ;clear hs hp hZ;go_in;go_wp2_with fail;go_loopw[8] (λi wr=>∃k:Nat,i=.int .i64 k/\k<=n/\Hid (zbH wr w.heap.size w.heap.size (A k) (Z k))/\Hid (Below w.heap.size w wr)) (λi _=>n-(intOf i).toNat)
 ·exact⟨0,rfl,by omega,HI.out.more (yu _) (yu _),zj w _⟩
 clear HI;obtain⟨k,rfl,hk,HI,HB⟩:=hrel;by_cases ab:k<n
 ·obtain⟨b,off,rfl,av,hc⟩:=HS.out (by omega);have aa:∀j,j<14->wr.cell? ⟨b,off+k*14+j,none⟩=(ac k).vals[j]?:=λj hj=>zc HB.out (hc k j ab hj) av;have an:=hid (HP.out k ab);have hbr:b<wr.heap.size:=by have:=HB.out.size;omega
  generalize ac k=o at*;have c0:wr.cell? ⟨b,off+k*14,none⟩=some (.int .i64 o.k):=aa 0 (by omega);have c1:wr.cell? ⟨b,off+k*14+1,none⟩=some (.int .i64 o.n):=aa 1 (by omega);have c2:wr.cell? ⟨b,off+k*14+2,none⟩=some (.string o.s):=aa 2 (by omega);have c3:wr.cell? ⟨b,off+k*14+3,none⟩=some (.string o.t):=aa 3 (by omega);have c4:wr.cell? ⟨b,off+k*14+4,none⟩=some (.string o.u):=aa 4 (by omega);have c5:wr.cell? ⟨b,off+k*14+5,none⟩=some (.slice o.am o.nm o.cm):=aa 5 (by omega);have c6:wr.cell? ⟨b,off+k*14+6,none⟩=some (.int .i64 o.x0):=aa 6 (by omega);have c7:wr.cell? ⟨b,off+k*14+7,none⟩=some (.int .i64 o.x1):=aa 7 (by omega);have c8:wr.cell? ⟨b,off+k*14+8,none⟩=some (.int .i64 o.x2):=aa 8 (by omega);have c9:wr.cell? ⟨b,off+k*14+9,none⟩=some (.int .i64 o.x3):=aa 9 (by omega);have ap:wr.cell? ⟨b,off+k*14+10,none⟩=some (.int .i64 o.x4):=aa 10 (by omega);have aq:wr.cell? ⟨b,off+k*14+11,none⟩=some (.slice o.aS o.nS o.cS):=aa 11 (by omega);have ar:wr.cell? ⟨b,off+k*14+12,none⟩=some (.slice o.aR o.nR o.cR):=aa 12 (by omega);have au:wr.cell? ⟨b,off+k*14+13,none⟩=some (.slice o.aL o.nL o.cL):=aa 13 (by omega);clear aa hc;have ae:Hid (zbH (wr.alloc (.cells o.vals 58)) w.heap.size w.heap.size (A k) (Z k)):=HI.out.below (zj wr _);have ad:Hid (Below w.heap.size w (wr.alloc (.cells o.vals 58))):=HB.out.trans ((zj wr _).mono HB.out.size);by_cases h1:lo<=o.k
  ·by_cases h2:o.k<=hi
   ·have HC:=hid (an.out h1 h2 _ ae.out ad.out);unfold OpV.vals at HC;go_wp2_with fail;refine HC.out.mono ?_;rintro e2 w2⟨rfl,aj,ai⟩;have ag:=hid aj;have af:Hid (Below w.heap.size w w2):=ad.out.trans ai;clear aj ai HC ae ad c0 c1 c2 c3 c4 c5 c6 c7 c8 c9 ap aq ar au;go_wp2_with fail;refine(zwq _ _ _ _ w2 ag.out).mono ?_;rintro e3 w3⟨rfl,ah⟩;have al:=hid (ag.out.below ah);have ak:Hid (Below w.heap.size w w3):=af.out.trans (ah.mono af.out.size);clear ah ag af;go_wp2;go_roundw
    ·exact⟨k+1,by go_num,by omega,al,ak⟩
    simp[intOf];omega
   go_wp2;go_roundw
   ·exact⟨k+1,by go_num,by omega,ae.out.more (HZ.out k ab).1 (HZ.out k ab).2,ad⟩
   simp[intOf];omega
  go_wp2;go_roundw
  ·exact⟨k+1,by go_num,by omega,ae.out.more (HZ.out k ab).1 (HZ.out k ab).2,ad⟩
  simp[intOf];omega
 go_wp2;go_ret;exact⟨rfl,HB.out⟩
theorem zsT(lo hi:Int)(ao:Option Addr)(n c:Nat)(aa:Nat->OpV)(w:World)(hn:n<=703687441776)(hs:zha w ao n aa)(hp:∀i,i<n->lo<=(aa i).k->(aa i).k<=hi->zur w w.heap.size (aa i)):Calls Tryz.prog 9 #[.slice ao n c,.int .i64 lo,.int .i64 hi] w λe w'=>e=.returned (.int .i64 (-1))/\Below w.heap.size w w':=zmf lo hi ao n c aa (λk=>8*k) (λk=>k) w hn hs (λk _=>⟨by omega,Nat.le_succ k⟩) (λi hi h1 h2 W hI hB=>hp i hi h1 h2 W i hI (by omega) hB)
open Go.ChangeShapes Go.WideShapes Go.ChangeAt Go.RowKit Go.Deep
theorem own:ownKnob Tryz.prog.godebug=none:=by kernel_rfl
theorem zuX:laidOutB Tryz.prog=true:=by kernel_rfl
theorem zvZ{α:Type}{cs:List α}(h:cs.length=14):∃c0 c1 c2 c3 c4 c5 c6 c7 c8 c9 aa ab ac ad,cs=[c0,c1,c2,c3,c4,c5,c6,c7,c8,c9,aa,ab,ac,ad]:=by
 match cs,h with
 | [c0,c1,c2,c3,c4,c5,c6,c7,c8,c9,aa,ab,ac,ad],_=>exact⟨c0,c1,c2,c3,c4,c5,c6,c7,c8,c9,aa,ab,ac,ad,rfl⟩
theorem zeX{H:Type}{enc:TypeId×Value->H}{P:Program}{w:World}{base:Nat}{aa:Nat->Bool}{ac:Bool}{t e:TypeId}{fuel:Nat}{c:Value}{x:DataW H×List MemPlace}(ht:P.underlying t=some (.slice e))(h:DataW.trod enc P w base aa ac fuel t [c]=some x):∃ao n cp,c=.slice ao n cp:=by
 rcases open_slice ht h with ⟨ab,_⟩|⟨a,len,cap,m,n,D,Pl,ab,_⟩
 ·cases ab;exact⟨_,_,_,rfl⟩
 cases ab;exact⟨_,_,_,rfl⟩
theorem zdH{H:Type}{enc:TypeId×Value->H}{P:Program}{w:World}{base:Nat}{aa:Nat->Bool}{ab:Bool}{t:TypeId}{fuel:Nat}{c:Value}{x:DataW H×List MemPlace}(ht:P.underlying t=some (.int .i64))(h:DataW.trod enc P w base aa ab fuel t [c]=some x):∃z,c=.int .i64 z/\(Lit.int .i64 z).wf=true:=by obtain⟨z,hz,_,hw⟩:=DataW.trod_int ht h;cases hz;exact⟨z,rfl,hw⟩
theorem zfC{H:Type}{enc:TypeId×Value->H}{P:Program}{w:World}{base:Nat}{aa:Nat->Bool}{ab:Bool}{t:TypeId}{fuel:Nat}{c:Value}{x:DataW H×List MemPlace}(ht:P.underlying t=some .string)(h:DataW.trod enc P w base aa ab fuel t [c]=some x):∃s:ByteArray,c=.string s/\s.size<=maxLen:=by obtain⟨z,hz,_,hw⟩:=DataW.trod_string ht h;cases hz;exact⟨z,rfl,hw⟩
theorem zvl{H:Type}{enc:TypeId×Value->H}{W:World}{base:Nat}{aa:Nat->Bool}{ab:Bool}{fuel:Nat}{cs:List Value}{x:DataW H×List MemPlace}(h:DataW.trod enc Tryz.prog W base aa ab fuel 58 cs=some x):∃o:OpV,cs=o.vals.toList/\o.s.size<=maxLen/\o.t.size<=maxLen/\o.u.size<=maxLen:=by
 have hC:Tryz.prog.cellsOf 58=14:=by kernel_rfl
 have al:Tryz.prog.cellsOf 28=7:=by kernel_rfl
 have ad:Tryz.prog.cellsOf 3=1:=by kernel_rfl
 have af:Tryz.prog.cellsOf 9=1:=by kernel_rfl
 have aq:Tryz.prog.cellsOf 31=1:=by kernel_rfl
 have ap:Tryz.prog.cellsOf 56=1:=by kernel_rfl
 have an:Tryz.prog.cellsOf 25=1:=by kernel_rfl
 have ao:Tryz.prog.cellsOf 26=1:=by kernel_rfl
 obtain⟨xs,n,_,_,ag,ar,ac⟩:=DataW.trod_struct Tryz.underlying58 h;obtain⟨c0,c1,c2,c3,c4,c5,c6,c7,c8,c9,ah,ai,aj,ak,rfl⟩:=zvZ (ag.trans hC);have hx:∀i,i<8->∃y,xs[i]?=some y:=λi hi=>⟨_,yl (by rw[ar];exact hi)⟩
 obtain⟨y0,e0⟩:=hx 0 (by omega);obtain⟨y1,e1⟩:=hx 1 (by omega);obtain⟨y2,e2⟩:=hx 2 (by omega);obtain⟨y3,e3⟩:=hx 3 (by omega);obtain⟨y4,e4⟩:=hx 4 (by omega);obtain⟨y5,e5⟩:=hx 5 (by omega);obtain⟨y6,e6⟩:=hx 6 (by omega);obtain⟨y7,e7⟩:=hx 7 (by omega);have g0:DataW.trod enc Tryz.prog W base aa ab n 3 [c0]=some y0:=by simpa[ad] using(ac 0 _ rfl).trans e0
 have g1:DataW.trod enc Tryz.prog W base aa ab n 3 [c1]=some y1:=by simpa[ad] using(ac 1 _ rfl).trans e1
 have g2:DataW.trod enc Tryz.prog W base aa ab n 9 [c2]=some y2:=by simpa[af] using(ac 2 _ rfl).trans e2
 have g3:DataW.trod enc Tryz.prog W base aa ab n 9 [c3]=some y3:=by simpa[af] using(ac 3 _ rfl).trans e3
 have g4:DataW.trod enc Tryz.prog W base aa ab n 9 [c4]=some y4:=by simpa[af] using(ac 4 _ rfl).trans e4
 have g5:DataW.trod enc Tryz.prog W base aa ab n 31 [c5]=some y5:=by simpa[aq] using(ac 5 _ rfl).trans e5
 have g6:DataW.trod enc Tryz.prog W base aa ab n 28 [c6,c7,c8,c9,ah,ai,aj]=some y6:=by simpa[al] using(ac 6 _ rfl).trans e6
 have g7:DataW.trod enc Tryz.prog W base aa ab n 56 [ak]=some y7:=by simpa[ap] using(ac 7 _ rfl).trans e7
 obtain⟨zs,n',_,_,_,au,ae⟩:=DataW.trod_struct Tryz.underlying28 g6;have hy:∀i,i<7->∃y,zs[i]?=some y:=λi hi=>⟨_,yl (by rw[au];exact hi)⟩
 obtain⟨u0,d0⟩:=hy 0 (by omega);obtain⟨u1,d1⟩:=hy 1 (by omega);obtain⟨u2,d2⟩:=hy 2 (by omega);obtain⟨u3,d3⟩:=hy 3 (by omega);obtain⟨u4,d4⟩:=hy 4 (by omega);obtain⟨u5,d5⟩:=hy 5 (by omega);obtain⟨u6,d6⟩:=hy 6 (by omega);have k0:DataW.trod enc Tryz.prog W base aa ab n' 3 [c6]=some u0:=by simpa[ad] using(ae 0 _ rfl).trans d0
 have k1:DataW.trod enc Tryz.prog W base aa ab n' 3 [c7]=some u1:=by simpa[ad] using(ae 1 _ rfl).trans d1
 have k2:DataW.trod enc Tryz.prog W base aa ab n' 3 [c8]=some u2:=by simpa[ad] using(ae 2 _ rfl).trans d2
 have k3:DataW.trod enc Tryz.prog W base aa ab n' 3 [c9]=some u3:=by simpa[ad] using(ae 3 _ rfl).trans d3
 have k4:DataW.trod enc Tryz.prog W base aa ab n' 3 [ah]=some u4:=by simpa[ad] using(ae 4 _ rfl).trans d4
 have k5:DataW.trod enc Tryz.prog W base aa ab n' 25 [ai]=some u5:=by simpa[an] using(ae 5 _ rfl).trans d5
 have k6:DataW.trod enc Tryz.prog W base aa ab n' 26 [aj]=some u6:=by simpa[ao] using(ae 6 _ rfl).trans d6
 obtain⟨z0,rfl,_⟩:=zdH Tryz.underlying3 g0;obtain⟨z1,rfl,_⟩:=zdH Tryz.underlying3 g1;obtain⟨s,rfl,hs⟩:=zfC Tryz.underlying9 g2;obtain⟨t,rfl,ht⟩:=zfC Tryz.underlying9 g3;obtain⟨u,rfl,hu⟩:=zfC Tryz.underlying9 g4;obtain⟨am,nm,cm,rfl⟩:=zeX Tryz.underlying31 g5;obtain⟨x0,rfl,_⟩:=zdH Tryz.underlying3 k0;obtain⟨x1,rfl,_⟩:=zdH Tryz.underlying3 k1;obtain⟨x2,rfl,_⟩:=zdH Tryz.underlying3 k2;obtain⟨x3,rfl,_⟩:=zdH Tryz.underlying3 k3;obtain⟨x4,rfl,_⟩:=zdH Tryz.underlying3 k4;obtain⟨aS,nS,cS,rfl⟩:=zeX Tryz.underlying25 k5;obtain⟨aR,nR,cR,rfl⟩:=zeX Tryz.underlying26 k6;obtain⟨aL,nL,cL,rfl⟩:=zeX Tryz.underlying56 g7;exact⟨⟨z0,z1,s,t,u,am,nm,cm,x0,x1,x2,x3,x4,aS,nS,cS,aR,nR,cR,aL,nL,cL⟩,rfl,hs,ht,hu⟩
theorem znA{H:Type}{enc:TypeId×Value->H}{W:World}{aj:Bool}{fuel:Nat}{v:Value}{x:DataW H×List MemPlace}(h:DataW.trod enc Tryz.prog W 0 (λ_=>true) aj fuel 22 [v]=some x):∃ao n c aa,v=.slice ao n c/\zha W ao n aa/\(∀i,i<n->(aa i).s.size<=maxLen/\(aa i).t.size<=maxLen/\(aa i).u.size<=maxLen)/\(0<n->∃ab ag,x.1=.slice ab ag/\ab.length=n):=by
 have hC:Tryz.prog.cellsOf 58=14:=by kernel_rfl
 rcases open_slice Tryz.underlying22 h with ⟨ai,_⟩|⟨a,len,cap,m,n,D,Pl,ai,_,hl,hm,ak,al,hx⟩
 ·cases ai;exact⟨none,0,0,λ_=>⟨0,0,.empty,.empty,.empty,none,0,0,0,0,0,0,0,none,0,0,none,0,0,none,0,0⟩,rfl,λh=>absurd h (by omega),λi hi=>absurd hi (by omega),λh=>absurd h (by omega)⟩
 cases ai;simp only[ycf] at ak;subst ak;have ad:∀i,i<len->∃o:OpV,(∀j,j<14->W.cell? (a.add (i*14+j))=o.vals[j]?)/\o.s.size<=maxLen/\o.t.size<=maxLen/\o.u.size<=maxLen:=by intro i hi;obtain⟨cs',h1,h2⟩:=hx i (by omega);rw[hC] at h1;obtain⟨_,hlen,ae⟩:=World.cells?_some h1;obtain⟨o,ho,hs⟩:=zvl h2;refine⟨o,λj hj=>?_,hs⟩;have e1:=ae j (by omega);rw[add_add] at e1;rw[e1,ho];simp
 have:Nonempty OpV:=⟨⟨0,0,.empty,.empty,.empty,none,0,0,0,0,0,0,0,none,0,0,none,0,0,none,0,0⟩⟩
 obtain⟨aa,ac⟩:∃aa:Nat->OpV,∀i,i<len->(∀j,j<14->W.cell? (a.add (i*14+j))=(aa i).vals[j]?)/\(aa i).s.size<=maxLen/\(aa i).t.size<=maxLen/\(aa i).u.size<=maxLen:=by refine⟨λi=>if h:i<len then Classical.choose (ad i h) else Classical.choice this,λi hi=>?_⟩;simp only[hi,dif_pos];exact Classical.choose_spec (ad i hi)
 refine⟨some a,len,_,aa,rfl,λhn=>?_,λi hi=>(ac i hi).2,λ_=>⟨_,_,by rw[al],by simp⟩⟩;obtain⟨b,off,spot⟩:=a;have ah:W.cell? (Addr.add ⟨b,off,spot⟩ (0*14+0))=some (.int .i64 (aa 0).k):=(ac 0 hn).1 0 (by omega);have af:spot=none:=by simpa[Addr.add] using World.cell?_spot ah
 subst af;refine⟨b,off,rfl,?_,λi j hi hj=>?_⟩
 ·rw[ybX] at ah;exact World.block_lt_of_cell? W _ ah
 have h1:=(ac i hi).1 j hj;rw[ybX,<-ybS] at h1;exact h1
theorem ztd:Tryz.prog.bytesOf 58=200:=by kernel_rfl
theorem znk{H:Type}{d:DataW H}{n:Nat}(h:(DataW.weightsEach Tryz.prog [22] [d]).all (·<=reachBytes)=true)(hd:0<n->∃aa ab,d=.slice aa ab/\aa.length=n):n<=703687441776:=by
 rcases yaS n with h0|h0
 ·omega
 obtain⟨aa,ab,rfl,hl⟩:=hd h0;have h1:=sized_slice (j:=0) (t:=22) (e:=58) h rfl rfl Tryz.underlying22;rw[ztd] at h1;have h2:=reachBytes_lt;omega
end Go.Proofs.YtebinaopncclgabGreatDoor
