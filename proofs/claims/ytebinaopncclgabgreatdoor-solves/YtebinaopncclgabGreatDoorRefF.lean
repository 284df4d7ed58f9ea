import Derived.Test.YtebinaopncclgabGreatDoorRefC
import Derived.Test.YtebinaopncclgabGreatDoorParse
set_option maxRecDepth 100000
set_option maxHeartbeats 8000000
namespace Go.Proofs.YtebinaopncclgabGreatDoor
open Go.RowKit Go.IntWalk
theorem ziN{w:World}{b:Nat}{t:TypeId}(zs:List Int)(h:w.heap[b]?=some (.cells (zd zs).toArray t (0,0))):∀i,i<zs.length->w.cell? ⟨b,i,none⟩=some (.int .i64 (zs.getD i 0)):=by intro i hi;rw[yi w b i _ _ _ h];simp[zd,hi]
theorem zdS(w:World)(o o':Obj):((w.alloc o).alloc o').heap[w.heap.size+1]?=some o':=by have h:=yx (w.alloc o) o';rw[ybW] at h;exact h
theorem zoc(v l c n h:Int):zcf [1,v,v,3,0,l,l,10000,0,c,c,10000,1,n,n,12,0,h,h,n-1] 10=zaK v l c n h:=by
 rw[yW];simp only[zcf,zaK,yF,yaT,yq,yA,za7];constructor
 ·intro q;have q0:=q 0 (by omega);have q1:=q 1 (by omega);have q2:=q 2 (by omega);have q3:=q 3 (by omega);have q4:=q 4 (by omega);have q5:=q 5 (by omega);have q6:=q 6 (by omega);have q7:=q 7 (by omega);have q8:=q 8 (by omega);have q9:=q 9 (by omega);simp at q0 q1 q2 q3 q4 q5 q6 q7 q8 q9;omega
 intro q i hi
 match i,hi with
 | 0,_=>simp;omega
 | 1,_=>simp;omega
 | 2,_=>simp;omega
 | 3,_=>simp;omega
 | 4,_=>simp;omega
 | 5,_=>simp;omega
 | 6,_=>simp;omega
 | 7,_=>simp;omega
 | 8,_=>simp;omega
 | 9,_=>simp;omega
theorem zpK(a b c d e n:Int):zcf [0,a,a,n-1,0,b,b,10000,0,c,c,d,d,10000,0,e,e,10000] 9=zas a b c d e n:=by
 rw[yW];simp only[zcf,zas,yF,yaT,yq,yA,za7];constructor
 ·intro q;have q0:=q 0 (by omega);have q1:=q 1 (by omega);have q2:=q 2 (by omega);have q3:=q 3 (by omega);have q4:=q 4 (by omega);have q5:=q 5 (by omega);have q6:=q 6 (by omega);have q7:=q 7 (by omega);have q8:=q 8 (by omega);simp at q0 q1 q2 q3 q4 q5 q6 q7 q8;omega
 intro q i hi
 match i,hi with
 | 0,_=>simp;omega
 | 1,_=>simp;omega
 | 2,_=>simp;omega
 | 3,_=>simp;omega
 | 4,_=>simp;omega
 | 5,_=>simp;omega
 | 6,_=>simp;omega
 | 7,_=>simp;omega
 | 8,_=>simp;omega
theorem zom(a b c n:Int):zcf [0,a,a,n-1,0,b,b,n-1,0,c,c,10000] 6=zaZ a b c n:=by
 rw[yW];simp only[zcf,zaZ,yF,yaT,yq,yA,za7];constructor
 ·intro q;have q0:=q 0 (by omega);have q1:=q 1 (by omega);have q2:=q 2 (by omega);have q3:=q 3 (by omega);have q4:=q 4 (by omega);have q5:=q 5 (by omega);simp at q0 q1 q2 q3 q4 q5;omega
 intro q i hi
 match i,hi with
 | 0,_=>simp;omega
 | 1,_=>simp;omega
 | 2,_=>simp;omega
 | 3,_=>simp;omega
 | 4,_=>simp;omega
 | 5,_=>simp;omega
theorem zmI(v l c n h:Int)(vs vr:Value)(w:World)(hn:-9223372036854775807<=n/\n<=9223372036854775807):Calls Tryz.prog 156 #[.agg #[.int .i64 v,.int .i64 l,.int .i64 c,.int .i64 n,.int .i64 h,vs,vr]] w λe w'=>e=.returned (.bool (zaK v l c n h))/\Below w.heap.size w w':=by obtain⟨hn1,hn2⟩:=hn;go_in;go_wp2_with fail;refine(zfG (w.heap.size+1) 10 20 20 [1,v,v,3,0,l,l,10000,0,c,c,10000,1,n,n,12,0,h,h,n-1] _ rfl (by omega) (by simp) (ziN [1,v,v,3,0,l,l,10000,0,c,c,10000,1,n,n,12,0,h,h,n-1] (t:=3) (zdS _ _ _))).mono ?_;rintro e1 w1⟨rfl,aa⟩;rw[zoc];have HB:Hid (Below w.heap.size w w1):=(zaa w _ _).trans (aa.mono (by simp;omega));clear aa;go_wp2;go_ret;exact⟨rfl,HB.out⟩
theorem zlN(a b c d e n:Int)(w:World)(hn:-9223372036854775807<=n/\n<=9223372036854775807):Calls Tryz.prog 157 #[.agg #[.int .i64 a,.int .i64 b,.int .i64 c,.int .i64 d,.int .i64 e],.int .i64 n] w λr w'=>r=.returned (.bool (zas a b c d e n))/\Below w.heap.size w w':=by obtain⟨hn1,hn2⟩:=hn;go_in;go_wp2_with fail;refine(zfG (w.heap.size+1) 9 18 18 [0,a,a,n-1,0,b,b,10000,0,c,c,d,d,10000,0,e,e,10000] _ rfl (by omega) (by simp) (ziN [0,a,a,n-1,0,b,b,10000,0,c,c,d,d,10000,0,e,e,10000] (t:=3) (zdS _ _ _))).mono ?_;rintro e1 w1⟨rfl,aa⟩;rw[zpK];have HB:Hid (Below w.heap.size w w1):=(zaa w _ _).trans (aa.mono (by simp;omega));clear aa;go_wp2;go_ret;exact⟨rfl,HB.out⟩
theorem zml(a b c n:Int)(w:World)(hn:-9223372036854775807<=n/\n<=9223372036854775807):Calls Tryz.prog 158 #[.agg #[.int .i64 a,.int .i64 b,.int .i64 c],.int .i64 n] w λe w'=>e=.returned (.bool (zaZ a b c n))/\Below w.heap.size w w':=by obtain⟨hn1,hn2⟩:=hn;go_in;go_wp2_with fail;refine(zfG (w.heap.size+1) 6 12 12 [0,a,a,n-1,0,b,b,n-1,0,c,c,10000] _ rfl (by omega) (by simp) (ziN [0,a,a,n-1,0,b,b,n-1,0,c,c,10000] (t:=3) (zdS _ _ _))).mono ?_;rintro e1 w1⟨rfl,aa⟩;rw[zom];have HB:Hid (Below w.heap.size w w1):=(zaa w _ _).trans (aa.mono (by simp;omega));clear aa;go_wp2;go_ret;exact⟨rfl,HB.out⟩
structure zeI (w:World) (g:Nat) (f:List UInt8) (fs:List (List UInt8)):Prop where
 lt:g<w.heap.size
 head:w.cell? ⟨g,0,none⟩=some (.string ⟨f.toArray⟩)
 rest:∀i (hi:i<fs.length),w.cell? ⟨g,i+1,none⟩=some (.string ⟨(fs[i]).toArray⟩)
theorem zeI.below{w w':World}{g:Nat}{f:List UInt8}{fs:List (List UInt8)}(h:zeI w g f fs)(hb:Below w.heap.size w w'):zeI w' g f fs:=⟨ya h.lt hb.size,by rw[hb.cell (by exact h.lt)];exact h.head,λi hi=>by rw[hb.cell (by exact h.lt)];exact h.rest i hi⟩
def zjS(w:World)(b:Nat)(u0 u1 u2 u3 u4:Value):World:=((((w.setCell ⟨b,0,none⟩ u0).setCell ⟨b,1,none⟩ u1).setCell ⟨b,2,none⟩ u2).setCell ⟨b,3,none⟩ u3).setCell ⟨b,4,none⟩ u4
theorem zsL{w:World}{b:Nat}{x0 x1 x2 x3 x4 x5 x6:Value}{t:TypeId}(h:w.heap[b]?=some (.cells #[x0,x1,x2,x3,x4,x5,x6] t (0,0)))(u0 u1 u2 u3 u4:Value):(zjS w b u0 u1 u2 u3 u4).heap[b]?=some (.cells #[u0,u1,u2,u3,u4,x5,x6] t (0,0)):=by have k1:=yw w b 0 _ _ u0 h;have k2:=yw _ b 1 _ _ u1 k1;have k3:=yw _ b 2 _ _ u2 k2;have k4:=yw _ b 3 _ _ u3 k3;have k5:=yw _ b 4 _ _ u4 k4;exact k5
theorem zpy{w:World}{b k:Nat}(h:k≠b)(u0 u1 u2 u3 u4:Value):(zjS w b u0 u1 u2 u3 u4).heap[k]?=w.heap[k]?:=by unfold zjS;rw[yt _ _ _ _ h,yt _ _ _ _ h,yt _ _ _ _ h,yt _ _ _ _ h,yt _ _ _ _ h]
theorem zjO(B b:Nat)(w:World)(hB:B<=b)(u0 u1 u2 u3 u4:Value):Below B w (zjS w b u0 u1 u2 u3 u4):=(((((yk B w).setCell hB u0).setCell hB u1).setCell hB u2).setCell hB u3).setCell hB u4
theorem zcB{w:World}{b:Nat}{x0 x1 x2 x3 x4 x5 x6:Value}{t:TypeId}(h:w.heap[b]?=some (.cells #[x0,x1,x2,x3,x4,x5,x6] t (0,0))):w.cell? ⟨b,0,none⟩=some x0/\w.cell? ⟨b,1,none⟩=some x1/\w.cell? ⟨b,2,none⟩=some x2/\w.cell? ⟨b,3,none⟩=some x3/\w.cell? ⟨b,4,none⟩=some x4/\w.cell? ⟨b,5,none⟩=some x5/\w.cell? ⟨b,6,none⟩=some x6/\∀o,w.frozen? ⟨b,o,none⟩=false:=by refine⟨?_,?_,?_,?_,?_,?_,?_,λo=>yv w b o _ _ h⟩<;>(rw[yi w b _ _ _ _ h];rfl)
theorem zvr(g cap:Nat)(r:Rd)(vs vr:Value)(fs:List (List UInt8))(a b c d e:Int)(w:World)(hw:zeI w g [68] fs)(hv:fs.map zai=[a,b,c,d,e])(al:fs.all zy=true)(n m:Nat)(aq ar:Option Addr)(cs cr:Nat)(aw:vs=.slice aq n cs)(ax:vr=.slice ar m cr):Calls Tryz.prog 97 #[zap r vs vr,.slice (some ⟨g,0,none⟩) 6 cap] w λq w'=>q=.returned (.tuple #[.agg #[.int .i64 a,.int .i64 b,.int .i64 c,.int .i64 d,.int .i64 e,vs,vr],.int .i64 (if zaK a b c d e=true then 0 else 4)])/\Below w.heap.size w w':=by
 subst aw ax;have hl:fs.length=5:=by have:=yan List.length hv;simpa using this
 have hd:0<=d/\d<=99999:=by have h:=yan (λl=>l[3]?) hv;simp[hl] at h;rw[<-h];exact zjp _
 have ab:=λW (hW:Below w.heap.size w W)=>zd1 g cap 6 fs W (by omega) (by omega) al (hw.below hW).lt (hw.below hW).rest;rw[hv] at ab;have HV:=hid ab;have ae:=hid hw;clear ab hw hv al;unfold zap;go_in;go_wp2_with fail;refine(HV.out _ (zaa w _ _)).mono ?_;rintro e1 w1⟨v,rfl,aa,ac⟩;obtain⟨gv,capv,cur,rfl,aj,ak,_⟩:=zF aa (by simp);have ap:gv<w1.heap.size:=(yc.1 ak).1;have v0:w1.cell? ⟨gv,0,none⟩=some (.int .i64 a):=by rw[aa.cellAt 0 (by simp)];rfl
 have v1:w1.cell? ⟨gv,1,none⟩=some (.int .i64 b):=by rw[aa.cellAt 1 (by simp)];rfl
 have v2:w1.cell? ⟨gv,2,none⟩=some (.int .i64 c):=by rw[aa.cellAt 2 (by simp)];rfl
 have v3:w1.cell? ⟨gv,3,none⟩=some (.int .i64 d):=by rw[aa.cellAt 3 (by simp)];rfl
 have v4:w1.cell? ⟨gv,4,none⟩=some (.int .i64 e):=by rw[aa.cellAt 4 (by simp)];rfl
 have hx:w1.heap[w.heap.size]?=some (.cells #[.int .i64 r.vans,.int .i64 r.load,.int .i64 r.close,.int .i64 r.nodes,.int .i64 r.home,.slice aq n cs,.slice ar m cr] 28 (0,0)):=by rw[ac.block _ (by simp;omega),yT _ _ _ (by simp)];exact yx w _
 have hz:w1.heap[w.heap.size+1]?=some (.cells zaS 28 (0,0)):=by rw[ac.block _ (by simp)];exact zdS _ _ _
 have ao:w1.cell? ⟨g,0,none⟩=some (.string ⟨#[68]⟩):=((ae.out.below (zaa w _ _)).below ac).head;have au:g<w.heap.size:=ae.out.lt;have ag:Hid (Below w.heap.size w w1):=(zaa w _ _).trans (ac.mono (by simp;omega));have az:w.heap.size+1<w1.heap.size:=(yc.1 hz).1;have x5:w1.cell? ⟨w.heap.size,5,none⟩=some (.slice aq n cs):=by rw[yi _ _ _ _ _ _ hx];rfl
 have x6:w1.cell? ⟨w.heap.size,6,none⟩=some (.slice ar m cr):=by rw[yi _ _ _ _ _ _ hx];rfl
 have av:gv≠w.heap.size:=by simp at aj;omega
 have an:∀o,w1.frozen? ⟨w.heap.size,o,none⟩=false:=λo=>yv w1 _ o _ _ hx;have HX:=hid hx;have HZ:=hid hz;have y0:w1.cell? ⟨w.heap.size,0,none⟩=some (.int .i64 r.vans):=by rw[yi _ _ _ _ _ _ hx];rfl
 have y1:w1.cell? ⟨w.heap.size,1,none⟩=some (.int .i64 r.load):=by rw[yi _ _ _ _ _ _ hx];rfl
 have y2:w1.cell? ⟨w.heap.size,2,none⟩=some (.int .i64 r.close):=by rw[yi _ _ _ _ _ _ hx];rfl
 have y3:w1.cell? ⟨w.heap.size,3,none⟩=some (.int .i64 r.nodes):=by rw[yi _ _ _ _ _ _ hx];rfl
 have y4:w1.cell? ⟨w.heap.size,4,none⟩=some (.int .i64 r.home):=by rw[yi _ _ _ _ _ _ hx];rfl
 clear hx hz aa ac HV ak aj ae;go_wp2_with fail;refine(zmI a b c d e (.slice aq n cs) (.slice ar m cr) _ (by omega)).mono ?_;rintro e2 w2⟨rfl,ai⟩;have ad:Below (zjS w1 w.heap.size (.int .i64 a) (.int .i64 b) (.int .i64 c) (.int .i64 d) (.int .i64 e)).heap.size (zjS w1 w.heap.size (.int .i64 a) (.int .i64 b) (.int .i64 c) (.int .i64 d) (.int .i64 e)) w2:=ai;have ay:=(zjO w.heap.size w.heap.size w1 (yh _) (.int .i64 a) (.int .i64 b) (.int .i64 c) (.int .i64 d) (.int .i64 e)).size;have am:w2.heap[w.heap.size]?=some (.cells #[.int .i64 a,.int .i64 b,.int .i64 c,.int .i64 d,.int .i64 e,.slice aq n cs,.slice ar m cr] 28 (0,0)):=by rw[ad.block _ (by omega)];exact zsL HX.out _ _ _ _ _
 have af:w2.heap[w.heap.size+1]?=some (.cells zaS 28 (0,0)):=by rw[ad.block _ (by omega),zpy (by omega)];exact HZ.out
 have ah:Hid (Below w.heap.size w w2):=(ag.out.trans (zjO w.heap.size w.heap.size w1 (yh _) _ _ _ _ _)).trans (ad.mono (by omega));obtain⟨q0,q1,q2,q3,q4,q5,q6,qf⟩:=zcB am;obtain⟨p0,p1,p2,p3,p4,p5,p6,pf⟩:=zgg af;have hzl2:w.heap.size+1<w2.heap.size:=(yc.1 af).1;clear ai ad am af HX HZ v0 v1 v2 v3 v4 x5 x6 y0 y1 y2 y3 y4 an ao ag;clear ay av az ap hd hl au qf;cases hok2:zaK a b c d e
 ·go_wp2_with fail
  all_goals
   first
    | (exfalso;simp_all;done)
    | (refine yB (v:=.tuple #[.agg #[.int .i64 a,.int .i64 b,.int .i64 c,.int .i64 d,.int .i64 e,.slice aq n cs,.slice ar m cr],.int .i64 4]) (by simp[results,Tryz.results97,go_sem,p0,p1,p2,p3,p4,p5,p6]) rfl ?_
       exact⟨rfl,ah.out.trans (zbb _ _ _ (by omega) _ _ _ _ _ _ _)⟩)
 go_wp2_with fail
 all_goals
  first
   | (exfalso;simp_all;done)
   | (refine yB (v:=.tuple #[.agg #[.int .i64 a,.int .i64 b,.int .i64 c,.int .i64 d,.int .i64 e,.slice aq n cs,.slice ar m cr],.int .i64 0]) (by simp[results,Tryz.results97,go_sem,p0,p1,p2,p3,p4,p5,p6]) rfl ?_
      exact⟨rfl,ah.out.trans (zbb _ _ _ (by omega) _ _ _ _ _ _ _)⟩)
def zd0(r:Rd)(a b c d e:Int):Rd×Int:=if r.stops.length=7 then (r,3) else ({ r with stops:=r.stops++[[a,b,c,d,e]] },if zas a b c d e r.nodes=true then 0 else 4)
def zd3(r:Rd)(a b c:Int):Rd×Int:=if r.roads.length=40 then (r,3) else ({ r with roads:=r.roads++[[a,b,c]] },if zaZ a b c r.nodes=true then 0 else 4)
def tkT:List TypeId:=[62,64]
def ze5(w:World)(B:Nat)(x:Rd×Int)(q:Ending)(w':World):Prop:=∃vs' vr',q=.returned (.tuple #[zap x.1 vs' vr',.int .i64 x.2])/\w'.ownsRow B 62 5 vs' x.1.stops.length (zd x.1.stops.flatten)/\w'.ownsRow B 64 3 vr' x.1.roads.length (zd x.1.roads.flatten)/\Below B w w'/\zZ tkT w w'
theorem znK{w w':World}{B:Nat}{x:Rd×Int}{r:Rd}{c:Int}{vs vr:Value}(hx:x=(r,c))(hB:B<=w.heap.size)(hs:w.ownsRow B 62 5 vs r.stops.length (zd r.stops.flatten))(hr:w.ownsRow B 64 3 vr r.roads.length (zd r.roads.flatten))(hb:Below w.heap.size w w'):ze5 w B x (.returned (.tuple #[zap r vs vr,.int .i64 c])) w':=by subst hx;exact⟨vs,vr,rfl,ze hs hb,ze hr hb,hb.mono hB,zZ.of_below hb⟩
structure zwa (w w1:World) (g:Nat) (f:List UInt8) (r:Rd) (vs vr:Value):Prop where
 x:w1.heap[w.heap.size]?=some (.cells #[.int .i64 r.vans,.int .i64 r.load,.int .i64 r.close,.int .i64 r.nodes,.int .i64 r.home,vs,vr] 28 (0,0))
 z:w1.heap[w.heap.size+1]?=some (.cells zaS 28 (0,0))
 f:w1.cell? ⟨g,0,none⟩=some (.string ⟨f.toArray⟩)
 g:g<w.heap.size
 b:Below w.heap.size w w1
theorem zlg{w W w1:World}{g:Nat}{f:List UInt8}{fs:List (List UInt8)}{r:Rd}{vs vr:Value}(hW:W=(w.alloc (.cells #[.int .i64 r.vans,.int .i64 r.load,.int .i64 r.close,.int .i64 r.nodes,.int .i64 r.home,vs,vr] 28)).alloc (.cells zaS 28))(hw:zeI w g f fs)(aa:Below W.heap.size W w1):zwa w w1 g f r vs vr:=by
 subst hW;refine⟨?_,?_,((hw.below (zaa w _ _)).below aa).head,hw.lt,(zaa w _ _).trans (aa.mono (by simp;omega))⟩
 ·rw[aa.block _ (by simp;omega),yT _ _ _ (by simp)];exact yx w _
 rw[aa.block _ (by simp)];exact zdS _ _ _
theorem zmQ(g cap B:Nat)(r:Rd)(vs vr:Value)(fs:List (List UInt8))(a b c d e:Int)(w:World)(hw:zeI w g [83] fs)(hv:fs.map zai=[a,b,c,d,e])(ad:fs.all zy=true)(hB:B<=w.heap.size)(hs:w.ownsRow B 62 5 vs r.stops.length (zd r.stops.flatten))(hr:w.ownsRow B 64 3 vr r.roads.length (zd r.roads.flatten))(hl:r.stops.length=7):Calls Tryz.prog 97 #[zap r vs vr,.slice (some ⟨g,0,none⟩) 6 cap] w (ze5 w B (zd0 r a b c d e)):=by
 have hx:zd0 r a b c d e=(r,3):=by unfold zd0;rw[yg hl]
 have ai:fs.length=5:=by have:=yan List.length hv;simpa using this
 have aa:=λW (hW:Below w.heap.size w W)=>zd1 g cap 6 fs W (by omega) (by omega) ad (hw.below hW).lt (hw.below hW).rest;have HV:=hid aa;have ab:=hid hw;have HS:=hid hs;have HR:=hid hr;have HX:=hid hx;obtain⟨af,ah,ak,_,_⟩:=zg hs;obtain⟨ae,ag,aj,_,_⟩:=zg hr;subst ak aj;clear aa hw hv ad hs hr hx;unfold zap;go_in;go_wp2_with fail;refine(HV.out _ (zaa w _ _)).mono ?_;rintro e1 w1⟨v,rfl,_,ac⟩;have HT:=hid (zlg (r:=r) rfl ab.out ac);obtain⟨y0,y1,y2,y3,y4,y5,y6,qf⟩:=zcB HT.out.x;obtain⟨p0,p1,p2,p3,p4,p5,p6,pf⟩:=zgg HT.out.z;have hg0:=HT.out.f;have hzl:w.heap.size+1<w1.heap.size:=(yc.1 HT.out.z).1;have hgw:=HT.out.g;have hgl:g<w1.heap.size:=by omega
 have HB:Hid (Below w.heap.size w w1):=HT.out.b;have hn7:((r.stops.length:Int)==7)=true:=by simp[hl]
 have HL:=hid hl;clear ac HV ab HT ai hl;go_wp2_with fail
 all_goals
  first
   | (exfalso;simp_all;done)
   | (refine yB (v:=.tuple #[.agg #[.int .i64 r.vans,.int .i64 r.load,.int .i64 r.close,.int .i64 r.nodes,.int .i64 r.home,.slice af r.stops.length ah,.slice ae r.roads.length ag],.int .i64 3]) (by simp[results,Tryz.results97,go_sem,p0,p1,p2,p3,p4,p5,p6];try (have:=HL.out;omega)) rfl ?_
      exact znK HX.out hB HS.out HR.out (HB.out.trans (zbb _ _ _ (by omega) _ _ _ _ _ _ _)))
theorem zjy{w X:World}{cs:Array Value}{t:TypeId}{l:List Value}{b:Nat}(hh:X.heap=(w.alloc (.cells cs t)).heap)(hl:l=cs.toList)(hb:w.heap.size=b):∀j u,l[j]?=some u->X.cell? ((⟨b,0,none⟩:Addr).add j)=some u:=by subst hb;exact za0 hl hh
theorem zfk(w:World)(o o':Obj):((w.alloc o).alloc o').drew.heap[w.heap.size]?=some o:=by show ((w.alloc o).alloc o').heap[w.heap.size]?=some o;rw[yT _ _ _ (by simp)];exact yx w o
theorem zky{w1 X w2:World}{B k size:Nat}{e:TypeId}{v:Value}{zs:List Value}{o:Obj}(hg:X.grownBy w2 v.ownBlock)(hv:w1.ownsRow B e size v k zs)(h:X.heap[w1.heap.size]?=some o):w2.heap[w1.heap.size]?=some o:=by rw[hg.block _ (yc.1 h).1 (λhe=>by have:=(hv.lt _ he.symm).2;omega)];exact h
theorem zkA{w w1 X w2:World}{g:Nat}{f:List UInt8}{r:Rd}{vs vr v:Value}{B k size:Nat}{e:TypeId}{zs:List Value}(h:zwa w w1 g f r vs vr)(hX:Below w1.heap.size w1 X)(hv:w1.ownsRow B e size v k zs)(he:e∈tkT)(hB:B<=w.heap.size)(hg:X.grownBy w2 v.ownBlock):w2.heap[w.heap.size]?=some (.cells #[.int .i64 r.vans,.int .i64 r.load,.int .i64 r.close,.int .i64 r.nodes,.int .i64 r.home,vs,vr] 28 (0,0))/\w2.heap[w.heap.size+1]?=some (.cells zaS 28 (0,0))/\Below B w w2/\zZ tkT w w2:=by have hk:zZ tkT w1 w2:=(zZ.of_below hX).trans (zZ.grown (ze hv hX) he hg);have hs:=h.b.size;have hs1:=hX.size;exact⟨hk _ _ _ _ h.x (by decide),hk _ _ _ _ h.z (by decide),(h.b.mono hB).trans ((hX.mono (by omega)).trans ((yk _ _).grown hg (by omega) (λk hk=>(hv.lt k hk).1))),(zZ.of_below h.b).trans hk⟩
theorem zlC{w:World}{b:Nat}{cs aa:Array Value}{t:TypeId}(h:w.heap[b]?=some (.cells cs t (0,0)))(hc:cs=aa:=by rfl):w.heap[b]?=some (.cells aa t (0,0)):=by subst hc;exact h
theorem zn9{w w2 w3:World}{xs:Array Value}{B k m size aa o:Nat}{e e':TypeId}{v v' u:Value}{zs ad:List Value}(hx:w2.heap[w.heap.size]?=some (.cells xs 28 (0,0)))(hz:w2.heap[w.heap.size+1]?=some (.cells zaS 28 (0,0)))(hb:Below B w w2)(hk:zZ tkT w w2)(ho:w2.ownsRow B e size v k zs)(hr:w2.ownsRow B e' aa v' m ad)(he:e≠28)(ae:e'≠28)(_hl:w.heap.size<w2.heap.size)(hB:B<=w.heap.size)(h3:Below (w2.setCell ⟨w.heap.size,o,none⟩ u).heap.size (w2.setCell ⟨w.heap.size,o,none⟩ u) w3):w3.heap[w.heap.size]?=some (.cells (xs.setIfInBounds o u) 28 (0,0))/\w3.heap[w.heap.size+1]?=some (.cells zaS 28 (0,0))/\Below B w w3/\zZ tkT w w3/\w3.ownsRow B e size v k zs/\w3.ownsRow B e' aa v' m ad:=by
 have k1:(w2.setCell ⟨w.heap.size,o,none⟩ u).heap[w.heap.size]?=some (.cells (xs.setIfInBounds o u) 28 (0,0)):=yw w2 _ o _ _ u hx;have k2:(w2.setCell ⟨w.heap.size,o,none⟩ u).heap[w.heap.size+1]?=some (.cells zaS 28 (0,0)):=by rw[yt _ _ _ _ (by show w.heap.size+1≠w.heap.size;omega)];exact hz
 have hsz:w2.heap.size<=(w2.setCell ⟨w.heap.size,o,none⟩ u).heap.size:=((yk 0 w2).setCell (yu _) u).size;refine⟨by rw[h3.block _ (yc.1 k1).1];exact k1,by rw[h3.block _ (yc.1 k2).1];exact k2,(hb.setCell hB u).trans (h3.mono ?_),?_,ze (zaL ho hx he u) h3,ze (zaL hr hx ae u) h3⟩
 ·have:=hb.size;omega
 intro kk cur t z ac ht;have h2:=hk kk cur t z ac ht;have af:kk≠w.heap.size:=by have:=(yc.1 ac).1;omega
 have ab:(w2.setCell ⟨w.heap.size,o,none⟩ u).heap[kk]?=some (.cells cur t z):=by rw[yt _ _ _ _ af];exact h2
 rw[h3.block _ (yc.1 ab).1];exact ab
theorem zn2{w w3:World}{B:Nat}(hb:Below B w w3)(hk:zZ tkT w w3)(hB:B<=w.heap.size)(u0 u1 u2 u3 u4 u5 u6:Value):Below B w (((((((w3.setCell ⟨w.heap.size+1,0,none⟩ u0).setCell ⟨w.heap.size+1,1,none⟩ u1).setCell ⟨w.heap.size+1,2,none⟩ u2).setCell ⟨w.heap.size+1,3,none⟩ u3).setCell ⟨w.heap.size+1,4,none⟩ u4).setCell ⟨w.heap.size+1,5,none⟩ u5).setCell ⟨w.heap.size+1,6,none⟩ u6) /\zZ tkT w (((((((w3.setCell ⟨w.heap.size+1,0,none⟩ u0).setCell ⟨w.heap.size+1,1,none⟩ u1).setCell ⟨w.heap.size+1,2,none⟩ u2).setCell ⟨w.heap.size+1,3,none⟩ u3).setCell ⟨w.heap.size+1,4,none⟩ u4).setCell ⟨w.heap.size+1,5,none⟩ u5).setCell ⟨w.heap.size+1,6,none⟩ u6):=by
 refine⟨hb.trans (zbb B _ _ (by omega) _ _ _ _ _ _ _),λk cur t z ab ht=>?_⟩;have aa:k≠w.heap.size+1:=by have:=(yc.1 ab).1;omega
 rw[yt _ _ _ _ aa,yt _ _ _ _ aa,yt _ _ _ _ aa,yt _ _ _ _ aa,yt _ _ _ _ aa,yt _ _ _ _ aa,yt _ _ _ _ aa];exact hk k cur t z ab ht
theorem zkM{w w3:World}{B n5 c5:Nat}{r:Rd}{a b c d e ec:Int}{x:Rd×Int}{ok:Bool}{g5:Nat}{vr:Value}{u0 u1 u2 u3 u4 u5 u6:Value}(hx:x=({ r with stops:=r.stops++[[a,b,c,d,e]] },if zas a b c d e r.nodes=true then 0 else 4))(ab:zas a b c d e r.nodes=ok)(hz:w3.heap[w.heap.size+1]?=some (.cells zaS 28 (0,0)))(hb:Below B w w3)(hk:zZ tkT w w3)(ho:w3.ownsRow B 62 5 (.slice (some ⟨g5,0,none⟩) n5 c5) n5 (zd r.stops.flatten++[.int .i64 a,.int .i64 b,.int .i64 c,.int .i64 d,.int .i64 e]))(hr:w3.ownsRow B 64 3 vr r.roads.length (zd r.roads.flatten))(hB:B<=w.heap.size)(hn:n5=r.stops.length+1:=by rfl)(aa:ec=if ok=true then 0 else 4:=by rfl):ze5 w B x (.returned (.tuple #[.agg #[.int .i64 r.vans,.int .i64 r.load,.int .i64 r.close,.int .i64 r.nodes,.int .i64 r.home,.slice (some ⟨g5,0,none⟩) n5 c5,vr],.int .i64 ec])) (((((((w3.setCell ⟨w.heap.size+1,0,none⟩ u0).setCell ⟨w.heap.size+1,1,none⟩ u1).setCell ⟨w.heap.size+1,2,none⟩ u2).setCell ⟨w.heap.size+1,3,none⟩ u3).setCell ⟨w.heap.size+1,4,none⟩ u4).setCell ⟨w.heap.size+1,5,none⟩ u5).setCell ⟨w.heap.size+1,6,none⟩ u6):=by subst hx hn aa;obtain⟨h1,h2⟩:=zn2 hb hk hB u0 u1 u2 u3 u4 u5 u6;refine⟨_,_,by rw[ab];rfl,?_,zcv hz hr (by decide),h1,h2⟩;have:=zcv (u0:=u0) (u1:=u1) (u2:=u2) (u3:=u3) (u4:=u4) (u5:=u5) (u6:=u6) hz ho (by decide);show World.ownsRow _ _ _ _ _ (r.stops++[[a,b,c,d,e]]).length (zd (r.stops++[[a,b,c,d,e]]).flatten);rw[yz,yaP,zaY];simpa[zd] using this
theorem zpx(g cap B:Nat)(r:Rd)(vs vr:Value)(fs:List (List UInt8))(a b c d e:Int)(w:World)(hw:zeI w g [83] fs)(hv:fs.map zai=[a,b,c,d,e])(aF:fs.all zy=true)(hB:B<=w.heap.size)(hnod:0<=r.nodes/\r.nodes<=99999)(hs:w.ownsRow B 62 5 vs r.stops.length (zd r.stops.flatten))(hr:w.ownsRow B 64 3 vr r.roads.length (zd r.roads.flatten))(hl:r.stops.length<7):Calls Tryz.prog 97 #[zap r vs vr,.slice (some ⟨g,0,none⟩) 6 cap] w (ze5 w B (zd0 r a b c d e)):=by
 have hx:zd0 r a b c d e=({ r with stops:=r.stops++[[a,b,c,d,e]] },if zas a b c d e r.nodes=true then 0 else 4):=by unfold zd0;rw[ye (by omega)]
 obtain⟨i0,hi,aG,aH,aI⟩:=info_parts Tryz.infoStop;have aT:fs.length=5:=by have:=yan List.length hv;simpa using this
 have af:=λW (hW:Below w.heap.size w W)=>zd1 g cap 6 fs W (by omega) (by omega) aF (hw.below hW).lt (hw.below hW).rest;rw[hv] at af;have HV:=hid af;have ax:=hid hw;have HS:=hid hs;have HR:=hid hr;have HX:=hid hx;obtain⟨aJ,aK,aY,_,_⟩:=zg hs;obtain⟨ai,aj,aX,_,_⟩:=zg hr;subst aY aX;clear af hw hv aF hs hr hx;unfold zap;go_in;go_wp2_with fail;refine(HV.out _ (zaa w _ _)).mono ?_;rintro e1 w1⟨v,rfl,ab,aA⟩;obtain⟨gv,capv,cur,rfl,aO,aD,_⟩:=zF ab (by simp);have aP:gv<w1.heap.size:=(yc.1 aD).1;have v0:w1.cell? ⟨gv,0,none⟩=some (.int .i64 a):=by rw[ab.cellAt 0 (by simp)];rfl
 have v1:w1.cell? ⟨gv,1,none⟩=some (.int .i64 b):=by rw[ab.cellAt 1 (by simp)];rfl
 have v2:w1.cell? ⟨gv,2,none⟩=some (.int .i64 c):=by rw[ab.cellAt 2 (by simp)];rfl
 have v3:w1.cell? ⟨gv,3,none⟩=some (.int .i64 d):=by rw[ab.cellAt 3 (by simp)];rfl
 have v4:w1.cell? ⟨gv,4,none⟩=some (.int .i64 e):=by rw[ab.cellAt 4 (by simp)];rfl
 have HT:=hid (zlg (r:=r) rfl ax.out aA);obtain⟨y0,y1,y2,y3,y4,y5,y6,qf⟩:=zcB HT.out.x;have aM:=HT.out.f;have a0:w.heap.size+1<w1.heap.size:=(yc.1 HT.out.z).1;have aQ:=HT.out.g;have al:g<w1.heap.size:=by omega
 have aL:w.heap.size<w1.heap.size:=by omega
 have ag:Hid (w1.ownsRow B 62 5 (.slice aJ r.stops.length aK) r.stops.length (zd r.stops.flatten)):=ze HS.out HT.out.b;have aU:((r.stops.length:Int)==7)=false:=by simp;omega
 clear aA HV ax ab aD aO y0 y1 y2 y4 y6;go_wp2_with fail;go_region;go_wp2_with(at_builtin;refine yy _ rfl _ _ 25 rfl B 62 i0 (.agg #[.int .i64 0,.int .i64 0,.int .i64 0,.int .i64 0,.int .i64 0]) 5 40 Tryz.underlying25 hi aG aH aI rfl (by decide) _ _ _ rfl ((ag.out.alloc _).alloc _) ⟨w1.heap.size+1,0,none⟩ 1 1 [.int .i64 a,.int .i64 b,.int .i64 c,.int .i64 d,.int .i64 e] rfl rfl ?c1 ?c2 ?c3 ?c4 ?c5 ?_)
 case c1=>exact zjy (w:=w1.alloc _) rfl rfl (by simp)
 case c2=>exact zus _ _ _ _ _
 case c3=>unfold maxLen;omega
 case c4=>omega
 case c5=>simp;omega
 intro v' w2 ad ac _;have HO:=hid ad;obtain⟨g5,ae,cur5,aW,aN,ak,_⟩:=zF ad (by omega);subst aW;obtain⟨am,ah,aB,aE⟩:=zkA HT.out ((zaa w1 _ _).drew) ag.out (by decide) hB ac;have aa:=zky ac ag.out (zfk w1 (.cells #[.int .i64 a,.int .i64 b,.int .i64 c,.int .i64 d,.int .i64 e] 62) _);have aw:Hid (w2.ownsRow B 64 3 (.slice ai r.roads.length aj) r.roads.length (zd r.roads.flatten)):=(ze (ze HR.out HT.out.b) ((zaa w1 _ _).drew)).kept ac (zfh (ze HR.out HT.out.b) ag.out (by decide));have an:=hid aB;have ao:=hid aE;have ay:=hid am;have az:=hid ah;obtain⟨x0,x1,x2,x3,x4,x5,x6,xf⟩:=zcB am;have s0:w2.cell? ⟨w1.heap.size,0,none⟩=some (.int .i64 a):=by rw[yi _ _ _ _ _ _ aa];rfl
 have s1:w2.cell? ⟨w1.heap.size,1,none⟩=some (.int .i64 b):=by rw[yi _ _ _ _ _ _ aa];rfl
 have s2:w2.cell? ⟨w1.heap.size,2,none⟩=some (.int .i64 c):=by rw[yi _ _ _ _ _ _ aa];rfl
 have s3:w2.cell? ⟨w1.heap.size,3,none⟩=some (.int .i64 d):=by rw[yi _ _ _ _ _ _ aa];rfl
 have s4:w2.cell? ⟨w1.heap.size,4,none⟩=some (.int .i64 e):=by rw[yi _ _ _ _ _ _ aa];rfl
 have aR:w1.heap.size<w2.heap.size:=(yc.1 aa).1;have aS:w.heap.size<w2.heap.size:=by omega
 have aV:w1.heap.size≠w.heap.size:=by omega
 clear ad ac am ah aB aE aa ag HS HR HT v0 v1 v2 v3 v4 y3 y5 qf aM aQ al aP aU aN ak hi aG aH aI aT;go_wp2_with fail;refine(zlN a b c d e r.nodes _ (by omega)).mono ?_;rintro e3 w3⟨rfl,aC⟩;have aZ:=zn9 ay.out az.out an.out ao.out HO.out aw.out (u:=.slice (some ⟨g5,0,none⟩) (r.stops.length+1) ae) (o:=5) (by decide) (by decide) (by omega) hB aC;obtain⟨kx,kz,kb,kk,ko,kr⟩:=aZ;have HKX:=hid kx;have av:=hid kz;have ap:=hid kb;have aq:=hid kk;have ar:=hid ko;have au:=hid kr;obtain⟨q0,q1,q2,q3,q4,q5,q6,qf⟩:=zcB (zlC kx);obtain⟨p0,p1,p2,p3,p4,p5,p6,pf⟩:=zgg kz;have hzl2:w.heap.size+1<w3.heap.size:=(yc.1 kz).1;clear aC kx kz kb kk ko kr ay az an ao HO aw x0 x1 x2 x3 x4 x5 x6 xf s0 s1 s2 s3 s4 aR aS aV a0 aL hl qf;cases hok2:zas a b c d e r.nodes
 ·go_wp2_with fail
  all_goals
   first
    | (exfalso;simp_all;done)
    | (refine yB (v:=.tuple #[.agg #[.int .i64 r.vans,.int .i64 r.load,.int .i64 r.close,.int .i64 r.nodes,.int .i64 r.home,.slice (some ⟨g5,0,none⟩) (r.stops.length+1) ae,.slice ai r.roads.length aj],.int .i64 4]) (by simp[results,Tryz.results97,go_sem,p0,p1,p2,p3,p4,p5,p6]) rfl ?_
       exact zkM HX.out hok2 av.out ap.out aq.out ar.out au.out hB)
 go_wp2_with fail
 all_goals
  first
   | (exfalso;simp_all;done)
   | (refine yB (v:=.tuple #[.agg #[.int .i64 r.vans,.int .i64 r.load,.int .i64 r.close,.int .i64 r.nodes,.int .i64 r.home,.slice (some ⟨g5,0,none⟩) (r.stops.length+1) ae,.slice ai r.roads.length aj],.int .i64 0]) (by simp[results,Tryz.results97,go_sem,p0,p1,p2,p3,p4,p5,p6]) rfl ?_
      exact zkM HX.out hok2 av.out ap.out aq.out ar.out au.out hB)
end Go.Proofs.YtebinaopncclgabGreatDoor
