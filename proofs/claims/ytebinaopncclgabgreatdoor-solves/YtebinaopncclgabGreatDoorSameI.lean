import Derived.Test.YtebinaopncclgabGreatDoorRefF
set_option maxRecDepth 100000
set_option maxHeartbeats 8000000
namespace Go.Proofs.YtebinaopncclgabGreatDoor
open Go.RowKit Go.IntWalk
theorem zmJ(g cap B:Nat)(r:Rd)(vs vr:Value)(fs:List (List UInt8))(a b c:Int)(w:World)(hw:zeI w g [82] fs)(hv:fs.map zai=[a,b,c])(ad:fs.all zy=true)(hB:B<=w.heap.size)(hs:w.ownsRow B 62 5 vs r.stops.length (zd r.stops.flatten))(hr:w.ownsRow B 64 3 vr r.roads.length (zd r.roads.flatten))(hl:r.roads.length=40):Calls Tryz.prog 97 #[zap r vs vr,.slice (some ⟨g,0,none⟩) 4 cap] w (ze5 w B (zd3 r a b c)):=by
 have hx:zd3 r a b c=(r,3):=by unfold zd3;rw[yg hl]
 have ai:fs.length=3:=by have:=yan List.length hv;simpa using this
 have aa:=λW (hW:Below w.heap.size w W)=>zd1 g cap 4 fs W (by omega) (by omega) ad (hw.below hW).lt (hw.below hW).rest;have HV:=hid aa;have ab:=hid hw;have HS:=hid hs;have HR:=hid hr;have HX:=hid hx;obtain⟨af,ah,ak,_,_⟩:=zg hs;obtain⟨ae,ag,aj,_,_⟩:=zg hr;subst ak aj;clear aa hw hv ad hs hr hx;unfold zap;go_in;go_wp2_with fail;refine(HV.out _ (zaa w _ _)).mono ?_;rintro e1 w1⟨v,rfl,_,ac⟩;have HT:=hid (zlg (r:=r) rfl ab.out ac);obtain⟨y0,y1,y2,y3,y4,y5,y6,qf⟩:=zcB HT.out.x;obtain⟨p0,p1,p2,p3,p4,p5,p6,pf⟩:=zgg HT.out.z;have hg0:=HT.out.f;have hzl:w.heap.size+1<w1.heap.size:=(yc.1 HT.out.z).1;have hgw:=HT.out.g;have hgl:g<w1.heap.size:=by omega
 have HB:Hid (Below w.heap.size w w1):=HT.out.b;have hn7:((r.roads.length:Int)==40)=true:=by simp[hl]
 have HL:=hid hl;clear ac HV ab HT ai hl;go_wp2_with fail
 all_goals
  first
   | (exfalso;simp_all;done)
   | (refine yB (v:=.tuple #[.agg #[.int .i64 r.vans,.int .i64 r.load,.int .i64 r.close,.int .i64 r.nodes,.int .i64 r.home,.slice af r.stops.length ah,.slice ae r.roads.length ag],.int .i64 3]) (by simp[results,Tryz.results97,go_sem,p0,p1,p2,p3,p4,p5,p6];try (have:=HL.out;omega)) rfl ?_
      exact znK HX.out hB HS.out HR.out (HB.out.trans (zbb _ _ _ (by omega) _ _ _ _ _ _ _)))
theorem zkG{w w3:World}{B n5 c5:Nat}{r:Rd}{a b c ec:Int}{x:Rd×Int}{ok:Bool}{g5:Nat}{vs:Value}{u0 u1 u2 u3 u4 u5 u6:Value}(hx:x=({ r with roads:=r.roads++[[a,b,c]] },if zaZ a b c r.nodes=true then 0 else 4))(ab:zaZ a b c r.nodes=ok)(hz:w3.heap[w.heap.size+1]?=some (.cells zaS 28 (0,0)))(hb:Below B w w3)(hk:zZ tkT w w3)(ho:w3.ownsRow B 64 3 (.slice (some ⟨g5,0,none⟩) n5 c5) n5 (zd r.roads.flatten++[.int .i64 a,.int .i64 b,.int .i64 c]))(hr:w3.ownsRow B 62 5 vs r.stops.length (zd r.stops.flatten))(hB:B<=w.heap.size)(hn:n5=r.roads.length+1:=by rfl)(aa:ec=if ok=true then 0 else 4:=by rfl):ze5 w B x (.returned (.tuple #[.agg #[.int .i64 r.vans,.int .i64 r.load,.int .i64 r.close,.int .i64 r.nodes,.int .i64 r.home,vs,.slice (some ⟨g5,0,none⟩) n5 c5],.int .i64 ec])) (((((((w3.setCell ⟨w.heap.size+1,0,none⟩ u0).setCell ⟨w.heap.size+1,1,none⟩ u1).setCell ⟨w.heap.size+1,2,none⟩ u2).setCell ⟨w.heap.size+1,3,none⟩ u3).setCell ⟨w.heap.size+1,4,none⟩ u4).setCell ⟨w.heap.size+1,5,none⟩ u5).setCell ⟨w.heap.size+1,6,none⟩ u6):=by subst hx hn aa;obtain⟨h1,h2⟩:=zn2 hb hk hB u0 u1 u2 u3 u4 u5 u6;refine⟨_,_,by rw[ab];rfl,zcv hz hr (by decide),?_,h1,h2⟩;have:=zcv (u0:=u0) (u1:=u1) (u2:=u2) (u3:=u3) (u4:=u4) (u5:=u5) (u6:=u6) hz ho (by decide);show World.ownsRow _ _ _ _ _ (r.roads++[[a,b,c]]).length (zd (r.roads++[[a,b,c]]).flatten);rw[yz,yaP,zaY];simpa[zd] using this
theorem zoX(g cap B:Nat)(r:Rd)(vs vr:Value)(fs:List (List UInt8))(a b c:Int)(w:World)(hw:zeI w g [82] fs)(hv:fs.map zai=[a,b,c])(aF:fs.all zy=true)(hB:B<=w.heap.size)(hnod:0<=r.nodes/\r.nodes<=99999)(hs:w.ownsRow B 62 5 vs r.stops.length (zd r.stops.flatten))(hr:w.ownsRow B 64 3 vr r.roads.length (zd r.roads.flatten))(hl:r.roads.length<40):Calls Tryz.prog 97 #[zap r vs vr,.slice (some ⟨g,0,none⟩) 4 cap] w (ze5 w B (zd3 r a b c)):=by
 have hx:zd3 r a b c=({ r with roads:=r.roads++[[a,b,c]] },if zaZ a b c r.nodes=true then 0 else 4):=by unfold zd3;rw[ye (by omega)]
 obtain⟨i0,hi,aG,aH,aI⟩:=info_parts Tryz.infoRoad;have aT:fs.length=3:=by have:=yan List.length hv;simpa using this
 have af:=λW (hW:Below w.heap.size w W)=>zd1 g cap 4 fs W (by omega) (by omega) aF (hw.below hW).lt (hw.below hW).rest;rw[hv] at af;have HV:=hid af;have ax:=hid hw;have HS:=hid hs;have HR:=hid hr;have HX:=hid hx;obtain⟨ai,aj,aY,_,_⟩:=zg hs;obtain⟨aJ,aK,aX,_,_⟩:=zg hr;subst aY aX;clear af hw hv aF hs hr hx;unfold zap;go_in;go_wp2_with fail;refine(HV.out _ (zaa w _ _)).mono ?_;rintro e1 w1⟨v,rfl,ac,aA⟩;obtain⟨gv,capv,cur,rfl,aO,aD,_⟩:=zF ac (by simp);have aP:gv<w1.heap.size:=(yc.1 aD).1;have v0:w1.cell? ⟨gv,0,none⟩=some (.int .i64 a):=by rw[ac.cellAt 0 (by simp)];rfl
 have v1:w1.cell? ⟨gv,1,none⟩=some (.int .i64 b):=by rw[ac.cellAt 1 (by simp)];rfl
 have v2:w1.cell? ⟨gv,2,none⟩=some (.int .i64 c):=by rw[ac.cellAt 2 (by simp)];rfl
 have HT:=hid (zlg (r:=r) rfl ax.out aA);obtain⟨y0,y1,y2,y3,y4,y5,y6,qf⟩:=zcB HT.out.x;have aM:=HT.out.f;have a0:w.heap.size+1<w1.heap.size:=(yc.1 HT.out.z).1;have aQ:=HT.out.g;have al:g<w1.heap.size:=by omega
 have aL:w.heap.size<w1.heap.size:=by omega
 have ag:Hid (w1.ownsRow B 64 3 (.slice aJ r.roads.length aK) r.roads.length (zd r.roads.flatten)):=ze HR.out HT.out.b;have aU:((r.roads.length:Int)==40)=false:=by simp;omega
 clear aA HV ax ac aD aO y0 y1 y2 y4 y5;go_wp2_with fail;go_region;go_wp2_with(at_builtin;refine yy _ rfl _ _ 26 rfl B 64 i0 (.agg #[.int .i64 0,.int .i64 0,.int .i64 0]) 3 24 Tryz.underlying26 hi aG aH aI rfl (by decide) _ _ _ rfl ((ag.out.alloc _).alloc _) ⟨w1.heap.size+1,0,none⟩ 1 1 [.int .i64 a,.int .i64 b,.int .i64 c] rfl rfl ?c1 ?c2 ?c3 ?c4 ?c5 ?_)
 case c1=>exact zjy (w:=w1.alloc _) rfl rfl (by simp)
 case c2=>exact zuA _ _ _
 case c3=>unfold maxLen;omega
 case c4=>omega
 case c5=>simp;omega
 intro v' w2 ad aa _;have HO:=hid ad;obtain⟨g5,ae,cur5,aW,aN,ak,_⟩:=zF ad (by omega);subst aW;obtain⟨am,ah,aB,aE⟩:=zkA HT.out ((zaa w1 _ _).drew) ag.out (by decide) hB aa;have ab:=zky aa ag.out (zfk w1 (.cells #[.int .i64 a,.int .i64 b,.int .i64 c] 64) _);have aw:Hid (w2.ownsRow B 62 5 (.slice ai r.stops.length aj) r.stops.length (zd r.stops.flatten)):=(ze (ze HS.out HT.out.b) ((zaa w1 _ _).drew)).kept aa (zfh (ze HS.out HT.out.b) ag.out (by decide));have an:=hid aB;have ao:=hid aE;have ay:=hid am;have az:=hid ah;obtain⟨x0,x1,x2,x3,x4,x5,x6,xf⟩:=zcB am;have s0:w2.cell? ⟨w1.heap.size,0,none⟩=some (.int .i64 a):=by rw[yi _ _ _ _ _ _ ab];rfl
 have s1:w2.cell? ⟨w1.heap.size,1,none⟩=some (.int .i64 b):=by rw[yi _ _ _ _ _ _ ab];rfl
 have s2:w2.cell? ⟨w1.heap.size,2,none⟩=some (.int .i64 c):=by rw[yi _ _ _ _ _ _ ab];rfl
 have aR:w1.heap.size<w2.heap.size:=(yc.1 ab).1;have aS:w.heap.size<w2.heap.size:=by omega
 have aV:w1.heap.size≠w.heap.size:=by omega
 clear ad aa am ah aB aE ab ag HS HR HT v0 v1 v2 y3 y6 qf aM aQ al aP aU aN ak hi aG aH aI aT;go_wp2_with fail;refine(zml a b c r.nodes _ (by omega)).mono ?_;rintro e3 w3⟨rfl,aC⟩;have aZ:=zn9 ay.out az.out an.out ao.out HO.out aw.out (u:=.slice (some ⟨g5,0,none⟩) (r.roads.length+1) ae) (o:=6) (by decide) (by decide) (by omega) hB aC;obtain⟨kx,kz,kb,kk,ko,kr⟩:=aZ;have HKX:=hid kx;have av:=hid kz;have ap:=hid kb;have aq:=hid kk;have ar:=hid ko;have au:=hid kr;obtain⟨q0,q1,q2,q3,q4,q5,q6,qf⟩:=zcB (zlC kx);obtain⟨p0,p1,p2,p3,p4,p5,p6,pf⟩:=zgg kz;have hzl2:w.heap.size+1<w3.heap.size:=(yc.1 kz).1;clear aC kx kz kb kk ko kr ay az an ao HO aw x0 x1 x2 x3 x4 x5 x6 xf s0 s1 s2 aR aS aV a0 aL hl qf;cases hok2:zaZ a b c r.nodes
 ·go_wp2_with fail
  all_goals
   first
    | (exfalso;simp_all;done)
    | (refine yB (v:=.tuple #[.agg #[.int .i64 r.vans,.int .i64 r.load,.int .i64 r.close,.int .i64 r.nodes,.int .i64 r.home,.slice ai r.stops.length aj,.slice (some ⟨g5,0,none⟩) (r.roads.length+1) ae],.int .i64 4]) (by simp[results,Tryz.results97,go_sem,p0,p1,p2,p3,p4,p5,p6]) rfl ?_
       exact zkG HX.out hok2 av.out ap.out aq.out ar.out au.out hB)
 go_wp2_with fail
 all_goals
  first
   | (exfalso;simp_all;done)
   | (refine yB (v:=.tuple #[.agg #[.int .i64 r.vans,.int .i64 r.load,.int .i64 r.close,.int .i64 r.nodes,.int .i64 r.home,.slice ai r.stops.length aj,.slice (some ⟨g5,0,none⟩) (r.roads.length+1) ae],.int .i64 0]) (by simp[results,Tryz.results97,go_sem,p0,p1,p2,p3,p4,p5,p6]) rfl ?_
      exact zkG HX.out hok2 av.out ap.out aq.out ar.out au.out hB)
structure zfE (r:Rd):Prop where
 fine:zc4 r
 none:r.head=false->r=Rd0
 lo:0<=r.nodes
 hi:r.nodes<=99999
theorem zwy:zfE Rd0:=⟨⟨by simp[Rd0],by simp[Rd0]⟩,λ_=>rfl,by simp[Rd0],by simp[Rd0]⟩
theorem zlm{a b c d e:Int}(h:zaK a b c d e=true):1<=d/\d<=12:=by unfold zaK at h;simp at h;omega
theorem zna{r:Rd}(h:zfE r)(f:List UInt8)(vs:List Int):zfE (zae r f vs).1:=by
 refine⟨zii h.fine f vs,?_,?_,?_⟩
 all_goals
  unfold zae;split
  ·split
   ·unfold zaw;split
    ·first|exact h.none|exact h.lo|exact h.hi
    ·split
     ·rename_i hh;have:=zlm hh;first|(intro h';cases h';done)|(show _<=_;simp;omega)
     ·first|exact h.none|exact h.lo|exact h.hi
   ·first|exact h.none|exact h.lo|exact h.hi
  ·split
   ·split
    ·unfold zav;split
     ·first|exact h.none|exact h.lo|exact h.hi
     ·split
      ·first|exact h.none|exact h.lo|exact h.hi
      ·split
       ·rename_i hh _ _;first|exact λh'=>absurd h' hh|exact h.lo|exact h.hi
       ·first|exact h.none|exact h.lo|exact h.hi
    ·first|exact h.none|exact h.lo|exact h.hi
   ·split
    ·split
     ·unfold zat;split
      ·first|exact h.none|exact h.lo|exact h.hi
      ·split
       ·first|exact h.none|exact h.lo|exact h.hi
       ·split
        ·rename_i hh _ _;first|exact λh'=>absurd h' hh|exact h.lo|exact h.hi
        ·first|exact h.none|exact h.lo|exact h.hi
     ·first|exact h.none|exact h.lo|exact h.hi
    ·first|exact h.none|exact h.lo|exact h.hi
def zlS(w:World)(B:Nat)(y:Rd×Int)(q:Ending)(w':World):Prop:=∃x vs' vr',q=.returned (.tuple #[zap x vs' vr',.int .i64 y.2])/\(∃n a c m b d,vs'=.slice a n c/\vr'=.slice b m d)/\Below B w w'/\zZ tkT w w'/\(y.2=0->zap x vs' vr'=zap y.1 vs' vr'/\w'.ownsRow B 62 5 vs' y.1.stops.length (zd y.1.stops.flatten)/\w'.ownsRow B 64 3 vr' y.1.roads.length (zd y.1.roads.flatten))
theorem zf5{w w':World}{B:Nat}{x y:Rd×Int}{q:Ending}(h:ze5 w B x q w')(he:x.2=y.2)(hx:y.2=0->x.1=y.1):zlS w B y q w':=by obtain⟨vs,vr,rfl,h1,h2,h3,h4⟩:=h;obtain⟨_,_,e1,_,_⟩:=zg h1;obtain⟨_,_,e2,_,_⟩:=zg h2;refine⟨x.1,vs,vr,by rw[he],⟨_,_,_,_,_,_,e1,e2⟩,h3,h4,λhy=>?_⟩;rw[<-hx hy];exact⟨rfl,h1,h2⟩
theorem zhC{f:List UInt8}{n:Nat}(h:n+1=zdq f):f=[68]/\n=5\/f=[83]/\n=5\/f=[82]/\n=3:=by
 unfold zdq at h;split at h
 ·rename_i hf;exact .inl ⟨hf,by omega⟩
 split at h
 ·rename_i hf;exact .inr (.inl ⟨hf,by omega⟩)
 split at h
 ·rename_i hf;exact .inr (.inr ⟨hf,by omega⟩)
 omega
theorem zgG{f:List UInt8}{fs:List (List UInt8)}{b:Bool}(h:zar f fs b=true):fs.length+1=zdq f/\b=(f==[68])/\fs.all zy=true:=by unfold zar at h;simp only[yA,yq] at h;exact⟨h.1.1,by simpa using h.1.2,h.2⟩
theorem zh4{fs:List (List UInt8)}(h:fs.length=5):∃a b c d e,fs.map zai=[a,b,c,d,e]:=by
 match fs,h with
 | [x0,x1,x2,x3,x4],_=>exact⟨_,_,_,_,_,rfl⟩
theorem zon{fs:List (List UInt8)}(h:fs.length=3):∃a b c,fs.map zai=[a,b,c]:=by
 match fs,h with
 | [x0,x1,x2],_=>exact⟨_,_,_,rfl⟩
theorem zrn{r:Rd}{a b c d e:Int}(hh:r.head=true)(h7:r.stops.length<7):(zd0 r a b c d e).2=(zav r a b c d e).2/\((zav r a b c d e).2=0->(zd0 r a b c d e).1=(zav r a b c d e).1):=by
 have e1:zd0 r a b c d e=({ r with stops:=r.stops++[[a,b,c,d,e]] },if zas a b c d e r.nodes=true then 0 else 4):=ye (by omega);have e2:zav r a b c d e=if zas a b c d e r.nodes=true then ({ r with stops:=r.stops++[[a,b,c,d,e]] },0) else (r,4):=by unfold zav;rw[ye (by simp[hh]:¬r.head=false),ye (by omega:¬7<=r.stops.length)]
 rw[e1,e2];cases zas a b c d e r.nodes<;>simp
theorem zrY{r:Rd}{a b c:Int}(hh:r.head=true)(h7:r.roads.length<40):(zd3 r a b c).2=(zat r a b c).2/\((zat r a b c).2=0->(zd3 r a b c).1=(zat r a b c).1):=by
 have e1:zd3 r a b c=({ r with roads:=r.roads++[[a,b,c]] },if zaZ a b c r.nodes=true then 0 else 4):=ye (by omega);have e2:zat r a b c=if zaZ a b c r.nodes=true then ({ r with roads:=r.roads++[[a,b,c]] },0) else (r,4):=by unfold zat;rw[ye (by simp[hh]:¬r.head=false),ye (by omega:¬40<=r.roads.length)]
 rw[e1,e2];cases zaZ a b c r.nodes<;>simp
theorem zqh(g cap N B:Nat)(r:Rd)(vs vr:Value)(f:List UInt8)(fs:List (List UInt8))(w:World)(hN:N=fs.length+1)(hw:zeI w g f fs)(hf:zar f fs (!r.head)=true)(hB:B<=w.heap.size)(hg:zfE r)(hs:w.ownsRow B 62 5 vs r.stops.length (zd r.stops.flatten))(hr:w.ownsRow B 64 3 vr r.roads.length (zd r.roads.flatten)):Calls Tryz.prog 97 #[zap r vs vr,.slice (some ⟨g,0,none⟩) N cap] w (zlS w B (zae r f (fs.map zai))):=by
 obtain⟨h1,h2,h3⟩:=zgG hf;rcases zhC h1 with ⟨rfl,hl⟩|⟨rfl,hl⟩|⟨rfl,hl⟩
 ·obtain⟨a,b,c,d,e,hv⟩:=zh4 hl;have hh:r.head=false:=by simpa using h2
  have ab:=hg.none hh;obtain⟨aq,cs,e1,_,_⟩:=zg hs;obtain⟨ar,cr,e2,_,_⟩:=zg hr;obtain rfl:N=6:=by omega
  refine(zvr g cap r vs vr fs a b c d e w hw hv h3 _ _ _ _ _ _ e1 e2).mono ?_;rintro q w'⟨rfl,hb⟩;have hy:zae r [68] (fs.map zai)=zaw r a b c d e:=by rw[hv];rfl
  rw[hy];cases hok:zaK a b c d e
  ·have hz:zaw r a b c d e=(r,4):=by unfold zaw;rw[ye (by simp[hh]),ye (by simp[hok])]
   rw[hz];exact⟨{ r with vans:=a,load:=b,close:=c,nodes:=d,home:=e },vs,vr,rfl,⟨_,_,_,_,_,_,e1,e2⟩,hb.mono hB,zZ.of_below hb,λh=>by cases h⟩
  have hz:zaw r a b c d e=({ vans:=a,load:=b,close:=c,nodes:=d,home:=e,stops:=[],roads:=[],head:=true },0):=by unfold zaw;rw[ye (by simp[hh]),yg hok]
  rw[hz];refine⟨{ r with vans:=a,load:=b,close:=c,nodes:=d,home:=e },vs,vr,rfl,⟨_,_,_,_,_,_,e1,e2⟩,hb.mono hB,zZ.of_below hb,λ_=>⟨rfl,?_,?_⟩⟩
  ·have:=ze hs hb;rw[ab] at this;exact this
  have:=ze hr hb;rw[ab] at this;exact this
 ·obtain⟨a,b,c,d,e,hv⟩:=zh4 hl;have hh:r.head=true:=by simpa using h2
  obtain rfl:N=6:=by omega
  have hy:zae r [83] (fs.map zai)=zav r a b c d e:=by rw[hv];rfl
  rw[hy];have aa:=hg.fine.1;by_cases h7:r.stops.length=7
  ·refine(zmQ g cap B r vs vr fs a b c d e w hw hv h3 hB hs hr h7).mono λq w' h=>zf5 h ?_ ?_
   ·unfold zd0 zav;rw[yg h7,ye (by simp[hh]),yg (by omega)]
   unfold zav;rw[ye (by simp[hh]),yg (by omega)];intro h';cases h'
  refine(zpx g cap B r vs vr fs a b c d e w hw hv h3 hB ⟨hg.lo,hg.hi⟩ hs hr (by omega)).mono λq w' h=>zf5 h ?_ ?_
  ·exact(zrn hh (by omega)).1
  exact(zrn hh (by omega)).2
 obtain⟨a,b,c,hv⟩:=zon hl;have hh:r.head=true:=by simpa using h2
 obtain rfl:N=4:=by omega
 have hy:zae r [82] (fs.map zai)=zat r a b c:=by rw[hv];rfl
 rw[hy];have aa:=hg.fine.2;by_cases h7:r.roads.length=40
 ·refine(zmJ g cap B r vs vr fs a b c w hw hv h3 hB hs hr h7).mono λq w' h=>zf5 h ?_ ?_
  ·unfold zd3 zat;rw[yg h7,ye (by simp[hh]),yg (by omega)]
  unfold zat;rw[ye (by simp[hh]),yg (by omega)];intro h';cases h'
 refine(zoX g cap B r vs vr fs a b c w hw hv h3 hB ⟨hg.lo,hg.hi⟩ hs hr (by omega)).mono λq w' h=>zf5 h ?_ ?_
 ·exact(zrY hh (by omega)).1
 exact(zrY hh (by omega)).2
theorem zoR{r:Rd}{f:List UInt8}{fs:List (List UInt8)}{l:List UInt8}(hl:zcR l=f::fs)(h:zar f fs (!r.head)=false):(zW r l).2=2:=by
 unfold zW;rw[hl];show (if fs.all zy=true then zae r f (fs.map zai) else (r,2)).2=2;split
 ·rename_i aa;rcases letters f with rfl|rfl|rfl|⟨e1,e2,e3⟩
  ·by_cases h5:fs.length=5
   ·have hh:r.head=true:=by
     cases hh:r.head
     ·simp[zar,zdq,h5,hh,aa] at h
     rfl
    obtain⟨a,b,c,d,e,hv⟩:=zh4 h5;rw[hv];show (zaw r a b c d e).2=2;unfold zaw;rw[yg hh]
   unfold zae;rw[yg rfl];split
   ·rename_i hv;exact absurd (by have:=yan List.length hv;simpa using this) h5
   rfl
  ·by_cases h5:fs.length=5
   ·have hh:r.head=false:=by
     cases hh:r.head
     ·rfl
     simp[zar,zdq,h5,hh,aa] at h
    obtain⟨a,b,c,d,e,hv⟩:=zh4 h5;rw[hv];show (zav r a b c d e).2=2;unfold zav;rw[yg hh]
   unfold zae;rw[ye (by decide),yg rfl];split
   ·rename_i hv;exact absurd (by have:=yan List.length hv;simpa using this) h5
   rfl
  ·by_cases h5:fs.length=3
   ·have hh:r.head=false:=by
     cases hh:r.head
     ·rfl
     simp[zar,zdq,h5,hh,aa] at h
    obtain⟨a,b,c,hv⟩:=zon h5;rw[hv];show (zat r a b c).2=2;unfold zat;rw[yg hh]
   unfold zae;rw[ye (by decide),ye (by decide),yg rfl];split
   ·rename_i hv;exact absurd (by have:=yan List.length hv;simpa using this) h5
   rfl
  unfold zae;rw[ye e1,ye e2,ye e3]
 rfl
theorem zks{r:Rd}{f:List UInt8}{fs:List (List UInt8)}{l:List UInt8}(hl:zcR l=f::fs)(h:zar f fs (!r.head)=true):zW r l=zae r f (fs.map zai):=by unfold zW;rw[hl];show (if fs.all zy=true then zae r f (fs.map zai) else (r,2))=_;rw[yg (zgG h).2.2]
theorem znB(s:ByteArray)(w:World)(aa:2000<s.size)(hs:s.size<=maxLen):Calls Tryz.prog 45 #[.string s] w (zfa w (zv s.data.toList)):=by
 unfold maxLen at hs;have hx:zv s.data.toList=(Rd0,0,1):=by unfold zv;rw[yg (by simpa using aa)]
 have HX:=zB hx;clear hx;go_in;go_wp2;refine yB (v:=.tuple #[.agg zaS,.int .i64 0,.int .i64 1]) (by simp[results,Tryz.results45,go_sem,zaS]) rfl ?_;exact zcS HX.out (zaa _ _ _)
def zjh(r:Rd)(vs vr:Value):Array Value:=#[.int .i64 r.vans,.int .i64 r.load,.int .i64 r.close,.int .i64 r.nodes,.int .i64 r.home,vs,vr]
structure zgM (w wr:World) (r:Rd) (vs vr:Value):Prop where
 z:wr.heap[w.heap.size]?=some (.cells zaS 28 (0,0))
 x:wr.heap[w.heap.size+1]?=some (.cells (zjh r vs vr) 28 (0,0))
 s:wr.ownsRow w.heap.size 62 5 vs r.stops.length (zd r.stops.flatten)
 r:wr.ownsRow w.heap.size 64 3 vr r.roads.length (zd r.roads.flatten)
 b:Below w.heap.size w wr
theorem zgM.below{w wr w2:World}{r:Rd}{vs vr:Value}(h:zgM w wr r vs vr)(hb:Below wr.heap.size wr w2):zgM w w2 r vs vr:=⟨by rw[hb.block _ (yc.1 h.z).1];exact h.z,by rw[hb.block _ (yc.1 h.x).1];exact h.x,ze h.s hb,ze h.r hb,h.b.trans (hb.mono h.b.size)⟩
def zlZ(w:World)(b:Nat)(u0 u1 u2 u3 u4 u5 u6:Value):World:=((((((w.setCell ⟨b,0,none⟩ u0).setCell ⟨b,1,none⟩ u1).setCell ⟨b,2,none⟩ u2).setCell ⟨b,3,none⟩ u3).setCell ⟨b,4,none⟩ u4).setCell ⟨b,5,none⟩ u5).setCell ⟨b,6,none⟩ u6
theorem zqs{w:World}{b:Nat}{x0 x1 x2 x3 x4 x5 x6:Value}{t:TypeId}(h:w.heap[b]?=some (.cells #[x0,x1,x2,x3,x4,x5,x6] t (0,0)))(u0 u1 u2 u3 u4 u5 u6:Value):(zlZ w b u0 u1 u2 u3 u4 u5 u6).heap[b]?=some (.cells #[u0,u1,u2,u3,u4,u5,u6] t (0,0)):=by have k1:=yw w b 0 _ _ u0 h;have k2:=yw _ b 1 _ _ u1 k1;have k3:=yw _ b 2 _ _ u2 k2;have k4:=yw _ b 3 _ _ u3 k3;have k5:=yw _ b 4 _ _ u4 k4;have k6:=yw _ b 5 _ _ u5 k5;have k7:=yw _ b 6 _ _ u6 k6;show (((((((w.setCell ⟨b,0,none⟩ u0).setCell ⟨b,1,none⟩ u1).setCell ⟨b,2,none⟩ u2).setCell ⟨b,3,none⟩ u3).setCell ⟨b,4,none⟩ u4).setCell ⟨b,5,none⟩ u5).setCell ⟨b,6,none⟩ u6).heap[b]?=_;rw[k7];simp
theorem zoD{w:World}{b k:Nat}(h:k≠b)(u0 u1 u2 u3 u4 u5 u6:Value):(zlZ w b u0 u1 u2 u3 u4 u5 u6).heap[k]?=w.heap[k]?:=by unfold zlZ;rw[yt _ _ _ _ h,yt _ _ _ _ h,yt _ _ _ _ h,yt _ _ _ _ h,yt _ _ _ _ h,yt _ _ _ _ h,yt _ _ _ _ h]
theorem zvd{w wr w2 w3:World}{r:Rd}{vs vr:Value}{x y:Rd}{ab aa:Value}{B n:Nat}{v:Value}{xs:List Value}(h:zgM w wr r vs vr)(h2:Below wr.heap.size wr w2)(hb:Below w.heap.size w2 w3)(hk:zZ tkT w2 w3)(hi:zap x ab aa=zap y ab aa)(hs:w3.ownsRow w.heap.size 62 5 ab y.stops.length (zd y.stops.flatten))(hr:w3.ownsRow w.heap.size 64 3 aa y.roads.length (zd y.roads.flatten))(hv:wr.ownsRow B 9 1 v n xs):zgM w (zlZ w3 (w.heap.size+1) (.int .i64 x.vans) (.int .i64 x.load) (.int .i64 x.close) (.int .i64 x.nodes) (.int .i64 x.home) ab aa) y ab aa/\(zlZ w3 (w.heap.size+1) (.int .i64 x.vans) (.int .i64 x.load) (.int .i64 x.close) (.int .i64 x.nodes) (.int .i64 x.home) ab aa).ownsRow B 9 1 v n xs:=by
 have ac:=hk _ _ _ _ (h.below h2).x (by decide);have ad:=hk _ _ _ _ (h.below h2).z (by decide);refine⟨⟨?_,?_,zcv ac hs (by decide),zcv ac hr (by decide),((h.below h2).b.trans hb).trans (zbb _ _ _ (by omega) _ _ _ _ _ _ _)⟩,zcv ac (zcs (ze hv h2) hk (by decide)) (by decide)⟩
 ·rw[zoD (by omega)];exact ad
 have e:zjh x ab aa=zjh y ab aa:=by unfold zap at hi;unfold zjh;injection hi
 rw[<-e];exact zqs ac _ _ _ _ _ _ _
theorem zvE{r:Rd}{f:List UInt8}{fs:List (List UInt8)}{l:List UInt8}(hl:zcR l=f::fs)(h:zar f fs (!r.head)=true)(he:(zW r l).2=0):(zW r l).1.head=true:=by
 rw[zks hl h] at he⊢;obtain⟨h1,h2,h3⟩:=zgG h;rcases zhC h1 with ⟨rfl,hn⟩|⟨rfl,hn⟩|⟨rfl,hn⟩
 ·obtain⟨a,b,c,d,e,hv⟩:=zh4 hn;rw[hv] at he⊢;have hh:r.head=false:=by simpa using h2
  show (zaw r a b c d e).1.head=true;have aa:(zaw r a b c d e).2=0:=he;unfold zaw at aa⊢;rw[ye (by simp[hh])] at aa⊢;split at aa
  ·rename_i ho;rw[yg ho]
  cases aa
 ·obtain⟨a,b,c,d,e,hv⟩:=zh4 hn;rw[hv] at he⊢;have hh:r.head=true:=by simpa using h2
  show (zav r a b c d e).1.head=true;unfold zav;split
  ·exact hh
  split
  ·exact hh
  split<;>exact hh
 obtain⟨a,b,c,hv⟩:=zon hn;rw[hv] at he⊢;have hh:r.head=true:=by simpa using h2
 show (zat r a b c).1.head=true;unfold zat;split
 ·exact hh
 split
 ·exact hh
 split<;>exact hh
theorem zpj(s:ByteArray)(w:World)(aY:s.size<=maxLen):Calls Tryz.prog 45 #[.string s] w (zfa w (zv s.data.toList)):=by
 by_cases ah:2000<s.size
 ·exact znB s w ah aY
 have hs:s.size<=2000:=by omega
 have an:Hid (s.data.toList.length<=2000):=by show _<=_;simpa using hs
 obtain⟨ls,aq⟩:∃ls,ls=zD 10 s.data.toList:=⟨_,rfl⟩
 have ak:=zft 10 s.data.toList;have ap:=zhB 10 s.data.toList;rw[<-aq] at ak ap;have hn:ls.length<=2001:=by have:=an.out;omega
 have hn1:1<=ls.length:=by rw[aq];unfold zD;simp
 have HL:=zB ak;have ay:=zB aq;clear ak ap aY;have aa:=zeA 10 s ((w.alloc (.cells zaS 28)).alloc (.cells zaS 28)) (by omega);rw[<-aq] at aa;have HC:=zB aa;clear aa aq ah;go_in;go_wp2_with fail;refine HC.out.mono ?_;rintro e1 w1⟨v,rfl,al,af⟩;obtain⟨g,cap,cur,rfl,_,hg,hcap⟩:=zF al (by omega);have hgl:g<w1.heap.size:=(yc.1 hg).1;have hI:zgM w w1 Rd0 (.slice none 0 0) (.slice none 0 0):=by
  refine⟨?_,?_,yC _ _ _ _,yC _ _ _ _,(zaa w _ _).trans (af.mono (by simp;omega))⟩
  ·rw[af.block _ (by simp;omega),yT _ _ _ (by simp)];exact yx w _
  rw[af.block _ (by simp)];exact zdS _ _ _
 have HI:=zB hI;have HO:=zB al;clear hI al af hg HC;go_wp2_with fail;go_loopw[7,8] (λfi i wr=>∃(k:Nat)(r:Rd)(vs vr:Value),k<=ls.length/\i=.int .i64 k/\fi=.bool (!r.head)/\Hid (zbr Rd0 0 ls=zbr r k (ls.drop k))/\Hid (zfE r)/\Hid (zgM w wr r vs vr)/\Hid (wr.ownsRow (w.heap.size+1+1) 9 1 (.slice (some ⟨g,0,none⟩) ls.length cap) ls.length (zbE ls))) (λ_ i _=>ls.length-(intOf i).toNat)
 ·exact⟨0,Rd0,_,_,yu _,rfl,rfl,rfl,zwy,HI,by have h:=HO.out;simp only[ybW] at h;exact h⟩
 clear HI HO;obtain⟨k,r,vs,vr,hk,rfl,rfl,HG,HF,HI,HO⟩:=hrel;by_cases ar:k<ls.length
 ·have ac:wr.cell? ⟨g,k,none⟩=some (.string ⟨(ls[k]).toArray⟩):=by rw[HO.out.cellAt k (by omega)];simp[zbE,ar]
  obtain⟨l,hl⟩:∃l,l=ls[k]:=⟨_,rfl⟩
  rw[<-hl] at ac;have ag:=zB hl;have hll:l.length<=2000:=by have h1:=HL.out l (by rw[hl];exact ym _);have h2:=an.out;omega
  clear hl;have aa:=zqJ ⟨l.toArray⟩ wr (by show l.toArray.size<=_;simp;omega);have HC:Hid (Calls Tryz.prog 95 #[.string ⟨l.toArray⟩] wr λe w'=>∃v,e=.returned v/\w'.ownsRow wr.heap.size 9 1 v (zcR l).length (zbE (zcR l))/\Below wr.heap.size wr w'):=by show Calls _ _ _ _ _;simpa using aa
  have aN:Hid ((zcR l).length<=l.length):=zjA l;have aO:Hid (∀f∈zcR l,f.length<=l.length):=zij l;clear aa;go_wp2_with fail;refine HC.out.mono ?_;rintro e2 w2⟨vw,rfl,ad,aR⟩;obtain⟨ws,aJ⟩:∃ws,ws=zcR l:=⟨_,rfl⟩
  rw[<-aJ] at ad aN aO;have az:=zB aJ;have ao:=zB ad;have ai:=zB aR;have bb:ws.length<=2000:=by have:=aN.out;omega
  clear aJ ad aR HC;cases ws with
  | nil=>
   obtain⟨avw,cvw,rfl,_,_⟩:=zg ao.out;have HN:Hid (zW r l=(r,0)):=by show _=_;unfold zW;rw[<-az.out]
   have am:Hid (zbr Rd0 0 ls=zbr r (k+1) (ls.drop (k+1))):=by show _=_;rw[HG.out,zhj ar (by rw[<-ag.out,HN.out]),<-ag.out,HN.out]
   have ab:Hid (zgM w w2 r vs vr):=HI.out.below ai.out;have a1:Hid (w2.ownsRow (w.heap.size+1+1) 9 1 (.slice (some ⟨g,0,none⟩) ls.length cap) ls.length (zbE ls)):=ze HO.out ai.out;clear HO HI ac ao ai;go_wp2;go_roundw
   ·exact⟨k+1,r,vs,vr,by omega,by go_num,rfl,am,HF,ab,a1⟩
   simp[intOf];omega
  | cons f fs=>
   obtain⟨gw,ae,curw,rfl,_,aU,_⟩:=zF ao.out (by simp);have aB:zeI w2 gw f fs:=by
    refine⟨(yc.1 aU).1,?_,λi hi=>?_⟩
    ·rw[ao.out.cellAt 0 (by simp)];rfl
    rw[ao.out.cellAt (i+1) (by simp;omega)];simp[zbE,hi]
   have aQ:=zB aB;have aP:Hid (Calls Tryz.prog 96 #[.slice (some ⟨gw,0,none⟩) (f::fs).length ae,.bool (!r.head)] w2 λe w'=>e=.returned (.bool (zar f fs (!r.head)))/\w'=w2):=zns gw ae (f::fs).length f fs (!r.head) w2 rfl (by simp at bb;omega) (λx hx=>by have:=aO.out x (by simp[hx]);omega) aB.head aB.rest;have ab:Hid (zgM w w2 r vs vr):=HI.out.below ai.out;clear aB aU;go_wp2_with fail;refine aP.out.mono ?_;rintro e3 w3⟨rfl,rfl⟩;cases hfo:zar f fs (!r.head)
   ·have HX:Hid (zv s.data.toList=(Rd0,k+1,2)):=by have he:=zoR (l:=l) az.out.symm hfo;refine zge an.out ?_ (by decide);rw[<-ay.out,HG.out,zhF ar (by rw[<-ag.out,he];decide),<-ag.out,he]
    obtain⟨b0,b1,b2,b3,b4,b5,b6,aT⟩:=zgg ab.out.z;clear HO HI ac;go_wp2;refine yB (v:=.tuple #[.agg zaS,.int .i64 ((k+1:Nat):Int),.int .i64 2]) (by simp[results,Tryz.results45,go_sem,zaS,b0,b1,b2,b3,b4,b5,b6]) rfl ?_;exact zcS HX.out (ab.out.b.trans (zbb _ _ _ (yh _) _ _ _ _ _ _ _))
   obtain⟨y0,y1,y2,y3,y4,y5,y6,yf⟩:=zcB ab.out.x;have aE:Hid (zW r l=zae r f (fs.map zai)):=zks az.out.symm hfo;have aa:=zqh gw ae (f::fs).length w.heap.size r vs vr f fs w3 rfl aQ.out hfo ab.out.b.size HF.out ab.out.s ab.out.r;rw[<-aE.out] at aa;have HC:Hid (Calls Tryz.prog 97 #[.agg #[.int .i64 r.vans,.int .i64 r.load,.int .i64 r.close,.int .i64 r.nodes,.int .i64 r.home,vs,vr],.slice (some ⟨gw,0,none⟩) (fs.length+1) ae] w3 (zlS w3 w.heap.size (zW r l))):=aa;have aM:Hid (zfE (zW r l).1):=by show zfE _;rw[aE.out];exact zna HF.out _ _
   clear aa aE ac;obtain⟨_,_,aI,_,_⟩:=zg ab.out.s;obtain⟨_,_,aH,_,_⟩:=zg ab.out.r;subst aI aH;go_wp2_with fail;refine HC.out.mono ?_;rintro e4 w4⟨x,vs',vr',rfl,⟨n5,a5,c5,n6,a6,c6,rfl,rfl⟩,aS,aA,aw⟩;have aK:=aA _ _ _ _ ab.out.z (by decide);have aC:=aA _ _ _ _ ab.out.x (by decide);have hbx:w.heap.size+1<w4.heap.size:=(yc.1 aC).1;have ax:=zB aS;have aD:=zB aA;have aj:=zB aw;clear aS aA aw HC aP ao aQ y0 y1 y2 y3 y4 y5 y6 yf;unfold zap;by_cases he:(zW r l).2=0
   ·obtain⟨aV,aX,aW⟩:=aj.out he;obtain⟨au,av⟩:=zvd HI.out ai.out ax.out aD.out aV aX aW HO.out;have aZ:=zB au;have a0:=zB av;have am:Hid (zbr Rd0 0 ls=zbr (zW r l).1 (k+1) (ls.drop (k+1))):=by show _=_;rw[HG.out,ag.out];exact zhj ar (by rw[<-ag.out];exact he)
    have a9:(zW r l).1.head=true:=zvE az.out.symm hfo he;obtain⟨q0,q1,q2,q3,q4,q5,q6,qf⟩:=zcB aC;rw[he];clear aV aX aW au av aK aC aj ax aD HI ab ai HO;go_wp2_with fail;go_roundw
    ·have a7:Value.bool false=.bool (!(zW r l).1.head):=by rw[a9];rfl
     refine⟨k+1,(zW r l).1,.slice a5 n5 c5,.slice a6 n6 c6,by omega,by go_num,a7,am,aM,?_,?_⟩
     ·exact aZ.out.below (zj _ _)
     exact ze a0.out (zj _ _)
    simp[intOf];omega
   have HX:Hid (zv s.data.toList=(Rd0,k+1,(zW r l).2)):=by refine zge an.out ?_ he;rw[<-ay.out,HG.out,ag.out];exact zhF ar (by rw[<-ag.out];exact he)
   have hne:((zW r l).2 != 0)=true:=by simp[he]
   obtain⟨b0,b1,b2,b3,b4,b5,b6,aT⟩:=zgg aK;have aL:Hid (Below w.heap.size w w4):=ab.out.b.trans ax.out;clear he aK aC aj ax aD HI ab ai HO aM HF;generalize (zW r l).2=er at*;have a4:w.heap.size<w4.heap.size:=by omega
   go_wp2;refine yB (v:=.tuple #[.agg zaS,.int .i64 ((k+1:Nat):Int),.int .i64 er]) (by simp[results,Tryz.results45,go_sem,zaS,b0,b1,b2,b3,b4,b5,b6,a4]) rfl ?_;exact zcS HX.out ((aL.out.trans (zbb _ _ _ (yh _) _ _ _ _ _ _ _)).trans ((zj _ _).mono (by have:=aL.out.size;have:=(zbb w.heap.size w.heap.size w4 (yh _) (.int .i64 0) (.int .i64 0) (.int .i64 0) (.int .i64 0) (.int .i64 0) (.slice none 0 0) (.slice none 0 0)).size;omega)))
 have ba:k=ls.length:=by omega
 subst ba;have am:Hid (zbr Rd0 0 (zD 10 s.data.toList)=(r,0,0)):=by show _=_;rw[<-ay.out,HG.out];exact zlp (yh _)
 obtain⟨b0,b1,b2,b3,b4,b5,b6,aT⟩:=zgg HI.out.z;obtain⟨c0,c1,c2,c3,c4,c5,c6,a8⟩:=zcB HI.out.x;have hrl:w.heap.size+1<wr.heap.size:=(yc.1 HI.out.x).1;cases hh:r.head
 ·have HX:Hid (zv s.data.toList=(Rd0,ls.length,2)):=by show _=_;rw[zji an.out am.out hh,ay.out]
  clear c0 c1 c2 c3 c4 c5 c6 a8;go_wp2;refine yB (v:=.tuple #[.agg zaS,.int .i64 ls.length,.int .i64 2]) (by simp[results,Tryz.results45,go_sem,zaS,b0,b1,b2,b3,b4,b5,b6]) rfl ?_;exact zcS HX.out (HI.out.b.trans (zbb _ _ _ (yh _) _ _ _ _ _ _ _))
 have HX:Hid (zv s.data.toList=(r,0,0)):=zmE an.out am.out hh;obtain⟨a3,aG,aI,_,_⟩:=zg HI.out.s;obtain⟨a2,aF,aH,_,_⟩:=zg HI.out.r;subst aI aH;go_wp2;rw[HX.out];refine yB (v:=.tuple #[zap r (.slice a3 r.stops.length aG) (.slice a2 r.roads.length aF),.int .i64 0,.int .i64 0]) (by simp[results,Tryz.results45,go_sem,zap,b0,b1,b2,b3,b4,b5,b6]) rfl ?_;exact⟨_,_,rfl,zcv HI.out.z HI.out.s (by decide),zcv HI.out.z HI.out.r (by decide),HI.out.b.trans (zbb _ _ _ (yh _) _ _ _ _ _ _ _)⟩
def zhp(w:World)(ao:Option Addr)(n size:Nat)(S:Nat->Nat->Int):Prop:=0<n->∃b o,ao=some ⟨b,o,none⟩/\b<w.heap.size/\∀i j,i<n->j<size->w.cell? ⟨b,o+i*size+j,none⟩=some (.int .i64 (S i j))
theorem zhp.below{w w':World}{ao:Option Addr}{n size:Nat}{S:Nat->Nat->Int}(h:zhp w ao n size S)(hb:Below w.heap.size w w'):zhp w' ao n size S:=λhn=>by obtain⟨b,o,h1,h2,h3⟩:=h hn;exact⟨b,o,h1,ya h2 hb.size,λi j hi hj=>zc hb (h3 i j hi hj) h2⟩
end Go.Proofs.YtebinaopncclgabGreatDoor
