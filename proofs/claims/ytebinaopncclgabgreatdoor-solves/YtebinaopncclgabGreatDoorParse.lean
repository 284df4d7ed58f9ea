import Derived.Deep.RegionLaw
import Derived.Test.YtebinaopncclgabGreatDoorRefA
import Derived.Deep.RegionWith
set_option maxRecDepth 100000
set_option maxHeartbeats 8000000
namespace Go.Proofs.YtebinaopncclgabGreatDoor
open Go.RowKit Go.IntWalk
theorem zeB(v l c n h:Int)(vs vr:Value)(w:World):Calls Tryz.prog 136 #[.agg #[.int .i64 v,.int .i64 l,.int .i64 c,.int .i64 n,.int .i64 h,vs,vr]] w λe w'=>e=.returned (.bool (zaK v l c n h))/\Below w.heap.size w w':=by
 go_in;go_wp2_with(go_at_call 193;refine(ziK _ 2 [l,c] _ _ rfl (by omega) (zvL (by simp[go_sem]) (by simp[go_sem]))).mono ?_;rintro e w'⟨rfl,rfl⟩)
 all_goals
  go_ret
  first
   | exact⟨zh (zqk (by omega)).symm,zj _ _⟩
   | exact⟨zh (zp1 (by omega)).symm,zaa _ _ _⟩
theorem zfF(a b c d e n:Int)(w:World):Calls Tryz.prog 137 #[.agg #[.int .i64 a,.int .i64 b,.int .i64 c,.int .i64 d,.int .i64 e],.int .i64 n] w λr w'=>r=.returned (.bool (zas a b c d e n))/\Below w.heap.size w w':=by
 go_in;go_wp2_with(go_at_call 193;refine(ziK _ 4 [b,c,d,e] _ _ rfl (by omega) (zwp (by simp[go_sem]) (by simp[go_sem]) (by simp[go_sem]) (by simp[go_sem]))).mono ?_;rintro e w'⟨rfl,rfl⟩)
 all_goals
  go_ret
  first
   | exact⟨zh (zqf (by omega)).symm,zj _ _⟩
   | exact⟨zh (zoO (by omega)).symm,zaa _ _ _⟩
theorem zfM(a b c n:Int)(w:World):Calls Tryz.prog 138 #[.agg #[.int .i64 a,.int .i64 b,.int .i64 c],.int .i64 n] w λr w'=>r=.returned (.bool (zaZ a b c n))/\Below w.heap.size w w':=by
 go_in;go_wp2_with(go_at_call 193;refine(ziK _ 1 [c] _ _ rfl (by omega) (zvM (by simp[go_sem]))).mono ?_;rintro e w'⟨rfl,rfl⟩)
 all_goals
  go_ret
  first
   | exact⟨zh (zrA (by omega)).symm,zj _ _⟩
   | exact⟨zh (zoh (by omega)).symm,zaa _ _ _⟩
open Go Go.RowKit
theorem zds{P:Program}{ae:Array Oper}{o:Oper}{a:Act}{w:World}{K:Act->World->Prop}{Q:Exit->Act->World->Prop}{E:Prop}(hg:o.guard=none)(s x:Operand)(t:TypeId)(ag:o.op=Op.call { callee:=Callee.builtin Builtin.append,args:=#[s,x],argTypes:=#[t,t] })(base:Nat)(e:TypeId)(i:TypeInfo)(z:Value)(size bytes:Nat)(h1:P.underlying t=some (.slice e))(h2:P.info? e=some i)(h3:i.zero=some z)(h4:i.size=size)(h5:i.bytes=bytes)(h6:z.cells.size=size)(h7:0<size)(v:Value)(n:Nat)(xs:List Value)(hs:a.eval s=v)(ab:w.ownsRow base e size v n xs)(ad:Addr)(m c:Nat)(aa:List Value)(hx:a.eval x=.slice (some ad) m c)(hn:aa.length=m*size)(hc:∀j u,aa[j]?=some u->w.cell? (ad.add j)=some u)(af:∀u∈aa,u.oneCell'=true)(b1:n+m<=maxLen)(b2:(n+m)*bytes<=140737488355328)(b3:base<=w.heap.size)(hK:∀v' w',w'.ownsRow base e size v' (n+m) (xs++aa)->w.grownBy w' v.ownBlock->K (a.put o.dst v') w'):if Region.wanted o (yielded ae a.tmps)=true then Oper.wp P o a w K Q else E:=by
 have hw:Region.wanted o (yielded ae a.tmps)=true:=by simp[Region.wanted,hg]
 rw[if_pos hw];obtain⟨v',w',ac,r1,r2,_⟩:=run_append_own (P:=P) w base t o.type e i z size bytes h1 h2 h3 h4 h5 h6 h7 v n xs ab ad m c aa hn hc af b1 b2 b3;unfold Oper.wp;simp[execOp,ag,resolve,invoke,builtin,hs,hx,ac,Result.andThen];exact hK v' w' r1 r2
def rdT:List TypeId:=[147,62,64]
def zdN(r:Rd)(vs vr:Value):Array Value:=#[.int .i64 r.vans,.int .i64 r.load,.int .i64 r.close,.int .i64 r.nodes,.int .i64 r.home,vs,vr,.bool r.head]
def zb1(w:World)(B rb:Nat)(r:Rd)(vs vr:Value):Prop:=B<=rb/\w.heap[rb]?=some (.cells (zdN r vs vr) 147 (0,0))/\w.ownsRow B 62 5 vs r.stops.length (zd r.stops.flatten)/\w.ownsRow B 64 3 vr r.roads.length (zd r.roads.flatten)
def zbm(w:World)(B rb:Nat)(x:Rd×Int)(e:Ending)(w':World):Prop:=∃vs' vr',e=.returned (.int .i64 x.2)/\zb1 w' B rb x.1 vs' vr'/\Below B w w'/\zZ rdT w w'
theorem zb9{w:World}{B rb:Nat}{r:Rd}{vs vr:Value}(h:zb1 w B rb r vs vr):w.cell? ⟨rb,0,none⟩=some (.int .i64 r.vans)/\w.cell? ⟨rb,1,none⟩=some (.int .i64 r.load)/\w.cell? ⟨rb,2,none⟩=some (.int .i64 r.close)/\w.cell? ⟨rb,3,none⟩=some (.int .i64 r.nodes)/\w.cell? ⟨rb,4,none⟩=some (.int .i64 r.home) /\w.cell? ⟨rb,5,none⟩=some vs/\w.cell? ⟨rb,6,none⟩=some vr/\w.cell? ⟨rb,7,none⟩=some (.bool r.head)/\(∀o,w.frozen? ⟨rb,o,none⟩=false)/\rb<w.heap.size:=by have hh:=h.2.1;have hc:∀j,w.cell? ⟨rb,j,none⟩=(zdN r vs vr)[j]?:=λj=>yi w rb j _ _ _ hh;refine⟨?_,?_,?_,?_,?_,?_,?_,?_,λo=>yv w rb o _ _ hh,(yc.1 hh).1⟩<;>(rw[hc];rfl)
theorem zwu{W w1:World}(hb:Below W.heap.size W w1):(∀b o,b<W.heap.size->w1.cell? ⟨b,o,none⟩=W.cell? ⟨b,o,none⟩)/\(∀b o,b<W.heap.size->w1.frozen? ⟨b,o,none⟩=W.frozen? ⟨b,o,none⟩):=⟨λb o h=>hb.cell (p:=⟨b,o,none⟩) h,λb o h=>hb.frozen (p:=⟨b,o,none⟩) h⟩
theorem zei{w w':World}{B rb:Nat}{r:Rd}{vs vr:Value}(h:zb1 w B rb r vs vr)(hb:Below w.heap.size w w'):zb1 w' B rb r vs vr:=⟨h.1,by rw[hb.block rb (yc.1 h.2.1).1];exact h.2.1,ze h.2.2.1 hb,ze h.2.2.2 hb⟩
theorem zaq{w w':World}{B rb:Nat}{r:Rd}{vs vr:Value}{x:Rd×Int}{c:Int}(h:zb1 w B rb r vs vr)(hb:Below w.heap.size w w')(hx:x=(r,c)):zbm w B rb x (.returned (.int .i64 c)) w':=by subst hx;exact⟨vs,vr,rfl,zei h hb,hb.mono (by have:=h.1;have:=(yc.1 h.2.1).1;omega),zZ.of_below hb⟩
def zj5(B rb:Nat)(w w':World)(cs:Array Value):Prop:=w'.heap[rb]?=some (.cells cs 147 (0,0))/\Below B w w'/\zZ [147] w w'
theorem zj5.refl{B rb:Nat}{w:World}{cs:Array Value}(h:w.heap[rb]?=some (.cells cs 147 (0,0))):zj5 B rb w w cs:=⟨h,yk _ _,zZ.refl _ _⟩
theorem zj5.put{B rb:Nat}{w w':World}{cs:Array Value}(hB:B<=rb)(h:zj5 B rb w w' cs)(o:Nat)(u:Value):zj5 B rb w (w'.setCell ⟨rb,o,none⟩ u) (cs.setIfInBounds o u):=⟨yw w' rb o cs _ u h.1,h.2.1.setCell hB u,h.2.2.trans (zZ.setCell h.1 (by simp) u)⟩
theorem zv9(x0 x1 x2 x3 x4 x5 x6 x7 u0 u1 u2 u3 u4 u5 u6 u7:Value):((((((((#[x0,x1,x2,x3,x4,x5,x6,x7]:Array Value).setIfInBounds 0 u0).setIfInBounds 1 u1).setIfInBounds 2 u2).setIfInBounds 3 u3).setIfInBounds 4 u4).setIfInBounds 5 u5).setIfInBounds 6 u6).setIfInBounds 7 u7=#[u0,u1,u2,u3,u4,u5,u6,u7]:=by simp
theorem zk6{w w1:World}{B rb:Nat}{r:Rd}{vs vr:Value}{a b c d e:Int}(h:zb1 w B rb r vs vr)(hh:r.head=false)(ab:zaK a b c d e=true)(hb:Below w.heap.size w w1):zbm w B rb (zaw r a b c d e) (.returned (.int .i64 0)) ((((((((w1.setCell ⟨rb,0,none⟩ (.int .i64 a)).setCell ⟨rb,1,none⟩ (.int .i64 b)).setCell ⟨rb,2,none⟩ (.int .i64 c)).setCell ⟨rb,3,none⟩ (.int .i64 d)).setCell ⟨rb,4,none⟩ (.int .i64 e)).setCell ⟨rb,5,none⟩ (.slice none 0 0)).setCell ⟨rb,6,none⟩ (.slice none 0 0)).setCell ⟨rb,7,none⟩ (.bool true)):=by
 have h1:=zei h hb;have hB:=h.1;have ac:B<=w.heap.size:=by have:=(yc.1 h.2.1).1;omega
 have aa:=h1.2.1;unfold zdN at aa;have P:=((((((((zj5.refl (B:=B) aa).put hB 0 (.int .i64 a)).put hB 1 (.int .i64 b)).put hB 2 (.int .i64 c)).put hB 3 (.int .i64 d)).put hB 4 (.int .i64 e)).put hB 5 (.slice none 0 0)).put hB 6 (.slice none 0 0)).put hB 7 (.bool true);rw[zv9] at P;have hx:zaw r a b c d e=({ vans:=a,load:=b,close:=c,nodes:=d,home:=e,stops:=[],roads:=[],head:=true },0):=by simp[zaw,hh,ab]
 rw[hx];refine⟨.slice none 0 0,.slice none 0 0,rfl,⟨hB,P.1,yC _ _ _ _,yC _ _ _ _⟩,(hb.mono ac).trans P.2.1,(zZ.of_below hb).trans ?_⟩;intro k cur t z hk ht;exact P.2.2 k cur t z hk (by simp only[rdT,yG,not_or] at ht;simp[ht.1])
theorem zt2(B rb g cap:Nat)(r:Rd)(vs vr:Value)(a b c d e:Int)(w:World)(hr:zb1 w B rb r vs vr)(hh:r.head=false)(ab:zaK a b c d e=true)(hg:g<w.heap.size)(h0:w.cell? ⟨g,0,none⟩=some (.int .i64 a))(h1:w.cell? ⟨g,1,none⟩=some (.int .i64 b))(h2:w.cell? ⟨g,2,none⟩=some (.int .i64 c))(h3:w.cell? ⟨g,3,none⟩=some (.int .i64 d))(h4:w.cell? ⟨g,4,none⟩=some (.int .i64 e)):Calls Tryz.prog 133 #[.pointer (some ⟨rb,0,none⟩),.slice (some ⟨g,0,none⟩) 5 cap] w (zbm w B rb (zaw r a b c d e)):=by
 obtain⟨c0,c1,c2,c3,c4,c5,c6,c7,hfz,hrl⟩:=zb9 hr;rw[hh] at c7;go_in;go_wp2;go_region;go_wp2_with fail;refine(zeB _ _ _ _ _ _ _ _).mono ?_;rintro e1 w1⟨rfl,aa⟩;rw[ab];obtain⟨hcc,hff⟩:=zwu aa;have hz:w.heap.size<w1.heap.size:=by have:=aa.size;simp at this;omega
 go_wp2;go_ret;exact zk6 hr hh ab (((zj w _).drew).trans (aa.mono (by simp)))
theorem zqB(B rb g cap:Nat)(r:Rd)(vs vr:Value)(a b c d e:Int)(w:World)(hr:zb1 w B rb r vs vr)(hh:r.head=false)(aa:zaK a b c d e=false)(hg:g<w.heap.size)(h0:w.cell? ⟨g,0,none⟩=some (.int .i64 a))(h1:w.cell? ⟨g,1,none⟩=some (.int .i64 b))(h2:w.cell? ⟨g,2,none⟩=some (.int .i64 c))(h3:w.cell? ⟨g,3,none⟩=some (.int .i64 d))(h4:w.cell? ⟨g,4,none⟩=some (.int .i64 e)):Calls Tryz.prog 133 #[.pointer (some ⟨rb,0,none⟩),.slice (some ⟨g,0,none⟩) 5 cap] w (zbm w B rb (zaw r a b c d e)):=by obtain⟨c0,c1,c2,c3,c4,c5,c6,c7,hfz,hrl⟩:=zb9 hr;rw[hh] at c7;go_in;go_wp2;go_region;go_wp2_with fail;refine(zeB _ _ _ _ _ _ _ _).mono ?_;rintro e1 w1⟨rfl,ab⟩;rw[aa];go_wp2;go_ret;exact zaq hr (((zj w _).drew).trans (ab.mono (by simp))) (by simp[zaw,hh,aa])
theorem zko(B rb n cap:Nat)(ao:Option Addr)(r:Rd)(vs vr:Value)(x:Rd×Int)(w:World)(hr:zb1 w B rb r vs vr)(hx:x=(r,2))(aa:r.head=true\/n≠5):Calls Tryz.prog 133 #[.pointer (some ⟨rb,0,none⟩),.slice ao n cap] w (zbm w B rb x):=by
 obtain⟨c0,c1,c2,c3,c4,c5,c6,c7,hfz,hrl⟩:=zb9 hr;clear c0 c1 c2 c3 c4 c5 c6;cases hh:r.head
 ·rw[hh] at c7;have hn:((n:Int) != 5)=true:=by
   rw[ybH];rcases aa with h|h
   ·rw[hh] at h;cases h
   omega
  go_in;go_wp2;go_ret;exact zaq hr (yk _ _) hx
 rw[hh] at c7;go_in;go_wp2;go_ret;exact zaq hr (yk _ _) hx
theorem Tryz.infoStop:(Tryz.prog.info? 62).map (λi=>(i.zero,i.size,i.bytes))=some (some (.agg #[.int .i64 0,.int .i64 0,.int .i64 0,.int .i64 0,.int .i64 0]),5,40):=by kernel_rfl
theorem Tryz.infoRoad:(Tryz.prog.info? 64).map (λi=>(i.zero,i.size,i.bytes))=some (some (.agg #[.int .i64 0,.int .i64 0,.int .i64 0]),3,24):=by kernel_rfl
theorem zB{p:Prop}(h:p):Hid p:=h
theorem zdF{w w0 w1:World}{cs:Array Value}{t:TypeId}(hb:Below w0.heap.size w0 w1)(hh:w0.heap=(w.alloc (.cells cs t)).heap)(ho:w0.os=w.os)(ht:w0.tape=w.tape)(hu:w0.output=w.output):Below w.heap.size w w1/\w.heap.size<w1.heap.size/\∀j,w1.cell? ⟨w.heap.size,j,none⟩=cs[j]?:=by
 have hs0:w0.heap.size=w.heap.size+1:=by rw[hh];show (w.heap.push _).size=_;simp
 have hs1:=hb.size;refine⟨⟨hb.os.trans ho,hb.tape.trans ht,hb.output.trans hu,by omega,λk hk=>?_⟩,by omega,λj=>?_⟩
 ·rw[hb.block k (by omega),hh];exact yT _ _ _ hk
 rw[hb.cell (p:=⟨w.heap.size,j,none⟩) (show w.heap.size<w0.heap.size by omega)];refine yi w0 w.heap.size j cs t (0,0) ?_;rw[hh];exact yx w _
theorem zcr{w X:World}{v:Value}{B n size:Nat}{e:TypeId}{xs:List Value}(h:w.ownsRow B e size v n xs)(hh:X.heap=w.heap):X.ownsRow B e size v n xs:=by unfold World.ownsRow at*;rw[hh];exact h
theorem zhW{w X:World}{v v':Value}{B n size:Nat}{e:TypeId}{xs:List Value}{o:Obj}(hv:v=v')(h:w.ownsRow B e size v n xs)(hh:X.heap=(w.alloc o).heap):X.ownsRow B e size v' n xs:=by subst hv;exact zcr (h.alloc o) hh
theorem za0{w X:World}{cs:Array Value}{t:TypeId}{l:List Value}(hl:l=cs.toList)(hh:X.heap=(w.alloc (.cells cs t)).heap):∀j u,l[j]?=some u->X.cell? ((⟨w.heap.size,0,none⟩:Addr).add j)=some u:=by intro j u hu;subst hl;rw[ybX,yat,yi X w.heap.size j cs t (0,0) (by rw[hh];exact yx w _)];simpa using hu
theorem zus(a b c d e:Int):∀u∈[Value.int .i64 a,.int .i64 b,.int .i64 c,.int .i64 d,.int .i64 e],u.oneCell'=true:=by intro u hu;simp at hu;rcases hu with rfl|rfl|rfl|rfl|rfl<;>rfl
theorem zuA(a b c:Int):∀u∈[Value.int .i64 a,.int .i64 b,.int .i64 c],u.oneCell'=true:=by intro u hu;simp at hu;rcases hu with rfl|rfl|rfl<;>rfl
theorem zjs{w X:World}{o:Obj}{B rb:Nat}(hh:X.heap=(w.alloc o).heap)(hB:B<=rb)(h:rb<w.heap.size):B<=X.heap.size:=by rw[hh];show B<=(w.heap.push o).size;simp;omega
theorem zg5{w X w':World}{o:Obj}{B rb n size:Nat}{r:Rd}{vs vr v:Value}{e:TypeId}{xs:List Value}(hg:X.grownBy w' v.ownBlock)(hr:zb1 w B rb r vs vr)(hh:X.heap=(w.alloc o).heap)(hv:w.ownsRow B e size v n xs)(he:e≠147):w'.heap[rb]?=some (.cells (zdN r vs vr) 147 (0,0)):=by
 have hX:X.heap[rb]?=some (.cells (zdN r vs vr) 147 (0,0)):=by rw[hh,yT _ _ _ (yc.1 hr.2.1).1];exact hr.2.1
 exact zZ.grown (T:=[e]) (zcr (hv.alloc o) hh) (by simp) hg rb _ _ _ hX (by simp;exact λh=>he h.symm)
theorem zgk{w':World}{rb:Nat}{r:Rd}{vs vr:Value}(h:w'.heap[rb]?=some (.cells (zdN r vs vr) 147 (0,0))):w'.cell? ⟨rb,5,none⟩=some vs/\w'.cell? ⟨rb,6,none⟩=some vr/\w'.frozen? ⟨rb,5,none⟩=false/\w'.frozen? ⟨rb,6,none⟩=false:=⟨by rw[yi w' rb 5 _ _ _ h];rfl,by rw[yi w' rb 6 _ _ _ h];rfl,yv w' rb 5 _ _ h,yv w' rb 6 _ _ h⟩
theorem zhZ{w w':World}{e:TypeId}(h:zZ [e] w w')(he:e∈rdT):zZ rdT w w':=λk cur t z hk ht=>h k cur t z hk (by intro h';simp at h';subst h';exact ht he)
theorem zlW{w X:World}{o:Obj}(hh:X.heap=(w.alloc o).heap):zZ rdT w X:=λk cur t z hk _=>by rw[hh,yT _ _ _ (yc.1 hk).1];exact hk
theorem zkO{w X:World}{o:Obj}(hh:X.heap=(w.alloc o).heap)(ho:X.os=w.os)(ht:X.tape=w.tape)(hu:X.output=w.output):Below w.heap.size w X:=⟨ho,ht,hu,by rw[hh];show _<=(w.heap.push o).size;simp,λk hk=>by rw[hh];exact yT _ _ _ hk⟩
theorem zaY(a b:List Int):zd (a++b)=zd a++zd b:=by simp[zd]
theorem zu9{r:Rd}{a b c d e:Int}(hh:r.head=true)(hlen:r.stops.length<7)(aa:zas a b c d e r.nodes=true):zav r a b c d e=({ r with stops:=r.stops++[[a,b,c,d,e]] },0):=by unfold zav;rw[ye (by simp[hh]),ye (by omega),yg aa]
theorem zsF{w w1 X w2:World}{o:Obj}{B rb:Nat}{r:Rd}{vs vr v':Value}{a b c d e:Int}(hg:X.grownBy w2 vs.ownBlock)(hr:zb1 w B rb r vs vr)(ad:Below w.heap.size w w1)(hh:X.heap=(w1.alloc o).heap)(ho:X.os=w1.os)(ht:X.tape=w1.tape)(hu:X.output=w1.output)(ae:w2.ownsRow B 62 5 v' (r.stops.length+1) (zd r.stops.flatten++[.int .i64 a,.int .i64 b,.int .i64 c,.int .i64 d,.int .i64 e]))(hx:zav r a b c d e=({ r with stops:=r.stops++[[a,b,c,d,e]] },0)):zbm w B rb (zav r a b c d e) (.returned (.int .i64 0)) (w2.setCell ⟨rb,5,none⟩ v'):=by
 have aa:=zei hr ad;have ac:=zg5 hg aa hh aa.2.2.1 (by decide);have ai:B<=w.heap.size:=by have:=(yc.1 hr.2.1).1;have:=hr.1;omega
 have hX:Below w1.heap.size w1 X:=zkO hh ho ht hu;have af:Below w.heap.size w X:=ad.trans (hX.mono ad.size);have ag:Below B X w2:=(yk _ _).grown hg (by have:=af.size;omega) (λk hk=>(aa.2.2.1.lt k hk).1);have ah:w2.ownsRow B 64 3 vr r.roads.length (zd r.roads.flatten):=
  (ze aa.2.2.2 hX).kept hg (zfh aa.2.2.2 aa.2.2.1 (by decide));rw[hx];have ab:w2.ownsRow B 62 5 v' (r.stops++[[a,b,c,d,e]]).length (zd (r.stops++[[a,b,c,d,e]]).flatten):=by
  rw[yz,yaP,zaY];simpa[zd] using ae
 refine⟨v',vr,rfl,⟨hr.1,?_,zaL ab ac (by decide) _,zaL ah ac (by decide) _⟩,?_,?_⟩
 ·rw[yw w2 rb 5 _ _ _ ac];rfl
 ·exact((af.mono ai).trans ag).setCell hr.1 _
 exact(((zZ.of_below ad).trans (zlW hh)).trans (zhZ (zZ.grown (T:=[62]) (ze aa.2.2.1 hX) (by simp) hg) (by decide))).trans (zhZ (e:=147) (zZ.setCell ac (by simp) _) (by decide))
theorem zuJ{r:Rd}{a b c:Int}(hh:r.head=true)(hlen:r.roads.length<40)(aa:zaZ a b c r.nodes=true):zat r a b c=({ r with roads:=r.roads++[[a,b,c]] },0):=by unfold zat;rw[ye (by simp[hh]),ye (by omega),yg aa]
theorem zsp{w w1 X w2:World}{o:Obj}{B rb:Nat}{r:Rd}{vs vr v':Value}{a b c:Int}(hg:X.grownBy w2 vr.ownBlock)(hr:zb1 w B rb r vs vr)(ad:Below w.heap.size w w1)(hh:X.heap=(w1.alloc o).heap)(ho:X.os=w1.os)(ht:X.tape=w1.tape)(hu:X.output=w1.output)(ae:w2.ownsRow B 64 3 v' (r.roads.length+1) (zd r.roads.flatten++[.int .i64 a,.int .i64 b,.int .i64 c]))(hx:zat r a b c=({ r with roads:=r.roads++[[a,b,c]] },0)):zbm w B rb (zat r a b c) (.returned (.int .i64 0)) (w2.setCell ⟨rb,6,none⟩ v'):=by
 have aa:=zei hr ad;have ac:=zg5 hg aa hh aa.2.2.2 (by decide);have ai:B<=w.heap.size:=by have:=(yc.1 hr.2.1).1;have:=hr.1;omega
 have hX:Below w1.heap.size w1 X:=zkO hh ho ht hu;have af:Below w.heap.size w X:=ad.trans (hX.mono ad.size);have ag:Below B X w2:=(yk _ _).grown hg (by have:=af.size;omega) (λk hk=>(aa.2.2.2.lt k hk).1);have ah:w2.ownsRow B 62 5 vs r.stops.length (zd r.stops.flatten):=
  (ze aa.2.2.1 hX).kept hg (zfh aa.2.2.1 aa.2.2.2 (by decide));rw[hx];have ab:w2.ownsRow B 64 3 v' (r.roads++[[a,b,c]]).length (zd (r.roads++[[a,b,c]]).flatten):=by
  rw[yz,yaP,zaY];simpa[zd] using ae
 refine⟨vs,v',rfl,⟨hr.1,?_,zaL ah ac (by decide) _,zaL ab ac (by decide) _⟩,?_,?_⟩
 ·rw[yw w2 rb 6 _ _ _ ac];rfl
 ·exact((af.mono ai).trans ag).setCell hr.1 _
 exact(((zZ.of_below ad).trans (zlW hh)).trans (zhZ (zZ.grown (T:=[64]) (ze aa.2.2.2 hX) (by simp) hg) (by decide))).trans (zhZ (e:=147) (zZ.setCell ac (by simp) _) (by decide))
theorem zvf(B rb g cap:Nat)(r:Rd)(vs vr:Value)(a b c:Int)(w:World)(hr:zb1 w B rb r vs vr)(hh:r.head=true)(af:r.roads.length<40)(al:zaZ a b c r.nodes=true)(hg:g<w.heap.size)(h0:w.cell? ⟨g,0,none⟩=some (.int .i64 a))(h1:w.cell? ⟨g,1,none⟩=some (.int .i64 b))(h2:w.cell? ⟨g,2,none⟩=some (.int .i64 c)):Calls Tryz.prog 135 #[.pointer (some ⟨rb,0,none⟩),.slice (some ⟨g,0,none⟩) 3 cap] w (zbm w B rb (zat r a b c)):=by
 obtain⟨c0,c1,c2,c3,c4,c5,c6,c7,aj,ak⟩:=zb9 hr;obtain⟨i0,hi,an,ao,ap⟩:=info_parts Tryz.infoRoad;obtain⟨ah,ad,rfl,_,_⟩:=zg hr.2.2.2;rw[hh] at c7;clear c0 c1 c2 c4 c5;go_in;go_wp2;go_region;go_wp2_with fail;go_region_with (go_at_call 138;refine(zfM _ _ _ _ _).mono ?_;rintro e1 w1⟨rfl,ai⟩)
 all_goals
  obtain⟨ae,hz,ac⟩:=zdF (w:=w) (cs:=#[.int .i64 a,.int .i64 b,.int .i64 c]) (t:=64) ai rfl rfl rfl rfl;clear ai;have b0:w1.cell? ⟨w.heap.size,0,none⟩=some (.int .i64 a):=ac 0;have b1:w1.cell? ⟨w.heap.size,1,none⟩=some (.int .i64 b):=ac 1;have b2:w1.cell? ⟨w.heap.size,2,none⟩=some (.int .i64 c):=ac 2;clear ac h0 h1 h2;have HR:=zB (zei hr ae);have HW:=zB ae;have HX:Hid (zat r a b c=({ r with roads:=r.roads++[[a,b,c]] },0)):=zuJ hh af al;have d5:w1.cell? ⟨rb,6,none⟩=some (.slice ah r.roads.length ad):=zc ae c6 ak;have hf5:w1.frozen? ⟨rb,6,none⟩=false:=(ae.frozen (by exact ak)).trans (aj 6);have ag:rb<w1.heap.size:=by omega
  clear ae c6 c7 c3 aj;go_wp2;go_region_law (refine zds rfl (.tmp 46) (.tmp 48) 26 rfl B 64 i0 (.agg #[.int .i64 0,.int .i64 0,.int .i64 0]) 3 24 Tryz.underlying26 hi an ao ap rfl (by decide) (.slice ah r.roads.length ad) r.roads.length (zd r.roads.flatten) (by simp[Act.eval]) (by exact zhW rfl HR.out.2.2.2 rfl) ⟨w1.heap.size,0,none⟩ 1 1 [.int .i64 a,.int .i64 b,.int .i64 c] (by simp[Act.eval]) rfl (by exact za0 rfl rfl) (by exact zuA _ _ _) (by unfold maxLen;omega) (by omega) (by exact zjs rfl HR.out.1 ag) ?_;intro v' w2 ab aa;have HO:=zB ab;have HG:=zB aa;obtain⟨g5,cap5,cur5,am,_,_,_⟩:=zF ab (by omega);clear ab aa;subst am;obtain⟨_,e5,_,f5⟩:=zgk (zg5 HG.out HR.out rfl HR.out.2.2.2 (by decide)))
  all_goals
   go_wp2;go_ret;exact zsp HG.out hr HW.out rfl rfl rfl rfl HO.out HX.out
theorem zuI(B rb g cap:Nat)(r:Rd)(vs vr:Value)(a b c d e:Int)(w:World)(hr:zb1 w B rb r vs vr)(hh:r.head=true)(af:r.stops.length<7)(al:zas a b c d e r.nodes=true)(hg:g<w.heap.size)(h0:w.cell? ⟨g,0,none⟩=some (.int .i64 a))(h1:w.cell? ⟨g,1,none⟩=some (.int .i64 b))(h2:w.cell? ⟨g,2,none⟩=some (.int .i64 c))(h3:w.cell? ⟨g,3,none⟩=some (.int .i64 d))(h4:w.cell? ⟨g,4,none⟩=some (.int .i64 e)):Calls Tryz.prog 134 #[.pointer (some ⟨rb,0,none⟩),.slice (some ⟨g,0,none⟩) 5 cap] w (zbm w B rb (zav r a b c d e)):=by
 obtain⟨c0,c1,c2,c3,c4,c5,c6,c7,aj,ak⟩:=zb9 hr;obtain⟨i0,hi,an,ao,ap⟩:=info_parts Tryz.infoStop;obtain⟨ah,ad,rfl,_,_⟩:=zg hr.2.2.1;rw[hh] at c7;clear c0 c1 c2 c4 c6;go_in;go_wp2;go_region;go_wp2_with fail;go_region_with (go_at_call 137;refine(zfF _ _ _ _ _ _ _).mono ?_;rintro e1 w1⟨rfl,ai⟩)
 all_goals
  obtain⟨ae,hz,aa⟩:=zdF (w:=w) (cs:=#[.int .i64 a,.int .i64 b,.int .i64 c,.int .i64 d,.int .i64 e]) (t:=62) ai rfl rfl rfl rfl;clear ai;have b0:w1.cell? ⟨w.heap.size,0,none⟩=some (.int .i64 a):=aa 0;have b1:w1.cell? ⟨w.heap.size,1,none⟩=some (.int .i64 b):=aa 1;have b2:w1.cell? ⟨w.heap.size,2,none⟩=some (.int .i64 c):=aa 2;have b3:w1.cell? ⟨w.heap.size,3,none⟩=some (.int .i64 d):=aa 3;have b4:w1.cell? ⟨w.heap.size,4,none⟩=some (.int .i64 e):=aa 4;clear aa h0 h1 h2 h3 h4;have HR:=zB (zei hr ae);have HW:=zB ae;have HX:Hid (zav r a b c d e=({ r with stops:=r.stops++[[a,b,c,d,e]] },0)):=zu9 hh af al;have d5:w1.cell? ⟨rb,5,none⟩=some (.slice ah r.stops.length ad):=zc ae c5 ak;have hf5:w1.frozen? ⟨rb,5,none⟩=false:=(ae.frozen (by exact ak)).trans (aj 5);have ag:rb<w1.heap.size:=by omega
  clear ae c5 c7 c3 aj;go_wp2;go_region_law (refine zds rfl (.tmp 52) (.tmp 54) 25 rfl B 62 i0 (.agg #[.int .i64 0,.int .i64 0,.int .i64 0,.int .i64 0,.int .i64 0]) 5 40 Tryz.underlying25 hi an ao ap rfl (by decide) (.slice ah r.stops.length ad) r.stops.length (zd r.stops.flatten) (by simp[Act.eval]) (by exact zhW rfl HR.out.2.2.1 rfl) ⟨w1.heap.size,0,none⟩ 1 1 [.int .i64 a,.int .i64 b,.int .i64 c,.int .i64 d,.int .i64 e] (by simp[Act.eval]) rfl (by exact za0 rfl rfl) (by exact zus _ _ _ _ _) (by unfold maxLen;omega) (by omega) (by exact zjs rfl HR.out.1 ag) ?_;intro v' w2 ac ab;have HO:=zB ac;have HG:=zB ab;obtain⟨g5,cap5,cur5,am,_,_,_⟩:=zF ac (by omega);clear ac ab;subst am;obtain⟨e5,_,f5,_⟩:=zgk (zg5 HG.out HR.out rfl HR.out.2.2.1 (by decide)))
  all_goals
   go_wp2;go_ret;exact zsF HG.out hr HW.out rfl rfl rfl rfl HO.out HX.out
theorem ztG(B rb g cap:Nat)(r:Rd)(vs vr:Value)(a b c d e:Int)(w:World)(hr:zb1 w B rb r vs vr)(hh:r.head=true)(hlen:r.stops.length<7)(ad:zas a b c d e r.nodes=false)(hg:g<w.heap.size)(h0:w.cell? ⟨g,0,none⟩=some (.int .i64 a))(h1:w.cell? ⟨g,1,none⟩=some (.int .i64 b))(h2:w.cell? ⟨g,2,none⟩=some (.int .i64 c))(h3:w.cell? ⟨g,3,none⟩=some (.int .i64 d))(h4:w.cell? ⟨g,4,none⟩=some (.int .i64 e)):Calls Tryz.prog 134 #[.pointer (some ⟨rb,0,none⟩),.slice (some ⟨g,0,none⟩) 5 cap] w (zbm w B rb (zav r a b c d e)):=by
 obtain⟨c0,c1,c2,c3,c4,c5,c6,c7,hfz,hrl⟩:=zb9 hr;obtain⟨aos,caps,rfl,_,_⟩:=zg hr.2.2.1;rw[hh] at c7;clear c0 c1 c2 c4 c6;go_in;go_wp2;go_region;go_wp2_with fail;go_region_with (go_at_call 137;refine(zfF _ _ _ _ _ _ _).mono ?_;rintro e1 w1⟨rfl,ab⟩)
 all_goals
  obtain⟨ac,hz,aa⟩:=zdF (w:=w) (cs:=#[.int .i64 a,.int .i64 b,.int .i64 c,.int .i64 d,.int .i64 e]) (t:=62) ab rfl rfl rfl rfl;clear ab aa;have HW:=zB ac;clear ac;go_wp2;go_ret;exact zaq hr HW.out (by unfold zav;rw[ye (by simp[hh]),ye (by omega),ye (by simp[ad])])
theorem zqM(B rb cap:Nat)(ao:Option Addr)(r:Rd)(vs vr:Value)(x:Rd×Int)(w:World)(hr:zb1 w B rb r vs vr)(hh:r.head=true)(hlen:7<=r.stops.length)(hlm:r.stops.length<=1000000)(hx:x=(r,3)):Calls Tryz.prog 134 #[.pointer (some ⟨rb,0,none⟩),.slice ao 5 cap] w (zbm w B rb x):=by obtain⟨c0,c1,c2,c3,c4,c5,c6,c7,hfz,hrl⟩:=zb9 hr;obtain⟨aos,caps,rfl,_,_⟩:=zg hr.2.2.1;rw[hh] at c7;clear c0 c1 c2 c4 c6;go_in;go_wp2;go_ret;exact zaq hr (yk _ _) hx
theorem zlD(B rb n cap:Nat)(ao:Option Addr)(r:Rd)(vs vr:Value)(x:Rd×Int)(w:World)(hr:zb1 w B rb r vs vr)(hx:x=(r,2))(aa:r.head=false\/n≠5):Calls Tryz.prog 134 #[.pointer (some ⟨rb,0,none⟩),.slice ao n cap] w (zbm w B rb x):=by
 obtain⟨c0,c1,c2,c3,c4,c5,c6,c7,hfz,hrl⟩:=zb9 hr;clear c0 c1 c2 c3 c4 c5 c6;cases hh:r.head
 ·rw[hh] at c7;go_in;go_wp2;go_ret;exact zaq hr (yk _ _) hx
 rw[hh] at c7;have hn:((n:Int) != 5)=true:=by
  rw[ybH];rcases aa with h|h
  ·rw[hh] at h;cases h
  omega
 go_in;go_wp2;go_ret;exact zaq hr (yk _ _) hx
theorem zte(B rb g cap:Nat)(r:Rd)(vs vr:Value)(a b c:Int)(w:World)(hr:zb1 w B rb r vs vr)(hh:r.head=true)(hlen:r.roads.length<40)(ad:zaZ a b c r.nodes=false)(hg:g<w.heap.size)(h0:w.cell? ⟨g,0,none⟩=some (.int .i64 a))(h1:w.cell? ⟨g,1,none⟩=some (.int .i64 b))(h2:w.cell? ⟨g,2,none⟩=some (.int .i64 c)):Calls Tryz.prog 135 #[.pointer (some ⟨rb,0,none⟩),.slice (some ⟨g,0,none⟩) 3 cap] w (zbm w B rb (zat r a b c)):=by
 obtain⟨c0,c1,c2,c3,c4,c5,c6,c7,hfz,hrl⟩:=zb9 hr;obtain⟨aos,caps,rfl,_,_⟩:=zg hr.2.2.2;rw[hh] at c7;clear c0 c1 c2 c4 c5;go_in;go_wp2;go_region;go_wp2_with fail;go_region_with (go_at_call 138;refine(zfM _ _ _ _ _).mono ?_;rintro e1 w1⟨rfl,ab⟩)
 all_goals
  obtain⟨ac,hz,aa⟩:=zdF (w:=w) (cs:=#[.int .i64 a,.int .i64 b,.int .i64 c]) (t:=64) ab rfl rfl rfl rfl;clear ab aa;have HW:=zB ac;clear ac;go_wp2;go_ret;exact zaq hr HW.out (by unfold zat;rw[ye (by simp[hh]),ye (by omega),ye (by simp[ad])])
theorem zsV(B rb cap:Nat)(ao:Option Addr)(r:Rd)(vs vr:Value)(x:Rd×Int)(w:World)(hr:zb1 w B rb r vs vr)(hh:r.head=true)(hlen:40<=r.roads.length)(hlm:r.roads.length<=1000000)(hx:x=(r,3)):Calls Tryz.prog 135 #[.pointer (some ⟨rb,0,none⟩),.slice ao 3 cap] w (zbm w B rb x):=by obtain⟨c0,c1,c2,c3,c4,c5,c6,c7,hfz,hrl⟩:=zb9 hr;obtain⟨aos,caps,rfl,_,_⟩:=zg hr.2.2.2;rw[hh] at c7;clear c0 c1 c2 c4 c5;go_in;go_wp2;go_ret;exact zaq hr (yk _ _) hx
theorem zlI(B rb n cap:Nat)(ao:Option Addr)(r:Rd)(vs vr:Value)(x:Rd×Int)(w:World)(hr:zb1 w B rb r vs vr)(hx:x=(r,2))(aa:r.head=false\/n≠3):Calls Tryz.prog 135 #[.pointer (some ⟨rb,0,none⟩),.slice ao n cap] w (zbm w B rb x):=by
 obtain⟨c0,c1,c2,c3,c4,c5,c6,c7,hfz,hrl⟩:=zb9 hr;clear c0 c1 c2 c3 c4 c5 c6;cases hh:r.head
 ·rw[hh] at c7;go_in;go_wp2;go_ret;exact zaq hr (yk _ _) hx
 rw[hh] at c7;have hn:((n:Int) != 3)=true:=by
  rw[ybH];rcases aa with h|h
  ·rw[hh] at h;cases h
  omega
 go_in;go_wp2;go_ret;exact zaq hr (yk _ _) hx
def zc4(r:Rd):Prop:=r.stops.length<=7/\r.roads.length<=40
theorem ziL{w:World}{B n:Nat}{v:Value}{zs:List Int}(h:w.ownsRow B 3 1 v n (zd zs))(hn:zs.length=n)(aa:v≠.slice none 0 0):∃g cap,v=.slice (some ⟨g,0,none⟩) n cap/\g<w.heap.size/\∀i,i<n->w.cell? ⟨g,i,none⟩=some (.int .i64 (zs.getD i 0)):=by
 rcases h.2 with ⟨h0,_⟩|⟨g,cap,cur,rfl,_,hg,_⟩
 ·exact absurd h0 aa
 refine⟨g,cap,rfl,(yc.1 hg).1,λi hi=>?_⟩;rw[h.cellAt i (by omega)];simp[zd,show i<zs.length by omega]
theorem zku(B rb n:Nat)(r:Rd)(vs vr v:Value)(zs:List Int)(B':Nat)(w:World)(hr:zb1 w B rb r vs vr)(hn:zs.length=n)(aa:w.ownsRow B' 3 1 v n (zd zs))(ab:v≠.slice none 0 0):Calls Tryz.prog 133 #[.pointer (some ⟨rb,0,none⟩),v] w (zbm w B rb (zae r [68] zs)):=by
 obtain⟨g,cap,rfl,hg,hc⟩:=ziL aa hn ab;by_cases h5:n=5
 ·subst h5
  match zs,hn with
  | [a,b,c,d,e],_=>
   have hx:zae r [68] [a,b,c,d,e]=zaw r a b c d e:=by simp[zae]
   rw[hx];cases hh:r.head
   ·cases hok:zaK a b c d e
    ·exact zqB B rb g cap r vs vr a b c d e w hr hh hok hg (hc 0 (by omega)) (hc 1 (by omega)) (hc 2 (by omega)) (hc 3 (by omega)) (hc 4 (by omega))
    exact zt2 B rb g cap r vs vr a b c d e w hr hh hok hg (hc 0 (by omega)) (hc 1 (by omega)) (hc 2 (by omega)) (hc 3 (by omega)) (hc 4 (by omega))
   exact zko B rb 5 cap _ r vs vr _ w hr (by simp[zaw,hh]) (Or.inl hh)
 refine zko B rb n cap _ r vs vr _ w hr ?_ (Or.inr h5);unfold zae;rw[yg rfl];split
 ·simp at hn;omega
 rfl
theorem zmP(B rb n:Nat)(r:Rd)(vs vr v:Value)(zs:List Int)(B':Nat)(w:World)(hr:zb1 w B rb r vs vr)(hf:zc4 r)(hn:zs.length=n)(aa:w.ownsRow B' 3 1 v n (zd zs))(ab:v≠.slice none 0 0):Calls Tryz.prog 134 #[.pointer (some ⟨rb,0,none⟩),v] w (zbm w B rb (zae r [83] zs)):=by
 obtain⟨g,cap,rfl,hg,hc⟩:=ziL aa hn ab;have hfl:=hf.1;by_cases h5:n=5
 ·subst h5
  match zs,hn with
  | [a,b,c,d,e],_=>
   have hx:zae r [83] [a,b,c,d,e]=zav r a b c d e:=by simp[zae]
   rw[hx];cases hh:r.head
   ·exact zlD B rb 5 cap _ r vs vr _ w hr (by simp[zav,hh]) (Or.inl hh)
   by_cases hl:7<=r.stops.length
   ·exact zqM B rb cap _ r vs vr _ w hr hh hl (by omega) (by simp[zav,hh,hl])
   cases hok:zas a b c d e r.nodes
   ·exact ztG B rb g cap r vs vr a b c d e w hr hh (by omega) hok hg (hc 0 (by omega)) (hc 1 (by omega)) (hc 2 (by omega)) (hc 3 (by omega)) (hc 4 (by omega))
   exact zuI B rb g cap r vs vr a b c d e w hr hh (by omega) hok hg (hc 0 (by omega)) (hc 1 (by omega)) (hc 2 (by omega)) (hc 3 (by omega)) (hc 4 (by omega))
 refine zlD B rb n cap _ r vs vr _ w hr ?_ (Or.inr h5);unfold zae;rw[ye (by decide),yg rfl];split
 ·simp at hn;omega
 rfl
theorem zmh(B rb n:Nat)(r:Rd)(vs vr v:Value)(zs:List Int)(B':Nat)(w:World)(hr:zb1 w B rb r vs vr)(hf:zc4 r)(hn:zs.length=n)(aa:w.ownsRow B' 3 1 v n (zd zs))(ab:v≠.slice none 0 0):Calls Tryz.prog 135 #[.pointer (some ⟨rb,0,none⟩),v] w (zbm w B rb (zae r [82] zs)):=by
 obtain⟨g,cap,rfl,hg,hc⟩:=ziL aa hn ab;have hfl:=hf.2;by_cases h5:n=3
 ·subst h5
  match zs,hn with
  | [a,b,c],_=>
   have hx:zae r [82] [a,b,c]=zat r a b c:=by simp[zae]
   rw[hx];cases hh:r.head
   ·exact zlI B rb 3 cap _ r vs vr _ w hr (by simp[zat,hh]) (Or.inl hh)
   by_cases hl:40<=r.roads.length
   ·exact zsV B rb cap _ r vs vr _ w hr hh hl (by omega) (by simp[zat,hh,hl])
   cases hok:zaZ a b c r.nodes
   ·exact zte B rb g cap r vs vr a b c w hr hh (by omega) hok hg (hc 0 (by omega)) (hc 1 (by omega)) (hc 2 (by omega))
   exact zvf B rb g cap r vs vr a b c w hr hh (by omega) hok hg (hc 0 (by omega)) (hc 1 (by omega)) (hc 2 (by omega))
 refine zlI B rb n cap _ r vs vr _ w hr ?_ (Or.inr h5);unfold zae;rw[ye (by decide),ye (by decide),yg rfl];split
 ·simp at hn;omega
 rfl
theorem zdK{w w2 w3:World}{B rb:Nat}{r:Rd}{vs vr:Value}{x:Rd×Int}{e:Ending}(hr:zb1 w B rb r vs vr)(hb:Below w.heap.size w w2)(h:zbm w2 B rb x e w3):zbm w B rb x e w3:=by obtain⟨ae,ad,he,ac,aa,ab⟩:=h;exact⟨ae,ad,he,ac,(hb.mono (by have:=hr.1;have:=(yc.1 hr.2.1).1;omega)).trans aa,(zZ.of_below hb).trans ab⟩
theorem zkx(l:List UInt8):∀st:List (List UInt8)×List UInt8,(l.foldl zb6 st).1.length+(l.foldl zb6 st).2.length<=st.1.length+st.2.length+l.length /\(∀m,(∀f∈st.1,f.length<=m)->st.2.length<=m->(∀f∈(l.foldl zb6 st).1,f.length<=m+l.length)/\(l.foldl zb6 st).2.length<=m+l.length):=by
 induction l with
 | nil=>intro st;exact⟨by simp,λm h1 h2=>⟨by simpa using h1,by simpa using h2⟩⟩
 | cons x t ih=>
  intro st;obtain⟨a,b⟩:=ih (zb6 st x);have hs:(zb6 st x).1.length+(zb6 st x).2.length<=st.1.length+st.2.length+1:=by
   unfold zb6;split
   ·split
    ·simp;omega
    rename_i h;have:st.2.length≠0:=by simpa using h
    simp only[yz,yJ,yay];omega
   simp<;>omega
  refine⟨by simp only[yae,yJ];omega,λm h1 h2=>?_⟩;have aa:(∀f∈(zb6 st x).1,f.length<=m+1)/\(zb6 st x).2.length<=m+1:=by
   unfold zb6;split
   ·split
    ·exact⟨λf hf=>by have:=h1 f hf;omega,by simp⟩
    refine⟨λf hf=>?_,by simp⟩;simp only[yH,yaj] at hf;rcases hf with hf|rfl
    ·have:=h1 f hf;omega
    omega
   exact⟨λf hf=>by have:=h1 f hf;omega,by simp;omega⟩
  have:=b (m+1) aa.1 aa.2;simp only[yae,yJ];exact⟨λf hf=>by have:=this.1 f hf;omega,by have:=this.2;omega⟩
theorem zij(l:List UInt8):∀f∈zcR l,f.length<=l.length:=by
 have h:=(zkx l ([],[])).2 0 (by simp) (by simp);intro f hf;unfold zcR at hf;split at hf
 ·have:=h.1 f hf;omega
 simp only[yH,yaj] at hf;rcases hf with hf|rfl
 ·have:=h.1 f hf;omega
 have:=h.2;unfold spf;omega
theorem zjA(l:List UInt8):(zcR l).length<=l.length:=by
 have h:=(zkx l ([],[])).1;unfold zcR spf;split
 ·simp at h;omega
 rename_i aa;have:(l.foldl zb6 ([],[])).2.length≠0:=by simpa[spf] using aa
 simp at h⊢;omega
theorem zqy(B rb:Nat)(s:ByteArray)(r:Rd)(vs vr:Value)(w:World)(hr:zb1 w B rb r vs vr)(hf:zc4 r)(hs:s.size<=2000):Calls Tryz.prog 80 #[.pointer (some ⟨rb,0,none⟩),.string s] w (zbm w B rb (zW r s.data.toList)):=by
 cases hfl:zcR s.data.toList with
 | nil=>
  have hx:zW r s.data.toList=(r,0):=by simp[zW,hfl]
  have HX:=zB hx;clear hx;have ab:=zje s w (by omega);rw[hfl] at ab;have HC:=zB ab;clear ab hfl;go_in;go_wp2_with fail;refine HC.out.mono ?_;rintro e1 w1⟨v,rfl,ae,ap⟩;obtain⟨ao,cap,rfl,_,_⟩:=zg ae;go_wp2;go_ret;exact zaq hr ap HX.out
 | cons f fs=>
  have ab:=zje s w (by omega);rw[hfl] at ab;have HC:=zB ab;clear ab;have au:=zjA s.data.toList;have aC:=zij s.data.toList;rw[hfl] at au aC;have hn:fs.length<=2000:=by simp at au;omega
  have aE:=zB aC;have hx:zW r s.data.toList=if fs.all zy=true then zae r f (fs.map zai) else (r,2):=by simp only[zW,hfl]
  have HX:=zB hx;clear au aC hx hfl;go_in;go_wp2_with fail;refine HC.out.mono ?_;rintro e1 w1⟨v,rfl,ae,ap⟩;obtain⟨g,cap,cur,rfl,_,hg,aA⟩:=zF ae (by simp);have aB:g<w1.heap.size:=(yc.1 hg).1;have ac:w1.cell? ⟨g,0,none⟩=some (.string ⟨f.toArray⟩):=by rw[ae.cellAt 0 (by simp)];rfl
  clear hg HC;simp only[yJ] at aA;have HO:=zB ae;have HB:=zB ap;clear ae ap;have ah:∀i,i<fs.length->w1.cell? ⟨g,1+i,none⟩=some (.string ⟨(fs.getD i []).toArray⟩):=by intro i hi;rw[HO.out.cellAt (1+i) (by simp;omega),Nat.add_comm 1 i];simp[zbE,hi]
  have aD:=zB ah;clear ah;have av:∀(o c n:Nat),fs.length=n->(∀t,t<n->w1.cell? ⟨g,o+t,none⟩=some (.string ⟨(fs.getD t []).toArray⟩)) ->Calls Tryz.prog 132 #[.slice (some ⟨g,o,none⟩) n c] w1 λe w'=>∃v,e=.returned (.tuple #[v,.bool (fs.all zy)])/\(fs.all zy=true->w'.ownsRow w1.heap.size 3 1 v fs.length (zd (fs.map zai))/\v≠.slice none 0 0)/\Below w1.heap.size w1 w':=by intro o c n aH aG;subst aH;exact zmU g o c fs w1 (by omega) (λl hl=>by have:=aE.out l (by simp[hl]);simp at this;omega) aB aG
  have HN:=zB av;clear av;cases hall:fs.all zy
  ·have af:Hid (zW r s.data.toList=(r,2)):=by show _=_;rw[HX.out,hall];rfl
   rw[hall] at HN;clear hall HX;by_cases h1:cap=1
   ·subst h1;go_wp2_with fail;refine(HN.out 0 _ 0 (by omega) (λt ht=>by omega)).mono ?_;rintro e2 w2⟨v2,rfl,_,ad⟩;go_wp2;go_ret;exact zaq hr (HB.out.trans (ad.mono HB.out.size)) af.out
   go_wp2_with fail;refine(HN.out 1 _ _ rfl aD.out).mono ?_;rintro e2 w2⟨v2,rfl,_,ad⟩;go_wp2;go_ret;exact zaq hr (HB.out.trans (ad.mono HB.out.size)) af.out
  have af:Hid (zW r s.data.toList=zae r f (fs.map zai)):=by show _=_;rw[HX.out,hall];rfl
  rw[hall] at HN;clear hall HX;by_cases h1:cap=1
  ·subst h1;go_wp2_with fail;refine(HN.out 0 _ 0 (by omega) (λt ht=>by omega)).mono ?_;rintro e2 w2⟨v2,rfl,aj,ad⟩;have aa:=zB (aj trivial);clear aj;obtain⟨aF,az,rfl,_,_⟩:=zg aa.out.1;have ar:w2.cell? ⟨g,0,none⟩=some (.string ⟨f.toArray⟩):=zc ad ac aB;have aq:=zB (zei hr (HB.out.trans (ad.mono HB.out.size)));have an:=zB (HB.out.trans (ad.mono HB.out.size));clear ad ac;by_cases f1:f=[68]
   ·have e1:(f==[68])=true:=by rw[f1];rfl
    have HF:=zB f1;clear f1;go_wp2_with fail;refine(zku B rb _ r vs vr _ (fs.map zai) _ _ aq.out (by simp) aa.out.1 aa.out.2).mono ?_;rintro e3 w3⟨am,al,rfl,ak,ag,ai⟩;go_wp2;go_ret;rw[af.out,HF.out];exact zdK hr an.out ⟨am,al,rfl,ak,ag,ai⟩
   have e1:(f==[68])=false:=yO.2 f1;have aw:=zB f1;clear f1;by_cases f2:f=[83]
   ·have e2:(f==[83])=true:=by rw[f2];rfl
    have HF:=zB f2;clear f2;go_wp2_with fail;refine(zmP B rb _ r vs vr _ (fs.map zai) _ _ aq.out hf (by simp) aa.out.1 aa.out.2).mono ?_;rintro e3 w3⟨am,al,rfl,ak,ag,ai⟩;go_wp2;go_ret;rw[af.out,HF.out];exact zdK hr an.out ⟨am,al,rfl,ak,ag,ai⟩
   have e2:(f==[83])=false:=yO.2 f2;have ax:=zB f2;clear f2;by_cases f3:f=[82]
   ·have e3:(f==[82])=true:=by rw[f3];rfl
    have HF:=zB f3;clear f3;go_wp2_with fail;refine(zmh B rb _ r vs vr _ (fs.map zai) _ _ aq.out hf (by simp) aa.out.1 aa.out.2).mono ?_;rintro e3 w3⟨am,al,rfl,ak,ag,ai⟩;go_wp2;go_ret;rw[af.out,HF.out];exact zdK hr an.out ⟨am,al,rfl,ak,ag,ai⟩
   have e3:(f==[82])=false:=yO.2 f3;have ay:=zB f3;clear f3;go_wp2;go_ret;exact zaq hr an.out (by rw[af.out];unfold zae;rw[ye aw.out,ye ax.out,ye ay.out])
  go_wp2_with fail;refine(HN.out 1 _ _ rfl aD.out).mono ?_;rintro e2 w2⟨v2,rfl,aj,ad⟩;have aa:=zB (aj trivial);clear aj;obtain⟨aF,az,rfl,_,_⟩:=zg aa.out.1;have ar:w2.cell? ⟨g,0,none⟩=some (.string ⟨f.toArray⟩):=zc ad ac aB;have aq:=zB (zei hr (HB.out.trans (ad.mono HB.out.size)));have an:=zB (HB.out.trans (ad.mono HB.out.size));clear ad ac;by_cases f1:f=[68]
  ·have e1:(f==[68])=true:=by rw[f1];rfl
   have HF:=zB f1;clear f1;go_wp2_with fail;refine(zku B rb _ r vs vr _ (fs.map zai) _ _ aq.out (by simp) aa.out.1 aa.out.2).mono ?_;rintro e3 w3⟨am,al,rfl,ak,ag,ai⟩;go_wp2;go_ret;rw[af.out,HF.out];exact zdK hr an.out ⟨am,al,rfl,ak,ag,ai⟩
  have e1:(f==[68])=false:=yO.2 f1;have aw:=zB f1;clear f1;by_cases f2:f=[83]
  ·have e2:(f==[83])=true:=by rw[f2];rfl
   have HF:=zB f2;clear f2;go_wp2_with fail;refine(zmP B rb _ r vs vr _ (fs.map zai) _ _ aq.out hf (by simp) aa.out.1 aa.out.2).mono ?_;rintro e3 w3⟨am,al,rfl,ak,ag,ai⟩;go_wp2;go_ret;rw[af.out,HF.out];exact zdK hr an.out ⟨am,al,rfl,ak,ag,ai⟩
  have e2:(f==[83])=false:=yO.2 f2;have ax:=zB f2;clear f2;by_cases f3:f=[82]
  ·have e3:(f==[82])=true:=by rw[f3];rfl
   have HF:=zB f3;clear f3;go_wp2_with fail;refine(zmh B rb _ r vs vr _ (fs.map zai) _ _ aq.out hf (by simp) aa.out.1 aa.out.2).mono ?_;rintro e3 w3⟨am,al,rfl,ak,ag,ai⟩;go_wp2;go_ret;rw[af.out,HF.out];exact zdK hr an.out ⟨am,al,rfl,ak,ag,ai⟩
  have e3:(f==[82])=false:=yO.2 f3;have ay:=zB f3;clear f3;go_wp2;go_ret;exact zaq hr an.out (by rw[af.out];unfold zae;rw[ye aw.out,ye ax.out,ye ay.out])
def zap(r:Rd)(vs vr:Value):Value:=.agg #[.int .i64 r.vans,.int .i64 r.load,.int .i64 r.close,.int .i64 r.nodes,.int .i64 r.home,vs,vr]
def zfa(w:World)(x:Rd×Nat×Int)(e:Ending)(w':World):Prop:=∃vs vr,e=.returned (.tuple #[zap x.1 vs vr,.int .i64 x.2.1,.int .i64 x.2.2])/\w'.ownsRow w.heap.size 62 5 vs x.1.stops.length (zd x.1.stops.flatten)/\w'.ownsRow w.heap.size 64 3 vr x.1.roads.length (zd x.1.roads.flatten)/\Below w.heap.size w w'
def zaS:Array Value:=#[.int .i64 0,.int .i64 0,.int .i64 0,.int .i64 0,.int .i64 0,.slice none 0 0,.slice none 0 0]
theorem zgg{w:World}{b:Nat}(h:w.heap[b]?=some (.cells zaS 28 (0,0))):w.cell? ⟨b,0,none⟩=some (.int .i64 0)/\w.cell? ⟨b,1,none⟩=some (.int .i64 0)/\w.cell? ⟨b,2,none⟩=some (.int .i64 0)/\w.cell? ⟨b,3,none⟩=some (.int .i64 0)/\w.cell? ⟨b,4,none⟩=some (.int .i64 0)/\w.cell? ⟨b,5,none⟩=some (.slice none 0 0)/\w.cell? ⟨b,6,none⟩=some (.slice none 0 0)/\∀o,w.frozen? ⟨b,o,none⟩=false:=by refine⟨?_,?_,?_,?_,?_,?_,?_,λo=>yv w b o _ _ h⟩<;>(rw[yi w b _ _ _ _ h];rfl)
theorem zkR(c:UInt8)(l:List UInt8):∀st:List (List UInt8)×List UInt8,(l.foldl (zaT c) st).1.length<=st.1.length+l.length /\(∀m,(∀f∈st.1,f.length<=m)->st.2.length<=m->(∀f∈(l.foldl (zaT c) st).1,f.length<=m+l.length)/\(l.foldl (zaT c) st).2.length<=m+l.length):=by
 induction l with
 | nil=>intro st;exact⟨by simp,λm h1 h2=>⟨by simpa using h1,by simpa using h2⟩⟩
 | cons x t ih=>
  intro st;obtain⟨a,b⟩:=ih (zaT c st x);have hs:(zaT c st x).1.length<=st.1.length+1:=by unfold zaT;split<;>simp
  refine⟨by simp only[yae,yJ];omega,λm h1 h2=>?_⟩;have aa:(∀f∈(zaT c st x).1,f.length<=m+1)/\(zaT c st x).2.length<=m+1:=by
   unfold zaT;split
   ·refine⟨λf hf=>?_,by simp⟩;simp only[yH,yaj] at hf;rcases hf with hf|rfl
    ·have:=h1 f hf;omega
    omega
   exact⟨λf hf=>by have:=h1 f hf;omega,by simp;omega⟩
  have:=b (m+1) aa.1 aa.2;simp only[yae,yJ];exact⟨λf hf=>by have:=this.1 f hf;omega,by have:=this.2;omega⟩
theorem zft(c:UInt8)(l:List UInt8):∀f∈zD c l,f.length<=l.length:=by
 have h:=(zkR c l ([],[])).2 0 (by simp) (by simp);intro f hf;unfold zD at hf;simp only[yH,yaj] at hf;rcases hf with hf|rfl
 ·have:=h.1 f hf;omega
 have:=h.2;unfold spl;omega
theorem zhB(c:UInt8)(l:List UInt8):(zD c l).length<=l.length+1:=by have h:=(zkR c l ([],[])).1;unfold zD spl;simp at h⊢;omega
theorem zii{r:Rd}(h:zc4 r)(f:List UInt8)(vs:List Int):zc4 (zae r f vs).1:=by
 have hd:∀a b c d e,zc4 (zaw r a b c d e).1:=by
  intro a b c d e;unfold zaw;split
  ·exact h
  split
  ·exact⟨by simp,by simp⟩
  exact h
 have ab:∀a b c d e,zc4 (zav r a b c d e).1:=by
  intro a b c d e;unfold zav;split
  ·exact h
  split
  ·exact h
  split
  ·exact⟨by simp;omega,h.2⟩
  exact h
 have aa:∀a b c,zc4 (zat r a b c).1:=by
  intro a b c;unfold zat;split
  ·exact h
  split
  ·exact h
  split
  ·exact⟨h.1,by simp;omega⟩
  exact h
 unfold zae;split
 ·split
  ·exact hd _ _ _ _ _
  exact h
 split
 ·split
  ·exact ab _ _ _ _ _
  exact h
 split
 ·split
  ·exact aa _ _ _
  exact h
 exact h
theorem zno{r:Rd}(h:zc4 r)(l:List UInt8):zc4 (zW r l).1:=by
 unfold zW;split
 ·exact h
 split
 ·exact zii h _ _
 exact h
theorem zhj{r:Rd}{k:Nat}{ls:List (List UInt8)}(h:k<ls.length)(he:(zW r ls[k]).2=0):zbr r k (ls.drop k)=zbr (zW r ls[k]).1 (k+1) (ls.drop (k+1)):=by rw[yac h];show (if _ then _ else _)=_;rw[yg he]
theorem zhF{r:Rd}{k:Nat}{ls:List (List UInt8)}(h:k<ls.length)(he:(zW r ls[k]).2≠0):zbr r k (ls.drop k)=(Rd0,k+1,(zW r ls[k]).2):=by rw[yac h];show (if _ then _ else _)=_;rw[ye he]
theorem zlp{r:Rd}{k:Nat}{ls:List (List UInt8)}(h:ls.length<=k):zbr r k (ls.drop k)=(r,0,0):=by rw[ybB h];rfl
theorem zge{l:List UInt8}{k:Nat}{e:Int}(hl:l.length<=2000)(h:zbr Rd0 0 (zD 10 l)=(Rd0,k,e))(he:e≠0):zv l=(Rd0,k,e):=by unfold zv;rw[ye (by omega),h,ye he]
theorem zmE{l:List UInt8}{r:Rd}(hl:l.length<=2000)(h:zbr Rd0 0 (zD 10 l)=(r,0,0))(hh:r.head=true):zv l=(r,0,0):=by unfold zv;rw[ye (by omega),h,yg rfl,yg hh]
theorem zji{l:List UInt8}{r:Rd}(hl:l.length<=2000)(h:zbr Rd0 0 (zD 10 l)=(r,0,0))(hh:r.head=false):zv l=(Rd0,(zD 10 l).length,2):=by unfold zv;rw[ye (by omega),h,yg rfl,ye (by simp[hh])]
def zpJ(w wr:World)(r:Rd)(vs vr:Value):Prop:=zb1 wr w.heap.size (w.heap.size+1) r vs vr/\wr.heap[w.heap.size]?=some (.cells zaS 28 (0,0))/\Below w.heap.size w wr
theorem znW{w wr w2:World}{r:Rd}{vs vr:Value}{x:Rd×Int}{e:Ending}{B n:Nat}{v:Value}{xs:List Value}(h:zpJ w wr r vs vr)(hl:zbm wr w.heap.size (w.heap.size+1) x e w2)(hv:wr.ownsRow B 9 1 v n xs):∃ab aa,zpJ w w2 x.1 ab aa/\w2.ownsRow B 9 1 v n xs:=by obtain⟨ab,aa,_,h1,h2,h3⟩:=hl;exact⟨ab,aa,⟨h1,h3 _ _ _ _ h.2.1 (by decide),h.2.2.trans h2⟩,zcs hv h3 (by decide)⟩
theorem zcS{w w':World}{k:Nat}{e:Int}{x:Rd×Nat×Int}(hx:x=(Rd0,k,e))(h:Below w.heap.size w w'):zfa w x (.returned (.tuple #[.agg zaS,.int .i64 k,.int .i64 e])) w':=by subst hx;exact⟨.slice none 0 0,.slice none 0 0,rfl,yC _ _ _ _,yC _ _ _ _,h⟩
theorem zbb(B b:Nat)(w:World)(hB:B<=b)(u0 u1 u2 u3 u4 u5 u6:Value):Below B w (((((((w.setCell ⟨b,0,none⟩ u0).setCell ⟨b,1,none⟩ u1).setCell ⟨b,2,none⟩ u2).setCell ⟨b,3,none⟩ u3).setCell ⟨b,4,none⟩ u4).setCell ⟨b,5,none⟩ u5).setCell ⟨b,6,none⟩ u6):=(((((((yk B w).setCell hB u0).setCell hB u1).setCell hB u2).setCell hB u3).setCell hB u4).setCell hB u5).setCell hB u6
theorem zcv{w:World}{b:Nat}{cs:Array Value}{t:TypeId}(hb:w.heap[b]?=some (.cells cs t (0,0))){B n size:Nat}{e:TypeId}{v:Value}{xs:List Value}(h:w.ownsRow B e size v n xs)(he:e≠t){u0 u1 u2 u3 u4 u5 u6:Value}:(((((((w.setCell ⟨b,0,none⟩ u0).setCell ⟨b,1,none⟩ u1).setCell ⟨b,2,none⟩ u2).setCell ⟨b,3,none⟩ u3).setCell ⟨b,4,none⟩ u4).setCell ⟨b,5,none⟩ u5).setCell ⟨b,6,none⟩ u6).ownsRow B e size v n xs:=by have h1:=zaL (o:=0) h hb he u0;have k1:=yw w b 0 _ _ u0 hb;have h2:=zaL (o:=1) h1 k1 he u1;have k2:=yw _ b 1 _ _ u1 k1;have h3:=zaL (o:=2) h2 k2 he u2;have k3:=yw _ b 2 _ _ u2 k2;have h4:=zaL (o:=3) h3 k3 he u3;have k4:=yw _ b 3 _ _ u3 k3;have h5:=zaL (o:=4) h4 k4 he u4;have k5:=yw _ b 4 _ _ u4 k4;have h6:=zaL (o:=5) h5 k5 he u5;have k6:=yw _ b 5 _ _ u5 k5;exact zaL (o:=6) h6 k6 he u6
theorem zoN(s:ByteArray)(w:World)(aa:2000<s.size)(hs:s.size<=maxLen):Calls Tryz.prog 37 #[.string s] w (zfa w (zv s.data.toList)):=by
 unfold maxLen at hs;have hx:zv s.data.toList=(Rd0,0,1):=by unfold zv;rw[yg (by simpa using aa)]
 have HX:=zB hx;clear hx;go_in;go_wp2;refine yB (v:=.tuple #[.agg zaS,.int .i64 0,.int .i64 1]) (by simp[results,Tryz.results37,go_sem,zaS]) rfl ?_;exact zcS HX.out (zj _ _)
theorem zkc(s:ByteArray)(w:World)(av:s.size<=maxLen):Calls Tryz.prog 37 #[.string s] w (zfa w (zv s.data.toList)):=by
 by_cases ae:2000<s.size
 ·exact zoN s w ae av
 have hs:s.size<=2000:=by omega
 have ai:Hid (s.data.toList.length<=2000):=by show _<=_;simpa using hs
 obtain⟨ls,ak⟩:∃ls,ls=zD 10 s.data.toList:=⟨_,rfl⟩
 have af:=zft 10 s.data.toList;have aj:=zhB 10 s.data.toList;rw[<-ak] at af aj;have hn:ls.length<=2001:=by have:=ai.out;omega
 have hn1:1<=ls.length:=by rw[ak];unfold zD;simp
 have HL:=zB af;have ap:=zB ak;clear af aj av;have ab:=zrL s ((w.alloc (.cells zaS 28)).alloc (.cells (zdN Rd0 (.slice none 0 0) (.slice none 0 0)) 147)) (by omega);rw[<-ak] at ab;have HC:=zB ab;clear ab ak ae;go_in;go_wp2_with fail;refine HC.out.mono ?_;rintro e1 w1⟨v,rfl,ag,ad⟩;obtain⟨g,cap,cur,rfl,_,hg,hcap⟩:=zF ag (by omega);have hgl:g<w1.heap.size:=(yc.1 hg).1;have hI:zpJ w w1 Rd0 (.slice none 0 0) (.slice none 0 0):=by
  have aC:=zaa w (.cells zaS 28) (.cells (zdN Rd0 (.slice none 0 0) (.slice none 0 0)) 147);refine⟨⟨by omega,?_,yC _ _ _ _,yC _ _ _ _⟩,?_,aC.trans (ad.mono (by simp;omega))⟩
  ·rw[ad.block _ (by simp)];have:=yx (w.alloc (.cells zaS 28)) (.cells (zdN Rd0 (.slice none 0 0) (.slice none 0 0)) 147);simpa using this
  rw[ad.block _ (by simp;omega),yT _ _ _ (by simp)];exact yx w _
 have HI:=zB hI;have HO:=zB ag;clear hI ag ad hg HC;go_wp2_with fail;go_loopw[7] (λi wr=>∃(k:Nat)(r:Rd)(vs vr:Value),k<=ls.length/\i=.int .i64 k/\Hid (zbr Rd0 0 ls=zbr r k (ls.drop k))/\Hid (zc4 r)/\Hid (zpJ w wr r vs vr)/\Hid (wr.ownsRow (w.heap.size+1+1) 9 1 (.slice (some ⟨g,0,none⟩) ls.length cap) ls.length (zbE ls))) (λi _=>ls.length-(intOf i).toNat)
 ·exact⟨0,Rd0,_,_,yu _,rfl,rfl,⟨by simp[Rd0],by simp[Rd0]⟩,HI,by have h:=HO.out;simp only[ybW] at h;exact h⟩
 clear HI HO;obtain⟨k,r,vs,vr,hk,rfl,HG,HF,HI,HO⟩:=hrel;by_cases au:k<ls.length
 ·have ac:wr.cell? ⟨g,k,none⟩=some (.string ⟨(ls[k]).toArray⟩):=by rw[HO.out.cellAt k (by omega)];simp[zbE,au]
  obtain⟨l,hl⟩:∃l,l=ls[k]:=⟨_,rfl⟩
  rw[<-hl] at ac;have am:=zB hl;have aG:l.length<=2000:=by have h1:=HL.out l (by rw[hl];exact ym _);have h2:=ai.out;omega
  clear hl;have ab:=zqy w.heap.size (w.heap.size+1) ⟨l.toArray⟩ r vs vr wr HI.out.1 HF.out (by show l.toArray.size<=_;simpa using aG);have HC:Hid (Calls Tryz.prog 80 #[.pointer (some ⟨w.heap.size+1,0,none⟩),.string ⟨l.toArray⟩] wr (zbm wr w.heap.size (w.heap.size+1) (zW r l))):=ab;clear ab;by_cases he:(zW r l).2=0
  ·have al:Hid (zbr Rd0 0 ls=zbr (zW r l).1 (k+1) (ls.drop (k+1))):=by show _=_;rw[HG.out,am.out];exact zhj au (by rw[<-am.out];exact he)
   have ay:Hid (zc4 (zW r l).1):=zno HF.out l;have HE:=zB he;clear he;go_wp2_with fail;refine HC.out.mono ?_;rintro e2 w2 aa;obtain⟨ax,aw,ah,an⟩:=znW HI.out aa HO.out;obtain⟨_,_,rfl,_⟩:=aa;rw[HE.out];have ao:=zB ah;have az:=zB an;clear ah an HI HO ac;go_wp2;go_roundw
   ·exact⟨k+1,_,ax,aw,by omega,by go_num,al,ay,ao,az⟩
   simp[intOf];omega
  have HX:Hid (zv s.data.toList=(Rd0,k+1,(zW r l).2)):=by refine zge ai.out ?_ he;rw[<-ap.out,HG.out,am.out];exact zhF au (by rw[<-am.out];exact he)
  have hne:((zW r l).2 != 0)=true:=by simp[he]
  clear he;go_wp2_with fail;refine HC.out.mono ?_;rintro e2 w2 aa;obtain⟨ax,aw,ah,an⟩:=znW HI.out aa HO.out;obtain⟨_,_,rfl,_⟩:=aa;obtain⟨b0,b1,b2,b3,b4,b5,b6,aE⟩:=zgg ah.2.1;have ao:=zB ah;clear ah an HI HO ac;generalize (zW r l).2=er at*;go_wp2;refine yB (v:=.tuple #[.agg zaS,.int .i64 ((k+1:Nat):Int),.int .i64 er]) (by simp[results,Tryz.results37,go_sem,zaS,b0,b1,b2,b3,b4,b5,b6]) rfl ?_;exact zcS HX.out (ao.out.2.2.trans (zbb _ _ _ (yh _) _ _ _ _ _ _ _))
 have aF:k=ls.length:=by omega
 subst aF;have al:Hid (zbr Rd0 0 (zD 10 s.data.toList)=(r,0,0)):=by show _=_;rw[<-ap.out,HG.out];exact zlp (yh _)
 obtain⟨b0,b1,b2,b3,b4,b5,b6,aE⟩:=zgg HI.out.2.1;obtain⟨c0,c1,c2,c3,c4,c5,c6,c7,aD,hrl⟩:=zb9 HI.out.1;cases hh:r.head
 ·have HX:Hid (zv s.data.toList=(Rd0,ls.length,2)):=by show _=_;rw[zji ai.out al.out hh,ap.out]
  rw[hh] at c7;clear c0 c1 c2 c3 c4 c5 c6 aD;go_wp2;refine yB (v:=.tuple #[.agg zaS,.int .i64 ls.length,.int .i64 2]) (by simp[results,Tryz.results37,go_sem,zaS,b0,b1,b2,b3,b4,b5,b6]) rfl ?_;exact zcS HX.out (HI.out.2.2.trans (zbb _ _ _ (yh _) _ _ _ _ _ _ _))
 have HX:Hid (zv s.data.toList=(r,0,0)):=zmE ai.out al.out hh;rw[hh] at c7;obtain⟨aB,ar,rfl,_,_⟩:=zg HI.out.1.2.2.1;obtain⟨aA,aq,rfl,_,_⟩:=zg HI.out.1.2.2.2;go_wp2;rw[HX.out];refine yB (v:=.tuple #[zap r (.slice aB r.stops.length ar) (.slice aA r.roads.length aq),.int .i64 0,.int .i64 0]) (by simp[results,Tryz.results37,go_sem,zap,b0,b1,b2,b3,b4,b5,b6]) rfl ?_;exact⟨_,_,rfl,zcv HI.out.2.1 HI.out.1.2.2.1 (by decide),zcv HI.out.2.1 HI.out.1.2.2.2 (by decide),HI.out.2.2.trans (zbb _ _ _ (yh _) _ _ _ _ _ _ _)⟩
end Go.Proofs.YtebinaopncclgabGreatDoor
