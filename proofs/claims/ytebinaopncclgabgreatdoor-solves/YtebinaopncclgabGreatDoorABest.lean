import Derived.Test.YtebinaopncclgabGreatDoorAGive
import Derived.Deep.AppendLies
set_option maxRecDepth 100000
set_option maxHeartbeats 8000000
namespace Go.Proofs.YtebinaopncclgabGreatDoor
open Go.RowKit Go.IntWalk
def za2(w:World)(g n:Nat)(f:Nat->Int):Prop:=∃cs,w.heap[g]?=some (.cells cs 3 (0,0))/\cs.size=n/\∀i,i<n->cs[i]?=some (.int .i64 (f i))
theorem za2.lt{w:World}{g n:Nat}{f:Nat->Int}(h:za2 w g n f):g<w.heap.size:=by obtain⟨cs,hc,_⟩:=h;exact(yc.1 hc).1
theorem za2.cell{w:World}{g n i:Nat}{f:Nat->Int}(h:za2 w g n f)(hi:i<n):w.cell? ⟨g,i,none⟩=some (.int .i64 (f i)):=by obtain⟨cs,hc,_,hf⟩:=h;rw[yi _ _ _ _ _ _ hc];exact hf i hi
theorem za2.frozen{w:World}{g n:Nat}{f:Nat->Int}(h:za2 w g n f)(k:Nat):w.frozen? ⟨g,k,none⟩=false:=by obtain⟨cs,hc,_⟩:=h;exact yv w g k _ _ hc
theorem za2.block{w w':World}{g n:Nat}{f:Nat->Int}(h:za2 w g n f)(hb:w'.heap[g]?=w.heap[g]?):za2 w' g n f:=by obtain⟨cs,hc,h2⟩:=h;exact⟨cs,hb.trans hc,h2⟩
theorem za2.aside{w:World}{g q n o:Nat}{f:Nat->Int}(h:za2 w g n f)(aa:g≠q)(x:Value):za2 (w.setCell ⟨q,o,none⟩ x) g n f:=h.block (yt _ _ _ _ (by exact aa))
theorem za2.put{w:World}{g n k:Nat}{f:Nat->Int}(h:za2 w g n f)(hk:k<n)(x:Int):za2 (w.setCell ⟨g,k,none⟩ (.int .i64 x)) g n (up1 f k x):=by
 have h0:=h.cell hk;obtain⟨cs,hc,hs,hf⟩:=id h;have hb:=yw w g k cs 3 (.int .i64 x) hc;refine⟨_,hb,by simpa using hs,λi hi=>?_⟩;have h1:=zw hc h0 (.int .i64 x) (h.cell hi);rw[yi _ _ _ _ _ _ hb] at h1;rw[h1];unfold up1;by_cases e:i=k
 ·rw[yg e,yg e]
 rw[ye e,ye e]
theorem zuZ(w:World)(o0 o1 o2 o3 o4:Obj):Below w.heap.size w (((((w.alloc o0).alloc o1).alloc o2).alloc o3).alloc o4).drew/\(((((w.alloc o0).alloc o1).alloc o2).alloc o3).alloc o4).drew.heap[w.heap.size]?=some o0/\(((((w.alloc o0).alloc o1).alloc o2).alloc o3).alloc o4).drew.heap[w.heap.size+1]?=some o1/\(((((w.alloc o0).alloc o1).alloc o2).alloc o3).alloc o4).drew.heap[w.heap.size+1+1]?=some o2/\(((((w.alloc o0).alloc o1).alloc o2).alloc o3).alloc o4).drew.heap[w.heap.size+1+1+1]?=some o3/\(((((w.alloc o0).alloc o1).alloc o2).alloc o3).alloc o4).drew.heap[w.heap.size+1+1+1+1]?=some o4:=by
 have hb:Below w.heap.size w (((((w.alloc o0).alloc o1).alloc o2).alloc o3).alloc o4):=((((zj w o0).alloc (by simp) o1).alloc (by simp;omega) o2).alloc (by simp;omega) o3).alloc (by simp;omega) o4;refine⟨hb.drew,?_,?_,?_,?_,?_⟩
 ·show (((((w.heap.push o0).push o1).push o2).push o3).push o4)[w.heap.size]?=_;rw[yU,ye (by simp only[yap];omega),yU,ye (by simp only[yap];omega),yU,ye (by simp only[yap];omega),yU,ye (by simp only[yap];omega),yU,yg rfl]
 ·show (((((w.heap.push o0).push o1).push o2).push o3).push o4)[w.heap.size+1]?=_;rw[yU,ye (by simp only[yap];omega),yU,ye (by simp only[yap];omega),yU,ye (by simp only[yap];omega),yU,yg (by simp only[yap])]
 ·show (((((w.heap.push o0).push o1).push o2).push o3).push o4)[w.heap.size+1+1]?=_;rw[yU,ye (by simp only[yap];omega),yU,ye (by simp only[yap];omega),yU,yg (by simp only[yap])]
 ·show (((((w.heap.push o0).push o1).push o2).push o3).push o4)[w.heap.size+1+1+1]?=_;rw[yU,ye (by simp only[yap];omega),yU,yg (by simp only[yap])]
 show (((((w.heap.push o0).push o1).push o2).push o3).push o4)[w.heap.size+1+1+1+1]?=_;rw[yU,yg (by simp only[yap])]
theorem zrZ(ow:Nat->Int)(k:Nat):zcY ow (k+1)=up1 (zcY ow k) (ow k).toNat (k:Int):=rfl
theorem zry(ow x:Nat->Int)(k:Nat):zdV ow x (k+1)=up1 (zdV ow x k) (ow k).toNat (x (ow k).toNat):=rfl
def vS(v:Nat->Int)(k:Nat):Nat->Int:=λj=>if j<k then v j else 0
theorem zu0(v:Nat->Int)(k:Nat):up1 (vS v k) k (v k)=vS v (k+1):=by
 funext j;unfold up1 vS;by_cases e:j=k
 ·rw[yg e,yg (by omega),e]
 rw[ye e];by_cases h:j<k
 ·rw[yg h,yg (by omega)]
 rw[ye h,ye (by omega)]
theorem za2.congr{w:World}{g n:Nat}{f f':Nat->Int}(h:za2 w g n f)(e:∀i,i<n->f i=f' i):za2 w g n f':=by obtain⟨cs,h1,h2,h3⟩:=h;exact⟨cs,h1,h2,λi hi=>by rw[h3 i hi,e i hi]⟩
def zqb:List Value:=[undef,undef,undef,undef,undef,undef,undef,undef,undef,undef,undef,undef,undef,undef,undef,undef,undef,undef,undef,undef,undef,undef,undef,undef,undef,undef,undef,undef,undef,undef,undef,undef,undef,undef,undef,undef,undef,undef,undef,undef,undef,undef,undef,undef,undef,undef,undef,undef,undef,undef,undef,undef,undef,undef]
structure zv0 (w w':World) (mz:Array Value) (n g1 g2 g3 b:Nat):Prop where
 bel:Below w.heap.size w w'
 l1:w.heap.size<g1
 l2:w.heap.size<g2
 l3:w.heap.size<g3
 lb:w.heap.size<b
 n12:g1≠g2
 n13:g1≠g3
 n23:g2≠g3
 res:w'.heap[w.heap.size]?=some (.cells #[.bool false,.int .i64 0,.slice none 0 0,.slice none 0 0,.slice none 0 0,.slice none 0 0] 125 (0,0))
 h1:w'.heap[g1]?=some (.cells mz 3 (0,0))
 h2:w'.heap[g2]?=some (.cells mz 3 (0,0))
 h3:w'.heap[g3]?=some (.cells mz 3 (0,0))
 hb:w'.heap[b]?=some (.cells #[.bool true,.int .i64 0,.slice (some ⟨g1,0,none⟩) n n,.slice (some ⟨g2,0,none⟩) n n,.slice (some ⟨g3,0,none⟩) n n,.slice none 0 0] 125 (0,0))
def zoj(w:World)(mz:Array Value)(p n:Nat):Act->World->Prop:=λa w'=>∃g1 g2 g3 b,a=⟨List.toArray ([.pointer (some ⟨p,0,none⟩),undef,.pointer (some ⟨w.heap.size,0,none⟩),.pointer (some ⟨b,0,none⟩),undef,undef,.pointer (some ⟨p,0,none⟩),.pointer (some ⟨p,0,none⟩),.pointer (some ⟨p,0,none⟩),.int .i64 n,.slice (some ⟨g1,0,none⟩) n n,.pointer (some ⟨p,0,none⟩),.pointer (some ⟨p,0,none⟩),.pointer (some ⟨p,0,none⟩),.int .i64 n,.slice (some ⟨g2,0,none⟩) n n,.pointer (some ⟨p,0,none⟩),.pointer (some ⟨p,0,none⟩),.pointer (some ⟨p,0,none⟩),.int .i64 n,.slice (some ⟨g3,0,none⟩) n n,.agg #[.bool true,.int .i64 0,.slice (some ⟨g1,0,none⟩) n n,.slice (some ⟨g2,0,none⟩) n n,.slice (some ⟨g3,0,none⟩) n n,.slice none 0 0]]++zqb),[]⟩/\zv0 w w' mz n g1 g2 g3 b
theorem ztp{w w':World}{mz:Array Value}{p n g1 g2 g3 b:Nat}{a:Act}(ha:a=⟨List.toArray ([.pointer (some ⟨p,0,none⟩),undef,.pointer (some ⟨w.heap.size,0,none⟩),.pointer (some ⟨b,0,none⟩),undef,undef,.pointer (some ⟨p,0,none⟩),.pointer (some ⟨p,0,none⟩),.pointer (some ⟨p,0,none⟩),.int .i64 n,.slice (some ⟨g1,0,none⟩) n n,.pointer (some ⟨p,0,none⟩),.pointer (some ⟨p,0,none⟩),.pointer (some ⟨p,0,none⟩),.int .i64 n,.slice (some ⟨g2,0,none⟩) n n,.pointer (some ⟨p,0,none⟩),.pointer (some ⟨p,0,none⟩),.pointer (some ⟨p,0,none⟩),.int .i64 n,.slice (some ⟨g3,0,none⟩) n n,.agg #[.bool true,.int .i64 0,.slice (some ⟨g1,0,none⟩) n n,.slice (some ⟨g2,0,none⟩) n n,.slice (some ⟨g3,0,none⟩) n n,.slice none 0 0]]++zqb),[]⟩)(h:zv0 w w' mz n g1 g2 g3 b):zoj w mz p n a w':=⟨g1,g2,g3,b,ha,h⟩
theorem zws{P:Program}{c:Code}{Q:Exit->Act->World->Prop}{a:Act}{w:World}(R:Act->World->Prop)(hi:∀a w,R a w->Q .normal a w)(hr:(∀a w,R a w->Q .normal a w)->Code.wp P c Q a w):Code.wp P c Q a w:=hr hi
structure MSt (w wr:World) (n g1 g2 g3 b:Nat) (c:Int) (f1 f2 f3:Nat->Int):Prop where
 mb:wr.heap[b]?=some (.cells #[.bool true,.int .i64 (c),.slice (some ⟨g1,0,none⟩) n n,.slice (some ⟨g2,0,none⟩) n n,.slice (some ⟨g3,0,none⟩) n n,.slice none 0 0] 125 (0,0))
 r1:za2 wr g1 n f1
 r2:za2 wr g2 n f2
 r3:za2 wr g3 n f3
 rz:wr.heap[w.heap.size]?=some (.cells #[.bool false,.int .i64 0,.slice none 0 0,.slice none 0 0,.slice none 0 0,.slice none 0 0] 125 (0,0))
 bel:Below w.heap.size w wr
theorem MSt.drew{w wr:World}{n g1 g2 g3 b:Nat}{c:Int}{f1 f2 f3:Nat->Int}(h:MSt w wr n g1 g2 g3 b c f1 f2 f3):MSt w wr.drew n g1 g2 g3 b c f1 f2 f3:=⟨h.mb,h.r1.block rfl,h.r2.block rfl,h.r3.block rfl,h.rz,h.bel.drew⟩
theorem MSt.put1{w wr:World}{n g1 g2 g3 b k:Nat}{c:Int}{f1 f2 f3:Nat->Int}(h:MSt w wr n g1 g2 g3 b c f1 f2 f3)(hb:b≠g1)(h2:g1≠g2)(h3:g1≠g3)(hl:w.heap.size<g1)(hk:k<n)(x:Int):MSt w (wr.setCell ⟨g1,k,none⟩ (.int .i64 x)) n g1 g2 g3 b c (up1 f1 k x) f2 f3:=⟨(yt _ _ _ _ (by exact hb)).trans h.mb,h.r1.put hk x,h.r2.aside (ybv h2) _,h.r3.aside (ybv h3) _,(yt _ _ _ _ (by show w.heap.size≠g1;omega)).trans h.rz,h.bel.setCell (by show w.heap.size<=g1;omega) _⟩
theorem MSt.put2{w wr:World}{n g1 g2 g3 b k:Nat}{c:Int}{f1 f2 f3:Nat->Int}(h:MSt w wr n g1 g2 g3 b c f1 f2 f3)(hb:b≠g2)(h2:g1≠g2)(h3:g2≠g3)(hl:w.heap.size<g2)(hk:k<n)(x:Int):MSt w (wr.setCell ⟨g2,k,none⟩ (.int .i64 x)) n g1 g2 g3 b c f1 (up1 f2 k x) f3:=⟨(yt _ _ _ _ (by exact hb)).trans h.mb,h.r1.aside h2 _,h.r2.put hk x,h.r3.aside (ybv h3) _,(yt _ _ _ _ (by show w.heap.size≠g2;omega)).trans h.rz,h.bel.setCell (by show w.heap.size<=g2;omega) _⟩
theorem MSt.put3{w wr:World}{n g1 g2 g3 b k:Nat}{c:Int}{f1 f2 f3:Nat->Int}(h:MSt w wr n g1 g2 g3 b c f1 f2 f3)(hb:b≠g3)(h2:g1≠g3)(h3:g2≠g3)(hl:w.heap.size<g3)(hk:k<n)(x:Int):MSt w (wr.setCell ⟨g3,k,none⟩ (.int .i64 x)) n g1 g2 g3 b c f1 f2 (up1 f3 k x):=⟨(yt _ _ _ _ (by exact hb)).trans h.mb,h.r1.aside h2 _,h.r2.aside h3 _,h.r3.put hk x,(yt _ _ _ _ (by show w.heap.size≠g3;omega)).trans h.rz,h.bel.setCell (by show w.heap.size<=g3;omega) _⟩
theorem MSt.putC{w wr:World}{n g1 g2 g3 b:Nat}{c:Int}{f1 f2 f3:Nat->Int}(h:MSt w wr n g1 g2 g3 b c f1 f2 f3)(aa:b≠g1)(ab:b≠g2)(ac:b≠g3)(hl:w.heap.size<b)(x:Int):MSt w (wr.setCell ⟨b,1,none⟩ (.int .i64 x)) n g1 g2 g3 b x f1 f2 f3:=⟨yw wr b 1 _ _ _ h.mb,h.r1.aside (ybv aa) _,h.r2.aside (ybv ab) _,h.r3.aside (ybv ac) _,(yt _ _ _ _ (by show w.heap.size≠b;omega)).trans h.rz,h.bel.setCell (by show w.heap.size<=b;omega) _⟩
theorem MSt.cells{w wr:World}{n g1 g2 g3 b:Nat}{c:Int}{f1 f2 f3:Nat->Int}(h:MSt w wr n g1 g2 g3 b c f1 f2 f3):b<wr.heap.size/\wr.cell? ⟨b,0,none⟩=some (.bool true)/\wr.cell? ⟨b,1,none⟩=some (.int .i64 c)/\wr.cell? ⟨b,2,none⟩=some (.slice (some ⟨g1,0,none⟩) n n)/\wr.cell? ⟨b,3,none⟩=some (.slice (some ⟨g2,0,none⟩) n n)/\wr.cell? ⟨b,4,none⟩=some (.slice (some ⟨g3,0,none⟩) n n)/\wr.cell? ⟨b,5,none⟩=some (.slice none 0 0)/\wr.frozen? ⟨b,1,none⟩=false:=by refine⟨(yc.1 h.mb).1,?_,?_,?_,?_,?_,?_,yv wr b 1 _ _ h.mb⟩<;>(rw[yi _ _ _ _ _ _ h.mb];rfl)
theorem zqG(p n:Nat)(C:Nat->Nat->Int)(vc:Value)(u v ow:Nat->Int)(wb w:World)(hn:n<=10)(_hpb:wb.heap.size<=p)(hB:Below wb.heap.size wb w)(az:SqR wb vc n C)(hc:zev n C)(ho:∀j,j<n->∃i:Nat,ow j=i/\i<n)(aX:∀j,j<n->0<=C (ow j).toNat j)(ht:zY w p n vc u v ow):Calls Tryz.prog 181 #[.pointer (some ⟨p,0,none⟩)] w λe w'=>∃g1 g2 g3,e=.returned (.agg #[.bool true,.int .i64 (zQ (λc=>C (ow c).toNat c) (List.range n)),.slice (some ⟨g1,0,none⟩) n n,.slice (some ⟨g2,0,none⟩) n n,.slice (some ⟨g3,0,none⟩) n n,.slice none 0 0])/\w.heap.size<=g1/\w.heap.size<=g2/\w.heap.size<=g3/\g1≠g2/\g1≠g3/\g2≠g3/\za2 w' g1 n (zcY ow n)/\za2 w' g2 n (zdV ow u n)/\za2 w' g3 n v/\Below w.heap.size w w':=by
 obtain⟨i0,hi,bb,bc,bd⟩:=info_parts Tryz.infoInt;have ay:∀W:World,(Instr.makeSlice 40 (.int .i64 (n:Int)) (.int .i64 (n:Int))).run Tryz.prog W=.ok (.slice (some ⟨W.heap.size,0,none⟩) n n) (W.alloc (.cells (madeCells #[Value.int .i64 0] n) 3)):=λW=>by have h:=run_make (P:=Tryz.prog) W 40 3 i0 (.int .i64 0) Tryz.underlying40 hi bb .i64 .i64 n n (by omega) (by omega) (by rw[bd];omega) (by omega);rw[bc,Nat.mul_one,yam] at h;exact h
 obtain⟨mz,aI⟩:∃mz,mz=madeCells #[Value.int .i64 0] n:=⟨_,rfl⟩
 rw[<-aI] at ay;have ah:Hid (mz.size=n/\∀i,i<n->mz[i]?=some (.int .i64 0)):=by
  have e:mz.toList=List.replicate n (.int .i64 0):=by rw[aI,yas]
  refine⟨?_,λi hi=>?_⟩
  ·have:=yan List.length e;simpa using this
  rw[<-Array.getElem?_toList,e,yb3,yg hi]
 have HT:=hid ht;have t0:=ht.c0;have aJ:=ht.lt;have aP:=hid az;have HB:=hid hB;have HO:=hid ho;have aM:=hid aX;have aL:=hid hc;clear aI hi bb bc bd ht az hB hc aX ho;go_in;go_wp2_with fail;refine zws (zoj w mz p n) ?imp ?reg
 case reg=>
  intro ai;have au:=hid ai;clear ai;have hp1:p<w.heap.size+1:=by omega
  have hp2:p<w.heap.size+2:=by omega
  have hp3:p<w.heap.size+3:=by omega
  have hp4:p<w.heap.size+4:=by omega
  have hp5:p<w.heap.size+1+1:=by omega
  have hp6:p<w.heap.size+1+1+1:=by omega
  have hp7:p<w.heap.size+1+1+1+1:=by omega
  have hp8:¬p=w.heap.size:=by omega
  have hp9:¬p=w.heap.size+1:=by omega
  have hpa:¬p=w.heap.size+2:=by omega
  have hpc:¬p=w.heap.size+3:=by omega
  have hpd:¬p=w.heap.size+4:=by omega
  clear HT aP HB ah HO aM aL;go_region
  all_goals
   refine au.out _ _ (ztp rfl ?_);obtain⟨x0,x1,x2,x3,x4,x5⟩:=zuZ w _ _ _ _ _;exact⟨x0,by omega,by omega,by omega,by omega,by omega,by omega,by omega,x1,by assumption,by assumption,by assumption,by assumption⟩
 intro a w1 a6;unfold zoj at a6;obtain⟨g1,g2,g3,b,rfl,aa⟩:=a6;simp only[zqb,yaM,yax];have bm:b<w1.heap.size:=(yc.1 aa.hb).1;have aS:b≠g1:=λe=>by have h:=aa.hb;rw[e,aa.h1] at h;cases h
 have aT:b≠g2:=λe=>by have h:=aa.hb;rw[e,aa.h2] at h;cases h
 have aU:b≠g3:=λe=>by have h:=aa.hb;rw[e,aa.h3] at h;cases h
 have am:=aa.n12;have an:=aa.n13;have ao:=aa.n23;have br:=aa.l1;have bs:=aa.l2;have bt:=aa.l3;have bu:=aa.lb;have aO:Hid (MSt w w1 n g1 g2 g3 b 0 (zcY ow 0) (zdV ow u 0) (vS v 0)):=⟨aa.hb,⟨mz,aa.h1,ah.out.1,ah.out.2⟩,⟨mz,aa.h2,ah.out.1,ah.out.2⟩,⟨mz,aa.h3,ah.out.1,λi hi=>by rw[ah.out.2 i hi];unfold vS;rw[ye (by omega)]⟩,aa.res,aa.bel⟩
 obtain⟨ct,aD⟩:∃ct:Nat->Int,ct=λk=>zQ (λc=>C (ow c).toNat c) (List.range k):=⟨_,rfl⟩
 have aK:Hid (ct 0=0):=by show _=_;rw[aD];rfl
 have be:Hid (∀k,ct (k+1)=ct k+C (ow k).toNat k):=λk=>by rw[aD];simp[List.range_succ,zd4,zQ]
 have bg:Hid (ct n=zQ (λc=>C (ow c).toNat c) (List.range n)):=by show _=_;rw[aD]
 clear aa aD ay ah;go_wp2_with fail;go_loopw[4] (λi wr=>∃k:Nat,k<=n/\i=.int .i64 k/\(0<=ct k/\ct k<=(k:Int)*200000)/\Hid (MSt w wr n g1 g2 g3 b (ct k) (zcY ow k) (zdV ow u k) (vS v k))) (λi _=>n-(intOf i).toNat)
 ·exact⟨0,yu _,rfl,by rw[aK.out];omega,by rw[aK.out];exact aO⟩
 clear aO bm aJ t0;obtain⟨k,hk,rfl,aW,HM⟩:=hrel;have av:=hid (HT.out.below HM.out.bel);have t0:=av.out.c0;have aJ:=av.out.lt;obtain⟨bn,m0,m1,m2,m3,m4,m5,mf⟩:=HM.out.cells;by_cases ar:k<n
 ·obtain⟨i,ap,aq⟩:=HO.out k ar;have o0:=av.out.co k (by omega);rw[ap] at o0;have r1:=HM.out.r1.cell aq;have rf:=HM.out.r1.frozen i;have bq:=HM.out.r1.lt;have ik:(0:Int)<=(k:Int):=by omega
  have jk:(k:Int)<10:=by omega
  have jkn:(k:Int)<(n:Int):=by omega
  have ii:(0:Int)<=(i:Int):=by omega
  have ji:(i:Int)<10:=by omega
  have jin:(i:Int)<(n:Int):=by omega
  have aA:Hid (ct (k+1)=ct k+C i k):=by show _=_;rw[be.out,ap];simp
  have bo:0<=C i k/\C i k<=200000:=by have h1:=aM.out k ar;rw[ap] at h1;simp at h1;exact⟨h1,(aL.out i k aq ar).2⟩
  have bi:Hid (zcY ow (k+1)=up1 (zcY ow k) i (k:Int)):=by show _=_;rw[zrZ,ap,yam]
  have bj:Hid (zdV ow u (k+1)=up1 (zdV ow u k) i (u i)):=by show _=_;rw[zry,ap,yam]
  have HUI:=hid (av.out.cu i (by omega));clear ap;go_wp2_with go_in;have aj:Hid (MSt w (wr.setCell ⟨g1,i,none⟩ (.int .i64 k)) n g1 g2 g3 b (ct k) (zcY ow (k+1)) (zdV ow u k) (vS v k)):=by show MSt _ _ _ _ _ _ _ _ _ _ _;rw[bi.out];exact HM.out.put1 aS am an br aq _
  obtain⟨wA,a8⟩:∃wA,wA=wr.setCell ⟨g1,i,none⟩ (.int .i64 k):=⟨_,rfl⟩
  rw[<-a8] at aj⊢;have aE:=hid (HT.out.below aj.out.bel);obtain⟨af,cf,a7,_,az⟩:=aP.out;obtain⟨fg,fgi,fci,aR,aY,bp,ax,aZ⟩:=az i aq;have aw:Below wb.heap.size wb wA:=HB.out.trans (aj.out.bel.mono HB.out.size);have q0:wA.cell? ⟨p,1,none⟩=some (.slice (some ⟨fg,0,none⟩) n cf):=by rw[aE.out.c1,a7,aR]
  have q1:=zc aw bp aY;have q2:=zc aw (aZ k ar) ax;have q3:=ya aY aw.size;have q4:=ya ax aw.size;have q5:=aE.out.lt;obtain⟨d,hd⟩:∃d,d=C i k:=⟨_,rfl⟩
  rw[<-hd] at q2 bo aA;obtain⟨aF,a0,a1,a2,a3,a4,a5,bk⟩:=aj.out.cells;obtain⟨cc,aV⟩:∃cc,cc=ct k:=⟨_,rfl⟩
  rw[<-aV] at a1 aW aj aA;have wz1:IntKind.i64.wrap (cc+d)=cc+d:=zm _ (by omega);have aN:Hid (ct (k+1)=cc+d):=aA;clear az aZ a7 aR aw hd a8 HM av t0 o0 r1 rf bq m0 m1 m2 m3 m4 m5 mf bn aJ aV aA;go_wp2_with go_in;go_region;have ae:Hid (MSt w (wA.setCell ⟨b,1,none⟩ (.int .i64 (cc+d))).drew n g1 g2 g3 b (cc+d) (zcY ow (k+1)) (zdV ow u k) (vS v k)):=(aj.out.putC aS aT aU bu _).drew;obtain⟨wB,a9⟩:∃wB,wB=(wA.setCell ⟨b,1,none⟩ (.int .i64 (cc+d))).drew:=⟨_,rfl⟩
  rw[<-a9] at ae⊢;have aB:=hid (HT.out.below ae.out.bel);have b1:=aB.out.cu i (by omega);have b2:=aB.out.cv k (by omega);have b3:=aB.out.lt;obtain⟨aG,e0,e1,e2,e3,e4,e5,bl⟩:=ae.out.cells;have b4:=ae.out.r2.cell aq;have b5:=ae.out.r2.frozen i;have b6:=ae.out.r2.lt;clear q0 q1 q2 q3 q4 q5 a0 a1 a2 a3 a4 a5 bk aF a9 aj aE;go_wp2_with go_in;go_region;have ak:Hid (MSt w (wB.setCell ⟨g2,i,none⟩ (.int .i64 (u i))).drew n g1 g2 g3 b (cc+d) (zcY ow (k+1)) (zdV ow u (k+1)) (vS v k)):=by show MSt _ _ _ _ _ _ _ _ _ _ _;rw[bj.out];exact(ae.out.put2 aT am ao bs aq _).drew
  obtain⟨wC,ba⟩:∃wC,wC=(wB.setCell ⟨g2,i,none⟩ (.int .i64 (u i))).drew:=⟨_,rfl⟩
  rw[<-ba] at ak⊢;have aQ:=hid (HT.out.below ak.out.bel);have x2:=aQ.out.cv k (by omega);have x3:=aQ.out.lt;obtain⟨hbC1,y0,y1,y2,y3,y4,y5,yf2⟩:=ak.out.cells;have x4:=ak.out.r3.cell ar;have x5:=ak.out.r3.frozen k;have x6:=ak.out.r3.lt;clear b1 b2 b3 b4 b5 b6 aG e0 e1 e2 e3 e4 e5 bl ba ae aB;go_wp2_with go_in;go_region;have bh:Hid (MSt w (wC.setCell ⟨g3,k,none⟩ (.int .i64 (v k))).drew n g1 g2 g3 b (cc+d) (zcY ow (k+1)) (zdV ow u (k+1)) (vS v (k+1))):=by show MSt _ _ _ _ _ _ _ _ _ _ _;rw[<-zu0];exact(ak.out.put3 aU an ao bt ar _).drew
  go_wp2;go_roundw
  ·exact⟨k+1,by omega,by go_num,by rw[aN.out];omega,by rw[aN.out];exact bh⟩
  simp[intOf];omega
 have aH:k=n:=by omega
 have ag:Hid (MSt w wr n g1 g2 g3 b (ct n) (zcY ow n) (zdV ow u n) (vS v n)):=by have hM:=HM.out;rw[aH] at hM;exact hM
 obtain⟨aC,al⟩:∃aC,aC=ct n:=⟨_,rfl⟩
 have bf:Hid (zQ (λc=>C (ow c).toNat c) (List.range n)=aC):=by show _=_;rw[al,bg.out]
 rw[aH] at m1;rw[<-al] at m1 ag;have hrl:w.heap.size<wr.heap.size:=(yc.1 ag.out.rz).1;obtain⟨z0,z1,z2,z3,z4,z5,zf⟩:wr.cell? ⟨w.heap.size,0,none⟩=some (.bool false)/\wr.cell? ⟨w.heap.size,1,none⟩=some (.int .i64 0)/\wr.cell? ⟨w.heap.size,2,none⟩=some (.slice none 0 0)/\wr.cell? ⟨w.heap.size,3,none⟩=some (.slice none 0 0)/\wr.cell? ⟨w.heap.size,4,none⟩=some (.slice none 0 0)/\wr.cell? ⟨w.heap.size,5,none⟩=some (.slice none 0 0)/\∀o,wr.frozen? ⟨w.heap.size,o,none⟩=false:=by refine⟨?_,?_,?_,?_,?_,?_,λo=>yv wr _ o _ _ ag.out.rz⟩<;>(rw[yi _ _ _ _ _ _ ag.out.rz];rfl)
 clear aH al HM aW;go_wp2_with go_in;refine yB (v:=.agg #[.bool true,.int .i64 aC,.slice (some ⟨g1,0,none⟩) n n,.slice (some ⟨g2,0,none⟩) n n,.slice (some ⟨g3,0,none⟩) n n,.slice none 0 0]) (by simp[results,Tryz.results181,go_sem,z0,z1,z2,z3,z4,z5]) rfl ?_;have ab:g1≠w.heap.size:=by omega
 have ac:g2≠w.heap.size:=by omega
 have ad:g3≠w.heap.size:=by omega
 refine⟨g1,g2,g3,by rw[bf.out],by omega,by omega,by omega,am,an,ao,?_,?_,?_,?_⟩
 ·exact(((((ag.out.r1.aside ab _).aside ab _).aside ab _).aside ab _).aside ab _).aside ab _
 ·exact(((((ag.out.r2.aside ac _).aside ac _).aside ac _).aside ac _).aside ac _).aside ac _
 ·exact((((((ag.out.r3.aside ad _).aside ad _).aside ad _).aside ad _).aside ad _).aside ad _).congr (λi hi=>by unfold vS;rw[yg hi])
 exact(((((ag.out.bel.setCell (by exact yh _) _).setCell (by exact yh _) _).setCell (by exact yh _) _).setCell (by exact yh _) _).setCell (by exact yh _) _).setCell (by exact yh _) _
def zbO(w:World)(g:Nat)(S:Nat->Bool):Prop:=∃cs,w.heap[g]?=some (.cells cs 242 (0,0))/\∀i,i<10->cs[i]?=some (.bool (S i))
theorem zbO.lt{w:World}{g:Nat}{S:Nat->Bool}(h:zbO w g S):g<w.heap.size:=by obtain⟨cs,hc,_⟩:=h;exact(yc.1 hc).1
theorem zbO.cell{w:World}{g i:Nat}{S:Nat->Bool}(h:zbO w g S)(hi:i<10):w.cell? ⟨g,i,none⟩=some (.bool (S i)):=by obtain⟨cs,hc,hf⟩:=h;rw[yi _ _ _ _ _ _ hc];exact hf i hi
theorem zbO.frozen{w:World}{g:Nat}{S:Nat->Bool}(h:zbO w g S)(k:Nat):w.frozen? ⟨g,k,none⟩=false:=by obtain⟨cs,hc,_⟩:=h;exact yv w g k _ _ hc
theorem zbO.block{w w':World}{g:Nat}{S:Nat->Bool}(h:zbO w g S)(hb:w'.heap[g]?=w.heap[g]?):zbO w' g S:=by obtain⟨cs,hc,h2⟩:=h;exact⟨cs,hb.trans hc,h2⟩
theorem zbO.put{w:World}{g k:Nat}{S:Nat->Bool}(h:zbO w g S)(hk:k<10)(x:Bool):zbO (w.setCell ⟨g,k,none⟩ (.bool x)) g (up1 S k x):=by
 have h0:=h.cell hk;obtain⟨cs,hc,hf⟩:=id h;have hb:=yw w g k cs 242 (.bool x) hc;refine⟨_,hb,λi hi=>?_⟩;have h1:=zw hc h0 (.bool x) (h.cell hi);rw[yi _ _ _ _ _ _ hb] at h1;rw[h1];unfold up1;by_cases e:i=k
 ·rw[yg e,yg e]
 rw[ye e,ye e]
theorem zhN(w:World):zbO (w.alloc (.cells #[.bool false,.bool false,.bool false,.bool false,.bool false,.bool false,.bool false,.bool false,.bool false,.bool false] 242)) w.heap.size (λ_=>false):=by
 refine⟨_,yx w _,λi hi=>?_⟩
 match i,hi with
 | 0,_=>rfl
 | 1,_=>rfl
 | 2,_=>rfl
 | 3,_=>rfl
 | 4,_=>rfl
 | 5,_=>rfl
 | 6,_=>rfl
 | 7,_=>rfl
 | 8,_=>rfl
 | 9,_=>rfl
theorem zrW(w:World)(r:Nat)(hr:r<10):zbO (w.alloc (.cells ((([.bool false,.bool false,.bool false,.bool false,.bool false,.bool false,.bool false,.bool false,.bool false,.bool false]:List Value)).set r (.bool true)).toArray 242)) w.heap.size (up1 (λ_=>false) r true):=by
 refine⟨_,yx w _,λi hi=>?_⟩;have h0:∀i,i<10->([.bool false,.bool false,.bool false,.bool false,.bool false,.bool false,.bool false,.bool false,.bool false,.bool false]:List Value)[i]?=some (.bool false):=λi hi=>by
  match i,hi with
  | 0,_=>rfl
  | 1,_=>rfl
  | 2,_=>rfl
  | 3,_=>rfl
  | 4,_=>rfl
  | 5,_=>rfl
  | 6,_=>rfl
  | 7,_=>rfl
  | 8,_=>rfl
  | 9,_=>rfl
 rw[List.getElem?_toArray,ybz];unfold up1;by_cases e:r=i
 ·rw[yg e,yg e.symm,yg (by simp;omega)]
 rw[ye e,ye (λh=>e h.symm)];exact h0 i hi
theorem zld(p q n root:Nat)(vc:Value)(u v ow far fr:Nat->Int)(dn:Nat->Bool)(w:World)(hn:n<=10)(hr:root<n)(ho:∀c,c<n->dn c=true->∃i:Nat,ow c=i/\i<n)(ht:zY w p n vc u v ow)(hh:zN w q root far fr dn):Calls Tryz.prog 178 #[.pointer (some ⟨p,0,none⟩),.pointer (some ⟨q,0,none⟩)] w λe w'=>∃x,e=.returned x/\w'.ownsRow w.heap.size 3 1 x (((List.range n).filter (shS ow dn root n)).length) (zd (((List.range n).filter (shS ow dn root n)).map λ(i:Nat)=>(i:Int)))/\Below w.heap.size w w':=by
 obtain⟨i0,hi,aP,aQ,aR⟩:=info_parts Tryz.infoInt;have HT:=hid ht;have HH:=hid hh;have HO:=hid ho;have h0:=hh.c0;have ah:=ht.lt;have ap:=hh.lt;have ir:(0:Int)<=(root:Int):=by omega
 have jr:(root:Int)<10:=by omega
 have aA:=hid (zhN w);have z0:=(zhN w).cell (i:=root) (by omega);have z1:=(zhN w).frozen root;clear ht hh ho;go_in;go_wp2_with go_in;have ac:Hid (zbO (w.alloc (.cells ((([.bool false,.bool false,.bool false,.bool false,.bool false,.bool false,.bool false,.bool false,.bool false,.bool false]:List Value)).set root (.bool true)).toArray 242)) w.heap.size (shS ow dn root 0)):=zrW w root (by omega);have ai:Hid (Below w.heap.size w (w.alloc (.cells ((([.bool false,.bool false,.bool false,.bool false,.bool false,.bool false,.bool false,.bool false,.bool false,.bool false]:List Value)).set root (.bool true)).toArray 242))):=zj w _;obtain⟨w1,az⟩:∃w1,w1=(w.alloc (.cells ((([.bool false,.bool false,.bool false,.bool false,.bool false,.bool false,.bool false,.bool false,.bool false,.bool false]:List Value)).set root (.bool true)).toArray 242)):=⟨_,rfl⟩
 rw[<-az] at ac ai⊢;obtain⟨SS,ag⟩:∃SS,SS=shS ow dn root:=⟨_,rfl⟩
 rw[<-ag] at ac;have au:Hid (∀k,SS (k+1)=if dn k=true then up1 (SS k) (ow k).toNat true else SS k):=λk=>by rw[ag];rfl
 have aL:=hid ag;clear az z0 z1 aA h0 ag;go_loopw[6] (λi wr=>∃k:Nat,k<=n/\i=.int .i64 k/\Hid (zbO wr w.heap.size (SS k))/\Hid (Below w.heap.size w wr)) (λi _=>n-(intOf i).toNat)
 ·exact⟨0,yu _,rfl,ac,ai⟩
 clear ac ai ah ap;obtain⟨k,hk,rfl,HS,HB⟩:=hrel;have ad:=hid (HT.out.below HB.out);have aj:=hid (HH.out.below HB.out);have t0:=ad.out.c0;have ah:=ad.out.lt;have ap:=aj.out.lt;have ay:=HS.out.lt;by_cases ao:k<n
 ·have d0:=aj.out.cd k (by omega);have o0:=ad.out.co k (by omega);have ik:(0:Int)<=(k:Int):=by omega
  have jk:(k:Int)<10:=by omega
  cases hdk:dn k
  ·rw[hdk] at d0;have HX:Hid (SS (k+1)=SS k):=by show _=_;rw[au.out,ye (by rw[hdk];simp)]
   go_wp2_with go_in;go_roundw
   ·exact⟨k+1,by omega,by go_num,by rw[HX.out];first|exact HS|exact HS.out.block rfl,by first|exact HB|exact HB.out.drew⟩
   simp[intOf];omega
  rw[hdk] at d0;obtain⟨i,an,hin⟩:=HO.out k ao hdk;have HX:Hid (SS (k+1)=up1 (SS k) i true):=by show _=_;rw[au.out,yg hdk,an];simp
  rw[an] at o0;have s0:=HS.out.cell (i:=i) (by omega);have s1:=HS.out.frozen i;have ii:(0:Int)<=(i:Int):=by omega
  have ji:(i:Int)<10:=by omega
  clear an;go_wp2_with go_in
  first|go_region|skip
  go_wp2;go_roundw
  ·exact⟨k+1,by omega,by go_num,by rw[HX.out];first|exact HS.out.put (by omega) true|exact(HS.out.put (by omega) true).block rfl,by first|exact HB.out.setCell (by exact yh _) _|exact(HB.out.setCell (by exact yh _) _).drew⟩
  simp[intOf];omega
 have aw:k=n:=by omega
 have ak:Hid (zbO wr w.heap.size (SS n)):=by show zbO _ _ _;rw[<-aw];exact HS.out
 obtain⟨F,hF⟩:∃F:Nat->List Int,F=λm=>((List.range m).filter (SS n)).map λ(i:Nat)=>(i:Int):=⟨_,rfl⟩
 have aE:Hid (F 0=[]):=by show _=_;rw[hF];rfl
 have aF:Hid (∀m,SS n m=true->F (m+1)=F m++[(m:Int)]):=λm h=>by rw[hF];simp[List.range_succ,h]
 have aG:Hid (∀m,SS n m=false->F (m+1)=F m):=λm h=>by rw[hF];simp[List.range_succ,h]
 have aH:Hid (∀m,(F m).length<=m):=λm=>by rw[hF];have:=yau (SS n) (List.range m);simp at this⊢;exact this
 have ar:Hid (zd (((List.range n).filter (shS ow dn root n)).map λ(i:Nat)=>(i:Int))=zd (F n)/\((List.range n).filter (shS ow dn root n)).length=(F n).length):=by show _/\_;rw[hF,aL.out];simp
 obtain⟨wa,aq⟩:∃wa,wa=wr:=⟨_,rfl⟩
 rw[<-aq] at ak HB;have af:=HB.out.size;clear hF HS ad aj ao hk;go_wp2_with go_in;rw[<-aq];clear aq t0 ah ap ay aw;go_loopw[7,8] (λlv i wr=>∃m:Nat,m<=n/\i=.int .i64 m/\Hid (wr.ownsRow wa.heap.size 3 1 lv (F m).length (zd (F m)))/\Hid (Below wa.heap.size wa wr)) (λ_ i _=>n-(intOf i).toNat)
 ·exact⟨0,yu _,rfl,by rw[aE.out];exact yC _ _ _ _,yk _ _⟩
 have aC:=HB;clear HB;obtain⟨m,hm,rfl,HL,HB⟩:=hrel;have aM:=HB.out.size;have am:Below w.heap.size w wr:=aC.out.trans (HB.out.mono af);have ad:=hid (HT.out.below am);have ac:Hid (zbO wr w.heap.size (SS n)):=ak.out.block (HB.out.block _ ak.out.lt);have t0:=ad.out.c0;have ah:=ad.out.lt;have ay:=ac.out.lt;have aD:=hid am;clear am;obtain⟨al,cl,aO,_,_⟩:=zg HL.out;subst aO;by_cases ao:m<n
 ·have s0:=ac.out.cell (i:=m) (by omega);have im:(0:Int)<=(m:Int):=by omega
  have jm:(m:Int)<10:=by omega
  have aN:=aH.out m;cases hsm:SS n m
  ·rw[hsm] at s0;have HX:=hid (aG.out m hsm);go_wp2_with go_in;go_roundw
   ·exact⟨m+1,by omega,by go_num,by rw[HX.out];first|exact HL|exact zcr HL.out rfl,by first|exact HB|exact HB.out.drew⟩
   simp[intOf];omega
  rw[hsm] at s0;have HX:=hid (aF.out m hsm);obtain⟨fl,ae⟩:∃fl,fl=(F m).length:=⟨_,rfl⟩
  rw[<-ae] at HL aN⊢;have aI:=hid ae;clear ae;go_wp2_with(first
   | (at_builtin;refine yy _ rfl _ _ 40 rfl wa.heap.size 3 i0 (.int .i64 0) 1 8 Tryz.underlying40 hi aP aQ aR rfl (by decide) _ _ _ rfl (HL.out.alloc _) ⟨wr.heap.size,0,none⟩ 1 1 [.int .i64 m] rfl rfl ?c1 ?c2 ?c3 ?c4 ?c5 ?_)
   | go_in)
  case c1=>exact cell_one_new _ _ _
  case c2=>intro x hx;simp at hx;subst hx;rfl
  case c3=>unfold maxLen;omega
  case c4=>omega
  case c5=>simp;omega
  intro v' w2 ab aa _;have av:(wr.alloc (.cells #[.int .i64 m] 3)).grownBy w2 (Value.slice al fl cl).ownBlock:=aa;have aK:Hid (w2.ownsRow wa.heap.size 3 1 v' (F (m+1)).length (zd (F (m+1)))):=by show World.ownsRow _ _ _ _ _ _ _;rw[HX.out,zaY,yz,<-aI.out];exact ab
  have aB:Hid (Below wa.heap.size wa w2):=(HB.out.trans ((zj wr _).mono aM)).grown av (by simp;omega) (λx hx=>(HL.out.lt x hx).1);clear ab aa av HL HB s0 t0;go_wp2;go_roundw
  ·exact⟨m+1,by omega,by go_num,aK,aB⟩
  simp[intOf];omega
 have ax:m=n:=by omega
 have aJ:Hid (wr.ownsRow wa.heap.size 3 1 (.slice al (F m).length cl) (F n).length (zd (F n))):=by show World.ownsRow _ _ _ _ _ _ _;rw[<-ax];exact HL.out
 clear ax HL;go_wp2_with go_in;go_ret;refine⟨_,rfl,?_,aD.out⟩;rw[ar.out.1,ar.out.2];exact zan aJ.out af
theorem zvm(w:World)(n:Nat)(vc:Value):zY (w.alloc (.cells #[.int .i64 n,vc,.int .i64 0,.int .i64 0,.int .i64 0,.int .i64 0,.int .i64 0,.int .i64 0,.int .i64 0,.int .i64 0,.int .i64 0,.int .i64 0,.int .i64 0,.int .i64 0,.int .i64 0,.int .i64 0,.int .i64 0,.int .i64 0,.int .i64 0,.int .i64 0,.int .i64 0,.int .i64 0,.int .i64 0,.int .i64 0,.int .i64 0,.int .i64 0,.int .i64 0,.int .i64 0,.int .i64 0,.int .i64 0,.int .i64 0,.int .i64 0] 240)) w.heap.size n vc (λ_=>0) (λ_=>0) (λ_=>0):=by
 have hb:=yx w (.cells #[.int .i64 n,vc,.int .i64 0,.int .i64 0,.int .i64 0,.int .i64 0,.int .i64 0,.int .i64 0,.int .i64 0,.int .i64 0,.int .i64 0,.int .i64 0,.int .i64 0,.int .i64 0,.int .i64 0,.int .i64 0,.int .i64 0,.int .i64 0,.int .i64 0,.int .i64 0,.int .i64 0,.int .i64 0,.int .i64 0,.int .i64 0,.int .i64 0,.int .i64 0,.int .i64 0,.int .i64 0,.int .i64 0,.int .i64 0,.int .i64 0,.int .i64 0] 240);refine⟨⟨_,hb⟩,?_,?_,λi hi=>?_,λi hi=>?_,λi hi=>?_⟩
 ·rw[yi _ _ _ _ _ _ hb];rfl
 ·rw[yi _ _ _ _ _ _ hb];rfl
 ·rw[yi _ _ _ _ _ _ hb]
  match i,hi with
  | 0,_=>rfl
  | 1,_=>rfl
  | 2,_=>rfl
  | 3,_=>rfl
  | 4,_=>rfl
  | 5,_=>rfl
  | 6,_=>rfl
  | 7,_=>rfl
  | 8,_=>rfl
  | 9,_=>rfl
 ·rw[yi _ _ _ _ _ _ hb]
  match i,hi with
  | 0,_=>rfl
  | 1,_=>rfl
  | 2,_=>rfl
  | 3,_=>rfl
  | 4,_=>rfl
  | 5,_=>rfl
  | 6,_=>rfl
  | 7,_=>rfl
  | 8,_=>rfl
  | 9,_=>rfl
 rw[yi _ _ _ _ _ _ hb]
 match i,hi with
 | 0,_=>rfl
 | 1,_=>rfl
 | 2,_=>rfl
 | 3,_=>rfl
 | 4,_=>rfl
 | 5,_=>rfl
 | 6,_=>rfl
 | 7,_=>rfl
 | 8,_=>rfl
 | 9,_=>rfl
theorem ztg(w:World)(root:Nat):zN (w.alloc (.cells #[.int .i64 root,.int .i64 0,.int .i64 0,.int .i64 0,.int .i64 0,.int .i64 0,.int .i64 0,.int .i64 0,.int .i64 0,.int .i64 0,.int .i64 0,.int .i64 0,.int .i64 0,.int .i64 0,.int .i64 0,.int .i64 0,.int .i64 0,.int .i64 0,.int .i64 0,.int .i64 0,.int .i64 0,.bool false,.bool false,.bool false,.bool false,.bool false,.bool false,.bool false,.bool false,.bool false,.bool false] 244)) w.heap.size root (λ_=>0) (λ_=>0) (λ_=>false):=by
 have hb:=yx w (.cells #[.int .i64 root,.int .i64 0,.int .i64 0,.int .i64 0,.int .i64 0,.int .i64 0,.int .i64 0,.int .i64 0,.int .i64 0,.int .i64 0,.int .i64 0,.int .i64 0,.int .i64 0,.int .i64 0,.int .i64 0,.int .i64 0,.int .i64 0,.int .i64 0,.int .i64 0,.int .i64 0,.int .i64 0,.bool false,.bool false,.bool false,.bool false,.bool false,.bool false,.bool false,.bool false,.bool false,.bool false] 244);refine⟨⟨_,hb⟩,?_,λi hi=>?_,λi hi=>?_,λi hi=>?_⟩
 ·rw[yi _ _ _ _ _ _ hb];rfl
 ·rw[yi _ _ _ _ _ _ hb]
  match i,hi with
  | 0,_=>rfl
  | 1,_=>rfl
  | 2,_=>rfl
  | 3,_=>rfl
  | 4,_=>rfl
  | 5,_=>rfl
  | 6,_=>rfl
  | 7,_=>rfl
  | 8,_=>rfl
  | 9,_=>rfl
 ·rw[yi _ _ _ _ _ _ hb]
  match i,hi with
  | 0,_=>rfl
  | 1,_=>rfl
  | 2,_=>rfl
  | 3,_=>rfl
  | 4,_=>rfl
  | 5,_=>rfl
  | 6,_=>rfl
  | 7,_=>rfl
  | 8,_=>rfl
  | 9,_=>rfl
 rw[yi _ _ _ _ _ _ hb]
 match i,hi with
 | 0,_=>rfl
 | 1,_=>rfl
 | 2,_=>rfl
 | 3,_=>rfl
 | 4,_=>rfl
 | 5,_=>rfl
 | 6,_=>rfl
 | 7,_=>rfl
 | 8,_=>rfl
 | 9,_=>rfl
theorem zso(n:Nat)(C:Nat->Nat->Int)(vc:Value)(w:World)(hn:n<=10)(ac:SqR w vc n C):Calls Tryz.prog 176 #[vc] w λe w'=>∃p,e=.returned (.pointer (some ⟨p,0,none⟩))/\w.heap.size<=p/\zY w' p n vc (λ_=>0) (λ_=>0) (zbi (-1) (λ_=>0) n)/\Below w.heap.size w w':=by
 obtain⟨af,cf,rfl,_,_⟩:=ac;have aa:=hid (zvm w n (.slice af n cf));go_in;go_wp2_with fail;go_loopw[4] (λi wr=>∃(k:Nat)(ow:Nat->Int),k<=n/\i=.int .i64 k/\Hid (ow=zbi (-1) (λ_=>0) k)/\Hid (zY wr w.heap.size n (.slice af n cf) (λ_=>0) (λ_=>0) ow)/\Hid (Below w.heap.size w wr)) (λi _=>n-(intOf i).toNat)
 ·exact⟨0,λ_=>0,yu _,rfl,(zkH _ _).symm,aa,zj w _⟩
 clear aa;obtain⟨k,ow,hk,rfl,HO,HT,HB⟩:=hrel;have t0:=HT.out.c0;have hpw:=HT.out.lt;by_cases hlt:k<n
 ·have o0:=HT.out.co k (by omega);have fz:=HT.out.frozen (22+k);have ik:(0:Int)<=(k:Int):=by omega
  have jk:(k:Int)<10:=by omega
  have HX:Hid (up1 ow k (-1)=zbi (-1) (λ_=>0) (k+1)):=by show _=_;rw[HO.out];exact zkw _ _ _
  go_wp2_with go_in;go_roundw
  ·exact⟨k+1,up1 ow k (-1),by omega,by go_num,HX,HT.out.putO (by omega) _,HB.out.setCell (by exact yh _) _⟩
  simp[intOf];omega
 have ab:k=n:=by omega
 have HX:Hid (ow=zbi (-1) (λ_=>0) n):=by show _=_;rw[HO.out,ab]
 clear ab;go_wp2_with go_in;go_ret;exact⟨_,rfl,yh _,by rw[<-HX.out];exact HT.out,HB.out⟩
theorem zl5(n:Nat)(C:Nat->Nat->Int)(vc:Value)(w:World)(hn:n<=10)(an:SqR w vc n C)(hc:zev n C):Calls Tryz.prog 175 #[vc] w λe w'=>e=.returned (.int .i64 0)/\Below w.heap.size w w':=by
 obtain⟨af,cf,rfl,_,hq⟩:=an;have HQ:=hid hq;have HC:=hid hc;clear hq hc;go_in;go_wp2_with fail;go_loopw[3] (λi wr=>∃k:Nat,k<=n/\i=.int .i64 k/\Hid (Below w.heap.size w wr)) (λi _=>n-(intOf i).toNat)
 ·exact⟨0,yu _,rfl,yk _ _⟩
 obtain⟨k,hk,rfl,HB⟩:=hrel;by_cases am:k<n
 ·obtain⟨fg,al,ak,rfl,ab,ae,aa,ad⟩:=HQ.out k am;have x0:=zc HB.out ae ab;have x1:=ya ab HB.out.size;have ik:(0:Int)<=(k:Int):=by omega
  have jk:(k:Int)<(n:Int):=by omega
  clear ad;go_wp2_with go_in;go_roundw
  ·exact⟨k+1,by omega,by go_num,by first|exact HB|exact HB.out.drew⟩
  simp[intOf];omega
 obtain⟨wa,ag⟩:∃wa,wa=wr:=⟨_,rfl⟩
 rw[<-ag] at HB;go_wp2_with go_in;rw[<-ag];clear ag;go_loopw[4] (λi wr=>∃k:Nat,k<=n/\i=.int .i64 k/\Hid (Below w.heap.size w wr)) (λi _=>n-(intOf i).toNat)
 ·exact⟨0,yu _,rfl,HB⟩
 clear HB;obtain⟨k2,hk2,rfl,HB⟩:=hrel;by_cases ac:k2<n
 ·obtain⟨fg,al,ak,rfl,ab,ae,aa,ad⟩:=HQ.out k2 ac;have aj:=hid ad;obtain⟨wo,ah⟩:∃wo,wo=wr:=⟨_,rfl⟩
  rw[<-ah] at HB;clear ad;go_wp2_with fail;rw[<-ah];clear ah;go_loopw[5] (λi wr=>∃k:Nat,k<=n/\i=.int .i64 k/\Hid (Below w.heap.size w wr)) (λi _=>n-(intOf i).toNat)
  ·exact⟨0,yu _,rfl,HB⟩
  clear HB;obtain⟨j,hj,rfl,HB⟩:=hrel;have x0:=zc HB.out ae ab;have x1:=ya ab HB.out.size;have x2:=ya aa HB.out.size;have ik:(0:Int)<=(k2:Int):=by omega
  have jk:(k2:Int)<(n:Int):=by omega
  by_cases ai:j<n
  ·have x3:=zc HB.out (aj.out j ai) aa;have hcb:=HC.out k2 j ac ai;have ij:(0:Int)<=(j:Int):=by omega
   have jj:(j:Int)<(n:Int):=by omega
   go_wp2_with go_in;go_roundw
   ·exact⟨j+1,by omega,by go_num,by first|exact HB|exact HB.out.drew|exact zbP HB.out _⟩
   simp[intOf];omega
  go_wp2_with go_in;go_roundw
  ·exact⟨k2+1,by omega,by go_num,by first|exact HB|exact HB.out.drew⟩
  simp[intOf];omega
 go_wp2_with go_in;go_ret;exact⟨rfl,HB.out⟩
theorem zsO{n:Nat}{C:Nat->Nat->Int}{ow:Nat->Int}(hc:zev n C)(ho:∀c,c<n->ow c=-1):zdU n C (λ_=>0) (λ_=>0) ow 0:=⟨λi j hi hj h=>by have:=hc i j hi hj;omega,λj hj=>.inl (ho j hj),λj k hj _ _ h=>absurd (ho j hj) h,λ_ _ _=>rfl,λ_ _=>yaB _,λ_ _=>yaB _,λ_ _ _=>rfl,λi h=>absurd h (by omega),λ_ _=>by simp,λ_ _=>by simp⟩
theorem zaQ{w:World}{B q o n size:Nat}{e:TypeId}{v y:Value}{xs:List Value}(h:w.ownsRow B e size v n xs)(hq:q<B):(w.setCell ⟨q,o,none⟩ y).ownsRow B e size v n xs:=by
 refine⟨h.1,?_⟩;rcases h.2 with h1|⟨g,cap,cur,h1,h2,h3,h4⟩
 ·exact .inl h1
 exact .inr ⟨g,cap,cur,h1,h2,(yt _ _ _ _ (by show g≠q;omega)).trans h3,h4⟩
theorem zhw{w:World}{b:Nat}{x0 x1 x2 x3 x4 x5:Value}{t:TypeId}(h:w.heap[b]?=some (.cells #[x0,x1,x2,x3,x4,x5] t (0,0))):b<w.heap.size/\w.cell? ⟨b,0,none⟩=some x0/\w.cell? ⟨b,1,none⟩=some x1/\w.cell? ⟨b,2,none⟩=some x2/\w.cell? ⟨b,3,none⟩=some x3/\w.cell? ⟨b,4,none⟩=some x4/\w.cell? ⟨b,5,none⟩=some x5/\∀o,w.frozen? ⟨b,o,none⟩=false:=by refine⟨(yc.1 h).1,?_,?_,?_,?_,?_,?_,λo=>yv w b o _ _ h⟩<;>(rw[yi _ _ _ _ _ _ h];rfl)
def zkS(w:World)(n:Nat)(C:Nat->Nat->Int)(e:Ending)(w':World):Prop:=Below w.heap.size w w'/\((∃g1 g2 g3 col u v cost,e=.returned (.tuple #[.agg #[.bool true,.int .i64 cost,.slice (some ⟨g1,0,none⟩) n n,.slice (some ⟨g2,0,none⟩) n n,.slice (some ⟨g3,0,none⟩) n n,.slice none 0 0],.int .i64 0])/\(w.heap.size<=g1/\w.heap.size<=g2/\w.heap.size<=g3/\g1≠g2/\g1≠g3/\g2≠g3/\za2 w' g1 n col/\za2 w' g2 n u/\za2 w' g3 n v/\zdd n C col u v cost)/\zgz n C=⟨true,cost,col,u,v,λ_=>false⟩) \/∃x S T,e=.returned (.tuple #[.agg #[.bool false,.int .i64 0,.slice none 0 0,.slice none 0 0,.slice none 0 0,x],.int .i64 0])/\(w'.ownsRow w.heap.size 3 1 x ((List.range n).filter S).length (zd (((List.range n).filter S).map λ(i:Nat)=>(i:Int)))/\zhT n C S T)/\zgz n C=⟨false,0,λ_=>0,λ_=>0,λ_=>0,S⟩)
theorem zs6(n:Nat)(C:Nat->Nat->Int)(vc:Value)(w:World)(hn:n<=10)(az:SqR w vc n C)(hc:zev n C):Calls Tryz.prog 112 #[vc] w (zkS w n C):=by
 have bB:=hid az;have HC:=hid hc;have aZ:Hid (∀W,Below w.heap.size w W->_):=λW hW=>zl5 n C vc W hn (az.below hW) hc;have a6:Hid (∀W,Below w.heap.size w W->_):=λW hW=>zso n C vc W hn (az.below hW);obtain⟨af,cf,bo,_,_⟩:=id az;have HVC:=hid bo;subst bo;clear az hc;go_in;go_wp2_with fail;refine(aZ.out _ (zj w _)).mono ?_;rintro e1 w1⟨rfl,aL⟩;have ah:Hid (Below w.heap.size w w1):=(zj w _).trans (aL.mono (by simp));have aV:w1.heap[w.heap.size]?=some (.cells #[.bool false,.int .i64 0,.slice none 0 0,.slice none 0 0,.slice none 0 0,.slice none 0 0] 125 (0,0)):=(aL.block _ (by simp)).trans (yx w _);have ba:=hid aV;have aW:w.heap.size<w1.heap.size:=(yc.1 aV).1;clear aL aV aZ;go_wp2_with fail;refine(a6.out w1 ah.out).mono ?_;rintro e2 w2⟨p,rfl,aT,aU,bb⟩;obtain⟨aB,aE⟩:∃aB,aB=zbi (-1) (λ_=>(0:Int)) n:=⟨_,rfl⟩
 rw[<-aE] at aU;have a8:=hid aU;have aX:=hid bb;have a5:=hid (zsO HC.out (ow:=aB) (λc hc=>by rw[aE];unfold zbi;rw[yg hc]));have a7:Hid (∀x,zdx n C 0 (λ_=>0) (λ_=>0) aB x->zej n C x):=λx h=>by rw[aE] at h;exact h
 have ap:=hid (bB.out.below ah.out);clear aU bb aE a6;go_wp2_with fail;go_loopw[6] (λi wr=>∃(k:Nat)(u v ow:Nat->Int),k<=n/\i=.int .i64 k/\Hid (∀x,zdx n C k u v ow x->zej n C x)/\Hid (zdU n C u v ow k)/\Hid (zY wr p n (.slice af n cf) u v ow)/\Hid (Below w1.heap.size w1 wr)) (λi _=>n-(intOf i).toNat)
 ·exact⟨0,_,_,aB,yu _,rfl,a7,a5,a8,aX⟩
 clear a5 a8 aX a7;obtain⟨k,u,v,ow,hk,rfl,HR,HI,HT,HB⟩:=hrel;have t0:=HT.out.c0;have bj:=HT.out.lt;by_cases ag:k<n
 ·have aH:=hid (ztg wr k);obtain⟨W,hW⟩:∃W,W=wr.alloc (.cells #[.int .i64 k,.int .i64 0,.int .i64 0,.int .i64 0,.int .i64 0,.int .i64 0,.int .i64 0,.int .i64 0,.int .i64 0,.int .i64 0,.int .i64 0,.int .i64 0,.int .i64 0,.int .i64 0,.int .i64 0,.int .i64 0,.int .i64 0,.int .i64 0,.int .i64 0,.int .i64 0,.int .i64 0,.bool false,.bool false,.bool false,.bool false,.bool false,.bool false,.bool false,.bool false,.bool false,.bool false] 244):=⟨_,rfl⟩
  have aM:Below wr.heap.size wr W:=by rw[hW];exact zj wr _
  rw[<-hW] at aH;have a9:=hid (HT.out.below aM);have aY:Hid (Below w1.heap.size w1 W):=HB.out.trans (aM.mono HB.out.size);have bF:w1.heap.size<=wr.heap.size:=HB.out.size;have aS:p≠wr.heap.size:=by omega
  have a2:=hid (zsj p wr.heap.size n k C (.slice af n cf) u v ow (λ_=>0) (λ_=>0) w1 W hn ag aS bF aY.out ap.out HC.out HI.out a9.out aH.out);have bD:=hid hW;clear aM hW;go_wp2_with fail;rw[<-bD.out];refine a2.out.mono ?_;rintro e3 w3⟨far,fr,dn,ord,cnt,bi,bk,bc,au⟩;have ao:=hid bi;have aC:=hid bk;have am:=hid bc;clear bi bk bc a2 a9 aH aY;rcases au with ⟨rfl,⟨aQ,aq⟩,ae⟩|⟨c,rfl,aa,ae⟩
  ·have bA:=hid (zpI HI.out ag aQ aq);have aF:=hid (zlU (HR.out _ (zdx.short ag ae)));clear ae;have a3:=hid (zld p wr.heap.size n k (.slice af n cf) u v ow far fr dn w3 hn ag (λc hc hd=>by
    rcases HI.out.own c hc with h1|⟨i,h1,h2,_⟩
    ·exact absurd h1 (aQ.sub c hc hd).2
    exact⟨i,h1,by omega⟩) aC.out ao.out)
   clear aQ aq;go_wp2_with fail;refine a3.out.mono ?_;rintro e4 w4⟨x,rfl,aR,ar⟩;obtain⟨ax,cx,bG,_,_⟩:=zg aR;have ab:Below w1.heap.size w1 w4:=am.out.trans (ar.mono am.out.size);have ai:Hid (Below w.heap.size w w4):=ah.out.trans (ab.mono ah.out.size);have aA:=(ab.block _ aW).trans ba.out;obtain⟨zl,z0,z1,z2,z3,z4,z5,zf⟩:=zhw aA;have bs:=hid aR;have ac:=ya aW am.out.size;subst bG;clear aR ar ab aA a3 aC ao;go_wp2_with fail;refine yB (v:=.tuple #[.agg #[.bool false,.int .i64 0,.slice none 0 0,.slice none 0 0,.slice none 0 0,.slice ax ((List.range n).filter (shS ow dn k n)).length cx],.int .i64 0]) (by simp[results,Tryz.results112,go_sem,z0,z1,z2,z3,z4,z5]) rfl ?_;refine⟨(((((ai.out.setCell (by exact yh _) _).setCell (by exact yh _) _).setCell (by exact yh _) _).setCell (by exact yh _) _).setCell (by exact yh _) _).setCell (by exact yh _) _,.inr ⟨_,shS ow dn k n,dn,rfl,⟨?_,bA.out⟩,aF.out⟩⟩;exact zan (zaQ (zaQ (zaQ (zaQ (zaQ (zaQ bs.out ac) ac) ac) ac) ac) ac) (by omega)
  have be:=aa.lt;have bx:=hid ae;clear ae;have ad:0<=far c/\far c<=2000000:=by
   have h1:=aa.inv.known c be aa.dne;rcases aa.inv.pos c be with h2|h2
   ·exact absurd h2 h1
   exact⟨h2,aa.small⟩
  have aP:∀x,x<n->dn x=true->0<=far x/\far x<=far c:=λx hx hd=>by
   have h1:=aa.inv.known x hx hd;rcases aa.inv.pos x hx with h2|h2
   ·exact absurd h2 h1
   exact⟨h2,aa.last x hx hd⟩
  obtain⟨bm,bn⟩:=HI.out.ub hn (by omega);have bz:=hid (zqE (far:=far) (dn:=dn) (D:=far c) HI.out);have ay:∀x,x<n->ow x=-1\/∃i:Nat,ow x=i/\i<n:=λx hx=>by
   rcases HI.out.own x hx with h1|⟨i,h1,h2,_⟩
   ·exact .inl h1
   exact .inr ⟨i,h1,by omega⟩
  have an:=hid aa;have f0:=ao.out.cf c (by omega);have aG:Hid (∀W2,Below w3.heap.size w3 W2->Calls Tryz.prog 179 #[.pointer (some ⟨p,0,none⟩),.pointer (some ⟨wr.heap.size,0,none⟩),.int .i64 (far c)] W2 λe w'=>e=.returned (.tuple #[])/\w'.cell? ⟨wr.heap.size,1+c,none⟩=some (.int .i64 (far c))/\Hid (zN w' wr.heap.size k far fr dn)/\Hid (zY w' p n (.slice af n cf) (rzU ow far dn (far c) (up1 u k (u k+far c)) n) (rzV ow far dn (far c) v n) ow)/\Hid (Below w1.heap.size w1 w')):=by intro W2 h2;refine(zrz p wr.heap.size n k (.slice af n cf) u v ow far fr dn (far c) w1 W2 hn ag aS aT (am.out.trans (h2.mono am.out.size)) ad aP (λm hm i hi=>by have:=zv4 HI.out ad aP ag hn m hm i hi;omega) (λi hi=>by have:=bn i hi;omega) (by have:=bm k ag;omega) ay (aC.out.below h2) (ao.out.below h2)).mono ?_;rintro e4 w4⟨rfl,h4,t4,b4⟩;exact⟨rfl,h4.cf c (by omega),h4,t4,b4⟩
  obtain⟨fc,aO⟩:∃fc,fc=far c:=⟨_,rfl⟩
  rw[<-aO] at f0 aG;have bq:=hid aO;have ic:(0:Int)<=(c:Int):=by omega
  have jc:(c:Int)<10:=by omega
  have c1:((c:Int)==(-1:Int))=false:=by simp
  have hp3:=aC.out.lt;have hq3:=ao.out.lt;clear aa ad aP bm bn ay aO t0 bj;go_wp2_with fail;refine(aG.out _ (by first|exact yk _ _|exact(yk _ _).drew)).mono ?_;rintro e4 w4⟨rfl,x0,a4,aI,ai⟩;clear x0 f0 aG;rw[bq.out] at aI;have a0:=hid (ztF p wr.heap.size n k c cnt C (.slice af n cf) u v _ _ ow far fr dn ord w1 w4 hn aS aT ai.out an.out HI.out aI.out a4.out);go_wp2_with fail;refine a0.out.mono ?_;rintro e5 w5⟨rfl,Wp,j,ow',bh,bf,bg,bl,bd⟩;have bw:Hid (∀x,zdx n C (k+1) (rzU ow far dn (far c) (up1 u k (u k+far c)) n) (rzV ow far dn (far c) v n) ow' x->zej n C x):=λx h=>HR.out x (zdx.more ag bx.out bg h);clear bg;have br:=hid (zrD HI.out ag an.out bz.out bh bf);have bC:=hid bl;have bp:=hid bd;clear bh bf bl bd a0 a4 aI ai;go_wp2_with fail;go_roundw
  ·exact⟨k+1,_,_,ow',by omega,by go_num,bw,br,bC,bp⟩
  simp[intOf];omega
 have bE:k=n:=by omega
 subst bE;have aw:=zoG hn HI.out;have aN:=zlU (HR.out _ zdx.done);have aK:=zkV HI.out;have aJ:=hid aw;have a1:=hid (zqG p k C (.slice af k cf) u v ow w1 wr hn aT HB.out ap.out HC.out (λj hj=>by obtain⟨i,h1,h2,_⟩:=aK j hj;exact⟨i,h1,h2⟩) (λj hj=>by obtain⟨i,h1,h2,h3,_⟩:=aK j hj;have:=(HC.out i j h2 hj).1;rw[h1];simp;omega) HT.out);clear aw aK;go_wp2_with fail;refine a1.out.mono ?_;rintro e4 w4⟨g1,g2,g3,rfl,l1,l2,l3,n12,n13,n23,r1,r2,r3,ar⟩;have ab:Below w1.heap.size w1 w4:=HB.out.trans (ar.mono HB.out.size);have ai:Hid (Below w.heap.size w w4):=ah.out.trans (ab.mono ah.out.size);have aA:=(ab.block _ aW).trans ba.out;obtain⟨zl,z0,z1,z2,z3,z4,z5,zf⟩:=zhw aA;have hsz:=HB.out.size;have bt:=hid r1;have bu:=hid r2;have bv:=hid r3;obtain⟨aD,av⟩:∃aD,aD=zQ (λc=>C (ow c).toNat c) (List.range k):=⟨_,rfl⟩
 rw[<-av] at aJ aN⊢;have aF:=hid aN;clear aN;have aj:g1≠w.heap.size:=by omega
 have ak:g2≠w.heap.size:=by omega
 have al:g3≠w.heap.size:=by omega
 clear ar ab aA a1 r1 r2 r3 av t0 bj;go_wp2_with fail;refine yB (v:=.tuple #[.agg #[.bool true,.int .i64 aD,.slice (some ⟨g1,0,none⟩) k k,.slice (some ⟨g2,0,none⟩) k k,.slice (some ⟨g3,0,none⟩) k k,.slice none 0 0],.int .i64 0]) (by simp[results,Tryz.results112,go_sem,z0,z1,z2,z3,z4,z5]) rfl ?_;refine⟨(((((ai.out.setCell (by exact yh _) _).setCell (by exact yh _) _).setCell (by exact yh _) _).setCell (by exact yh _) _).setCell (by exact yh _) _).setCell (by exact yh _) _,.inl ⟨g1,g2,g3,zcY ow k,u,v,aD,rfl,⟨by omega,by omega,by omega,n12,n13,n23,?_,?_,?_,aJ.out.1⟩,aF.out⟩⟩
 ·exact(((((bt.out.aside aj _).aside aj _).aside aj _).aside aj _).aside aj _).aside aj _
 ·exact((((((bu.out.aside ak _).aside ak _).aside ak _).aside ak _).aside ak _).aside ak _).congr aJ.out.2
 exact(((((bv.out.aside al _).aside al _).aside al _).aside al _).aside al _).aside al _
end Go.Proofs.YtebinaopncclgabGreatDoor
