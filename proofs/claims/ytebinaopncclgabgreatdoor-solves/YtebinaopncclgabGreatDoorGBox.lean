import Derived.Deep.WholeRow
import Derived.Test.YtebinaopncclgabGreatDoorSTour
set_option maxRecDepth 100000
set_option maxHeartbeats 8000000
namespace Go.Proofs.YtebinaopncclgabGreatDoor
open Go.RowKit Go.IntWalk
def zbg(x:Int)(vf:Value):Array Value:=#[.int .i64 x,vf]++Array.replicate 64 (.int .i64 0)
theorem zq6(W:World):(zeroValue 87).run Tryz.prog W=.ok (.agg (zbg 0 (.slice none 0 0))) W:=by kernel_rfl
theorem ztQ(x:Int)(vf:Value):¬zbg x vf=#[]:=by intro h;have:=yan Array.size h;simp[zbg] at this
theorem zuk(W:World):(isAgg 87).run Tryz.prog W=.ok true W:=by kernel_rfl
theorem zqH(W:World):(sizeOf 87).run Tryz.prog W=.ok 66 W:=by kernel_rfl
theorem zix{P:Program}{fn:Func}{aa:Array Value}{a:Nat}{t:TypeId}{p:Addr}{c:Array Value}{n:Nat}{w:World}(hr:fn.results=#[.cell a t])(ha:aa.getD a undef=.pointer (some p))(hg:(isAgg t).run P w=.ok true w)(hz:(sizeOf t).run P w=.ok n w)(hl:(loadCellsFrom p 0 n #[]).run P w=.ok c w):(results fn aa).run P w=.ok (.agg c) w:=by
 have ab:aa[a]?.getD undef=.pointer (some p):=by simpa using ha
 unfold results;rw[hr];simp[loadVar,loadCells,ab,hg,hz,hl,asAddr]
theorem zrK(B B':Nat)(r:Rd)(vs vr:Value)(w:World)(hn:zE r)(hs:w.ownsRow B 62 5 vs r.stops.length (zd r.stops.flatten))(hr:w.ownsRow B' 64 3 vr r.roads.length (zd r.roads.flatten)):Calls Tryz.prog 87 #[zap r vs vr] w λe w'=>∃v,e=.returned (.agg (zbg r.vans v))/\zbj w' w.heap.size v (r.stops.length+1) (λi j=>zfi r (zbd r i) (zbd r j))/\Below w.heap.size w w':=by
 have ar:Hid (∀W,Below w.heap.size w W->Calls Tryz.prog 38 #[zap r vs vr] W λe w'=>∃v,e=.returned v/\zbj w' W.heap.size v (r.stops.length+1) (λi j=>zfi r (zbd r i) (zbd r j))/\Below W.heap.size W w'):=λW hW=>ziD B B' r vs vr W hn (ze hs hW) (ze hr hW);have hns:=hn.nstops;obtain⟨ak,ac,rfl,_,_⟩:=zg hs;obtain⟨aj,ab,rfl,_,_⟩:=zg hr;clear hs hr hn;unfold zap at*;have hzv:=zq6;have hzn:=ztQ;go_in;go_wp2_with fail;refine(ar.out _ (zaa w _ _)).mono ?_;rintro e1 w1⟨v1,rfl,am,ad⟩;have au:=hid am;have av:Hid (Below w.heap.size w w1):=(zaa w _ _).trans (ad.mono (by simp;omega));have d0:w1.cell? ⟨w.heap.size,0,none⟩=some (.int .i64 r.vans):=(ad.cell (by simp;omega)).trans (by simp[go_sem]);have hz:w.heap.size+2<=w1.heap.size:=by have:=ad.size;simp at this;omega
 have aa:w1.heap[w.heap.size+1]?=some (.cells (zbg 0 (.slice none 0 0)) 87 (0,0)):=(ad.block _ (by simp)).trans (by have h:=yx (w.alloc (.cells #[.int .i64 r.vans,.int .i64 r.load,.int .i64 r.close,.int .i64 r.nodes,.int .i64 r.home,.slice ak r.stops.length ac,.slice aj r.roads.length ab] 28)) (.cells (zbg 0 (.slice none 0 0)) 87);rw[show (w.alloc (.cells #[.int .i64 r.vans,.int .i64 r.load,.int .i64 r.close,.int .i64 r.nodes,.int .i64 r.home,.slice ak r.stops.length ac,.slice aj r.roads.length ab] 28)).heap.size=w.heap.size+1 by simp] at h;exact h);obtain⟨g7,_,rfl,_⟩:=am;clear ad;have ao:(((zbg 0 (.slice none 0 0)).toList.set 0 (Value.int .i64 r.vans)).set 1 (.slice (some ⟨g7,0,none⟩) (r.stops.length+1) (r.stops.length+1)))=(zbg r.vans (.slice (some ⟨g7,0,none⟩) (r.stops.length+1) (r.stops.length+1))).toList:=by unfold zbg;rw[ybk,ybk];rfl
 obtain⟨vx,ai⟩:∃vx,vx=Value.slice (some ⟨g7,0,none⟩) (r.stops.length+1) (r.stops.length+1):=⟨_,rfl⟩
 have ae:vx.oneCell'=true:=by rw[ai];rfl
 have ay:Sem.run Tryz.prog (storeCells ⟨w.heap.size+1,0,none⟩ (((zbg 0 (.slice none 0 0)).toList.set 0 (Value.int .i64 r.vans)).set 1 (.slice (some ⟨g7,0,none⟩) (r.stops.length+1) (r.stops.length+1)))) w1=.ok () (w1.setRow (w.heap.size+1) (zbg r.vans (.slice (some ⟨g7,0,none⟩) (r.stops.length+1) (r.stops.length+1)))):=by
  rw[ao,<-ai];have h:=run_storeCells_from (P:=Tryz.prog) (w.heap.size+1) 87 (zbg r.vans vx).toList 0 _ w1 aa (by rw[yat,ybl];unfold zbg;rw[yaN,yaN];rfl) (by
   intro u hu;simp only[zbg,ybk,yH,ycd,List.mem_replicate] at hu;rcases hu with hu|hu
   ·simp at hu;rcases hu with rfl|rfl
    ·rfl
    exact ae
   rw[hu.2];rfl)
  rw[ybP,yax,ybj] at h;exact h
 obtain⟨w2,ag⟩:∃w2,w2=w1.setRow (w.heap.size+1) (zbg r.vans (.slice (some ⟨g7,0,none⟩) (r.stops.length+1) (r.stops.length+1))):=⟨_,rfl⟩
 rw[<-ag] at ay;have ax:Sem.run Tryz.prog (loadCellsFrom ⟨w.heap.size+1,0,none⟩ 0 66 #[]) w2=.ok (zbg r.vans (.slice (some ⟨g7,0,none⟩) (r.stops.length+1) (r.stops.length+1))) w2:=by
  have h:=run_loadCells_list (P:=Tryz.prog) w2 ⟨w.heap.size+1,0,none⟩ (zbg r.vans (.slice (some ⟨g7,0,none⟩) (r.stops.length+1) (r.stops.length+1))).toList (λj v hv=>by
   have ah:(⟨w.heap.size+1,0,none⟩:Addr).add j=⟨w.heap.size+1,j,none⟩:=by unfold Addr.add;split<;>simp_all
   rw[ah,ag,cell_setRow_same _ _ _ _ _ _ _ aa];simpa using hv);rw[show (zbg r.vans (.slice (some ⟨g7,0,none⟩) (r.stops.length+1) (r.stops.length+1))).toList.length=66 by rw[ybl];unfold zbg;rw[yaN,ybK];rfl,ybj] at h;exact h
 have aq:Hid (Below w.heap.size w w2):=by show Below _ _ _;rw[ag];exact av.out.trans ⟨rfl,rfl,rfl,by simp,λk hk=>yb2 w1 _ k _ (by omega)⟩
 have aw:=hid ag;clear ag ao aa ai ae;go_wp2;refine yB (v:=.agg (zbg r.vans (.slice (some ⟨g7,0,none⟩) (r.stops.length+1) (r.stops.length+1)))) (zix (t:=87) Tryz.results87 ?ra (zuk _) (zqH _) ax) rfl ?_
 case ra=>simp
 refine⟨_,rfl,?_,aq.out⟩;obtain⟨g,G,h1,h2,h3,h4⟩:=au.out;cases h1;have an:∀k,w.heap.size+2<=k->w2.heap[k]?=w1.heap[k]?:=λk hk=>by rw[aw.out];exact yb2 w1 _ k _ (by omega)
 refine(show zbj w2 (w.heap.size+2) _ _ _ from⟨g7,G,rfl,?_,λi hi=>?_,h4⟩).base (by omega)
 ·have al:=zan (B':=w.heap.size+2) h2 (by simp);rcases al.2 with ⟨hh,_⟩|⟨g',cap,cur,hv,hb,hg,af⟩
  ·cases hh
  exact⟨al.1,.inr ⟨g',cap,cur,hv,hb,(by rw[an g' hb];exact hg),af⟩⟩
 obtain⟨k1,ci,k2,k3⟩:=h3 i hi;have ap:w.heap.size+2<=G i:=by simp at k1;omega
 exact⟨ap,ci,by rw[an _ ap];exact k2,k3⟩
def zbl(x:Int)(vf:Value):Array Value:=zbg x vf++#[.slice none 0 0]
theorem zpq(W:World):(zeroValue 90).run Tryz.prog W=.ok (.agg (zbl 0 (.slice none 0 0))) W:=by kernel_rfl
theorem zrP(W:World):(isAgg 90).run Tryz.prog W=.ok true W:=by kernel_rfl
theorem zph(W:World):(sizeOf 90).run Tryz.prog W=.ok 67 W:=by kernel_rfl
theorem zp4(x:Int)(vf:Value):Array.foldl (λ(cs:Array Value)(x:Value×Nat)=>cs.setIfInBounds x.snd x.fst) (zbl 0 (.slice none 0 0)) (zbg x vf).zipIdx 0 66=zbl x vf:=by kernel_rfl
theorem ze2(x:Int)(vf:Value):(zbl x vf).size=67:=by unfold zbl zbg;rw[yaN,yaN,ybK];rfl
theorem zjm{x:Int}{vf:Value}(h:vf.oneCell'=true):∀u∈(zbl x vf).toList,u.oneCell'=true:=by
 intro u hu;simp only[zbl,zbg,ybk,yH,ycd,List.mem_replicate] at hu;rcases hu with (hu|hu)|hu
 ·simp at hu;rcases hu with rfl|rfl
  ·rfl
  exact h
 ·rw[hu.2];rfl
 simp at hu;rw[hu];rfl
theorem zsM(x:Int)(vf:Value):¬zbl x vf=#[]:=by intro h;have:=yan Array.size h;simp[zbl] at this
theorem zue(B B':Nat)(r:Rd)(vs vr:Value)(w:World)(hn:zE r)(hs:w.ownsRow B 62 5 vs r.stops.length (zd r.stops.flatten))(hr:w.ownsRow B' 64 3 vr r.roads.length (zd r.roads.flatten)):Calls Tryz.prog 40 #[zap r vs vr] w λe w'=>∃v,e=.returned (.agg (zbl r.vans v))/\zbj w' w.heap.size v (r.stops.length+1) (λi j=>zfi r (zbd r i) (zbd r j))/\Below w.heap.size w w':=by
 have aw:Hid (∀W,Below w.heap.size w W->Calls Tryz.prog 87 #[zap r vs vr] W λe w'=>∃v,e=.returned (.agg (zbg r.vans v))/\zbj w' W.heap.size v (r.stops.length+1) (λi j=>zfi r (zbd r i) (zbd r j))/\Below W.heap.size W w'):=λW hW=>zrK B B' r vs vr W hn (ze hs hW) (ze hr hW);have hns:=hn.nstops;obtain⟨am,ad,rfl,_,_⟩:=zg hs;obtain⟨al,ac,rfl,_,_⟩:=zg hr;clear hs hr hn;unfold zap at*;have hzv:=zpq;have hzn:=zsM;go_in;go_wp2_with fail;refine(aw.out _ (zaa w _ _)).mono ?_;rintro e1 w1⟨v1,rfl,ap,ah⟩;have ax:=hid ap;have ay:Hid (Below w.heap.size w w1):=(zaa w _ _).trans (ah.mono (by simp;omega));have hz:w.heap.size+2<=w1.heap.size:=by have:=ah.size;simp at this;omega
 have ab:w1.heap[w.heap.size+1]?=some (.cells (zbl 0 (.slice none 0 0)) 90 (0,0)):=(ah.block _ (by simp)).trans (by have h:=yx (w.alloc (.cells #[.int .i64 r.vans,.int .i64 r.load,.int .i64 r.close,.int .i64 r.nodes,.int .i64 r.home,.slice am r.stops.length ad,.slice al r.roads.length ac] 28)) (.cells (zbl 0 (.slice none 0 0)) 90);rw[show (w.alloc (.cells #[.int .i64 r.vans,.int .i64 r.load,.int .i64 r.close,.int .i64 r.nodes,.int .i64 r.home,.slice am r.stops.length ad,.slice al r.roads.length ac] 28)).heap.size=w.heap.size+1 by simp] at h;exact h);obtain⟨g7,_,rfl,_⟩:=ap;clear ah;obtain⟨cz,ai⟩:∃cz,cz=zbg r.vans (.slice (some ⟨g7,0,none⟩) (r.stops.length+1) (r.stops.length+1)):=⟨_,rfl⟩
 have hcs:cz.size=66:=by rw[ai];unfold zbg;rw[yaN,ybK];rfl
 have aA:Array.foldl (λ(cs:Array Value)(x:Value×Nat)=>cs.setIfInBounds x.snd x.fst) (zbl 0 (.slice none 0 0)) cz.zipIdx 0 66=zbl r.vans (.slice (some ⟨g7,0,none⟩) (r.stops.length+1) (r.stops.length+1)):=by rw[ai];exact zp4 _ _
 rw[<-ai];obtain⟨c2,ae⟩:∃c2,c2=zbl r.vans (.slice (some ⟨g7,0,none⟩) (r.stops.length+1) (r.stops.length+1)):=⟨_,rfl⟩
 rw[<-ae] at aA;have aa:c2.size=67:=by rw[ae];exact ze2 _ _
 have ak:(zbl 0 (.slice none 0 0)).size=67:=ze2 _ _;have an:∀u∈c2.toList,u.oneCell'=true:=by rw[ae];exact zjm rfl
 have aC:Sem.run Tryz.prog (storeCells ⟨w.heap.size+1,0,none⟩ c2.toList) w1=.ok () (w1.setRow (w.heap.size+1) c2):=by have h:=run_storeCells_from (P:=Tryz.prog) (w.heap.size+1) 90 c2.toList 0 _ w1 ab (by rw[yat,ybl,aa,ak]) an;rw[ybP,yax,ybj] at h;exact h
 obtain⟨w2,ag⟩:∃w2,w2=w1.setRow (w.heap.size+1) c2:=⟨_,rfl⟩
 rw[<-ag] at aC;have aB:Sem.run Tryz.prog (loadCellsFrom ⟨w.heap.size+1,0,none⟩ 0 67 #[]) w2=.ok c2 w2:=by
  have h:=run_loadCells_list (P:=Tryz.prog) w2 ⟨w.heap.size+1,0,none⟩ c2.toList (λj v hv=>by
   have aj:(⟨w.heap.size+1,0,none⟩:Addr).add j=⟨w.heap.size+1,j,none⟩:=by unfold Addr.add;split<;>simp_all
   rw[aj,ag,cell_setRow_same _ _ _ _ _ _ _ ab];simpa using hv);rw[ybl,aa,ybj] at h;exact h
 have au:Hid (Below w.heap.size w w2):=by show Below _ _ _;rw[ag];exact ay.out.trans ⟨rfl,rfl,rfl,by simp,λk hk=>yb2 w1 _ k _ (by omega)⟩
 have az:=hid ag;have av:=hid ae;have HC2S:=hid aa;clear ag ab ai ae an;go_wp2_with fail;refine yB (v:=.agg c2) (zix (t:=90) Tryz.results40 ?ra (zrP _) (zph _) aB) rfl ?_
 case ra=>simp
 refine⟨.slice (some ⟨g7,0,none⟩) (r.stops.length+1) (r.stops.length+1),by rw[av.out],?_,au.out⟩;obtain⟨g,G,h1,h2,h3,h4⟩:=ax.out;cases h1;have aq:∀k,w.heap.size+2<=k->w2.heap[k]?=w1.heap[k]?:=λk hk=>by rw[az.out];exact yb2 w1 _ k _ (by omega)
 refine(show zbj w2 (w.heap.size+2) _ _ _ from⟨g7,G,rfl,?_,λi hi=>?_,h4⟩).base (by omega)
 ·have ao:=zan (B':=w.heap.size+2) h2 (by simp);rcases ao.2 with ⟨hh,_⟩|⟨g',cap,cur,hv,hb,hg,af⟩
  ·cases hh
  exact⟨ao.1,.inr ⟨g',cap,cur,hv,hb,(by rw[aq g' hb];exact hg),af⟩⟩
 obtain⟨k1,ci,k2,k3⟩:=h3 i hi;have ar:w.heap.size+2<=G i:=by simp at k1;omega
 exact⟨ar,ci,by rw[aq _ ar];exact k2,k3⟩
theorem zfP{w:World}{b:Nat}{t:TypeId}{r:Rd}{vs vr vf:Value}(h:w.heap[b]?=some (.cells (zi r vs vr vf) t (0,0))):w.cell? ⟨b,0,none⟩=some (.int .i64 r.vans)/\w.cell? ⟨b,1,none⟩=some (.int .i64 r.load)/\w.cell? ⟨b,2,none⟩=some (.int .i64 r.close)/\w.cell? ⟨b,3,none⟩=some (.int .i64 r.nodes)/\w.cell? ⟨b,4,none⟩=some (.int .i64 r.home)/\w.cell? ⟨b,5,none⟩=some vs/\w.cell? ⟨b,6,none⟩=some vr/\w.cell? ⟨b,7,none⟩=some vf:=by refine⟨?_,?_,?_,?_,?_,?_,?_,?_⟩<;>(rw[yi w b _ _ _ _ h];rfl)
end Go.Proofs.YtebinaopncclgabGreatDoor
