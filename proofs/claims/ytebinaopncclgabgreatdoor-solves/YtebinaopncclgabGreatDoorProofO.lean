import Derived.Test.YtebinaopncclgabGreatDoorKPlay
import Derived.Test.YtebinaopncclgabGreatDoorTie
import Derived.Test.YtebinaopncclgabGreatDoorCards
import Derived.LaidMore
import Derived.Stop.Joined
set_option maxRecDepth 100000
set_option maxHeartbeats 8000000
namespace Go.Proofs.YtebinaopncclgabGreatDoor
open Go.ChangeShapes Go.WideShapes Go.ChangeAt Go.WideMaps Go.WideElems Go.RowKit Go.Deep
theorem zuQ{W:World}(h:laidMetH Tryz.prog Rows.solvesRow.laid W):Lib.TabIs Tryz.prog W "internal/strconv.uint64pow10" .u64 Lib.pow10Tab:=by
 rw[MakeChecks.laidMetH_plain _ _ _ (by kernel_rfl)] at h;obtain⟨ps,⟨g0,t0,cs0,f0,p0,q0,hg0,ht0,hv0,hd0,⟨g1,t1,cs1,f1,p1,q1,hg1,ht1,hv1,hd1,⟨g2,t2,aa,f2,p2,q2,ac,ad,ae,ab,_,_⟩,_⟩,_⟩,_,_⟩:=h;have eg:Tryz.prog.globalNamed "internal/strconv.uint64pow10" = some 0:=by kernel_rfl
 have et:(Tryz.prog.globals[0]?).map (·.type)=some 278:=by kernel_rfl
 obtain rfl:=ybL (eg.symm.trans ac);obtain rfl:=ybL (et.symm.trans ad);have hd:DataW.trod (H:=Unit) _ Tryz.prog W _ _ _ f2 278 aa.toList=some (Lib.tabData .u64 Lib.pow10Tab,p2):=ab;unfold Lib.TabIs;rw[ae,<-Lib.cells_of_tab Tryz.underlying278 Tryz.underlying270 (by kernel_rfl) (by kernel_rfl) hd]
theorem zt3(os:Os)(args:Array Value):laidMetH Tryz.prog Rows.solvesRow.laid ((World.doorLaid Tryz.prog 400 os).forCall (λ_ _=>0) ⟨#[],args,[]⟩).memory:=laidMetH_of_parts3 (fuel:=8) (laidMet_of_run' 8 (by kernel_rfl) (by kernel_rfl)) (by kernel_rfl) (by kernel_rfl)
theorem zle(os:Os)(aa:os.Started)(H:Type)(enc:TypeId×Value->H):ReturnsInHanded {} Tryz.checked os 5 .any (λw args=>(Rows.solvesSpec.pre enc Tryz.prog Tryz.f5 [] false w args/\laidMetH Tryz.prog Rows.solvesRow.laid w)/\sizedMet enc Tryz.prog Tryz.f5 (OpenSpec.ofChange Rows.solvesSpec) false w args) (Rows.solvesSpec.post enc Tryz.prog Tryz.f5 false true false false):=by
 refine returnsInHanded_of_change_and (C:=Tryz.checked) (X:=λw _=>laidMetH Tryz.prog Rows.solvesRow.laid w) (λ_ _ _ hh h=>h.of_heap hh) own aa (by kernel_rfl) Tryz.func5 (ChangeSpec.witness_shaped (enc:=enc) (C:=Tryz.checked) (os:=os) (X:=λw _=>laidMetH Tryz.prog Rows.solvesRow.laid w) false (World.doorLaid Tryz.prog 400 os) #[.slice none 0 0] 8 rfl (World.shaped_of_RefB (by kernel_rfl) (by kernel_rfl)) (by kernel_rfl) (by kernel_rfl) (by kernel_rfl) (zt3 os _)) ?_;intro W base args ds gs before ab hW _ hsz hL _;have ac:∀(j:Nat) t v,Tryz.f5.params[j]?=some t->args[j]?=some v->Value.okWide Tryz.prog W .any base t v:=ab;have ag:=hW;obtain⟨p,q,af,hV,rfl,hfz,hnd⟩:=hW;have hA:DataW.TrodAll enc Tryz.prog W 0 (λ_=>true) true Tryz.f5.params.toList args.toList ds p:=af;rw[Tryz.params5] at hA ac;obtain⟨v0,vs0,d0,ds0,p0,q0,hargs,rfl,rfl,h0,r0⟩:=trodAll_cons hA;obtain⟨rfl,rfl,rfl⟩:=trodAll_nil r0;obtain rfl:args=#[v0]:=by cases args;simp_all
 obtain⟨rfl,rfl⟩:=trodVars_none hV;have k0:=h0;have ai:∀x∈p0,x.block<W.heap.size:=by obtain⟨m,hm⟩:=k0;exact DataW.trod_lt m _ _ _ hm
 obtain⟨fuel,hf⟩:=h0;have ah:v0.cells.toList=[v0]:=by obtain⟨a,len,cap,rfl⟩:=okWide_slice Tryz.underlying22 (ac 0 22 v0 rfl rfl);rfl
 rw[ah] at hf;obtain⟨ao,n,c,aj,rfl,hS,ae,ad⟩:=znA hf;have hn:n<=703687441776:=by refine znk (H:=H) (d:=d0) ?_ ad;have h1:=hsz;rw[Tryz.params5] at h1;exact h1
 clear af ab;refine(zm2 ao n c aj W hn hS (Lib.tabBelow_of_tabIs (zuQ hL)) ae).mono λe W' ⟨he,bel⟩=>?_;subst he;exact⟨_,rfl,_,_,_,[],_,[],ag,trodAll_mk1 (shut_bool Tryz.underlying4 _),(trodAll_cons_mk (Below.trod zuX (by kernel_rfl) (yaE (by kernel_rfl)) k0 bel ai) trodAll_mk0),rfl,bel.frame _,λh=>by cases h⟩
theorem znw:Rows.SolvesSaid:=OpenClaim.holds_of_wide 5 Tryz.f5 rfl rfl rfl rfl rfl rfl rfl ⟨rfl,rfl,rfl,rfl,rfl⟩ rfl rfl rfl rfl rfl (by kernel_rfl) Tryz.func5 (by kernel_rfl) (yaE (by kernel_rfl)) (by unfold Func.isWrapper;first|(rw[yg (by decide +kernel)];kernel_rfl)|(rw[ye (by decide +kernel)];exact⟨rfl,rfl⟩)) (λos started H enc _=>zle os started H enc)
theorem solves_holds:Rows.SolvesCardSaid:=
 Claim7.holds_tied_plain_at .later [] [.data,.data,.data] true Rows.solvesCard.stood.harness false znw (λ_ h=>by cases h) (by kernel_rfl) (λ_ h=>by cases h) solves_row_tie rfl ⟨rfl,rfl⟩ (by kernel_rfl) rfl (λf fn hf ab=>by
   obtain rfl:f=5:=ybL ((show Tryz.prog.funcNamed Rows.solvesRow.func=some 5 by kernel_rfl).symm.trans hf) |>.symm;obtain rfl:fn=Tryz.f5:=(ybL (Tryz.func5.symm.trans ab)).symm;exact⟨by kernel_rfl,λj t ht=>by
    rw[Tryz.params5] at ht;have hm:t∈[22]:=by simpa using Array.mem_of_getElem? ht
    have aa:([22].all λu=>!Tryz.prog.wantsStandIn u)=true:=by kernel_rfl
    exact(show Tryz.prog.wantsStandIn t=false by simpa using yF.1 aa t hm)⟩)
  (by kernel_rfl)
#print axioms solves_holds
end Go.Proofs.YtebinaopncclgabGreatDoor
