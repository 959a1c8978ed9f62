import Derived.Test.YtiamlbhkiehilaaGreatDoorAn50
import Derived.Test.YtiamlbhkiehilaaGreatDoorRows
import Derived.Test.YtiamlbhkiehilaaGreatDoorCards
import Derived.Test.YtiamlbhkiehilaaGreatDoorTie
namespace Go.Proofs.YtiamlbhkiehilaaGreatDoor
section
open Go.ChangeShapes Go.WideShapes Go.ChangeAt Go.RowKit Go.Deep Go.ChangeMaps
set_option maxRecDepth 100000 in
theorem analyses_contract (H:Type) (enc:TypeId × Value→H) (W:World) (base:Nat) (args:Array Value) (ds gs:List (DataW H)) (before:List MemPlace)
  (hval:∀ (j:Nat) t v,Tryz.f3.params[j]?=some t→args[j]?=some v→Value.okWide Tryz.prog W .any base t v)
  (hW:DataW.Whole enc Tryz.prog Tryz.f3.params.toList Rows.analysesSpec.vars false W args.toList ds gs before) (hL:laidMet Tryz.prog Rows.analysesRow.laid W) (hsh:W.ShapedOpen Tryz.prog) :
  Calls Tryz.prog 3 args W fun e W'=>∃ v,e=.returned v∧Rows.analysesSpec.post enc Tryz.prog Tryz.f3 false true false false W args v W':=by
 have hW':=hW
 obtain ⟨p,q,hA0,hV,rfl,_,_⟩:=hW
 have hA:DataW.TrodAll enc Tryz.prog W 0 (fun _=>true) true Tryz.f3.params.toList args.toList ds p:=hA0
 rw [Tryz.params3] at hA hval
 obtain ⟨v0,v1,d0,d1,p0,p1,rfl,rfl,rfl,h0,h1⟩:=trodAll_two hA
 obtain ⟨rfl,rfl⟩:=trodVars_none hV
 obtain ⟨s0,rfl,rfl,rfl,z0⟩:=open_string Tryz.underlying9 (hval 0 9 v0 rfl rfl) h0
 obtain ⟨c,rfl,rfl,rfl,z1⟩:=open_cfg (hval 1 24 v1 rfl rfl) h1
 clear hA0
 obtain ⟨m,hm⟩:=maxlen_cell W hsh
 obtain ⟨hT,hTl⟩:=tab_of_laid hL
 have hml:=World.block_lt_of_cell? _ _ hm
 haveI:DP:=fun fs a b=>Classical.propDecidable (Pts fs a b)
 refine (analyses_walk s0 c W m z0 hm hml hT hTl).mono fun e W' ⟨he,hnx⟩=>?_
 subst he
 exact ⟨_,rfl,_,_,_,[],[],[],hW',trodAll_mk1 (shut_bool Tryz.underlying4 true),trodAll_mk2 (shut_string Tryz.underlying9 z0) (shut_cfg z1),rfl,hnx.frame _,fun h=>by cases h⟩
set_option maxRecDepth 100000 in
theorem analyses_lifted (os:Os) (started:os.Started) (H:Type) (enc:TypeId × Value→H) (F:Stop.Interp) :
  ReturnsInHanded {} Tryz.checked os 3 .any ((OpenSpec.ofChange Rows.analysesSpec).preRow enc Tryz.prog Tryz.f3 Rows.analysesRow.domain false Rows.analysesRow.laid) (((OpenSpec.ofChange Rows.analysesSpec).at F).post enc Tryz.prog Tryz.f3 false true false false):=by
 refine returnsInHanded_of_row (C:=Tryz.checked) (s:=OpenSpec.ofChange Rows.analysesSpec) ownZ started (by kernel_rfl) Tryz.func3
  (witness_row_at (enc:=enc) (C:=Tryz.checked) false { World.holding Tryz.prog os ⟨#[],#[],[]⟩ with heap:=(((World.holding Tryz.prog os ⟨#[],#[],[]⟩).heap.modify 2 layF).modify 3 layR).modify 0 layD } #[.string ⟨#[]⟩,.agg #[.int .i64 0,.bool false,.bool false,.bool false,.bool false]] rfl (by kernel_rfl) (by kernel_rfl) (by kernel_rfl)
   (OpenSpec.preRow_of_cond 8 (x:=([.lit (.string []),.agg [.lit (.int .i64 0),.lit (.bool false),.lit (.bool false),.lit (.bool false),.lit (.bool false)]],[],[])) (by kernel_rfl) (by kernel_rfl) (fun k hk=>by cases hk) (by kernel_rfl) (laidMet_of_run' 8 (by kernel_rfl) (by kernel_rfl)))) ?_
 intro W base args ds gs before hval hW _ hcond _ hL hsh _
 exact analyses_contract H enc W base args ds gs before hval hW hL hsh
theorem analyses_holds:Rows.AnalysesSaid:=
 OpenClaim.holds_of_cond 3 Tryz.f3 rfl rfl rfl rfl rfl rfl rfl ⟨rfl,rfl,rfl,rfl,rfl⟩ rfl rfl rfl rfl rfl (by kernel_rfl) Tryz.func3 (by kernel_rfl)
  (of_decide_eq_true (by kernel_rfl)) (by unfold Func.isWrapper; first | (rw [if_pos (by decide +kernel)]; kernel_rfl) | (rw [if_neg (by decide +kernel)]; exact ⟨rfl,rfl⟩))
  (fun os started H enc _ F=>by rw [OpenClaim.pre_eq_preRow]; exact analyses_lifted os started H enc F)
theorem analyses_plain (f : FuncId) (fn : Func) (hf : Tryz.pinned.checked.prog.funcNamed "quern/quernlaw.Analyses" = some f) (hfn : Tryz.pinned.checked.prog.funcs[f]? = some fn) :
  false=Tryz.pinned.checked.prog.looks []∧∀ (j:Nat) t,fn.params[j]?=some t→Tryz.pinned.checked.prog.wantsStandIn t=false:=by
 obtain rfl : f = 3 := Option.some.inj ((show Tryz.prog.funcNamed "quern/quernlaw.Analyses" = some 3 by kernel_rfl).symm.trans hf) |>.symm
 obtain rfl:fn=Tryz.f3:=(Option.some.inj (Tryz.func3.symm.trans hfn)).symm
 refine ⟨by kernel_rfl,fun j t ht=>?_⟩
 rw [Tryz.params3] at ht
 have hm:=Array.mem_of_getElem? ht
 simp at hm
 rcases hm with rfl | rfl
 ·exact (show Tryz.prog.wantsStandIn 9=false by kernel_rfl)
 ·exact (show Tryz.prog.wantsStandIn 24=false by kernel_rfl)
theorem analyses_card:Rows.AnalysesCardSaid:=
 Claim7.holds_tied_plain_at .later [] _ _ _ _ analyses_holds (fun _ h=>by cases h) (by kernel_rfl) (fun _ h=>by cases h) analyses_row_tie rfl ⟨rfl,rfl⟩ (by kernel_rfl) rfl analyses_plain (by kernel_rfl)
#print axioms analyses_card
end
end Go.Proofs.YtiamlbhkiehilaaGreatDoor
