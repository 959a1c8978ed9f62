import Derived.Test.YtiamlbhkiehilaaGreatDoorKq52
import Derived.Test.YtiamlbhkiehilaaGreatDoorKq49
import Derived.Test.YtiamlbhkiehilaaGreatDoorRows
import Derived.Test.YtiamlbhkiehilaaGreatDoorCards
import Derived.Test.YtiamlbhkiehilaaGreatDoorTie
namespace Go.Proofs.YtiamlbhkiehilaaGreatDoor
section
open Go.ChangeShapes Go.WideShapes Go.ChangeAt Go.RowKit Go.Deep Go.ChangeMaps
set_option maxRecDepth 100000 in
theorem least_contract(H:Type)(enc:TypeId × Value→H)(W:World)(base:Nat)(args:Array Value)(ds gs:List (DataW H))(before:List MemPlace)
  (hval:∀(j:Nat) t v,Tryz.f5.params[j]?=some t→args[j]?=some v→Value.okWide Tryz.prog W .any base t v)
  (hW:DataW.Whole enc Tryz.prog Tryz.f5.params.toList Rows.leastSpec.vars false W args.toList ds gs before) (hL:laidMet Tryz.prog Rows.leastRow.laid W) (hsh:W.ShapedOpen Tryz.prog) :
  Calls Tryz.prog 5 args W fun e W'=>∃v,e=.returned v∧Rows.leastSpec.post enc Tryz.prog Tryz.f5 false true false false W args v W':=by
 have hW':=hW;obtain⟨p,q,hA0,hV,rfl,_,_⟩:=hW;have hA:DataW.TrodAll enc Tryz.prog W 0 (fun _=>true) true Tryz.f5.params.toList args.toList ds p:=hA0;obtain⟨rfl,rfl⟩:=trodVars_none hV;simp only[List.append_nil]at hW';have hlt:∀x∈p,x.block<W.heap.size:=fun x hx=>by simpa using hW'.lt x hx
 have hargs:∀(W':World),Below W.heap.size W W'→DataW.TrodAll enc Tryz.prog W' 0 (fun b=>decide (b<W.heap.size)) true Tryz.f5.params.toList args.toList ds p:=
  fun W' hn=>below_trodAll (of_decide_eq_true (by kernel_rfl)) hA hn hlt
 rw[Tryz.params5]at hA hval;obtain⟨v0,v1,d0,d1,p0,p1,rfl,rfl,rfl,h0,h1⟩:=trodAll_two hA;obtain⟨r0,i0,z0,o0⟩:=open_raws (hval 0 35 v0 rfl rfl) h0;obtain⟨n1,rfl,_,_,y1⟩:=open_int Tryz.underlying3 (hval 1 3 v1 rfl rfl) h1;clear hA0;obtain⟨m,hm⟩:=maxlen_cell W hsh;obtain⟨hT,hTl⟩:=tab_of_laid hL;have hml:=World.block_lt_of_cell? _ _ hm;haveI:DP:=fun fs a b=>Classical.propDecidable (Pts fs a b)
 refine(least_walk v0 r0 n1 W ⟨⟨m,hm⟩,hml,hT,hTl⟩ z0 i0 o0 (wf_inI y1)).mono fun e W' ⟨he,hnx⟩=>?_
 subst he;exact⟨_,rfl,_,_,_,[],_,[],hW',trodAll_mk1 (shut_bool Tryz.underlying4 true),hargs _ hnx,rfl,hnx.frame _,fun h=>by cases h⟩
set_option maxRecDepth 100000 in
theorem least_lifted(os:Os)(started:os.Started)(H:Type)(enc:TypeId × Value→H)(F:Stop.Interp) :
  ReturnsInHanded {} Tryz.checked os 5 .any ((OpenSpec.ofChange Rows.leastSpec).preRow enc Tryz.prog Tryz.f5 Rows.leastRow.domain false Rows.leastRow.laid) (((OpenSpec.ofChange Rows.leastSpec).at F).post enc Tryz.prog Tryz.f5 false true false false):=by
 refine returnsInHanded_of_row (C:=Tryz.checked) (s:=OpenSpec.ofChange Rows.leastSpec) ownZ started (by kernel_rfl) Tryz.func5
  (witness_row_at (enc:=enc) (C:=Tryz.checked) false { World.holding Tryz.prog os ⟨#[],#[],[]⟩with heap:=(((World.holding Tryz.prog os ⟨#[],#[],[]⟩).heap.modify 2 layF).modify 3 layR).modify 0 layD } #[.slice none 0 0,.int .i64 0] rfl (by kernel_rfl) (by kernel_rfl) (by kernel_rfl)
   (OpenSpec.preRow_of_cond 8 (x:=([.nil,.lit (.int .i64 0)],[],[])) (by kernel_rfl) (by kernel_rfl) (fun k hk=>by cases hk) (by kernel_rfl) (laidMet_of_run' 8 (by kernel_rfl) (by kernel_rfl)))) ?_
 intro W base args ds gs before hval hW _ hcond _ hL hsh _;exact least_contract H enc W base args ds gs before hval hW hL hsh
theorem least_holds:Rows.LeastSaid:=
 OpenClaim.holds_of_cond 5 Tryz.f5 rfl rfl rfl rfl rfl rfl rfl ⟨rfl,rfl,rfl,rfl,rfl⟩ rfl rfl rfl rfl rfl (by kernel_rfl) Tryz.func5 (by kernel_rfl)
  (of_decide_eq_true (by kernel_rfl)) (by unfold Func.isWrapper;first|(rw[if_pos (by decide +kernel)];kernel_rfl)|(rw[if_neg (by decide +kernel)];exact⟨rfl,rfl⟩))
  (fun os started H enc _ F=>by rw[OpenClaim.pre_eq_preRow];exact least_lifted os started H enc F)
theorem least_plain (f : FuncId) (fn : Func) (hf : Tryz.pinned.checked.prog.funcNamed "quern/quernkeep.Least" = some f) (hfn : Tryz.pinned.checked.prog.funcs[f]? = some fn) :
  false=Tryz.pinned.checked.prog.looks []∧∀(j:Nat) t,fn.params[j]?=some t→Tryz.pinned.checked.prog.wantsStandIn t=false:=by
 obtain rfl : f = 5 := Option.some.inj ((show Tryz.prog.funcNamed "quern/quernkeep.Least" = some 5 by kernel_rfl).symm.trans hf) |>.symm
 obtain rfl:fn=Tryz.f5:=(Option.some.inj (Tryz.func5.symm.trans hfn)).symm;refine⟨by kernel_rfl,fun j t ht=>?_⟩;rw[Tryz.params5]at ht;have hm:=Array.mem_of_getElem? ht;simp at hm;rcases hm with rfl|rfl
 ·exact(show Tryz.prog.wantsStandIn 35=false by kernel_rfl)
 ·exact(show Tryz.prog.wantsStandIn 3=false by kernel_rfl)
theorem least_card:Rows.LeastCardSaid:=
 Claim7.holds_tied_plain_at .later [] _ _ _ _ least_holds (fun _ h=>by cases h) (by kernel_rfl) (fun _ h=>by cases h) least_row_tie rfl ⟨rfl,rfl⟩ (by kernel_rfl) rfl least_plain (by kernel_rfl)
end
end Go.Proofs.YtiamlbhkiehilaaGreatDoor
