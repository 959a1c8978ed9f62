import Derived.Test.YtiamlbhkiehilaaGreatDoorKq48
import Derived.Test.YtiamlbhkiehilaaGreatDoorKq49
import Derived.Test.YtiamlbhkiehilaaGreatDoorRows
import Derived.Test.YtiamlbhkiehilaaGreatDoorCards
import Derived.Test.YtiamlbhkiehilaaGreatDoorTie
namespace Go.Proofs.YtiamlbhkiehilaaGreatDoor
section
open Go.ChangeShapes Go.WideShapes Go.ChangeAt Go.RowKit Go.Deep Go.ChangeMaps
set_option maxRecDepth 100000 in
theorem holds_contract(H:Type)(enc:TypeId × Value→H)(W:World)(base:Nat)(args:Array Value)(ds gs:List (DataW H))(before:List MemPlace)
  (hval:∀(j:Nat) t v,Tryz.f4.params[j]?=some t→args[j]?=some v→Value.okWide Tryz.prog W .any base t v)
  (hW:DataW.Whole enc Tryz.prog Tryz.f4.params.toList Rows.holdsSpec.vars false W args.toList ds gs before) (hL:laidMet Tryz.prog Rows.holdsRow.laid W) (hsh:W.ShapedOpen Tryz.prog) :
  Calls Tryz.prog 4 args W fun e W'=>∃v,e=.returned v∧Rows.holdsSpec.post enc Tryz.prog Tryz.f4 false true false false W args v W':=by
 have hW':=hW;obtain⟨p,q,hA0,hV,rfl,_,_⟩:=hW;have hA:DataW.TrodAll enc Tryz.prog W 0 (fun _=>true) true Tryz.f4.params.toList args.toList ds p:=hA0;obtain⟨rfl,rfl⟩:=trodVars_none hV;simp only[List.append_nil]at hW';have hlt:∀x∈p,x.block<W.heap.size:=fun x hx=>by simpa using hW'.lt x hx
 have hargs:∀(W':World),Below W.heap.size W W'→DataW.TrodAll enc Tryz.prog W' 0 (fun b=>decide (b<W.heap.size)) true Tryz.f4.params.toList args.toList ds p:=
  fun W' hn=>below_trodAll (of_decide_eq_true (by kernel_rfl)) hA hn hlt
 rw[Tryz.params4]at hA hval;obtain⟨v0,v1,d0,d1,p0,p1,rfl,rfl,rfl,h0,h1⟩:=trodAll_two hA;obtain⟨r0,i0,z0,o0⟩:=open_raws (hval 0 35 v0 rfl rfl) h0;obtain⟨n1,rfl,_,_,y1⟩:=open_int Tryz.underlying3 (hval 1 3 v1 rfl rfl) h1;clear hA0;obtain⟨m,hm⟩:=maxlen_cell W hsh;obtain⟨hT,hTl⟩:=tab_of_laid hL;have hml:=World.block_lt_of_cell? _ _ hm;haveI:DP:=fun fs a b=>Classical.propDecidable (Pts fs a b)
 refine(holds_walk v0 r0 n1 W ⟨⟨m,hm⟩,hml,hT,hTl⟩ z0 i0 o0 (wf_inI y1)).mono fun e W' ⟨he,hnx⟩=>?_
 subst he;exact⟨_,rfl,_,_,_,[],_,[],hW',trodAll_mk1 (shut_bool Tryz.underlying4 true),hargs _ hnx,rfl,hnx.frame _,fun h=>by cases h⟩
set_option maxRecDepth 100000 in
theorem holds_lifted(os:Os)(started:os.Started)(H:Type)(enc:TypeId × Value→H)(F:Stop.Interp) :
  ReturnsInHanded {} Tryz.checked os 4 .any ((OpenSpec.ofChange Rows.holdsSpec).preRow enc Tryz.prog Tryz.f4 Rows.holdsRow.domain false Rows.holdsRow.laid) (((OpenSpec.ofChange Rows.holdsSpec).at F).post enc Tryz.prog Tryz.f4 false true false false):=by
 refine returnsInHanded_of_row (C:=Tryz.checked) (s:=OpenSpec.ofChange Rows.holdsSpec) ownZ started (by kernel_rfl) Tryz.func4
  (witness_row_at (enc:=enc) (C:=Tryz.checked) false { World.holding Tryz.prog os ⟨#[],#[],[]⟩with heap:=(((World.holding Tryz.prog os ⟨#[],#[],[]⟩).heap.modify 2 layF).modify 3 layR).modify 0 layD } #[.slice none 0 0,.int .i64 0] rfl (by kernel_rfl) (by kernel_rfl) (by kernel_rfl)
   (OpenSpec.preRow_of_cond 8 (x:=([.nil,.lit (.int .i64 0)],[],[])) (by kernel_rfl) (by kernel_rfl) (fun k hk=>by cases hk) (by kernel_rfl) (laidMet_of_run' 8 (by kernel_rfl) (by kernel_rfl)))) ?_
 intro W base args ds gs before hval hW _ hcond _ hL hsh _;exact holds_contract H enc W base args ds gs before hval hW hL hsh
theorem holds_holds:Rows.HoldsSaid:=
 OpenClaim.holds_of_cond 4 Tryz.f4 rfl rfl rfl rfl rfl rfl rfl ⟨rfl,rfl,rfl,rfl,rfl⟩ rfl rfl rfl rfl rfl (by kernel_rfl) Tryz.func4 (by kernel_rfl)
  (of_decide_eq_true (by kernel_rfl)) (by unfold Func.isWrapper;first|(rw[if_pos (by decide +kernel)];kernel_rfl)|(rw[if_neg (by decide +kernel)];exact⟨rfl,rfl⟩))
  (fun os started H enc _ F=>by rw[OpenClaim.pre_eq_preRow];exact holds_lifted os started H enc F)
theorem holds_plain (f : FuncId) (fn : Func) (hf : Tryz.pinned.checked.prog.funcNamed "quern/quernkeep.Holds" = some f) (hfn : Tryz.pinned.checked.prog.funcs[f]? = some fn) :
  false=Tryz.pinned.checked.prog.looks []∧∀(j:Nat) t,fn.params[j]?=some t→Tryz.pinned.checked.prog.wantsStandIn t=false:=by
 obtain rfl : f = 4 := Option.some.inj ((show Tryz.prog.funcNamed "quern/quernkeep.Holds" = some 4 by kernel_rfl).symm.trans hf) |>.symm
 obtain rfl:fn=Tryz.f4:=(Option.some.inj (Tryz.func4.symm.trans hfn)).symm;refine⟨by kernel_rfl,fun j t ht=>?_⟩;rw[Tryz.params4]at ht;have hm:=Array.mem_of_getElem? ht;simp at hm;rcases hm with rfl|rfl
 ·exact(show Tryz.prog.wantsStandIn 35=false by kernel_rfl)
 ·exact(show Tryz.prog.wantsStandIn 3=false by kernel_rfl)
theorem holds_card:Rows.HoldsCardSaid:=
 Claim7.holds_tied_plain_at .later [] _ _ _ _ holds_holds (fun _ h=>by cases h) (by kernel_rfl) (fun _ h=>by cases h) holds_row_tie rfl ⟨rfl,rfl⟩ (by kernel_rfl) rfl holds_plain (by kernel_rfl)
end
end Go.Proofs.YtiamlbhkiehilaaGreatDoor
