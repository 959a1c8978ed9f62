import Derived.Test.YtiamlbhkiehilaaGreatDoorKp20
import Derived.Test.YtiamlbhkiehilaaGreatDoorRows
import Derived.ProofKit
import Derived.SizedLaws
import Derived.Deep.Slices
import Derived.Deep.Strs
import Derived.JoinedCond
import Derived.ChangeMaps5
import Derived.Deep.DeepHandedRow
import Derived.Lib.LaidTab
namespace Go.Proofs.YtiamlbhkiehilaaGreatDoor
section
open Go.ChangeShapes Go.WideShapes Go.ChangeAt Go.RowKit Go.Deep Go.ChangeMaps
theorem ownZ:ownKnob Tryz.prog.godebug=none:=by kernel_rfl
def layF:Obj→Obj
 | .cells _ t frozen=>.cells (Go.Pinned.utf8FirstZ.map fun (n:Nat)=>Value.int .u8 n).toArray t frozen
 | o=>o
def layR:Obj→Obj
 | .cells _ t frozen=>.cells (([128,191,160,191,128,159,144,191,128,143] ++ List.replicate 22 0).map fun (n:Nat)=>Value.int .u8 n).toArray t frozen
 | o=>o
def layD:Obj→Obj
 | .cells _ t frozen=>.cells (dbTab.map fun (n:Nat)=>Value.int .u8 n).toArray t frozen
 | o=>o
theorem maxlen_cell (W:World) (hsh:W.ShapedOpen Tryz.prog):∃ m,W.cell? ⟨1,0,none⟩=some (.int .i64 m):=
 Go.Proofs.cell_of_shapedOpen_int (zero:=#[.int .i64 0]) (t:=3) hsh (of_decide_eq_true (by kernel_rfl)) (by kernel_rfl) rfl (by kernel_rfl) (by kernel_rfl) Tryz.underlying3
theorem tab_of_laid {W : World} {rest : List (String × DataW Unit)} (h : laidMet Tryz.prog (("math/bits.deBruijn64tab", Rows.laid_math_bits_deBruijn64tab) :: rest) W) : TabAt W ∧ 0 < W.heap.size := by
 have ht : Lib.TabIs Tryz.prog W "math/bits.deBruijn64tab" .u8 (dbTab.map fun (n : Nat) => (n : Int)) := Lib.tabIs_of_head (g := 0) (t := 219) (e := 5) (n := 64) (by kernel_rfl) (by kernel_rfl) (by kernel_rfl) (by kernel_rfl) (by kernel_rfl) (by kernel_rfl) h
 have hc:∀ i,i < 64→W.cell? ⟨0,i,none⟩=some (.int .u8 ((dbTab.map fun (n:Nat)=>(n:Int)).getD i 0)):=fun i hi=>ht.cell (by kernel_rfl) i hi
 refine ⟨fun j x hj=>?_,World.block_lt_of_cell? _ _ (hc 0 (by decide))⟩
 have hl:j < 64:=(List.getElem?_eq_some_iff.1 hj).1
 rw [hc j hl,List.getD_eq_getElem?_getD,List.getElem?_map,hj]
 rfl
section
variable {H:Type} {enc:TypeId × Value→H} {w:World} {base:Nat} {sp:Nat→Bool} {held:Bool}
end
end
end Go.Proofs.YtiamlbhkiehilaaGreatDoor
