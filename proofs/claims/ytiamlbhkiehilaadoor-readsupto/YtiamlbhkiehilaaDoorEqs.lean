import Derived.Test.YtiamlbhkiehilaaDoorPure
import Derived.Test.YtiamlbhkiehilaaDoorRows
import Derived.Laws.StructEq
import Derived.WalkKit
namespace Go.Proofs.YtiamlbhkiehilaaDoor
open Go.RowKit

theorem stoodFact : Tryd.prog.stoodInHeld 48 = false := by kernel_rfl
theorem guardFact : Tryd.prog.eqGuardType Tryd.prog.depth 48 = false := by kernel_rfl
theorem fieldsFact : Tryd.prog.underlying 48 = some (.struct (Tryd.prog.fieldsOf 48)) := by kernel_rfl
theorem neq_fact (k : Int) (p q : ByteArray) (w : World) : (binOp .neq 48 (.agg #[.int .i64 k, .string p, .string q]) (.agg #[.int .i64 k, .string p, .string q])).run Tryd.prog w = .ok (.bool false) w := by
  rw [run_neq_struct, run_equalIn_struct w 9999 _ _ _ fieldsFact stoodFact]
  simp [go_sem, Tryd.underlying48]

theorem stoodErr : Tryd.prog.stoodInHeld 34 = false := by kernel_rfl
theorem guardErr : Tryd.prog.eqGuardType Tryd.prog.depth 34 = false := by kernel_rfl
theorem fieldsErr : Tryd.prog.underlying 34 = some (.struct (Tryd.prog.fieldsOf 34)) := by kernel_rfl
theorem eql_err (k l : Int) (w : World) : (binOp .eql 34 (.agg #[.int .i64 k, .int .i64 l]) (.agg #[.int .i64 k, .int .i64 l])).run Tryd.prog w = .ok (.bool true) w := by
  rw [run_eql_struct, run_equalIn_struct w 9999 _ _ _ fieldsErr stoodErr]
  simp [go_sem, Tryd.underlying34]

end Go.Proofs.YtiamlbhkiehilaaDoor
