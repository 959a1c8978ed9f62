import Derived.Test.YtiamlbhkiehilaaPure
import Derived.Test.YtiamlbhkiehilaaRows
import Derived.Laws.StructEq
import Derived.WalkKit
namespace Go.Proofs.Ytiamlbhkiehilaa
open Go.RowKit

theorem stoodFact : Try.prog.stoodInHeld 25 = false := by kernel_rfl
theorem guardFact : Try.prog.eqGuardType Try.prog.depth 25 = false := by kernel_rfl
theorem fieldsFact : Try.prog.underlying 25 = some (.struct (Try.prog.fieldsOf 25)) := by kernel_rfl
theorem neq_fact (k : Int) (p q : ByteArray) (w : World) : (binOp .neq 25 (.agg #[.int .i64 k, .string p, .string q]) (.agg #[.int .i64 k, .string p, .string q])).run Try.prog w = .ok (.bool false) w := by
  rw [run_neq_struct, run_equalIn_struct w 9999 _ _ _ fieldsFact stoodFact]
  simp [go_sem, Try.underlying25]

theorem stoodErr : Try.prog.stoodInHeld 28 = false := by kernel_rfl
theorem guardErr : Try.prog.eqGuardType Try.prog.depth 28 = false := by kernel_rfl
theorem fieldsErr : Try.prog.underlying 28 = some (.struct (Try.prog.fieldsOf 28)) := by kernel_rfl
theorem eql_err (k l : Int) (w : World) : (binOp .eql 28 (.agg #[.int .i64 k, .int .i64 l]) (.agg #[.int .i64 k, .int .i64 l])).run Try.prog w = .ok (.bool true) w := by
  rw [run_eql_struct, run_equalIn_struct w 9999 _ _ _ fieldsErr stoodErr]
  simp [go_sem, Try.underlying28]

end Go.Proofs.Ytiamlbhkiehilaa
