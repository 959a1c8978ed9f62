import Derived.Test.YthhbcilkodcpjaaDoorPure
import Derived.Test.YthhbcilkodcpjaaDoorRows
import Derived.Laws.StructEq
import Derived.WalkKit
namespace Go.Proofs.YthhbcilkodcpjaaDoor
open Go.RowKit

theorem stoodFact : Tryd.prog.stoodInHeld 52 = false := by kernel_rfl
theorem guardFact : Tryd.prog.eqGuardType Tryd.prog.depth 52 = false := by kernel_rfl
theorem fieldsFact : Tryd.prog.underlying 52 = some (.struct (Tryd.prog.fieldsOf 52)) := by kernel_rfl
theorem neq_fact (k : Int) (p q : ByteArray) (w : World) : (binOp .neq 52 (.agg #[.int .i64 k, .string p, .string q]) (.agg #[.int .i64 k, .string p, .string q])).run Tryd.prog w = .ok (.bool false) w := by
  rw [run_neq_struct, run_equalIn_struct w 9999 _ _ _ fieldsFact stoodFact]
  simp [go_sem, Tryd.underlying52]

theorem stoodErr : Tryd.prog.stoodInHeld 36 = false := by kernel_rfl
theorem guardErr : Tryd.prog.eqGuardType Tryd.prog.depth 36 = false := by kernel_rfl
theorem fieldsErr : Tryd.prog.underlying 36 = some (.struct (Tryd.prog.fieldsOf 36)) := by kernel_rfl
theorem eql_err (k l : Int) (w : World) : (binOp .eql 36 (.agg #[.int .i64 k, .int .i64 l]) (.agg #[.int .i64 k, .int .i64 l])).run Tryd.prog w = .ok (.bool true) w := by
  rw [run_eql_struct, run_equalIn_struct w 9999 _ _ _ fieldsErr stoodErr]
  simp [go_sem, Tryd.underlying36]

end Go.Proofs.YthhbcilkodcpjaaDoor
