import Derived.Test.YthhbcilkodcpjaaDoorShelf
import Derived.Test.YthhbcilkodcpjaaDoorRParse
namespace Go.Proofs.YthhbcilkodcpjaaDoor
open Go.RowKit Go.Maps

set_option maxRecDepth 100000 in
theorem clone_any (s : ByteArray) (w : World) (hs : s.size ≤ 1000000) :
    Calls Tryd.prog 82 #[.string s] w fun e w' => e = .returned (.string s) ∧ Below w.heap.size w w' := by
  go_enter Tryd.func82, Tryd.ntmps82
  go_wp2_with fail
  refine (Tryd.stringslite_Clone s w (by omega)).mono ?_
  rintro e w' ⟨rfl, hb⟩
  go_wp2
  go_ret
  exact ⟨rfl, hb⟩

end Go.Proofs.YthhbcilkodcpjaaDoor
