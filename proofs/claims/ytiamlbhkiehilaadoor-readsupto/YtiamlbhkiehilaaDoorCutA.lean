import Derived.Test.YtiamlbhkiehilaaDoorShelf
import Derived.Test.YtiamlbhkiehilaaDoorRParse
namespace Go.Proofs.YtiamlbhkiehilaaDoor
open Go.RowKit Go.Maps

set_option maxRecDepth 100000 in
theorem clone_any (s : ByteArray) (w : World) (hs : s.size ≤ 1000000) :
    Calls Tryd.prog 41 #[.string s] w fun e w' => e = .returned (.string s) ∧ Below w.heap.size w w' := by
  go_enter Tryd.func41, Tryd.ntmps41
  go_wp2_with fail
  refine (Tryd.stringslite_Clone s w (by omega)).mono ?_
  rintro e w' ⟨rfl, hb⟩
  go_wp2
  go_ret
  exact ⟨rfl, hb⟩

end Go.Proofs.YtiamlbhkiehilaaDoor
