import Derived.Test.YtiamlbhkiehilaaGreatDoorAnSh
import Derived.Test.YtiamlbhkiehilaaGreatDoorAn13
namespace Go.Proofs.YtiamlbhkiehilaaGreatDoor
section
open Go.RowKit Go.Maps
set_option maxRecDepth 100000 in
theorem clone_any (s:ByteArray) (w:World) (hs:s.size≤1000000) :
  Calls Tryz.prog 101 #[.string s] w fun e w'=>e=.returned (.string s)∧Below w.heap.size w w':=by
 go_enter Tryz.func101,Tryz.ntmps101
 go_wp2_with fail
 refine (Tryz.stringslite_Clone s w (by omega)).mono ?_
 rintro e w' ⟨rfl,hb⟩
 go_wp2
 go_ret
 exact ⟨rfl,hb⟩
end
end Go.Proofs.YtiamlbhkiehilaaGreatDoor
