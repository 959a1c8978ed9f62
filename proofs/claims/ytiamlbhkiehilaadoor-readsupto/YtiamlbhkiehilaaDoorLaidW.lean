import Derived.Test.YtiamlbhkiehilaaDoorCards
import Derived.Test.YtiamlbhkiehilaaDoorTie
import Derived.Test.YtiamlbhkiehilaaDoorOpenS
import Derived.Test.YtiamlbhkiehilaaDoorShelf
import Derived.Deep.DeepHandedRow
import Derived.Lib.LaidTab
namespace Go.Proofs.YtiamlbhkiehilaaDoor
open Go.ChangeShapes Go.WideShapes Go.ChangeAt Go.RowKit Go.Deep

theorem toWidth_len (ss : List ByteArray) : ss.length ≤ toWidth ss := by
  induction ss with
  | nil => exact Nat.zero_le _
  | cons s r ih => simp only [List.length_cons, toWidth]; omega

/-- The library's tables, laid. -/
def layF : Obj → Obj
  | .cells _ t frozen => .cells (Go.Pinned.utf8FirstZ.map fun (n : Nat) => Value.int .u8 n).toArray t frozen
  | o => o
def layR : Obj → Obj
  | .cells _ t frozen => .cells (([128, 191, 160, 191, 128, 159, 144, 191, 128, 143] ++ List.replicate 22 0).map fun (n : Nat) => Value.int .u8 n).toArray t frozen
  | o => o

end Go.Proofs.YtiamlbhkiehilaaDoor
