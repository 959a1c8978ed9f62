/-
  DERIVED. GIVEN WITH THE SEED: THE CARDS: each row of YtiamlbhkiehilaaDoorRows.lean that lists a variable, with what it lists TIED to the program's text (the seventh form; the later family's looks); each row that meets fmt, with fmt's text TOLD by the authors' own Lean function (tested against real Go, not proved from fmt's source: count such statements apart). THE CARD IS WHAT COUNTS. Prove the row's statement (the work); the ties are given (YtiamlbhkiehilaaDoorTie.lean); close each card by the builder's one call (the guide's Derived/Test/ToyasCard.lean, 'card_holds'). Laid BY PROGRAM, IN A SANDBOX (cutbox-door.mjs). By AI agents, Wed Nov 11 2026. No macro, syntax, notation, axiom, sorry.
-/
import Derived.Test.YtiamlbhkiehilaaDoorRows
import GoSem.ClaimSeven
namespace Go.Proofs.YtiamlbhkiehilaaDoor
namespace Rows

/-- THE TIED CARD OF 'quernlaw.Parses'. -/
def parsesCard : Claim7 := { stood := { row := parsesRow, standIns := [], harness := (true, "8ae9002bcfc805d695469365b89ceec2fa1ad3e5b4f46fb36ad2e0ed998508f2"), looks := false }, kinds := [], alts := [], laidByText := true, laidKinds := [.data, .pinned], laidTests := true, laidLooks := .later }
def ParsesCardSaid : Prop := Claim7.holds Tryd.pinned (.plain (OpenSpec.ofChange parsesSpec)) parsesCard

/-- THE TIED CARD OF 'quernlaw.Reads'. -/
def readsCard : Claim7 := { stood := { row := readsRow, standIns := [], harness := (true, "8ae9002bcfc805d695469365b89ceec2fa1ad3e5b4f46fb36ad2e0ed998508f2"), looks := false }, kinds := [], alts := [], laidByText := true, laidKinds := [.data, .pinned], laidTests := true, laidLooks := .later }
def ReadsCardSaid : Prop := Claim7.holds Tryd.pinned (.plain (OpenSpec.ofChange readsSpec)) readsCard

/-- THE SECOND FORM's CARD OF 'quernlaw.Parses'. -/
def parsesUptoCard : Claim7 := { stood := { row := parsesUptoRow, standIns := [], harness := (true, "8ae9002bcfc805d695469365b89ceec2fa1ad3e5b4f46fb36ad2e0ed998508f2"), looks := false }, kinds := [], alts := [], laidByText := true, laidKinds := [.data, .pinned], laidTests := true, laidLooks := .later }
def ParsesUptoCardSaid : Prop := Claim7.holds Tryd.pinned (.plain (OpenSpec.upto parsesSpec)) parsesUptoCard

/-- THE SECOND FORM's CARD OF 'quernlaw.Reads'. -/
def readsUptoCard : Claim7 := { stood := { row := readsUptoRow, standIns := [], harness := (true, "8ae9002bcfc805d695469365b89ceec2fa1ad3e5b4f46fb36ad2e0ed998508f2"), looks := false }, kinds := [], alts := [], laidByText := true, laidKinds := [.data, .pinned], laidTests := true, laidLooks := .later }
def ReadsUptoCardSaid : Prop := Claim7.holds Tryd.pinned (.plain (OpenSpec.upto readsSpec)) readsUptoCard
end Rows
end Go.Proofs.YtiamlbhkiehilaaDoor
