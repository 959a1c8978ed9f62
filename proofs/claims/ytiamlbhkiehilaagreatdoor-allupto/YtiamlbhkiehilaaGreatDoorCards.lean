/-
  DERIVED. GIVEN WITH THE SEED: THE CARDS: each row of YtiamlbhkiehilaaGreatDoorRows.lean that lists a variable, with what it lists TIED to the program's text (the seventh form; the later family's looks); each row that meets fmt, with fmt's text TOLD by the authors' own Lean function (tested against real Go, not proved from fmt's source: count such statements apart). THE CARD IS WHAT COUNTS. Prove the row's statement (the work); the ties are given (YtiamlbhkiehilaaGreatDoorTie.lean); close each card by the builder's one call (the guide's Derived/Test/ToyasCard.lean, 'card_holds'). Laid BY PROGRAM, IN A SANDBOX (cutbox-door.mjs). By AI agents, Wed Nov 11 2026. No macro, syntax, notation, axiom, sorry.
-/
import Derived.Test.YtiamlbhkiehilaaGreatDoorRows
import GoSem.ClaimSeven
namespace Go.Proofs.YtiamlbhkiehilaaGreatDoor
namespace Rows

/-- THE TIED CARD OF 'quernlaw.Analyses'. -/
def analysesCard : Claim7 := { stood := { row := analysesRow, standIns := [], harness := (true, "2da45341610dca273ec7d66f07ad5483f7933871121ddb877277e984253062ad"), looks := false }, kinds := [], alts := [], laidByText := true, laidKinds := [.data, .data, .pinned], laidTests := true, laidLooks := .later }
def AnalysesCardSaid : Prop := Claim7.holds Tryz.pinned (.plain (OpenSpec.ofChange analysesSpec)) analysesCard

/-- THE TIED CARD OF 'quernkeep.Holds'. -/
def holdsCard : Claim7 := { stood := { row := holdsRow, standIns := [], harness := (true, "2da45341610dca273ec7d66f07ad5483f7933871121ddb877277e984253062ad"), looks := false }, kinds := [], alts := [], laidByText := true, laidKinds := [.data, .data, .pinned], laidTests := true, laidLooks := .later }
def HoldsCardSaid : Prop := Claim7.holds Tryz.pinned (.plain (OpenSpec.ofChange holdsSpec)) holdsCard

/-- THE TIED CARD OF 'quernkeep.Least'. -/
def leastCard : Claim7 := { stood := { row := leastRow, standIns := [], harness := (true, "2da45341610dca273ec7d66f07ad5483f7933871121ddb877277e984253062ad"), looks := false }, kinds := [], alts := [], laidByText := true, laidKinds := [.data, .data, .pinned], laidTests := true, laidLooks := .later }
def LeastCardSaid : Prop := Claim7.holds Tryz.pinned (.plain (OpenSpec.ofChange leastSpec)) leastCard

/-- THE TIED CARD OF 'quernkeep.More'. -/
def moreCard : Claim7 := { stood := { row := moreRow, standIns := [], harness := (true, "2da45341610dca273ec7d66f07ad5483f7933871121ddb877277e984253062ad"), looks := false }, kinds := [], alts := [], laidByText := true, laidKinds := [.data, .data, .pinned], laidTests := true, laidLooks := .later }
def MoreCardSaid : Prop := Claim7.holds Tryz.pinned (.plain (OpenSpec.ofChange moreSpec)) moreCard

/-- THE TIED CARD OF 'quernkeep.Turned'. -/
def turnedCard : Claim7 := { stood := { row := turnedRow, standIns := [], harness := (true, "2da45341610dca273ec7d66f07ad5483f7933871121ddb877277e984253062ad"), looks := false }, kinds := [], alts := [], laidByText := true, laidKinds := [.data, .data, .pinned], laidTests := true, laidLooks := .later }
def TurnedCardSaid : Prop := Claim7.holds Tryz.pinned (.plain (OpenSpec.ofChange turnedSpec)) turnedCard

/-- THE TIED CARD OF 'quernkeep.Back'. -/
def backCard : Claim7 := { stood := { row := backRow, standIns := [], harness := (true, "2da45341610dca273ec7d66f07ad5483f7933871121ddb877277e984253062ad"), looks := false }, kinds := [], alts := [], laidByText := true, laidKinds := [.data, .data, .pinned], laidTests := true, laidLooks := .later }
def BackCardSaid : Prop := Claim7.holds Tryz.pinned (.plain (OpenSpec.ofChange backSpec)) backCard

/-- THE TIED CARD OF 'quernkeep.Ways'. -/
def waysCard : Claim7 := { stood := { row := waysRow, standIns := [], harness := (true, "2da45341610dca273ec7d66f07ad5483f7933871121ddb877277e984253062ad"), looks := false }, kinds := [], alts := [], laidByText := true, laidKinds := [.data, .data, .pinned], laidTests := true, laidLooks := .later }
def WaysCardSaid : Prop := Claim7.holds Tryz.pinned (.plain (OpenSpec.ofChange waysSpec)) waysCard

/-- THE TIED CARD OF 'quernlaw.All'. -/
def allCard : Claim7 := { stood := { row := allRow, standIns := [], harness := (true, "2da45341610dca273ec7d66f07ad5483f7933871121ddb877277e984253062ad"), looks := false }, kinds := [], alts := [], laidByText := true, laidKinds := [.data, .data, .pinned], laidTests := true, laidLooks := .later }
def AllCardSaid : Prop := Claim7.holds Tryz.pinned (.plain (OpenSpec.ofChange allSpec)) allCard

/-- THE SECOND FORM's CARD OF 'quernlaw.Analyses'. -/
def analysesUptoCard : Claim7 := { stood := { row := analysesUptoRow, standIns := [], harness := (true, "2da45341610dca273ec7d66f07ad5483f7933871121ddb877277e984253062ad"), looks := false }, kinds := [], alts := [], laidByText := true, laidKinds := [.data, .data, .pinned], laidTests := true, laidLooks := .later }
def AnalysesUptoCardSaid : Prop := Claim7.holds Tryz.pinned (.plain (OpenSpec.upto analysesSpec)) analysesUptoCard

/-- THE SECOND FORM's CARD OF 'quernkeep.Holds'. -/
def holdsUptoCard : Claim7 := { stood := { row := holdsUptoRow, standIns := [], harness := (true, "2da45341610dca273ec7d66f07ad5483f7933871121ddb877277e984253062ad"), looks := false }, kinds := [], alts := [], laidByText := true, laidKinds := [.data, .data, .pinned], laidTests := true, laidLooks := .later }
def HoldsUptoCardSaid : Prop := Claim7.holds Tryz.pinned (.plain (OpenSpec.upto holdsSpec)) holdsUptoCard

/-- THE SECOND FORM's CARD OF 'quernkeep.Least'. -/
def leastUptoCard : Claim7 := { stood := { row := leastUptoRow, standIns := [], harness := (true, "2da45341610dca273ec7d66f07ad5483f7933871121ddb877277e984253062ad"), looks := false }, kinds := [], alts := [], laidByText := true, laidKinds := [.data, .data, .pinned], laidTests := true, laidLooks := .later }
def LeastUptoCardSaid : Prop := Claim7.holds Tryz.pinned (.plain (OpenSpec.upto leastSpec)) leastUptoCard

/-- THE SECOND FORM's CARD OF 'quernkeep.More'. -/
def moreUptoCard : Claim7 := { stood := { row := moreUptoRow, standIns := [], harness := (true, "2da45341610dca273ec7d66f07ad5483f7933871121ddb877277e984253062ad"), looks := false }, kinds := [], alts := [], laidByText := true, laidKinds := [.data, .data, .pinned], laidTests := true, laidLooks := .later }
def MoreUptoCardSaid : Prop := Claim7.holds Tryz.pinned (.plain (OpenSpec.upto moreSpec)) moreUptoCard

/-- THE SECOND FORM's CARD OF 'quernkeep.Turned'. -/
def turnedUptoCard : Claim7 := { stood := { row := turnedUptoRow, standIns := [], harness := (true, "2da45341610dca273ec7d66f07ad5483f7933871121ddb877277e984253062ad"), looks := false }, kinds := [], alts := [], laidByText := true, laidKinds := [.data, .data, .pinned], laidTests := true, laidLooks := .later }
def TurnedUptoCardSaid : Prop := Claim7.holds Tryz.pinned (.plain (OpenSpec.upto turnedSpec)) turnedUptoCard

/-- THE SECOND FORM's CARD OF 'quernkeep.Back'. -/
def backUptoCard : Claim7 := { stood := { row := backUptoRow, standIns := [], harness := (true, "2da45341610dca273ec7d66f07ad5483f7933871121ddb877277e984253062ad"), looks := false }, kinds := [], alts := [], laidByText := true, laidKinds := [.data, .data, .pinned], laidTests := true, laidLooks := .later }
def BackUptoCardSaid : Prop := Claim7.holds Tryz.pinned (.plain (OpenSpec.upto backSpec)) backUptoCard

/-- THE SECOND FORM's CARD OF 'quernkeep.Ways'. -/
def waysUptoCard : Claim7 := { stood := { row := waysUptoRow, standIns := [], harness := (true, "2da45341610dca273ec7d66f07ad5483f7933871121ddb877277e984253062ad"), looks := false }, kinds := [], alts := [], laidByText := true, laidKinds := [.data, .data, .pinned], laidTests := true, laidLooks := .later }
def WaysUptoCardSaid : Prop := Claim7.holds Tryz.pinned (.plain (OpenSpec.upto waysSpec)) waysUptoCard

/-- THE SECOND FORM's CARD OF 'quernlaw.All'. -/
def allUptoCard : Claim7 := { stood := { row := allUptoRow, standIns := [], harness := (true, "2da45341610dca273ec7d66f07ad5483f7933871121ddb877277e984253062ad"), looks := false }, kinds := [], alts := [], laidByText := true, laidKinds := [.data, .data, .pinned], laidTests := true, laidLooks := .later }
def AllUptoCardSaid : Prop := Claim7.holds Tryz.pinned (.plain (OpenSpec.upto allSpec)) allUptoCard
end Rows
end Go.Proofs.YtiamlbhkiehilaaGreatDoor
