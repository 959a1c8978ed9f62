/-
  DERIVED. GIVEN WITH THE SEED: THE CARDS: each row of YthhbcilkodcpjaaDoorRows.lean that lists a variable, with what it lists TIED to the program's text (the seventh form; the later family's looks); each row that meets fmt, with fmt's text TOLD by the authors' own Lean function (tested against real Go, not proved from fmt's source: count such statements apart). THE CARD IS WHAT COUNTS. Prove the row's statement (the work); the ties are given (YthhbcilkodcpjaaDoorTie.lean); close each card by the builder's one call (the guide's Derived/Test/ToyasCard.lean, 'card_holds'). Laid BY PROGRAM, IN A SANDBOX (cutbox-door.mjs). By AI agents, Wed Nov 11 2026. No macro, syntax, notation, axiom, sorry.
-/
import Derived.Test.YthhbcilkodcpjaaDoorRows
import GoSem.ClaimSeven
namespace Go.Proofs.YthhbcilkodcpjaaDoor
namespace Rows

/-- THE TIED CARD OF 'quernlaw.Parses'. -/
def parsesCard : Claim7 := { stood := { row := parsesRow, standIns := [], harness := (true, "d39a5ab4f952bda84e8b9cd1233edf7eb2d6544fea5e7a321b6784cf411f8b88"), looks := false }, kinds := [], alts := [], laidByText := true, laidKinds := [.data, .pinned], laidTests := true, laidLooks := .later }
def ParsesCardSaid : Prop := Claim7.holds Tryd.pinned (.plain (OpenSpec.ofChange parsesSpec)) parsesCard

/-- THE TIED CARD OF 'quernlaw.Reads'. -/
def readsCard : Claim7 := { stood := { row := readsRow, standIns := [], harness := (true, "d39a5ab4f952bda84e8b9cd1233edf7eb2d6544fea5e7a321b6784cf411f8b88"), looks := false }, kinds := [], alts := [], laidByText := true, laidKinds := [.data, .pinned], laidTests := true, laidLooks := .later }
def ReadsCardSaid : Prop := Claim7.holds Tryd.pinned (.plain (OpenSpec.ofChange readsSpec)) readsCard

/-- THE TIED CARD OF 'quernlaw.Analyses'. -/
def analysesCard : Claim7 := { stood := { row := analysesRow, standIns := [], harness := (true, "d39a5ab4f952bda84e8b9cd1233edf7eb2d6544fea5e7a321b6784cf411f8b88"), looks := false }, kinds := [], alts := [], laidByText := true, laidKinds := [.data, .data, .pinned], laidTests := true, laidLooks := .later }
def AnalysesCardSaid : Prop := Claim7.holds Tryd.pinned (.plain (OpenSpec.ofChange analysesSpec)) analysesCard

/-- THE TIED CARD OF 'quernkeep.Turned'. -/
def turnedCard : Claim7 := { stood := { row := turnedRow, standIns := [], harness := (true, "d39a5ab4f952bda84e8b9cd1233edf7eb2d6544fea5e7a321b6784cf411f8b88"), looks := false }, kinds := [], alts := [], laidByText := true, laidKinds := [.data, .data, .pinned], laidTests := true, laidLooks := .later }
def TurnedCardSaid : Prop := Claim7.holds Tryd.pinned (.plain (OpenSpec.ofChange turnedSpec)) turnedCard

/-- THE TIED CARD OF 'quernkeep.Back'. -/
def backCard : Claim7 := { stood := { row := backRow, standIns := [], harness := (true, "d39a5ab4f952bda84e8b9cd1233edf7eb2d6544fea5e7a321b6784cf411f8b88"), looks := false }, kinds := [], alts := [], laidByText := true, laidKinds := [.data, .data, .pinned], laidTests := true, laidLooks := .later }
def BackCardSaid : Prop := Claim7.holds Tryd.pinned (.plain (OpenSpec.ofChange backSpec)) backCard

/-- THE TIED CARD OF 'quernkeep.Ways'. -/
def waysCard : Claim7 := { stood := { row := waysRow, standIns := [], harness := (true, "d39a5ab4f952bda84e8b9cd1233edf7eb2d6544fea5e7a321b6784cf411f8b88"), looks := false }, kinds := [], alts := [], laidByText := true, laidKinds := [.data, .data, .pinned], laidTests := true, laidLooks := .later }
def WaysCardSaid : Prop := Claim7.holds Tryd.pinned (.plain (OpenSpec.ofChange waysSpec)) waysCard

/-- THE SECOND FORM's CARD OF 'quernlaw.Parses'. -/
def parsesUptoCard : Claim7 := { stood := { row := parsesUptoRow, standIns := [], harness := (true, "d39a5ab4f952bda84e8b9cd1233edf7eb2d6544fea5e7a321b6784cf411f8b88"), looks := false }, kinds := [], alts := [], laidByText := true, laidKinds := [.data, .pinned], laidTests := true, laidLooks := .later }
def ParsesUptoCardSaid : Prop := Claim7.holds Tryd.pinned (.plain (OpenSpec.upto parsesSpec)) parsesUptoCard

/-- THE SECOND FORM's CARD OF 'quernlaw.Reads'. -/
def readsUptoCard : Claim7 := { stood := { row := readsUptoRow, standIns := [], harness := (true, "d39a5ab4f952bda84e8b9cd1233edf7eb2d6544fea5e7a321b6784cf411f8b88"), looks := false }, kinds := [], alts := [], laidByText := true, laidKinds := [.data, .pinned], laidTests := true, laidLooks := .later }
def ReadsUptoCardSaid : Prop := Claim7.holds Tryd.pinned (.plain (OpenSpec.upto readsSpec)) readsUptoCard

/-- THE SECOND FORM's CARD OF 'quernlaw.Analyses'. -/
def analysesUptoCard : Claim7 := { stood := { row := analysesUptoRow, standIns := [], harness := (true, "d39a5ab4f952bda84e8b9cd1233edf7eb2d6544fea5e7a321b6784cf411f8b88"), looks := false }, kinds := [], alts := [], laidByText := true, laidKinds := [.data, .data, .pinned], laidTests := true, laidLooks := .later }
def AnalysesUptoCardSaid : Prop := Claim7.holds Tryd.pinned (.plain (OpenSpec.upto analysesSpec)) analysesUptoCard

/-- THE SECOND FORM's CARD OF 'quernkeep.Turned'. -/
def turnedUptoCard : Claim7 := { stood := { row := turnedUptoRow, standIns := [], harness := (true, "d39a5ab4f952bda84e8b9cd1233edf7eb2d6544fea5e7a321b6784cf411f8b88"), looks := false }, kinds := [], alts := [], laidByText := true, laidKinds := [.data, .data, .pinned], laidTests := true, laidLooks := .later }
def TurnedUptoCardSaid : Prop := Claim7.holds Tryd.pinned (.plain (OpenSpec.upto turnedSpec)) turnedUptoCard

/-- THE SECOND FORM's CARD OF 'quernkeep.Back'. -/
def backUptoCard : Claim7 := { stood := { row := backUptoRow, standIns := [], harness := (true, "d39a5ab4f952bda84e8b9cd1233edf7eb2d6544fea5e7a321b6784cf411f8b88"), looks := false }, kinds := [], alts := [], laidByText := true, laidKinds := [.data, .data, .pinned], laidTests := true, laidLooks := .later }
def BackUptoCardSaid : Prop := Claim7.holds Tryd.pinned (.plain (OpenSpec.upto backSpec)) backUptoCard

/-- THE SECOND FORM's CARD OF 'quernkeep.Ways'. -/
def waysUptoCard : Claim7 := { stood := { row := waysUptoRow, standIns := [], harness := (true, "d39a5ab4f952bda84e8b9cd1233edf7eb2d6544fea5e7a321b6784cf411f8b88"), looks := false }, kinds := [], alts := [], laidByText := true, laidKinds := [.data, .data, .pinned], laidTests := true, laidLooks := .later }
def WaysUptoCardSaid : Prop := Claim7.holds Tryd.pinned (.plain (OpenSpec.upto waysSpec)) waysUptoCard
end Rows
end Go.Proofs.YthhbcilkodcpjaaDoor
