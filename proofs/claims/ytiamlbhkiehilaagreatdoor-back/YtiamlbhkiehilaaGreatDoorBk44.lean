import Derived.Test.YtiamlbhkiehilaaGreatDoorBk35
import Derived.Test.YtiamlbhkiehilaaGreatDoorBk01
import Derived.Test.YtiamlbhkiehilaaGreatDoorBk03
import Derived.Test.YtiamlbhkiehilaaGreatDoorBk43
namespace Go.Proofs.YtiamlbhkiehilaaGreatDoor

/-! The document's example that works() asks for. -/

def exA : ByteArray := ⟨#[97]⟩
def exB : ByteArray := ⟨#[98]⟩
def exP : ByteArray := ⟨#[112]⟩
def exQ : ByteArray := ⟨#[113]⟩
def exF : List Fct := [⟨1, exP, exA⟩, ⟨1, exQ, exB⟩, ⟨4, exP, exQ⟩]
def exN : List ByteArray := [exA, exB, exP, exQ]
def exW : Way := ⟨0, false, false, false, true⟩

theorem ex_ok : okGo [] exF := by
  refine ⟨by decide, by decide, by decide, by decide, by decide, by decide, trivial⟩
theorem ex_names : namesS (strsOf exF) = exN := by decide +kernel
theorem ex_nums : exF.map (fun f => (f.k, insAt exN f.p, insAt exN f.q)) = [(1, 2, 0), (1, 3, 1), (4, 2, 3)] := by decide +kernel
theorem ex_run : ∃ sF, St.solveL 30 exW 30 (St.start 4 [(1, 2, 0), (1, 3, 1), (4, 2, 3)]) = some sF ∧ sF.un < 100 ∧ (List.range 4).map (fun i => sF.tg (sF.rep i)) = [[1], [], [0], [1]] := ⟨_, rfl, by decide, by decide⟩
theorem ex_ahead : (St.start 4 [(1, 2, 0), (1, 3, 1), (4, 2, 3)]).lookAhead 30 exW 4 = some (St.start 4 [(1, 2, 0), (1, 3, 1), (4, 2, 3)]) := rfl

end Go.Proofs.YtiamlbhkiehilaaGreatDoor

namespace Go.Proofs.YtiamlbhkiehilaaGreatDoor
open Go.RowKit Go.Shelf
attribute [local go_sem] Oper.semAt_some

/-- The example's file, and what is told of it. -/
def exFile : ByteArray := ⟨#[112, 32, 61, 32, 38, 97, 10, 113, 32, 61, 32, 38, 98, 10, 42, 112, 32, 61, 32, 113, 10]⟩
def exText : ByteArray := ⟨#[97, 58, 32, 98, 10, 98, 58, 10, 112, 58, 32, 97, 10, 113, 58, 32, 98, 10]⟩

theorem ex_parse : parseB exFile = (exF, 0, 0) := by
  have h := print_parse ex_ok
  have e : (⟨(textL exF).toArray⟩ : ByteArray) = exFile := by decide +kernel
  rw [e] at h
  exact h

set_option maxRecDepth 100000 in
theorem ex_sol : ∃ sF, St.solveL 30 exW 30 (St.start 4 [(1, 2, 0), (1, 3, 1), (4, 2, 3)]) = some sF ∧ sF.un < 100 ∧ rowsS sF exN = [⟨exA, [exB]⟩, ⟨exB, []⟩, ⟨exP, [exA]⟩, ⟨exQ, [exB]⟩] := by
  obtain ⟨sF, h1, h2, h3⟩ := ex_run
  refine ⟨sF, h1, h2, ?_⟩
  unfold rowsS
  have e : (List.range exN.length).map (fun i => (⟨exN.getD i ⟨#[]⟩, (sF.tg (sF.rep i)).map (fun t => exN.getD t ⟨#[]⟩)⟩ : RowD)) = ((List.range 4).map (fun i => (i, sF.tg (sF.rep i)))).map (fun p => (⟨exN.getD p.1 ⟨#[]⟩, p.2.map (fun t => exN.getD t ⟨#[]⟩)⟩ : RowD)) := by
    rw [List.map_map]
    rfl
  rw [e]
  have e2 : (List.range 4).map (fun i => (i, sF.tg (sF.rep i))) = [(0, [1]), (1, []), (2, [0]), (3, [1])] := by
    simp only [show List.range 4 = [0, 1, 2, 3] from rfl, List.map_cons, List.map_nil, List.cons.injEq, and_true] at h3 ⊢
    obtain ⟨a0, a1, a2, a3⟩ := h3
    rw [a0, a1, a2, a3]
    simp
  rw [e2]
  rfl

set_option maxRecDepth 100000 in
theorem exanalyze (sF : St) (h1 : St.solveL 30 exW 30 (St.start 4 [(1, 2, 0), (1, 3, 1), (4, 2, 3)]) = some sF) (h2 : sF.un < 100 ∧ rowsS sF exN = [⟨exA, [exB]⟩, ⟨exB, []⟩, ⟨exP, [exA]⟩, ⟨exQ, [exB]⟩]) (w : World) (m : Int) (hm : w.cell? ⟨1, 0, none⟩ = some (.int .i64 m)) (hml : 1 < w.heap.size) (hT : TabAt w) (hTl : 0 < w.heap.size) :
    Calls Tryz.prog 32 #[.string exFile, wayV exW] w fun e w' => e = .returned (.tuple #[.agg #[.string exText, .int .i64 (sF.un : Int)], .agg #[.int .i64 0, .int .i64 0]]) ∧ Below w.heap.size w w' := by
  obtain ⟨h2, hr⟩ := h2
  have ht : (⟨(rowsText (rowsS sF exN)).toArray⟩ : ByteArray) = exText := by rw [hr]; decide +kernel
  have hs0 : St.start 4 [(1, 2, 0), (1, 3, 1), (4, 2, 3)] = St.start exN.length (exF.map (numF exN)) := by
    have : exF.map (numF exN) = [(1, 2, 0), (1, 3, 1), (4, 2, 3)] := ex_nums
    rw [this]
    rfl
  have hp : pw exW := ⟨rfl, rfl, rfl⟩
  have hw : WF 4 (St.start 4 [(1, 2, 0), (1, 3, 1), (4, 2, 3)]) := start_wf (by omega) (by
    intro k p q hm
    simp at hm
    omega)
  have := panalyze_ok exFile exW exF exN 30 _ _ sF w m (by decide) hm hml hT hTl (by decide) ex_parse ex_names.symm hs0 (by intro h; exact absurd h (by decide)) (fun h => absurd hp h) ex_ahead (WU.refl hw) h1 (by omega) (by intro s1 h; exact absurd h (by decide)) (by intro s1 h; exact absurd h (by decide)) (by
    rw [hr]
    unfold fitsR fitsS maxLen
    decide) (by rw [hr]; decide +kernel)
  rw [ht] at this
  exact this

set_option maxRecDepth 100000 in
theorem works_any (w : World) (m : Int) (hm : w.cell? ⟨1, 0, none⟩ = some (.int .i64 m)) (hml : 1 < w.heap.size) (hT : TabAt w) (hTl : 0 < w.heap.size) :
    Calls Tryz.prog 15 #[] w fun e w' => e = .returned (.bool true) ∧ Below w.heap.size w w' := by
  have HQ : Hid (∃ u : Nat, Calls Tryz.prog 12 #[.string exFile, wayV exW] w fun e w' => e = .returned (.tuple #[.agg #[.string exText, .int .i64 (u : Int)], .agg #[.int .i64 0, .int .i64 0]]) ∧ Below w.heap.size w w') := by
    refine hide ?_
    obtain ⟨sF, h1, h2⟩ := ex_sol
    refine ⟨sF.un, qanalyze_of exFile exW exText sF.un 0 0 w (fun W hb => ?_)⟩
    exact exanalyze sF h1 h2 W m ((hb.cell (p := ⟨1, 0, none⟩) hml).trans hm) (Nat.lt_of_lt_of_le hml hb.size) (hT.kb (Kb.of_below hb []) (by simp)) (Nat.lt_of_lt_of_le hTl hb.size)
  clear hm hml hT hTl
  obtain ⟨u, HQ⟩ := HQ.out
  go_enter Tryz.func15, Tryz.ntmps15
  go_wp2_with fail
  refine HQ.mono ?_
  rintro e W1 ⟨rfl, hb⟩
  clear HQ
  have hb2 := hb.alloc hb.size (.cells #[.string exText, .int .i64 (u : Int)] 31)
  have hb3 := hb2.alloc hb2.size (.cells #[.int .i64 0, .int .i64 0] 27)
  go_wp2_with fail
  have hx : (exText.toList == [97, 58, 32, 98, 10, 98, 58, 10, 112, 58, 32, 97, 10, 113, 58, 32, 98, 10]) = true := by decide +kernel
  rw [hx]
  exact bodyPost_ret (v := .bool true) (by simp [results, Tryz.results15, go_sem]) rfl ⟨rfl, hb3⟩

end Go.Proofs.YtiamlbhkiehilaaGreatDoor
