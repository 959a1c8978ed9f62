import Derived.Test.YtiamlbhkiehilaaDoorChars
import Derived.WalkSpells
import Derived.Test.YtiamlbhkiehilaaDoorTSpec
import Derived.BigQuiet
import Derived.Deep.QuietTactic
namespace Go.Proofs.YtiamlbhkiehilaaDoor
open Go.RowKit

/-- Texts in a row of memory. -/
def StrsAt (b off : Nat) (ss : List ByteArray) (w : World) : Prop := ∀ i s, ss[i]? = some s → w.cell? ⟨b, off + i, none⟩ = some (.string s)

/-- A slice of texts: whatever lies there where it is empty. -/
def IsStrs (v : Value) (ss : List ByteArray) (w : World) : Prop :=
  ∃ ao cap, v = .slice ao ss.length cap ∧ ss.length ≤ cap ∧ (ao = none → cap = 0) ∧ (ss ≠ [] → ∃ b off, ao = some ⟨b, off, none⟩ ∧ b < w.heap.size ∧ StrsAt b off ss w)

def fitsS (ss : List ByteArray) : Prop := ∀ s ∈ ss, s.size ≤ maxLen

theorem StrsAt.below {b off : Nat} {ss : List ByteArray} {w w' : World} (h : StrsAt b off ss w) {B : Nat} (hb : Below B w w') (hlt : b < B) : StrsAt b off ss w' :=
  fun i s hi => (hb.cell (p := ⟨b, _, none⟩) hlt).trans (h i s hi)

theorem IsStrs.below {v : Value} {ss : List ByteArray} {w w' : World} (h : IsStrs v ss w) (hb : Below w.heap.size w w') : IsStrs v ss w' := by
  obtain ⟨ao, cap, rfl, hc, hn, h⟩ := h
  refine ⟨ao, cap, rfl, hc, hn, fun hne => ?_⟩
  obtain ⟨b, off, rfl, hlt, hf⟩ := h hne
  exact ⟨b, off, rfl, Nat.lt_of_lt_of_le hlt hb.size, hf.below hb hlt⟩

theorem below_drewN {w w' : World} (h : Below w.heap.size w w') (n : Nat) : Below w.heap.size w (w'.drewN n) := ⟨h.os, h.tape, h.output, h.size, h.block⟩

theorem ne_nil_of_get {α : Type} {l : List α} {i : Nat} {x : α} (h : l[i]? = some x) : l ≠ [] := by
  rintro rfl
  simp at h

set_option maxHeartbeats 400000 in
theorem inOrder_any (v : Value) (ss : List ByteArray) (w : World) (hlen : ss.length ≤ maxLen) (hv : IsStrs v ss w) :
    Calls Tryd.prog 42 #[v] w fun e w' => e = .returned (.bool (ascB ss)) ∧ Below w.heap.size w w' := by
  obtain ⟨ao, cap, rfl, _, _, hne0⟩ := hv
  have hne := hide hne0
  clear hne0
  unfold maxLen at hlen
  go_enter Tryd.func42, Tryd.ntmps42
  go_wp2
  go_loopw [3] (fun i wr => ∃ j : Nat, i = .int .i64 ((j : Int) + 1) ∧ (j + 1 ≤ ss.length ∨ j = 0) ∧ Hid (ascB (ss.take (j + 1)) = true) ∧ Below w.heap.size w wr) (fun i _ => ss.length - (intOf i).toNat)
  case atStart => exact ⟨0, rfl, Or.inr rfl, ascB_one ss, Below.refl _ _⟩
  case round =>
    obtain ⟨j, rfl, hj, HA, hb⟩ := hrel
    by_cases hlt : j + 1 < ss.length
    · clear hj
      obtain ⟨a, ha⟩ : ∃ a, ss[j]? = some a := ⟨_, List.getElem?_eq_getElem (by omega)⟩
      obtain ⟨c, hc⟩ : ∃ c, ss[j + 1]? = some c := ⟨_, List.getElem?_eq_getElem hlt⟩
      obtain ⟨b, off, hao, hbw, hs⟩ := hne.out (ne_nil_of_get ha)
      subst hao
      have d0 := (hs.below hb hbw) j a ha
      have d1 := (hs.below hb hbw) (j + 1) c hc
      have hst := ascB_step ha hc
      rw [HA.out, Bool.true_and] at hst
      have hle := leqS_eq c a
      clear ha hc hs hne
      cases hl : lessS a c
      · rw [hl] at hst hle
        have HF := hide (ascB_take_false hst)
        have hq : (Op.bytesLess c.toList a.toList || c.toList == a.toList) = true := hle
        clear hst hle hl
        go_wp2
        go_quiet (fail)
        go_wp2
        go_ret
        exact ⟨by rw [HF.out]; rfl, below_drewN hb _⟩
      · rw [hl] at hst hle
        have HS := hide hst
        have hq : (Op.bytesLess c.toList a.toList || c.toList == a.toList) = false := hle
        clear hst hle hl
        go_wp2
        go_quiet (fail)
        go_wp2
        go_roundw
        case rel => exact ⟨j + 1, by go_num, Or.inl (by omega), HS.out, below_drewN hb _⟩
        case measure => simp [intOf]; omega
    · have HF : Hid (ascB ss = true) := by
        have h := HA.out
        rwa [List.take_of_length_le (by omega)] at h
      go_wp2
      go_ret
      exact ⟨by rw [HF.out]; rfl, hb⟩

end Go.Proofs.YtiamlbhkiehilaaDoor
