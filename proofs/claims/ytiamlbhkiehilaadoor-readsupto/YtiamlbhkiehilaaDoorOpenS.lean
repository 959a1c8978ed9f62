import Derived.Test.YtiamlbhkiehilaaDoorRows2
import Derived.Test.YtiamlbhkiehilaaDoorRows
import Derived.ProofKit
import Derived.SizedLaws
import Derived.Deep.Slices
import Derived.Deep.Strs
import Derived.JoinedCond
namespace Go.Proofs.YtiamlbhkiehilaaDoor
open Go.ChangeShapes Go.WideShapes Go.ChangeAt Go.RowKit Go.Deep

theorem ownT : ownKnob Tryd.prog.godebug = none := by kernel_rfl
theorem laidOutT : laidOutB Tryd.prog = true := by kernel_rfl
theorem cellsStrT : Tryd.prog.cellsOf 9 = 1 := by kernel_rfl

theorem list_of_allT {α : Type} {n : Nat} {p : Nat → α → Prop} (h : ∀ i, i < n → ∃ x, p i x) : ∃ l : List α, l.length = n ∧ ∀ i x, l[i]? = some x → p i x := by
  induction n with
  | zero => exact ⟨[], rfl, fun i x hx => by simp at hx⟩
  | succ n ih =>
    obtain ⟨l, hl, hp⟩ := ih (fun i hi => h i (by omega))
    obtain ⟨x, hx⟩ := h n (by omega)
    refine ⟨l ++ [x], by simp [hl], fun i y hy => ?_⟩
    rw [List.getElem?_append] at hy
    split at hy
    · exact hp i y hy
    · rename_i hi
      have hz : i - l.length = 0 := by
        have := lt_get hy
        simp at this
        omega
      rw [hz] at hy
      simp at hy
      have : i = n := by omega
      subst this
      exact hy ▸ hx

section
variable {H : Type} {enc : TypeId × Value → H} {w : World} {held : Bool}

theorem cell_spot {a : Addr} {v : Value} (h : w.cell? a = some v) : a.spot = none ∧ a.block < w.heap.size := by
  refine ⟨World.cell?_spot h, ?_⟩
  unfold World.cell? at h
  cases hb : w.heap[a.block]? with
  | none => rw [hb] at h; cases h
  | some o => exact lt_of_heap hb

theorem bulk_strs (ss : List ByteArray) : Rows.uptoBulkAll (H := H) (ss.map fun s => .lit (.string s.data.toList)) = toWidth ss := by
  induction ss with
  | nil => rfl
  | cons s r ih =>
    have : s.data.toList.length = s.size := Array.length_toList
    simp only [List.map_cons, Rows.uptoBulkAll, Rows.uptoBulk, ih, toWidth, this]
    omega

/-- A slice of texts that came in. -/
theorem open_texts {fuel : Nat} {cs : List Value} {x : DataW H × List MemPlace} (h : DataW.trod enc Tryd.prog w 0 (fun _ => true) held fuel 22 cs = some x) :
    ∃ tv ss, cs = [tv] ∧ IsStrs tv ss w ∧ fitsS ss ∧ ss.length ≤ maxLen ∧ toWidth ss + 1 ≤ Rows.uptoBulk x.1 := by
  rcases open_strs Tryd.underlying22 Tryd.underlying9 cellsStrT h with ⟨rfl, rfl⟩ | ⟨a, len, cap, m, Sx, rfl, _, hl, hm, hmm, rfl, hel⟩
  · exact ⟨_, [], rfl, ⟨none, 0, rfl, Nat.le_refl _, (fun _ => rfl), fun h => absurd rfl h⟩, (fun s hs => by simp at hs), Nat.zero_le _, Nat.le_refl _⟩
  · simp only [if_true] at hmm
    subst hmm
    have hss : ((List.range len).map Sx).length = len := by simp
    refine ⟨_, (List.range len).map Sx, rfl, ⟨some a, m, by rw [hss], by rw [hss]; exact hl, (fun h => by cases h), fun hne => ?_⟩, ?_, by rw [hss]; omega, ?_⟩
    · have hpos : 0 < len := by
        cases len with
        | zero => exact absurd rfl hne
        | succ n => omega
      have hc0 := (hel 0 (by omega)).1
      obtain ⟨b, off, spot⟩ := a
      have hs0 := cell_spot hc0
      have hspot : spot = none := by simpa [Addr.add] using hs0.1
      subst hspot
      refine ⟨b, off, rfl, by simpa [Addr.add] using hs0.2, ?_⟩
      intro i s hi
      have hli := lt_get hi
      rw [hss] at hli
      rw [List.getElem?_map, List.getElem?_range hli] at hi
      simp at hi
      have := (hel i (by omega)).1
      rw [Addr.add_lit] at this
      rw [this, hi]
    · intro s hs
      obtain ⟨i, hi, rfl⟩ := List.mem_map.1 hs
      exact (hel i (by have := List.mem_range.1 hi; omega)).2
    · have e : ((List.range len).map fun i => DataW.lit (H := H) (.string (Sx i).data.toList)) = ((List.range len).map Sx).map fun s => .lit (.string s.data.toList) := by rw [List.map_map]; rfl
      simp only [Rows.uptoBulk]
      rw [e, bulk_strs]
      omega

end

end Go.Proofs.YtiamlbhkiehilaaDoor
