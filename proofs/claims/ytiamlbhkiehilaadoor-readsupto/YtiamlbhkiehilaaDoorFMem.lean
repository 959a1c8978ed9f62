import Derived.Test.YtiamlbhkiehilaaDoorTally
namespace Go.Proofs.YtiamlbhkiehilaaDoor
open Go.RowKit Go.Maps

theorem add_any (tb bm : Nat) (pre : List Fct) (k : Int) (p q : ByteArray) (w : World) (hl : pre.length ≤ 120) (hp : p.size ≤ maxLen) (hq : q.size ≤ maxLen) (ht : IsTally tb bm pre.length (2 * pre.length) (keysOf pre) w) :
    Calls Tryd.prog 32 #[.pointer (some ⟨tb, 0, none⟩), .agg #[.int .i64 k, .string p, .string q]] w fun e w' =>
      e = .returned (.int .i64 (errOf pre ⟨k, p, q⟩)) ∧ Kb [tb, bm] w w' ∧ (errOf pre ⟨k, p, q⟩ = 0 → IsTally tb bm (pre.length + 1) (2 * (pre.length + 1)) (keysOf (pre ++ [⟨k, p, q⟩])) w') := by
  by_cases h1 : 12 < p.size ∨ 12 < q.size
  · refine (add_name tb k p q w h1 hp hq).mono ?_
    rintro e w' ⟨rfl, hb⟩
    have := errOf_name (pre := pre) (f := ⟨k, p, q⟩) h1
    exact ⟨by rw [this], Kb.of_below hb _, fun h => absurd (this.symm.trans h) (by decide)⟩
  · by_cases h2 : 120 ≤ pre.length
    · have hpl : pre.length = 120 := by omega
      have he := errOf_many (pre := pre) (f := ⟨k, p, q⟩) h1 h2
      rw [hpl] at ht
      refine (add_many tb bm _ _ k p q w (by omega) (by omega) ht).mono ?_
      rintro e w' ⟨rfl, hb⟩
      exact ⟨by rw [he], Kb.of_below hb _, fun h => absurd (he.symm.trans h) (by decide)⟩
    · refine (add_puts tb bm pre.length (2 * pre.length) (keysOf pre) k p q w (by omega) (by omega) (by omega) (by omega) ht).mono ?_
      rintro e w' ⟨rfl, hk, ht'⟩
      have e1 : keysOf pre ++ [keyS p, keyS q] = keysOf (pre ++ [⟨k, p, q⟩]) := (keysOf_snoc pre ⟨k, p, q⟩).symm
      rw [e1] at ht' ⊢
      rw [size_setU]
      refine ⟨?_, hk, fun _ => ht'⟩
      by_cases h3 : 40 < dcount (namesL (pre ++ [⟨k, p, q⟩]))
      · rw [errOf_full h1 h2 h3, if_pos h3]
      · rw [errOf_ok h1 h2 h3, if_neg h3]

/-- Facts in a row of memory. -/
def FactsAt (b off : Nat) (fs : List Fct) (w : World) : Prop :=
  ∀ i k p q, fs[i]? = some ⟨k, p, q⟩ → w.cell? ⟨b, off + i * 3, none⟩ = some (.int .i64 k) ∧ w.cell? ⟨b, off + i * 3 + 1, none⟩ = some (.string p) ∧ w.cell? ⟨b, off + i * 3 + 2, none⟩ = some (.string q)

theorem FactsAt.below {b off : Nat} {fs : List Fct} {w w' : World} (h : FactsAt b off fs w) {B : Nat} (hb : Below B w w') (hlt : b < B) : FactsAt b off fs w' := by
  intro i k p q hi
  obtain ⟨h1, h2, h3⟩ := h i k p q hi
  exact ⟨(hb.cell (p := ⟨b, _, none⟩) hlt).trans h1, (hb.cell (p := ⟨b, _, none⟩) hlt).trans h2, (hb.cell (p := ⟨b, _, none⟩) hlt).trans h3⟩

def fitsF (fs : List Fct) : Prop := ∀ f ∈ fs, f.p.size ≤ maxLen ∧ f.q.size ≤ maxLen

/-- A slice of facts: whatever lies there where it is empty. -/
def IsFacts (v : Value) (fs : List Fct) (w : World) : Prop :=
  ∃ ao cap, v = .slice ao fs.length cap ∧ fs.length ≤ cap ∧ (ao = none → cap = 0) ∧ (fs ≠ [] → ∃ b off, ao = some ⟨b, off, none⟩ ∧ b < w.heap.size ∧ FactsAt b off fs w)

theorem IsFacts.below {v : Value} {fs : List Fct} {w w' : World} (h : IsFacts v fs w) (hb : Below w.heap.size w w') : IsFacts v fs w' := by
  obtain ⟨ao, cap, rfl, hc, hcn, h⟩ := h
  refine ⟨ao, cap, rfl, hc, hcn, fun hne => ?_⟩
  obtain ⟨b, off, rfl, hlt, hf⟩ := h hne
  exact ⟨b, off, rfl, Nat.lt_of_lt_of_le hlt hb.size, hf.below hb hlt⟩

end Go.Proofs.YtiamlbhkiehilaaDoor
