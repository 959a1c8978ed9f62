import Derived.Test.YtiamlbhkiehilaaGreatDoorBk01
namespace Go.Proofs.YtiamlbhkiehilaaGreatDoor
open Go.RowKit Go.Maps

theorem okGo_kinds {pre fs : List Fct} (h : okGo pre fs) : ∀ f ∈ fs, 1 ≤ f.k ∧ f.k ≤ 4 := by
  intro f hf
  have := okGo_fact h f hf
  simp only [factB, Bool.and_eq_true, decide_eq_true_eq] at this
  exact this.1

theorem okGo_dcount : ∀ {fs pre : List Fct}, okGo pre fs → fs = [] ∨ dcount (namesL (pre ++ fs)) ≤ 40 := by
  intro fs
  induction fs with
  | nil => intro pre _; exact .inl rfl
  | cons f r ih =>
    intro pre h
    right
    rcases ih h.2.2 with h1 | h1
    · subst h1
      have h2 := h.2.1
      obtain ⟨a, b, c⟩ := errOf_small h2
      by_cases h3 : 40 < dcount (namesL (pre ++ [f]))
      · rw [errOf_full (by omega) (by omega) h3] at h2
        cases h2
      · omega
    · rw [List.append_assoc, List.singleton_append] at h1
      exact h1

end Go.Proofs.YtiamlbhkiehilaaGreatDoor
