import Derived.Test.YtiamlbhkiehilaaDoorSSpec
namespace Go.Proofs.YtiamlbhkiehilaaDoor
open Go.RowKit Go.Maps

/-- What Parse answers of the rest of the lines, behind n of them and the facts that they said. -/
def parseGo : List Fct → Nat → List ByteArray → List Fct × Int × Int
  | pre, _, [] => (pre, 0, 0)
  | pre, n, l :: r =>
    if 80 < l.size then ([], 3, (n : Int) + 1)
    else if (saidB l).2 ≠ 0 then ([], (saidB l).2, (n : Int) + 1)
    else if (saidB l).1.k = 0 then parseGo pre (n + 1) r
    else if errOf pre (saidB l).1 = 0 then parseGo (pre ++ [(saidB l).1]) (n + 1) r
    else ([], errOf pre (saidB l).1, (n : Int) + 1)

/-- What Parse answers: the facts, the error's kind, its line. -/
def parseB (s : ByteArray) : List Fct × Int × Int := if 6000 < s.size then ([], 2, 0) else parseGo [] 0 (linesB s)

theorem parseGo_wide {pre : List Fct} {n : Nat} {l : ByteArray} {r : List ByteArray} (h : 80 < l.size) : parseGo pre n (l :: r) = ([], 3, (n : Int) + 1) := by simp [parseGo, h]
theorem parseGo_form {pre : List Fct} {n : Nat} {l : ByteArray} {r : List ByteArray} (h : ¬ 80 < l.size) {f : Fct} {e : Int} (hs : saidB l = (f, e)) (he : e ≠ 0) : parseGo pre n (l :: r) = ([], e, (n : Int) + 1) := by simp [parseGo, h, hs, he]
theorem parseGo_skip {pre : List Fct} {n : Nat} {l : ByteArray} {r : List ByteArray} (h : ¬ 80 < l.size) {f : Fct} (hs : saidB l = (f, 0)) (hk : f.k = 0) : parseGo pre n (l :: r) = parseGo pre (n + 1) r := by simp [parseGo, h, hs, hk]
theorem parseGo_add {pre : List Fct} {n : Nat} {l : ByteArray} {r : List ByteArray} (h : ¬ 80 < l.size) {f : Fct} (hs : saidB l = (f, 0)) (hk : f.k ≠ 0) (he : errOf pre f = 0) : parseGo pre n (l :: r) = parseGo (pre ++ [f]) (n + 1) r := by simp [parseGo, h, hs, hk, he]
theorem parseGo_bad {pre : List Fct} {n : Nat} {l : ByteArray} {r : List ByteArray} (h : ¬ 80 < l.size) {f : Fct} (hs : saidB l = (f, 0)) (hk : f.k ≠ 0) (he : errOf pre f ≠ 0) : parseGo pre n (l :: r) = ([], errOf pre f, (n : Int) + 1) := by simp [parseGo, h, hs, hk, he]

theorem nmsI_mem (ps ws : List ByteArray) (M : Nat) (h : ∀ x ∈ ws, x.size ≤ M) (i : Nat) : ∀ x ∈ nmsI ps ws i, x.size ≤ M := by
  induction i with
  | zero => simp [nmsI]
  | succ i ih =>
    unfold nmsI
    split
    · intro x hx
      rcases List.mem_append.1 hx with hx | hx
      · exact ih x hx
      · rw [List.mem_singleton.1 hx]
        cases hg : ws[i]? with
        | none => simp [hg, noB, ByteArray.size]
        | some y => simp [hg]; exact h y (List.mem_of_getElem? hg)
    · exact ih

theorem getD_size (l : List ByteArray) (M i : Nat) (h : ∀ x ∈ l, x.size ≤ M) : (l.getD i noB).size ≤ M := by
  cases hg : l[i]? with
  | none => simp [hg, noB, ByteArray.size]
  | some y => simp [hg]; exact h y (List.mem_of_getElem? hg)

theorem saidB_cases (l : ByteArray) : (∃ f, saidB l = (f, 0) ∧ f.p.size ≤ l.size ∧ f.q.size ≤ l.size ∧ 0 ≤ f.k ∧ f.k ≤ 4) ∨ saidB l = (noF, 4) := by
  cases hw : wordsR l 0 [] with
  | none => exact .inr (saidB_none hw)
  | some ws =>
    rw [saidB_some hw]
    have hz := wordsR_size hw
    have hf : ∀ k, (fctW ws k).p.size ≤ l.size ∧ (fctW ws k).q.size ≤ l.size := fun k => ⟨getD_size _ _ _ (nmsI_mem _ _ _ hz _), getD_size _ _ _ (nmsI_mem _ _ _ hz _)⟩
    unfold saidW
    split
    · exact .inl ⟨noF, rfl, Nat.zero_le _, Nat.zero_le _, Int.le_refl _, by decide⟩
    · split
      · exact .inl ⟨_, rfl, (hf 0).1, (hf 0).2, by simp [fctW], by simp [fctW]⟩
      · split
        · exact .inl ⟨_, rfl, (hf 1).1, (hf 1).2, by simp [fctW], by simp [fctW]⟩
        · split
          · exact .inl ⟨_, rfl, (hf 2).1, (hf 2).2, by simp [fctW], by simp [fctW]⟩
          · split
            · exact .inl ⟨_, rfl, (hf 3).1, (hf 3).2, by simp [fctW], by simp [fctW]⟩
            · exact .inr rfl

theorem linesB_size (s : ByteArray) : ∀ l ∈ linesB s, l.size ≤ s.size := by
  have h : ∀ i, ∀ l ∈ (lnI s i).1, l.size ≤ s.size := by
    intro i
    induction i with
    | zero => simp [lnI]
    | succ i ih =>
      unfold lnI
      split
      · intro l hl
        rcases List.mem_append.1 hl with hl | hl
        · exact ih l hl
        · rw [List.mem_singleton.1 hl, ByteArray.size_extract]; omega
      · exact ih
  intro l hl
  rcases List.mem_append.1 hl with hl | hl
  · exact h _ l hl
  · rw [List.mem_singleton.1 hl, ByteArray.size_extract]; omega

theorem linesB_len (s : ByteArray) : (linesB s).length ≤ s.size + 1 := by
  have := lnI_len s s.size
  simp [linesB]
  omega

theorem errOf_zero' {pre : List Fct} {f : Fct} (h : errOf pre f = 0) : f.p.size ≤ 12 ∧ f.q.size ≤ 12 ∧ pre.length < 120 := by
  unfold errOf at h
  by_cases h1 : 12 < f.p.size ∨ 12 < f.q.size
  · rw [if_pos h1] at h; exact absurd h (by decide)
  · rw [if_neg h1] at h
    by_cases h2 : 120 ≤ pre.length
    · rw [if_pos h2] at h; exact absurd h (by decide)
    · omega

end Go.Proofs.YtiamlbhkiehilaaDoor
