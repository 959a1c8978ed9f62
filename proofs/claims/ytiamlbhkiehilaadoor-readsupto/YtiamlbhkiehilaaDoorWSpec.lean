import Derived.Test.YtiamlbhkiehilaaDoorLSpec
namespace Go.Proofs.YtiamlbhkiehilaaDoor
open Go.RowKit Go.Maps

/-- A byte as a number; 0 beyond the end. -/
def byteAt (s : ByteArray) (k : Nat) : Int := if h : k < s.size then (s[k].toNat : Int) else 0

theorem byteAt_lt {s : ByteArray} {k : Nat} (h : k < s.size) : byteAt s k = (s[k].toNat : Int) := by simp [byteAt, h]

/-- Where a name ends. -/
def nEndN (s : ByteArray) : Nat → Nat → Nat
  | 0, k => k
  | f + 1, k => if partB (byteAt s k) = true then nEndN s f (k + 1) else k
def nEnd (s : ByteArray) (k : Nat) : Nat := nEndN s (s.size - k) k

theorem nEnd_end {s : ByteArray} {k : Nat} (h : s.size ≤ k) : nEnd s k = k := by
  unfold nEnd
  rw [Nat.sub_eq_zero_of_le h]
  rfl
theorem nEnd_no {s : ByteArray} {k : Nat} (h : k < s.size) (hp : partB (s[k].toNat : Int) = false) : nEnd s k = k := by
  unfold nEnd
  obtain ⟨f, hf⟩ : ∃ f, s.size - k = f + 1 := ⟨s.size - k - 1, by omega⟩
  rw [hf]
  simp only [nEndN, byteAt_lt h, hp]
  simp
theorem nEnd_yes {s : ByteArray} {k : Nat} (h : k < s.size) (hp : partB (s[k].toNat : Int) = true) : nEnd s k = nEnd s (k + 1) := by
  unfold nEnd
  obtain ⟨f, hf⟩ : ∃ f, s.size - k = f + 1 := ⟨s.size - k - 1, by omega⟩
  have hf2 : s.size - (k + 1) = f := by omega
  rw [hf, hf2]
  simp only [nEndN, byteAt_lt h, hp]
  simp
theorem nEndN_ge (s : ByteArray) (f k : Nat) : k ≤ nEndN s f k := by
  induction f generalizing k with
  | zero => exact Nat.le_refl _
  | succ f ih =>
    unfold nEndN
    split
    · have := ih (k + 1); omega
    · exact Nat.le_refl _
theorem nEnd_ge (s : ByteArray) (k : Nat) : k ≤ nEnd s k := nEndN_ge _ _ _
theorem nEndN_le (s : ByteArray) (f k : Nat) : nEndN s f k ≤ k + f := by
  induction f generalizing k with
  | zero => exact Nat.le_refl _
  | succ f ih =>
    unfold nEndN
    split
    · have := ih (k + 1); omega
    · omega
theorem nEnd_le {s : ByteArray} {k : Nat} (h : k ≤ s.size) : nEnd s k ≤ s.size := by
  have := nEndN_le s (s.size - k) k
  unfold nEnd
  omega

/-- What a byte opens: 0 a remark, 1 a blank, 2 a sign, 3 a name, 4 nothing that may be. -/
def kindB (c : Int) : Nat :=
  if c = 35 then 0 else if c = 32 ∨ c = 9 then 1 else if c = 61 ∨ c = 38 ∨ c = 42 then 2 else if startB c = true then 3 else 4

/-- A line's names and signs, behind those that were found. -/
def wordsN (s : ByteArray) : Nat → Nat → List ByteArray → Option (List ByteArray)
  | 0, _, out => some out
  | f + 1, i, out =>
    if s.size ≤ i then some out
    else if kindB (byteAt s i) = 0 then some out
    else if kindB (byteAt s i) = 1 then wordsN s f (i + 1) out
    else if kindB (byteAt s i) = 2 then wordsN s f (i + 1) (out ++ [s.extract i (i + 1)])
    else if kindB (byteAt s i) = 3 then wordsN s f (nEnd s (i + 1)) (out ++ [s.extract i (nEnd s (i + 1))])
    else none

def wordsR (s : ByteArray) (i : Nat) (out : List ByteArray) : Option (List ByteArray) := wordsN s (s.size - i) i out

theorem wordsN_end (s : ByteArray) (f i : Nat) (out : List ByteArray) (h : s.size ≤ i) : wordsN s f i out = some out := by
  cases f with
  | zero => rfl
  | succ f => simp only [wordsN, if_pos h]

theorem wordsN_fuel (s : ByteArray) (f g i : Nat) (out : List ByteArray) (hf : s.size - i ≤ f) (hg : s.size - i ≤ g) : wordsN s f i out = wordsN s g i out := by
  induction f generalizing g i out with
  | zero => rw [wordsN_end s 0 i out (by omega), wordsN_end s g i out (by omega)]
  | succ f ih =>
    by_cases h : s.size ≤ i
    · rw [wordsN_end s _ i out h, wordsN_end s _ i out h]
    · obtain ⟨g, rfl⟩ : ∃ g', g = g' + 1 := ⟨g - 1, by omega⟩
      have hn := nEnd_ge s (i + 1)
      unfold wordsN
      rw [ih g (i + 1) out (by omega) (by omega), ih g (i + 1) (out ++ [s.extract i (i + 1)]) (by omega) (by omega), ih g (nEnd s (i + 1)) _ (by omega) (by omega)]

theorem wordsR_step {s : ByteArray} {i : Nat} {out : List ByteArray} (h : i < s.size) : wordsR s i out =
    if kindB (s[i].toNat : Int) = 0 then some out
    else if kindB (s[i].toNat : Int) = 1 then wordsR s (i + 1) out
    else if kindB (s[i].toNat : Int) = 2 then wordsR s (i + 1) (out ++ [s.extract i (i + 1)])
    else if kindB (s[i].toNat : Int) = 3 then wordsR s (nEnd s (i + 1)) (out ++ [s.extract i (nEnd s (i + 1))])
    else none := by
  obtain ⟨f, hf⟩ : ∃ f, s.size - i = f + 1 := ⟨s.size - i - 1, by omega⟩
  have hn := nEnd_ge s (i + 1)
  have e1 : ∀ o, wordsR s (i + 1) o = wordsN s f (i + 1) o := fun o => wordsN_fuel _ _ _ _ _ (by omega) (by omega)
  have e2 : ∀ o, wordsR s (nEnd s (i + 1)) o = wordsN s f (nEnd s (i + 1)) o := fun o => wordsN_fuel _ _ _ _ _ (by omega) (by omega)
  simp only [e1, e2]
  unfold wordsR
  rw [hf]
  simp only [wordsN, byteAt_lt h]
  rw [if_neg (by omega)]

theorem wordsR_end {s : ByteArray} {i : Nat} {out : List ByteArray} (h : s.size ≤ i) : wordsR s i out = some out := wordsN_end _ _ _ _ h
theorem wordsR_0 {s : ByteArray} {i : Nat} {out : List ByteArray} (h : i < s.size) (k : kindB (s[i].toNat : Int) = 0) : wordsR s i out = some out := by simp [wordsR_step h, k]
theorem wordsR_1 {s : ByteArray} {i : Nat} {out : List ByteArray} (h : i < s.size) (k : kindB (s[i].toNat : Int) = 1) : wordsR s i out = wordsR s (i + 1) out := by rw [wordsR_step h, k]; simp
theorem wordsR_2 {s : ByteArray} {i : Nat} {out : List ByteArray} (h : i < s.size) (k : kindB (s[i].toNat : Int) = 2) : wordsR s i out = wordsR s (i + 1) (out ++ [s.extract i (i + 1)]) := by rw [wordsR_step h, k]; simp
theorem wordsR_3 {s : ByteArray} {i : Nat} {out : List ByteArray} (h : i < s.size) (k : kindB (s[i].toNat : Int) = 3) : wordsR s i out = wordsR s (nEnd s (i + 1)) (out ++ [s.extract i (nEnd s (i + 1))]) := by rw [wordsR_step h, k]; simp
theorem wordsR_4 {s : ByteArray} {i : Nat} {out : List ByteArray} (h : i < s.size) (k : kindB (s[i].toNat : Int) = 4) : wordsR s i out = none := by rw [wordsR_step h, k]; simp

theorem wordsN_size (s : ByteArray) (f i : Nat) (out ws : List ByteArray) (h : wordsN s f i out = some ws) (ho : ∀ x ∈ out, x.size ≤ s.size) : ∀ x ∈ ws, x.size ≤ s.size := by
  have ext : ∀ a b, ∀ x ∈ out ++ [s.extract a b], x.size ≤ s.size := by
    intro a b x hx
    rcases List.mem_append.1 hx with hx | hx
    · exact ho x hx
    · rw [List.mem_singleton.1 hx, ByteArray.size_extract]
      omega
  induction f generalizing i out with
  | zero =>
    simp only [wordsN, Option.some.injEq] at h
    subst h
    exact ho
  | succ f ih =>
    unfold wordsN at h
    have ext2 : ∀ (o : List ByteArray), (∀ x ∈ o, x.size ≤ s.size) → ∀ a b, ∀ x ∈ o ++ [s.extract a b], x.size ≤ s.size := by
      intro o ho a b x hx
      rcases List.mem_append.1 hx with hx | hx
      · exact ho x hx
      · rw [List.mem_singleton.1 hx, ByteArray.size_extract]
        omega
    repeat' split at h
    · simp only [Option.some.injEq] at h; subst h; exact ho
    · simp only [Option.some.injEq] at h; subst h; exact ho
    · exact ih _ _ h ho ext
    · exact ih _ _ h (ext _ _) (ext2 _ (ext _ _))
    · exact ih _ _ h (ext _ _) (ext2 _ (ext _ _))
    · cases h

theorem wordsR_size {s : ByteArray} {ws : List ByteArray} (h : wordsR s 0 [] = some ws) : ∀ x ∈ ws, x.size ≤ s.size := wordsN_size s _ _ [] ws h (by simp)

theorem kindB_cases (c : Int) : (c = 35 ∧ kindB c = 0) ∨ (c ≠ 35 ∧ (c = 32 ∨ c = 9) ∧ kindB c = 1) ∨ (c ≠ 35 ∧ ¬ (c = 32 ∨ c = 9) ∧ (c = 61 ∨ c = 38 ∨ c = 42) ∧ kindB c = 2) ∨
    (c ≠ 35 ∧ ¬ (c = 32 ∨ c = 9) ∧ ¬ (c = 61 ∨ c = 38 ∨ c = 42) ∧ startB c = true ∧ kindB c = 3) ∨ (c ≠ 35 ∧ ¬ (c = 32 ∨ c = 9) ∧ ¬ (c = 61 ∨ c = 38 ∨ c = 42) ∧ startB c = false ∧ kindB c = 4) := by
  unfold kindB
  by_cases h1 : c = 35
  · simp [h1]
  · by_cases h2 : c = 32 ∨ c = 9
    · simp only [if_neg h1, if_pos h2]; simp [h1, h2]
    · by_cases h3 : c = 61 ∨ c = 38 ∨ c = 42
      · simp only [if_neg h1, if_neg h2, if_pos h3]; simp [h1, h2, h3]
      · cases h4 : startB c
        · exact .inr (.inr (.inr (.inr ⟨h1, h2, h3, rfl, by simp [if_neg h1, if_neg h2, if_neg h3]⟩)))
        · exact .inr (.inr (.inr (.inl ⟨h1, h2, h3, rfl, by simp [if_neg h1, if_neg h2, if_neg h3]⟩)))

end Go.Proofs.YtiamlbhkiehilaaDoor
