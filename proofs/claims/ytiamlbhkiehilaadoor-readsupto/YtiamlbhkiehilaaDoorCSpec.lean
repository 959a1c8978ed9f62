import Derived.Test.YtiamlbhkiehilaaDoorPSpec
namespace Go.Proofs.YtiamlbhkiehilaaDoor
open Go.RowKit Go.Maps

/-- The sign that stands for a word in a line's shape. -/
def shape1 (x : ByteArray) : UInt8 := if nameB x.data.toList = true then 110 else x.data.toList.headD 0
def shapeL (ws : List ByteArray) : List UInt8 := ws.map shape1
def isNm (x : ByteArray) : Bool := nameB x.data.toList
def nmsL (ws : List ByteArray) : List ByteArray := ws.filter isNm
/-- A name or a sign. -/
def isWord (x : ByteArray) : Prop := nameB x.data.toList = true ∨ x = ⟨#[61]⟩ ∨ x = ⟨#[38]⟩ ∨ x = ⟨#[42]⟩

theorem ext_one (s : ByteArray) (i : Nat) (h : i < s.size) : s.extract i (i + 1) = ⟨#[s[i]]⟩ := by
  apply ByteArray.ext
  rw [ByteArray.data_extract]
  apply Array.toList_inj.1
  rw [Array.toList_extract, List.extract_eq_take_drop]
  rw [List.drop_eq_getElem_cons (by simpa using h)]
  simp
  rfl

theorem sign_word {s : ByteArray} {i : Nat} (h : i < s.size) (hc : (s[i].toNat : Int) = 61 ∨ (s[i].toNat : Int) = 38 ∨ (s[i].toNat : Int) = 42) :
    isWord (s.extract i (i + 1)) ∧ isNm (s.extract i (i + 1)) = false ∧ shape1 (s.extract i (i + 1)) = s[i] := by
  rw [ext_one s i h]
  have hc' : s[i] = 61 ∨ s[i] = 38 ∨ s[i] = 42 := by
    rcases hc with hc | hc | hc
    · exact .inl (UInt8.toNat_inj.1 (by simp; omega))
    · exact .inr (.inl (UInt8.toNat_inj.1 (by simp; omega)))
    · exact .inr (.inr (UInt8.toNat_inj.1 (by simp; omega)))
  rcases hc' with e | e | e <;> rw [e]
  · exact ⟨.inr (.inl rfl), by decide, by decide⟩
  · exact ⟨.inr (.inr (.inl rfl)), by decide, by decide⟩
  · exact ⟨.inr (.inr (.inr rfl)), by decide, by decide⟩

theorem nEnd_parts (s : ByteArray) (f k : Nat) (hf : k + f = s.size) : ∀ j, k ≤ j → j < nEndN s f k → partB (byteAt s j) = true := by
  induction f generalizing k with
  | zero => intro j h1 h2; simp only [nEndN] at h2; omega
  | succ f ih =>
    intro j h1 h2
    unfold nEndN at h2
    by_cases hp : partB (byteAt s k) = true
    · rw [if_pos hp] at h2
      by_cases e : j = k
      · subst e; exact hp
      · exact ih (k + 1) (by omega) j (by omega) h2
    · rw [if_neg hp] at h2
      omega

theorem name_word {s : ByteArray} {i : Nat} (h : i < s.size) (hc : startB (s[i].toNat : Int) = true) :
    isNm (s.extract i (nEnd s (i + 1))) = true := by
  have hge := nEnd_ge s (i + 1)
  have hle := nEnd_le (s := s) (k := i + 1) h
  have hp := nEnd_parts s (s.size - (i + 1)) (i + 1) (by omega)
  have hp' : ∀ j, i + 1 ≤ j → j < nEnd s (i + 1) → partB (byteAt s j) = true := hp
  generalize nEnd s (i + 1) = k at *
  have e : (s.extract i k).data.toList = s[i] :: (s.data.toList.drop (i + 1)).take (k - (i + 1)) := by
    rw [ByteArray.data_extract, Array.toList_extract, List.extract_eq_take_drop, List.drop_eq_getElem_cons (by simpa using h)]
    have e2 : k - i = (k - (i + 1)) + 1 := by omega
    rw [e2, List.take_succ_cons]
    rfl
  unfold isNm
  rw [e]
  simp only [nameB, hc, Bool.true_and, partsB, List.all_eq_true]
  intro c hcm
  obtain ⟨j, hj, hje⟩ := List.mem_iff_getElem.1 hcm
  simp at hj
  have hlt : i + 1 + j < s.size := by omega
  have := hp' (i + 1 + j) (by omega) (by omega)
  rw [byteAt_lt hlt] at this
  have e3 : c = s[i + 1 + j] := by
    rw [← hje]
    simp
    rfl
  rw [e3]
  exact this

/-- The kind that a shape says. -/
def kindS (sh : List UInt8) : Int × Bool :=
  if sh = [] then (0, true) else if sh = [110, 61, 38, 110] then (1, true) else if sh = [110, 61, 110] then (2, true) else if sh = [110, 61, 42, 110] then (3, true) else if sh = [42, 110, 61, 110] then (4, true) else (0, false)

theorem shape_eq {x : ByteArray} (hx : isWord x) : (shape1 x = 110 ↔ nameB x.data.toList = true) ∧ (shape1 x = 61 ↔ x = ⟨#[61]⟩) ∧ (shape1 x = 38 ↔ x = ⟨#[38]⟩) ∧ (shape1 x = 42 ↔ x = ⟨#[42]⟩) := by
  rcases hx with h | rfl | rfl | rfl
  · have hs : shape1 x = 110 := by unfold shape1; rw [if_pos h]
    rw [hs]
    refine ⟨by simp [h], ?_, ?_, ?_⟩
    · constructor
      · intro h; exact absurd h (by decide)
      · rintro rfl; exact absurd h (by decide)
    · constructor
      · intro h; exact absurd h (by decide)
      · rintro rfl; exact absurd h (by decide)
    · constructor
      · intro h; exact absurd h (by decide)
      · rintro rfl; exact absurd h (by decide)
  · decide
  · decide
  · decide

end Go.Proofs.YtiamlbhkiehilaaDoor
