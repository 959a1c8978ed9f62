import Derived.Test.YtiamlbhkiehilaaDoorLSpec
import Derived.Lib.Split
import Derived.Lib.IndexBytes
namespace Go.Proofs.YtiamlbhkiehilaaDoor
open Go.Lib

/-- The lines of bytes. -/
def lnL : List UInt8 → List (List UInt8)
  | [] => [[]]
  | c :: r => if c = 10 then [] :: lnL r else match lnL r with
    | h :: t => (c :: h) :: t
    | [] => [[c]]

theorem lnL_pre (a b : List UInt8) (h : ∀ c ∈ a, c ≠ 10) : lnL (a ++ 10 :: b) = a :: lnL b := by
  induction a with
  | nil => simp [lnL]
  | cons c r ih =>
    have hc : c ≠ 10 := h c (by simp)
    have := ih (fun x hx => h x (by simp [hx]))
    rw [List.cons_append, lnL, if_neg hc, this]

theorem lnL_none (a : List UInt8) (h : ∀ c ∈ a, c ≠ 10) : lnL a = [a] := by
  induction a with
  | nil => rfl
  | cons c r ih =>
    have hc : c ≠ 10 := h c (by simp)
    rw [lnL, if_neg hc, ih (fun x hx => h x (by simp [hx]))]

theorem split_lnL (l : List UInt8) : splitK [10] 0 (count l [10]) l = lnL l := by
  induction l with
  | nil => rfl
  | cons c r ih =>
    have e := index_one (c :: r) 10
    have er := index_one r 10
    by_cases hc : c = 10
    · subst hc
      have e0 : index (10 :: r) [10] = ((0 : Nat) : Int) := by rw [e]; simp [indexByte]
      rw [count_hit (by simp) e0, Nat.add_comm, splitK, if_neg (by rw [e0]; decide), e0]
      simp [lnL]
      exact ih
    · rw [lnL, if_neg hc]
      rcases index_spec r [10] with ⟨h1, _⟩ | ⟨j, h1, hj, _⟩
      · have e1 : index (c :: r) [10] = -1 := by rw [e, indexByte, if_neg (by simpa using hc), ← er, h1]; rfl
        rw [count_miss h1] at ih
        rw [count_miss e1, ← ih]
        rfl
      · have e1 : index (c :: r) [10] = ((j + 1 : Nat) : Int) := by
          rw [e, indexByte, if_neg (by simpa using hc), ← er, h1, if_neg (by simp)]
          omega
        rw [count_hit (by simp) h1] at ih
        have e2 : count (c :: r) [10] = 1 + count (r.drop (j + 1)) [10] := by rw [count_hit (by simp) e1]; simp
        have e3 : [(10 : UInt8)].length = 1 := rfl
        rw [e3] at ih
        rw [e2]
        rw [Nat.add_comm 1] at ih ⊢
        rw [splitK, if_neg (by rw [h1]; simp), h1] at ih
        rw [splitK, if_neg (by rw [e1]; simp; omega), e1, ← ih]
        simp

theorem lnI_lnL (s : ByteArray) (i : Nat) (hi : i ≤ s.size) : (lnI s i).1.map (·.data.toList) ++ lnL (s.data.toList.drop (lnI s i).2) = lnL s.data.toList ∧ ∀ j c, (lnI s i).2 ≤ j → j < i → s.data.toList[j]? = some c → c ≠ 10 := by
  induction i with
  | zero => exact ⟨by simp [lnI], fun j c _ h => absurd h (Nat.not_lt_zero _)⟩
  | succ i ih =>
    obtain ⟨h1, h2⟩ := ih (by omega)
    have hle := lnI_le s i
    have hsz : s.data.toList.length = s.size := by simp
    by_cases hc : s.data.toList[i]? = some 10
    · have e : lnI s (i + 1) = ((lnI s i).1 ++ [s.extract (lnI s i).2 i], i + 1) := by simp only [lnI]; rw [if_pos hc]
      rw [e]
      refine ⟨?_, fun j c hj1 hj2 => by simp at hj1; omega⟩
      generalize lnI s i = st at *
      obtain ⟨out, fr⟩ := st
      simp only at h1 h2 hle ⊢
      have hex : (s.extract fr i).data.toList = (s.data.toList.drop fr).take (i - fr) := by
        rw [ByteArray.data_extract, Array.toList_extract, List.extract_eq_take_drop]
      have hd : s.data.toList.drop fr = (s.data.toList.drop fr).take (i - fr) ++ 10 :: s.data.toList.drop (i + 1) := by
        have hl : i < s.data.toList.length := by omega
        have : s.data.toList.drop i = 10 :: s.data.toList.drop (i + 1) := by
          rw [List.drop_eq_getElem_cons hl]
          rw [List.getElem?_eq_getElem hl] at hc
          rw [Option.some.inj hc]
        rw [← this]
        have e3 : s.data.toList.drop i = (s.data.toList.drop fr).drop (i - fr) := by rw [List.drop_drop]; congr 1; omega
        rw [e3, List.take_append_drop]
      rw [hd, lnL_pre] at h1
      · rw [List.map_append, List.map_cons, List.map_nil, List.append_assoc, hex]
        exact h1
      · intro c hcm
        obtain ⟨j, hje⟩ := List.mem_iff_getElem?.1 hcm
        have hj := (List.getElem?_eq_some_iff.1 hje).1
        rw [List.length_take, List.length_drop] at hj
        rw [List.getElem?_take, if_pos (by omega), List.getElem?_drop] at hje
        exact h2 (fr + j) c (by omega) (by omega) hje
    · have e : lnI s (i + 1) = lnI s i := by simp only [lnI]; rw [if_neg hc]
      rw [e]
      refine ⟨h1, fun j c hj1 hj2 hjc => ?_⟩
      by_cases hji : j = i
      · subst hji
        intro e10
        rw [e10] at hjc
        exact hc hjc
      · exact h2 j c hj1 (by omega) hjc

theorem linesB_lnL (s : ByteArray) : (linesB s).map (·.data.toList) = lnL s.data.toList := by
  obtain ⟨h1, h2⟩ := lnI_lnL s s.size (Nat.le_refl _)
  have hle := lnI_le s s.size
  unfold linesB
  generalize lnI s s.size = st at *
  obtain ⟨out, fr⟩ := st
  simp only at h1 h2 hle ⊢
  have hsz : s.data.toList.length = s.size := by simp
  have hex : (s.extract fr s.size).data.toList = s.data.toList.drop fr := by
    rw [ByteArray.data_extract, Array.toList_extract, List.extract_eq_take_drop, List.take_of_length_le (by rw [List.length_drop]; omega)]
  rw [lnL_none] at h1
  · rw [List.map_append, List.map_cons, List.map_nil, hex]
    exact h1
  · intro c hcm
    obtain ⟨j, hje⟩ := List.mem_iff_getElem?.1 hcm
    have hj := (List.getElem?_eq_some_iff.1 hje).1
    rw [List.length_drop] at hj
    rw [List.getElem?_drop] at hje
    exact h2 (fr + j) c (by omega) (by omega) hje

theorem data_inj {a b : ByteArray} (h : a.data.toList = b.data.toList) : a = b := by
  obtain ⟨⟨x⟩⟩ := a
  obtain ⟨⟨y⟩⟩ := b
  simp at h
  subst h
  rfl

theorem map_inj {l m : List ByteArray} (h : l.map (·.data.toList) = m.map (·.data.toList)) : l = m := by
  induction l generalizing m with
  | nil => cases m with
    | nil => rfl
    | cons y r => simp at h
  | cons x r ih => cases m with
    | nil => simp at h
    | cons y t =>
      rw [List.map_cons, List.map_cons] at h
      injection h with h1 h2
      rw [data_inj h1, ih h2]

/-- The library's cut at newlines is the document's. -/
theorem split_lines (s : ByteArray) : splitB ⟨#[10]⟩ 0 (countB s ⟨#[10]⟩) s = linesB s := by
  apply map_inj
  rw [splitB_data, linesB_lnL, ← split_lnL]

end Go.Proofs.YtiamlbhkiehilaaDoor
