import Derived.Test.YtiamlbhkiehilaaGreatDoorBk00
import Derived.Lib.Split
import Derived.Lib.IndexBytes
import Derived.Test.YtiamlbhkiehilaaGreatDoorRows
import Derived.Laws.StructEq
import Derived.WalkKit
namespace Go.Proofs.YtiamlbhkiehilaaGreatDoor
open Go.RowKit Go.Maps

/-- The sign that stands for a word in a line's shape. -/
def shape1 (x : ByteArray) : UInt8 := if nameB x.data.toList = true then 110 else x.data.toList.headD 0
def shapeL (ws : List ByteArray) : List UInt8 := ws.map shape1
def isNm (x : ByteArray) : Bool := nameB x.data.toList
def nmsL (ws : List ByteArray) : List ByteArray := ws.filter isNm
/-- A name or a sign. -/
def isWord (x : ByteArray) : Prop := nameB x.data.toList = true ∨ x = ⟨#[61]⟩ ∨ x = ⟨#[38]⟩ ∨ x = ⟨#[42]⟩

theorem ext_one (s : ByteArray) (i : Nat) (h : i < s.size) : s.extract i (i + 1) = ⟨#[s[i]]⟩ := by
  apply ByteArray.ext
  rw [ByteArray.data_extract]
  apply Array.toList_inj.1
  rw [Array.toList_extract, List.extract_eq_take_drop]
  rw [List.drop_eq_getElem_cons (by simpa using h)]
  simp
  rfl

theorem sign_word {s : ByteArray} {i : Nat} (h : i < s.size) (hc : (s[i].toNat : Int) = 61 ∨ (s[i].toNat : Int) = 38 ∨ (s[i].toNat : Int) = 42) :
    isWord (s.extract i (i + 1)) ∧ isNm (s.extract i (i + 1)) = false ∧ shape1 (s.extract i (i + 1)) = s[i] := by
  rw [ext_one s i h]
  have hc' : s[i] = 61 ∨ s[i] = 38 ∨ s[i] = 42 := by
    rcases hc with hc | hc | hc
    · exact .inl (UInt8.toNat_inj.1 (by simp; omega))
    · exact .inr (.inl (UInt8.toNat_inj.1 (by simp; omega)))
    · exact .inr (.inr (UInt8.toNat_inj.1 (by simp; omega)))
  rcases hc' with e | e | e <;> rw [e]
  · exact ⟨.inr (.inl rfl), by decide, by decide⟩
  · exact ⟨.inr (.inr (.inl rfl)), by decide, by decide⟩
  · exact ⟨.inr (.inr (.inr rfl)), by decide, by decide⟩

theorem nEnd_parts (s : ByteArray) (f k : Nat) (hf : k + f = s.size) : ∀ j, k ≤ j → j < nEndN s f k → partB (byteAt s j) = true := by
  induction f generalizing k with
  | zero => intro j h1 h2; simp only [nEndN] at h2; omega
  | succ f ih =>
    intro j h1 h2
    unfold nEndN at h2
    by_cases hp : partB (byteAt s k) = true
    · rw [if_pos hp] at h2
      by_cases e : j = k
      · subst e; exact hp
      · exact ih (k + 1) (by omega) j (by omega) h2
    · rw [if_neg hp] at h2
      omega

theorem name_word {s : ByteArray} {i : Nat} (h : i < s.size) (hc : startB (s[i].toNat : Int) = true) :
    isNm (s.extract i (nEnd s (i + 1))) = true := by
  have hge := nEnd_ge s (i + 1)
  have hle := nEnd_le (s := s) (k := i + 1) h
  have hp := nEnd_parts s (s.size - (i + 1)) (i + 1) (by omega)
  have hp' : ∀ j, i + 1 ≤ j → j < nEnd s (i + 1) → partB (byteAt s j) = true := hp
  generalize nEnd s (i + 1) = k at *
  have e : (s.extract i k).data.toList = s[i] :: (s.data.toList.drop (i + 1)).take (k - (i + 1)) := by
    rw [ByteArray.data_extract, Array.toList_extract, List.extract_eq_take_drop, List.drop_eq_getElem_cons (by simpa using h)]
    have e2 : k - i = (k - (i + 1)) + 1 := by omega
    rw [e2, List.take_succ_cons]
    rfl
  unfold isNm
  rw [e]
  simp only [nameB, hc, Bool.true_and, partsB, List.all_eq_true]
  intro c hcm
  obtain ⟨j, hj, hje⟩ := List.mem_iff_getElem.1 hcm
  simp at hj
  have hlt : i + 1 + j < s.size := by omega
  have := hp' (i + 1 + j) (by omega) (by omega)
  rw [byteAt_lt hlt] at this
  have e3 : c = s[i + 1 + j] := by
    rw [← hje]
    simp
    rfl
  rw [e3]
  exact this

/-- The kind that a shape says. -/
def kindS (sh : List UInt8) : Int × Bool :=
  if sh = [] then (0, true) else if sh = [110, 61, 38, 110] then (1, true) else if sh = [110, 61, 110] then (2, true) else if sh = [110, 61, 42, 110] then (3, true) else if sh = [42, 110, 61, 110] then (4, true) else (0, false)

theorem shape_eq {x : ByteArray} (hx : isWord x) : (shape1 x = 110 ↔ nameB x.data.toList = true) ∧ (shape1 x = 61 ↔ x = ⟨#[61]⟩) ∧ (shape1 x = 38 ↔ x = ⟨#[38]⟩) ∧ (shape1 x = 42 ↔ x = ⟨#[42]⟩) := by
  rcases hx with h | rfl | rfl | rfl
  · have hs : shape1 x = 110 := by unfold shape1; rw [if_pos h]
    rw [hs]
    refine ⟨by simp [h], ?_, ?_, ?_⟩
    · constructor
      · intro h; exact absurd h (by decide)
      · rintro rfl; exact absurd h (by decide)
    · constructor
      · intro h; exact absurd h (by decide)
      · rintro rfl; exact absurd h (by decide)
    · constructor
      · intro h; exact absurd h (by decide)
      · rintro rfl; exact absurd h (by decide)
  · decide
  · decide
  · decide

end Go.Proofs.YtiamlbhkiehilaaGreatDoor

namespace Go.Proofs.YtiamlbhkiehilaaGreatDoor
open Go.RowKit Go.Maps

theorem fits_name (x : ByteArray) : fitsOne noB x = isNm x := by simp [fitsOne, noB, ByteArray.size, isNm]
theorem fits_sign (c : UInt8) (x : ByteArray) : fitsOne ⟨#[c]⟩ x = decide (x = ⟨#[c]⟩) := by simp [fitsOne, ByteArray.size]

theorem good_0 (a b c d : ByteArray) : goodW [a, b, c, d] 0 = (isNm a && decide (b = ⟨#[61]⟩) && decide (c = ⟨#[38]⟩) && isNm d) := by
  simp [goodW, pat, fitsI, fits_name, fits_sign]
theorem good_1 (a b c : ByteArray) : goodW [a, b, c] 1 = (isNm a && decide (b = ⟨#[61]⟩) && isNm c) := by
  simp [goodW, pat, fitsI, fits_name, fits_sign]
theorem good_2 (a b c d : ByteArray) : goodW [a, b, c, d] 2 = (isNm a && decide (b = ⟨#[61]⟩) && decide (c = ⟨#[42]⟩) && isNm d) := by
  simp [goodW, pat, fitsI, fits_name, fits_sign]
theorem good_3 (a b c d : ByteArray) : goodW [a, b, c, d] 3 = (decide (a = ⟨#[42]⟩) && isNm b && decide (c = ⟨#[61]⟩) && isNm d) := by
  simp [goodW, pat, fitsI, fits_name, fits_sign]

theorem good_len {ws : List ByteArray} {k : Nat} (h : (pat k).length ≠ ws.length) : goodW ws k = false := by simp [goodW, h]

theorem sign_no (c : UInt8) (h : startB c.toNat = false) : isNm ⟨#[c]⟩ = false := by simp [isNm, nameB, h]

/-- What the words say, by their shape. -/
def saidK (ws : List ByteArray) : Fct × Int :=
  if (kindS (shapeL ws)).2 = true then (if (kindS (shapeL ws)).1 = 0 then noF else ⟨(kindS (shapeL ws)).1, (nmsL ws).getD 0 noB, (nmsL ws).getD 1 noB⟩, 0) else (noF, 4)

theorem said_kind4 (a b c d : ByteArray) (ha : isWord a) (hb : isWord b) (hc : isWord c) (hd : isWord d) : saidW [a, b, c, d] = saidK [a, b, c, d] ∧ ((kindS (shapeL [a, b, c, d])).1 ≠ 0 → (nmsL [a, b, c, d]).length = 2) := by
  obtain ⟨a1, a2, a3, a4⟩ := shape_eq ha
  obtain ⟨b1, b2, b3, b4⟩ := shape_eq hb
  obtain ⟨c1, c2, c3, c4⟩ := shape_eq hc
  obtain ⟨d1, d2, d3, d4⟩ := shape_eq hd
  have e0 : (shapeL [a, b, c, d] = [110, 61, 38, 110]) ↔ goodW [a, b, c, d] 0 = true := by
    rw [good_0]; simp [shapeL, a1, b2, c3, d1, isNm, and_assoc]
  have e1 : goodW [a, b, c, d] 1 = false := good_len (by simp [pat])
  have e2 : (shapeL [a, b, c, d] = [110, 61, 42, 110]) ↔ goodW [a, b, c, d] 2 = true := by
    rw [good_2]; simp [shapeL, a1, b2, c4, d1, isNm, and_assoc]
  have e3 : (shapeL [a, b, c, d] = [42, 110, 61, 110]) ↔ goodW [a, b, c, d] 3 = true := by
    rw [good_3]; simp [shapeL, a4, b1, c2, d1, isNm, and_assoc]
  have f0 : shapeL [a, b, c, d] ≠ [] := by simp [shapeL]
  have f1 : shapeL [a, b, c, d] ≠ [110, 61, 110] := by simp [shapeL]
  have s61 : isNm ⟨#[61]⟩ = false := by decide
  have s38 : isNm ⟨#[38]⟩ = false := by decide
  have s42 : isNm ⟨#[42]⟩ = false := by decide
  unfold saidK kindS saidW
  rw [if_neg (show ¬ ([a, b, c, d] : List ByteArray).length = 0 by simp)]
  simp only [f0, f1, if_false, e1, e0, e2, e3]
  by_cases g0 : goodW [a, b, c, d] 0 = true
  · have g := g0
    rw [good_0] at g
    simp only [Bool.and_eq_true, decide_eq_true_eq] at g
    obtain ⟨⟨⟨h1, rfl⟩, rfl⟩, h4⟩ := g
    have en : nmsL [a, ⟨#[61]⟩, ⟨#[38]⟩, d] = [a, d] := by simp [nmsL, h1, h4, s61, s38]
    have ef : fctW [a, ⟨#[61]⟩, ⟨#[38]⟩, d] 0 = ⟨1, a, d⟩ := by simp [fctW, nmsI, pat, noB, ByteArray.size]
    rw [en]
    simp [g0, ef]
  · simp only [g0]
    by_cases g2 : goodW [a, b, c, d] 2 = true
    · have g := g2
      rw [good_2] at g
      simp only [Bool.and_eq_true, decide_eq_true_eq] at g
      obtain ⟨⟨⟨h1, rfl⟩, rfl⟩, h4⟩ := g
      have en : nmsL [a, ⟨#[61]⟩, ⟨#[42]⟩, d] = [a, d] := by simp [nmsL, h1, h4, s61, s42]
      have ef : fctW [a, ⟨#[61]⟩, ⟨#[42]⟩, d] 2 = ⟨3, a, d⟩ := by simp [fctW, nmsI, pat, noB, ByteArray.size]
      rw [en]
      simp [g2, ef]
    · simp only [g2]
      by_cases g3 : goodW [a, b, c, d] 3 = true
      · have g := g3
        rw [good_3] at g
        simp only [Bool.and_eq_true, decide_eq_true_eq] at g
        obtain ⟨⟨⟨rfl, h2⟩, rfl⟩, h4⟩ := g
        have en : nmsL [⟨#[42]⟩, b, ⟨#[61]⟩, d] = [b, d] := by simp [nmsL, h2, h4, s61, s42]
        have ef : fctW [⟨#[42]⟩, b, ⟨#[61]⟩, d] 3 = ⟨4, b, d⟩ := by simp [fctW, nmsI, pat, noB, ByteArray.size]
        rw [en]
        simp [g3, ef]
      · simp [g3]

theorem said_kind3 (a b c : ByteArray) (ha : isWord a) (hb : isWord b) (hc : isWord c) : saidW [a, b, c] = saidK [a, b, c] ∧ ((kindS (shapeL [a, b, c])).1 ≠ 0 → (nmsL [a, b, c]).length = 2) := by
  obtain ⟨a1, a2, a3, a4⟩ := shape_eq ha
  obtain ⟨b1, b2, b3, b4⟩ := shape_eq hb
  obtain ⟨c1, c2, c3, c4⟩ := shape_eq hc
  have e1 : (shapeL [a, b, c] = [110, 61, 110]) ↔ goodW [a, b, c] 1 = true := by
    rw [good_1]; simp [shapeL, a1, b2, c1, isNm, and_assoc]
  have e0 : goodW [a, b, c] 0 = false := good_len (by simp [pat])
  have e2 : goodW [a, b, c] 2 = false := good_len (by simp [pat])
  have e3 : goodW [a, b, c] 3 = false := good_len (by simp [pat])
  have f0 : shapeL [a, b, c] ≠ [] := by simp [shapeL]
  have f1 : shapeL [a, b, c] ≠ [110, 61, 38, 110] := by simp [shapeL]
  have f2 : shapeL [a, b, c] ≠ [110, 61, 42, 110] := by simp [shapeL]
  have f3 : shapeL [a, b, c] ≠ [42, 110, 61, 110] := by simp [shapeL]
  have s61 : isNm ⟨#[61]⟩ = false := by decide
  unfold saidK kindS saidW
  rw [if_neg (show ¬ ([a, b, c] : List ByteArray).length = 0 by simp)]
  simp only [f0, f1, f2, f3, if_false, e1, e0, e2, e3]
  by_cases g0 : goodW [a, b, c] 1 = true
  · have g := g0
    rw [good_1] at g
    simp only [Bool.and_eq_true, decide_eq_true_eq] at g
    obtain ⟨⟨h1, rfl⟩, h4⟩ := g
    have en : nmsL [a, ⟨#[61]⟩, c] = [a, c] := by simp [nmsL, h1, h4, s61]
    have ef : fctW [a, ⟨#[61]⟩, c] 1 = ⟨2, a, c⟩ := by simp [fctW, nmsI, pat, noB, ByteArray.size]
    rw [en]
    simp [g0, ef]
  · simp [g0]

theorem said_kind (ws : List ByteArray) (h : ∀ x ∈ ws, isWord x) : saidW ws = saidK ws ∧ ((kindS (shapeL ws)).1 ≠ 0 → (nmsL ws).length = 2) := by
  have other : ∀ ws : List ByteArray, ws.length ≠ 0 → ws.length ≠ 3 → ws.length ≠ 4 → saidW ws = saidK ws ∧ ((kindS (shapeL ws)).1 ≠ 0 → (nmsL ws).length = 2) := by
    intro ws h0 h3 h4
    have hl : (shapeL ws).length = ws.length := by simp [shapeL]
    have f : ∀ l : List UInt8, l.length = 0 ∨ l.length = 3 ∨ l.length = 4 → shapeL ws ≠ l := by
      intro l hll e
      rw [e] at hl
      omega
    have g : ∀ k, k < 4 → goodW ws k = false := by
      intro k hk
      have hc : k = 0 ∨ k = 1 ∨ k = 2 ∨ k = 3 := by omega
      rcases hc with rfl | rfl | rfl | rfl <;> exact good_len (by simp [pat]; omega)
    have e : kindS (shapeL ws) = (0, false) := by
      unfold kindS
      rw [if_neg (f _ (by simp)), if_neg (f _ (by simp)), if_neg (f _ (by simp)), if_neg (f _ (by simp)), if_neg (f _ (by simp))]
    rw [saidW_bad (by omega) g]
    unfold saidK
    rw [e]
    simp
  match ws, h with
  | [], _ => exact ⟨rfl, fun h => absurd rfl h⟩
  | [a], _ => exact other _ (by simp) (by simp) (by simp)
  | [a, b], _ => exact other _ (by simp) (by simp) (by simp)
  | [a, b, c], h => exact said_kind3 a b c (h a (by simp)) (h b (by simp)) (h c (by simp))
  | [a, b, c, d], h => exact said_kind4 a b c d (h a (by simp)) (h b (by simp)) (h c (by simp)) (h d (by simp))
  | a :: b :: c :: d :: e :: r, _ => exact other _ (by simp) (by simp) (by simp)

end Go.Proofs.YtiamlbhkiehilaaGreatDoor

namespace Go.Proofs.YtiamlbhkiehilaaGreatDoor
open Go.Lib

/-- The lines of bytes. -/
def lnL : List UInt8 → List (List UInt8)
  | [] => [[]]
  | c :: r => if c = 10 then [] :: lnL r else match lnL r with
    | h :: t => (c :: h) :: t
    | [] => [[c]]

theorem lnL_pre (a b : List UInt8) (h : ∀ c ∈ a, c ≠ 10) : lnL (a ++ 10 :: b) = a :: lnL b := by
  induction a with
  | nil => simp [lnL]
  | cons c r ih =>
    have hc : c ≠ 10 := h c (by simp)
    have := ih (fun x hx => h x (by simp [hx]))
    rw [List.cons_append, lnL, if_neg hc, this]

theorem lnL_none (a : List UInt8) (h : ∀ c ∈ a, c ≠ 10) : lnL a = [a] := by
  induction a with
  | nil => rfl
  | cons c r ih =>
    have hc : c ≠ 10 := h c (by simp)
    rw [lnL, if_neg hc, ih (fun x hx => h x (by simp [hx]))]

theorem split_lnL (l : List UInt8) : splitK [10] 0 (count l [10]) l = lnL l := by
  induction l with
  | nil => rfl
  | cons c r ih =>
    have e := index_one (c :: r) 10
    have er := index_one r 10
    by_cases hc : c = 10
    · subst hc
      have e0 : index (10 :: r) [10] = ((0 : Nat) : Int) := by rw [e]; simp [indexByte]
      rw [count_hit (by simp) e0, Nat.add_comm, splitK, if_neg (by rw [e0]; decide), e0]
      simp [lnL]
      exact ih
    · rw [lnL, if_neg hc]
      rcases index_spec r [10] with ⟨h1, _⟩ | ⟨j, h1, hj, _⟩
      · have e1 : index (c :: r) [10] = -1 := by rw [e, indexByte, if_neg (by simpa using hc), ← er, h1]; rfl
        rw [count_miss h1] at ih
        rw [count_miss e1, ← ih]
        rfl
      · have e1 : index (c :: r) [10] = ((j + 1 : Nat) : Int) := by
          rw [e, indexByte, if_neg (by simpa using hc), ← er, h1, if_neg (by simp)]
          omega
        rw [count_hit (by simp) h1] at ih
        have e2 : count (c :: r) [10] = 1 + count (r.drop (j + 1)) [10] := by rw [count_hit (by simp) e1]; simp
        have e3 : [(10 : UInt8)].length = 1 := rfl
        rw [e3] at ih
        rw [e2]
        rw [Nat.add_comm 1] at ih ⊢
        rw [splitK, if_neg (by rw [h1]; simp), h1] at ih
        rw [splitK, if_neg (by rw [e1]; simp; omega), e1, ← ih]
        simp

theorem lnI_lnL (s : ByteArray) (i : Nat) (hi : i ≤ s.size) : (lnI s i).1.map (·.data.toList) ++ lnL (s.data.toList.drop (lnI s i).2) = lnL s.data.toList ∧ ∀ j c, (lnI s i).2 ≤ j → j < i → s.data.toList[j]? = some c → c ≠ 10 := by
  induction i with
  | zero => exact ⟨by simp [lnI], fun j c _ h => absurd h (Nat.not_lt_zero _)⟩
  | succ i ih =>
    obtain ⟨h1, h2⟩ := ih (by omega)
    have hle := lnI_le s i
    have hsz : s.data.toList.length = s.size := by simp
    by_cases hc : s.data.toList[i]? = some 10
    · have e : lnI s (i + 1) = ((lnI s i).1 ++ [s.extract (lnI s i).2 i], i + 1) := by simp only [lnI]; rw [if_pos hc]
      rw [e]
      refine ⟨?_, fun j c hj1 hj2 => by simp at hj1; omega⟩
      generalize lnI s i = st at *
      obtain ⟨out, fr⟩ := st
      simp only at h1 h2 hle ⊢
      have hex : (s.extract fr i).data.toList = (s.data.toList.drop fr).take (i - fr) := by
        rw [ByteArray.data_extract, Array.toList_extract, List.extract_eq_take_drop]
      have hd : s.data.toList.drop fr = (s.data.toList.drop fr).take (i - fr) ++ 10 :: s.data.toList.drop (i + 1) := by
        have hl : i < s.data.toList.length := by omega
        have : s.data.toList.drop i = 10 :: s.data.toList.drop (i + 1) := by
          rw [List.drop_eq_getElem_cons hl]
          rw [List.getElem?_eq_getElem hl] at hc
          rw [Option.some.inj hc]
        rw [← this]
        have e3 : s.data.toList.drop i = (s.data.toList.drop fr).drop (i - fr) := by rw [List.drop_drop]; congr 1; omega
        rw [e3, List.take_append_drop]
      rw [hd, lnL_pre] at h1
      · rw [List.map_append, List.map_cons, List.map_nil, List.append_assoc, hex]
        exact h1
      · intro c hcm
        obtain ⟨j, hje⟩ := List.mem_iff_getElem?.1 hcm
        have hj := (List.getElem?_eq_some_iff.1 hje).1
        rw [List.length_take, List.length_drop] at hj
        rw [List.getElem?_take, if_pos (by omega), List.getElem?_drop] at hje
        exact h2 (fr + j) c (by omega) (by omega) hje
    · have e : lnI s (i + 1) = lnI s i := by simp only [lnI]; rw [if_neg hc]
      rw [e]
      refine ⟨h1, fun j c hj1 hj2 hjc => ?_⟩
      by_cases hji : j = i
      · subst hji
        intro e10
        rw [e10] at hjc
        exact hc hjc
      · exact h2 j c hj1 (by omega) hjc

theorem linesB_lnL (s : ByteArray) : (linesB s).map (·.data.toList) = lnL s.data.toList := by
  obtain ⟨h1, h2⟩ := lnI_lnL s s.size (Nat.le_refl _)
  have hle := lnI_le s s.size
  unfold linesB
  generalize lnI s s.size = st at *
  obtain ⟨out, fr⟩ := st
  simp only at h1 h2 hle ⊢
  have hsz : s.data.toList.length = s.size := by simp
  have hex : (s.extract fr s.size).data.toList = s.data.toList.drop fr := by
    rw [ByteArray.data_extract, Array.toList_extract, List.extract_eq_take_drop, List.take_of_length_le (by rw [List.length_drop]; omega)]
  rw [lnL_none] at h1
  · rw [List.map_append, List.map_cons, List.map_nil, hex]
    exact h1
  · intro c hcm
    obtain ⟨j, hje⟩ := List.mem_iff_getElem?.1 hcm
    have hj := (List.getElem?_eq_some_iff.1 hje).1
    rw [List.length_drop] at hj
    rw [List.getElem?_drop] at hje
    exact h2 (fr + j) c (by omega) (by omega) hje

theorem data_inj {a b : ByteArray} (h : a.data.toList = b.data.toList) : a = b := by
  obtain ⟨⟨x⟩⟩ := a
  obtain ⟨⟨y⟩⟩ := b
  simp at h
  subst h
  rfl

theorem map_inj {l m : List ByteArray} (h : l.map (·.data.toList) = m.map (·.data.toList)) : l = m := by
  induction l generalizing m with
  | nil => cases m with
    | nil => rfl
    | cons y r => simp at h
  | cons x r ih => cases m with
    | nil => simp at h
    | cons y t =>
      rw [List.map_cons, List.map_cons] at h
      injection h with h1 h2
      rw [data_inj h1, ih h2]

/-- The library's cut at newlines is the document's. -/
theorem split_lines (s : ByteArray) : splitB ⟨#[10]⟩ 0 (countB s ⟨#[10]⟩) s = linesB s := by
  apply map_inj
  rw [splitB_data, linesB_lnL, ← split_lnL]

end Go.Proofs.YtiamlbhkiehilaaGreatDoor

namespace Go.Proofs.YtiamlbhkiehilaaGreatDoor
open Go.RowKit Go.Maps

/-- A byte that a name goes on with. -/
def prt (c : UInt8) : Bool := partB c.toNat

theorem drop_takeWhile {α : Type} (p : α → Bool) (l : List α) : l.drop (l.takeWhile p).length = l.dropWhile p := by
  induction l with
  | nil => rfl
  | cons a r ih =>
    by_cases h : p a = true
    · simp [List.takeWhile, List.dropWhile, h, ih]
    · simp [List.takeWhile, List.dropWhile, h]

theorem take_takeWhile {α : Type} (p : α → Bool) (l : List α) : l.take (l.takeWhile p).length = l.takeWhile p := by
  induction l with
  | nil => rfl
  | cons a r ih =>
    by_cases h : p a = true
    · simp [List.takeWhile, h, ih]
    · simp [List.takeWhile, h]

/-- A line's words, of its bytes as a list. -/
def wlN : Nat → List UInt8 → List ByteArray → Option (List ByteArray)
  | 0, _, out => some out
  | _ + 1, [], out => some out
  | f + 1, c :: r, out =>
    if kindB c.toNat = 0 then some out
    else if kindB c.toNat = 1 then wlN f r out
    else if kindB c.toNat = 2 then wlN f r (out ++ [⟨#[c]⟩])
    else if kindB c.toNat = 3 then wlN f (r.dropWhile prt) (out ++ [⟨(c :: r.takeWhile prt).toArray⟩])
    else none

theorem drop_cons {s : ByteArray} {i : Nat} (h : i < s.size) : s.data.toList.drop i = s[i] :: s.data.toList.drop (i + 1) := by
  rw [List.drop_eq_getElem_cons (by simpa using h)]
  rfl

theorem nEnd_take (s : ByteArray) : ∀ (d k : Nat), s.size - k = d → k ≤ s.size → nEnd s k = k + ((s.data.toList.drop k).takeWhile prt).length := by
  intro d
  induction d with
  | zero =>
    intro k hd hk
    have : k = s.size := by omega
    subst this
    rw [nEnd_end (Nat.le_refl _), List.drop_eq_nil_of_le (by simp)]
    rfl
  | succ d ih =>
    intro k hd hk
    have hlt : k < s.size := by omega
    rw [drop_cons hlt]
    cases hp : partB (s[k].toNat : Int)
    · rw [nEnd_no hlt hp]
      simp [List.takeWhile, prt, hp]
    · rw [nEnd_yes hlt hp, ih (k + 1) (by omega) hlt]
      simp [List.takeWhile, prt, hp]
      omega

theorem words_list (s : ByteArray) : ∀ (f i : Nat) (out : List ByteArray), i ≤ s.size → wordsN s f i out = wlN f (s.data.toList.drop i) out := by
  intro f
  induction f with
  | zero => intro i out _; rfl
  | succ f ih =>
    intro i out hi
    by_cases hlt : i < s.size
    · rw [drop_cons hlt]
      have hn := nEnd_take s _ (i + 1) rfl hlt
      have hle := nEnd_le (s := s) (k := i + 1) hlt
      have hext : s.extract i (nEnd s (i + 1)) = ⟨(s[i] :: (s.data.toList.drop (i + 1)).takeWhile prt).toArray⟩ := by
        apply data_inj
        rw [ByteArray.data_extract, Array.toList_extract, List.extract_eq_take_drop, drop_cons hlt, hn, show i + 1 + ((s.data.toList.drop (i + 1)).takeWhile prt).length - i = ((s.data.toList.drop (i + 1)).takeWhile prt).length + 1 by omega, List.take_succ_cons, take_takeWhile]
      have hdr : s.data.toList.drop (nEnd s (i + 1)) = (s.data.toList.drop (i + 1)).dropWhile prt := by
        rw [hn, ← List.drop_drop, drop_takeWhile]
      simp only [wordsN, wlN, byteAt_lt hlt]
      rw [if_neg (by omega), ih (i + 1) out hlt, ih (i + 1) _ hlt, ih (nEnd s (i + 1)) _ hle, hdr, hext, ext_one s i hlt]
    · have : s.size ≤ i := by omega
      rw [wordsN_end s _ i out this, List.drop_eq_nil_of_le (by simpa using this)]
      rfl

theorem wlN_fuel : ∀ (n : Nat) (l : List UInt8) (f g : Nat) (out : List ByteArray), l.length ≤ n → l.length ≤ f → l.length ≤ g → wlN f l out = wlN g l out := by
  intro n
  induction n with
  | zero =>
    intro l f g out hl hf hg
    have : l = [] := List.length_eq_zero_iff.1 (by omega)
    subst this
    cases f <;> cases g <;> rfl
  | succ n ih =>
    intro l f g out hl hf hg
    cases l with
    | nil => cases f <;> cases g <;> rfl
    | cons c r =>
      simp only [List.length_cons] at hl hf hg
      obtain ⟨f, rfl⟩ : ∃ f', f = f' + 1 := ⟨f - 1, by omega⟩
      obtain ⟨g, rfl⟩ : ∃ g', g = g' + 1 := ⟨g - 1, by omega⟩
      have hd : (r.dropWhile prt).length ≤ r.length := by
        rw [← drop_takeWhile, List.length_drop]; omega
      simp only [wlN]
      rw [ih r f g out (by omega) (by omega) (by omega), ih r f g _ (by omega) (by omega) (by omega), ih (r.dropWhile prt) f g _ (by omega) (by omega) (by omega)]

def wl (l : List UInt8) (out : List ByteArray) : Option (List ByteArray) := wlN l.length l out

theorem words_wl (s : ByteArray) : wordsR s 0 [] = wl s.data.toList [] := by
  unfold wordsR wl
  rw [words_list s _ 0 [] (Nat.zero_le _)]
  simp

theorem wl_nil (out : List ByteArray) : wl [] out = some out := rfl
theorem wl_1 {c : UInt8} {r : List UInt8} {out : List ByteArray} (h : kindB c.toNat = 1) : wl (c :: r) out = wl r out := by simp [wl, wlN, h]
theorem wl_2 {c : UInt8} {r : List UInt8} {out : List ByteArray} (h : kindB c.toNat = 2) : wl (c :: r) out = wl r (out ++ [⟨#[c]⟩]) := by simp [wl, wlN, h]
theorem wl_3 {c : UInt8} {r : List UInt8} {out : List ByteArray} (h : kindB c.toNat = 3) : wl (c :: r) out = wl (r.dropWhile prt) (out ++ [⟨(c :: r.takeWhile prt).toArray⟩]) := by
  have hd : (r.dropWhile prt).length ≤ r.length := by
    rw [← drop_takeWhile, List.length_drop]; omega
  unfold wl
  simp only [List.length_cons, wlN, h]
  simp
  exact wlN_fuel r.length _ _ _ _ hd hd (Nat.le_refl _)

theorem kind_start {c : Int} (h : startB c = true) : kindB c = 3 := by
  rcases kindB_cases c with ⟨h1, _⟩ | ⟨_, h2, _⟩ | ⟨_, _, h3, _⟩ | ⟨_, _, _, _, hk⟩ | ⟨_, _, _, h4, _⟩
  · subst h1; exact absurd h (by decide)
  · rcases h2 with rfl | rfl <;> exact absurd h (by decide)
  · rcases h3 with rfl | rfl | rfl <;> exact absurd h (by decide)
  · exact hk
  · rw [h] at h4; cases h4

theorem name_parts {n : List UInt8} (h : nameB n = true) : ∃ c t, n = c :: t ∧ startB c.toNat = true ∧ ∀ x ∈ t, prt x = true := by
  cases n with
  | nil => cases h
  | cons c t =>
    simp only [nameB, Bool.and_eq_true, partsB, List.all_eq_true] at h
    exact ⟨c, t, rfl, h.1, h.2⟩

theorem takeWhile_all {α : Type} {p : α → Bool} {t : List α} (h : ∀ x ∈ t, p x = true) (d : α) (r : List α) (hd : p d = false) : (t ++ d :: r).takeWhile p = t ∧ (t ++ d :: r).dropWhile p = d :: r := by
  induction t with
  | nil => simp [hd]
  | cons a t ih =>
    have ha := h a (by simp)
    obtain ⟨h1, h2⟩ := ih (fun x hx => h x (by simp [hx]))
    simp [ha, h1, h2]

theorem takeWhile_end {α : Type} {p : α → Bool} {t : List α} (h : ∀ x ∈ t, p x = true) : t.takeWhile p = t ∧ t.dropWhile p = [] := by
  induction t with
  | nil => simp
  | cons a t ih =>
    have ha := h a (by simp)
    obtain ⟨h1, h2⟩ := ih (fun x hx => h x (by simp [hx]))
    simp [List.takeWhile, List.dropWhile, ha, h1, h2]

/-- A name, and a sign behind it. -/
theorem wl_name {n : ByteArray} (h : nameB n.data.toList = true) (d : UInt8) (r : List UInt8) (hd : prt d = false) (out : List ByteArray) : wl (n.data.toList ++ d :: r) out = wl (d :: r) (out ++ [n]) := by
  obtain ⟨c, t, he, hc, ht⟩ := name_parts h
  obtain ⟨h1, h2⟩ := takeWhile_all ht d r hd
  rw [he, List.cons_append, wl_3 (kind_start hc), h1, h2]
  have : (⟨(c :: t).toArray⟩ : ByteArray) = n := by apply data_inj; simp [he]
  rw [this]

theorem wl_last {n : ByteArray} (h : nameB n.data.toList = true) (out : List ByteArray) : wl n.data.toList out = some (out ++ [n]) := by
  obtain ⟨c, t, he, hc, ht⟩ := name_parts h
  obtain ⟨h1, h2⟩ := takeWhile_end ht
  rw [he, wl_3 (kind_start hc), h1, h2, wl_nil]
  have : (⟨(c :: t).toArray⟩ : ByteArray) = n := by apply data_inj; simp [he]
  rw [this]

/-- A fact's line, without its newline. -/
def lineL (f : Fct) : List UInt8 :=
  if f.k = 1 then f.p.data.toList ++ 32 :: 61 :: 32 :: 38 :: f.q.data.toList
  else if f.k = 3 then f.p.data.toList ++ 32 :: 61 :: 32 :: 42 :: f.q.data.toList
  else if f.k = 4 then 42 :: (f.p.data.toList ++ 32 :: 61 :: 32 :: f.q.data.toList)
  else f.p.data.toList ++ 32 :: 61 :: 32 :: f.q.data.toList

theorem lineL_eq (f : Fct) : (lineB f.k f.p f.q).data.toList = lineL f ++ [10] := by
  unfold lineB lineL
  split
  · simp [ByteArray.data_append]
  · split
    · simp [ByteArray.data_append]
    · split
      · simp [ByteArray.data_append]
      · simp [ByteArray.data_append]

theorem said_line {f : Fct} (h : factB f.k f.p f.q = true) : saidB ⟨(lineL f).toArray⟩ = (f, 0) := by
  obtain ⟨k, p, q⟩ := f
  simp only [factB, Bool.and_eq_true, decide_eq_true_eq] at h
  obtain ⟨⟨hk1, hk4⟩, hp, hq⟩ := h
  have s61 : kindB ((61 : UInt8).toNat : Int) = 2 := by decide
  have s38 : kindB ((38 : UInt8).toNat : Int) = 2 := by decide
  have s42 : kindB ((42 : UInt8).toNat : Int) = 2 := by decide
  have s32 : kindB ((32 : UInt8).toNat : Int) = 1 := by decide
  have n61 : isNm ⟨#[61]⟩ = false := by decide
  have n38 : isNm ⟨#[38]⟩ = false := by decide
  have n42 : isNm ⟨#[42]⟩ = false := by decide
  have ip : isNm p = true := hp
  have iq : isNm q = true := hq
  have hcase : k = 1 ∨ k = 2 ∨ k = 3 ∨ k = 4 := by omega
  rcases hcase with rfl | rfl | rfl | rfl
  · have hw : wordsR ⟨(lineL ⟨1, p, q⟩).toArray⟩ 0 [] = some [p, ⟨#[61]⟩, ⟨#[38]⟩, q] := by
      rw [words_wl]
      show wl (lineL ⟨1, p, q⟩) [] = _
      unfold lineL
      rw [if_pos rfl, wl_name hp _ _ (by decide), wl_1 s32, wl_2 s61, wl_1 s32, wl_2 s38, wl_last hq]
      rfl
    rw [saidB_some hw]
    have g0 : goodW [p, ⟨#[61]⟩, ⟨#[38]⟩, q] 0 = true := by rw [good_0]; simp [ip, iq]
    have ef : fctW [p, ⟨#[61]⟩, ⟨#[38]⟩, q] 0 = ⟨1, p, q⟩ := by simp [fctW, nmsI, pat, noB, ByteArray.size]
    simp [saidW, g0, ef]
  · have hw : wordsR ⟨(lineL ⟨2, p, q⟩).toArray⟩ 0 [] = some [p, ⟨#[61]⟩, q] := by
      rw [words_wl]
      show wl (lineL ⟨2, p, q⟩) [] = _
      unfold lineL
      rw [if_neg (show ¬ (2 : Int) = 1 by decide), if_neg (show ¬ (2 : Int) = 3 by decide), if_neg (show ¬ (2 : Int) = 4 by decide), wl_name hp _ _ (by decide), wl_1 s32, wl_2 s61, wl_1 s32, wl_last hq]
      rfl
    rw [saidB_some hw]
    have g0 : goodW [p, ⟨#[61]⟩, q] 0 = false := good_len (by simp [pat])
    have g1 : goodW [p, ⟨#[61]⟩, q] 1 = true := by rw [good_1]; simp [ip, iq]
    have ef : fctW [p, ⟨#[61]⟩, q] 1 = ⟨2, p, q⟩ := by simp [fctW, nmsI, pat, noB, ByteArray.size]
    simp [saidW, g0, g1, ef]
  · have hw : wordsR ⟨(lineL ⟨3, p, q⟩).toArray⟩ 0 [] = some [p, ⟨#[61]⟩, ⟨#[42]⟩, q] := by
      rw [words_wl]
      show wl (lineL ⟨3, p, q⟩) [] = _
      unfold lineL
      rw [if_neg (show ¬ (3 : Int) = 1 by decide), if_pos rfl, wl_name hp _ _ (by decide), wl_1 s32, wl_2 s61, wl_1 s32, wl_2 s42, wl_last hq]
      rfl
    rw [saidB_some hw]
    have g0 : goodW [p, ⟨#[61]⟩, ⟨#[42]⟩, q] 0 = false := by
      rw [good_0]
      simp
    have g1 : goodW [p, ⟨#[61]⟩, ⟨#[42]⟩, q] 1 = false := good_len (by simp [pat])
    have g2 : goodW [p, ⟨#[61]⟩, ⟨#[42]⟩, q] 2 = true := by rw [good_2]; simp [ip, iq]
    have ef : fctW [p, ⟨#[61]⟩, ⟨#[42]⟩, q] 2 = ⟨3, p, q⟩ := by simp [fctW, nmsI, pat, noB, ByteArray.size]
    simp [saidW, g0, g1, g2, ef]
  · have hw : wordsR ⟨(lineL ⟨4, p, q⟩).toArray⟩ 0 [] = some [⟨#[42]⟩, p, ⟨#[61]⟩, q] := by
      rw [words_wl]
      show wl (lineL ⟨4, p, q⟩) [] = _
      unfold lineL
      rw [if_neg (show ¬ (4 : Int) = 1 by decide), if_neg (show ¬ (4 : Int) = 3 by decide), if_pos rfl, wl_2 s42, wl_name hp _ _ (by decide), wl_1 s32, wl_2 s61, wl_1 s32, wl_last hq]
      rfl
    rw [saidB_some hw]
    have g0 : goodW [⟨#[42]⟩, p, ⟨#[61]⟩, q] 0 = false := by rw [good_0]; simp [n42]
    have g1 : goodW [⟨#[42]⟩, p, ⟨#[61]⟩, q] 1 = false := good_len (by simp [pat])
    have g2 : goodW [⟨#[42]⟩, p, ⟨#[61]⟩, q] 2 = false := by rw [good_2]; simp [n42]
    have g3 : goodW [⟨#[42]⟩, p, ⟨#[61]⟩, q] 3 = true := by rw [good_3]; simp [ip, iq]
    have ef : fctW [⟨#[42]⟩, p, ⟨#[61]⟩, q] 3 = ⟨4, p, q⟩ := by simp [fctW, nmsI, pat, noB, ByteArray.size]
    simp [saidW, g0, g1, g2, g3, ef]

end Go.Proofs.YtiamlbhkiehilaaGreatDoor

namespace Go.Proofs.YtiamlbhkiehilaaGreatDoor
open Go.RowKit Go.Maps

theorem name_nonl {n : List UInt8} (h : nameB n = true) : ∀ c ∈ n, c ≠ 10 := by
  obtain ⟨c, t, rfl, hc, ht⟩ := name_parts h
  intro x hx he
  subst he
  rcases List.mem_cons.1 hx with h1 | h1
  · rw [← h1] at hc; exact absurd hc (by decide)
  · exact absurd (ht _ h1) (by decide)

theorem lineL_nonl {f : Fct} (h : factB f.k f.p f.q = true) : ∀ c ∈ lineL f, c ≠ 10 := by
  simp only [factB, Bool.and_eq_true] at h
  obtain ⟨_, hp, hq⟩ := h
  have np := name_nonl hp
  have nq := name_nonl hq
  intro c hc
  unfold lineL at hc
  split at hc
  · simp only [List.mem_append, List.mem_cons] at hc
    rcases hc with h | rfl | rfl | rfl | rfl | h
    · exact np c h
    · decide
    · decide
    · decide
    · decide
    · exact nq c h
  · split at hc
    · simp only [List.mem_append, List.mem_cons] at hc
      rcases hc with h | rfl | rfl | rfl | rfl | h
      · exact np c h
      · decide
      · decide
      · decide
      · decide
      · exact nq c h
    · split at hc
      · simp only [List.mem_append, List.mem_cons] at hc
        rcases hc with rfl | h | rfl | rfl | rfl | h
        · decide
        · exact np c h
        · decide
        · decide
        · decide
        · exact nq c h
      · simp only [List.mem_append, List.mem_cons] at hc
        rcases hc with h | rfl | rfl | rfl | h
        · exact np c h
        · decide
        · decide
        · decide
        · exact nq c h

/-- The text of facts. -/
def textL (fs : List Fct) : List UInt8 := fs.flatMap fun f => lineL f ++ [10]

theorem textL_cons (f : Fct) (r : List Fct) : textL (f :: r) = lineL f ++ 10 :: textL r := by simp [textL]

/-- Facts without an error, behind others. -/
def okGo : List Fct → List Fct → Prop
  | _, [] => True
  | pre, f :: r => factB f.k f.p f.q = true ∧ errOf pre f = 0 ∧ okGo (pre ++ [f]) r

theorem okGo_fact {pre fs : List Fct} (h : okGo pre fs) : ∀ f ∈ fs, factB f.k f.p f.q = true := by
  induction fs generalizing pre with
  | nil => simp
  | cons f r ih =>
    intro x hx
    rcases List.mem_cons.1 hx with rfl | hx
    · exact h.1
    · exact ih h.2.2 x hx

theorem errOf_small {pre : List Fct} {f : Fct} (h : errOf pre f = 0) : f.p.size ≤ 12 ∧ f.q.size ≤ 12 ∧ pre.length < 120 := by
  by_cases h1 : 12 < f.p.size ∨ 12 < f.q.size
  · rw [errOf_name h1] at h; cases h
  · by_cases h2 : 120 ≤ pre.length
    · rw [errOf_many h1 h2] at h; cases h
    · exact ⟨by omega, by omega, by omega⟩

theorem okGo_small {pre fs : List Fct} (h : okGo pre fs) : (∀ f ∈ fs, f.p.size ≤ 12 ∧ f.q.size ≤ 12) ∧ (fs = [] ∨ pre.length + fs.length ≤ 120) := by
  induction fs generalizing pre with
  | nil => exact ⟨by simp, .inl rfl⟩
  | cons f r ih =>
    obtain ⟨a, b, c⟩ := errOf_small h.2.1
    obtain ⟨h1, h2⟩ := ih h.2.2
    refine ⟨fun x hx => ?_, .inr ?_⟩
    · rcases List.mem_cons.1 hx with rfl | hx
      · exact ⟨a, b⟩
      · exact h1 x hx
    · rcases h2 with rfl | h2
      · simp; omega
      · rw [List.length_append] at h2
        simp only [List.length_cons, List.length_nil] at h2 ⊢
        omega

theorem print_ok {pre fs : List Fct} (h : okGo pre fs) (acc : List UInt8) : printGo pre fs acc = (acc ++ textL fs, 0, 0) := by
  induction fs generalizing pre acc with
  | nil => simp [printGo, textL]
  | cons f r ih => rw [printGo_ok h.1 h.2.1, ih h.2.2, lineL_eq, textL_cons]; simp

theorem lnL_text {fs : List Fct} (h : ∀ f ∈ fs, factB f.k f.p f.q = true) : lnL (textL fs) = fs.map lineL ++ [[]] := by
  induction fs with
  | nil => rfl
  | cons f r ih => rw [textL_cons, lnL_pre _ _ (lineL_nonl (h f (by simp))), ih (fun x hx => h x (by simp [hx]))]; rfl

theorem lineL_len (f : Fct) : (lineL f).length ≤ f.p.size + f.q.size + 4 := by
  have e1 : f.p.data.toList.length = f.p.size := Array.length_toList
  have e2 : f.q.data.toList.length = f.q.size := Array.length_toList
  unfold lineL
  split
  · simp only [List.length_append, List.length_cons, e1, e2]; omega
  · split
    · simp only [List.length_append, List.length_cons, e1, e2]; omega
    · split
      · simp only [List.length_append, List.length_cons, e1, e2]; omega
      · simp only [List.length_append, List.length_cons, e1, e2]; omega

theorem textL_len {fs : List Fct} (h : ∀ f ∈ fs, f.p.size ≤ 12 ∧ f.q.size ≤ 12) : (textL fs).length ≤ 29 * fs.length := by
  induction fs with
  | nil => simp [textL]
  | cons f r ih =>
    have h1 := lineL_len f
    have h2 := h f (by simp)
    have h3 := ih (fun x hx => h x (by simp [hx]))
    rw [textL_cons, List.length_append, List.length_cons, List.length_cons]
    omega

theorem said_empty : saidB ⟨#[]⟩ = (noF, 0) := by
  have : wordsR ⟨#[]⟩ 0 [] = some [] := by rw [words_wl]; rfl
  rw [saidB_some this, saidW_nil rfl]

theorem arr_size (l : List UInt8) : (⟨l.toArray⟩ : ByteArray).size = l.length := by
  show l.toArray.size = _
  simp

theorem parse_lines {pre fs : List Fct} (h : okGo pre fs) (n : Nat) : parseGo pre n (fs.map (fun f => ⟨(lineL f).toArray⟩) ++ [⟨#[]⟩]) = (pre ++ fs, 0, 0) := by
  induction fs generalizing pre n with
  | nil =>
    rw [List.map_nil, List.nil_append, parseGo_skip (by decide) said_empty rfl]
    simp [parseGo]
  | cons f r ih =>
    obtain ⟨a, b, _⟩ := errOf_small h.2.1
    have hl := lineL_len f
    have hk : f.k ≠ 0 := by
      have h1 := h.1
      simp only [factB, Bool.and_eq_true, decide_eq_true_eq] at h1
      omega
    rw [List.map_cons, List.cons_append, parseGo_add (by rw [arr_size]; omega) (said_line h.1) hk h.2.1, ih h.2.2]
    simp

/-- What is printed of facts is parsed as these facts. -/
theorem print_parse {fs : List Fct} (h : okGo [] fs) : parseB ⟨(textL fs).toArray⟩ = (fs, 0, 0) := by
  obtain ⟨h1, h2⟩ := okGo_small h
  have h3 := textL_len h1
  have hl : linesB ⟨(textL fs).toArray⟩ = fs.map (fun f => ⟨(lineL f).toArray⟩) ++ [⟨#[]⟩] := by
    apply map_inj
    rw [linesB_lnL]
    show lnL (textL fs).toArray.toList = _
    rw [List.toList_toArray, lnL_text (okGo_fact h), List.map_append, List.map_map]
    congr 1
  unfold parseB
  rw [if_neg, hl, parse_lines h]
  · rfl
  · rw [arr_size]
    rcases h2 with rfl | h2
    · simp [textL]
    · simp only [List.length_nil] at h2
      omega

theorem good_names {ws : List ByteArray} {k : Nat} (hk : k < 4) (h : goodW ws k = true) : factB (fctW ws k).k (fctW ws k).p (fctW ws k).q = true := by
  have hl : (pat k).length = ws.length := by
    simp only [goodW, Bool.and_eq_true, decide_eq_true_eq] at h
    exact h.1
  match k, hk with
  | 0, _ =>
    match ws, hl with
    | [a, b, c, d], _ =>
      rw [good_0] at h
      simp only [Bool.and_eq_true, decide_eq_true_eq, isNm] at h
      have ef : fctW [a, b, c, d] 0 = ⟨1, a, d⟩ := by simp [fctW, nmsI, pat, noB, ByteArray.size]
      rw [ef]
      simp [factB, h.1.1.1, h.2]
  | 1, _ =>
    match ws, hl with
    | [a, b, c], _ =>
      rw [good_1] at h
      simp only [Bool.and_eq_true, decide_eq_true_eq, isNm] at h
      have ef : fctW [a, b, c] 1 = ⟨2, a, c⟩ := by simp [fctW, nmsI, pat, noB, ByteArray.size]
      rw [ef]
      simp [factB, h.1.1, h.2]
  | 2, _ =>
    match ws, hl with
    | [a, b, c, d], _ =>
      rw [good_2] at h
      simp only [Bool.and_eq_true, decide_eq_true_eq, isNm] at h
      have ef : fctW [a, b, c, d] 2 = ⟨3, a, d⟩ := by simp [fctW, nmsI, pat, noB, ByteArray.size]
      rw [ef]
      simp [factB, h.1.1.1, h.2]
  | 3, _ =>
    match ws, hl with
    | [a, b, c, d], _ =>
      rw [good_3] at h
      simp only [Bool.and_eq_true, decide_eq_true_eq, isNm] at h
      have ef : fctW [a, b, c, d] 3 = ⟨4, b, d⟩ := by simp [fctW, nmsI, pat, noB, ByteArray.size]
      rw [ef]
      simp [factB, h.1.1.2, h.2]

theorem said_fact {l : ByteArray} {f : Fct} (h : saidB l = (f, 0)) (hk : f.k ≠ 0) : factB f.k f.p f.q = true := by
  cases hw : wordsR l 0 [] with
  | none => rw [saidB_none hw] at h; injection h with _ h; cases h
  | some ws =>
    rw [saidB_some hw] at h
    unfold saidW at h
    split at h
    · injection h with h _
      rw [← h] at hk
      exact absurd rfl hk
    · split at h
      · rename_i g
        injection h with h _
        rw [← h]
        exact good_names (by decide) g
      · split at h
        · rename_i g
          injection h with h _
          rw [← h]
          exact good_names (by decide) g
        · split at h
          · rename_i g
            injection h with h _
            rw [← h]
            exact good_names (by decide) g
          · split at h
            · rename_i g
              injection h with h _
              rw [← h]
              exact good_names (by decide) g
            · injection h with _ h
              cases h

theorem parse_okGo {ls : List ByteArray} : ∀ {pre fs : List Fct} {n : Nat} {m : Int}, parseGo pre n ls = (fs, 0, m) → ∃ r, fs = pre ++ r ∧ okGo pre r := by
  induction ls with
  | nil =>
    intro pre fs n m h
    simp only [parseGo, Prod.mk.injEq] at h
    exact ⟨[], by rw [← h.1]; simp, trivial⟩
  | cons l q ih =>
    intro pre fs n m h
    unfold parseGo at h
    split at h
    · injection h with _ h; injection h with h _; cases h
    · split at h
      · rename_i he
        injection h with _ h; injection h with h _
        exact absurd h he
      · rename_i he
        split at h
        · exact ih h
        · rename_i hk
          split at h
          · rename_i hz
            obtain ⟨r, hr, ho⟩ := ih h
            refine ⟨(saidB l).1 :: r, by rw [hr]; simp, said_fact (l := l) ?_ hk, hz, ho⟩
            have : (saidB l).2 = 0 := by
              cases hd : decide ((saidB l).2 = 0)
              · exact absurd (of_decide_eq_false hd) he
              · exact of_decide_eq_true hd
            rw [← this]
          · rename_i hz
            injection h with _ h; injection h with h _
            exact absurd h hz

/-- What was parsed has no error. -/
theorem parse_ok {s : ByteArray} {fs : List Fct} {m : Int} (h : parseB s = (fs, 0, m)) : okGo [] fs := by
  unfold parseB at h
  split at h
  · injection h with _ h; injection h with h _; cases h
  · obtain ⟨r, hr, ho⟩ := parse_okGo h
    rw [hr]
    exact ho

end Go.Proofs.YtiamlbhkiehilaaGreatDoor

namespace Go.Proofs.YtiamlbhkiehilaaGreatDoor
open Go.RowKit

theorem stoodFact : Tryz.prog.stoodInHeld 48 = false := by kernel_rfl
theorem guardFact : Tryz.prog.eqGuardType Tryz.prog.depth 48 = false := by kernel_rfl
theorem fieldsFact : Tryz.prog.underlying 48 = some (.struct (Tryz.prog.fieldsOf 48)) := by kernel_rfl
theorem neq_fact (k : Int) (p q : ByteArray) (w : World) : (binOp .neq 48 (.agg #[.int .i64 k, .string p, .string q]) (.agg #[.int .i64 k, .string p, .string q])).run Tryz.prog w = .ok (.bool false) w := by
  rw [run_neq_struct, run_equalIn_struct w 9999 _ _ _ fieldsFact stoodFact]
  simp [go_sem, Tryz.underlying48]

theorem stoodErr : Tryz.prog.stoodInHeld 27 = false := by kernel_rfl
theorem guardErr : Tryz.prog.eqGuardType Tryz.prog.depth 27 = false := by kernel_rfl
theorem fieldsErr : Tryz.prog.underlying 27 = some (.struct (Tryz.prog.fieldsOf 27)) := by kernel_rfl
theorem eql_err (k l : Int) (w : World) : (binOp .eql 27 (.agg #[.int .i64 k, .int .i64 l]) (.agg #[.int .i64 k, .int .i64 l])).run Tryz.prog w = .ok (.bool true) w := by
  rw [run_eql_struct, run_equalIn_struct w 9999 _ _ _ fieldsErr stoodErr]
  simp [go_sem, Tryz.underlying27]

end Go.Proofs.YtiamlbhkiehilaaGreatDoor
