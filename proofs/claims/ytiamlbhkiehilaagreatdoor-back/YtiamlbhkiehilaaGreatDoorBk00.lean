import Derived.WalkKit
import Derived.Maps.Views
namespace Go.Proofs.YtiamlbhkiehilaaGreatDoor
open Go.RowKit

/-- A byte that a name begins with. -/
def startB (c : Int) : Bool := decide ((97 ≤ c ∧ c ≤ 122) ∨ (65 ≤ c ∧ c ≤ 90) ∨ c = 95)
/-- A byte that a name goes on with. -/
def partB (c : Int) : Bool := decide ((97 ≤ c ∧ c ≤ 122) ∨ (65 ≤ c ∧ c ≤ 90) ∨ c = 95 ∨ (48 ≤ c ∧ c ≤ 57))
/-- Are all of them bytes of a name? -/
def partsB (l : List UInt8) : Bool := l.all fun c => partB c.toNat
/-- Is it a name? -/
def nameB : List UInt8 → Bool
  | [] => false
  | c :: r => startB c.toNat && partsB r

theorem hide {p : Prop} (h : p) : Hid p := h
theorem unhide {p : Prop} (h : Hid p) : p := h

theorem ret_bool {a b : Bool} (h : a = b) : Ending.returned (.bool a) = .returned (.bool b) := by rw [h]
theorem ret_int {k : IntKind} {a b : Int} (h : a = b) : Ending.returned (.int k a) = .returned (.int k b) := by rw [h]

theorem part_of_start {c : Int} (h : startB c = true) : partB c = true := by
  simp only [startB, partB, decide_eq_true_eq] at *
  omega

theorem part_of_not {c : Int} (h : startB c = false) : partB c = decide (48 ≤ c ∧ c ≤ 57) := by
  simp only [startB, partB, decide_eq_false_iff_not] at *
  rw [Bool.eq_iff_iff]
  simp only [decide_eq_true_eq]
  omega

theorem take_snoc (s : ByteArray) (k : Nat) (h : k < s.size) : s.data.toList.take (k + 1) = s.data.toList.take k ++ [s[k]] := by
  rw [List.take_succ_eq_append_getElem (by simpa using h)]; rfl

theorem partsB_snoc (l : List UInt8) (c : UInt8) : partsB (l ++ [c]) = (partsB l && partB c.toNat) := by
  simp [partsB, List.all_append]

theorem partsB_of_take {l : List UInt8} {k : Nat} (h : partsB (l.take k) = false) : partsB l = false := by
  rw [← List.take_append_drop k l]
  simp only [partsB, List.all_append] at *
  simp [h]

theorem nameB_parts (l : List UInt8) (h : partsB l = false) : nameB l = false := by
  cases l with
  | nil => rfl
  | cons c r =>
    simp only [nameB]
    cases hs : startB c.toNat
    · rfl
    · have := part_of_start hs
      simp only [partsB, List.all_cons, this, Bool.true_and] at h
      simpa [partsB] using h

theorem nameB_all (s : ByteArray) (h0 : 0 < s.size) (h : partsB s.data.toList = true) : nameB s.data.toList = startB s[0].toNat := by
  obtain ⟨⟨l⟩⟩ := s
  cases l with
  | nil => simp [ByteArray.size] at h0
  | cons c r =>
    simp only [partsB, List.all_cons, Bool.and_eq_true] at h
    have e : (⟨⟨c :: r⟩⟩ : ByteArray)[0] = c := rfl
    simp only [nameB, partsB, h.2, Bool.and_true, e]

theorem nameB_first (s : ByteArray) (h0 : 0 < s.size) (h : startB s[0].toNat = false) : nameB s.data.toList = false := by
  obtain ⟨⟨l⟩⟩ := s
  cases l with
  | nil => rfl
  | cons c r =>
    have e : (⟨⟨c :: r⟩⟩ : ByteArray)[0] = c := rfl
    rw [e] at h
    simp only [nameB, h, Bool.false_and]

theorem parts_first (s : ByteArray) (h0 : 0 < s.size) (h : startB s[0].toNat = true) : partsB (s.data.toList.take 1) = true := by
  obtain ⟨⟨l⟩⟩ := s
  cases l with
  | nil => rfl
  | cons c r =>
    have e : (⟨⟨c :: r⟩⟩ : ByteArray)[0] = c := rfl
    rw [e] at h
    simp [partsB, part_of_start h]

theorem parts_full {s : ByteArray} {k : Nat} (h : partsB (s.data.toList.take k) = true) (hk : s.size ≤ k) : partsB s.data.toList = true := by
  rwa [List.take_of_length_le (by simpa using hk)] at h

theorem nameB_empty (s : ByteArray) (h : s.size = 0) : nameB s.data.toList = false := by
  obtain ⟨⟨l⟩⟩ := s
  cases l with
  | nil => rfl
  | cons c r => simp [ByteArray.size] at h

end Go.Proofs.YtiamlbhkiehilaaGreatDoor

namespace Go.Proofs.YtiamlbhkiehilaaGreatDoor
open Go.RowKit Go.Maps

/-- A fact: its kind and its two names. -/
structure Fct where
  k : Int
  p : ByteArray
  q : ByteArray

/-- A fact with a kind and two names. -/
def factB (k : Int) (p q : ByteArray) : Bool := decide (1 ≤ k ∧ k ≤ 4) && (nameB p.data.toList && nameB q.data.toList)

/-- A fact's line. -/
def lineB (k : Int) (p q : ByteArray) : ByteArray :=
  if k = 1 then p ++ ⟨#[32, 61, 32, 38]⟩ ++ q ++ ⟨#[10]⟩
  else if k = 3 then p ++ ⟨#[32, 61, 32, 42]⟩ ++ q ++ ⟨#[10]⟩
  else if k = 4 then ⟨#[42]⟩ ++ p ++ ⟨#[32, 61, 32]⟩ ++ q ++ ⟨#[10]⟩
  else p ++ ⟨#[32, 61, 32]⟩ ++ q ++ ⟨#[10]⟩

theorem lineB_size (k : Int) (p q : ByteArray) : (lineB k p q).size ≤ p.size + q.size + 5 := by
  unfold lineB
  have e1 : (⟨#[32, 61, 32, 38]⟩ : ByteArray).size = 4 := rfl
  have e2 : (⟨#[10]⟩ : ByteArray).size = 1 := rfl
  have e3 : (⟨#[32, 61, 32, 42]⟩ : ByteArray).size = 4 := rfl
  have e4 : (⟨#[42]⟩ : ByteArray).size = 1 := rfl
  have e5 : (⟨#[32, 61, 32]⟩ : ByteArray).size = 3 := rfl
  split
  · simp only [ByteArray.size_append, e1, e2]; omega
  · split
    · simp only [ByteArray.size_append, e3, e2]; omega
    · split
      · simp only [ByteArray.size_append, e4, e5, e2]; omega
      · simp only [ByteArray.size_append, e5, e2]; omega

/-- The names of facts, in their order. -/
def namesL (l : List Fct) : List (List UInt8) := l.flatMap fun f => [f.p.data.toList, f.q.data.toList]

/-- One more, if it is not there yet. -/
def addN (acc : List (List UInt8)) (x : List UInt8) : List (List UInt8) := if x ∈ acc then acc else acc ++ [x]

/-- How many different ones. -/
def dcount (l : List (List UInt8)) : Nat := (l.foldl addN []).length

/-- The error of a fact behind others, but for its form. -/
def errOf (pre : List Fct) (f : Fct) : Int :=
  if 12 < f.p.size ∨ 12 < f.q.size then 5 else if 120 ≤ pre.length then 6 else if 40 < dcount (namesL (pre ++ [f])) then 7 else 0

/-- What Print answers of the rest, behind facts that have been written: the text, the error's kind, its line. -/
def printGo : List Fct → List Fct → List UInt8 → List UInt8 × Int × Int
  | _, [], acc => (acc, 0, 0)
  | pre, f :: r, acc =>
    if factB f.k f.p f.q = true then
      if errOf pre f = 0 then printGo (pre ++ [f]) r (acc ++ (lineB f.k f.p f.q).data.toList) else ([], errOf pre f, (pre.length : Int) + 1)
    else ([], 4, (pre.length : Int) + 1)

theorem printGo_nil (pre : List Fct) (acc : List UInt8) : printGo pre [] acc = (acc, 0, 0) := by simp [printGo]
theorem printGo_form {pre r : List Fct} {f : Fct} {acc : List UInt8} (h : factB f.k f.p f.q = false) : printGo pre (f :: r) acc = ([], 4, (pre.length : Int) + 1) := by simp [printGo, h]
theorem printGo_err {pre r : List Fct} {f : Fct} {acc : List UInt8} (h : factB f.k f.p f.q = true) {e : Int} (he : errOf pre f = e) (h0 : e ≠ 0) : printGo pre (f :: r) acc = ([], e, (pre.length : Int) + 1) := by
  simp [printGo, h, he, h0]
theorem printGo_ok {pre r : List Fct} {f : Fct} {acc : List UInt8} (h : factB f.k f.p f.q = true) (he : errOf pre f = 0) : printGo pre (f :: r) acc = printGo (pre ++ [f]) r (acc ++ (lineB f.k f.p f.q).data.toList) := by
  simp [printGo, h, he]

theorem errOf_name {pre : List Fct} {f : Fct} (h : 12 < f.p.size ∨ 12 < f.q.size) : errOf pre f = 5 := by simp only [errOf, if_pos h]
theorem errOf_many {pre : List Fct} {f : Fct} (h : ¬ (12 < f.p.size ∨ 12 < f.q.size)) (h1 : 120 ≤ pre.length) : errOf pre f = 6 := by simp only [errOf, if_neg h, if_pos h1]
theorem errOf_full {pre : List Fct} {f : Fct} (h : ¬ (12 < f.p.size ∨ 12 < f.q.size)) (h1 : ¬ 120 ≤ pre.length) (h2 : 40 < dcount (namesL (pre ++ [f]))) : errOf pre f = 7 := by simp only [errOf, if_neg h, if_neg h1, if_pos h2]
theorem errOf_ok {pre : List Fct} {f : Fct} (h : ¬ (12 < f.p.size ∨ 12 < f.q.size)) (h1 : ¬ 120 ≤ pre.length) (h2 : ¬ 40 < dcount (namesL (pre ++ [f]))) : errOf pre f = 0 := by simp only [errOf, if_neg h, if_neg h1, if_neg h2]

theorem take_next {α : Type} {l : List α} {i : Nat} {x : α} (h : l[i]? = some x) : l.take (i + 1) = l.take i ++ [x] := by
  rw [List.take_add_one, h]; rfl
theorem drop_here {α : Type} {l : List α} {i : Nat} {x : α} (h : l[i]? = some x) : l.drop i = x :: l.drop (i + 1) := by
  obtain ⟨hi, rfl⟩ := List.getElem?_eq_some_iff.1 h
  exact List.drop_eq_getElem_cons hi

/-! ### the map's size is the number of different names -/
def keyS (s : ByteArray) : Lit := .string s.data.toList
def keysOf (l : List Fct) : List Lit := l.flatMap fun f => [keyS f.p, keyS f.q]
/-- The set of names as the map of a tally reads. -/
def setU (ks : List Lit) : DataW Unit := setOf (.agg []) ks

theorem keysOf_snoc (l : List Fct) (f : Fct) : keysOf (l ++ [f]) = keysOf l ++ [keyS f.p, keyS f.q] := by simp [keysOf]
theorem keysOf_names (l : List Fct) : keysOf l = (namesL l).map Lit.string := by
  unfold keysOf namesL
  induction l with
  | nil => rfl
  | cons f r ih =>
    rw [List.flatMap_cons, List.flatMap_cons, List.map_append, ih]
    rfl

theorem any_same (acc : List (List UInt8)) (x : List UInt8) : (acc.map Lit.string).any (fun y => y.sameKey (.string x)) = decide (x ∈ acc) := by
  induction acc with
  | nil => simp
  | cons y r ih =>
    rw [List.map_cons, List.any_cons, ih, Bool.eq_iff_iff]
    by_cases e : y = x
    · subst e
      have : (Lit.string y).sameKey (.string y) = true := by simp [Lit.sameKey]
      simp [this]
    · have : (Lit.string y).sameKey (.string x) = false := sameKey_ne (by intro h; exact e (by injection h))
      simp [this]
      intro h
      exact absurd h.symm e

theorem fold_same (l acc : List (List UInt8)) : (l.map Lit.string).foldl addKey (acc.map Lit.string) = (l.foldl addN acc).map Lit.string := by
  induction l generalizing acc with
  | nil => rfl
  | cons x r ih =>
    rw [List.map_cons, List.foldl_cons, List.foldl_cons]
    have e : addKey (acc.map Lit.string) (.string x) = (addN acc x).map Lit.string := by
      unfold addKey addN
      rw [any_same]
      by_cases h : x ∈ acc <;> simp [h]
    rw [e, ih]

theorem size_setU (l : List Fct) : Maps.size (setU (keysOf l)) = dcount (namesL l) := by
  unfold setU dcount
  rw [size_setOf, keysOf_names]
  · have := fold_same (namesL l) []
    rw [List.map_nil] at this
    rw [this, List.length_map]
  · intro x hx
    rw [keysOf_names] at hx
    obtain ⟨y, _, rfl⟩ := List.mem_map.1 hx
    trivial

end Go.Proofs.YtiamlbhkiehilaaGreatDoor

namespace Go.Proofs.YtiamlbhkiehilaaGreatDoor
open Go.RowKit Go.Maps

/-- The lines that have ended ahead of the i-th byte, and where the next begins. -/
def lnI (s : ByteArray) : Nat → List ByteArray × Nat
  | 0 => ([], 0)
  | i + 1 => if s.data.toList[i]? = some 10 then ((lnI s i).1 ++ [s.extract (lnI s i).2 i], i + 1) else lnI s i

/-- The lines of a text. -/
def linesB (s : ByteArray) : List ByteArray := (lnI s s.size).1 ++ [s.extract (lnI s s.size).2 s.size]

theorem lnI_le (s : ByteArray) (i : Nat) : (lnI s i).2 ≤ i := by
  induction i with
  | zero => exact Nat.le_refl _
  | succ i ih =>
    unfold lnI
    split
    · exact Nat.le_refl _
    · omega

theorem lnI_len (s : ByteArray) (i : Nat) : (lnI s i).1.length ≤ i := by
  induction i with
  | zero => exact Nat.le_refl _
  | succ i ih =>
    unfold lnI
    split
    · simp; omega
    · omega

theorem at_list (s : ByteArray) (i : Nat) (h : i < s.size) : s.data.toList[i]? = some s[i] := by
  rw [List.getElem?_eq_getElem (by simpa using h)]
  rfl

theorem lnI_yes {s : ByteArray} {i : Nat} (h : i < s.size) (e : s[i].toNat = 10) : lnI s (i + 1) = ((lnI s i).1 ++ [s.extract (lnI s i).2 i], i + 1) := by
  have : s[i] = 10 := UInt8.toNat_inj.1 (by simpa using e)
  simp only [lnI]
  rw [if_pos (by rw [at_list s i h, this])]

theorem lnI_no {s : ByteArray} {i : Nat} (h : i < s.size) (e : ¬ s[i].toNat = 10) : lnI s (i + 1) = lnI s i := by
  simp only [lnI]
  rw [if_neg]
  rw [at_list s i h]
  intro h2
  apply e
  rw [Option.some.inj h2]
  rfl

end Go.Proofs.YtiamlbhkiehilaaGreatDoor

namespace Go.Proofs.YtiamlbhkiehilaaGreatDoor
open Go.RowKit Go.Maps

/-- A byte as a number; 0 beyond the end. -/
def byteAt (s : ByteArray) (k : Nat) : Int := if h : k < s.size then (s[k].toNat : Int) else 0

theorem byteAt_lt {s : ByteArray} {k : Nat} (h : k < s.size) : byteAt s k = (s[k].toNat : Int) := by simp [byteAt, h]

/-- Where a name ends. -/
def nEndN (s : ByteArray) : Nat → Nat → Nat
  | 0, k => k
  | f + 1, k => if partB (byteAt s k) = true then nEndN s f (k + 1) else k
def nEnd (s : ByteArray) (k : Nat) : Nat := nEndN s (s.size - k) k

theorem nEnd_end {s : ByteArray} {k : Nat} (h : s.size ≤ k) : nEnd s k = k := by
  unfold nEnd
  rw [Nat.sub_eq_zero_of_le h]
  rfl
theorem nEnd_no {s : ByteArray} {k : Nat} (h : k < s.size) (hp : partB (s[k].toNat : Int) = false) : nEnd s k = k := by
  unfold nEnd
  obtain ⟨f, hf⟩ : ∃ f, s.size - k = f + 1 := ⟨s.size - k - 1, by omega⟩
  rw [hf]
  simp only [nEndN, byteAt_lt h, hp]
  simp
theorem nEnd_yes {s : ByteArray} {k : Nat} (h : k < s.size) (hp : partB (s[k].toNat : Int) = true) : nEnd s k = nEnd s (k + 1) := by
  unfold nEnd
  obtain ⟨f, hf⟩ : ∃ f, s.size - k = f + 1 := ⟨s.size - k - 1, by omega⟩
  have hf2 : s.size - (k + 1) = f := by omega
  rw [hf, hf2]
  simp only [nEndN, byteAt_lt h, hp]
  simp
theorem nEndN_ge (s : ByteArray) (f k : Nat) : k ≤ nEndN s f k := by
  induction f generalizing k with
  | zero => exact Nat.le_refl _
  | succ f ih =>
    unfold nEndN
    split
    · have := ih (k + 1); omega
    · exact Nat.le_refl _
theorem nEnd_ge (s : ByteArray) (k : Nat) : k ≤ nEnd s k := nEndN_ge _ _ _
theorem nEndN_le (s : ByteArray) (f k : Nat) : nEndN s f k ≤ k + f := by
  induction f generalizing k with
  | zero => exact Nat.le_refl _
  | succ f ih =>
    unfold nEndN
    split
    · have := ih (k + 1); omega
    · omega
theorem nEnd_le {s : ByteArray} {k : Nat} (h : k ≤ s.size) : nEnd s k ≤ s.size := by
  have := nEndN_le s (s.size - k) k
  unfold nEnd
  omega

/-- What a byte opens: 0 a remark, 1 a blank, 2 a sign, 3 a name, 4 nothing that may be. -/
def kindB (c : Int) : Nat :=
  if c = 35 then 0 else if c = 32 ∨ c = 9 then 1 else if c = 61 ∨ c = 38 ∨ c = 42 then 2 else if startB c = true then 3 else 4

/-- A line's names and signs, behind those that were found. -/
def wordsN (s : ByteArray) : Nat → Nat → List ByteArray → Option (List ByteArray)
  | 0, _, out => some out
  | f + 1, i, out =>
    if s.size ≤ i then some out
    else if kindB (byteAt s i) = 0 then some out
    else if kindB (byteAt s i) = 1 then wordsN s f (i + 1) out
    else if kindB (byteAt s i) = 2 then wordsN s f (i + 1) (out ++ [s.extract i (i + 1)])
    else if kindB (byteAt s i) = 3 then wordsN s f (nEnd s (i + 1)) (out ++ [s.extract i (nEnd s (i + 1))])
    else none

def wordsR (s : ByteArray) (i : Nat) (out : List ByteArray) : Option (List ByteArray) := wordsN s (s.size - i) i out

theorem wordsN_end (s : ByteArray) (f i : Nat) (out : List ByteArray) (h : s.size ≤ i) : wordsN s f i out = some out := by
  cases f with
  | zero => rfl
  | succ f => simp only [wordsN, if_pos h]

theorem wordsN_fuel (s : ByteArray) (f g i : Nat) (out : List ByteArray) (hf : s.size - i ≤ f) (hg : s.size - i ≤ g) : wordsN s f i out = wordsN s g i out := by
  induction f generalizing g i out with
  | zero => rw [wordsN_end s 0 i out (by omega), wordsN_end s g i out (by omega)]
  | succ f ih =>
    by_cases h : s.size ≤ i
    · rw [wordsN_end s _ i out h, wordsN_end s _ i out h]
    · obtain ⟨g, rfl⟩ : ∃ g', g = g' + 1 := ⟨g - 1, by omega⟩
      have hn := nEnd_ge s (i + 1)
      unfold wordsN
      rw [ih g (i + 1) out (by omega) (by omega), ih g (i + 1) (out ++ [s.extract i (i + 1)]) (by omega) (by omega), ih g (nEnd s (i + 1)) _ (by omega) (by omega)]

theorem wordsR_step {s : ByteArray} {i : Nat} {out : List ByteArray} (h : i < s.size) : wordsR s i out =
    if kindB (s[i].toNat : Int) = 0 then some out
    else if kindB (s[i].toNat : Int) = 1 then wordsR s (i + 1) out
    else if kindB (s[i].toNat : Int) = 2 then wordsR s (i + 1) (out ++ [s.extract i (i + 1)])
    else if kindB (s[i].toNat : Int) = 3 then wordsR s (nEnd s (i + 1)) (out ++ [s.extract i (nEnd s (i + 1))])
    else none := by
  obtain ⟨f, hf⟩ : ∃ f, s.size - i = f + 1 := ⟨s.size - i - 1, by omega⟩
  have hn := nEnd_ge s (i + 1)
  have e1 : ∀ o, wordsR s (i + 1) o = wordsN s f (i + 1) o := fun o => wordsN_fuel _ _ _ _ _ (by omega) (by omega)
  have e2 : ∀ o, wordsR s (nEnd s (i + 1)) o = wordsN s f (nEnd s (i + 1)) o := fun o => wordsN_fuel _ _ _ _ _ (by omega) (by omega)
  simp only [e1, e2]
  unfold wordsR
  rw [hf]
  simp only [wordsN, byteAt_lt h]
  rw [if_neg (by omega)]

theorem wordsR_end {s : ByteArray} {i : Nat} {out : List ByteArray} (h : s.size ≤ i) : wordsR s i out = some out := wordsN_end _ _ _ _ h
theorem wordsR_0 {s : ByteArray} {i : Nat} {out : List ByteArray} (h : i < s.size) (k : kindB (s[i].toNat : Int) = 0) : wordsR s i out = some out := by simp [wordsR_step h, k]
theorem wordsR_1 {s : ByteArray} {i : Nat} {out : List ByteArray} (h : i < s.size) (k : kindB (s[i].toNat : Int) = 1) : wordsR s i out = wordsR s (i + 1) out := by rw [wordsR_step h, k]; simp
theorem wordsR_2 {s : ByteArray} {i : Nat} {out : List ByteArray} (h : i < s.size) (k : kindB (s[i].toNat : Int) = 2) : wordsR s i out = wordsR s (i + 1) (out ++ [s.extract i (i + 1)]) := by rw [wordsR_step h, k]; simp
theorem wordsR_3 {s : ByteArray} {i : Nat} {out : List ByteArray} (h : i < s.size) (k : kindB (s[i].toNat : Int) = 3) : wordsR s i out = wordsR s (nEnd s (i + 1)) (out ++ [s.extract i (nEnd s (i + 1))]) := by rw [wordsR_step h, k]; simp
theorem wordsR_4 {s : ByteArray} {i : Nat} {out : List ByteArray} (h : i < s.size) (k : kindB (s[i].toNat : Int) = 4) : wordsR s i out = none := by rw [wordsR_step h, k]; simp

theorem wordsN_size (s : ByteArray) (f i : Nat) (out ws : List ByteArray) (h : wordsN s f i out = some ws) (ho : ∀ x ∈ out, x.size ≤ s.size) : ∀ x ∈ ws, x.size ≤ s.size := by
  have ext : ∀ a b, ∀ x ∈ out ++ [s.extract a b], x.size ≤ s.size := by
    intro a b x hx
    rcases List.mem_append.1 hx with hx | hx
    · exact ho x hx
    · rw [List.mem_singleton.1 hx, ByteArray.size_extract]
      omega
  induction f generalizing i out with
  | zero =>
    simp only [wordsN, Option.some.injEq] at h
    subst h
    exact ho
  | succ f ih =>
    unfold wordsN at h
    have ext2 : ∀ (o : List ByteArray), (∀ x ∈ o, x.size ≤ s.size) → ∀ a b, ∀ x ∈ o ++ [s.extract a b], x.size ≤ s.size := by
      intro o ho a b x hx
      rcases List.mem_append.1 hx with hx | hx
      · exact ho x hx
      · rw [List.mem_singleton.1 hx, ByteArray.size_extract]
        omega
    repeat' split at h
    · simp only [Option.some.injEq] at h; subst h; exact ho
    · simp only [Option.some.injEq] at h; subst h; exact ho
    · exact ih _ _ h ho ext
    · exact ih _ _ h (ext _ _) (ext2 _ (ext _ _))
    · exact ih _ _ h (ext _ _) (ext2 _ (ext _ _))
    · cases h

theorem wordsR_size {s : ByteArray} {ws : List ByteArray} (h : wordsR s 0 [] = some ws) : ∀ x ∈ ws, x.size ≤ s.size := wordsN_size s _ _ [] ws h (by simp)

theorem kindB_cases (c : Int) : (c = 35 ∧ kindB c = 0) ∨ (c ≠ 35 ∧ (c = 32 ∨ c = 9) ∧ kindB c = 1) ∨ (c ≠ 35 ∧ ¬ (c = 32 ∨ c = 9) ∧ (c = 61 ∨ c = 38 ∨ c = 42) ∧ kindB c = 2) ∨
    (c ≠ 35 ∧ ¬ (c = 32 ∨ c = 9) ∧ ¬ (c = 61 ∨ c = 38 ∨ c = 42) ∧ startB c = true ∧ kindB c = 3) ∨ (c ≠ 35 ∧ ¬ (c = 32 ∨ c = 9) ∧ ¬ (c = 61 ∨ c = 38 ∨ c = 42) ∧ startB c = false ∧ kindB c = 4) := by
  unfold kindB
  by_cases h1 : c = 35
  · simp [h1]
  · by_cases h2 : c = 32 ∨ c = 9
    · simp only [if_neg h1, if_pos h2]; simp [h1, h2]
    · by_cases h3 : c = 61 ∨ c = 38 ∨ c = 42
      · simp only [if_neg h1, if_neg h2, if_pos h3]; simp [h1, h2, h3]
      · cases h4 : startB c
        · exact .inr (.inr (.inr (.inr ⟨h1, h2, h3, rfl, by simp [if_neg h1, if_neg h2, if_neg h3]⟩)))
        · exact .inr (.inr (.inr (.inl ⟨h1, h2, h3, rfl, by simp [if_neg h1, if_neg h2, if_neg h3]⟩)))

end Go.Proofs.YtiamlbhkiehilaaGreatDoor

namespace Go.Proofs.YtiamlbhkiehilaaGreatDoor
open Go.RowKit Go.Maps

def noB : ByteArray := ⟨#[]⟩
/-- The forms of a fact: nothing stands for a name. -/
def pat : Nat → List ByteArray
  | 0 => [noB, ⟨#[61]⟩, ⟨#[38]⟩, noB]
  | 1 => [noB, ⟨#[61]⟩, noB]
  | 2 => [noB, ⟨#[61]⟩, ⟨#[42]⟩, noB]
  | 3 => [⟨#[42]⟩, noB, ⟨#[61]⟩, noB]
  | _ => []

/-- Does a word fit a place of a form? -/
def fitsOne (p x : ByteArray) : Bool := if p.size = 0 then nameB x.data.toList else decide (x = p)
def fitsI (ps ws : List ByteArray) : Nat → Bool
  | 0 => true
  | i + 1 => fitsI ps ws i && fitsOne (ps.getD i noB) (ws.getD i noB)
def nmsI (ps ws : List ByteArray) : Nat → List ByteArray
  | 0 => []
  | i + 1 => if (ps.getD i noB).size = 0 then nmsI ps ws i ++ [ws.getD i noB] else nmsI ps ws i

theorem nmsI_len (ps ws : List ByteArray) (i : Nat) : (nmsI ps ws i).length ≤ i := by
  induction i with
  | zero => exact Nat.le_refl _
  | succ i ih =>
    unfold nmsI
    split
    · simp; omega
    · omega

theorem fitsI_name {ps ws : List ByteArray} {i : Nat} {p x : ByteArray} (hp : ps[i]? = some p) (hx : ws[i]? = some x) (h : p.size = 0) : fitsI ps ws (i + 1) = (fitsI ps ws i && nameB x.data.toList) ∧ nmsI ps ws (i + 1) = nmsI ps ws i ++ [x] := by
  simp [fitsI, nmsI, hp, hx, fitsOne, h]
theorem fitsI_sign {ps ws : List ByteArray} {i : Nat} {p x : ByteArray} (hp : ps[i]? = some p) (hx : ws[i]? = some x) (h : ¬ p.size = 0) : fitsI ps ws (i + 1) = (fitsI ps ws i && decide (x = p)) ∧ nmsI ps ws (i + 1) = nmsI ps ws i := by
  simp [fitsI, nmsI, hp, hx, fitsOne, h]

def goodW (ws : List ByteArray) (k : Nat) : Bool := decide ((pat k).length = ws.length) && fitsI (pat k) ws ws.length
def fctW (ws : List ByteArray) (k : Nat) : Fct := ⟨(k : Int) + 1, (nmsI (pat k) ws ws.length).getD 0 noB, (nmsI (pat k) ws ws.length).getD 1 noB⟩
def noF : Fct := ⟨0, noB, noB⟩

/-- What the words of a line say: the fact (of the kind 0: nothing) and the error. -/
def saidW (ws : List ByteArray) : Fct × Int :=
  if ws.length = 0 then (noF, 0)
  else if goodW ws 0 = true then (fctW ws 0, 0)
  else if goodW ws 1 = true then (fctW ws 1, 0)
  else if goodW ws 2 = true then (fctW ws 2, 0)
  else if goodW ws 3 = true then (fctW ws 3, 0)
  else (noF, 4)

/-- What a line says. -/
def saidB (s : ByteArray) : Fct × Int :=
  match wordsR s 0 [] with
  | none => (noF, 4)
  | some ws => saidW ws

theorem saidB_none {s : ByteArray} (h : wordsR s 0 [] = none) : saidB s = (noF, 4) := by simp [saidB, h]
theorem saidB_some {s : ByteArray} {ws : List ByteArray} (h : wordsR s 0 [] = some ws) : saidB s = saidW ws := by simp [saidB, h]
theorem saidW_nil {ws : List ByteArray} (h : ws.length = 0) : saidW ws = (noF, 0) := by simp [saidW, h]
theorem saidW_bad {ws : List ByteArray} (h : 0 < ws.length) (hb : ∀ j, j < 4 → goodW ws j = false) : saidW ws = (noF, 4) := by
  simp only [saidW, hb 0 (by decide), hb 1 (by decide), hb 2 (by decide), hb 3 (by decide)]
  rw [if_neg (by omega)]
  simp
theorem saidW_good {ws : List ByteArray} {k : Nat} (h : 0 < ws.length) (hk : k < 4) (hb : ∀ j, j < k → goodW ws j = false) (hg : goodW ws k = true) : saidW ws = (fctW ws k, 0) := by
  unfold saidW
  rw [if_neg (by omega)]
  have hc : k = 0 ∨ k = 1 ∨ k = 2 ∨ k = 3 := by omega
  rcases hc with rfl | rfl | rfl | rfl
  · simp [hg]
  · simp [hb 0 (by decide), hg]
  · simp [hb 0 (by decide), hb 1 (by decide), hg]
  · simp [hb 0 (by decide), hb 1 (by decide), hb 2 (by decide), hg]

theorem nms_two {ws : List ByteArray} {k : Nat} (hk : k < 4) (hl : (pat k).length = ws.length) : (nmsI (pat k) ws ws.length).length = 2 := by
  have hc : k = 0 ∨ k = 1 ∨ k = 2 ∨ k = 3 := by omega
  rw [← hl]
  rcases hc with rfl | rfl | rfl | rfl <;> simp [pat, nmsI, noB, ByteArray.size]

end Go.Proofs.YtiamlbhkiehilaaGreatDoor

namespace Go.Proofs.YtiamlbhkiehilaaGreatDoor
open Go.RowKit Go.Maps

/-- What Parse answers of the rest of the lines, behind n of them and the facts that they said. -/
def parseGo : List Fct → Nat → List ByteArray → List Fct × Int × Int
  | pre, _, [] => (pre, 0, 0)
  | pre, n, l :: r =>
    if 80 < l.size then ([], 3, (n : Int) + 1)
    else if (saidB l).2 ≠ 0 then ([], (saidB l).2, (n : Int) + 1)
    else if (saidB l).1.k = 0 then parseGo pre (n + 1) r
    else if errOf pre (saidB l).1 = 0 then parseGo (pre ++ [(saidB l).1]) (n + 1) r
    else ([], errOf pre (saidB l).1, (n : Int) + 1)

/-- What Parse answers: the facts, the error's kind, its line. -/
def parseB (s : ByteArray) : List Fct × Int × Int := if 6000 < s.size then ([], 2, 0) else parseGo [] 0 (linesB s)

theorem parseGo_wide {pre : List Fct} {n : Nat} {l : ByteArray} {r : List ByteArray} (h : 80 < l.size) : parseGo pre n (l :: r) = ([], 3, (n : Int) + 1) := by simp [parseGo, h]
theorem parseGo_form {pre : List Fct} {n : Nat} {l : ByteArray} {r : List ByteArray} (h : ¬ 80 < l.size) {f : Fct} {e : Int} (hs : saidB l = (f, e)) (he : e ≠ 0) : parseGo pre n (l :: r) = ([], e, (n : Int) + 1) := by simp [parseGo, h, hs, he]
theorem parseGo_skip {pre : List Fct} {n : Nat} {l : ByteArray} {r : List ByteArray} (h : ¬ 80 < l.size) {f : Fct} (hs : saidB l = (f, 0)) (hk : f.k = 0) : parseGo pre n (l :: r) = parseGo pre (n + 1) r := by simp [parseGo, h, hs, hk]
theorem parseGo_add {pre : List Fct} {n : Nat} {l : ByteArray} {r : List ByteArray} (h : ¬ 80 < l.size) {f : Fct} (hs : saidB l = (f, 0)) (hk : f.k ≠ 0) (he : errOf pre f = 0) : parseGo pre n (l :: r) = parseGo (pre ++ [f]) (n + 1) r := by simp [parseGo, h, hs, hk, he]
theorem parseGo_bad {pre : List Fct} {n : Nat} {l : ByteArray} {r : List ByteArray} (h : ¬ 80 < l.size) {f : Fct} (hs : saidB l = (f, 0)) (hk : f.k ≠ 0) (he : errOf pre f ≠ 0) : parseGo pre n (l :: r) = ([], errOf pre f, (n : Int) + 1) := by simp [parseGo, h, hs, hk, he]

theorem nmsI_mem (ps ws : List ByteArray) (M : Nat) (h : ∀ x ∈ ws, x.size ≤ M) (i : Nat) : ∀ x ∈ nmsI ps ws i, x.size ≤ M := by
  induction i with
  | zero => simp [nmsI]
  | succ i ih =>
    unfold nmsI
    split
    · intro x hx
      rcases List.mem_append.1 hx with hx | hx
      · exact ih x hx
      · rw [List.mem_singleton.1 hx]
        cases hg : ws[i]? with
        | none => simp [hg, noB, ByteArray.size]
        | some y => simp [hg]; exact h y (List.mem_of_getElem? hg)
    · exact ih

theorem getD_size (l : List ByteArray) (M i : Nat) (h : ∀ x ∈ l, x.size ≤ M) : (l.getD i noB).size ≤ M := by
  cases hg : l[i]? with
  | none => simp [hg, noB, ByteArray.size]
  | some y => simp [hg]; exact h y (List.mem_of_getElem? hg)

theorem saidB_cases (l : ByteArray) : (∃ f, saidB l = (f, 0) ∧ f.p.size ≤ l.size ∧ f.q.size ≤ l.size ∧ 0 ≤ f.k ∧ f.k ≤ 4) ∨ saidB l = (noF, 4) := by
  cases hw : wordsR l 0 [] with
  | none => exact .inr (saidB_none hw)
  | some ws =>
    rw [saidB_some hw]
    have hz := wordsR_size hw
    have hf : ∀ k, (fctW ws k).p.size ≤ l.size ∧ (fctW ws k).q.size ≤ l.size := fun k => ⟨getD_size _ _ _ (nmsI_mem _ _ _ hz _), getD_size _ _ _ (nmsI_mem _ _ _ hz _)⟩
    unfold saidW
    split
    · exact .inl ⟨noF, rfl, Nat.zero_le _, Nat.zero_le _, Int.le_refl _, by decide⟩
    · split
      · exact .inl ⟨_, rfl, (hf 0).1, (hf 0).2, by simp [fctW], by simp [fctW]⟩
      · split
        · exact .inl ⟨_, rfl, (hf 1).1, (hf 1).2, by simp [fctW], by simp [fctW]⟩
        · split
          · exact .inl ⟨_, rfl, (hf 2).1, (hf 2).2, by simp [fctW], by simp [fctW]⟩
          · split
            · exact .inl ⟨_, rfl, (hf 3).1, (hf 3).2, by simp [fctW], by simp [fctW]⟩
            · exact .inr rfl

theorem linesB_size (s : ByteArray) : ∀ l ∈ linesB s, l.size ≤ s.size := by
  have h : ∀ i, ∀ l ∈ (lnI s i).1, l.size ≤ s.size := by
    intro i
    induction i with
    | zero => simp [lnI]
    | succ i ih =>
      unfold lnI
      split
      · intro l hl
        rcases List.mem_append.1 hl with hl | hl
        · exact ih l hl
        · rw [List.mem_singleton.1 hl, ByteArray.size_extract]; omega
      · exact ih
  intro l hl
  rcases List.mem_append.1 hl with hl | hl
  · exact h _ l hl
  · rw [List.mem_singleton.1 hl, ByteArray.size_extract]; omega

theorem linesB_len (s : ByteArray) : (linesB s).length ≤ s.size + 1 := by
  have := lnI_len s s.size
  simp [linesB]
  omega

theorem errOf_zero' {pre : List Fct} {f : Fct} (h : errOf pre f = 0) : f.p.size ≤ 12 ∧ f.q.size ≤ 12 ∧ pre.length < 120 := by
  unfold errOf at h
  by_cases h1 : 12 < f.p.size ∨ 12 < f.q.size
  · rw [if_pos h1] at h; exact absurd h (by decide)
  · rw [if_neg h1] at h
    by_cases h2 : 120 ≤ pre.length
    · rw [if_pos h2] at h; exact absurd h (by decide)
    · omega

end Go.Proofs.YtiamlbhkiehilaaGreatDoor
