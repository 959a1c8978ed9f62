import Derived.Test.YtiamlbhkiehilaaDoorPure
import Derived.Maps.Views
namespace Go.Proofs.YtiamlbhkiehilaaDoor
open Go.RowKit Go.Maps

/-- A fact: its kind and its two names. -/
structure Fct where
  k : Int
  p : ByteArray
  q : ByteArray

/-- A fact with a kind and two names. -/
def factB (k : Int) (p q : ByteArray) : Bool := decide (1 ≤ k ∧ k ≤ 4) && (nameB p.data.toList && nameB q.data.toList)

/-- A fact's line. -/
def lineB (k : Int) (p q : ByteArray) : ByteArray :=
  if k = 1 then p ++ ⟨#[32, 61, 32, 38]⟩ ++ q ++ ⟨#[10]⟩
  else if k = 3 then p ++ ⟨#[32, 61, 32, 42]⟩ ++ q ++ ⟨#[10]⟩
  else if k = 4 then ⟨#[42]⟩ ++ p ++ ⟨#[32, 61, 32]⟩ ++ q ++ ⟨#[10]⟩
  else p ++ ⟨#[32, 61, 32]⟩ ++ q ++ ⟨#[10]⟩

theorem lineB_size (k : Int) (p q : ByteArray) : (lineB k p q).size ≤ p.size + q.size + 5 := by
  unfold lineB
  have e1 : (⟨#[32, 61, 32, 38]⟩ : ByteArray).size = 4 := rfl
  have e2 : (⟨#[10]⟩ : ByteArray).size = 1 := rfl
  have e3 : (⟨#[32, 61, 32, 42]⟩ : ByteArray).size = 4 := rfl
  have e4 : (⟨#[42]⟩ : ByteArray).size = 1 := rfl
  have e5 : (⟨#[32, 61, 32]⟩ : ByteArray).size = 3 := rfl
  split
  · simp only [ByteArray.size_append, e1, e2]; omega
  · split
    · simp only [ByteArray.size_append, e3, e2]; omega
    · split
      · simp only [ByteArray.size_append, e4, e5, e2]; omega
      · simp only [ByteArray.size_append, e5, e2]; omega

/-- The names of facts, in their order. -/
def namesL (l : List Fct) : List (List UInt8) := l.flatMap fun f => [f.p.data.toList, f.q.data.toList]

/-- One more, if it is not there yet. -/
def addN (acc : List (List UInt8)) (x : List UInt8) : List (List UInt8) := if x ∈ acc then acc else acc ++ [x]

/-- How many different ones. -/
def dcount (l : List (List UInt8)) : Nat := (l.foldl addN []).length

/-- The error of a fact behind others, but for its form. -/
def errOf (pre : List Fct) (f : Fct) : Int :=
  if 12 < f.p.size ∨ 12 < f.q.size then 5 else if 120 ≤ pre.length then 6 else if 40 < dcount (namesL (pre ++ [f])) then 7 else 0

/-- What Print answers of the rest, behind facts that have been written: the text, the error's kind, its line. -/
def printGo : List Fct → List Fct → List UInt8 → List UInt8 × Int × Int
  | _, [], acc => (acc, 0, 0)
  | pre, f :: r, acc =>
    if factB f.k f.p f.q = true then
      if errOf pre f = 0 then printGo (pre ++ [f]) r (acc ++ (lineB f.k f.p f.q).data.toList) else ([], errOf pre f, (pre.length : Int) + 1)
    else ([], 4, (pre.length : Int) + 1)

theorem printGo_nil (pre : List Fct) (acc : List UInt8) : printGo pre [] acc = (acc, 0, 0) := by simp [printGo]
theorem printGo_form {pre r : List Fct} {f : Fct} {acc : List UInt8} (h : factB f.k f.p f.q = false) : printGo pre (f :: r) acc = ([], 4, (pre.length : Int) + 1) := by simp [printGo, h]
theorem printGo_err {pre r : List Fct} {f : Fct} {acc : List UInt8} (h : factB f.k f.p f.q = true) {e : Int} (he : errOf pre f = e) (h0 : e ≠ 0) : printGo pre (f :: r) acc = ([], e, (pre.length : Int) + 1) := by
  simp [printGo, h, he, h0]
theorem printGo_ok {pre r : List Fct} {f : Fct} {acc : List UInt8} (h : factB f.k f.p f.q = true) (he : errOf pre f = 0) : printGo pre (f :: r) acc = printGo (pre ++ [f]) r (acc ++ (lineB f.k f.p f.q).data.toList) := by
  simp [printGo, h, he]

theorem errOf_name {pre : List Fct} {f : Fct} (h : 12 < f.p.size ∨ 12 < f.q.size) : errOf pre f = 5 := by simp only [errOf, if_pos h]
theorem errOf_many {pre : List Fct} {f : Fct} (h : ¬ (12 < f.p.size ∨ 12 < f.q.size)) (h1 : 120 ≤ pre.length) : errOf pre f = 6 := by simp only [errOf, if_neg h, if_pos h1]
theorem errOf_full {pre : List Fct} {f : Fct} (h : ¬ (12 < f.p.size ∨ 12 < f.q.size)) (h1 : ¬ 120 ≤ pre.length) (h2 : 40 < dcount (namesL (pre ++ [f]))) : errOf pre f = 7 := by simp only [errOf, if_neg h, if_neg h1, if_pos h2]
theorem errOf_ok {pre : List Fct} {f : Fct} (h : ¬ (12 < f.p.size ∨ 12 < f.q.size)) (h1 : ¬ 120 ≤ pre.length) (h2 : ¬ 40 < dcount (namesL (pre ++ [f]))) : errOf pre f = 0 := by simp only [errOf, if_neg h, if_neg h1, if_neg h2]

theorem take_next {α : Type} {l : List α} {i : Nat} {x : α} (h : l[i]? = some x) : l.take (i + 1) = l.take i ++ [x] := by
  rw [List.take_add_one, h]; rfl
theorem drop_here {α : Type} {l : List α} {i : Nat} {x : α} (h : l[i]? = some x) : l.drop i = x :: l.drop (i + 1) := by
  obtain ⟨hi, rfl⟩ := List.getElem?_eq_some_iff.1 h
  exact List.drop_eq_getElem_cons hi

/-! ### the map's size is the number of different names -/
def keyS (s : ByteArray) : Lit := .string s.data.toList
def keysOf (l : List Fct) : List Lit := l.flatMap fun f => [keyS f.p, keyS f.q]
/-- The set of names as the map of a tally reads. -/
def setU (ks : List Lit) : DataW Unit := setOf (.agg []) ks

theorem keysOf_snoc (l : List Fct) (f : Fct) : keysOf (l ++ [f]) = keysOf l ++ [keyS f.p, keyS f.q] := by simp [keysOf]
theorem keysOf_names (l : List Fct) : keysOf l = (namesL l).map Lit.string := by
  unfold keysOf namesL
  induction l with
  | nil => rfl
  | cons f r ih =>
    rw [List.flatMap_cons, List.flatMap_cons, List.map_append, ih]
    rfl

theorem any_same (acc : List (List UInt8)) (x : List UInt8) : (acc.map Lit.string).any (fun y => y.sameKey (.string x)) = decide (x ∈ acc) := by
  induction acc with
  | nil => simp
  | cons y r ih =>
    rw [List.map_cons, List.any_cons, ih, Bool.eq_iff_iff]
    by_cases e : y = x
    · subst e
      have : (Lit.string y).sameKey (.string y) = true := by simp [Lit.sameKey]
      simp [this]
    · have : (Lit.string y).sameKey (.string x) = false := sameKey_ne (by intro h; exact e (by injection h))
      simp [this]
      intro h
      exact absurd h.symm e

theorem fold_same (l acc : List (List UInt8)) : (l.map Lit.string).foldl addKey (acc.map Lit.string) = (l.foldl addN acc).map Lit.string := by
  induction l generalizing acc with
  | nil => rfl
  | cons x r ih =>
    rw [List.map_cons, List.foldl_cons, List.foldl_cons]
    have e : addKey (acc.map Lit.string) (.string x) = (addN acc x).map Lit.string := by
      unfold addKey addN
      rw [any_same]
      by_cases h : x ∈ acc <;> simp [h]
    rw [e, ih]

theorem size_setU (l : List Fct) : Maps.size (setU (keysOf l)) = dcount (namesL l) := by
  unfold setU dcount
  rw [size_setOf, keysOf_names]
  · have := fold_same (namesL l) []
    rw [List.map_nil] at this
    rw [this, List.length_map]
  · intro x hx
    rw [keysOf_names] at hx
    obtain ⟨y, _, rfl⟩ := List.mem_map.1 hx
    trivial

end Go.Proofs.YtiamlbhkiehilaaDoor
