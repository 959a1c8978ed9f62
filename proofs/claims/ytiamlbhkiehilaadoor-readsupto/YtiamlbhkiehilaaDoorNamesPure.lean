import Derived.Test.YtiamlbhkiehilaaDoorSpec
import Derived.Laws.CopyOwn
namespace Go.Proofs.YtiamlbhkiehilaaDoor
open Go.RowKit Go.Maps

/-- Byte by byte ahead. -/
def lessS (a b : ByteArray) : Bool := Op.bytesLess a.toList b.toList

/-- The names of facts, in their order, as texts. -/
def strsOf (l : List Fct) : List ByteArray := l.flatMap fun f => [f.p, f.q]

/-- How many at the head are ahead of s. -/
def insAt : List ByteArray → ByteArray → Nat
  | [], _ => 0
  | x :: r, s => if lessS x s = true then insAt r s + 1 else 0

/-- A name laid in at its place, if it is not there. -/
def insN (l : List ByteArray) (s : ByteArray) : List ByteArray :=
  if l[insAt l s]? = some s then l else l.take (insAt l s) ++ s :: l.drop (insAt l s)

/-- The different names, in order. -/
def namesS (l : List ByteArray) : List ByteArray := l.foldl insN []

theorem strsOf_even {fs : List Fct} {j : Nat} {f : Fct} (h : fs[j]? = some f) : (strsOf fs)[2 * j]? = some f.p := by
  induction fs generalizing j with
  | nil => simp at h
  | cons g r ih =>
    cases j with
    | zero =>
      simp at h
      subst h
      simp [strsOf]
    | succ j =>
      simp at h
      have := ih h
      have e : 2 * (j + 1) = (2 * j) + 1 + 1 := by omega
      rw [e]
      simpa [strsOf] using this

theorem strsOf_odd {fs : List Fct} {j : Nat} {f : Fct} (h : fs[j]? = some f) : (strsOf fs)[2 * j + 1]? = some f.q := by
  induction fs generalizing j with
  | nil => simp at h
  | cons g r ih =>
    cases j with
    | zero =>
      simp at h
      subst h
      simp [strsOf]
    | succ j =>
      simp at h
      have := ih h
      have e : 2 * (j + 1) + 1 = (2 * j + 1) + 1 + 1 := by omega
      rw [e]
      simpa [strsOf] using this

theorem strsOf_length (fs : List Fct) : (strsOf fs).length = 2 * fs.length := by
  induction fs with
  | nil => rfl
  | cons f r ih =>
    have : strsOf (f :: r) = f.p :: f.q :: strsOf r := by simp [strsOf]
    rw [this]
    simp [ih]
    omega

theorem insAt_le (l : List ByteArray) (s : ByteArray) : insAt l s ≤ l.length := by
  induction l with
  | nil => simp [insAt]
  | cons x r ih =>
    simp only [insAt]
    split
    · simp; omega
    · simp

theorem insAt_of {l : List ByteArray} {s : ByteArray} {k : Nat} (h : ∀ j x, j < k → l[j]? = some x → lessS x s = true) (hk : k ≤ l.length) (he : ∀ x, l[k]? = some x → lessS x s = false) : insAt l s = k := by
  induction l generalizing k with
  | nil => simp at hk; subst hk; rfl
  | cons x r ih =>
    cases k with
    | zero =>
      have := he x (by simp)
      simp [insAt, this]
    | succ k =>
      have h0 := h 0 x (by omega) (by simp)
      simp only [insAt, h0, if_true]
      rw [ih (k := k) (fun j y hj hy => h (j + 1) y (by omega) (by simpa using hy)) (by simpa using hk) (fun y hy => he y (by simpa using hy))]

theorem insN_length (l : List ByteArray) (s : ByteArray) : (insN l s).length ≤ l.length + 1 := by
  unfold insN
  have := insAt_le l s
  split
  · omega
  · simp; omega

theorem fold_snoc {fs : List ByteArray} {m : Nat} {s : ByteArray} (h : fs[m]? = some s) : namesS (fs.take (m + 1)) = insN (namesS (fs.take m)) s := by
  unfold namesS
  rw [take_next h, List.foldl_append]
  rfl

/-- A row of n elements with room for one more: the tail moved on by one, and a new one laid at its place. -/
theorem row_ins {α : Type} (cur xs : List α) (z s : α) (k : Nat) (hk : k ≤ xs.length) (h : cur.take (xs.length + 1) = xs ++ [z]) :
    ((splice cur (k + 1) (xs.drop k)).set k s).take (xs.length + 1) = xs.take k ++ s :: xs.drop k := by
  have hc : cur = (xs ++ [z]) ++ cur.drop (xs.length + 1) := by rw [← h, List.take_append_drop]
  generalize cur.drop (xs.length + 1) = t at hc
  subst hc
  clear h
  rw [List.take_set]
  have hl : ((xs ++ [z]).take (k + 1)).length = k + 1 := by rw [List.length_take, List.length_append, List.length_singleton]; omega
  have e1 : (splice ((xs ++ [z]) ++ t) (k + 1) (xs.drop k)).take (xs.length + 1) = (xs ++ [z]).take (k + 1) ++ xs.drop k := by
    unfold splice
    rw [List.take_append_of_le_length (l₁ := xs ++ [z]) (by rw [List.length_append, List.length_singleton]; omega), ← List.append_assoc]
    exact List.take_left' (by rw [List.length_append, hl, List.length_drop]; omega)
  rw [e1]
  apply List.ext_getElem?
  intro j
  rw [List.getElem?_set]
  by_cases h2 : k = j
  · subst h2
    rw [if_pos rfl, if_pos (by rw [List.length_append, hl]; omega), List.getElem?_append_right (by rw [List.length_take]; omega), List.length_take, Nat.min_eq_left hk, Nat.sub_self]
    rfl
  · rw [if_neg h2]
    have e3 : (xs.take k).length = k := by rw [List.length_take]; omega
    by_cases h3 : j < k
    · rw [List.getElem?_append_left (by omega), List.getElem?_append_left (by omega), List.getElem?_take, if_pos (by omega), List.getElem?_append_left (by omega), List.getElem?_take, if_pos h3]
    · rw [List.getElem?_append_right (by omega), hl, List.getElem?_append_right (by omega), e3, List.getElem?_cons, if_neg (by omega), Nat.sub_sub]

theorem insN_new {l : List ByteArray} {s : ByteArray} {k : Nat} (hk : insAt l s = k) (h : l[k]? ≠ some s) : insN l s = l.take k ++ s :: l.drop k := by
  subst hk
  unfold insN
  rw [if_neg h]
theorem insN_old {l : List ByteArray} {s : ByteArray} {k : Nat} (hk : insAt l s = k) (h : l[k]? = some s) : insN l s = l := by
  subst hk
  unfold insN
  rw [if_pos h]

end Go.Proofs.YtiamlbhkiehilaaDoor
