import Derived.Test.YtiamlbhkiehilaaDoorFrame
import Derived.Test.YtiamlbhkiehilaaDoorSorted
namespace Go.Proofs.YtiamlbhkiehilaaDoor
open Go.RowKit

theorem lt_get {α : Type} {l : List α} {i : Nat} {x : α} (h : l[i]? = some x) : i < l.length := (List.getElem?_eq_some_iff.1 h).1

/-- A row: its name, and what it may point to. -/
structure RowD where
  name : ByteArray
  to : List ByteArray

/-- Not behind: Go's '<=' on texts. -/
def leqS (a b : ByteArray) : Bool := Op.bytesLess a.toList b.toList || a.toList == b.toList

theorem leqS_eq (a b : ByteArray) : leqS a b = !lessS b a := by
  unfold leqS
  cases h : lessS b a
  · cases h2 : Op.bytesLess a.toList b.toList
    · by_cases e : a = b
      · subst e; simp
      · have := lessS_total (x := a) (y := b) h2 e
        rw [h] at this
        cases this
    · simp
  · have h1 : lessS a b = false := by
      cases h1 : lessS a b
      · rfl
      · have := lessS_trans h h1
        rw [lessS_irrefl] at this
        cases this
    have h2 : (a.toList == b.toList) = false := by
      rw [beq_eq_false_iff_ne]
      intro e
      have e2 : a = b := bytes_inj (by rwa [ByteArray.toList_eq, ByteArray.toList_eq] at e)
      rw [e2, lessS_irrefl] at h
      cases h
    have h3 : Op.bytesLess a.toList b.toList = false := h1
    simp [h2, h3]

/-- Each behind the one ahead of it. -/
def ascB : List ByteArray → Bool
  | [] => true
  | [_] => true
  | a :: b :: r => lessS a b && ascB (b :: r)

theorem ascB_snoc (l : List ByteArray) (a b : ByteArray) : ascB (l ++ [a, b]) = (ascB (l ++ [a]) && lessS a b) := by
  induction l with
  | nil => simp [ascB]
  | cons x r ih =>
    cases r with
    | nil => simp [ascB]
    | cons y s =>
      have e1 : (x :: y :: s) ++ [a, b] = x :: y :: (s ++ [a, b]) := rfl
      have e2 : (x :: y :: s) ++ [a] = x :: y :: (s ++ [a]) := rfl
      rw [e1, e2]
      simp only [ascB]
      have ih' : ascB (y :: (s ++ [a, b])) = (ascB (y :: (s ++ [a])) && lessS a b) := ih
      rw [ih', Bool.and_assoc]

theorem ascB_take_false {l : List ByteArray} {k : Nat} (h : ascB (l.take k) = false) : ascB l = false := by
  induction l generalizing k with
  | nil => simp at h; rw [h] 
  | cons x r ih =>
    cases k with
    | zero => simp [ascB] at h
    | succ k =>
      cases r with
      | nil => simp [ascB] at h
      | cons y s =>
        cases k with
        | zero => simp [ascB] at h
        | succ k =>
          have e : (x :: y :: s).take (k + 1 + 1) = x :: y :: s.take k := rfl
          rw [e] at h
          simp only [ascB, Bool.and_eq_false_iff] at h ⊢
          rcases h with h | h
          · exact .inl h
          · exact .inr (ih (k := k + 1) h)

/-- The step from k to k + 1. -/
theorem ascB_step {l : List ByteArray} {k : Nat} {a b : ByteArray} (ha : l[k]? = some a) (hb : l[k + 1]? = some b) : ascB (l.take (k + 1 + 1)) = (ascB (l.take (k + 1)) && lessS a b) := by
  rw [take_next hb, take_next ha, List.append_assoc]
  exact ascB_snoc _ _ _

theorem ascB_one (l : List ByteArray) : ascB (l.take 1) = true := by
  cases l <;> rfl

def longS (s : ByteArray) : Bool := decide (12 < s.size)
def isN (s : ByteArray) : Bool := nameB s.data.toList
def rowNames (r : RowD) : Bool := isN r.name && r.to.all isN
def rowLong (r : RowD) : Bool := longS r.name || r.to.any longS

/-- The error of a row behind a name. -/
def rowErr (r : RowD) (ahead : ByteArray) : Int :=
  if rowNames r && ascB r.to then (if rowLong r then 5 else if leqS r.name ahead then 4 else 0) else 4

def toText : List ByteArray → List UInt8
  | [] => []
  | s :: r => 32 :: s.data.toList ++ toText r
def rowText (r : RowD) : List UInt8 := r.name.data.toList ++ 58 :: (toText r.to ++ [10])

theorem toText_snoc (l : List ByteArray) (s : ByteArray) : toText (l ++ [s]) = toText l ++ 32 :: s.data.toList := by
  induction l with
  | nil => simp [toText]
  | cons x r ih => simp [toText, ih]

def rowsText : List RowD → List UInt8
  | [] => []
  | r :: s => rowText r ++ rowsText s

theorem rowsText_snoc (l : List RowD) (r : RowD) : rowsText (l ++ [r]) = rowsText l ++ rowText r := by
  induction l with
  | nil => simp [rowsText]
  | cons x s ih => simp [rowsText, ih]

theorem rowsText_take {l : List RowD} {k : Nat} : (rowsText (l.take k)).length ≤ (rowsText l).length := by
  induction l generalizing k with
  | nil => simp
  | cons x r ih =>
    cases k with
    | zero => simp [rowsText]
    | succ k =>
      simp only [List.take_succ_cons, rowsText, List.length_append]
      have := ih (k := k)
      omega

/-- What Tell answers of the rest, behind rows that are right: the text, the error's kind, its line. -/
def tellGo (ahead : ByteArray) : Nat → List UInt8 → List RowD → List UInt8 × Int × Int
  | _, acc, [] => if 25000 < acc.length then ([], 2, 0) else (acc, 0, 0)
  | i, acc, r :: s => if rowErr r ahead = 0 then tellGo r.name (i + 1) (acc ++ rowText r) s else ([], rowErr r ahead, (i : Int) + 1)

def lastName : List RowD → ByteArray
  | [] => ⟨#[]⟩
  | [r] => r.name
  | _ :: r :: s => lastName (r :: s)

theorem lastName_snoc (l : List RowD) (r : RowD) : lastName (l ++ [r]) = r.name := by
  induction l with
  | nil => rfl
  | cons x s ih =>
    cases s with
    | nil => rfl
    | cons y t => exact ih

end Go.Proofs.YtiamlbhkiehilaaDoor
