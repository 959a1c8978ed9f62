import Derived.Test.YtiamlbhkiehilaaDoorSpec
namespace Go.Proofs.YtiamlbhkiehilaaDoor
open Go.RowKit Go.Maps

/-- The lines that have ended ahead of the i-th byte, and where the next begins. -/
def lnI (s : ByteArray) : Nat → List ByteArray × Nat
  | 0 => ([], 0)
  | i + 1 => if s.data.toList[i]? = some 10 then ((lnI s i).1 ++ [s.extract (lnI s i).2 i], i + 1) else lnI s i

/-- The lines of a text. -/
def linesB (s : ByteArray) : List ByteArray := (lnI s s.size).1 ++ [s.extract (lnI s s.size).2 s.size]

theorem lnI_le (s : ByteArray) (i : Nat) : (lnI s i).2 ≤ i := by
  induction i with
  | zero => exact Nat.le_refl _
  | succ i ih =>
    unfold lnI
    split
    · exact Nat.le_refl _
    · omega

theorem lnI_len (s : ByteArray) (i : Nat) : (lnI s i).1.length ≤ i := by
  induction i with
  | zero => exact Nat.le_refl _
  | succ i ih =>
    unfold lnI
    split
    · simp; omega
    · omega

theorem at_list (s : ByteArray) (i : Nat) (h : i < s.size) : s.data.toList[i]? = some s[i] := by
  rw [List.getElem?_eq_getElem (by simpa using h)]
  rfl

theorem lnI_yes {s : ByteArray} {i : Nat} (h : i < s.size) (e : s[i].toNat = 10) : lnI s (i + 1) = ((lnI s i).1 ++ [s.extract (lnI s i).2 i], i + 1) := by
  have : s[i] = 10 := UInt8.toNat_inj.1 (by simpa using e)
  simp only [lnI]
  rw [if_pos (by rw [at_list s i h, this])]

theorem lnI_no {s : ByteArray} {i : Nat} (h : i < s.size) (e : ¬ s[i].toNat = 10) : lnI s (i + 1) = lnI s i := by
  simp only [lnI]
  rw [if_neg]
  rw [at_list s i h]
  intro h2
  apply e
  rw [Option.some.inj h2]
  rfl

end Go.Proofs.YtiamlbhkiehilaaDoor
