import Derived.Test.YtiamlbhkiehilaaDoorWSpec
namespace Go.Proofs.YtiamlbhkiehilaaDoor
open Go.RowKit Go.Maps

def noB : ByteArray := ⟨#[]⟩
/-- The forms of a fact: nothing stands for a name. -/
def pat : Nat → List ByteArray
  | 0 => [noB, ⟨#[61]⟩, ⟨#[38]⟩, noB]
  | 1 => [noB, ⟨#[61]⟩, noB]
  | 2 => [noB, ⟨#[61]⟩, ⟨#[42]⟩, noB]
  | 3 => [⟨#[42]⟩, noB, ⟨#[61]⟩, noB]
  | _ => []

/-- Does a word fit a place of a form? -/
def fitsOne (p x : ByteArray) : Bool := if p.size = 0 then nameB x.data.toList else decide (x = p)
def fitsI (ps ws : List ByteArray) : Nat → Bool
  | 0 => true
  | i + 1 => fitsI ps ws i && fitsOne (ps.getD i noB) (ws.getD i noB)
def nmsI (ps ws : List ByteArray) : Nat → List ByteArray
  | 0 => []
  | i + 1 => if (ps.getD i noB).size = 0 then nmsI ps ws i ++ [ws.getD i noB] else nmsI ps ws i

theorem nmsI_len (ps ws : List ByteArray) (i : Nat) : (nmsI ps ws i).length ≤ i := by
  induction i with
  | zero => exact Nat.le_refl _
  | succ i ih =>
    unfold nmsI
    split
    · simp; omega
    · omega

theorem fitsI_name {ps ws : List ByteArray} {i : Nat} {p x : ByteArray} (hp : ps[i]? = some p) (hx : ws[i]? = some x) (h : p.size = 0) : fitsI ps ws (i + 1) = (fitsI ps ws i && nameB x.data.toList) ∧ nmsI ps ws (i + 1) = nmsI ps ws i ++ [x] := by
  simp [fitsI, nmsI, hp, hx, fitsOne, h]
theorem fitsI_sign {ps ws : List ByteArray} {i : Nat} {p x : ByteArray} (hp : ps[i]? = some p) (hx : ws[i]? = some x) (h : ¬ p.size = 0) : fitsI ps ws (i + 1) = (fitsI ps ws i && decide (x = p)) ∧ nmsI ps ws (i + 1) = nmsI ps ws i := by
  simp [fitsI, nmsI, hp, hx, fitsOne, h]

def goodW (ws : List ByteArray) (k : Nat) : Bool := decide ((pat k).length = ws.length) && fitsI (pat k) ws ws.length
def fctW (ws : List ByteArray) (k : Nat) : Fct := ⟨(k : Int) + 1, (nmsI (pat k) ws ws.length).getD 0 noB, (nmsI (pat k) ws ws.length).getD 1 noB⟩
def noF : Fct := ⟨0, noB, noB⟩

/-- What the words of a line say: the fact (of the kind 0: nothing) and the error. -/
def saidW (ws : List ByteArray) : Fct × Int :=
  if ws.length = 0 then (noF, 0)
  else if goodW ws 0 = true then (fctW ws 0, 0)
  else if goodW ws 1 = true then (fctW ws 1, 0)
  else if goodW ws 2 = true then (fctW ws 2, 0)
  else if goodW ws 3 = true then (fctW ws 3, 0)
  else (noF, 4)

/-- What a line says. -/
def saidB (s : ByteArray) : Fct × Int :=
  match wordsR s 0 [] with
  | none => (noF, 4)
  | some ws => saidW ws

theorem saidB_none {s : ByteArray} (h : wordsR s 0 [] = none) : saidB s = (noF, 4) := by simp [saidB, h]
theorem saidB_some {s : ByteArray} {ws : List ByteArray} (h : wordsR s 0 [] = some ws) : saidB s = saidW ws := by simp [saidB, h]
theorem saidW_nil {ws : List ByteArray} (h : ws.length = 0) : saidW ws = (noF, 0) := by simp [saidW, h]
theorem saidW_bad {ws : List ByteArray} (h : 0 < ws.length) (hb : ∀ j, j < 4 → goodW ws j = false) : saidW ws = (noF, 4) := by
  simp only [saidW, hb 0 (by decide), hb 1 (by decide), hb 2 (by decide), hb 3 (by decide)]
  rw [if_neg (by omega)]
  simp
theorem saidW_good {ws : List ByteArray} {k : Nat} (h : 0 < ws.length) (hk : k < 4) (hb : ∀ j, j < k → goodW ws j = false) (hg : goodW ws k = true) : saidW ws = (fctW ws k, 0) := by
  unfold saidW
  rw [if_neg (by omega)]
  have hc : k = 0 ∨ k = 1 ∨ k = 2 ∨ k = 3 := by omega
  rcases hc with rfl | rfl | rfl | rfl
  · simp [hg]
  · simp [hb 0 (by decide), hg]
  · simp [hb 0 (by decide), hb 1 (by decide), hg]
  · simp [hb 0 (by decide), hb 1 (by decide), hb 2 (by decide), hg]

theorem nms_two {ws : List ByteArray} {k : Nat} (hk : k < 4) (hl : (pat k).length = ws.length) : (nmsI (pat k) ws ws.length).length = 2 := by
  have hc : k = 0 ∨ k = 1 ∨ k = 2 ∨ k = 3 := by omega
  rw [← hl]
  rcases hc with rfl | rfl | rfl | rfl <;> simp [pat, nmsI, noB, ByteArray.size]

end Go.Proofs.YtiamlbhkiehilaaDoor
