import Derived.WalkKit
namespace Go.Proofs.YtiamlbhkiehilaaDoor
open Go.RowKit

/-- A byte that a name begins with. -/
def startB (c : Int) : Bool := decide ((97 ≤ c ∧ c ≤ 122) ∨ (65 ≤ c ∧ c ≤ 90) ∨ c = 95)
/-- A byte that a name goes on with. -/
def partB (c : Int) : Bool := decide ((97 ≤ c ∧ c ≤ 122) ∨ (65 ≤ c ∧ c ≤ 90) ∨ c = 95 ∨ (48 ≤ c ∧ c ≤ 57))
/-- Are all of them bytes of a name? -/
def partsB (l : List UInt8) : Bool := l.all fun c => partB c.toNat
/-- Is it a name? -/
def nameB : List UInt8 → Bool
  | [] => false
  | c :: r => startB c.toNat && partsB r

theorem hide {p : Prop} (h : p) : Hid p := h
theorem unhide {p : Prop} (h : Hid p) : p := h

theorem ret_bool {a b : Bool} (h : a = b) : Ending.returned (.bool a) = .returned (.bool b) := by rw [h]
theorem ret_int {k : IntKind} {a b : Int} (h : a = b) : Ending.returned (.int k a) = .returned (.int k b) := by rw [h]

theorem part_of_start {c : Int} (h : startB c = true) : partB c = true := by
  simp only [startB, partB, decide_eq_true_eq] at *
  omega

theorem part_of_not {c : Int} (h : startB c = false) : partB c = decide (48 ≤ c ∧ c ≤ 57) := by
  simp only [startB, partB, decide_eq_false_iff_not] at *
  rw [Bool.eq_iff_iff]
  simp only [decide_eq_true_eq]
  omega

theorem take_snoc (s : ByteArray) (k : Nat) (h : k < s.size) : s.data.toList.take (k + 1) = s.data.toList.take k ++ [s[k]] := by
  rw [List.take_succ_eq_append_getElem (by simpa using h)]; rfl

theorem partsB_snoc (l : List UInt8) (c : UInt8) : partsB (l ++ [c]) = (partsB l && partB c.toNat) := by
  simp [partsB, List.all_append]

theorem partsB_of_take {l : List UInt8} {k : Nat} (h : partsB (l.take k) = false) : partsB l = false := by
  rw [← List.take_append_drop k l]
  simp only [partsB, List.all_append] at *
  simp [h]

theorem nameB_parts (l : List UInt8) (h : partsB l = false) : nameB l = false := by
  cases l with
  | nil => rfl
  | cons c r =>
    simp only [nameB]
    cases hs : startB c.toNat
    · rfl
    · have := part_of_start hs
      simp only [partsB, List.all_cons, this, Bool.true_and] at h
      simpa [partsB] using h

theorem nameB_all (s : ByteArray) (h0 : 0 < s.size) (h : partsB s.data.toList = true) : nameB s.data.toList = startB s[0].toNat := by
  obtain ⟨⟨l⟩⟩ := s
  cases l with
  | nil => simp [ByteArray.size] at h0
  | cons c r =>
    simp only [partsB, List.all_cons, Bool.and_eq_true] at h
    have e : (⟨⟨c :: r⟩⟩ : ByteArray)[0] = c := rfl
    simp only [nameB, partsB, h.2, Bool.and_true, e]

theorem nameB_first (s : ByteArray) (h0 : 0 < s.size) (h : startB s[0].toNat = false) : nameB s.data.toList = false := by
  obtain ⟨⟨l⟩⟩ := s
  cases l with
  | nil => rfl
  | cons c r =>
    have e : (⟨⟨c :: r⟩⟩ : ByteArray)[0] = c := rfl
    rw [e] at h
    simp only [nameB, h, Bool.false_and]

theorem parts_first (s : ByteArray) (h0 : 0 < s.size) (h : startB s[0].toNat = true) : partsB (s.data.toList.take 1) = true := by
  obtain ⟨⟨l⟩⟩ := s
  cases l with
  | nil => rfl
  | cons c r =>
    have e : (⟨⟨c :: r⟩⟩ : ByteArray)[0] = c := rfl
    rw [e] at h
    simp [partsB, part_of_start h]

theorem parts_full {s : ByteArray} {k : Nat} (h : partsB (s.data.toList.take k) = true) (hk : s.size ≤ k) : partsB s.data.toList = true := by
  rwa [List.take_of_length_le (by simpa using hk)] at h

theorem nameB_empty (s : ByteArray) (h : s.size = 0) : nameB s.data.toList = false := by
  obtain ⟨⟨l⟩⟩ := s
  cases l with
  | nil => rfl
  | cons c r => simp [ByteArray.size] at h

end Go.Proofs.YtiamlbhkiehilaaDoor
