import Derived.Test.YtiamlbhkiehilaaCharsI
import Derived.Test.YtiamlbhkiehilaaSpec
namespace Go.Proofs.Ytiamlbhkiehilaa
open Go.RowKit

set_option maxHeartbeats 400000 in
theorem isFact_any (k : Int) (p q : ByteArray) (w : World) (hp : p.size ≤ maxLen) (hq : q.size ≤ maxLen) :
    Calls Try.prog 17 #[.agg #[.int .i64 k, .string p, .string q]] w fun e w' => e = .returned (.bool (factB k p q)) ∧ Below w.heap.size w w' := by
  have hb : ∀ o, Below w.heap.size w (w.alloc o) := fun o => (Below.refl _ _).alloc (Nat.le_refl _) o
  by_cases h1 : 1 ≤ k
  · by_cases h2 : k ≤ 4
    · cases hc : nameB p.data.toList
      · have HC : Hid (nameB p.data.toList = false) := hc
        have HF : Hid (factB k p q = false) := by simp [factB, hc, Hid]
        clear hc
        go_enter Try.func17, Try.ntmps17
        go_wp2_with (go_at_call 29; refine (isName_any _ _ hp).mono ?_; rintro e w' ⟨rfl, rfl⟩; rw [HC.out])
        go_ret
        exact ⟨by rw [HF.out]; rfl, hb _⟩
      · have HC : Hid (nameB p.data.toList = true) := hc
        have HF : Hid (factB k p q = nameB q.data.toList) := by simp [factB, hc, Hid, h1, h2]
        clear hc
        go_enter Try.func17, Try.ntmps17
        go_wp2_with fail
        refine (isName_any _ _ hp).mono ?_; rintro e w' ⟨rfl, rfl⟩; rw [HC.out]
        go_wp2_with fail
        refine (isName_any _ _ hq).mono ?_; rintro e w' ⟨rfl, rfl⟩
        go_wp2
        go_ret
        exact ⟨by rw [HF.out]; rfl, hb _⟩
    · have HF : Hid (factB k p q = false) := by simp [factB, h2, Hid]
      go_enter Try.func17, Try.ntmps17
      go_wp2
      go_ret
      exact ⟨by rw [HF.out]; rfl, hb _⟩
  · have HF : Hid (factB k p q = false) := by simp [factB, h1, Hid]
    go_enter Try.func17, Try.ntmps17
    go_wp2
    go_ret
    exact ⟨by rw [HF.out]; rfl, hb _⟩

theorem ret_str {a b : ByteArray} (h : a = b) : Ending.returned (.string a) = .returned (.string b) := by rw [h]

set_option maxHeartbeats 400000 in
theorem printLine_any (k : Int) (p q : ByteArray) (w : World) (hp : p.size ≤ 12) (hq : q.size ≤ 12) :
    Calls Try.prog 20 #[.agg #[.int .i64 k, .string p, .string q]] w fun e w' => e = .returned (.string (lineB k p q)) ∧ Below w.heap.size w w' := by
  go_enter Try.func20, Try.ntmps20
  go_wp2
  all_goals
    go_ret
    refine ⟨ret_str ?_, (Below.refl _ _).alloc (Nat.le_refl _) _⟩
    simp_all [lineB]

end Go.Proofs.Ytiamlbhkiehilaa
