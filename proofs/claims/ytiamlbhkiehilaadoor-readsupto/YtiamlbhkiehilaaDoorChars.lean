import Derived.Test.YtiamlbhkiehilaaDoorRows
import Derived.Test.YtiamlbhkiehilaaDoorPure
import Derived.WalkKit
import Derived.WalkSpells
import Derived.WalkLawsBesides
namespace Go.Proofs.YtiamlbhkiehilaaDoor
open Go.RowKit

set_option maxHeartbeats 400000 in
theorem start_any (c : Int) (w : World) :
    Calls Tryd.prog 35 #[.int .u8 c] w fun e w' => e = .returned (.bool (startB c)) ∧ w' = w := by
  go_enter Tryd.func35, Tryd.ntmps35
  go_wp2
  all_goals
    go_ret
    refine ⟨ret_bool ?_, rfl⟩
    rw [Bool.eq_iff_iff]
    simp [startB]
    omega

set_option maxHeartbeats 400000 in
theorem begins_any (c : Int) (w : World) :
    Calls Tryd.prog 39 #[.int .u8 c] w fun e w' => e = .returned (.bool (startB c)) ∧ w' = w := by
  go_enter Tryd.func39, Tryd.ntmps39
  go_wp2
  all_goals
    go_ret
    refine ⟨ret_bool ?_, rfl⟩
    rw [Bool.eq_iff_iff]
    simp [startB]
    omega

set_option maxHeartbeats 400000 in
theorem part_any (c : Int) (w : World) :
    Calls Tryd.prog 36 #[.int .u8 c] w fun e w' => e = .returned (.bool (partB c)) ∧ w' = w := by
  cases h : startB c
  all_goals
    have H : Hid (startB c = _) := h
    clear h
    go_enter Tryd.func36, Tryd.ntmps36
    go_wp2_with (go_at_call 35; refine (start_any _ _).mono ?_; rintro e w' ⟨rfl, rfl⟩; rw [H.out])
  all_goals
    go_ret
    refine ⟨ret_bool ?_, rfl⟩
    first | rw [part_of_start H.out] | (rw [part_of_not H.out, Bool.eq_iff_iff]; simp; done) | (rw [part_of_not H.out, Bool.eq_iff_iff]; simp; omega)

set_option maxHeartbeats 400000 in
theorem goesOn_any (c : Int) (w : World) :
    Calls Tryd.prog 40 #[.int .u8 c] w fun e w' => e = .returned (.bool (partB c)) ∧ w' = w := by
  cases h : startB c
  all_goals
    have H : Hid (startB c = _) := h
    clear h
    go_enter Tryd.func40, Tryd.ntmps40
    go_wp2_with (go_at_call 39; refine (begins_any _ _).mono ?_; rintro e w' ⟨rfl, rfl⟩; rw [H.out])
  all_goals
    go_ret
    refine ⟨ret_bool ?_, rfl⟩
    first | rw [part_of_start H.out] | (rw [part_of_not H.out, Bool.eq_iff_iff]; simp; done) | (rw [part_of_not H.out, Bool.eq_iff_iff]; simp; omega)

set_option maxHeartbeats 400000 in
theorem name_any (s : ByteArray) (w : World) (hs : s.size ≤ maxLen) :
    Calls Tryd.prog 27 #[.string s] w fun e w' => e = .returned (.bool (nameB s.data.toList)) ∧ w' = w := by
  unfold maxLen at hs
  go_enter Tryd.func27, Tryd.ntmps27
  go_wp2
  go_loop [3] (fun i => ∃ k : Nat, k ≤ s.size ∧ i = .int .i64 k ∧ partsB (s.data.toList.take k) = true) (fun i => s.size - (intOf i).toNat)
  case atStart => exact ⟨0, Nat.zero_le _, rfl, rfl⟩
  case round =>
    obtain ⟨k, hk, rfl, hp0⟩ := hrel
    have HP : Hid (partsB (s.data.toList.take k) = true) := hp0
    clear hp0
    by_cases hlt : k < s.size
    · have hsn := partsB_snoc (s.data.toList.take k) s[k]
      rw [← take_snoc s k hlt, HP.out, Bool.true_and] at hsn
      cases hc : partB (s[k].toNat : Int)
      · rw [hc] at hsn
        have HF : Hid (nameB s.data.toList = false) := nameB_parts _ (partsB_of_take hsn)
        have HC : Hid (partB (s[k].toNat : Int) = false) := hc
        clear hsn hc
        go_wp2_with (go_at_call 36; refine (part_any _ _).mono ?_; rintro e w' ⟨rfl, rfl⟩; rw [HC.out])
        go_ret
        exact ⟨by rw [HF.out]; rfl, rfl⟩
      · rw [hc] at hsn
        have HS : Hid (partsB (s.data.toList.take (k + 1)) = true) := hsn
        have HC : Hid (partB (s[k].toNat : Int) = true) := hc
        clear hsn hc
        go_wp2_with (go_at_call 36; refine (part_any _ _).mono ?_; rintro e w' ⟨rfl, rfl⟩; rw [HC.out])
        go_round
        case rel => exact ⟨k + 1, by omega, by go_num, HS.out⟩
        case measure => simp [intOf]; omega
    · by_cases h0 : 0 < s.size
      · have HF : Hid (nameB s.data.toList = startB s[0].toNat) := nameB_all s h0 (parts_full HP.out (by omega))
        go_wp2_with (go_at_call 35; refine (start_any _ _).mono ?_; rintro e w' ⟨rfl, rfl⟩)
        go_ret
        exact ⟨by rw [HF.out]; rfl, rfl⟩
      · have HF : Hid (nameB s.data.toList = false) := nameB_empty s (by omega)
        go_wp2
        go_ret
        exact ⟨by rw [HF.out]; rfl, rfl⟩

end Go.Proofs.YtiamlbhkiehilaaDoor
