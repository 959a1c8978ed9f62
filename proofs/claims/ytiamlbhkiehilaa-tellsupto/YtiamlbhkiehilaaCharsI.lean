import Derived.Test.YtiamlbhkiehilaaChars
namespace Go.Proofs.Ytiamlbhkiehilaa
open Go.RowKit

theorem isEmpty_no (s : ByteArray) (h0 : 0 < s.size) : s.toList.isEmpty = false := by
  rw [ByteArray.toList_eq]
  cases h : s.data.toList with
  | nil => simp [ByteArray.size, ← Array.length_toList, h] at h0
  | cons c r => rfl

set_option maxHeartbeats 400000 in
theorem isName_any (s : ByteArray) (w : World) (hs : s.size ≤ maxLen) :
    Calls Try.prog 29 #[.string s] w fun e w' => e = .returned (.bool (nameB s.data.toList)) ∧ w' = w := by
  unfold maxLen at hs
  by_cases h0 : 0 < s.size
  · have he : (s.toList.isEmpty) = false := isEmpty_no s h0
    cases hc : startB (s[0].toNat : Int)
    · have HF : Hid (nameB s.data.toList = false) := nameB_first s h0 hc
      have HC : Hid (startB (s[0].toNat : Int) = false) := hc
      clear hc
      go_enter Try.func29, Try.ntmps29
      go_wp2_with (go_at_call 33; refine (begins_any _ _).mono ?_; rintro e w' ⟨rfl, rfl⟩; rw [HC.out])
      go_ret
      exact ⟨by rw [HF.out]; rfl, rfl⟩
    · have HC : Hid (startB (s[0].toNat : Int) = true) := hc
      have HO : Hid (partsB (s.data.toList.take 1) = true) := parts_first s h0 hc
      clear hc
      go_enter Try.func29, Try.ntmps29
      go_wp2_with (go_at_call 33; refine (begins_any _ _).mono ?_; rintro e w' ⟨rfl, rfl⟩; rw [HC.out])
      go_loop [3] (fun i => ∃ k : Nat, 1 ≤ k ∧ k ≤ s.size ∧ i = .int .i64 k ∧ partsB (s.data.toList.take k) = true) (fun i => s.size - (intOf i).toNat)
      case atStart => exact ⟨1, Nat.le_refl _, h0, rfl, HO.out⟩
      case round =>
        obtain ⟨k, hk1, hk, rfl, hp0⟩ := hrel
        have HP : Hid (partsB (s.data.toList.take k) = true) := hp0
        clear hp0
        by_cases hlt : k < s.size
        · have hsn := partsB_snoc (s.data.toList.take k) s[k]
          rw [← take_snoc s k hlt, HP.out, Bool.true_and] at hsn
          cases hc : partB (s[k].toNat : Int)
          · rw [hc] at hsn
            have HF : Hid (nameB s.data.toList = false) := nameB_parts _ (partsB_of_take hsn)
            have HC : Hid (partB (s[k].toNat : Int) = false) := hc
            clear hsn hc
            go_wp2_with (go_at_call 34; refine (goesOn_any _ _).mono ?_; rintro e w' ⟨rfl, rfl⟩; rw [HC.out])
            go_ret
            exact ⟨by rw [HF.out]; rfl, rfl⟩
          · rw [hc] at hsn
            have HS : Hid (partsB (s.data.toList.take (k + 1)) = true) := hsn
            have HC : Hid (partB (s[k].toNat : Int) = true) := hc
            clear hsn hc
            go_wp2_with (go_at_call 34; refine (goesOn_any _ _).mono ?_; rintro e w' ⟨rfl, rfl⟩; rw [HC.out])
            go_round
            case rel => exact ⟨k + 1, by omega, by omega, by go_num, HS.out⟩
            case measure => simp [intOf]; omega
        · have HF : Hid (nameB s.data.toList = true) := (nameB_all s h0 (parts_full HP.out (by omega))).trans HC.out
          go_wp2
          go_ret
          exact ⟨by rw [HF.out]; rfl, rfl⟩
  · have HF : Hid (nameB s.data.toList = false) := nameB_empty s (by omega)
    have hse : s = ByteArray.empty := by
      obtain ⟨⟨l⟩⟩ := s
      cases l with
      | nil => rfl
      | cons c r => simp [ByteArray.size] at h0
    subst hse
    go_enter Try.func29, Try.ntmps29
    go_wp2
    go_ret
    exact ⟨rfl, rfl⟩

end Go.Proofs.Ytiamlbhkiehilaa
