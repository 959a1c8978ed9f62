import Derived.Test.YtiamlbhkiehilaaRows2
import Derived.Test.YtiamlbhkiehilaaCharsI
namespace Go.Proofs.Ytiamlbhkiehilaa
open Go.RowKit

set_option maxHeartbeats 400000 in
theorem areNames_any (n : ByteArray) (v : Value) (ss : List ByteArray) (w : World) (hn : n.size ≤ maxLen) (hlen : ss.length ≤ maxLen) (hv : IsStrs v ss w) (hfit : fitsS ss) :
    Calls Try.prog 26 #[.agg #[.string n, v]] w fun e w' => e = .returned (.bool (rowNames ⟨n, ss⟩)) ∧ Below w.heap.size w w' := by
  obtain ⟨ao, cap, rfl, _, _, hne0⟩ := hv
  have hne := hide hne0
  clear hne0
  unfold maxLen at hlen
  go_enter Try.func26, Try.ntmps26
  go_wp2
  have hb : Below w.heap.size w (w.alloc (.cells #[.string n, .slice ao ss.length cap] 38)) := (Below.refl _ _).alloc (Nat.le_refl _) _
  have g0 : (w.alloc (.cells #[.string n, .slice ao ss.length cap] 38)).cell? ⟨w.heap.size, 0, none⟩ = some (.string n) := by rw [cell_at (heap_new _ _)]; rfl
  generalize w.alloc (.cells #[.string n, .slice ao ss.length cap] 38) = w1 at hb g0 ⊢
  go_loop [8] (fun i => ∃ k : Nat, i = .int .i64 k ∧ k ≤ ss.length ∧ Hid ((ss.take k).all isN = true)) (fun i => ss.length - (intOf i).toNat)
  case atStart => exact ⟨0, rfl, Nat.zero_le _, rfl⟩
  case round =>
    obtain ⟨k, rfl, hk, HA⟩ := hrel
    by_cases hlt : k < ss.length
    · obtain ⟨x, hx⟩ : ∃ x, ss[k]? = some x := ⟨_, List.getElem?_eq_getElem hlt⟩
      obtain ⟨b, off, hao, hbw, hs⟩ := hne.out (ne_nil_of_get hx)
      subst hao
      have d0 := (hs.below hb hbw) k x hx
      have hxs := hfit x (List.mem_of_getElem? hx)
      have hst := all_step (p := isN) hx
      rw [HA.out, Bool.true_and] at hst
      cases hp : isN x
      · have HF : Hid (rowNames ⟨n, ss⟩ = false) := by unfold Hid rowNames; simp only [all_take_false hx hp, Bool.and_false]
        have HP : Hid (nameB x.data.toList = false) := hp
        clear hst hp hx hs hne
        go_wp2_with (go_at_call 29; refine (isName_any _ _ hxs).mono ?_; rintro e w' ⟨rfl, rfl⟩; rw [HP.out])
        go_ret
        exact ⟨by rw [HF.out]; rfl, hb⟩
      · rw [hp] at hst
        have HS := hide hst
        have HP : Hid (nameB x.data.toList = true) := hp
        clear hst hp hx hs hne
        go_wp2_with (go_at_call 29; refine (isName_any _ _ hxs).mono ?_; rintro e w' ⟨rfl, rfl⟩; rw [HP.out])
        go_round
        case rel => exact ⟨k + 1, by go_num, by omega, HS.out⟩
        case measure => simp [intOf]; omega
    · have HF : Hid (rowNames ⟨n, ss⟩ = nameB n.data.toList) := by
        have h := HA.out
        rw [List.take_of_length_le (by omega)] at h
        unfold Hid rowNames isN at *
        simp only [h, Bool.and_true]
      go_wp2_with (go_at_call 29; refine (isName_any _ _ hn).mono ?_; rintro e w' ⟨rfl, rfl⟩)
      go_ret
      exact ⟨by rw [HF.out]; rfl, hb⟩

set_option maxHeartbeats 400000 in
theorem width_any (n : ByteArray) (v : Value) (ss : List ByteArray) (w : World) (hlen : ss.length ≤ maxLen) (hv : IsStrs v ss w) (hbound : n.size + 2 + toWidth ss ≤ 1000000000000) :
    Calls Try.prog 27 #[.agg #[.string n, v]] w fun e w' => e = .returned (.int .i64 ((n.size + 2 + toWidth ss : Nat) : Int)) ∧ Below w.heap.size w w' := by
  obtain ⟨ao, cap, rfl, _, _, hne0⟩ := hv
  have hne := hide hne0
  clear hne0
  unfold maxLen at hlen
  go_enter Try.func27, Try.ntmps27
  go_wp2
  have hb : Below w.heap.size w (w.alloc (.cells #[.string n, .slice ao ss.length cap] 38)) := (Below.refl _ _).alloc (Nat.le_refl _) _
  generalize w.alloc (.cells #[.string n, .slice ao ss.length cap] 38) = w1 at hb ⊢
  go_loop [3, 13] (fun s i => ∃ k : Nat, i = .int .i64 k ∧ k ≤ ss.length ∧ s = .int .i64 ((n.size : Int) + 2 + (toWidth (ss.take k) : Int))) (fun _ i => ss.length - (intOf i).toNat)
  case atStart => exact ⟨0, rfl, Nat.zero_le _, by simp [toWidth]⟩
  case round =>
    obtain ⟨k, rfl, hk, rfl⟩ := hrel
    by_cases hlt : k < ss.length
    · obtain ⟨x, hx⟩ : ∃ x, ss[k]? = some x := ⟨_, List.getElem?_eq_getElem hlt⟩
      obtain ⟨b, off, hao, hbw, hs⟩ := hne.out (ne_nil_of_get hx)
      subst hao
      have d0 := (hs.below hb hbw) k x hx
      have hst := toWidth_snoc (ss.take k) x
      rw [← take_next hx] at hst
      have htk := toWidth_take ss (k + 1)
      have HS := hide hst
      have hle : toWidth (ss.take k) + 1 + x.size ≤ toWidth ss := by omega
      clear hst hx hs hne htk
      generalize toWidth (ss.take k) = t at *
      go_wp2
      go_round
      case rel => exact ⟨k + 1, by go_num, by omega, by rw [HS.out]; go_num⟩
      case measure => simp [intOf]; omega
    · have HF : Hid (toWidth (ss.take k) = toWidth ss) := by unfold Hid; rw [List.take_of_length_le (by omega)]
      go_wp2
      go_ret
      exact ⟨ret_int (by rw [HF.out]), hb⟩

end Go.Proofs.Ytiamlbhkiehilaa
