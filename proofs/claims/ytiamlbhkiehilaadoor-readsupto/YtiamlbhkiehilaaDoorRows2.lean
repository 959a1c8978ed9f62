import Derived.Test.YtiamlbhkiehilaaDoorRows1
namespace Go.Proofs.YtiamlbhkiehilaaDoor
open Go.RowKit

theorem all_take_false {l : List ByteArray} {p : ByteArray → Bool} {k : Nat} {x : ByteArray} (h : l[k]? = some x) (hx : p x = false) : l.all p = false := by
  rw [List.all_eq_false]
  exact ⟨x, List.mem_of_getElem? h, by simp [hx]⟩
theorem any_take_true {l : List ByteArray} {p : ByteArray → Bool} {k : Nat} {x : ByteArray} (h : l[k]? = some x) (hx : p x = true) : l.any p = true := by
  rw [List.any_eq_true]
  exact ⟨x, List.mem_of_getElem? h, hx⟩
theorem all_step {l : List ByteArray} {p : ByteArray → Bool} {k : Nat} {x : ByteArray} (h : l[k]? = some x) : (l.take (k + 1)).all p = ((l.take k).all p && p x) := by
  rw [take_next h, List.all_append]; simp
theorem any_step {l : List ByteArray} {p : ByteArray → Bool} {k : Nat} {x : ByteArray} (h : l[k]? = some x) : (l.take (k + 1)).any p = ((l.take k).any p || p x) := by
  rw [take_next h, List.any_append]; simp

set_option maxHeartbeats 400000 in
theorem tooLong_any (n : ByteArray) (v : Value) (ss : List ByteArray) (w : World) (hn : n.size ≤ maxLen) (hlen : ss.length ≤ maxLen) (hv : IsStrs v ss w) (hfit : fitsS ss) :
    Calls Tryd.prog 43 #[.agg #[.string n, v]] w fun e w' => e = .returned (.bool (rowLong ⟨n, ss⟩)) ∧ Below w.heap.size w w' := by
  obtain ⟨ao, cap, rfl, _, _, hne0⟩ := hv
  have hne := hide hne0
  clear hne0
  unfold maxLen at hlen hn
  go_enter Tryd.func43, Tryd.ntmps43
  go_wp2
  have hb : Below w.heap.size w (w.alloc (.cells #[.string n, .slice ao ss.length cap] 54)) := (Below.refl _ _).alloc (Nat.le_refl _) _
  have g0 : (w.alloc (.cells #[.string n, .slice ao ss.length cap] 54)).cell? ⟨w.heap.size, 0, none⟩ = some (.string n) := by rw [cell_at (heap_new _ _)]; rfl
  generalize w.alloc (.cells #[.string n, .slice ao ss.length cap] 54) = w1 at hb g0 ⊢
  go_loop [8] (fun i => ∃ k : Nat, i = .int .i64 k ∧ k ≤ ss.length ∧ Hid ((ss.take k).any longS = false)) (fun i => ss.length - (intOf i).toNat)
  case atStart => exact ⟨0, rfl, Nat.zero_le _, rfl⟩
  case round =>
    obtain ⟨k, rfl, hk, HA⟩ := hrel
    by_cases hlt : k < ss.length
    · obtain ⟨x, hx⟩ : ∃ x, ss[k]? = some x := ⟨_, List.getElem?_eq_getElem hlt⟩
      obtain ⟨b, off, hao, hbw, hs⟩ := hne.out (ne_nil_of_get hx)
      subst hao
      have d0 := (hs.below hb hbw) k x hx
      have hxs := hfit x (List.mem_of_getElem? hx)
      unfold maxLen at hxs
      have hst := any_step (p := longS) hx
      rw [HA.out, Bool.false_or] at hst
      by_cases hp : 12 < x.size
      · have HF : Hid (rowLong ⟨n, ss⟩ = true) := by
          unfold Hid rowLong
          simp only [any_take_true hx (show longS x = true by simp [longS, hp]), Bool.or_true]
        clear hst hx hs hne
        go_wp2
        go_ret
        exact ⟨by rw [HF.out]; rfl, hb⟩
      · have HS : Hid ((ss.take (k + 1)).any longS = false) := by unfold Hid; rw [hst]; simp [longS, hp]
        clear hst hx hs hne
        go_wp2
        go_round
        case rel => exact ⟨k + 1, by go_num, by omega, HS.out⟩
        case measure => simp [intOf]; omega
    · have HF : Hid (rowLong ⟨n, ss⟩ = decide (12 < n.size)) := by
        have h := HA.out
        rw [List.take_of_length_le (by omega)] at h
        unfold Hid rowLong longS at *
        simp only [h, Bool.or_false]
      go_wp2
      go_ret
      refine ⟨ret_bool ?_, hb⟩
      rw [HF.out, Bool.eq_iff_iff]
      simp only [decide_eq_true_eq]
      omega

def toWidth : List ByteArray → Nat
  | [] => 0
  | s :: r => 1 + s.size + toWidth r
theorem toWidth_text (l : List ByteArray) : (toText l).length = toWidth l := by
  induction l with
  | nil => rfl
  | cons s r ih =>
    have : s.data.toList.length = s.size := Array.length_toList
    simp only [toText, toWidth, List.cons_append, List.length_cons, List.length_append, ih, this]
    omega
theorem toWidth_snoc (l : List ByteArray) (s : ByteArray) : toWidth (l ++ [s]) = toWidth l + 1 + s.size := by
  induction l with
  | nil => simp [toWidth]
  | cons x r ih => simp [toWidth, ih]; omega
theorem toWidth_take (l : List ByteArray) (k : Nat) : toWidth (l.take k) ≤ toWidth l := by
  induction l generalizing k with
  | nil => simp
  | cons x r ih =>
    cases k with
    | zero => simp [toWidth]
    | succ k => simp only [List.take_succ_cons, toWidth]; have := ih k; omega
theorem rowText_length (r : RowD) : (rowText r).length = r.name.size + 2 + toWidth r.to := by
  have : r.name.data.toList.length = r.name.size := Array.length_toList
  simp only [rowText, List.length_append, List.length_cons, List.length_nil, toWidth_text, this]
  omega


end Go.Proofs.YtiamlbhkiehilaaDoor
