import Derived.Test.YtiamlbhkiehilaaGreatDoorBk03
namespace Go.Proofs.YtiamlbhkiehilaaGreatDoor
open Go.RowKit

theorem all_take_false {l : List ByteArray} {p : ByteArray → Bool} {k : Nat} {x : ByteArray} (h : l[k]? = some x) (hx : p x = false) : l.all p = false := by
  rw [List.all_eq_false]
  exact ⟨x, List.mem_of_getElem? h, by simp [hx]⟩
theorem any_take_true {l : List ByteArray} {p : ByteArray → Bool} {k : Nat} {x : ByteArray} (h : l[k]? = some x) (hx : p x = true) : l.any p = true := by
  rw [List.any_eq_true]
  exact ⟨x, List.mem_of_getElem? h, hx⟩
theorem all_step {l : List ByteArray} {p : ByteArray → Bool} {k : Nat} {x : ByteArray} (h : l[k]? = some x) : (l.take (k + 1)).all p = ((l.take k).all p && p x) := by
  rw [take_next h, List.all_append]; simp
theorem any_step {l : List ByteArray} {p : ByteArray → Bool} {k : Nat} {x : ByteArray} (h : l[k]? = some x) : (l.take (k + 1)).any p = ((l.take k).any p || p x) := by
  rw [take_next h, List.any_append]; simp

set_option maxHeartbeats 400000 in
theorem tooLong_any (n : ByteArray) (v : Value) (ss : List ByteArray) (w : World) (hn : n.size ≤ maxLen) (hlen : ss.length ≤ maxLen) (hv : IsStrs v ss w) (hfit : fitsS ss) :
    Calls Tryz.prog 103 #[.agg #[.string n, v]] w fun e w' => e = .returned (.bool (rowLong ⟨n, ss⟩)) ∧ Below w.heap.size w w' := by
  obtain ⟨ao, cap, rfl, _, _, hne0⟩ := hv
  have hne := hide hne0
  clear hne0
  unfold maxLen at hlen hn
  go_enter Tryz.func103, Tryz.ntmps103
  go_wp2
  have hb : Below w.heap.size w (w.alloc (.cells #[.string n, .slice ao ss.length cap] 51)) := (Below.refl _ _).alloc (Nat.le_refl _) _
  have g0 : (w.alloc (.cells #[.string n, .slice ao ss.length cap] 51)).cell? ⟨w.heap.size, 0, none⟩ = some (.string n) := by rw [cell_at (heap_new _ _)]; rfl
  generalize w.alloc (.cells #[.string n, .slice ao ss.length cap] 51) = w1 at hb g0 ⊢
  go_loop [8] (fun i => ∃ k : Nat, i = .int .i64 k ∧ k ≤ ss.length ∧ Hid ((ss.take k).any longS = false)) (fun i => ss.length - (intOf i).toNat)
  case atStart => exact ⟨0, rfl, Nat.zero_le _, rfl⟩
  case round =>
    obtain ⟨k, rfl, hk, HA⟩ := hrel
    by_cases hlt : k < ss.length
    · obtain ⟨x, hx⟩ : ∃ x, ss[k]? = some x := ⟨_, List.getElem?_eq_getElem hlt⟩
      obtain ⟨b, off, hao, hbw, hs⟩ := hne.out (ne_nil_of_get hx)
      subst hao
      have d0 := (hs.below hb hbw) k x hx
      have hxs := hfit x (List.mem_of_getElem? hx)
      unfold maxLen at hxs
      have hst := any_step (p := longS) hx
      rw [HA.out, Bool.false_or] at hst
      by_cases hp : 12 < x.size
      · have HF : Hid (rowLong ⟨n, ss⟩ = true) := by
          unfold Hid rowLong
          simp only [any_take_true hx (show longS x = true by simp [longS, hp]), Bool.or_true]
        clear hst hx hs hne
        go_wp2
        go_ret
        exact ⟨by rw [HF.out]; rfl, hb⟩
      · have HS : Hid ((ss.take (k + 1)).any longS = false) := by unfold Hid; rw [hst]; simp [longS, hp]
        clear hst hx hs hne
        go_wp2
        go_round
        case rel => exact ⟨k + 1, by go_num, by omega, HS.out⟩
        case measure => simp [intOf]; omega
    · have HF : Hid (rowLong ⟨n, ss⟩ = decide (12 < n.size)) := by
        have h := HA.out
        rw [List.take_of_length_le (by omega)] at h
        unfold Hid rowLong longS at *
        simp only [h, Bool.or_false]
      go_wp2
      go_ret
      refine ⟨ret_bool ?_, hb⟩
      rw [HF.out, Bool.eq_iff_iff]
      simp only [decide_eq_true_eq]
      omega

def toWidth : List ByteArray → Nat
  | [] => 0
  | s :: r => 1 + s.size + toWidth r
theorem toWidth_text (l : List ByteArray) : (toText l).length = toWidth l := by
  induction l with
  | nil => rfl
  | cons s r ih =>
    have : s.data.toList.length = s.size := Array.length_toList
    simp only [toText, toWidth, List.cons_append, List.length_cons, List.length_append, ih, this]
    omega
theorem toWidth_snoc (l : List ByteArray) (s : ByteArray) : toWidth (l ++ [s]) = toWidth l + 1 + s.size := by
  induction l with
  | nil => simp [toWidth]
  | cons x r ih => simp [toWidth, ih]; omega
theorem toWidth_take (l : List ByteArray) (k : Nat) : toWidth (l.take k) ≤ toWidth l := by
  induction l generalizing k with
  | nil => simp
  | cons x r ih =>
    cases k with
    | zero => simp [toWidth]
    | succ k => simp only [List.take_succ_cons, toWidth]; have := ih k; omega
theorem rowText_length (r : RowD) : (rowText r).length = r.name.size + 2 + toWidth r.to := by
  have : r.name.data.toList.length = r.name.size := Array.length_toList
  simp only [rowText, List.length_append, List.length_cons, List.length_nil, toWidth_text, this]
  omega


end Go.Proofs.YtiamlbhkiehilaaGreatDoor

namespace Go.Proofs.YtiamlbhkiehilaaGreatDoor
open Go.RowKit

def chk (formed : Bool) (r : RowD) (ahead : ByteArray) : Int := if formed && ascB r.to then (if rowLong r then 5 else if leqS r.name ahead then 4 else 0) else 4
theorem rowErr_chk (r : RowD) (ahead : ByteArray) : rowErr r ahead = chk (rowNames r) r ahead := rfl

set_option maxHeartbeats 400000 in
theorem check_any (n : ByteArray) (v : Value) (ss : List ByteArray) (formed : Bool) (ahead : ByteArray) (w : World) (hn : n.size ≤ maxLen) (hlen : ss.length ≤ maxLen) (hv : IsStrs v ss w) (hfit : fitsS ss) :
    Calls Tryz.prog 71 #[.agg #[.string n, v], .bool formed, .string ahead] w fun e w' => e = .returned (.int .i64 (chk formed ⟨n, ss⟩ ahead)) ∧ Below w.heap.size w w' := by
  have hv0 := hide hv
  obtain ⟨ao, cap, hve, _⟩ := hv
  subst hve
  have hb : Below w.heap.size w (w.alloc (.cells #[.string n, .slice ao ss.length cap] 51)) := (Below.refl _ _).alloc (Nat.le_refl _) _
  cases formed
  · have HF : Hid (chk false ⟨n, ss⟩ ahead = 4) := by simp [chk, Hid]
    go_enter Tryz.func71, Tryz.ntmps71
    go_wp2
    go_ret
    exact ⟨by rw [HF.out]; rfl, hb⟩
  · have HV1 := hide (hv0.out.below hb)
    cases ho : ascB ss
    · have HF : Hid (chk true ⟨n, ss⟩ ahead = 4) := by simp [chk, Hid, ho]
      have HO := hide ho
      clear ho
      go_enter Tryz.func71, Tryz.ntmps71
      go_wp2_with fail
      refine (inOrder_any _ ss _ hlen HV1.out).mono ?_
      rintro e w2 ⟨rfl, hb2⟩
      rw [HO.out]
      have hbl := hb.trans (hb2.mono hb.size)
      clear hb2
      go_wp2
      go_ret
      exact ⟨by rw [HF.out]; rfl, hbl⟩
    · have HO := hide ho
      cases hl : rowLong ⟨n, ss⟩
      · have HF : Hid (chk true ⟨n, ss⟩ ahead = if leqS n ahead then 4 else 0) := by simp [chk, Hid, ho, hl]
        have HL := hide hl
        clear ho hl
        go_enter Tryz.func71, Tryz.ntmps71
        go_wp2_with fail
        refine (inOrder_any _ ss _ hlen HV1.out).mono ?_
        rintro e w2 ⟨rfl, hb2⟩
        rw [HO.out]
        have g0 := Below.heapAt hb2 (heap_new w (.cells #[.string n, .slice ao ss.length cap] 51)) (by simp)
        have c0 : w2.cell? ⟨w.heap.size, 0, none⟩ = some (.string n) := by rw [cell_at g0]; rfl
        have c1 : w2.cell? ⟨w.heap.size, 1, none⟩ = some (.slice ao ss.length cap) := by rw [cell_at g0]; rfl
        have HV2 := hide (HV1.out.below hb2)
        have hbl := hb.trans (hb2.mono hb.size)
        clear hb2
        go_wp2_with fail
        refine (tooLong_any n _ ss _ hn hlen HV2.out hfit).mono ?_
        rintro e w3 ⟨rfl, hb3⟩
        rw [HL.out]
        have g1 := Below.heapAt hb3 g0 (lt_of_heap g0)
        have e0 : w3.cell? ⟨w.heap.size, 0, none⟩ = some (.string n) := by rw [cell_at g1]; rfl
        have hbl3 := hbl.trans (hb3.mono hbl.size)
        clear hb3 g0 g1 c0 c1
        cases hq : leqS n ahead
        · have hq' : (Op.bytesLess n.toList ahead.toList || n.toList == ahead.toList) = false := hq
          have HQ := hide hq
          clear hq
          go_wp2
          go_ret
          exact ⟨by rw [HF.out, HQ.out]; rfl, hbl3⟩
        · have hq' : (Op.bytesLess n.toList ahead.toList || n.toList == ahead.toList) = true := hq
          have HQ := hide hq
          clear hq
          go_wp2
          go_ret
          exact ⟨by rw [HF.out, HQ.out]; rfl, hbl3⟩
      · have HF : Hid (chk true ⟨n, ss⟩ ahead = 5) := by simp [chk, Hid, ho, hl]
        have HL := hide hl
        clear ho hl
        go_enter Tryz.func71, Tryz.ntmps71
        go_wp2_with fail
        refine (inOrder_any _ ss _ hlen HV1.out).mono ?_
        rintro e w2 ⟨rfl, hb2⟩
        rw [HO.out]
        have g0 := Below.heapAt hb2 (heap_new w (.cells #[.string n, .slice ao ss.length cap] 51)) (by simp)
        have c0 : w2.cell? ⟨w.heap.size, 0, none⟩ = some (.string n) := by rw [cell_at g0]; rfl
        have c1 : w2.cell? ⟨w.heap.size, 1, none⟩ = some (.slice ao ss.length cap) := by rw [cell_at g0]; rfl
        have HV2 := hide (HV1.out.below hb2)
        have hbl := hb.trans (hb2.mono hb.size)
        clear hb2
        go_wp2_with fail
        refine (tooLong_any n _ ss _ hn hlen HV2.out hfit).mono ?_
        rintro e w3 ⟨rfl, hb3⟩
        rw [HL.out]
        have hbl3 := hbl.trans (hb3.mono hbl.size)
        clear hb3 g0 c0 c1
        go_wp2
        go_ret
        exact ⟨by rw [HF.out]; rfl, hbl3⟩

/-- Rows in a row of memory. -/
def RowsAt (b off : Nat) (rs : List RowD) (w : World) : Prop :=
  ∀ i n to, rs[i]? = some ⟨n, to⟩ → w.cell? ⟨b, off + i * 2, none⟩ = some (.string n) ∧ ∃ tv, w.cell? ⟨b, off + i * 2 + 1, none⟩ = some tv ∧ IsStrs tv to w

theorem RowsAt.below {b off : Nat} {rs : List RowD} {w w' : World} (h : RowsAt b off rs w) (hb : Below w.heap.size w w') (hlt : b < w.heap.size) : RowsAt b off rs w' := by
  intro i n to hi
  obtain ⟨h1, tv, h2, h3⟩ := h i n to hi
  exact ⟨(hb.cell (p := ⟨b, _, none⟩) hlt).trans h1, tv, (hb.cell (p := ⟨b, _, none⟩) hlt).trans h2, h3.below hb⟩

/-- A slice of rows. -/
def IsRows (v : Value) (rs : List RowD) (w : World) : Prop :=
  ∃ ao cap, v = .slice ao rs.length cap ∧ rs.length ≤ cap ∧ (ao = none → cap = 0) ∧ (rs ≠ [] → ∃ b off, ao = some ⟨b, off, none⟩ ∧ b < w.heap.size ∧ RowsAt b off rs w)

theorem IsRows.below {v : Value} {rs : List RowD} {w w' : World} (h : IsRows v rs w) (hb : Below w.heap.size w w') : IsRows v rs w' := by
  obtain ⟨ao, cap, rfl, hc, hn, h⟩ := h
  refine ⟨ao, cap, rfl, hc, hn, fun hne => ?_⟩
  obtain ⟨b, off, rfl, hlt, hf⟩ := h hne
  exact ⟨b, off, rfl, Nat.lt_of_lt_of_le hlt hb.size, hf.below hb hlt⟩

def fitsR (rs : List RowD) : Prop := ∀ r ∈ rs, r.name.size ≤ maxLen ∧ r.to.length ≤ maxLen ∧ fitsS r.to

end Go.Proofs.YtiamlbhkiehilaaGreatDoor
