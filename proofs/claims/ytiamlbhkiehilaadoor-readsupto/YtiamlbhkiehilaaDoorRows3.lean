import Derived.Test.YtiamlbhkiehilaaDoorRows2
namespace Go.Proofs.YtiamlbhkiehilaaDoor
open Go.RowKit

def chk (formed : Bool) (r : RowD) (ahead : ByteArray) : Int := if formed && ascB r.to then (if rowLong r then 5 else if leqS r.name ahead then 4 else 0) else 4
theorem rowErr_chk (r : RowD) (ahead : ByteArray) : rowErr r ahead = chk (rowNames r) r ahead := rfl

set_option maxHeartbeats 400000 in
theorem check_any (n : ByteArray) (v : Value) (ss : List ByteArray) (formed : Bool) (ahead : ByteArray) (w : World) (hn : n.size ≤ maxLen) (hlen : ss.length ≤ maxLen) (hv : IsStrs v ss w) (hfit : fitsS ss) :
    Calls Tryd.prog 34 #[.agg #[.string n, v], .bool formed, .string ahead] w fun e w' => e = .returned (.int .i64 (chk formed ⟨n, ss⟩ ahead)) ∧ Below w.heap.size w w' := by
  have hv0 := hide hv
  obtain ⟨ao, cap, hve, _⟩ := hv
  subst hve
  have hb : Below w.heap.size w (w.alloc (.cells #[.string n, .slice ao ss.length cap] 54)) := (Below.refl _ _).alloc (Nat.le_refl _) _
  cases formed
  · have HF : Hid (chk false ⟨n, ss⟩ ahead = 4) := by simp [chk, Hid]
    go_enter Tryd.func34, Tryd.ntmps34
    go_wp2
    go_ret
    exact ⟨by rw [HF.out]; rfl, hb⟩
  · have HV1 := hide (hv0.out.below hb)
    cases ho : ascB ss
    · have HF : Hid (chk true ⟨n, ss⟩ ahead = 4) := by simp [chk, Hid, ho]
      have HO := hide ho
      clear ho
      go_enter Tryd.func34, Tryd.ntmps34
      go_wp2_with fail
      refine (inOrder_any _ ss _ hlen HV1.out).mono ?_
      rintro e w2 ⟨rfl, hb2⟩
      rw [HO.out]
      have hbl := hb.trans (hb2.mono hb.size)
      clear hb2
      go_wp2
      go_ret
      exact ⟨by rw [HF.out]; rfl, hbl⟩
    · have HO := hide ho
      cases hl : rowLong ⟨n, ss⟩
      · have HF : Hid (chk true ⟨n, ss⟩ ahead = if leqS n ahead then 4 else 0) := by simp [chk, Hid, ho, hl]
        have HL := hide hl
        clear ho hl
        go_enter Tryd.func34, Tryd.ntmps34
        go_wp2_with fail
        refine (inOrder_any _ ss _ hlen HV1.out).mono ?_
        rintro e w2 ⟨rfl, hb2⟩
        rw [HO.out]
        have g0 := Below.heapAt hb2 (heap_new w (.cells #[.string n, .slice ao ss.length cap] 54)) (by simp)
        have c0 : w2.cell? ⟨w.heap.size, 0, none⟩ = some (.string n) := by rw [cell_at g0]; rfl
        have c1 : w2.cell? ⟨w.heap.size, 1, none⟩ = some (.slice ao ss.length cap) := by rw [cell_at g0]; rfl
        have HV2 := hide (HV1.out.below hb2)
        have hbl := hb.trans (hb2.mono hb.size)
        clear hb2
        go_wp2_with fail
        refine (tooLong_any n _ ss _ hn hlen HV2.out hfit).mono ?_
        rintro e w3 ⟨rfl, hb3⟩
        rw [HL.out]
        have g1 := Below.heapAt hb3 g0 (lt_of_heap g0)
        have e0 : w3.cell? ⟨w.heap.size, 0, none⟩ = some (.string n) := by rw [cell_at g1]; rfl
        have hbl3 := hbl.trans (hb3.mono hbl.size)
        clear hb3 g0 g1 c0 c1
        cases hq : leqS n ahead
        · have hq' : (Op.bytesLess n.toList ahead.toList || n.toList == ahead.toList) = false := hq
          have HQ := hide hq
          clear hq
          go_wp2
          go_ret
          exact ⟨by rw [HF.out, HQ.out]; rfl, hbl3⟩
        · have hq' : (Op.bytesLess n.toList ahead.toList || n.toList == ahead.toList) = true := hq
          have HQ := hide hq
          clear hq
          go_wp2
          go_ret
          exact ⟨by rw [HF.out, HQ.out]; rfl, hbl3⟩
      · have HF : Hid (chk true ⟨n, ss⟩ ahead = 5) := by simp [chk, Hid, ho, hl]
        have HL := hide hl
        clear ho hl
        go_enter Tryd.func34, Tryd.ntmps34
        go_wp2_with fail
        refine (inOrder_any _ ss _ hlen HV1.out).mono ?_
        rintro e w2 ⟨rfl, hb2⟩
        rw [HO.out]
        have g0 := Below.heapAt hb2 (heap_new w (.cells #[.string n, .slice ao ss.length cap] 54)) (by simp)
        have c0 : w2.cell? ⟨w.heap.size, 0, none⟩ = some (.string n) := by rw [cell_at g0]; rfl
        have c1 : w2.cell? ⟨w.heap.size, 1, none⟩ = some (.slice ao ss.length cap) := by rw [cell_at g0]; rfl
        have HV2 := hide (HV1.out.below hb2)
        have hbl := hb.trans (hb2.mono hb.size)
        clear hb2
        go_wp2_with fail
        refine (tooLong_any n _ ss _ hn hlen HV2.out hfit).mono ?_
        rintro e w3 ⟨rfl, hb3⟩
        rw [HL.out]
        have hbl3 := hbl.trans (hb3.mono hbl.size)
        clear hb3 g0 c0 c1
        go_wp2
        go_ret
        exact ⟨by rw [HF.out]; rfl, hbl3⟩

/-- Rows in a row of memory. -/
def RowsAt (b off : Nat) (rs : List RowD) (w : World) : Prop :=
  ∀ i n to, rs[i]? = some ⟨n, to⟩ → w.cell? ⟨b, off + i * 2, none⟩ = some (.string n) ∧ ∃ tv, w.cell? ⟨b, off + i * 2 + 1, none⟩ = some tv ∧ IsStrs tv to w

theorem RowsAt.below {b off : Nat} {rs : List RowD} {w w' : World} (h : RowsAt b off rs w) (hb : Below w.heap.size w w') (hlt : b < w.heap.size) : RowsAt b off rs w' := by
  intro i n to hi
  obtain ⟨h1, tv, h2, h3⟩ := h i n to hi
  exact ⟨(hb.cell (p := ⟨b, _, none⟩) hlt).trans h1, tv, (hb.cell (p := ⟨b, _, none⟩) hlt).trans h2, h3.below hb⟩

/-- A slice of rows. -/
def IsRows (v : Value) (rs : List RowD) (w : World) : Prop :=
  ∃ ao cap, v = .slice ao rs.length cap ∧ rs.length ≤ cap ∧ (ao = none → cap = 0) ∧ (rs ≠ [] → ∃ b off, ao = some ⟨b, off, none⟩ ∧ b < w.heap.size ∧ RowsAt b off rs w)

theorem IsRows.below {v : Value} {rs : List RowD} {w w' : World} (h : IsRows v rs w) (hb : Below w.heap.size w w') : IsRows v rs w' := by
  obtain ⟨ao, cap, rfl, hc, hn, h⟩ := h
  refine ⟨ao, cap, rfl, hc, hn, fun hne => ?_⟩
  obtain ⟨b, off, rfl, hlt, hf⟩ := h hne
  exact ⟨b, off, rfl, Nat.lt_of_lt_of_le hlt hb.size, hf.below hb hlt⟩

def fitsR (rs : List RowD) : Prop := ∀ r ∈ rs, r.name.size ≤ maxLen ∧ r.to.length ≤ maxLen ∧ fitsS r.to

end Go.Proofs.YtiamlbhkiehilaaDoor
