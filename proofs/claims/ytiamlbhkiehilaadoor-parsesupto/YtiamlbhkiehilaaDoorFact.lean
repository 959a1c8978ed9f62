import Derived.Test.YtiamlbhkiehilaaDoorPieces
import Derived.Test.YtiamlbhkiehilaaDoorKind
namespace Go.Proofs.YtiamlbhkiehilaaDoor
open Go.RowKit Go.Maps

/-- What cut.Fact answers. -/
def factRes (s : ByteArray) : Value := .tuple #[.agg #[.int .i64 (saidB s).1.k, .string (saidB s).1.p, .string (saidB s).1.q], .bool (decide ((saidB s).2 = 0))]

set_option maxRecDepth 100000 in
set_option maxHeartbeats 1000000 in
theorem fact_any (s : ByteArray) (w : World) (hs : s.size ≤ 1000000) :
    Calls Tryd.prog 38 #[.string s] w fun e w' => e = .returned (factRes s) ∧ Below w.heap.size w w' := by
  have g0 := heap_new w (.cells #[.int .i64 0, .string ⟨#[]⟩, .string ⟨#[]⟩] 48)
  have hb0 : Below w.heap.size w (w.alloc (.cells #[.int .i64 0, .string ⟨#[]⟩, .string ⟨#[]⟩] 48)) := (Below.refl _ _).alloc (Nat.le_refl _) _
  go_enter Tryd.func38, Tryd.ntmps38
  go_wp2_with fail
  generalize w.alloc (.cells #[.int .i64 0, .string ⟨#[]⟩, .string ⟨#[]⟩] 48) = w0 at g0 hb0 ⊢
  have hl0 := lt_of_heap g0
  refine (pieces_any s w0 hs).mono ?_
  rintro e w1 (⟨hn, rfl, hb1⟩ | ⟨v, ws, hsm, hwd, hln, rfl, hown, hb1⟩)
  · have HE : Hid (factRes s = .tuple #[.agg #[.int .i64 0, .string ⟨#[]⟩, .string ⟨#[]⟩], .bool false]) := by unfold Hid factRes; rw [saidB_none hn]; rfl
    have g1 := Below.heapAt hb1 g0 hl0
    obtain ⟨c0, c1, c2, f0, f1, f2⟩ := res_cells g1
    go_wp2_with fail
    refine bodyPost_ret (v := .tuple #[.agg #[.int .i64 0, .string ⟨#[]⟩, .string ⟨#[]⟩], .bool false]) (by simp [results, Tryd.results38, go_sem, c0, c1, c2]) rfl ⟨by rw [HE.out], ?_⟩
    exact (((hb0.trans (hb1.mono hb0.size)).setCell (p := ⟨w.heap.size, 0, none⟩) (Nat.le_refl _) _).setCell (p := ⟨w.heap.size, 1, none⟩) (Nat.le_refl _) _).setCell (p := ⟨w.heap.size, 2, none⟩) (Nat.le_refl _) _
  · obtain ⟨hk, h2⟩ := said_kind ws hwd
    have hsd : saidB s = saidK ws := (saidB_some hsm).trans hk
    have g1 := Below.heapAt hb1 g0 hl0
    have hB1 : Below w.heap.size w w1 := hb0.trans (hb1.mono hb0.size)
    obtain ⟨c0, c1, c2, f0, f1, f2⟩ := res_cells g1
    have hkr := kindS_range (shapeL ws)
    go_wp2_with fail
    refine (kindOf_any (shapeL ws) w1).mono ?_
    rintro e w2 ⟨rfl, rfl⟩
    unfold saidK at hsd
    generalize kindS (shapeL ws) = kk at *
    obtain ⟨k, ok⟩ := kk
    simp only at hsd h2 hkr ⊢
    cases ok
    · have HE : Hid (factRes s = .tuple #[.agg #[.int .i64 0, .string ⟨#[]⟩, .string ⟨#[]⟩], .bool false]) := by unfold Hid factRes; rw [hsd]; rfl
      clear hsd hk hsm hwd h2
      go_wp2_with fail
      refine bodyPost_ret (v := .tuple #[.agg #[.int .i64 0, .string ⟨#[]⟩, .string ⟨#[]⟩], .bool false]) (by simp [results, Tryd.results38, go_sem, c0, c1, c2]) rfl ⟨by rw [HE.out], ?_⟩
      exact ((hB1.setCell (p := ⟨w.heap.size, 0, none⟩) (Nat.le_refl _) _).setCell (p := ⟨w.heap.size, 1, none⟩) (Nat.le_refl _) _).setCell (p := ⟨w.heap.size, 2, none⟩) (Nat.le_refl _) _
    · by_cases hkz : k = 0
      · subst hkz
        have HE : Hid (factRes s = .tuple #[.agg #[.int .i64 0, .string ⟨#[]⟩, .string ⟨#[]⟩], .bool true]) := by unfold Hid factRes; rw [hsd]; rfl
        clear hsd hk hsm hwd h2
        go_wp2_with fail
        refine bodyPost_ret (v := .tuple #[.agg #[.int .i64 0, .string ⟨#[]⟩, .string ⟨#[]⟩], .bool true]) (by simp [results, Tryd.results38, go_sem, c0, c1, c2]) rfl ⟨by rw [HE.out], ?_⟩
        exact ((hB1.setCell (p := ⟨w.heap.size, 0, none⟩) (Nat.le_refl _) _).setCell (p := ⟨w.heap.size, 1, none⟩) (Nat.le_refl _) _).setCell (p := ⟨w.heap.size, 2, none⟩) (Nat.le_refl _) _
      · have hkb : (k == 0) = false := beq_false_of_ne hkz
        have hl2 := h2 hkz
        obtain ⟨n0, n1, hn⟩ : ∃ n0 n1, nmsL ws = [n0, n1] := by
          match hm : nmsL ws, hl2 with
          | [n0, n1], _ => exact ⟨n0, n1, rfl⟩
        have HE : Hid (factRes s = .tuple #[.agg #[.int .i64 k, .string n0, .string n1], .bool true]) := by
          unfold Hid factRes
          rw [hsd, hn]
          simp [hkz]
        rw [hn] at hown
        obtain ⟨g', cap', rfl, hnc', hgl', hgB', hrd'⟩ := row_reads (ss := [n0, n1]) hown (by simp)
        have d0 := hrd' 0 n0 rfl
        have d1 := hrd' 1 n1 rfl
        clear hrd' hown hsd hk hsm hwd h2 hl2 hn
        go_wp2_with fail
        go_region
        go_wp2
        refine bodyPost_ret (v := .tuple #[.agg #[.int .i64 k, .string n0, .string n1], .bool true]) (by simp [results, Tryd.results38, go_sem, c0, c1, c2]) rfl ⟨by rw [HE.out], ?_⟩
        exact ((hB1.drew.setCell (p := ⟨w.heap.size, 0, none⟩) (Nat.le_refl _) _).setCell (p := ⟨w.heap.size, 1, none⟩) (Nat.le_refl _) _).setCell (p := ⟨w.heap.size, 2, none⟩) (Nat.le_refl _) _

end Go.Proofs.YtiamlbhkiehilaaDoor
