import Derived.Test.YtiamlbhkiehilaaDoorCRead
namespace Go.Proofs.YtiamlbhkiehilaaDoor
open Go.RowKit Go.Maps

set_option maxRecDepth 100000 in
set_option maxHeartbeats 1000000 in
theorem qread_any (s : ByteArray) (w : World) (m : Int) (hs : s.size ≤ maxLen) (hm : w.cell? ⟨0, 0, none⟩ = some (.int .i64 m)) :
    Calls Tryd.prog 13 #[.string s] w fun e w' => RdRes w w' s e := by
  have g0 := heap_new w (.cells #[.int .i64 0, .int .i64 0] 34)
  have hb0 : Below w.heap.size w (w.alloc (.cells #[.int .i64 0, .int .i64 0] 34)) := (Below.refl _ _).alloc (Nat.le_refl _) _
  have hm0 : (w.alloc (.cells #[.int .i64 0, .int .i64 0] 34)).cell? ⟨0, 0, none⟩ = some (.int .i64 m) := by rw [hb0.cell (World.block_lt_of_cell? _ _ hm)]; exact hm
  go_enter Tryd.func13, Tryd.ntmps13
  go_wp2_with fail
  generalize w.alloc (.cells #[.int .i64 0, .int .i64 0] 34) = w0 at g0 hb0 hm0 ⊢
  have hl0 := lt_of_heap g0
  refine (cread_any s w0 m hs hm0).mono ?_
  rintro e w1 ⟨v, ps, rfl, hps, hown, hb1⟩
  have g1 := Below.heapAt hb1 g0 hl0
  obtain ⟨c0, c1, f0, f1⟩ := err_cells g1
  have hB1 : Below w.heap.size w w1 := hb0.trans (hb1.mono hb0.size)
  generalize hr : readB s = r at hps ⊢
  obtain ⟨fs, k, n⟩ := r
  simp only at hps ⊢
  go_wp2_with fail
  refine bodyPost_ret (v := .tuple #[v, .agg #[.int .i64 k, .int .i64 n]]) (by simp [results, Tryd.results13, go_sem, c0, c1]) rfl ⟨v, ps, by rw [hr], by rw [hr]; exact hps, ?_, ?_⟩
  · exact (((hown.store hl0).store hl0).low (Nat.le_of_lt hl0)).high (by simp [World.setCell])
  · exact (hB1.setCell (p := ⟨w.heap.size, 0, none⟩) (Nat.le_refl _) _).setCell (p := ⟨w.heap.size, 1, none⟩) (Nat.le_refl _) _

end Go.Proofs.YtiamlbhkiehilaaDoor
