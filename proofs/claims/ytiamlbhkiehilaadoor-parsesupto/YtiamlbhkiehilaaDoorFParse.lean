import Derived.Test.YtiamlbhkiehilaaDoorFact
import Derived.Test.YtiamlbhkiehilaaDoorFMem
namespace Go.Proofs.YtiamlbhkiehilaaDoor
open Go.RowKit Go.Maps

/-- What parseLine answers. -/
def lineR (l : ByteArray) : Fct × Int := if 80 < l.size then (noF, 3) else saidB l

set_option maxRecDepth 100000 in
set_option maxHeartbeats 1000000 in
theorem parseLine_any (s : ByteArray) (w : World) (hs : s.size ≤ 1000000) :
    Calls Tryd.prog 31 #[.string s] w fun e w' => e = .returned (.tuple #[.agg #[.int .i64 (lineR s).1.k, .string (lineR s).1.p, .string (lineR s).1.q], .int .i64 (lineR s).2]) ∧ Below w.heap.size w w' := by
  have g0 := heap_new w (.cells #[.int .i64 0, .string ⟨#[]⟩, .string ⟨#[]⟩] 48)
  have hb0 : Below w.heap.size w (w.alloc (.cells #[.int .i64 0, .string ⟨#[]⟩, .string ⟨#[]⟩] 48)) := (Below.refl _ _).alloc (Nat.le_refl _) _
  by_cases hw : 80 < s.size
  · have HE : Hid (lineR s = (noF, 3)) := by unfold Hid lineR; rw [if_pos hw]
    go_enter Tryd.func31, Tryd.ntmps31
    go_wp2_with fail
    refine bodyPost_ret (v := .tuple #[.agg #[.int .i64 0, .string ⟨#[]⟩, .string ⟨#[]⟩], .int .i64 3]) (by simp [results, Tryd.results31, go_sem]) rfl ⟨by rw [HE.out]; rfl, ?_⟩
    exact (Below.refl _ _).alloc (Nat.le_refl _) _
  · have HE : Hid (lineR s = saidB s) := by unfold Hid lineR; rw [if_neg hw]
    go_enter Tryd.func31, Tryd.ntmps31
    go_wp2_with fail
    generalize w.alloc (.cells #[.int .i64 0, .string ⟨#[]⟩, .string ⟨#[]⟩] 48) = w0 at g0 hb0 ⊢
    have hl0 := lt_of_heap g0
    refine (fact_any s w0 hs).mono ?_
    rintro e w1 ⟨rfl, hb1⟩
    have g1 := Below.heapAt hb1 g0 hl0
    have hB1 : Below w.heap.size w w1 := hb0.trans (hb1.mono hb0.size)
    unfold factRes
    rcases saidB_cases s with ⟨⟨k, p, q⟩, hsd, hp, hq, hk0, hk4⟩ | hsd
    · rw [hsd]
      have HF : Hid (lineR s = (⟨k, p, q⟩, 0)) := HE.out.trans hsd
      have g2 := heap_old g1 (.cells #[.int .i64 k, .string p, .string q] 48)
      obtain ⟨c0, c1, c2, f0, f1, f2⟩ := res_cells g2
      clear HE hsd g1 g2 hb1
      simp only [decide_true]
      go_wp2_with fail
      refine bodyPost_ret (v := .tuple #[.agg #[.int .i64 k, .string p, .string q], .int .i64 0]) (by simp [results, Tryd.results31, go_sem, c0, c1, c2]) rfl ⟨by rw [HF.out], ?_⟩
      exact (((hB1.alloc hB1.size _).setCell (p := ⟨w.heap.size, 0, none⟩) (Nat.le_refl _) _).setCell (p := ⟨w.heap.size, 1, none⟩) (Nat.le_refl _) _).setCell (p := ⟨w.heap.size, 2, none⟩) (Nat.le_refl _) _
    · rw [hsd]
      have HF : Hid (lineR s = (noF, 4)) := HE.out.trans hsd
      have g2 := heap_old g1 (.cells #[.int .i64 0, .string ⟨#[]⟩, .string ⟨#[]⟩] 48)
      obtain ⟨c0, c1, c2, f0, f1, f2⟩ := res_cells g2
      clear HE hsd g1 g2 hb1
      unfold noF noB
      have hd : decide ((4 : Int) = 0) = false := by decide
      simp only [hd]
      go_wp2_with fail
      refine bodyPost_ret (v := .tuple #[.agg #[.int .i64 0, .string ⟨#[]⟩, .string ⟨#[]⟩], .int .i64 4]) (by simp [results, Tryd.results31, go_sem, c0, c1, c2]) rfl ⟨by rw [HF.out]; rfl, ?_⟩
      exact (((hB1.alloc hB1.size _).setCell (p := ⟨w.heap.size, 0, none⟩) (Nat.le_refl _) _).setCell (p := ⟨w.heap.size, 1, none⟩) (Nat.le_refl _) _).setCell (p := ⟨w.heap.size, 2, none⟩) (Nat.le_refl _) _

theorem own_kb {l : List Nat} {w w' : World} {B : Nat} {e : TypeId} {size : Nat} {v : Value} {n : Nat} {xs : List Value} (h : w.ownsRow B e size v n xs) (hk : Kb l w w') (hl : ∀ x ∈ l, x < B) : w'.ownsRow B e size v n xs := by
  refine ⟨h.1, ?_⟩
  rcases h.2 with h | ⟨g, cap, cur, h1, h2, h3, h4⟩
  · exact .inl h
  · exact .inr ⟨g, cap, cur, h1, h2, hk.heap h3 (fun hm => by have := hl g hm; omega), h4⟩

/-- What holds at the head of each round of facts.Parse. -/
structure FPInv (tb bm : Nat) (w3 wr : World) (ls : List ByteArray) (i : Nat) (v : Value) (fs : List Fct) : Prop where
  le : i ≤ ls.length
  eqn : parseGo [] 0 ls = parseGo fs i (ls.drop i)
  cnt : fs.length ≤ 120
  own : wr.ownsRow w3.heap.size 48 3 v fs.length (cellsF fs)
  tal : IsTally tb bm fs.length (2 * fs.length) (keysOf fs) wr
  kb : Kb [tb, bm] w3 wr

theorem IsTally.kb {tb bm n c : Nat} {ks : List Lit} {w w' : World} (h : IsTally tb bm n c ks w) (hk : Kb [] w w') : IsTally tb bm n c ks w' := ⟨hk.heap h.1 (by simp), hk.ownsMap h.2 (by simp)⟩

end Go.Proofs.YtiamlbhkiehilaaDoor
