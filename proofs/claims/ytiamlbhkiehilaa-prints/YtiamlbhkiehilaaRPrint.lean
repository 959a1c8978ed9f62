import Derived.Test.YtiamlbhkiehilaaFPrint
import Derived.Test.YtiamlbhkiehilaaAdded
import Derived.Deep.RegionWith
namespace Go.Proofs.Ytiamlbhkiehilaa
open Go.RowKit Go.Maps

/-- What holds at the head of each round of the document's Print. -/
structure RInv (w wr : World) (fs : List Fct) (n : Nat) (acc : ByteArray) : Prop where
  le : n ≤ fs.length
  few : n ≤ 120
  short : acc.size ≤ 29 * n
  rest : printGo (fs.take n) (fs.drop n) acc.data.toList = printGo [] fs []
  res : wr.heap[w.heap.size]? = some (.cells #[.int .i64 0, .int .i64 0] 28 (0, 0))
  blw : Below w.heap.size w wr

/-- A slice's capacity. -/
def capOf : Value → Nat
  | .slice _ _ c => c
  | _ => 0

theorem factB_no {k : Int} {p q : ByteArray} (hB : factB k p q = false) : nameB p.data.toList = false ∨ (nameB p.data.toList = true ∧ nameB q.data.toList = false) ∨ (nameB p.data.toList = true ∧ nameB q.data.toList = true ∧ k < 1) ∨ (nameB p.data.toList = true ∧ nameB q.data.toList = true ∧ 1 ≤ k ∧ 4 < k) := by
  unfold factB at hB
  cases h1 : nameB p.data.toList
  · exact .inl rfl
  · cases h2 : nameB q.data.toList
    · exact .inr (.inl ⟨rfl, rfl⟩)
    · simp [h1, h2] at hB
      by_cases h3 : k < 1
      · exact .inr (.inr (.inl ⟨rfl, rfl, h3⟩))
      · exact .inr (.inr (.inr ⟨rfl, rfl, by omega, hB (by omega)⟩))

theorem factB_yes {k : Int} {p q : ByteArray} (hB : factB k p q = true) : nameB p.data.toList = true ∧ nameB q.data.toList = true ∧ 1 ≤ k ∧ k ≤ 4 := by
  simp only [factB, Bool.and_eq_true, decide_eq_true_eq] at hB
  exact ⟨hB.2.1, hB.2.2, hB.1.1, hB.1.2⟩

theorem RInv.next {w wr w4 : World} {fs : List Fct} {n : Nat} {acc : ByteArray} {k : Int} {p q : ByteArray} (h : RInv w wr fs n acc) (hf : fs[n]? = some ⟨k, p, q⟩) (hB : factB k p q = true) (he : errOf (fs.take n) ⟨k, p, q⟩ = 0)
    (hres : w4.heap[w.heap.size]? = some (.cells #[.int .i64 0, .int .i64 0] 28 (0, 0))) (hbl : Below w.heap.size w w4) (acc' : ByteArray) (ha : acc' = acc ++ lineB k p q) (w5 : World) (hb : Below w4.heap.size w4 w5) : RInv w w5 fs (n + 1) acc' := by
  have hlt := lt_of_getElem? hf
  have hnl : (fs.take n).length = n := by rw [List.length_take]; omega
  obtain ⟨s1, s2, s3⟩ := errOf_zero he
  rw [hnl] at s3
  simp only at s1 s2
  have hlw := lt_of_heap hres
  subst ha
  refine ⟨hlt, s3, ?_, ?_, Below.heapAt hb hres hlw, hbl.trans (hb.mono (by omega))⟩
  · have h1 := lineB_size k p q
    have h3 := h.short
    rw [ByteArray.size_append]
    omega
  · have e := h.rest
    rw [drop_here hf, printGo_ok (f := ⟨k, p, q⟩) hB he, ← take_next hf] at e
    rw [← e]
    simp

theorem line1 (acc p q : ByteArray) : acc ++ ⟨#[]⟩ ++ p ++ ⟨#[32, 61, 32]⟩ ++ ⟨#[38]⟩ ++ q ++ ⟨#[10]⟩ = acc ++ lineB 1 p q := bytes_inj (by simp [lineB])
theorem line2 (acc p q : ByteArray) : acc ++ ⟨#[]⟩ ++ p ++ ⟨#[32, 61, 32]⟩ ++ ⟨#[]⟩ ++ q ++ ⟨#[10]⟩ = acc ++ lineB 2 p q := bytes_inj (by simp [lineB])
theorem line3 (acc p q : ByteArray) : acc ++ ⟨#[]⟩ ++ p ++ ⟨#[32, 61, 32]⟩ ++ ⟨#[42]⟩ ++ q ++ ⟨#[10]⟩ = acc ++ lineB 3 p q := bytes_inj (by simp [lineB])
theorem line4 (acc p q : ByteArray) : acc ++ ⟨#[42]⟩ ++ p ++ ⟨#[32, 61, 32]⟩ ++ ⟨#[]⟩ ++ q ++ ⟨#[10]⟩ = acc ++ lineB 4 p q := bytes_inj (by simp [lineB])

theorem FactsAt.take {b off : Nat} {fs : List Fct} {w : World} (h : FactsAt b off fs w) (n : Nat) : FactsAt b off (fs.take n) w := by
  intro i k p q hi
  refine h i k p q ?_
  rw [List.getElem?_take] at hi
  split at hi
  · exact hi
  · simp at hi

set_option maxHeartbeats 4000000 in
set_option maxRecDepth 100000 in
theorem rprint_some (b off cap : Nat) (fs : List Fct) (w : World) (hlen : fs.length ≤ maxLen) (hc : fs.length ≤ cap) (hcm : cap ≤ maxLen) (hf : FactsAt b off fs w) (hb : b < w.heap.size) (hfit : fitsF fs) :
    Calls Try.prog 6 #[.slice (some ⟨b, off, none⟩) fs.length cap] w fun e w' => e = .returned (.tuple #[.string ⟨(printGo [] fs []).1.toArray⟩, .agg #[.int .i64 (printGo [] fs []).2.1, .int .i64 (printGo [] fs []).2.2]]) ∧ Below w.heap.size w w' := by
  have hlen0 := hlen
  unfold maxLen at hlen hcm
  go_enter Try.func6, Try.ntmps6
  go_wp2_with fail
  go_loopw [4, 5] (fun s i wr => ∃ n acc, i = .int .i64 (n : Nat) ∧ s = .string acc ∧ RInv w wr fs n acc) (fun _ i _ => fs.length - (intOf i).toNat)
  case atStart => exact ⟨0, ByteArray.empty, rfl, rfl, Nat.zero_le _, Nat.zero_le _, Nat.le_refl _, rfl, heap_new _ _, (Below.refl _ _).alloc (Nat.le_refl _) _⟩
  case round =>
    obtain ⟨n, acc, rfl, rfl, hi⟩ := hrel
    have hbl := hi.blw
    have hres := hi.res
    have hsz := lt_of_heap hres
    by_cases hlt : n < fs.length
    · obtain ⟨⟨k, p, q⟩, hfn⟩ : ∃ f, fs[n]? = some f := ⟨_, List.getElem?_eq_getElem hlt⟩
      have HF : Hid (fs[n]? = some ⟨k, p, q⟩) := hfn
      obtain ⟨d0, d1, d2⟩ := (hf.below hi.blw hb) n k p q hfn
      obtain ⟨hp, hq⟩ := hfit _ (List.mem_of_getElem? hfn)
      simp only at hp hq
      clear hfn
      have hnl : (fs.take n).length = n := by rw [List.length_take]; omega
      have HNL := hide hnl
      clear hnl
      cases hB : factB k p q
      · have HE : Hid (printGo [] fs [] = ([], 4, (n : Int) + 1)) := by
          have e := hi.rest
          rw [drop_here HF.out, printGo_form (f := ⟨k, p, q⟩) hB, HNL.out] at e
          exact e.symm
        have hno := factB_no hB
        clear hB hi
        rcases hno with h1 | ⟨h1, h2⟩ | ⟨h1, h2, h3⟩ | ⟨h1, h2, h3, h4⟩
        · have H1 := hide h1
          clear h1
          cases h2 : nameB q.data.toList
          all_goals
            have H2 := hide h2
            clear h2
            go_wp2_with fail
            refine (name_any _ _ hp).mono ?_
            rintro e w2 ⟨rfl, rfl⟩
            rw [H1.out]
            go_wp2_with fail
            refine (name_any _ _ hq).mono ?_
            rintro e w3 ⟨rfl, rfl⟩
            rw [H2.out]
            have hk1 := (Kb.refl [] wr).alloc (.cells #[.int .i64 k, .string p, .string q] 25)
            have g0 := heap_new wr (.cells #[.int .i64 k, .string p, .string q] 25)
            generalize wr.alloc (.cells #[.int .i64 k, .string p, .string q] 25) = w2 at hk1 g0 ⊢
            have hres2 := hk1.heap hres (by simp)
            have hbl2 := hbl.trans (hk1.below (B := w.heap.size) (by omega) (by simp))
            have g1 : w2.cell? ⟨wr.heap.size, 0, none⟩ = some (.int .i64 k) := by rw [cell_at g0]; rfl
            have g2 : w2.cell? ⟨wr.heap.size, 1, none⟩ = some (.string p) := by rw [cell_at g0]; rfl
            have g3 : w2.cell? ⟨wr.heap.size, 2, none⟩ = some (.string q) := by rw [cell_at g0]; rfl
            have r0 : w2.cell? ⟨w.heap.size, 0, none⟩ = some (.int .i64 0) := by rw [cell_at hres2]; rfl
            have r1 : w2.cell? ⟨w.heap.size, 1, none⟩ = some (.int .i64 0) := by rw [cell_at hres2]; rfl
            have r2 : w2.frozen? ⟨w.heap.size, 0, none⟩ = false := frozen_at hres2 _
            have r3 : w2.frozen? ⟨w.heap.size, 1, none⟩ = false := frozen_at hres2 _
            clear g0 hk1 hres2 hres d0 d1 d2
            go_wp2
            refine bodyPost_ret (v := .tuple #[.string ⟨#[]⟩, .agg #[.int .i64 4, .int .i64 ((n : Int) + 1)]]) (by simp [results, Try.results6, go_sem, r0, r1]) rfl ⟨by rw [HE.out], ?_⟩
            exact (hbl2.setCell (p := ⟨w.heap.size, 0, none⟩) (Nat.le_refl _) _).setCell (p := ⟨w.heap.size, 1, none⟩) (Nat.le_refl _) _
        all_goals
          have H1 := hide h1
          have H2 := hide h2
          clear h1 h2
          go_wp2_with fail
          refine (name_any _ _ hp).mono ?_
          rintro e w2 ⟨rfl, rfl⟩
          rw [H1.out]
          go_wp2_with fail
          refine (name_any _ _ hq).mono ?_
          rintro e w3 ⟨rfl, rfl⟩
          rw [H2.out]
          have hk1 := (Kb.refl [] wr).alloc (.cells #[.int .i64 k, .string p, .string q] 25)
          have g0 := heap_new wr (.cells #[.int .i64 k, .string p, .string q] 25)
          generalize wr.alloc (.cells #[.int .i64 k, .string p, .string q] 25) = w2 at hk1 g0 ⊢
          have hres2 := hk1.heap hres (by simp)
          have hbl2 := hbl.trans (hk1.below (B := w.heap.size) (by omega) (by simp))
          have g1 : w2.cell? ⟨wr.heap.size, 0, none⟩ = some (.int .i64 k) := by rw [cell_at g0]; rfl
          have g2 : w2.cell? ⟨wr.heap.size, 1, none⟩ = some (.string p) := by rw [cell_at g0]; rfl
          have g3 : w2.cell? ⟨wr.heap.size, 2, none⟩ = some (.string q) := by rw [cell_at g0]; rfl
          have r0 : w2.cell? ⟨w.heap.size, 0, none⟩ = some (.int .i64 0) := by rw [cell_at hres2]; rfl
          have r1 : w2.cell? ⟨w.heap.size, 1, none⟩ = some (.int .i64 0) := by rw [cell_at hres2]; rfl
          have r2 : w2.frozen? ⟨w.heap.size, 0, none⟩ = false := frozen_at hres2 _
          have r3 : w2.frozen? ⟨w.heap.size, 1, none⟩ = false := frozen_at hres2 _
          clear g0 hk1 hres2 hres d0 d1 d2
          go_wp2
          refine bodyPost_ret (v := .tuple #[.string ⟨#[]⟩, .agg #[.int .i64 4, .int .i64 ((n : Int) + 1)]]) (by simp [results, Try.results6, go_sem, r0, r1]) rfl ⟨by rw [HE.out], ?_⟩
          exact (hbl2.setCell (p := ⟨w.heap.size, 0, none⟩) (Nat.le_refl _) _).setCell (p := ⟨w.heap.size, 1, none⟩) (Nat.le_refl _) _
      · obtain ⟨h1, h2, h3, h4⟩ := factB_yes hB
        have H1 := hide h1
        have H2 := hide h2
        have HB := hide hB
        clear h1 h2 hB
        go_wp2_with fail
        refine (name_any _ _ hp).mono ?_
        rintro e w2 ⟨rfl, rfl⟩
        rw [H1.out]
        go_wp2_with fail
        refine (name_any _ _ hq).mono ?_
        rintro e w3 ⟨rfl, rfl⟩
        rw [H2.out]
        have hk1 := (Kb.refl [] wr).alloc (.cells #[.int .i64 k, .string p, .string q] 25)
        have g0 := heap_new wr (.cells #[.int .i64 k, .string p, .string q] 25)
        generalize wr.alloc (.cells #[.int .i64 k, .string p, .string q] 25) = w2 at hk1 g0 ⊢
        have hres2 := hk1.heap hres (by simp)
        have hbl2 := hbl.trans (hk1.below (B := w.heap.size) (by omega) (by simp))
        have g1 : w2.cell? ⟨wr.heap.size, 0, none⟩ = some (.int .i64 k) := by rw [cell_at g0]; rfl
        have g2 : w2.cell? ⟨wr.heap.size, 1, none⟩ = some (.string p) := by rw [cell_at g0]; rfl
        have g3 : w2.cell? ⟨wr.heap.size, 2, none⟩ = some (.string q) := by rw [cell_at g0]; rfl
        have r0 : w2.cell? ⟨w.heap.size, 0, none⟩ = some (.int .i64 0) := by rw [cell_at hres2]; rfl
        have r1 : w2.cell? ⟨w.heap.size, 1, none⟩ = some (.int .i64 0) := by rw [cell_at hres2]; rfl
        have r2 : w2.frozen? ⟨w.heap.size, 0, none⟩ = false := frozen_at hres2 _
        have r3 : w2.frozen? ⟨w.heap.size, 1, none⟩ = false := frozen_at hres2 _
        have hadd := hide (fun w' (h : Below w2.heap.size w2 w') => added_any (.slice (some ⟨b, off, none⟩) n cap) (fs.take n) k p q w' (by rw [HNL.out]; exact Nat.le_trans (Nat.le_of_lt hlt) hlen0) ⟨some ⟨b, off, none⟩, cap, by rw [HNL.out], by rw [HNL.out]; omega, (fun e => by cases e), fun _ => ⟨b, off, rfl, Nat.lt_of_lt_of_le (Nat.lt_of_lt_of_le hb hbl2.size) h.size, ((hf.below hbl2 hb).below (h.mono hbl2.size) hb).take n⟩⟩ hp hq)
        have hnc : (n : Int) ≤ (cap : Int) := by omega
        have hsz2 := lt_of_heap g0
        go_wp2_with fail
        go_region_with (go_at_call 13; refine ((unhide hadd) w2.drew (Below.refl _ _).drew).mono ?_; rintro e w4 ⟨rfl, hb4⟩)
        all_goals
          have hb4' : Below w2.heap.size w2 w4 := (Below.refl _ _).drew.trans hb4
          have G0 := Below.heapAt hb4' g0 hsz2
          have hres4 := Below.heapAt hb4' hres2 (by omega)
          have hbl4 := hbl2.trans (hb4'.mono hbl2.size)
          have hsz4 := lt_of_heap G0
          have g1 : w4.cell? ⟨wr.heap.size, 0, none⟩ = some (.int .i64 k) := by rw [cell_at G0]; rfl
          have g2 : w4.cell? ⟨wr.heap.size, 1, none⟩ = some (.string p) := by rw [cell_at G0]; rfl
          have g3 : w4.cell? ⟨wr.heap.size, 2, none⟩ = some (.string q) := by rw [cell_at G0]; rfl
          have r0 : w4.cell? ⟨w.heap.size, 0, none⟩ = some (.int .i64 0) := by rw [cell_at hres4]; rfl
          have r1 : w4.cell? ⟨w.heap.size, 1, none⟩ = some (.int .i64 0) := by rw [cell_at hres4]; rfl
          have r2 : w4.frozen? ⟨w.heap.size, 0, none⟩ = false := frozen_at hres4 _
          have r3 : w4.frozen? ⟨w.heap.size, 1, none⟩ = false := frozen_at hres4 _
          clear hb4 hb4' hadd hres2 hbl2 hk1 hres hbl d0 d1 d2 g0
          by_cases he : errOf (fs.take n) ⟨k, p, q⟩ = 0
          · have HR := hide he
            rw [HR.out]
            clear he
            obtain ⟨s1, s2, s3⟩ := errOf_zero HR.out
            simp only at s1 s2
            rw [HNL.out] at s3
            have hsh := hi.short
            have hnext := hide (hi.next HF.out HB.out HR.out hres4 hbl4)
            clear hi hres4 hbl4 G0 r0 r1 r2 r3 HF HB HR HNL
            have hk4 : k = 1 ∨ k = 2 ∨ k = 3 ∨ k = 4 := by omega
            clear h3 h4
            rcases hk4 with rfl | rfl | rfl | rfl
            all_goals
              go_wp2
              go_roundw
              case rel =>
                refine ⟨n + 1, _, by go_num, rfl, (unhide hnext) _ ?_ _ ?_⟩
                · first | exact line1 acc p q | exact line2 acc p q | exact line3 acc p q | exact line4 acc p q
                · exact ((Below.refl _ _).alloc (Nat.le_refl _) _).alloc (by simp) _
              case measure => simp [intOf]; omega
          · have HE : Hid (printGo [] fs [] = ([], errOf (fs.take n) ⟨k, p, q⟩, (n : Int) + 1)) := by
              have e := hi.rest
              rw [drop_here HF.out, printGo_err (f := ⟨k, p, q⟩) HB.out rfl he, HNL.out] at e
              exact e.symm
            generalize errOf (fs.take n) ⟨k, p, q⟩ = x at HE he ⊢
            have hx : (x != 0) = true := bne_iff_ne.2 he
            clear he hres4 G0
            go_wp2
            refine bodyPost_ret (v := .tuple #[.string ⟨#[]⟩, .agg #[.int .i64 x, .int .i64 ((n : Int) + 1)]]) (by simp [results, Try.results6, go_sem, r0, r1]) rfl ⟨by rw [HE.out], ?_⟩
            exact (hbl4.setCell (p := ⟨w.heap.size, 0, none⟩) (Nat.le_refl _) _).setCell (p := ⟨w.heap.size, 1, none⟩) (Nat.le_refl _) _
    · have HE : Hid (printGo [] fs [] = (acc.data.toList, 0, 0)) := by
        have e := hi.rest
        rw [List.drop_of_length_le (by omega), printGo_nil] at e
        exact e.symm
      have r0 : wr.cell? ⟨w.heap.size, 0, none⟩ = some (.int .i64 0) := by rw [cell_at hres]; rfl
      have r1 : wr.cell? ⟨w.heap.size, 1, none⟩ = some (.int .i64 0) := by rw [cell_at hres]; rfl
      have r2 : wr.frozen? ⟨w.heap.size, 0, none⟩ = false := frozen_at hres _
      have r3 : wr.frozen? ⟨w.heap.size, 1, none⟩ = false := frozen_at hres _
      clear hi hres
      go_wp2
      refine bodyPost_ret (v := .tuple #[.string acc, .agg #[.int .i64 0, .int .i64 0]]) (by simp [results, Try.results6, go_sem, r0, r1]) rfl ⟨by rw [HE.out], ?_⟩
      exact (hbl.setCell (p := ⟨w.heap.size, 0, none⟩) (Nat.le_refl _) _).setCell (p := ⟨w.heap.size, 1, none⟩) (Nat.le_refl _) _

set_option maxHeartbeats 400000 in
theorem rprint_none (ao : Option Addr) (cap : Nat) (w : World) :
    Calls Try.prog 6 #[.slice ao 0 cap] w fun e w' => e = .returned (.tuple #[.string ⟨#[]⟩, .agg #[.int .i64 0, .int .i64 0]]) ∧ Below w.heap.size w w' := by
  go_enter Try.func6, Try.ntmps6
  go_wp2
  refine wp_loop_rounds 1 ?_
  rw [rounds_succ]
  go_wp2
  exact bodyPost_ret (v := .tuple #[.string ⟨#[]⟩, .agg #[.int .i64 0, .int .i64 0]]) (by simp [results, Try.results6, go_sem]) rfl ⟨rfl, (Below.refl _ _).alloc (Nat.le_refl _) _⟩

theorem rprint_any (v : Value) (fs : List Fct) (w : World) (hcap : capOf v ≤ maxLen) (hv : IsFacts v fs w) (hfit : fitsF fs) :
    Calls Try.prog 6 #[v] w fun e w' => e = .returned (.tuple #[.string ⟨(printGo [] fs []).1.toArray⟩, .agg #[.int .i64 (printGo [] fs []).2.1, .int .i64 (printGo [] fs []).2.2]]) ∧ Below w.heap.size w w' := by
  obtain ⟨ao, cap, rfl, hc, _, h⟩ := hv
  have hcap' : cap ≤ maxLen := hcap
  by_cases hfs : fs = []
  · subst hfs
    exact rprint_none ao cap w
  · obtain ⟨b, off, rfl, hb, hf⟩ := h hfs
    exact rprint_some b off cap fs w (Nat.le_trans hc hcap') hc hcap' hf hb hfit

end Go.Proofs.Ytiamlbhkiehilaa
