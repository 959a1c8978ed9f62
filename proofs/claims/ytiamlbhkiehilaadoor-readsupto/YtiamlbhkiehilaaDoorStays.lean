import Derived.Test.YtiamlbhkiehilaaDoorSame
import Derived.Test.YtiamlbhkiehilaaDoorMark
namespace Go.Proofs.YtiamlbhkiehilaaDoor
open Go.RowKit Go.Maps

/-- The fact that the book's owner writes into its i-th list. -/
def markF (i : Nat) : Fct := ⟨0, markB (i / 4 * 4), noB⟩

/-- A book of lists of facts: where it lies, and that each list reads as its owner left it. -/
structure BookAt (kb : Nat) (ls : List Value) (V : Value) (w : World) : Prop where
  head : w.heap[kb]? = some (.cells #[V, .slice none 0 0, .slice none 0 0] 28 (0, 0))
  row : ∃ ao cap, V = .slice ao ls.length cap ∧ (ls ≠ [] → ∃ g, ao = some ⟨g, 0, none⟩ ∧ g < w.heap.size ∧ ∀ (i : Nat) v, ls[i]? = some v → w.cell? ⟨g, i, none⟩ = some v)
  lists : ∀ (i : Nat) v, ls[i]? = some v → ∃ n, n ≤ 1000 ∧ IsFacts v (List.replicate n (markF i)) w

theorem BookAt.below {kb : Nat} {ls : List Value} {V : Value} {w w' : World} (h : BookAt kb ls V w) (hb : Below w.heap.size w w') : BookAt kb ls V w' := by
  refine ⟨Below.heapAt hb h.head (lt_of_heap h.head), ?_, fun i v hv => ?_⟩
  · obtain ⟨ao, cap, hV, hr⟩ := h.row
    refine ⟨ao, cap, hV, fun hne => ?_⟩
    obtain ⟨g, h1, h2, h3⟩ := hr hne
    exact ⟨g, h1, Nat.lt_of_lt_of_le h2 hb.size, fun i v hv => (hb.cell (p := ⟨g, i, none⟩) h2).trans (h3 i v hv)⟩
  · obtain ⟨n, hn, hf⟩ := h.lists i v hv
    exact ⟨n, hn, hf.below hb⟩

set_option maxRecDepth 100000 in
set_option maxHeartbeats 1000000 in
theorem stays_any (kb : Nat) (ls : List Value) (V : Value) (w : World) (hlen : ls.length ≤ 1000000000) (h : BookAt kb ls V w) :
    Calls Tryd.prog 11 #[.pointer (some ⟨kb, 0, none⟩)] w fun e w' => e = .returned (.bool true) ∧ Below w.heap.size w w' := by
  obtain ⟨ao, cap, rfl, _⟩ := h.row
  have hkl := lt_of_heap h.head
  go_enter Tryd.func11, Tryd.ntmps11
  go_wp2
  go_loopw [3] (fun iv wr => ∃ i : Nat, iv = .int .i64 i ∧ i ≤ ls.length ∧ Below w.heap.size w wr) (fun iv _ => ls.length - (intOf iv).toNat)
  case atStart => exact ⟨0, rfl, Nat.zero_le _, Below.refl _ _⟩
  case round =>
    obtain ⟨i, rfl, hi, hbx⟩ := hrel
    have hk := h.below hbx
    obtain ⟨c0, c1, c2, _, _, _⟩ := res_cells hk.head
    by_cases hlt : i < ls.length
    · obtain ⟨v, hv⟩ : ∃ v, ls[i]? = some v := ⟨_, List.getElem?_eq_getElem hlt⟩
      have hne : ls ≠ [] := by intro e; rw [e] at hlt; simp at hlt
      obtain ⟨n, hn, hf⟩ := hk.lists i v hv
      obtain ⟨ao2, cap2, rfl, _, _, hfa⟩ := hf
      rw [List.length_replicate] at hv
      have HV := hide hv
      obtain ⟨ao', cap', hV', hrow⟩ := hk.row
      obtain ⟨g, hg1, hg2, hg3⟩ := hrow hne
      have hao : ao = some ⟨g, 0, none⟩ := by injection hV' with h1 _ _; rw [h1, hg1]
      subst hao
      have HA := hide hfa
      have hmk := mark_any (i / 4 * 4) wr (by omega)
      rw [show (((i / 4 * 4 : Nat)) : Int) = (i : Int) / 4 * 4 by omega] at hmk
      have HG := hide hg3
      clear hfa hrow hV' hv hg3 hne hg1
      go_wp2_with fail
      refine hmk.mono ?_
      rintro e w2 ⟨rfl, hb2⟩
      have hk2 := hk.below hb2
      clear hmk
      go_wp2_with fail
      have g4 := heap_new w2 (.cells #[.int .i64 0, .string (markB (i / 4 * 4)), .string ⟨#[]⟩] 48)
      have hb3 : Below wr.heap.size wr (w2.alloc (.cells #[.int .i64 0, .string (markB (i / 4 * 4)), .string ⟨#[]⟩] 48)) := hb2.alloc hb2.size _
      have hB3 : Below w.heap.size w (w2.alloc (.cells #[.int .i64 0, .string (markB (i / 4 * 4)), .string ⟨#[]⟩] 48)) := hbx.trans (hb3.mono hbx.size)
      generalize hbx2 : w2.heap.size = bx at *
      generalize w2.alloc (.cells #[.int .i64 0, .string (markB (i / 4 * 4)), .string ⟨#[]⟩] 48) = w3 at g4 hb3 hB3 ⊢
      have hbl := lt_of_heap g4
      have hwl : wr.heap.size ≤ w3.heap.size := hb3.size
      have hk3 := hk.below hb3
      have HA3 := hide (fun (j : Nat) (hj : j < n) => show ∃ b off, ao2 = some ⟨b, off, none⟩ ∧ b < w3.heap.size ∧ FactsAt b off (List.replicate n (markF i)) w3 from by
        have hne : List.replicate n (markF i) ≠ [] := by intro e; have := congrArg List.length e; simp at this; omega
        obtain ⟨b, off, h1, h2, h3⟩ := HA.out hne
        exact ⟨b, off, h1, Nat.lt_of_lt_of_le h2 hwl, h3.below hb3 h2⟩)
      have HG3 := hide ((hb3.cell (p := ⟨g, i, none⟩) hg2).trans (HG.out i _ HV.out))
      have hg3' : g < w3.heap.size := Nat.lt_of_lt_of_le hg2 hwl
      have HK := hide hk3.head
      clear hk hk2 hb2 c0 c1 c2 hk3 HA HG hb3 hbx hbx2
      go_loopw [5] (fun jv wr => ∃ j : Nat, jv = .int .i64 j ∧ j ≤ n ∧ Below w3.heap.size w3 wr) (fun jv _ => n - (intOf jv).toNat)
      case atStart => exact ⟨0, rfl, Nat.zero_le _, Below.refl _ _⟩
      case round =>
        obtain ⟨j, rfl, hj, hby⟩ := hrel
        have gk := Below.heapAt hby HK.out (lt_of_heap HK.out)
        obtain ⟨c0, c1, c2, _, _, _⟩ := res_cells gk
        have gb := Below.heapAt hby g4 hbl
        obtain ⟨d0, d1, d2, _, _, _⟩ := res_cells gb
        have cg : wr.cell? ⟨g, i, none⟩ = some (.slice ao2 n cap2) := (hby.cell (p := ⟨g, i, none⟩) hg3').trans HG3.out
        by_cases hjn : j < n
        · obtain ⟨b, off, ha, hbw, hfs⟩ := HA3.out j hjn
          obtain ⟨a0, a1, a2⟩ := (hfs.below hby hbw) j 0 (markB (i / 4 * 4)) noB (by rw [List.getElem?_replicate, if_pos hjn]; rfl)
          rw [ha] at cg
          have hneq := neq_fact 0 (markB (i / 4 * 4)) ⟨#[]⟩
          have hgf := guardFact
          unfold noB at a2
          clear hfs gk gb
          go_wp2
          go_quiet (fail)
          go_wp2
          go_roundw
          case rel => exact ⟨j + 1, by go_num, hjn, below_drewN hby _⟩
          case measure => simp [intOf]; omega
        · go_wp2
          go_round
          case rel => exact ⟨i + 1, by go_num, hlt, hB3.trans (hby.mono hB3.size)⟩
          case measure => simp [intOf]; omega
    · go_wp2_with fail
      go_loop [6] (fun iv => iv = .int .i64 0) (fun _ => 0)
      case atStart => rfl
      case round =>
        subst hrel
        go_wp2
        go_loop [9] (fun iv => iv = .int .i64 0) (fun _ => 0)
        case atStart => rfl
        case round =>
          subst hrel
          go_wp2
          go_ret
          exact ⟨rfl, hbx⟩

end Go.Proofs.YtiamlbhkiehilaaDoor
