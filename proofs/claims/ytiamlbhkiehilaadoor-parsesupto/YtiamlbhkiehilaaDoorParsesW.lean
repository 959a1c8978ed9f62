import Derived.Test.YtiamlbhkiehilaaDoorKeepF
import Derived.Test.YtiamlbhkiehilaaDoorQParse
namespace Go.Proofs.YtiamlbhkiehilaaDoor
open Go.RowKit Go.Maps

theorem parseGo_len (ls : List ByteArray) : ∀ (pre : List Fct) (n : Nat), pre.length ≤ 120 → (parseGo pre n ls).1.length ≤ 120 := by
  induction ls with
  | nil => intro pre n h; exact h
  | cons l r ih =>
    intro pre n h
    unfold parseGo
    split
    · simp
    · split
      · simp
      · split
        · exact ih pre (n + 1) h
        · split
          · rename_i he
            refine ih _ (n + 1) ?_
            rw [List.length_append]
            by_cases h2 : 120 ≤ pre.length
            · exfalso
              by_cases h1 : 12 < (saidB l).1.p.size ∨ 12 < (saidB l).1.q.size
              · have := errOf_name (pre := pre) (f := (saidB l).1) h1
                rw [he] at this
                exact absurd this (by decide)
              · have := errOf_many (pre := pre) (f := (saidB l).1) h1 h2
                rw [he] at this
                exact absurd this (by decide)
            · simp only [List.length_singleton]
              omega
          · simp

theorem parseB_len (s : ByteArray) : (parseB s).1.length ≤ 120 := by
  unfold parseB
  split
  · simp
  · exact parseGo_len _ _ _ (by simp)

set_option maxRecDepth 100000 in
set_option maxHeartbeats 2000000 in
theorem parses_any (s : ByteArray) (B kb : Nat) (ls : List Value) (V : Value) (w : World) (m : Int) (hs : s.size ≤ maxLen) (hm : w.cell? ⟨0, 0, none⟩ = some (.int .i64 m)) (hmB : 0 < B)
    (hmod : ls.length % 4 = 0) (hls : ls.length ≤ 100000000) (hB : BookO B kb ls V w) :
    Calls Tryd.prog 5 #[.string s, .pointer (some ⟨kb, 0, none⟩)] w fun e w' =>
      e = .returned (.bool true) ∧ ∃ V' ls', ls'.length = ls.length + 8 ∧ BookO B kb ls' V' w' ∧ Below B w w' := by
  have hBw : B ≤ w.heap.size := Nat.le_trans hB.le (Nat.le_of_lt (lt_of_heap hB.head))
  have HB := hide hB
  have hcn := parseB_len s
  have HS := hide hs
  have hR := rparse_any s w hs
  have HQ : Hid (∀ w', w'.cell? ⟨0, 0, none⟩ = some (.int .i64 m) → Calls Tryd.prog 8 #[.string s] w' fun e w'' => PRes w' w'' s e) := fun w' h => qparse_any s w' m hs h
  clear hB
  go_enter Tryd.func5, Tryd.ntmps5
  go_wp2_with fail
  refine hR.mono ?_
  unfold PRes at HQ ⊢
  clear hR hs HS
  generalize parseB s = r at *
  obtain ⟨fs, k, n⟩ := r
  rintro e w1 ⟨v1, rfl, ho1, hb1⟩
  simp only at ho1 hcn HQ ⊢
  go_wp2_with fail
  have gf := heap_new w1 (.cells #[.int .i64 k, .int .i64 n] 34)
  have hb2 : Below w.heap.size w (w1.alloc (.cells #[.int .i64 k, .int .i64 n] 34)) := hb1.alloc hb1.size _
  have ho2 := ho1.alloc (.cells #[.int .i64 k, .int .i64 n] 34)
  generalize w1.alloc (.cells #[.int .i64 k, .int .i64 n] 34) = w2 at gf hb2 ho2 ⊢
  generalize w1.heap.size = bf at gf ⊢
  clear ho1 hb1
  have hm2 : w2.cell? ⟨0, 0, none⟩ = some (.int .i64 m) := (hb2.cell (p := ⟨0, 0, none⟩) (by show 0 < _; omega)).trans hm
  refine (HQ.out w2 hm2).mono ?_
  rintro e w3 ⟨v3, rfl, ho3, hb3⟩
  simp only at ho3 ⊢
  go_wp2_with fail
  have ge := heap_new w3 (.cells #[.int .i64 k, .int .i64 n] 34)
  have hb4 : Below w2.heap.size w2 (w3.alloc (.cells #[.int .i64 k, .int .i64 n] 34)) := hb3.alloc hb3.size _
  have ho4 := ho3.alloc (.cells #[.int .i64 k, .int .i64 n] 34)
  have gf4 := Below.heapAt hb4 gf (lt_of_heap gf)
  have hw4 := own_below ho2 hb4
  generalize w3.alloc (.cells #[.int .i64 k, .int .i64 n] 34) = w4 at ge hb4 ho4 gf4 hw4 ⊢
  generalize w3.heap.size = be at ge ⊢
  clear ho3 hb3 gf ho2
  have hB4 : Below w.heap.size w w4 := hb2.trans (hb4.mono hb2.size)
  have hm4 : w4.cell? ⟨0, 0, none⟩ = some (.int .i64 m) := (hB4.cell (p := ⟨0, 0, none⟩) (by show 0 < _; omega)).trans hm
  refine (HQ.out w4 hm4).mono ?_
  rintro e w5 ⟨v5, rfl, ho5, hb5⟩
  simp only at ho5 ⊢
  go_wp2_with fail
  have gg := heap_new w5 (.cells #[.int .i64 k, .int .i64 n] 34)
  have hb6 : Below w4.heap.size w4 (w5.alloc (.cells #[.int .i64 k, .int .i64 n] 34)) := hb5.alloc hb5.size _
  have ho6 := ho5.alloc (.cells #[.int .i64 k, .int .i64 n] 34)
  have gf6 := Below.heapAt hb6 gf4 (lt_of_heap gf4)
  have ge6 := Below.heapAt hb6 ge (lt_of_heap ge)
  have hw6 := own_below hw4 hb6
  have hl6 := own_below ho4 hb6
  generalize w5.alloc (.cells #[.int .i64 k, .int .i64 n] 34) = w6 at gg hb6 ho6 gf6 ge6 hw6 hl6 ⊢
  generalize w5.heap.size = bg at gg ⊢
  have hlb : Hid (∀ g, v3.ownBlock = some g → g < w4.heap.size) := fun g h => (ho4.lt g h).2
  have hmb : Hid (∀ g, v5.ownBlock = some g → g < w6.heap.size) := fun g h => (ho6.lt g h).2
  clear ho5 hb5 gf4 ge hw4 ho4
  have hB6 : Below w.heap.size w w6 := hB4.trans (hb6.mono hB4.size)
  have z1 := hb2.size
  have z2 := hb4.size
  have z3 := hb6.size
  have ha := sameFacts_any v3 v1 fs w6 (by omega) (facts_of_owns hl6) (facts_of_owns hw6)
  refine ha.mono ?_
  rintro e w7 ⟨rfl, hb7⟩
  have hb := sameFacts_any v5 v1 fs w7 (by omega) (facts_of_owns (own_below ho6 hb7)) (facts_of_owns (own_below hw6 hb7))
  go_wp2_with fail
  refine hb.mono ?_
  rintro e w8 ⟨rfl, hb8⟩
  have hb68 : Below w6.heap.size w6 w8 := hb7.trans (hb8.mono hb7.size)
  have gf8 := Below.heapAt hb68 gf6 (lt_of_heap gf6)
  have ge8 := Below.heapAt hb68 ge6 (lt_of_heap ge6)
  have gg8 := Below.heapAt hb68 gg (lt_of_heap gg)
  have hl8 := own_below hl6 hb68
  have ho8 := own_below ho6 hb68
  have hB8 : Below w.heap.size w w8 := hB6.trans (hb68.mono hB6.size)
  have hbk := HB.out.below hB8
  clear ha hb hb7 hb8 gf6 ge6 gg hl6 ho6 hw6
  have z4 := hb68.size
  have hap1 : ∀ v ∈ ls, v.ownBlock = none ∨ v.ownBlock ≠ v3.ownBlock := by
    intro v hv
    obtain ⟨i, hi⟩ := List.getElem?_of_mem hv
    obtain ⟨q, _, ho⟩ := HB.out.lists i v hi
    cases hvb : v.ownBlock with
    | none => exact .inl rfl
    | some g =>
      refine .inr fun h => ?_
      have h1 := (ho.lt g hvb).2
      have h2 := (hl8.lt g h.symm).1
      omega
  have hk1 := keepFacts_any B kb ls V v3 fs w8 hmod (by omega) hcn hbk (own_mono hl8 (by omega)) hap1
  go_wp2_with fail
  refine hk1.mono ?_
  rintro e w9 ⟨rfl, V1, l1, l2, l3, hbk1, hnew1, hkb1⟩
  have hBl : Below B w8 w9 := may_below hkb1 hbk (own_mono hl8 (by omega))
  have gf9 := hkb1.heap gf8 (may_not hbk (own_mono hl8 (by omega)) gf8 (by decide) (by decide) (by decide))
  have ge9 := hkb1.heap ge8 (may_not hbk (own_mono hl8 (by omega)) ge8 (by decide) (by decide) (by decide))
  have gg9 := hkb1.heap gg8 (may_not hbk (own_mono hl8 (by omega)) gg8 (by decide) (by decide) (by decide))
  have ho9 : w9.ownsRow w4.heap.size 48 3 v5 fs.length (cellsF fs) := by
    refine own_kbL ho8 hkb1 (fun g hg heq => ?_)
    simp only [may, List.mem_cons, List.mem_append, Option.mem_toList] at hg
    rcases hg with rfl | h | h
    · exact own_head ho8 hbk.head (by decide) heq.symm
    · rcases own_ne ho8 hbk.row (by decide) with h' | h'
      · rw [h'] at heq; cases heq
      · exact h' (heq.trans h.symm)
    · have h1 := (ho8.lt g heq).1
      have h2 := hlb.out g h
      omega
  have hap2 : ∀ v ∈ ls ++ [v3, l1, l2, l3], v.ownBlock = none ∨ v.ownBlock ≠ v5.ownBlock := by
    intro v hv
    cases hvb : v.ownBlock with
    | none => exact .inl rfl
    | some g =>
      refine .inr fun h => ?_
      have h1 := (ho8.lt g h.symm).1
      have h2 := hmb.out g h.symm
      rcases List.mem_append.1 hv with hv | hv
      · obtain ⟨i, hi⟩ := List.getElem?_of_mem hv
        obtain ⟨q, _, ho⟩ := HB.out.lists i v hi
        have h3 := (ho.lt g hvb).2
        omega
      · rcases List.mem_cons.1 hv with rfl | hv
        · have h3 := hlb.out g hvb
          omega
        · rcases hnew1 v hv with h3 | ⟨g', h3, h4⟩
          · have h5 := hlb.out g (h3.symm.trans hvb)
            omega
          · rw [hvb] at h3
            injection h3 with h3
            omega
  have hk2 := keepFacts_any B kb (ls ++ [v3, l1, l2, l3]) V1 v5 fs w9 (by rw [List.length_append]; show (ls.length + 4) % 4 = 0; omega) (by rw [List.length_append]; show ls.length + 4 ≤ _; omega) hcn hbk1 (own_mono ho9 (by omega)) hap2
  go_wp2_with fail
  refine hk2.mono ?_
  rintro e w10 ⟨rfl, V2, m1, m2, m3, hbk2, hnew2, hkb2⟩
  have hBm : Below B w9 w10 := may_below hkb2 hbk1 (own_mono ho9 (by omega))
  have gf10 := hkb2.heap gf9 (may_not hbk1 (own_mono ho9 (by omega)) gf9 (by decide) (by decide) (by decide))
  have ge10 := hkb2.heap ge9 (may_not hbk1 (own_mono ho9 (by omega)) ge9 (by decide) (by decide) (by decide))
  have gg10 := hkb2.heap gg9 (may_not hbk1 (own_mono ho9 (by omega)) gg9 (by decide) (by decide) (by decide))
  have hlen : ((ls ++ [v3, l1, l2, l3]) ++ [v5, m1, m2, m3]).length = ls.length + 8 := by simp
  have hst := stays_any kb _ V2 w10 (by rw [hlen]; omega) hbk2.at
  clear hk1 hk2 hap1 hap2 hnew1 hnew2 gf8 ge8 gg8 gf9 ge9 gg9 ho8 ho9 hl8 hkb1 hkb2 hlb hmb
  go_wp2_with fail
  refine hst.mono ?_
  rintro e w11 ⟨rfl, hb11⟩
  have hf := Below.heapAt hb11 gf10 (lt_of_heap gf10)
  have he := Below.heapAt hb11 ge10 (lt_of_heap ge10)
  have hg := Below.heapAt hb11 gg10 (lt_of_heap gg10)
  have hbk3 := hbk2.below hb11
  have z8 := hB8.size
  have z9 := hBl.size
  have z10 := hBm.size
  have hB11 : Below B w w11 := (hB8.mono hBw).trans (hBl.trans (hBm.trans (hb11.mono (by omega))))
  obtain ⟨a0, a1, _, _⟩ := err_cells hf
  obtain ⟨a2, a3, _, _⟩ := err_cells he
  obtain ⟨a4, a5, _, _⟩ := err_cells hg
  have q1 := eql_err k n
  have q3 := guardErr
  have HF := hide (And.intro hlen (And.intro hbk3 hB11))
  clear hst hf he hg hbk3 hB11 hbk hbk1 hbk2 gf10 ge10 gg10 hlen hBl hBm hB8 hb68 hb11 z8 z9 z10
  go_wp2
  go_ret
  exact ⟨rfl, V2, _, HF.out.1, HF.out.2.1, HF.out.2.2⟩

end Go.Proofs.YtiamlbhkiehilaaDoor
