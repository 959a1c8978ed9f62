import Derived.Test.YtiamlbhkiehilaaDoorStaysR
import Derived.Test.YtiamlbhkiehilaaDoorQRead
import Derived.Test.YtiamlbhkiehilaaDoorSameR
namespace Go.Proofs.YtiamlbhkiehilaaDoor
open Go.RowKit Go.Maps

theorem readGo_fits (M : Nat) (ls : List ByteArray) : ∀ (pre : List RowD) (last : ByteArray) (n : Nat), (∀ l ∈ ls, l.size ≤ M) → (∀ r ∈ pre, r.to.length ≤ M) → (∀ r ∈ (readGo pre last n ls).1, r.to.length ≤ M) ∧ (readGo pre last n ls).1.length ≤ pre.length + ls.length := by
  induction ls with
  | nil => intro pre last n _ hp; exact ⟨hp, by simp [readGo]⟩
  | cons l q ih =>
    intro pre last n hM hp
    cases q with
    | nil =>
      rw [readGo_last]
      split
      · exact ⟨hp, by simp⟩
      · exact ⟨by simp, by simp⟩
    | cons l' r =>
      cases hl : lineRow l with
      | none => rw [readGo_form hl]; exact ⟨by simp, by simp⟩
      | some x =>
        by_cases he : chk true x last = 0
        · rw [readGo_add hl he]
          have hx : x.to.length ≤ M := Nat.le_trans (refRow_fits (lineRow_ref hl).1).2.1 (hM l (by simp))
          have := ih (pre ++ [x]) x.name (n + 1) (fun y hy => hM y (by simp at hy ⊢; exact .inr hy)) (fun y hy => by
            rcases List.mem_append.1 hy with hy | hy
            · exact hp y hy
            · rw [List.mem_singleton.1 hy]; exact hx)
          refine ⟨this.1, Nat.le_trans this.2 ?_⟩
          simp only [List.length_append, List.length_cons, List.length_nil]
          omega
        · rw [readGo_bad hl he]; exact ⟨by simp, by simp⟩

theorem readB_fits (s : ByteArray) : (∀ r ∈ (readB s).1, r.to.length ≤ 25000) ∧ (readB s).1.length ≤ 26000 := by
  unfold readB
  split
  · exact ⟨by simp, by simp⟩
  · rename_i h
    have h1 := readGo_fits 25000 (linesB s) [] noB 0 (fun l hl => Nat.le_trans (linesB_size s l hl) (by omega)) (by simp)
    have h2 := linesB_len s
    exact ⟨h1.1, by have := h1.2; simp only [List.length_nil] at this; omega⟩

set_option maxRecDepth 100000 in
set_option maxHeartbeats 2000000 in
theorem reads_any (s : ByteArray) (B kb : Nat) (ts : List Value) (T : Value) (rs : List Value) (R : Value) (w : World) (m : Int) (hs : s.size ≤ maxLen) (hm : w.cell? ⟨0, 0, none⟩ = some (.int .i64 m)) (hmB : 0 < B)
    (hmod : ts.length % 4 = 0) (hmodr : rs.length % 4 = 0) (hls : ts.length ≤ 400000000000) (hlr : rs.length ≤ 100000000) (hB : BookR B kb ts T rs R w) :
    Calls Tryd.prog 6 #[.string s, .pointer (some ⟨kb, 0, none⟩)] w fun e w' =>
      e = .returned (.bool true) ∧ ∃ ts' T' rs' R', ts'.length ≤ ts.length + 208000 ∧ ts'.length % 4 = 0 ∧ rs'.length = rs.length + 8 ∧ BookR B kb ts' T' rs' R' w' ∧ Below B w w' := by
  have hBw : B ≤ w.heap.size := Nat.le_trans hB.le (Nat.le_of_lt (lt_of_heap hB.head))
  have HB := hide hB
  obtain ⟨hf1, hf2⟩ := readB_fits s
  have hR := rread_any s w hs
  have HQ : Hid (∀ w', w'.cell? ⟨0, 0, none⟩ = some (.int .i64 m) → Calls Tryd.prog 13 #[.string s] w' fun e w'' => RdRes w' w'' s e) := fun w' h => qread_any s w' m hs h
  clear hB
  go_enter Tryd.func6, Tryd.ntmps6
  go_wp2_with fail
  refine hR.mono ?_
  unfold RdRes at HQ ⊢
  clear hR hs
  generalize readB s = r at *
  obtain ⟨xs, k, n⟩ := r
  rintro e w1 ⟨v1, p1, rfl, e1, ho1, hb1⟩
  simp only at e1 hf1 hf2 HQ ⊢
  have HF1 := hide hf1
  clear hf1
  go_wp2_with fail
  have gf := heap_new w1 (.cells #[.int .i64 k, .int .i64 n] 34)
  have hb2 : Below w.heap.size w (w1.alloc (.cells #[.int .i64 k, .int .i64 n] 34)) := hb1.alloc hb1.size _
  have ho2 := ho1.below ((Below.refl _ _).alloc (Nat.le_refl _) (.cells #[.int .i64 k, .int .i64 n] 34))
  generalize w1.alloc (.cells #[.int .i64 k, .int .i64 n] 34) = w2 at gf hb2 ho2 ⊢
  generalize w1.heap.size = bf at gf ho2 ⊢
  clear ho1 hb1
  have hbf := lt_of_heap gf
  have hm2 : w2.cell? ⟨0, 0, none⟩ = some (.int .i64 m) := (hb2.cell (p := ⟨0, 0, none⟩) (by show 0 < _; omega)).trans hm
  refine (HQ.out w2 hm2).mono ?_
  rintro e w3 ⟨v3, p3, rfl, e3, ho3, hb3⟩
  simp only at e3 ⊢
  go_wp2_with fail
  have ge := heap_new w3 (.cells #[.int .i64 k, .int .i64 n] 34)
  have hb4 : Below w2.heap.size w2 (w3.alloc (.cells #[.int .i64 k, .int .i64 n] 34)) := hb3.alloc hb3.size _
  have ho4 := ho3.below ((Below.refl _ _).alloc (Nat.le_refl _) (.cells #[.int .i64 k, .int .i64 n] 34))
  have gf4 := Below.heapAt hb4 gf (lt_of_heap gf)
  have hw4 := ho2.below hb4
  generalize w3.alloc (.cells #[.int .i64 k, .int .i64 n] 34) = w4 at ge hb4 ho4 gf4 hw4 ⊢
  have hz3 : w2.heap.size ≤ w3.heap.size := hb3.size
  generalize w3.heap.size = be at ge ho4 hz3 ⊢
  clear ho3 hb3 gf ho2
  have hbe := lt_of_heap ge
  have hB4 : Below w.heap.size w w4 := hb2.trans (hb4.mono hb2.size)
  have hm4 : w4.cell? ⟨0, 0, none⟩ = some (.int .i64 m) := (hB4.cell (p := ⟨0, 0, none⟩) (by show 0 < _; omega)).trans hm
  refine (HQ.out w4 hm4).mono ?_
  rintro e w5 ⟨v5, p5, rfl, e5, ho5, hb5⟩
  simp only at e5 ⊢
  go_wp2_with fail
  have gg := heap_new w5 (.cells #[.int .i64 k, .int .i64 n] 34)
  have hb6 : Below w4.heap.size w4 (w5.alloc (.cells #[.int .i64 k, .int .i64 n] 34)) := hb5.alloc hb5.size _
  have ho6 := ho5.below ((Below.refl _ _).alloc (Nat.le_refl _) (.cells #[.int .i64 k, .int .i64 n] 34))
  have gf6 := Below.heapAt hb6 gf4 (lt_of_heap gf4)
  have ge6 := Below.heapAt hb6 ge (lt_of_heap ge)
  have hw6 := hw4.below hb6
  have hl6 := ho4.below hb6
  generalize w5.alloc (.cells #[.int .i64 k, .int .i64 n] 34) = w6 at gg hb6 ho6 gf6 ge6 hw6 hl6 ⊢
  have hz5 : w4.heap.size ≤ w5.heap.size := hb5.size
  generalize w5.heap.size = bg at gg ho6 hz5 ⊢
  clear ho5 hb5 gf4 ge hw4 ho4
  have hbg := lt_of_heap gg
  have hB6 : Below w.heap.size w w6 := hB4.trans (hb6.mono hB4.size)
  have z1 := hb2.size
  have z2 := hb4.size
  have z3 := hb6.size
  have hr1 := hw6.rows
  have hr3 := hl6.rows
  have hr5 := ho6.rows
  rw [e1] at hr1
  rw [e3] at hr3
  rw [e5] at hr5
  have HTO : Hid (∀ r ∈ xs, r.to.length ≤ 1000000) := fun r hr => Nat.le_trans (HF1.out r hr) (by omega)
  have ha := sameRows_any v3 v1 xs w6 (by omega) HTO.out hr3 hr1
  refine ha.mono ?_
  rintro e w7 ⟨rfl, hb7⟩
  have hb := sameRows_any v5 v1 xs w7 (by omega) HTO.out (hr5.below hb7) (hr1.below hb7)
  clear hr1 hr3 hr5
  go_wp2_with fail
  refine hb.mono ?_
  rintro e w8 ⟨rfl, hb8⟩
  have hb68 : Below w6.heap.size w6 w8 := hb7.trans (hb8.mono hb7.size)
  have gf8 := Below.heapAt hb68 gf6 (lt_of_heap gf6)
  have ge8 := Below.heapAt hb68 ge6 (lt_of_heap ge6)
  have gg8 := Below.heapAt hb68 gg (lt_of_heap gg)
  have hl8 := hl6.below hb68
  have ho8 := ho6.below hb68
  have hB8 : Below w.heap.size w w8 := hB6.trans (hb68.mono hB6.size)
  have hbk := HB.out.below hB8
  clear ha hb hb7 hb8 gf6 ge6 gg hl6 ho6 hw6
  have z4 := hb68.size
  have hold : ∀ u ∈ ts ++ rs, ∀ g, u.ownBlock = some g → g < w.heap.size := by
    intro u hu g hg
    rcases List.mem_append.1 hu with hu | hu
    · obtain ⟨i, hi⟩ := List.getElem?_of_mem hu
      obtain ⟨q, _, ho⟩ := HB.out.tlists i u hi
      exact (ho.lt g hg).2
    · obtain ⟨i, hi⟩ := List.getElem?_of_mem hu
      obtain ⟨q, _, ho⟩ := HB.out.rlists i u hi
      exact (ho.lt g hg).2
  have l3 : p3.length = xs.length := by rw [← e3, List.length_map]
  have l5 : p5.length = xs.length := by rw [← e5, List.length_map]
  have hto : ∀ (p : List (RowD × Value)), p.map Prod.fst = xs → ∀ x ∈ p, x.1.to.length ≤ 30000 := by
    intro p hp x hx
    have : x.1 ∈ xs := by rw [← hp]; exact List.mem_map_of_mem hx
    exact Nat.le_trans (HF1.out _ this) (by omega)
  have hk1 := keepRows_any B kb w2.heap.size be ts T rs R v3 p3 w8 (by omega) (by omega) hmod hmodr (by omega) (by omega) (by omega) (hto p3 e3) hbk hl8 (fun u hu g hg => .inl (by have := hold u hu g hg; omega))
  go_wp2_with fail
  refine hk1.mono ?_
  rintro e w9 ⟨rfl, ts1, T1, R1, l1, l2, l3', hbk1, hlen1, hnt1, hnr1, hBl, hft1⟩
  have gf9 := hft1 _ _ _ _ gf8 (by decide) (by decide) (by decide) (.inl hbf)
  have ge9 := hft1 _ _ _ _ ge8 (by decide) (by decide) (by decide) (.inr (Nat.le_refl _))
  have gg9 := hft1 _ _ _ _ gg8 (by decide) (by decide) (by decide) (.inr (by omega))
  have ho9 : OwnR w9 w4.heap.size bg v5 p5 := by
    have hge : ∀ {e : TypeId} {size q : Nat} {u : Value} {ys : List Value}, w8.ownsRow w4.heap.size e size u q ys → ∀ g, u.ownBlock = some g → g < w2.heap.size ∨ be ≤ g := fun ho g hg => .inr (by have := (ho.lt g hg).1; omega)
    exact ⟨hft1.own ho8.row (by decide) (by decide) (by decide) (hge ho8.row), ho8.top, fun i r tv hp => hft1.own (ho8.tos i r tv hp) (by decide) (by decide) (by decide) (hge (ho8.tos i r tv hp)), ho8.ttop, ho8.sep⟩
  have hap2 : ∀ u ∈ ts1 ++ (rs ++ [v3, l1, l2, l3']), ∀ g, u.ownBlock = some g → g < w4.heap.size ∨ bg ≤ g := by
    intro u hu g hg
    rcases List.mem_append.1 hu with hu | hu
    · rcases hnt1 u hu with h | h
      · exact .inl (by have := hold u (List.mem_append_left _ h) g hg; omega)
      · rcases h g hg with h | h
        · exact .inl (by omega)
        · exact .inr (by omega)
    · rcases List.mem_append.1 hu with hu | hu
      · exact .inl (by have := hold u (List.mem_append_right _ hu) g hg; omega)
      · rcases hnr1 u hu g hg with h | h
        · exact .inl (by omega)
        · exact .inr (by omega)
  have z9 := hBl.size
  have hlr1 : (rs ++ [v3, l1, l2, l3']).length = rs.length + 4 := by simp
  have hk2 := keepRows_any B kb w4.heap.size bg ts1 T1 (rs ++ [v3, l1, l2, l3']) R1 v5 p5 w9 (by omega) (by omega) (by omega) (by omega) (by omega) (by omega) (by omega) (hto p5 e5) hbk1 ho9 hap2
  clear hk1 hft1 hnt1 hnr1 gf8 ge8 gg8
  go_wp2_with fail
  refine hk2.mono ?_
  rintro e w10 ⟨rfl, ts2, T2, R2, m1, m2, m3, hbk2, hlen2, _, _, hBm, hft2⟩
  have gf10 := hft2 _ _ _ _ gf9 (by decide) (by decide) (by decide) (.inl (by omega))
  have ge10 := hft2 _ _ _ _ ge9 (by decide) (by decide) (by decide) (.inl (by omega))
  have gg10 := hft2 _ _ _ _ gg9 (by decide) (by decide) (by decide) (.inr (Nat.le_refl _))
  have hlr2 : ((rs ++ [v3, l1, l2, l3']) ++ [v5, m1, m2, m3]).length = rs.length + 8 := by simp
  have hst := staysR_any B kb ts2 T2 _ R2 w10 (by omega) (by rw [hlr2]; omega) hbk2
  clear hk2 hft2 gf9 ge9 gg9 hap2 ho9 ho8 hl8 hold hto
  go_wp2_with fail
  refine hst.mono ?_
  rintro e w11 ⟨rfl, hb11⟩
  have hf := Below.heapAt hb11 gf10 (lt_of_heap gf10)
  have he := Below.heapAt hb11 ge10 (lt_of_heap ge10)
  have hg := Below.heapAt hb11 gg10 (lt_of_heap gg10)
  have hbk3 := hbk2.below hb11
  have z8 := hB8.size
  have z10 := hBm.size
  have hB11 : Below B w w11 := (hB8.mono hBw).trans (hBl.trans (hBm.trans (hb11.mono (by omega))))
  obtain ⟨a0, a1, _, _⟩ := err_cells hf
  obtain ⟨a2, a3, _, _⟩ := err_cells he
  obtain ⟨a4, a5, _, _⟩ := err_cells hg
  have q1 := eql_err k n
  have q3 := guardErr
  have hfin : ts2.length ≤ ts.length + 208000 ∧ ts2.length % 4 = 0 := ⟨by omega, by omega⟩
  have HF := hide (And.intro hfin (And.intro hlr2 (And.intro hbk3 hB11)))
  clear hst hf he hg hbk3 hB11 hbk hbk1 hbk2 gf10 ge10 gg10 hfin hlr1 hlr2 hlen1 hlen2 hBl hBm hB8 hb68 hb11 z8 z9 z10
  go_wp2
  go_ret
  exact ⟨rfl, ts2, T2, _, R2, HF.out.1.1, HF.out.1.2, HF.out.2.1, HF.out.2.2.1, HF.out.2.2.2⟩

end Go.Proofs.YtiamlbhkiehilaaDoor
