import Derived.Test.YtiamlbhkiehilaaDoorRdMem
import Derived.Test.YtiamlbhkiehilaaDoorBehind
namespace Go.Proofs.YtiamlbhkiehilaaDoor
open Go.RowKit Go.Maps

theorem size_zero {l : ByteArray} (h : l.size = 0) : l = ⟨#[]⟩ := by
  obtain ⟨⟨l⟩⟩ := l
  cases l with
  | nil => rfl
  | cons a b => simp [ByteArray.size] at h

theorem not_empty {l : ByteArray} (h : ¬ l.size = 0) : l.toList.isEmpty = false := by
  rw [ByteArray.toList_eq]
  obtain ⟨⟨l⟩⟩ := l
  cases l with
  | nil => exact absurd rfl h
  | cons a b => rfl

set_option maxRecDepth 100000 in
set_option maxHeartbeats 2000000 in
theorem rread_any (s : ByteArray) (w : World) (hs : s.size ≤ maxLen) :
    Calls Tryd.prog 12 #[.string s] w fun e w' => RdRes w w' s e := by
  unfold maxLen at hs
  obtain ⟨i0, hi0, hz0, hz1, hz2⟩ := info_parts infoRow
  have g0 := heap_new w (.cells #[.int .i64 0, .int .i64 0] 34)
  have hb0 : Below w.heap.size w (w.alloc (.cells #[.int .i64 0, .int .i64 0] 34)) := (Below.refl _ _).alloc (Nat.le_refl _) _
  by_cases hbig : 25000 < s.size
  · have HE : Hid (readB s = ([], 2, 0)) := by unfold Hid readB; rw [if_pos hbig]
    go_enter Tryd.func12, Tryd.ntmps12
    go_wp2_with fail
    refine bodyPost_ret (v := .tuple #[.slice none 0 0, .agg #[.int .i64 2, .int .i64 0]]) (by simp [results, Tryd.results12, go_sem]) rfl (RdRes.bad HE.out ?_)
    exact (Below.refl _ _).alloc (Nat.le_refl _) _
  · have HE : Hid (readB s = readGo [] noB 0 (linesB s)) := by unfold Hid readB; rw [if_neg hbig]
    go_enter Tryd.func12, Tryd.ntmps12
    go_wp2_with fail
    generalize w.alloc (.cells #[.int .i64 0, .int .i64 0] 34) = w0 at g0 hb0 ⊢
    have hl0 := lt_of_heap g0
    refine (lines_any s w0 (by omega)).mono ?_
    rintro e w1 ⟨v, rfl, hown, hb1⟩
    have g1 := Below.heapAt hb1 g0 hl0
    have hB1 : Below w.heap.size w w1 := hb0.trans (hb1.mono hb0.size)
    have hls := linesB_len s
    have HSZ := hide (linesB_size s)
    have hpos : 0 < (linesB s).length := by simp [linesB]
    obtain ⟨g, cap, rfl, hnc, hgl, hgB, hrd⟩ := row_reads hown hpos
    have HRD := hide hrd
    clear hrd hown hb1 g0 hb0
    generalize linesB s = ls at *
    go_wp2_with fail
    go_loopw [4, 6, 7] (fun v lv iv wr => ∃ (i : Nat) (last : ByteArray) (ps : List (RowD × Value)), lv = .string last ∧ iv = .int .i64 i ∧ RdInv w1 wr ls i v last ps) (fun _ _ iv _ => ls.length - (intOf iv).toNat)
    case atStart => exact ⟨0, noB, [], rfl, rfl, hpos, rfl, by simp, OwnR.nil _ _ _, Below.refl _ _⟩
    case round =>
      obtain ⟨i, last, ps, rfl, rfl, hi⟩ := hrel
      have hblw := hi.blw
      have hown := hi.own
      have hit := hi.lt
      have hcnt := hi.cnt
      have hwl : w.heap.size < w1.heap.size := lt_of_heap g1
      have g2 := Below.heapAt hblw g1 hwl
      have hBx : Below w.heap.size w wr := hB1.trans (hblw.mono (Nat.le_of_lt hwl))
      obtain ⟨l, hl⟩ : ∃ l, ls[i]? = some l := ⟨_, List.getElem?_eq_getElem hit⟩
      have cl : wr.cell? ⟨g, i, none⟩ = some (.string l) := (World.cell?_of_block (w := w1) (a := ⟨g, i, none⟩) (hblw.block g hgl)).trans (HRD.out i l hl)
      have heq := hi.eqn
      rw [drop_here hl] at heq
      have hlsz := HSZ.out l (List.mem_of_getElem? hl)
      by_cases hlast : i + 1 = ls.length
      · have hd : ls.drop (i + 1) = [] := by rw [hlast, List.drop_length]
        rw [hd, readGo_last] at heq
        have hq : ((i : Int) == (ls.length : Int) - 1) = true := by simp; omega
        obtain ⟨c0, c1, f0, f1⟩ := err_cells g2
        by_cases hz : l.size = 0
        · rw [if_pos hz] at heq
          have HF : Hid (readB s = (ps.map Prod.fst, 0, 0)) := HE.out.trans heq
          have hl0' := size_zero hz
          subst hl0'
          clear hi heq hl g2
          go_wp2_with fail
          refine bodyPost_ret (v := .tuple #[u4, .agg #[.int .i64 0, .int .i64 0]]) (by simp [results, Tryd.results12, go_sem, c0, c1]) rfl ⟨u4, ps, by rw [HF.out], by rw [HF.out], ?_, ?_⟩
          · exact (((hown.store hwl).store hwl).low (Nat.le_of_lt hwl)).high (by simp [World.setCell])
          · exact (hBx.setCell (p := ⟨w.heap.size, 0, none⟩) (Nat.le_refl _) _).setCell (p := ⟨w.heap.size, 1, none⟩) (Nat.le_refl _) _
        · rw [if_neg hz] at heq
          have HF : Hid (readB s = ([], 4, (i : Int) + 1)) := HE.out.trans heq
          have hne := not_empty hz
          clear hi heq hl g2
          go_wp2_with fail
          refine bodyPost_ret (v := .tuple #[.slice none 0 0, .agg #[.int .i64 4, .int .i64 ((i : Int) + 1)]]) (by simp [results, Tryd.results12, go_sem, c0, c1]) rfl (RdRes.bad HF.out ?_)
          exact (hBx.setCell (p := ⟨w.heap.size, 0, none⟩) (Nat.le_refl _) _).setCell (p := ⟨w.heap.size, 1, none⟩) (Nat.le_refl _) _
      · have hq : ((i : Int) == (ls.length : Int) - 1) = false := beq_false_of_ne (by omega)
        obtain ⟨l', hl'⟩ : ∃ l', ls[i + 1]? = some l' := ⟨_, List.getElem?_eq_getElem (by omega)⟩
        rw [drop_here hl'] at heq
        have HQ := hide heq
        have HL' := hide hl'
        clear heq hi hl'
        go_wp2_with fail
        refine (rrow_any l wr (by omega)).mono ?_
        rintro e w2 (⟨hn, rfl, hb2⟩ | ⟨r, tv, hr, rfl, ho2, hb2⟩)
        · have HF : Hid (readB s = ([], 4, (i : Int) + 1)) := HE.out.trans (HQ.out.trans (readGo_form (ref_none hn)))
          have g3 := heap_old (Below.heapAt hb2 g2 (lt_of_heap g2)) (.cells #[.string ⟨#[]⟩, .slice none 0 0] 54)
          have hB3 : Below w.heap.size w (w2.alloc (.cells #[.string ⟨#[]⟩, .slice none 0 0] 54)) := (hBx.trans (hb2.mono hBx.size)).alloc (Nat.le_trans hBx.size hb2.size) _
          have g4 := heap_new w2 (.cells #[.string ⟨#[]⟩, .slice none 0 0] 54)
          go_wp2_with fail
          generalize w2.alloc (.cells #[.string ⟨#[]⟩, .slice none 0 0] 54) = w3 at g3 g4 hB3 ⊢
          refine (behind_any ⟨#[]⟩ (.slice none 0 0) [] last w3 (by decide) (by decide) ⟨none, 0, rfl, Nat.le_refl _, fun _ => rfl, fun h => absurd rfl h⟩ (fun x hx => by simp at hx)).mono ?_
          rintro e w4 ⟨rfl, hb4⟩
          generalize rowErr ⟨⟨#[]⟩, []⟩ last = er
          have g5 := Below.heapAt hb4 g3 (lt_of_heap g3)
          have hB4 : Below w.heap.size w w4 := hB3.trans (hb4.mono hB3.size)
          obtain ⟨c0, c1, f0, f1⟩ := err_cells g5
          clear hn hown g2 g3 g4 g5 cl
          go_wp2_with fail
          refine bodyPost_ret (v := .tuple #[.slice none 0 0, .agg #[.int .i64 4, .int .i64 ((i : Int) + 1)]]) (by simp [results, Tryd.results12, go_sem, c0, c1]) rfl (RdRes.bad HF.out ?_)
          exact (hB4.setCell (p := ⟨w.heap.size, 0, none⟩) (Nat.le_refl _) _).setCell (p := ⟨w.heap.size, 1, none⟩) (Nat.le_refl _) _
        · obtain ⟨ta, tc, rfl, _⟩ := own_form ho2
          obtain ⟨q1, q2, q3⟩ := refRow_fits hr
          have hrc := ref_cases hr last
          have g3 := heap_old (Below.heapAt hb2 g2 (lt_of_heap g2)) (.cells #[.string r.name, .slice ta r.to.length tc] 54)
          have hb3 : Below wr.heap.size wr (w2.alloc (.cells #[.string r.name, .slice ta r.to.length tc] 54)) := hb2.alloc hb2.size _
          have g4 := heap_new w2 (.cells #[.string r.name, .slice ta r.to.length tc] 54)
          have ho3 := ho2.alloc (.cells #[.string r.name, .slice ta r.to.length tc] 54)
          go_wp2_with fail
          generalize w2.alloc (.cells #[.string r.name, .slice ta r.to.length tc] 54) = w3 at g3 g4 hb3 ho3 ⊢
          refine (behind_any r.name (.slice ta r.to.length tc) r.to last w3 (by unfold maxLen; omega) (by unfold maxLen; omega) (strs_of_owns ho3) (fun x hx => by have := q3 x hx; unfold maxLen; omega)).mono ?_
          rintro e w4 ⟨rfl, hb4⟩
          have g5 := Below.heapAt hb4 g3 (lt_of_heap g3)
          have g6 := Below.heapAt hb4 g4 (lt_of_heap g4)
          have ho4 := own_below ho3 hb4
          have hb5 : Below wr.heap.size wr w4 := hb3.trans (hb4.mono hb3.size)
          have hB4 : Below w.heap.size w w4 := hBx.trans (hb5.mono hBx.size)
          have hbl4 : Below w1.heap.size w1 w4 := hblw.trans (hb5.mono hblw.size)
          have hown4 := hown.below hb5
          obtain ⟨c0, c1, f0, f1⟩ := err_cells g5
          obtain ⟨d0, d1, e0, e1⟩ := err_cells g6
          change _ ∨ _ at hrc
          have HO4 := hide ho4
          have HW4 := hide hown4
          clear ho2 ho3 ho4 hown hown4 hb2 hb3 hb4 g2 g3 g4 g5 g6 e0 e1 cl hr hb5
          have hbad : ∀ er : Int, er ≠ 0 → rowErr r last = er → readB s = ([], er, (i : Int) + 1) := by
            intro er hne he
            rcases hrc with ⟨h1, h2⟩ | ⟨h1, h2⟩
            · rw [h2] at he
              rw [← he]
              exact HE.out.trans (HQ.out.trans (readGo_bad h1 (by rw [he]; exact hne)))
            · rw [h2] at he
              rw [← he]
              exact HE.out.trans (HQ.out.trans (readGo_form h1))
          by_cases herr : rowErr r last = 0
          · have HN : Hid (readGo [] noB 0 ls = readGo ((ps ++ [(r, Value.slice ta r.to.length tc)]).map Prod.fst) r.name (i + 1) (ls.drop (i + 1))) := by
              unfold Hid
              rcases hrc with ⟨h1, h2⟩ | ⟨h1, h2⟩
              · rw [drop_here HL'.out, HQ.out, readGo_add h1 (by rw [← h2]; exact herr)]
                simp
              · rw [h2] at herr
                exact absurd herr (by decide)
            have herr' : rowErr ⟨r.name, r.to⟩ last = 0 := herr
            rw [herr']
            clear hrc hbad herr herr'
            go_wp2_with (first | (at_builtin; refine wpList_append_own _ rfl _ _ 40 rfl w1.heap.size 54 i0 (.agg #[.string ⟨#[]⟩, .slice none 0 0]) 2 40 Tryd.underlying40 hi0 hz0 hz1 hz2 rfl (by decide) _ _ _ rfl (HW4.out.row.alloc _) ⟨w4.heap.size, 0, none⟩ 1 1 [.string r.name, .slice ta r.to.length tc] rfl rfl (cells_new _ _ _ _ rfl) ?x6 ?x7 ?x8 ?x9 ?_) | go_in)
            case x6 => intro u hu; simp at hu; rcases hu with rfl | rfl <;> rfl
            case x7 => unfold maxLen; omega
            case x8 => omega
            case x9 => have := hbl4.size; simp; omega
            intro v' w5 hown5 hgrow5 _
            have hb6 : Below w1.heap.size w1 w5 := (hbl4.alloc hbl4.size _).grown hgrow5 (by have := hbl4.size; simp; omega) (fun j hj => (HW4.out.row.lt j hj).1)
            have hpu := HW4.out.push hblw.size HO4.out hown5 hgrow5
            clear hown5 hgrow5
            go_wp2_with fail
            go_round
            case rel => exact ⟨i + 1, r.name, ps ++ [(r, .slice ta r.to.length tc)], rfl, by go_num, by omega, HN.out, by rw [List.length_append]; show ps.length + 1 ≤ _; omega, hpu, hb6⟩
            case measure => simp [intOf]; omega
          · have HF := hide (hbad _ herr rfl)
            have heb : (rowErr r last == 0) = false := beq_false_of_ne herr
            have hen : rowErr ⟨r.name, r.to⟩ last = rowErr r last := rfl
            rw [hen]
            clear hrc hbad hen
            generalize rowErr r last = er at *
            go_wp2_with fail
            refine bodyPost_ret (v := .tuple #[.slice none 0 0, .agg #[.int .i64 er, .int .i64 ((i : Int) + 1)]]) (by simp [results, Tryd.results12, go_sem, c0, c1]) rfl (RdRes.bad HF.out ?_)
            exact (hB4.setCell (p := ⟨w.heap.size, 0, none⟩) (Nat.le_refl _) _).setCell (p := ⟨w.heap.size, 1, none⟩) (Nat.le_refl _) _

end Go.Proofs.YtiamlbhkiehilaaDoor
