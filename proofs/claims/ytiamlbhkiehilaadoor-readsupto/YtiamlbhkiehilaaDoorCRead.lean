import Derived.Test.YtiamlbhkiehilaaDoorRRead
import Derived.Test.YtiamlbhkiehilaaDoorCRow
import Derived.Test.YtiamlbhkiehilaaDoorSplitSpec
import Derived.Test.YtiamlbhkiehilaaDoorShelf
namespace Go.Proofs.YtiamlbhkiehilaaDoor
open Go.RowKit Go.Maps

set_option maxRecDepth 100000 in
set_option maxHeartbeats 2000000 in
theorem cread_any (s : ByteArray) (w : World) (m : Int) (hs : s.size ≤ maxLen) (hm : w.cell? ⟨0, 0, none⟩ = some (.int .i64 m)) :
    Calls Tryd.prog 23 #[.string s] w fun e w' => RdRes w w' s e := by
  unfold maxLen at hs
  obtain ⟨i0, hi0, hz0, hz1, hz2⟩ := info_parts infoRow
  have g0 := heap_new w (.cells #[.int .i64 0, .int .i64 0] 34)
  have hb0 : Below w.heap.size w (w.alloc (.cells #[.int .i64 0, .int .i64 0] 34)) := (Below.refl _ _).alloc (Nat.le_refl _) _
  by_cases hbig : 25000 < s.size
  · have HE : Hid (readB s = ([], 2, 0)) := by unfold Hid readB; rw [if_pos hbig]
    go_enter Tryd.func23, Tryd.ntmps23
    go_wp2_with fail
    refine bodyPost_ret (v := .tuple #[.slice none 0 0, .agg #[.int .i64 2, .int .i64 0]]) (by simp [results, Tryd.results23, go_sem]) rfl (RdRes.bad HE.out ?_)
    exact (Below.refl _ _).alloc (Nat.le_refl _) _
  · have HE : Hid (readB s = readGo [] noB 0 (linesB s)) := by unfold Hid readB; rw [if_neg hbig]
    have hsp' := split_lines s
    have hcl := Lib.splitB_all ⟨#[10]⟩ (by decide) 0 _ s rfl
    rw [hsp'] at hcl
    go_enter Tryd.func23, Tryd.ntmps23
    go_wp2_with fail
    generalize w.alloc (.cells #[.int .i64 0, .int .i64 0] 34) = w0 at g0 hb0 ⊢
    have hl0 := lt_of_heap g0
    have hm0 : w0.cell? ⟨0, 0, none⟩ = some (.int .i64 m) := by rw [hb0.cell (World.block_lt_of_cell? _ _ hm)]; exact hm
    refine (Tryd.strings_Split s ⟨#[10]⟩ m w0 (by omega) hm0 (by decide)).mono ?_
    rintro e w1 ⟨rfl, hw1⟩
    rw [← hcl]
    rw [hsp'] at hw1
    have g3 := heap_new w0 (.cells ((linesB s).map Value.string).toArray 9)
    have hb1 : Below w0.heap.size w0 (w0.alloc (.cells ((linesB s).map Value.string).toArray 9)) := (Below.refl _ _).alloc (Nat.le_refl _) _
    rw [← hw1] at g3 hb1
    clear hw1 hm0 hcl hsp'
    have g1 := Below.heapAt hb1 g0 hl0
    have hB1 : Below w.heap.size w w1 := hb0.trans (hb1.mono hb0.size)
    have hls := linesB_len s
    have HSZ := hide (linesB_size s)
    have hpos : 0 < (linesB s).length := by simp [linesB]
    have HRD := hide (fun (i : Nat) l (hl : (linesB s)[i]? = some l) => show w1.cell? ⟨w0.heap.size, i, none⟩ = some (.string l) from by rw [cell_at g3]; simp [hl])
    have hgl := lt_of_heap g3
    clear g3 hb1 g0 hb0
    generalize linesB s = ls at *
    generalize w0.heap.size = g at *
    obtain ⟨n, hn⟩ : ∃ n, ls.length = n + 1 := ⟨ls.length - 1, by omega⟩
    rw [hn]
    go_wp2_with fail
    go_loopw [6, 7, 26] (fun v lv iv wr => ∃ (i : Nat) (last : ByteArray) (ps : List (RowD × Value)), lv = .string last ∧ iv = .int .i64 i ∧ RdInv w1 wr ls i v last ps) (fun _ _ iv _ => ls.length - (intOf iv).toNat)
    case atStart => exact ⟨0, noB, [], rfl, rfl, hpos, rfl, by simp, OwnR.nil _ _ _, Below.refl _ _⟩
    case round =>
      obtain ⟨i, last, ps, rfl, rfl, hi⟩ := hrel
      have hblw := hi.blw
      have hown := hi.own
      have hit := hi.lt
      have hcnt := hi.cnt
      have hwl : w.heap.size < w1.heap.size := lt_of_heap g1
      have g2 := Below.heapAt hblw g1 hwl
      have hBx : Below w.heap.size w wr := hB1.trans (hblw.mono (Nat.le_of_lt hwl))
      obtain ⟨l, hl⟩ : ∃ l, ls[i]? = some l := ⟨_, List.getElem?_eq_getElem hit⟩
      have cl : wr.cell? ⟨g, i, none⟩ = some (.string l) := (World.cell?_of_block (w := w1) (a := ⟨g, i, none⟩) (hblw.block g hgl)).trans (HRD.out i l hl)
      have heq := hi.eqn
      rw [drop_here hl] at heq
      have hlsz := HSZ.out l (List.mem_of_getElem? hl)
      by_cases hlast : i = n
      · subst hlast
        have hd : ls.drop (i + 1) = [] := by rw [← hn, List.drop_length]
        rw [hd, readGo_last] at heq
        obtain ⟨c0, c1, f0, f1⟩ := err_cells g2
        by_cases hz : l.size = 0
        · rw [if_pos hz] at heq
          have HF : Hid (readB s = (ps.map Prod.fst, 0, 0)) := HE.out.trans heq
          have hl0' := size_zero hz
          subst hl0'
          clear hi heq hl g2
          go_wp2_with fail
          refine bodyPost_ret (v := .tuple #[u6, .agg #[.int .i64 0, .int .i64 0]]) (by simp [results, Tryd.results23, go_sem, c0, c1]) rfl ⟨u6, ps, by rw [HF.out], by rw [HF.out], ?_, ?_⟩
          · exact (((hown.store hwl).store hwl).low (Nat.le_of_lt hwl)).high (by simp [World.setCell])
          · exact (hBx.setCell (p := ⟨w.heap.size, 0, none⟩) (Nat.le_refl _) _).setCell (p := ⟨w.heap.size, 1, none⟩) (Nat.le_refl _) _
        · rw [if_neg hz] at heq
          have HF : Hid (readB s = ([], 4, (i : Int) + 1)) := HE.out.trans heq
          have hne := not_empty hz
          clear hi heq hl g2
          go_wp2_with fail
          refine bodyPost_ret (v := .tuple #[.slice none 0 0, .agg #[.int .i64 4, .int .i64 ((i : Int) + 1)]]) (by simp [results, Tryd.results23, go_sem, c0, c1]) rfl (RdRes.bad HF.out ?_)
          exact (hBx.setCell (p := ⟨w.heap.size, 0, none⟩) (Nat.le_refl _) _).setCell (p := ⟨w.heap.size, 1, none⟩) (Nat.le_refl _) _
      · obtain ⟨l', hl'⟩ : ∃ l', ls[i + 1]? = some l' := ⟨_, List.getElem?_eq_getElem (by omega)⟩
        rw [drop_here hl'] at heq
        have HQ := hide heq
        have HL' := hide hl'
        have hin : i < n := by omega
        clear heq hi hl'
        go_wp2_with fail
        refine (crow_any l wr (by omega)).mono ?_
        rintro e w2 (⟨hno, rfl, hb2⟩ | ⟨r, tv, hr, rfl, ho2, hb2⟩)
        · have HF : Hid (readB s = ([], 4, (i : Int) + 1)) := HE.out.trans (HQ.out.trans (readGo_form hno))
          have g3 := heap_old (Below.heapAt hb2 g2 (lt_of_heap g2)) (.cells #[.string ⟨#[]⟩, .slice none 0 0] 54)
          have hB3 : Below w.heap.size w (w2.alloc (.cells #[.string ⟨#[]⟩, .slice none 0 0] 54)) := (hBx.trans (hb2.mono hBx.size)).alloc (Nat.le_trans hBx.size hb2.size) _
          have g4 := heap_new w2 (.cells #[.string ⟨#[]⟩, .slice none 0 0] 54)
          go_wp2_with fail
          generalize w2.alloc (.cells #[.string ⟨#[]⟩, .slice none 0 0] 54) = w3 at g3 g4 hB3 ⊢
          refine (check_any ⟨#[]⟩ (.slice none 0 0) [] false last w3 (by decide) (by decide) ⟨none, 0, rfl, Nat.le_refl _, fun _ => rfl, fun h => absurd rfl h⟩ (fun x hx => by simp at hx)).mono ?_
          rintro e w4 ⟨rfl, hb4⟩
          have hck : chk false ⟨⟨#[]⟩, []⟩ last = 4 := rfl
          rw [hck]
          have g5 := Below.heapAt hb4 g3 (lt_of_heap g3)
          have hB4 : Below w.heap.size w w4 := hB3.trans (hb4.mono hB3.size)
          obtain ⟨c0, c1, f0, f1⟩ := err_cells g5
          clear hno hown g2 g3 g4 g5 cl
          go_wp2_with fail
          refine bodyPost_ret (v := .tuple #[.slice none 0 0, .agg #[.int .i64 4, .int .i64 ((i : Int) + 1)]]) (by simp [results, Tryd.results23, go_sem, c0, c1]) rfl (RdRes.bad HF.out ?_)
          exact (hB4.setCell (p := ⟨w.heap.size, 0, none⟩) (Nat.le_refl _) _).setCell (p := ⟨w.heap.size, 1, none⟩) (Nat.le_refl _) _
        · obtain ⟨ta, tc, rfl, _⟩ := own_form ho2
          obtain ⟨q1, q2, q3⟩ := refRow_fits (lineRow_ref hr).1
          have HR := hide hr
          have g3 := heap_old (Below.heapAt hb2 g2 (lt_of_heap g2)) (.cells #[.string r.name, .slice ta r.to.length tc] 54)
          have hb3 : Below wr.heap.size wr (w2.alloc (.cells #[.string r.name, .slice ta r.to.length tc] 54)) := hb2.alloc hb2.size _
          have g4 := heap_new w2 (.cells #[.string r.name, .slice ta r.to.length tc] 54)
          have ho3 := ho2.alloc (.cells #[.string r.name, .slice ta r.to.length tc] 54)
          go_wp2_with fail
          generalize w2.alloc (.cells #[.string r.name, .slice ta r.to.length tc] 54) = w3 at g3 g4 hb3 ho3 ⊢
          refine (check_any r.name (.slice ta r.to.length tc) r.to true last w3 (by unfold maxLen; omega) (by unfold maxLen; omega) (strs_of_owns ho3) (fun x hx => by have := q3 x hx; unfold maxLen; omega)).mono ?_
          rintro e w4 ⟨rfl, hb4⟩
          have g5 := Below.heapAt hb4 g3 (lt_of_heap g3)
          have g6 := Below.heapAt hb4 g4 (lt_of_heap g4)
          have ho4 := own_below ho3 hb4
          have hb5 : Below wr.heap.size wr w4 := hb3.trans (hb4.mono hb3.size)
          have hB4 : Below w.heap.size w w4 := hBx.trans (hb5.mono hBx.size)
          have hbl4 : Below w1.heap.size w1 w4 := hblw.trans (hb5.mono hblw.size)
          have hown4 := hown.below hb5
          obtain ⟨c0, c1, f0, f1⟩ := err_cells g5
          obtain ⟨d0, d1, e0, e1⟩ := err_cells g6
          have HO4 := hide ho4
          have HW4 := hide hown4
          have G6 := hide g6
          have hz2w : wr.heap.size ≤ w2.heap.size := hb2.size
          clear ho2 ho3 ho4 hown hown4 hb2 hb3 hb4 g2 g3 g4 g5 g6 e0 e1 cl hr hb5
          have hen : chk true ⟨r.name, r.to⟩ last = chk true r last := rfl
          rw [hen]
          clear hen
          by_cases herr : chk true r last = 0
          · have HN : Hid (readGo [] noB 0 ls = readGo ((ps ++ [(r, Value.slice ta r.to.length tc)]).map Prod.fst) r.name (i + 1) (ls.drop (i + 1))) := by
              unfold Hid
              rw [drop_here HL'.out, HQ.out, readGo_add HR.out herr]
              simp
            rw [herr]
            clear herr
            go_wp2_with (first | (at_builtin; refine wpList_append_own _ rfl _ _ 40 rfl w1.heap.size 54 i0 (.agg #[.string ⟨#[]⟩, .slice none 0 0]) 2 40 Tryd.underlying40 hi0 hz0 hz1 hz2 rfl (by decide) _ _ _ rfl (HW4.out.row.alloc _) ⟨w4.heap.size, 0, none⟩ 1 1 [.string r.name, .slice ta r.to.length tc] rfl rfl (cells_new _ _ _ _ rfl) ?x6 ?x7 ?x8 ?x9 ?_) | go_in)
            case x6 => intro u hu; simp at hu; rcases hu with rfl | rfl <;> rfl
            case x7 => unfold maxLen; omega
            case x8 => omega
            case x9 => have := hbl4.size; simp; omega
            intro v' w5 hown5 hgrow5 _
            have hb6 : Below w1.heap.size w1 w5 := (hbl4.alloc hbl4.size _).grown hgrow5 (by have := hbl4.size; simp; omega) (fun j hj => (HW4.out.row.lt j hj).1)
            have hpu := HW4.out.push hblw.size HO4.out hown5 hgrow5
            have g7 : w5.heap[w2.heap.size]? = some (.cells #[.string r.name, .slice ta r.to.length tc] 54 (0, 0)) := (hgrow5.block _ (by have := lt_of_heap G6.out; simp; omega) (fun e => by have := HW4.out.top _ e.symm; omega)).trans (heap_old G6.out _)
            obtain ⟨d0', d1', _, _⟩ := err_cells g7
            clear hown5 hgrow5 g7 d0 d1
            go_wp2_with fail
            go_round
            case rel => exact ⟨i + 1, r.name, ps ++ [(r, .slice ta r.to.length tc)], rfl, by go_num, by omega, HN.out, by rw [List.length_append]; show ps.length + 1 ≤ _; omega, hpu, hb6⟩
            case measure => simp [intOf]; omega
          · have HF : Hid (readB s = ([], chk true r last, (i : Int) + 1)) := HE.out.trans (HQ.out.trans (readGo_bad HR.out herr))
            have heb : (chk true r last == 0) = false := beq_false_of_ne herr
            generalize chk true r last = er at *
            go_wp2_with fail
            refine bodyPost_ret (v := .tuple #[.slice none 0 0, .agg #[.int .i64 er, .int .i64 ((i : Int) + 1)]]) (by simp [results, Tryd.results23, go_sem, c0, c1]) rfl (RdRes.bad HF.out ?_)
            exact (hB4.setCell (p := ⟨w.heap.size, 0, none⟩) (Nat.le_refl _) _).setCell (p := ⟨w.heap.size, 1, none⟩) (Nat.le_refl _) _

end Go.Proofs.YtiamlbhkiehilaaDoor
