import Derived.Test.YtiamlbhkiehilaaGreatDoorBk15
import Derived.Test.YtiamlbhkiehilaaGreatDoorBk17
import Derived.Test.YtiamlbhkiehilaaGreatDoorBk01
import Derived.Test.YtiamlbhkiehilaaGreatDoorShelf
import Derived.Test.YtiamlbhkiehilaaGreatDoorBk03
import Derived.Deep.RegionWith
import Derived.Test.YtiamlbhkiehilaaGreatDoorBk02
import Derived.Test.YtiamlbhkiehilaaGreatDoorBk00
namespace Go.Proofs.YtiamlbhkiehilaaGreatDoor
open Go.RowKit Go.Maps

set_option maxRecDepth 100000 in
set_option maxHeartbeats 2000000 in
theorem cread_any (s : ByteArray) (w : World) (m : Int) (hs : s.size ≤ maxLen) (hm : w.cell? ⟨1, 0, none⟩ = some (.int .i64 m)) :
    Calls Tryz.prog 38 #[.string s] w fun e w' => RdRes w w' s e := by
  unfold maxLen at hs
  obtain ⟨i0, hi0, hz0, hz1, hz2⟩ := info_parts infoRow
  have g0 := heap_new w (.cells #[.int .i64 0, .int .i64 0] 27)
  have hb0 : Below w.heap.size w (w.alloc (.cells #[.int .i64 0, .int .i64 0] 27)) := (Below.refl _ _).alloc (Nat.le_refl _) _
  by_cases hbig : 25000 < s.size
  · have HE : Hid (readB s = ([], 2, 0)) := by unfold Hid readB; rw [if_pos hbig]
    go_enter Tryz.func38, Tryz.ntmps38
    go_wp2_with fail
    refine bodyPost_ret (v := .tuple #[.slice none 0 0, .agg #[.int .i64 2, .int .i64 0]]) (by simp [results, Tryz.results38, go_sem]) rfl (RdRes.bad HE.out ?_)
    exact (Below.refl _ _).alloc (Nat.le_refl _) _
  · have HE : Hid (readB s = readGo [] noB 0 (linesB s)) := by unfold Hid readB; rw [if_neg hbig]
    have hsp' := split_lines s
    have hcl := Lib.splitB_all ⟨#[10]⟩ (by decide) 0 _ s rfl
    rw [hsp'] at hcl
    go_enter Tryz.func38, Tryz.ntmps38
    go_wp2_with fail
    generalize w.alloc (.cells #[.int .i64 0, .int .i64 0] 27) = w0 at g0 hb0 ⊢
    have hl0 := lt_of_heap g0
    have hm0 : w0.cell? ⟨1, 0, none⟩ = some (.int .i64 m) := by rw [hb0.cell (World.block_lt_of_cell? _ _ hm)]; exact hm
    refine (Tryz.strings_Split s ⟨#[10]⟩ m w0 (by omega) hm0 (by decide)).mono ?_
    rintro e w1 ⟨rfl, hw1⟩
    rw [← hcl]
    rw [hsp'] at hw1
    have g3 := heap_new w0 (.cells ((linesB s).map Value.string).toArray 9)
    have hb1 : Below w0.heap.size w0 (w0.alloc (.cells ((linesB s).map Value.string).toArray 9)) := (Below.refl _ _).alloc (Nat.le_refl _) _
    rw [← hw1] at g3 hb1
    clear hw1 hm0 hcl hsp'
    have g1 := Below.heapAt hb1 g0 hl0
    have hB1 : Below w.heap.size w w1 := hb0.trans (hb1.mono hb0.size)
    have hls := linesB_len s
    have HSZ := hide (linesB_size s)
    have hpos : 0 < (linesB s).length := by simp [linesB]
    have HRD := hide (fun (i : Nat) l (hl : (linesB s)[i]? = some l) => show w1.cell? ⟨w0.heap.size, i, none⟩ = some (.string l) from by rw [cell_at g3]; simp [hl])
    have hgl := lt_of_heap g3
    clear g3 hb1 g0 hb0
    generalize linesB s = ls at *
    generalize w0.heap.size = g at *
    obtain ⟨n, hn⟩ : ∃ n, ls.length = n + 1 := ⟨ls.length - 1, by omega⟩
    rw [hn]
    go_wp2_with fail
    go_loopw [6, 7, 26] (fun v lv iv wr => ∃ (i : Nat) (last : ByteArray) (ps : List (RowD × Value)), lv = .string last ∧ iv = .int .i64 i ∧ RdInv w1 wr ls i v last ps) (fun _ _ iv _ => ls.length - (intOf iv).toNat)
    case atStart => exact ⟨0, noB, [], rfl, rfl, hpos, rfl, by simp, OwnR.nil _ _ _, Below.refl _ _⟩
    case round =>
      obtain ⟨i, last, ps, rfl, rfl, hi⟩ := hrel
      have hblw := hi.blw
      have hown := hi.own
      have hit := hi.lt
      have hcnt := hi.cnt
      have hwl : w.heap.size < w1.heap.size := lt_of_heap g1
      have g2 := Below.heapAt hblw g1 hwl
      have hBx : Below w.heap.size w wr := hB1.trans (hblw.mono (Nat.le_of_lt hwl))
      obtain ⟨l, hl⟩ : ∃ l, ls[i]? = some l := ⟨_, List.getElem?_eq_getElem hit⟩
      have cl : wr.cell? ⟨g, i, none⟩ = some (.string l) := (World.cell?_of_block (w := w1) (a := ⟨g, i, none⟩) (hblw.block g hgl)).trans (HRD.out i l hl)
      have heq := hi.eqn
      rw [drop_here hl] at heq
      have hlsz := HSZ.out l (List.mem_of_getElem? hl)
      by_cases hlast : i = n
      · subst hlast
        have hd : ls.drop (i + 1) = [] := by rw [← hn, List.drop_length]
        rw [hd, readGo_last] at heq
        obtain ⟨c0, c1, f0, f1⟩ := err_cells g2
        by_cases hz : l.size = 0
        · rw [if_pos hz] at heq
          have HF : Hid (readB s = (ps.map Prod.fst, 0, 0)) := HE.out.trans heq
          have hl0' := size_zero hz
          subst hl0'
          clear hi heq hl g2
          go_wp2_with fail
          refine bodyPost_ret (v := .tuple #[u6, .agg #[.int .i64 0, .int .i64 0]]) (by simp [results, Tryz.results38, go_sem, c0, c1]) rfl ⟨u6, ps, by rw [HF.out], by rw [HF.out], ?_, ?_⟩
          · exact (((hown.store hwl).store hwl).low (Nat.le_of_lt hwl)).high (by simp [World.setCell])
          · exact (hBx.setCell (p := ⟨w.heap.size, 0, none⟩) (Nat.le_refl _) _).setCell (p := ⟨w.heap.size, 1, none⟩) (Nat.le_refl _) _
        · rw [if_neg hz] at heq
          have HF : Hid (readB s = ([], 4, (i : Int) + 1)) := HE.out.trans heq
          have hne := not_empty hz
          clear hi heq hl g2
          go_wp2_with fail
          refine bodyPost_ret (v := .tuple #[.slice none 0 0, .agg #[.int .i64 4, .int .i64 ((i : Int) + 1)]]) (by simp [results, Tryz.results38, go_sem, c0, c1]) rfl (RdRes.bad HF.out ?_)
          exact (hBx.setCell (p := ⟨w.heap.size, 0, none⟩) (Nat.le_refl _) _).setCell (p := ⟨w.heap.size, 1, none⟩) (Nat.le_refl _) _
      · obtain ⟨l', hl'⟩ : ∃ l', ls[i + 1]? = some l' := ⟨_, List.getElem?_eq_getElem (by omega)⟩
        rw [drop_here hl'] at heq
        have HQ := hide heq
        have HL' := hide hl'
        have hin : i < n := by omega
        clear heq hi hl'
        go_wp2_with fail
        refine (crow_any l wr (by omega)).mono ?_
        rintro e w2 (⟨hno, rfl, hb2⟩ | ⟨r, tv, hr, rfl, ho2, hb2⟩)
        · have HF : Hid (readB s = ([], 4, (i : Int) + 1)) := HE.out.trans (HQ.out.trans (readGo_form hno))
          have g3 := heap_old (Below.heapAt hb2 g2 (lt_of_heap g2)) (.cells #[.string ⟨#[]⟩, .slice none 0 0] 51)
          have hB3 : Below w.heap.size w (w2.alloc (.cells #[.string ⟨#[]⟩, .slice none 0 0] 51)) := (hBx.trans (hb2.mono hBx.size)).alloc (Nat.le_trans hBx.size hb2.size) _
          have g4 := heap_new w2 (.cells #[.string ⟨#[]⟩, .slice none 0 0] 51)
          go_wp2_with fail
          generalize w2.alloc (.cells #[.string ⟨#[]⟩, .slice none 0 0] 51) = w3 at g3 g4 hB3 ⊢
          refine (check_any ⟨#[]⟩ (.slice none 0 0) [] false last w3 (by decide) (by decide) ⟨none, 0, rfl, Nat.le_refl _, fun _ => rfl, fun h => absurd rfl h⟩ (fun x hx => by simp at hx)).mono ?_
          rintro e w4 ⟨rfl, hb4⟩
          have hck : chk false ⟨⟨#[]⟩, []⟩ last = 4 := rfl
          rw [hck]
          have g5 := Below.heapAt hb4 g3 (lt_of_heap g3)
          have hB4 : Below w.heap.size w w4 := hB3.trans (hb4.mono hB3.size)
          obtain ⟨c0, c1, f0, f1⟩ := err_cells g5
          clear hno hown g2 g3 g4 g5 cl
          go_wp2_with fail
          refine bodyPost_ret (v := .tuple #[.slice none 0 0, .agg #[.int .i64 4, .int .i64 ((i : Int) + 1)]]) (by simp [results, Tryz.results38, go_sem, c0, c1]) rfl (RdRes.bad HF.out ?_)
          exact (hB4.setCell (p := ⟨w.heap.size, 0, none⟩) (Nat.le_refl _) _).setCell (p := ⟨w.heap.size, 1, none⟩) (Nat.le_refl _) _
        · obtain ⟨ta, tc, rfl, _⟩ := own_form ho2
          obtain ⟨q1, q2, q3⟩ := refRow_fits (lineRow_ref hr).1
          have HR := hide hr
          have g3 := heap_old (Below.heapAt hb2 g2 (lt_of_heap g2)) (.cells #[.string r.name, .slice ta r.to.length tc] 51)
          have hb3 : Below wr.heap.size wr (w2.alloc (.cells #[.string r.name, .slice ta r.to.length tc] 51)) := hb2.alloc hb2.size _
          have g4 := heap_new w2 (.cells #[.string r.name, .slice ta r.to.length tc] 51)
          have ho3 := ho2.alloc (.cells #[.string r.name, .slice ta r.to.length tc] 51)
          go_wp2_with fail
          generalize w2.alloc (.cells #[.string r.name, .slice ta r.to.length tc] 51) = w3 at g3 g4 hb3 ho3 ⊢
          refine (check_any r.name (.slice ta r.to.length tc) r.to true last w3 (by unfold maxLen; omega) (by unfold maxLen; omega) (strs_of_owns ho3) (fun x hx => by have := q3 x hx; unfold maxLen; omega)).mono ?_
          rintro e w4 ⟨rfl, hb4⟩
          have g5 := Below.heapAt hb4 g3 (lt_of_heap g3)
          have g6 := Below.heapAt hb4 g4 (lt_of_heap g4)
          have ho4 := own_below ho3 hb4
          have hb5 : Below wr.heap.size wr w4 := hb3.trans (hb4.mono hb3.size)
          have hB4 : Below w.heap.size w w4 := hBx.trans (hb5.mono hBx.size)
          have hbl4 : Below w1.heap.size w1 w4 := hblw.trans (hb5.mono hblw.size)
          have hown4 := hown.below hb5
          obtain ⟨c0, c1, f0, f1⟩ := err_cells g5
          obtain ⟨d0, d1, e0, e1⟩ := err_cells g6
          have HO4 := hide ho4
          have HW4 := hide hown4
          have G6 := hide g6
          have hz2w : wr.heap.size ≤ w2.heap.size := hb2.size
          clear ho2 ho3 ho4 hown hown4 hb2 hb3 hb4 g2 g3 g4 g5 g6 e0 e1 cl hr hb5
          have hen : chk true ⟨r.name, r.to⟩ last = chk true r last := rfl
          rw [hen]
          clear hen
          by_cases herr : chk true r last = 0
          · have HN : Hid (readGo [] noB 0 ls = readGo ((ps ++ [(r, Value.slice ta r.to.length tc)]).map Prod.fst) r.name (i + 1) (ls.drop (i + 1))) := by
              unfold Hid
              rw [drop_here HL'.out, HQ.out, readGo_add HR.out herr]
              simp
            rw [herr]
            clear herr
            go_wp2_with (first | (at_builtin; refine wpList_append_own _ rfl _ _ 40 rfl w1.heap.size 51 i0 (.agg #[.string ⟨#[]⟩, .slice none 0 0]) 2 40 Tryz.underlying40 hi0 hz0 hz1 hz2 rfl (by decide) _ _ _ rfl (HW4.out.row.alloc _) ⟨w4.heap.size, 0, none⟩ 1 1 [.string r.name, .slice ta r.to.length tc] rfl rfl (cells_new _ _ _ _ rfl) ?x6 ?x7 ?x8 ?x9 ?_) | go_in)
            case x6 => intro u hu; simp at hu; rcases hu with rfl | rfl <;> rfl
            case x7 => unfold maxLen; omega
            case x8 => omega
            case x9 => have := hbl4.size; simp; omega
            intro v' w5 hown5 hgrow5 _
            have hb6 : Below w1.heap.size w1 w5 := (hbl4.alloc hbl4.size _).grown hgrow5 (by have := hbl4.size; simp; omega) (fun j hj => (HW4.out.row.lt j hj).1)
            have hpu := HW4.out.push hblw.size HO4.out hown5 hgrow5
            have g7 : w5.heap[w2.heap.size]? = some (.cells #[.string r.name, .slice ta r.to.length tc] 51 (0, 0)) := (hgrow5.block _ (by have := lt_of_heap G6.out; simp; omega) (fun e => by have := HW4.out.top _ e.symm; omega)).trans (heap_old G6.out _)
            obtain ⟨d0', d1', _, _⟩ := err_cells g7
            clear hown5 hgrow5 g7 d0 d1
            go_wp2_with fail
            go_round
            case rel => exact ⟨i + 1, r.name, ps ++ [(r, .slice ta r.to.length tc)], rfl, by go_num, by omega, HN.out, by rw [List.length_append]; show ps.length + 1 ≤ _; omega, hpu, hb6⟩
            case measure => simp [intOf]; omega
          · have HF : Hid (readB s = ([], chk true r last, (i : Int) + 1)) := HE.out.trans (HQ.out.trans (readGo_bad HR.out herr))
            have heb : (chk true r last == 0) = false := beq_false_of_ne herr
            generalize chk true r last = er at *
            go_wp2_with fail
            refine bodyPost_ret (v := .tuple #[.slice none 0 0, .agg #[.int .i64 er, .int .i64 ((i : Int) + 1)]]) (by simp [results, Tryz.results38, go_sem, c0, c1]) rfl (RdRes.bad HF.out ?_)
            exact (hB4.setCell (p := ⟨w.heap.size, 0, none⟩) (Nat.le_refl _) _).setCell (p := ⟨w.heap.size, 1, none⟩) (Nat.le_refl _) _

end Go.Proofs.YtiamlbhkiehilaaGreatDoor

namespace Go.Proofs.YtiamlbhkiehilaaGreatDoor
open Go.RowKit Go.Maps

set_option maxRecDepth 100000 in
set_option maxHeartbeats 1000000 in
theorem qread_any (s : ByteArray) (w : World) (m : Int) (hs : s.size ≤ maxLen) (hm : w.cell? ⟨1, 0, none⟩ = some (.int .i64 m)) :
    Calls Tryz.prog 25 #[.string s] w fun e w' => RdRes w w' s e := by
  have g0 := heap_new w (.cells #[.int .i64 0, .int .i64 0] 27)
  have hb0 : Below w.heap.size w (w.alloc (.cells #[.int .i64 0, .int .i64 0] 27)) := (Below.refl _ _).alloc (Nat.le_refl _) _
  have hm0 : (w.alloc (.cells #[.int .i64 0, .int .i64 0] 27)).cell? ⟨1, 0, none⟩ = some (.int .i64 m) := by rw [hb0.cell (World.block_lt_of_cell? _ _ hm)]; exact hm
  go_enter Tryz.func25, Tryz.ntmps25
  go_wp2_with fail
  generalize w.alloc (.cells #[.int .i64 0, .int .i64 0] 27) = w0 at g0 hb0 hm0 ⊢
  have hl0 := lt_of_heap g0
  refine (cread_any s w0 m hs hm0).mono ?_
  rintro e w1 ⟨v, ps, rfl, hps, hown, hb1⟩
  have g1 := Below.heapAt hb1 g0 hl0
  obtain ⟨c0, c1, f0, f1⟩ := err_cells g1
  have hB1 : Below w.heap.size w w1 := hb0.trans (hb1.mono hb0.size)
  generalize hr : readB s = r at hps ⊢
  obtain ⟨fs, k, n⟩ := r
  simp only at hps ⊢
  go_wp2_with fail
  refine bodyPost_ret (v := .tuple #[v, .agg #[.int .i64 k, .int .i64 n]]) (by simp [results, Tryz.results25, go_sem, c0, c1]) rfl ⟨v, ps, by rw [hr], by rw [hr]; exact hps, ?_, ?_⟩
  · exact (((hown.store hl0).store hl0).low (Nat.le_of_lt hl0)).high (by simp [World.setCell])
  · exact (hB1.setCell (p := ⟨w.heap.size, 0, none⟩) (Nat.le_refl _) _).setCell (p := ⟨w.heap.size, 1, none⟩) (Nat.le_refl _) _

end Go.Proofs.YtiamlbhkiehilaaGreatDoor

namespace Go.Proofs.YtiamlbhkiehilaaGreatDoor
open Go.RowKit Go.Maps

set_option maxRecDepth 100000 in
set_option maxHeartbeats 1000000 in
/-- Two lists of the same texts are found the same. -/
theorem sameTexts_any (va vb : Value) (ss : List ByteArray) (w : World) (hlen : ss.length ≤ 1000000) (ha : IsStrs va ss w) (hb : IsStrs vb ss w) :
    Calls Tryz.prog 77 #[va, vb] w fun e w' => e = .returned (.bool true) ∧ Below w.heap.size w w' := by
  obtain ⟨ao, ca, rfl, _, _, hfa⟩ := ha
  obtain ⟨bo, cb, rfl, _, _, hfb⟩ := hb
  have HA := hide hfa
  have HB := hide hfb
  clear hfa hfb
  have hq : ((ss.length : Int) != (ss.length : Int)) = false := by simp
  go_enter Tryz.func77, Tryz.ntmps77
  go_wp2
  go_loopw [5] (fun iv wr => ∃ i : Nat, iv = .int .i64 i ∧ i ≤ ss.length ∧ Below w.heap.size w wr) (fun iv _ => ss.length - (intOf iv).toNat)
  case atStart => exact ⟨0, rfl, Nat.zero_le _, Below.refl _ _⟩
  case round =>
    obtain ⟨i, rfl, hi, hbx⟩ := hrel
    by_cases hlt : i < ss.length
    · obtain ⟨x, hf⟩ : ∃ f, ss[i]? = some f := ⟨_, List.getElem?_eq_getElem hlt⟩
      have hne : ss ≠ [] := by intro e; rw [e] at hlt; simp at hlt
      obtain ⟨b1, o1, h1, hb1, hf1⟩ := HA.out hne
      obtain ⟨b2, o2, h2, hb2, hf2⟩ := HB.out hne
      rw [h1, h2]
      have a0 := (hf1.below hbx hb1) i x hf
      have c0 := (hf2.below hbx hb2) i x hf
      have hxx : (x.toList != x.toList) = false := by simp
      clear hf hf1 hf2
      go_wp2
      go_quiet (fail)
      go_wp2
      go_roundw
      case rel => exact ⟨i + 1, by go_num, hlt, below_drewN hbx _⟩
      case measure => simp [intOf]; omega
    · go_wp2
      go_ret
      exact ⟨rfl, hbx⟩

set_option maxRecDepth 100000 in
set_option maxHeartbeats 1000000 in
/-- Two lists of the same rows are found the same. -/
theorem sameRows_any (va vb : Value) (rs : List RowD) (w : World) (hlen : rs.length ≤ 1000000) (hto : ∀ r ∈ rs, r.to.length ≤ 1000000) (ha : IsRows va rs w) (hb : IsRows vb rs w) :
    Calls Tryz.prog 44 #[va, vb] w fun e w' => e = .returned (.bool true) ∧ Below w.heap.size w w' := by
  obtain ⟨ao, ca, rfl, _, _, hfa⟩ := ha
  obtain ⟨bo, cb, rfl, _, _, hfb⟩ := hb
  have HA := hide hfa
  have HB := hide hfb
  have HT := hide hto
  clear hfa hfb hto
  have hq : ((rs.length : Int) != (rs.length : Int)) = false := by simp
  go_enter Tryz.func44, Tryz.ntmps44
  go_wp2
  go_loopw [5] (fun iv wr => ∃ i : Nat, iv = .int .i64 i ∧ i ≤ rs.length ∧ Below w.heap.size w wr) (fun iv _ => rs.length - (intOf iv).toNat)
  case atStart => exact ⟨0, rfl, Nat.zero_le _, Below.refl _ _⟩
  case round =>
    obtain ⟨i, rfl, hi, hbx⟩ := hrel
    by_cases hlt : i < rs.length
    · obtain ⟨⟨n, tt⟩, hf⟩ : ∃ f, rs[i]? = some f := ⟨_, List.getElem?_eq_getElem hlt⟩
      have hne : rs ≠ [] := by intro e; rw [e] at hlt; simp at hlt
      obtain ⟨b1, o1, h1, hb1, hf1⟩ := HA.out hne
      obtain ⟨b2, o2, h2, hb2, hf2⟩ := HB.out hne
      rw [h1, h2]
      obtain ⟨a0, ta, a1, hta⟩ := (hf1.below hbx hb1) i n tt hf
      obtain ⟨c0, tb, c1, htb⟩ := (hf2.below hbx hb2) i n tt hf
      have HST := hide (sameTexts_any ta tb tt wr.drew (HT.out ⟨n, tt⟩ (List.mem_of_getElem? hf)) (hta.below (Below.refl _ _).drew) (htb.below (Below.refl _ _).drew))
      have hb1' := Nat.lt_of_lt_of_le hb1 hbx.size
      have hb2' := Nat.lt_of_lt_of_le hb2 hbx.size
      have hxx : (n.toList != n.toList) = false := by simp
      clear hf hf1 hf2 hta htb
      go_wp2_with fail
      go_region_with (go_at_call 77; refine HST.out.mono ?_; rintro e w4 ⟨rfl, hb4⟩)
      all_goals
        have hb5 : Below wr.heap.size wr w4 := ⟨hb4.os, hb4.tape, hb4.output, hb4.size, hb4.block⟩
        have a0' := (hb5.cell (p := ⟨b1, _, none⟩) hb1').trans a0
        have c0' := (hb5.cell (p := ⟨b2, _, none⟩) hb2').trans c0
        have hb6 : Below w.heap.size w w4 := hbx.trans (hb5.mono hbx.size)
        clear a0 c0 a1 c1 hb4 hb5
        go_wp2
        go_quiet (fail)
        go_wp2
        go_roundw
        case rel => exact ⟨i + 1, by go_num, hlt, below_drewN hb6 _⟩
        case measure => simp [intOf]; omega
    · go_wp2
      go_ret
      exact ⟨rfl, hbx⟩

end Go.Proofs.YtiamlbhkiehilaaGreatDoor

namespace Go.Proofs.YtiamlbhkiehilaaGreatDoor
open Go.RowKit Go.Maps

theorem readGo_fits (M : Nat) (ls : List ByteArray) : ∀ (pre : List RowD) (last : ByteArray) (n : Nat), (∀ l ∈ ls, l.size ≤ M) → (∀ r ∈ pre, r.to.length ≤ M) → (∀ r ∈ (readGo pre last n ls).1, r.to.length ≤ M) ∧ (readGo pre last n ls).1.length ≤ pre.length + ls.length := by
  induction ls with
  | nil => intro pre last n _ hp; exact ⟨hp, by simp [readGo]⟩
  | cons l q ih =>
    intro pre last n hM hp
    cases q with
    | nil =>
      rw [readGo_last]
      split
      · exact ⟨hp, by simp⟩
      · exact ⟨by simp, by simp⟩
    | cons l' r =>
      cases hl : lineRow l with
      | none => rw [readGo_form hl]; exact ⟨by simp, by simp⟩
      | some x =>
        by_cases he : chk true x last = 0
        · rw [readGo_add hl he]
          have hx : x.to.length ≤ M := Nat.le_trans (refRow_fits (lineRow_ref hl).1).2.1 (hM l (by simp))
          have := ih (pre ++ [x]) x.name (n + 1) (fun y hy => hM y (by simp at hy ⊢; exact .inr hy)) (fun y hy => by
            rcases List.mem_append.1 hy with hy | hy
            · exact hp y hy
            · rw [List.mem_singleton.1 hy]; exact hx)
          refine ⟨this.1, Nat.le_trans this.2 ?_⟩
          simp only [List.length_append, List.length_cons, List.length_nil]
          omega
        · rw [readGo_bad hl he]; exact ⟨by simp, by simp⟩

theorem readB_fits (s : ByteArray) : (∀ r ∈ (readB s).1, r.to.length ≤ 25000) ∧ (readB s).1.length ≤ 26000 := by
  unfold readB
  split
  · exact ⟨by simp, by simp⟩
  · rename_i h
    have h1 := readGo_fits 25000 (linesB s) [] noB 0 (fun l hl => Nat.le_trans (linesB_size s l hl) (by omega)) (by simp)
    have h2 := linesB_len s
    exact ⟨h1.1, by have := h1.2; simp only [List.length_nil] at this; omega⟩

end Go.Proofs.YtiamlbhkiehilaaGreatDoor

namespace Go.Proofs.YtiamlbhkiehilaaGreatDoor
open Go.RowKit

theorem isEmpty_no (s : ByteArray) (h0 : 0 < s.size) : s.toList.isEmpty = false := by
  rw [ByteArray.toList_eq]
  cases h : s.data.toList with
  | nil => simp [ByteArray.size, ← Array.length_toList, h] at h0
  | cons c r => rfl

set_option maxHeartbeats 400000 in
theorem isName_any (s : ByteArray) (w : World) (hs : s.size ≤ maxLen) :
    Calls Tryz.prog 95 #[.string s] w fun e w' => e = .returned (.bool (nameB s.data.toList)) ∧ w' = w := by
  unfold maxLen at hs
  by_cases h0 : 0 < s.size
  · have he : (s.toList.isEmpty) = false := isEmpty_no s h0
    cases hc : startB (s[0].toNat : Int)
    · have HF : Hid (nameB s.data.toList = false) := nameB_first s h0 hc
      have HC : Hid (startB (s[0].toNat : Int) = false) := hc
      clear hc
      go_enter Tryz.func95, Tryz.ntmps95
      go_wp2_with (go_at_call 99; refine (begins_any _ _).mono ?_; rintro e w' ⟨rfl, rfl⟩; rw [HC.out])
      go_ret
      exact ⟨by rw [HF.out]; rfl, rfl⟩
    · have HC : Hid (startB (s[0].toNat : Int) = true) := hc
      have HO : Hid (partsB (s.data.toList.take 1) = true) := parts_first s h0 hc
      clear hc
      go_enter Tryz.func95, Tryz.ntmps95
      go_wp2_with (go_at_call 99; refine (begins_any _ _).mono ?_; rintro e w' ⟨rfl, rfl⟩; rw [HC.out])
      go_loop [3] (fun i => ∃ k : Nat, 1 ≤ k ∧ k ≤ s.size ∧ i = .int .i64 k ∧ partsB (s.data.toList.take k) = true) (fun i => s.size - (intOf i).toNat)
      case atStart => exact ⟨1, Nat.le_refl _, h0, rfl, HO.out⟩
      case round =>
        obtain ⟨k, hk1, hk, rfl, hp0⟩ := hrel
        have HP : Hid (partsB (s.data.toList.take k) = true) := hp0
        clear hp0
        by_cases hlt : k < s.size
        · have hsn := partsB_snoc (s.data.toList.take k) s[k]
          rw [← take_snoc s k hlt, HP.out, Bool.true_and] at hsn
          cases hc : partB (s[k].toNat : Int)
          · rw [hc] at hsn
            have HF : Hid (nameB s.data.toList = false) := nameB_parts _ (partsB_of_take hsn)
            have HC : Hid (partB (s[k].toNat : Int) = false) := hc
            clear hsn hc
            go_wp2_with (go_at_call 100; refine (goesOn_any _ _).mono ?_; rintro e w' ⟨rfl, rfl⟩; rw [HC.out])
            go_ret
            exact ⟨by rw [HF.out]; rfl, rfl⟩
          · rw [hc] at hsn
            have HS : Hid (partsB (s.data.toList.take (k + 1)) = true) := hsn
            have HC : Hid (partB (s[k].toNat : Int) = true) := hc
            clear hsn hc
            go_wp2_with (go_at_call 100; refine (goesOn_any _ _).mono ?_; rintro e w' ⟨rfl, rfl⟩; rw [HC.out])
            go_round
            case rel => exact ⟨k + 1, by omega, by omega, by go_num, HS.out⟩
            case measure => simp [intOf]; omega
        · have HF : Hid (nameB s.data.toList = true) := (nameB_all s h0 (parts_full HP.out (by omega))).trans HC.out
          go_wp2
          go_ret
          exact ⟨by rw [HF.out]; rfl, rfl⟩
  · have HF : Hid (nameB s.data.toList = false) := nameB_empty s (by omega)
    have hse : s = ByteArray.empty := by
      obtain ⟨⟨l⟩⟩ := s
      cases l with
      | nil => rfl
      | cons c r => simp [ByteArray.size] at h0
    subst hse
    go_enter Tryz.func95, Tryz.ntmps95
    go_wp2
    go_ret
    exact ⟨rfl, rfl⟩

end Go.Proofs.YtiamlbhkiehilaaGreatDoor

namespace Go.Proofs.YtiamlbhkiehilaaGreatDoor
open Go.RowKit

set_option maxHeartbeats 400000 in
theorem isFact_any (k : Int) (p q : ByteArray) (w : World) (hp : p.size ≤ maxLen) (hq : q.size ≤ maxLen) :
    Calls Tryz.prog 63 #[.agg #[.int .i64 k, .string p, .string q]] w fun e w' => e = .returned (.bool (factB k p q)) ∧ Below w.heap.size w w' := by
  have hb : ∀ o, Below w.heap.size w (w.alloc o) := fun o => (Below.refl _ _).alloc (Nat.le_refl _) o
  by_cases h1 : 1 ≤ k
  · by_cases h2 : k ≤ 4
    · cases hc : nameB p.data.toList
      · have HC : Hid (nameB p.data.toList = false) := hc
        have HF : Hid (factB k p q = false) := by simp [factB, hc, Hid]
        clear hc
        go_enter Tryz.func63, Tryz.ntmps63
        go_wp2_with (go_at_call 95; refine (isName_any _ _ hp).mono ?_; rintro e w' ⟨rfl, rfl⟩; rw [HC.out])
        go_ret
        exact ⟨by rw [HF.out]; rfl, hb _⟩
      · have HC : Hid (nameB p.data.toList = true) := hc
        have HF : Hid (factB k p q = nameB q.data.toList) := by simp [factB, hc, Hid, h1, h2]
        clear hc
        go_enter Tryz.func63, Tryz.ntmps63
        go_wp2_with fail
        refine (isName_any _ _ hp).mono ?_; rintro e w' ⟨rfl, rfl⟩; rw [HC.out]
        go_wp2_with fail
        refine (isName_any _ _ hq).mono ?_; rintro e w' ⟨rfl, rfl⟩
        go_wp2
        go_ret
        exact ⟨by rw [HF.out]; rfl, hb _⟩
    · have HF : Hid (factB k p q = false) := by simp [factB, h2, Hid]
      go_enter Tryz.func63, Tryz.ntmps63
      go_wp2
      go_ret
      exact ⟨by rw [HF.out]; rfl, hb _⟩
  · have HF : Hid (factB k p q = false) := by simp [factB, h1, Hid]
    go_enter Tryz.func63, Tryz.ntmps63
    go_wp2
    go_ret
    exact ⟨by rw [HF.out]; rfl, hb _⟩

theorem ret_str {a b : ByteArray} (h : a = b) : Ending.returned (.string a) = .returned (.string b) := by rw [h]

set_option maxHeartbeats 400000 in
theorem printLine_any (k : Int) (p q : ByteArray) (w : World) (hp : p.size ≤ 12) (hq : q.size ≤ 12) :
    Calls Tryz.prog 66 #[.agg #[.int .i64 k, .string p, .string q]] w fun e w' => e = .returned (.string (lineB k p q)) ∧ Below w.heap.size w w' := by
  go_enter Tryz.func66, Tryz.ntmps66
  go_wp2
  all_goals
    go_ret
    refine ⟨ret_str ?_, (Below.refl _ _).alloc (Nat.le_refl _) _⟩
    simp_all [lineB]

end Go.Proofs.YtiamlbhkiehilaaGreatDoor
