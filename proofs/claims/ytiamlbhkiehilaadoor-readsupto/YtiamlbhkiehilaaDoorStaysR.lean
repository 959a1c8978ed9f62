import Derived.Test.YtiamlbhkiehilaaDoorKeepR
namespace Go.Proofs.YtiamlbhkiehilaaDoor
open Go.RowKit Go.Maps

theorem BookR.below {B kb : Nat} {ts : List Value} {T : Value} {rs : List Value} {R : Value} {w w' : World} (h : BookR B kb ts T rs R w) (hb : Below w.heap.size w w') : BookR B kb ts T rs R w' :=
  ⟨h.le, Below.heapAt hb h.head (lt_of_heap h.head), own_below h.trow hb, (fun i v hv => by
    obtain ⟨n, hn, ho⟩ := h.tlists i v hv
    exact ⟨n, hn, own_below ho hb⟩), own_below h.rrow hb, (fun i v hv => by
    obtain ⟨n, hn, ho⟩ := h.rlists i v hv
    exact ⟨n, hn, own_below ho hb⟩)⟩

/-- An owned row, read. -/
theorem own_read {w : World} {B : Nat} {e : TypeId} {size n : Nat} {v : Value} {xs : List Value} (h : w.ownsRow B e size v n xs) (hn : 0 < n) : ∃ g cap, v = .slice (some ⟨g, 0, none⟩) n cap ∧ g < w.heap.size ∧ ∀ (j : Nat) u, xs[j]? = some u → w.cell? ⟨g, j, none⟩ = some u := by
  obtain ⟨ao, cap, rfl, hao⟩ := own_form h
  obtain ⟨g, rfl⟩ := hao hn
  exact ⟨g, cap, rfl, (h.lt g rfl).2, (own_cell h).1⟩

set_option maxRecDepth 100000 in
set_option maxHeartbeats 2000000 in
theorem staysR_any (B kb : Nat) (ts : List Value) (T : Value) (rs : List Value) (R : Value) (w : World) (hlt : ts.length ≤ 1000000000000) (hlr : rs.length ≤ 1000000000000) (h : BookR B kb ts T rs R w) :
    Calls Tryd.prog 11 #[.pointer (some ⟨kb, 0, none⟩)] w fun e w' => e = .returned (.bool true) ∧ Below w.heap.size w w' := by
  obtain ⟨Ta, Tc, rfl, _⟩ := own_form h.trow
  obtain ⟨Ra, Rc, rfl, _⟩ := own_form h.rrow
  have hkl := lt_of_heap h.head
  obtain ⟨c0, c1, c2, _, _, _⟩ := res_cells h.head
  have HH := hide h
  clear h
  go_enter Tryd.func11, Tryd.ntmps11
  go_wp2
  go_loop [3] (fun iv => iv = .int .i64 0) (fun _ => 0)
  case atStart => rfl
  case round =>
    subst hrel
    go_wp2_with fail
    clear c0 c1 c2
    go_loopw [6] (fun iv wr => ∃ i : Nat, iv = .int .i64 i ∧ i ≤ ts.length ∧ Below w.heap.size w wr) (fun iv _ => ts.length - (intOf iv).toNat)
    case atStart => exact ⟨0, rfl, Nat.zero_le _, Below.refl _ _⟩
    case round =>
      obtain ⟨i, rfl, hi, hbx⟩ := hrel
      have hk := HH.out.below hbx
      obtain ⟨c0, c1, c2, _, _, _⟩ := res_cells hk.head
      by_cases hlt : i < ts.length
      · obtain ⟨v, hv⟩ : ∃ v, ts[i]? = some v := ⟨_, List.getElem?_eq_getElem hlt⟩
        obtain ⟨n, hn, hf⟩ := hk.tlists i v hv
        obtain ⟨g, cap, hV, hgl, hgr⟩ := own_read hk.trow (by omega)
        injection hV with hV1 _ _
        subst hV1
        have hcv := hgr i v hv
        have HF := hide hf
        obtain ⟨ao2, cap2, rfl, _⟩ := own_form hf
        have HCV := hide hcv
        have hmk := mark_any (i / 4 * 4) wr (by omega)
        rw [show (((i / 4 * 4 : Nat)) : Int) = (i : Int) / 4 * 4 by omega] at hmk
        have HK := hide hk.head
        clear hgr hv hf hk hcv
        go_wp2_with fail
        refine hmk.mono ?_
        rintro e w2 ⟨rfl, hb2⟩
        have hB2 : Below w.heap.size w w2 := hbx.trans (hb2.mono hbx.size)
        have HF2 := hide (own_below HF.out hb2)
        have HC2 := hide ((hb2.cell (p := ⟨g, i, none⟩) hgl).trans HCV.out)
        have HK2 := hide (Below.heapAt hb2 HK.out (lt_of_heap HK.out))
        have hgl2 := Nat.lt_of_lt_of_le hgl hb2.size
        clear hmk HF HCV HK hb2 c0 c1 c2 hgl hbx
        go_wp2_with fail
        go_loopw [8] (fun jv wr => ∃ j : Nat, jv = .int .i64 j ∧ j ≤ n ∧ Below w2.heap.size w2 wr) (fun jv _ => n - (intOf jv).toNat)
        case atStart => exact ⟨0, rfl, Nat.zero_le _, Below.refl _ _⟩
        case round =>
          obtain ⟨j, rfl, hj, hby⟩ := hrel
          have gk := Below.heapAt hby HK2.out (lt_of_heap HK2.out)
          obtain ⟨c0, c1, c2, _, _, _⟩ := res_cells gk
          have cg := (hby.cell (p := ⟨g, i, none⟩) hgl2).trans HC2.out
          by_cases hjn : j < n
          · obtain ⟨g2, cp2, hv2, hg2l, hg2r⟩ := own_read (own_below HF2.out hby) (by omega)
            injection hv2 with hv2 _ _
            subst hv2
            have cj := hg2r j (.string (markB (i / 4 * 4))) (by rw [repC_get n _ j (by show j < n * 1; omega)]; show [Value.string _][j % 1]? = _; rw [Nat.mod_one]; rfl)
            have hxx : ((markB (i / 4 * 4)).toList != (markB (i / 4 * 4)).toList) = false := by simp
            clear hg2r gk
            go_wp2
            exact ⟨⟨j + 1, by go_num, hjn, hby⟩, by simp [intOf]; omega⟩
          · go_wp2
            go_round
            case rel => exact ⟨i + 1, by go_num, hlt, hB2.trans (hby.mono hB2.size)⟩
            case measure => simp [intOf]; omega
      · go_wp2_with fail
        go_loopw [9] (fun iv wr => ∃ i : Nat, iv = .int .i64 i ∧ i ≤ rs.length ∧ Below w.heap.size w wr) (fun iv _ => rs.length - (intOf iv).toNat)
        case atStart => exact ⟨0, rfl, Nat.zero_le _, hbx⟩
        case round =>
          clear hbx hk c0 c1 c2
          obtain ⟨i2, rfl, hi2, hbx⟩ := hrel
          have hk := HH.out.below hbx
          obtain ⟨c0, c1, c2, _, _, _⟩ := res_cells hk.head
          by_cases hlt2 : i2 < rs.length
          · obtain ⟨v, hv⟩ : ∃ v, rs[i2]? = some v := ⟨_, List.getElem?_eq_getElem hlt2⟩
            obtain ⟨n, hn, hf⟩ := hk.rlists i2 v hv
            obtain ⟨g, cap, hV, hgl, hgr⟩ := own_read hk.rrow (by omega)
            injection hV with hV1 _ _
            subst hV1
            have hcv := hgr i2 v hv
            have HF := hide hf
            obtain ⟨ao2, cap2, rfl, _⟩ := own_form hf
            have HCV := hide hcv
            have hmk := mark_any (i2 / 4 * 4) wr (by omega)
            rw [show (((i2 / 4 * 4 : Nat)) : Int) = (i2 : Int) / 4 * 4 by omega] at hmk
            have HK := hide hk.head
            clear hgr hv hf hk hcv
            go_wp2_with fail
            refine hmk.mono ?_
            rintro e w2 ⟨rfl, hb2⟩
            have hB2 : Below w.heap.size w w2 := hbx.trans (hb2.mono hbx.size)
            have HF2 := hide (own_below HF.out hb2)
            have HC2 := hide ((hb2.cell (p := ⟨g, i2, none⟩) hgl).trans HCV.out)
            have HK2 := hide (Below.heapAt hb2 HK.out (lt_of_heap HK.out))
            have hgl2 := Nat.lt_of_lt_of_le hgl hb2.size
            clear hmk HF HCV HK hb2 c0 c1 c2 hgl hbx
            go_wp2_with fail
            go_loopw [11] (fun jv wr => ∃ j : Nat, jv = .int .i64 j ∧ j ≤ n ∧ Below w2.heap.size w2 wr) (fun jv _ => n - (intOf jv).toNat)
            case atStart => exact ⟨0, rfl, Nat.zero_le _, Below.refl _ _⟩
            case round =>
              obtain ⟨j, rfl, hj, hby⟩ := hrel
              have gk := Below.heapAt hby HK2.out (lt_of_heap HK2.out)
              obtain ⟨c0, c1, c2, _, _, _⟩ := res_cells gk
              have cg := (hby.cell (p := ⟨g, i2, none⟩) hgl2).trans HC2.out
              by_cases hjn : j < n
              · obtain ⟨g2, cp2, hv2, hg2l, hg2r⟩ := own_read (own_below HF2.out hby) (by omega)
                injection hv2 with hv2 _ _
                subst hv2
                have cj := hg2r (j * 2) (.string (markB (i2 / 4 * 4))) (by rw [repC_get n _ (j * 2) (by show j * 2 < n * 2; omega)]; show [Value.string _, _][(j * 2) % 2]? = _; rw [Nat.mul_mod_left]; rfl)
                have ck := hg2r (j * 2 + 1) (.slice none 0 0) (by rw [repC_get n _ (j * 2 + 1) (by show j * 2 + 1 < n * 2; omega)]; show [Value.string _, _][(j * 2 + 1) % 2]? = _; rw [show (j * 2 + 1) % 2 = 1 by omega]; rfl)
                have hxx : ((markB (i2 / 4 * 4)).toList != (markB (i2 / 4 * 4)).toList) = false := by simp
                clear hg2r gk
                go_wp2
                exact ⟨⟨j + 1, by go_num, hjn, hby⟩, by simp [intOf]; omega⟩
              · go_wp2
                go_round
                case rel => exact ⟨i2 + 1, by go_num, hlt2, hB2.trans (hby.mono hB2.size)⟩
                case measure => simp [intOf]; omega
          · go_wp2
            go_ret
            exact ⟨rfl, hbx⟩

end Go.Proofs.YtiamlbhkiehilaaDoor
