import Derived.Test.YtiamlbhkiehilaaLent
namespace Go.Proofs.Ytiamlbhkiehilaa
open Go.RowKit

theorem infoRow : (Try.prog.info? 38).map (fun i => (i.zero, i.size, i.bytes)) = some (some (.agg #[.string ⟨#[]⟩, .slice none 0 0]), 2, 40) := by kernel_rfl
theorem infoS1 : (Try.prog.info? 9).map (fun i => (i.zero, i.size, i.bytes)) = some (some (.string ⟨#[]⟩), 1, 16) := by kernel_rfl
theorem sizeS1 : (Try.prog.info? 9).map (·.size) = some 1 := by kernel_rfl

/-- What holds at the head of each round of lent. -/
structure LInv (w wr : World) (rs : List RowD) (j : Nat) (hs : List Nat) (rest : List Value) : Prop where
  le : j ≤ rs.length + 8
  fam : Fam w.heap.size hs (rs.take j) wr
  row : RowP w.heap.size (lentP hs (rs.take j) ++ List.replicate (j - rs.length) beyP) rest wr
  len : rest.length = (rs.length + 8 - j) * 2
  blw : Below w.heap.size w wr

theorem LInv.lent {w wr : World} {rs : List RowD} {j H : Nat} {hs : List Nat} {r : List Value} {nm : ByteArray} {to : List ByteArray} (_hj8 : j < rs.length + 8) (hjn : j < rs.length) (hr : rs[j]? = some ⟨nm, to⟩)
    (hf : Fam w.heap.size hs (rs.take j) wr) (hrs : RowS H (to ++ List.replicate 8 beyS) [] wr)
    (hrow : RowP w.heap.size (lentP hs (rs.take j) ++ List.replicate (j - rs.length) beyP ++ [(nm, slv H to)]) r ((wr.setCell ⟨w.heap.size, j * 2, none⟩ (.string nm)).setCell ⟨w.heap.size, j * 2 + 1, none⟩ (slv H to)))
    (hrl : r.length = (rs.length + 8 - (j + 1)) * 2) (hbl : Below w.heap.size w wr) (hlt : ∀ h ∈ hs, h < H) (hg : w.heap.size < H) :
    LInv w (((wr.setCell ⟨w.heap.size, j * 2, none⟩ (.string nm)).setCell ⟨w.heap.size, j * 2 + 1, none⟩ (slv H to)).drew) rs (j + 1) (hs ++ [H]) r := by
  have hk : Kb [w.heap.size] wr (((wr.setCell ⟨w.heap.size, j * 2, none⟩ (.string nm)).setCell ⟨w.heap.size, j * 2 + 1, none⟩ (slv H to)).drew) := (((Kb.refl _ _).setCell (Or.inl (by simp)) _).setCell (Or.inl (by simp)) _).drew
  have hf2 := hf.kb hk (fun h hh e => by have := hf.gt h hh; simp at e; omega)
  have hrs2 : RowS H (to ++ List.replicate 8 beyS) [] (((wr.setCell ⟨w.heap.size, j * 2, none⟩ (.string nm)).setCell ⟨w.heap.size, j * 2 + 1, none⟩ (slv H to)).drew) := hk.heap hrs (by simp; omega)
  refine ⟨by omega, ?_, ?_, hrl, hbl.trans (hk.below hbl.size (by simp))⟩
  · rw [take_next hr]
    exact hf2.snoc (r := ⟨nm, to⟩) hrs2 (fun hm => by have := hlt H hm; omega) hg
  · have e1 : j - rs.length = 0 := by omega
    have e2 : j + 1 - rs.length = 0 := by omega
    rw [e1, List.replicate_zero, List.append_nil] at hrow
    rw [take_next hr, lentP_snoc hf.len, e2, List.replicate_zero, List.append_nil]
    exact hrow

theorem LInv.bey {w wr : World} {rs : List RowD} {j : Nat} {hs : List Nat} {rest r : List Value} (hi : LInv w wr rs j hs rest) (hj8 : j < rs.length + 8) (hjn : ¬ j < rs.length)
    {W : World} (hrow : RowP w.heap.size (lentP hs (rs.take j) ++ List.replicate (j - rs.length) beyP ++ [(⟨#[98, 101, 121, 111, 110, 100]⟩, .slice none 0 0)]) r W) (hk : Kb [w.heap.size] wr W) (hrl : r.length = (rs.length + 8 - (j + 1)) * 2) :
    LInv w W rs (j + 1) hs r := by
  have et : rs.take (j + 1) = rs.take j := by rw [List.take_of_length_le (by omega), List.take_of_length_le (by omega)]
  refine ⟨by omega, ?_, ?_, hrl, hi.blw.trans (hk.below hi.blw.size (by simp))⟩
  · rw [et]
    exact hi.fam.kb hk (fun h hh e => by have := hi.fam.gt h hh; simp at e; omega)
  · rw [et, show j + 1 - rs.length = (j - rs.length) + 1 by omega, List.replicate_succ', ← List.append_assoc]
    exact hrow

theorem rest_two {m : Nat} (rest : List Value) (h : rest.length = (m + 1) * 2) : ∃ x y r, rest = x :: y :: r ∧ r.length = m * 2 := by
  match rest, h with
  | [], h => simp at h
  | [_], h => simp at h; omega
  | x :: y :: r, h => exact ⟨x, y, r, rfl, by simp at h; omega⟩

theorem rest_one {m : Nat} (rest : List Value) (h : rest.length = m + 1) : ∃ x r, rest = x :: r ∧ r.length = m := by
  match rest, h with
  | [], h => simp at h
  | x :: r, h => exact ⟨x, r, rfl, by simpa using h⟩

set_option maxHeartbeats 2000000 in
set_option maxRecDepth 100000 in
theorem lent_any (v : Value) (rs : List RowD) (w : World) (hv : IsRows v rs w) (hreach : rs.length ≤ 1000000000000) (hto : ∀ r ∈ rs, r.to.length ≤ 1000000000000) :
    Calls Try.prog 7 #[v] w fun e w' => e = .returned (.slice (some ⟨w.heap.size, 0, none⟩) (rs.length + 8) (rs.length + 8)) ∧ Below w.heap.size w w' ∧
      ∃ hs, Fam w.heap.size hs rs w' ∧ RowP w.heap.size (lentP hs rs ++ List.replicate 8 beyP) [] w' := by
  obtain ⟨ao, cap, hve, _, _, hne0⟩ := hv
  subst hve
  have hne := hide hne0
  clear hne0
  obtain ⟨i0, hi0, hz0, hz1, hz2⟩ := info_parts infoRow
  obtain ⟨i1, hi1, hy0, hy1, hy2⟩ := info_parts infoS1
  go_enter Try.func7, Try.ntmps7
  go_wp2_with (first | (at_make; refine wpList_make_full _ rfl _ _ 32 rfl w.heap.size 38 i0 (.agg #[.string ⟨#[]⟩, .slice none 0 0]) 2 Try.underlying32 hi0 hz0 hz1 .i64 .i64 _ _ (rs.length + 8) rfl rfl (by simp) (by simp) ?c1 ?c2 (Nat.le_refl _) ?_) | go_in)
  case c1 => rw [hz2]; omega
  case c2 => unfold maxLen; omega
  intro w1 hown1 hgrow1
  obtain ⟨cur, hg1, hcs⟩ : ∃ cur, w1.heap[w.heap.size]? = some (.cells cur 38 (0, 0)) ∧ cur.size = (rs.length + 8) * 2 := by
    rcases hown1.2 with ⟨h, _⟩ | ⟨g, cp, cur, hv, _, hg, _, _, hs, _⟩
    · cases h
    · injection hv with e1 e2 e3
      injection e1 with e1
      injection e1 with e1
      subst e1 e3
      exact ⟨cur, hg, hs⟩
  have hb1 : Below w.heap.size w w1 := (Below.refl _ _).grown hgrow1 (Nat.le_refl _) (fun j hj => by cases hj)
  have hL : LInv w w1 rs 0 [] cur.toList := by
    refine ⟨Nat.zero_le _, ⟨rfl, List.nodup_nil, fun h hh => by simp at hh, fun j h r h1 => by simp at h1⟩, ?_, ?_, hb1⟩
    · unfold RowP
      rw [hg1]
      simp [lentP, cellsP]
    · rw [show cur.toList.length = cur.size from Array.length_toList, hcs, Nat.sub_zero]
  clear hown1 hgrow1 hg1 hcs hb1
  go_wp2_with fail
  go_loopw [4] (fun i wr => ∃ (j : Nat) (hs : List Nat) (rest : List Value), i = .int .i64 j ∧ LInv w wr rs j hs rest) (fun i _ => (rs.length + 8) - (intOf i).toNat)
  case atStart => exact ⟨0, [], _, rfl, hL⟩
  case round =>
    clear hL
    obtain ⟨j, hs, rest, rfl, hi⟩ := hrel
    by_cases hj8 : j < rs.length + 8
    · obtain ⟨x, y, r, hr, hrl⟩ := rest_two (m := rs.length + 8 - (j + 1)) rest (by rw [hi.len]; omega)
      have hrow := hi.row
      rw [hr] at hrow
      have hbl := hi.blw
      have hfam := hi.fam
      have hz := lt_of_heap hrow
      have hpl : (lentP hs (rs.take j) ++ List.replicate (j - rs.length) beyP).length = j := by
        rw [List.length_append, lentP_length hfam.len, List.length_take, List.length_replicate]; omega
      have hp := hrow.push beyS (.slice none 0 0)
      have hcl : (cellsP (lentP hs (rs.take j) ++ List.replicate (j - rs.length) beyP)).length = j * 2 := by rw [cellsP_length, hpl]
      rw [hpl] at hp
      have c0 : wr.cell? ⟨w.heap.size, j * 2, none⟩ = some x := by rw [cell_at hrow]; simp [hcl]
      have c1 : wr.cell? ⟨w.heap.size, j * 2 + 1, none⟩ = some y := by rw [cell_at hrow]; simp [hcl]
      have f0 : ∀ o, wr.frozen? ⟨w.heap.size, o, none⟩ = false := fun o => frozen_at hrow o
      have hk2 : Kb [w.heap.size] wr ((wr.setCell ⟨w.heap.size, j * 2, none⟩ (.string beyS)).setCell ⟨w.heap.size, j * 2 + 1, none⟩ (.slice none 0 0)) := ((Kb.refl _ _).setCell (Or.inl (by simp)) _).setCell (Or.inl (by simp)) _
      have hHP := hide hp
      clear hrow hp hcl hr
      unfold beyS at hHP hk2
      by_cases hjn : j < rs.length
      · obtain ⟨⟨nm, to⟩, hrj⟩ : ∃ r, rs[j]? = some r := ⟨_, List.getElem?_eq_getElem hjn⟩
        obtain ⟨b, off, hao, hbw, hrs⟩ := hne.out (ne_nil_of_get hrj)
        subst hao
        obtain ⟨d0w, tv, d1w, hst0⟩ := hrs j nm to hrj
        have HD0 : Hid (∀ w', Below w.heap.size w w' → w'.cell? ⟨b, off + j * 2, none⟩ = some (.string nm)) := fun w' h => (h.cell (p := ⟨b, off + j * 2, none⟩) hbw).trans d0w
        have HD1 : Hid (∀ w', Below w.heap.size w w' → w'.cell? ⟨b, off + j * 2 + 1, none⟩ = some tv) := fun w' h => (h.cell (p := ⟨b, off + j * 2 + 1, none⟩) hbw).trans d1w
        clear d0w d1w
        obtain ⟨ao2, cap2, htv, hc2, hn2, hst1⟩ := hst0
        have hst := hide hst1
        have hnn : Hid (ao2 = none → to.length = 0) := fun h => by have := hn2 h; omega
        clear hst1 hn2
        subst htv
        have hto1 := hto _ (List.mem_of_getElem? hrj)
        simp only at hto1
        have HRJ := hide hrj
        have hbl1 : Below w.heap.size w ((wr.setCell ⟨w.heap.size, j * 2, none⟩ (.string ⟨#[98, 101, 121, 111, 110, 100]⟩)).setCell ⟨w.heap.size, j * 2 + 1, none⟩ (.slice none 0 0)) := hbl.trans (hk2.below hbl.size (by simp))
        have e1 := HD1.out _ hbl
        clear hrj hrs hi
        have hsz1 : ((wr.setCell ⟨w.heap.size, j * 2, none⟩ (.string ⟨#[98, 101, 121, 111, 110, 100]⟩)).setCell ⟨w.heap.size, j * 2 + 1, none⟩ (.slice none 0 0)).heap.size = wr.heap.size := by simp [World.setCell]
        go_wp2_with (first | (at_make; refine wpList_make_full _ rfl _ _ 36 rfl wr.heap.size 9 i1 (.string ⟨#[]⟩) 1 Try.underlying36 hi1 hy0 hy1 .i64 .i64 _ _ (to.length + 8) rfl rfl (by simp) (by simp) ?c3 ?c4 (Nat.le_of_eq hsz1.symm) ?_) | go_in)
        case c3 => rw [hy2]; omega
        case c4 => unfold maxLen; omega
        intro w2 hown2 hgrow2
        generalize ((wr.setCell ⟨w.heap.size, j * 2, none⟩ (.string ⟨#[98, 101, 121, 111, 110, 100]⟩)).setCell ⟨w.heap.size, j * 2 + 1, none⟩ (.slice none 0 0)) = W1 at *
        obtain ⟨cur2, hg2, hcs2⟩ : ∃ cur, w2.heap[wr.heap.size]? = some (.cells cur 9 (0, 0)) ∧ cur.size = to.length + 8 := by
          rcases hown2.2 with ⟨h, _⟩ | ⟨g, cp, cur, hv, _, hg, _, _, hs, _⟩
          · cases h
          · injection hv with e1 e2 e3
            injection e1 with e1
            injection e1 with e1
            subst e1 e3
            exact ⟨cur, hg, by omega⟩
        have hkb2 : Kb [w.heap.size] wr w2 := hk2.grown hgrow2 (fun k hk => by cases hk)
        have hrow2 : RowP w.heap.size (lentP hs (rs.take j) ++ List.replicate (j - rs.length) beyP ++ [(⟨#[98, 101, 121, 111, 110, 100]⟩, .slice none 0 0)]) r w2 := (hgrow2.block _ (lt_of_heap hHP.out) (by simp)).trans hHP.out
        have hbl2 : Below w.heap.size w w2 := hbl1.grown hgrow2 (by have := hbl.size; omega) (fun k hk => by cases hk)
        have d1 := HD1.out _ hbl2
        have hsrc : Hid (∀ a, ao2 = some a → ∀ i v, (to.map Value.string)[i]? = some v → w2.cell? (a.add i) = some v) := by
          intro a ha i v hiv
          rw [List.getElem?_map] at hiv
          obtain ⟨s, hs1, hs2⟩ := Option.map_eq_some_iff.1 hiv
          obtain ⟨b2, off2, hao2, hb2w, hs3⟩ := hst.out (ne_nil_of_get hs1)
          rw [hao2] at ha
          injection ha with ha
          subst ha
          rw [Addr.add_lit, ← hs2]
          exact (hs3.below hbl2 hb2w) i s hs1
        have hone : ∀ u ∈ to.map Value.string, u.oneCell' = true := by
          intro u hu
          obtain ⟨y, _, rfl⟩ := List.mem_map.1 hu
          rfl
        have HONE := hide hone
        clear hone hown2 hk2 hHP e1 hst c0 c1 f0
        go_wp2_with (first | (refine wpList_copyK rfl (.tmp 34) (.tmp 39) 36 36 rfl 9 1 Try.underlying36 sizeS1 wr.heap.size (to.length + 8) (to.length + 8) ao2 to.length cap2 rfl rfl cur2 9 hg2 (to.map Value.string) (by omega) (by simp) hnn.out hsrc.out (by rw [List.length_map, hcs2]; omega) HONE.out ?_; intro w3 hg3 hgrow3; have hbl3 : Below w.heap.size w w3 := hbl2.grown hgrow3 hbl2.size (fun k hk => (by cases hk; exact hbl.size)); have d3 := HD1.out _ hbl3) | go_in)
        have hkb3 : Kb [w.heap.size] wr w3 := hkb2.grown hgrow3 (fun k hk => by cases hk; exact Or.inr (Nat.le_refl _))
        have hrow3 : RowP w.heap.size (lentP hs (rs.take j) ++ List.replicate (j - rs.length) beyP ++ [(⟨#[98, 101, 121, 111, 110, 100]⟩, .slice none 0 0)]) r w3 := (hgrow3.block _ (lt_of_heap hrow2) (by intro e; injection e; omega)).trans hrow2
        obtain ⟨rest2, hre⟩ : ∃ rest2, rest2 = cur2.toList.drop (to.map Value.string).length := ⟨_, rfl⟩
        have hrs3 : RowS wr.heap.size to rest2 w3 := by unfold RowS; rw [hre]; exact hg3.out
        have hrl2 : rest2.length = 8 := by rw [hre, List.length_drop, List.length_map, show cur2.toList.length = cur2.size from Array.length_toList, hcs2]; omega
        clear hg3 hgrow3 hrow2 hkb2 hg2 hcs2 hre hsrc hnn HONE hbl2 d1 d3
        have hwH := hbl.size
        have hlt3 : ∀ h ∈ hs, h < wr.heap.size := hfam.lt
        have hfam3 := hfam.kb hkb3 (fun h hh e => by have := hfam.gt h hh; simp at e; omega)
        clear hfam hkb3
        generalize hHe : wr.heap.size = H at *
        clear hHe hbl
        go_loopw [6] (fun i wx => ∃ (m : Nat) (rest2 : List Value), i = .int .i64 ((to.length : Int) + (m : Nat)) ∧ m ≤ 8 ∧ rest2.length = 8 - m ∧ RowS H (to ++ List.replicate m beyS) rest2 wx ∧ Kb [H] w3 wx) (fun i _ => (to.length + 8) - (intOf i).toNat)
        case atStart => exact ⟨0, rest2, by simp, Nat.zero_le _, hrl2, by simpa using hrs3, Kb.refl _ _⟩
        case round =>
          clear hrs3 hrl2
          obtain ⟨m, rest2, rfl, hm, hrl2, hrs4, hkx⟩ := hrel
          have hbl4 : Below w.heap.size w wr := hbl3.trans (hkx.below hbl3.size (by simp; exact hwH))
          by_cases hm8 : m < 8
          · obtain ⟨x2, r2, hr2, hr2l⟩ := rest_one (m := 8 - (m + 1)) rest2 (by omega)
            rw [hr2] at hrs4
            have hpl2 : (to ++ List.replicate m beyS).length = to.length + m := by simp
            have hp2 := hrs4.push beyS
            rw [hpl2] at hp2
            have c2 : wr.cell? ⟨H, to.length + m, none⟩ = some x2 := by rw [cell_at hrs4]; simp
            have f2 : wr.frozen? ⟨H, to.length + m, none⟩ = false := frozen_at hrs4 _
            have HP2 := hide hp2
            unfold beyS at HP2
            clear hp2 hrs4 hpl2
            go_wp2
            go_roundw
            case rel =>
              refine ⟨m + 1, r2, by go_num, hm8, hr2l, ?_, hkx.setCell (p := ⟨H, _, none⟩) (Or.inl (by simp)) _⟩
              rw [List.replicate_succ', ← List.append_assoc]
              exact HP2.out
            case measure => simp [intOf]; omega
          · have hm8' : m = 8 := by omega
            subst hm8'
            have hr2 : rest2 = [] := List.eq_nil_of_length_eq_zero (by omega)
            subst hr2
            have q0 := HD0.out _ hbl4
            have q1 := HD1.out _ hbl4
            have hjl : (lentP hs (rs.take j) ++ List.replicate (j - rs.length) beyP).length = j := hpl
            have hrow4 : RowP w.heap.size (lentP hs (rs.take j) ++ List.replicate (j - rs.length) beyP ++ [(⟨#[98, 101, 121, 111, 110, 100]⟩, .slice none 0 0)]) r wr := hkx.heap hrow3 (by simp; omega)
            obtain ⟨z0, z1⟩ := hrow4.get (i := j) (n := ⟨#[98, 101, 121, 111, 110, 100]⟩) (v := .slice none 0 0) (by rw [List.getElem?_append_right (by omega), hjl]; simp)
            have f0 : ∀ o, wr.frozen? ⟨w.heap.size, o, none⟩ = false := fun o => frozen_at hrow4 o
            have hov := hrow4.over nm (slv H to)
            rw [hjl] at hov
            have HOV := hide hov
            have hfam4 := hfam3.kb hkx (fun h hh e => by have := hlt3 h hh; simp at e; omega)
            have hHw := lt_of_heap hrs4
            clear hov hrow4 hrow3 hkx hbl3 hfam3
            have i1' : (j : Int) < (rs.length : Int) := by omega
            have i2' : (j : Int) < (rs.length : Int) + 8 := by omega
            have i3' : (to.length : Int) ≤ (to.length : Int) + 8 := by omega
            have hfin := LInv.lent hj8 hjn HRJ.out hfam4 hrs4 HOV.out hrl hbl4 hlt3 (by omega)
            clear hfam4 hrs4
            unfold slv at hfin
            have HFIN := hide hfin
            clear hfin HOV
            go_wp2
            go_region
            go_wp2
            go_roundw
            case rel => exact ⟨j + 1, _, _, by go_num, HFIN.out⟩
            case measure => simp [intOf]; omega
      · have hfin := LInv.bey hi hj8 hjn hHP.out hk2 hrl
        have HFIN := hide hfin
        clear hfin hHP hi hk2 hfam hbl
        go_wp2
        go_roundw
        case rel => exact ⟨j + 1, _, _, by go_num, HFIN.out⟩
        case measure => simp [intOf]; omega
    · have hj : j = rs.length + 8 := by have := hi.le; omega
      subst hj
      have hr0 : rest = [] := List.eq_nil_of_length_eq_zero (by rw [hi.len]; omega)
      subst hr0
      have hfam := hi.fam
      have hrow := hi.row
      rw [List.take_of_length_le (by omega)] at hfam hrow
      rw [show rs.length + 8 - rs.length = 8 by omega] at hrow
      have hbl := hi.blw
      clear hi
      go_wp2
      go_ret
      exact ⟨rfl, hbl, hs, hfam, hrow⟩

end Go.Proofs.Ytiamlbhkiehilaa
