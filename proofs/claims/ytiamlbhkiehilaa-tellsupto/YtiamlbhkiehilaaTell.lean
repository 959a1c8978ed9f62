import Derived.Test.YtiamlbhkiehilaaWrite
namespace Go.Proofs.Ytiamlbhkiehilaa
open Go.RowKit

theorem tellGo_ok {ahead : ByteArray} {i : Nat} {acc : List UInt8} {r : RowD} {s : List RowD} (h : rowErr r ahead = 0) : tellGo ahead i acc (r :: s) = tellGo r.name (i + 1) (acc ++ rowText r) s := by simp [tellGo, h]
theorem tellGo_err {ahead : ByteArray} {i : Nat} {acc : List UInt8} {r : RowD} {s : List RowD} {e : Int} (h : rowErr r ahead = e) (h0 : e ≠ 0) : tellGo ahead i acc (r :: s) = ([], e, (i : Int) + 1) := by simp [tellGo, h, h0]
theorem tellGo_nil {ahead : ByteArray} {i : Nat} {acc : List UInt8} : tellGo ahead i acc [] = if 25000 < acc.length then ([], 2, 0) else (acc, 0, 0) := by simp [tellGo]

/-- What holds at the head of each round of Tell. -/
structure TInv (w wr : World) (rs : List RowD) (n : Nat) : Prop where
  le : n ≤ rs.length
  rest : tellGo (lastName (rs.take n)) n (rowsText (rs.take n)) (rs.drop n) = tellGo ⟨#[]⟩ 0 [] rs
  res : wr.heap[w.heap.size]? = some (.cells #[.int .i64 0, .int .i64 0] 28 (0, 0))
  blw : Below w.heap.size w wr

theorem TInv.next {w wr w2 : World} {rs : List RowD} {n : Nat} {r : RowD} (h : TInv w wr rs n) (hr : rs[n]? = some r) (he : rowErr r (lastName (rs.take n)) = 0) (hres : w2.heap[w.heap.size]? = some (.cells #[.int .i64 0, .int .i64 0] 28 (0, 0))) (hb : Below w.heap.size w w2) : TInv w w2 rs (n + 1) := by
  refine ⟨lt_get hr, ?_, hres, hb⟩
  have e := h.rest
  rw [drop_here hr, tellGo_ok he] at e
  rw [take_next hr, lastName_snoc, rowsText_snoc]
  exact e

set_option maxHeartbeats 2000000 in
set_option maxRecDepth 100000 in
theorem rtell_any (v : Value) (rs : List RowD) (w : World) (hlen : rs.length ≤ maxLen) (hv : IsRows v rs w) (hfit : fitsR rs) (hbound : (rowsText rs).length ≤ 1000000000000) :
    Calls Try.prog 14 #[v] w fun e w' => e = .returned (.tuple #[.string ⟨(tellGo ⟨#[]⟩ 0 [] rs).1.toArray⟩, .agg #[.int .i64 (tellGo ⟨#[]⟩ 0 [] rs).2.1, .int .i64 (tellGo ⟨#[]⟩ 0 [] rs).2.2]]) ∧ Below w.heap.size w w' := by
  have hv0 := hide hv
  have hlen0 := hlen
  obtain ⟨ao, cap, hve, _, _, hne0⟩ := hv
  subst hve
  have hne := hide hne0
  clear hne0
  unfold maxLen at hlen
  go_enter Try.func14, Try.ntmps14
  go_wp2
  go_loopw [4, 5, 11] (fun s a i wr => ∃ n : Nat, i = .int .i64 n ∧ s = .int .i64 ((min (rowsText (rs.take n)).length 25001 : Nat) : Int) ∧ a = .string (lastName (rs.take n)) ∧ TInv w wr rs n) (fun _ _ i _ => rs.length - (intOf i).toNat)
  case atStart => exact ⟨0, rfl, rfl, rfl, Nat.zero_le _, rfl, heap_new _ _, (Below.refl _ _).alloc (Nat.le_refl _) _⟩
  case round =>
    obtain ⟨n, rfl, rfl, rfl, hi⟩ := hrel
    have hbl := hi.blw
    have hres := hi.res
    have hsz := lt_of_heap hres
    by_cases hlt : n < rs.length
    · obtain ⟨⟨nm, to⟩, hr⟩ : ∃ r, rs[n]? = some r := ⟨_, List.getElem?_eq_getElem hlt⟩
      obtain ⟨b, off, hao, hbw, hrs⟩ := hne.out (ne_nil_of_get hr)
      subst hao
      obtain ⟨d0w, tv, d1w, hst0⟩ := hrs n nm to hr
      have d0 := (hbl.cell (p := ⟨b, off + n * 2, none⟩) hbw).trans d0w
      have d1 := (hbl.cell (p := ⟨b, off + n * 2 + 1, none⟩) hbw).trans d1w
      clear d0w d1w
      have HIS : Hid (∀ w', Below w.heap.size w w' → IsStrs tv to w') := fun w' h => hst0.below h
      obtain ⟨ao2, cap2, htv, _⟩ := hst0
      subst htv
      obtain ⟨hf1, hf2, hf3⟩ := hfit _ (List.mem_of_getElem? hr)
      simp only at hf1 hf2 hf3
      have htx := rowsText_snoc (rs.take n) ⟨nm, to⟩
      rw [← take_next hr] at htx
      have hL := rowsText_take (l := rs) (k := n + 1)
      have htl : (rowsText (rs.take (n + 1))).length = (rowsText (rs.take n)).length + (nm.size + 2 + toWidth to) := by rw [htx, List.length_append, rowText_length]
      have hln := lastName_snoc (rs.take n) ⟨nm, to⟩
      rw [← take_next hr] at hln
      have HR := hide hr
      have HTL := hide htl
      have HLN := hide hln
      have hw1 : nm.size + 2 + toWidth to ≤ 1000000000000 := by omega
      clear htx hr hrs htl hln
      generalize hla : lastName (rs.take n) = ahead at *
      have HLA := hide hla
      clear hla
      go_wp2_with fail
      have hk1 := (Kb.refl [] wr).alloc (.cells #[.string nm, .slice ao2 to.length cap2] 38)
      have g1 := heap_new wr (.cells #[.string nm, .slice ao2 to.length cap2] 38)
      generalize wr.alloc (.cells #[.string nm, .slice ao2 to.length cap2] 38) = w1 at hk1 g1 ⊢
      have hbl1 : Below w.heap.size w w1 := hbl.trans (hk1.below hbl.size (by simp))
      have hres1 := hk1.heap hres (by simp)
      have hz1 := lt_of_heap g1
      have p0 : w1.cell? ⟨wr.heap.size, 0, none⟩ = some (.string nm) := by rw [cell_at g1]; rfl
      have p1 : w1.cell? ⟨wr.heap.size, 1, none⟩ = some (.slice ao2 to.length cap2) := by rw [cell_at g1]; rfl
      clear hk1 hres hbl d0 d1
      go_region_with (first | (go_at_call 26; refine (areNames_any nm _ to _ hf1 hf2 (HIS.out _ hbl1.drew) hf3).mono ?_; rintro e w2 ⟨rfl, hb2⟩; have hb2' : Below w1.heap.size w1 w2 := (Below.refl _ _).drew.trans hb2; have g2 := Below.heapAt hb2' g1 hz1; have q0 : w2.cell? ⟨wr.heap.size, 0, none⟩ = some (.string nm) := (by rw [cell_at g2]; rfl); have q1 : w2.cell? ⟨wr.heap.size, 1, none⟩ = some (.slice ao2 to.length cap2) := (by rw [cell_at g2]; rfl)) | (go_at_call 25; refine (check_any nm _ to _ ahead _ hf1 hf2 (HIS.out _ (hbl1.trans (hb2'.mono hbl1.size))) hf3).mono ?_; rintro e w3 ⟨rfl, hb3⟩))
      all_goals
        have hb3' : Below w1.heap.size w1 w3 := hb2'.trans (hb3.mono hb2'.size)
        have g3 := Below.heapAt hb3' g1 hz1
        have hbl3 := hbl1.trans (hb3'.mono hbl1.size)
        have hres3 := Below.heapAt hb3' hres1 (lt_of_heap hres1)
        have k0 : w3.cell? ⟨wr.heap.size, 0, none⟩ = some (.string nm) := by rw [cell_at g3]; rfl
        have k1 : w3.cell? ⟨wr.heap.size, 1, none⟩ = some (.slice ao2 to.length cap2) := by rw [cell_at g3]; rfl
        have r0 : w3.cell? ⟨w.heap.size, 0, none⟩ = some (.int .i64 0) := by rw [cell_at hres3]; rfl
        have r1 : w3.cell? ⟨w.heap.size, 1, none⟩ = some (.int .i64 0) := by rw [cell_at hres3]; rfl
        have r2 : w3.frozen? ⟨w.heap.size, 0, none⟩ = false := frozen_at hres3 _
        have r3 : w3.frozen? ⟨w.heap.size, 1, none⟩ = false := frozen_at hres3 _
        clear hb2 hb2' hb3 hb3' g2 q0 q1 p0 p1 hres1 hbl1
        rw [← rowErr_chk]
        by_cases he : rowErr ⟨nm, to⟩ ahead = 0
        · have HE := hide he
          rw [HE.out]
          clear he
          go_wp2_with fail
          refine (width_any nm _ to _ hf2 (HIS.out _ hbl3) hw1).mono ?_
          rintro e w4 ⟨rfl, hb4⟩
          have g4 := Below.heapAt hb4 g3 (lt_of_heap g3)
          have hbl4 := hbl3.trans (hb4.mono hbl3.size)
          have hres4 := Below.heapAt hb4 hres3 (lt_of_heap hres3)
          have m0 : w4.cell? ⟨wr.heap.size, 0, none⟩ = some (.string nm) := by rw [cell_at g4]; rfl
          have hnext := hi.next HR.out (by rw [HLA.out]; exact HE.out) hres4 hbl4
          have hmin : min (min (rowsText (rs.take n)).length 25001 + (nm.size + 2 + toWidth to)) 25001 = min (rowsText (rs.take (n + 1))).length 25001 := by rw [HTL.out]; omega
          have HMIN := hide hmin
          clear hb4 g3 g4 hres3 hres4 hbl3 hi hmin k0 k1 r0 r1 r2 r3
          generalize (rowsText (rs.take n)).length = L at *
          have hLm : min L 25001 ≤ 25001 := Nat.min_le_right _ _
          generalize min L 25001 = sz at *
          generalize nm.size + 2 + toWidth to = wd at *
          go_wp2
          go_roundw
          case rel => exact ⟨n + 1, by go_num, congrArg (Value.int .i64) (by rw [← HMIN.out]; omega), by rw [HLN.out], hnext⟩
          case measure => simp [intOf]; omega
        · have HE : Hid (tellGo ⟨#[]⟩ 0 [] rs = ([], rowErr ⟨nm, to⟩ ahead, (n : Int) + 1)) := by
            have e := hi.rest
            rw [drop_here HR.out, HLA.out, tellGo_err rfl he] at e
            exact e.symm
          generalize rowErr ⟨nm, to⟩ ahead = x at HE he ⊢
          have hx : (x != 0) = true := bne_iff_ne.2 he
          clear he hres3 g3
          go_wp2
          refine bodyPost_ret (v := .tuple #[.string ⟨#[]⟩, .agg #[.int .i64 x, .int .i64 ((n : Int) + 1)]]) (by simp [results, Try.results14, go_sem, r0, r1]) rfl ⟨by rw [HE.out], ?_⟩
          exact (hbl3.setCell (p := ⟨w.heap.size, 0, none⟩) (Nat.le_refl _) _).setCell (p := ⟨w.heap.size, 1, none⟩) (Nat.le_refl _) _
    · have htk : rs.take n = rs := List.take_of_length_le (by omega)
      have e := hi.rest
      rw [List.drop_of_length_le (by omega), tellGo_nil, htk] at e
      rw [htk]
      have r0 : wr.cell? ⟨w.heap.size, 0, none⟩ = some (.int .i64 0) := by rw [cell_at hres]; rfl
      have r1 : wr.cell? ⟨w.heap.size, 1, none⟩ = some (.int .i64 0) := by rw [cell_at hres]; rfl
      have r2 : wr.frozen? ⟨w.heap.size, 0, none⟩ = false := frozen_at hres _
      have r3 : wr.frozen? ⟨w.heap.size, 1, none⟩ = false := frozen_at hres _
      clear hi htk
      by_cases hbig : 25000 < (rowsText rs).length
      · rw [if_pos hbig] at e
        have HE := hide e.symm
        have hm : min (rowsText rs).length 25001 = 25001 := by omega
        rw [hm]
        clear e hm hres
        go_wp2
        refine bodyPost_ret (v := .tuple #[.string ⟨#[]⟩, .agg #[.int .i64 2, .int .i64 0]]) (by simp [results, Try.results14, go_sem, r0, r1]) rfl ⟨by rw [HE.out], ?_⟩
        exact (hbl.setCell (p := ⟨w.heap.size, 0, none⟩) (Nat.le_refl _) _).setCell (p := ⟨w.heap.size, 1, none⟩) (Nat.le_refl _) _
      · rw [if_neg hbig] at e
        have HE := hide e.symm
        have hm : min (rowsText rs).length 25001 = (rowsText rs).length := by omega
        rw [hm]
        clear e hm
        have hle : ((rowsText rs).length : Int) ≤ 25000 := by omega
        go_wp2_with fail
        refine (write_any _ rs _ hlen0 (hv0.out.below hbl) hfit hbound).mono ?_
        rintro e w2 ⟨rfl, hb2⟩
        have hres2 := Below.heapAt hb2 hres (lt_of_heap hres)
        have hbl2 := hbl.trans (hb2.mono hbl.size)
        have q0 : w2.cell? ⟨w.heap.size, 0, none⟩ = some (.int .i64 0) := by rw [cell_at hres2]; rfl
        have q1 : w2.cell? ⟨w.heap.size, 1, none⟩ = some (.int .i64 0) := by rw [cell_at hres2]; rfl
        have q2 : w2.frozen? ⟨w.heap.size, 0, none⟩ = false := frozen_at hres2 _
        have q3 : w2.frozen? ⟨w.heap.size, 1, none⟩ = false := frozen_at hres2 _
        clear hb2 hres hres2 hbl r0 r1 r2 r3
        go_wp2
        refine bodyPost_ret (v := .tuple #[.string ⟨(rowsText rs).toArray⟩, .agg #[.int .i64 0, .int .i64 0]]) (by simp [results, Try.results14, go_sem, q0, q1]) rfl ⟨by rw [HE.out], ?_⟩
        exact (hbl2.setCell (p := ⟨w.heap.size, 0, none⟩) (Nat.le_refl _) _).setCell (p := ⟨w.heap.size, 1, none⟩) (Nat.le_refl _) _

set_option maxHeartbeats 400000 in
theorem qtell_any (v : Value) (rs : List RowD) (w : World) (hlen : rs.length ≤ maxLen) (hv : IsRows v rs w) (hfit : fitsR rs) (hbound : (rowsText rs).length ≤ 1000000000000) :
    Calls Try.prog 8 #[v] w fun e w' => e = .returned (.tuple #[.string ⟨(tellGo ⟨#[]⟩ 0 [] rs).1.toArray⟩, .agg #[.int .i64 (tellGo ⟨#[]⟩ 0 [] rs).2.1, .int .i64 (tellGo ⟨#[]⟩ 0 [] rs).2.2]]) ∧ Below w.heap.size w w' := by
  have hb0 : Below w.heap.size w (w.alloc (.cells #[.int .i64 0, .int .i64 0] 28)) := (Below.refl _ _).alloc (Nat.le_refl _) _
  have HC := rtell_any v rs _ hlen (hv.below hb0) hfit hbound
  generalize tellGo ⟨#[]⟩ 0 [] rs = R at HC ⊢
  have HH : Hid (Calls _ _ _ _ _) := HC
  clear HC
  go_enter Try.func8, Try.ntmps8
  go_wp2_with fail
  refine (HH.out).mono ?_
  rintro e w2 ⟨rfl, hb2⟩
  have g0 : w2.heap[w.heap.size]? = some (.cells #[.int .i64 0, .int .i64 0] 28 (0, 0)) := Below.heapAt hb2 (heap_new _ _) (by simp)
  have r0 : w2.cell? ⟨w.heap.size, 0, none⟩ = some (.int .i64 0) := by rw [cell_at g0]; rfl
  have r1 : w2.cell? ⟨w.heap.size, 1, none⟩ = some (.int .i64 0) := by rw [cell_at g0]; rfl
  have r2 : w2.frozen? ⟨w.heap.size, 0, none⟩ = false := frozen_at g0 _
  have r3 : w2.frozen? ⟨w.heap.size, 1, none⟩ = false := frozen_at g0 _
  have hbl : Below w.heap.size w w2 := hb0.trans (hb2.mono (by simp))
  clear hb2 g0 HH
  go_wp2
  refine bodyPost_ret (v := .tuple #[.string ⟨R.1.toArray⟩, .agg #[.int .i64 R.2.1, .int .i64 R.2.2]]) (by simp [results, Try.results8, go_sem, r0, r1]) rfl ⟨rfl, ?_⟩
  exact (hbl.setCell (p := ⟨w.heap.size, 0, none⟩) (Nat.le_refl _) _).setCell (p := ⟨w.heap.size, 1, none⟩) (Nat.le_refl _) _

end Go.Proofs.Ytiamlbhkiehilaa
