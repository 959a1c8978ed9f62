import Derived.Test.YtiamlbhkiehilaaGreatDoorBk11
import Derived.Test.YtiamlbhkiehilaaGreatDoorBk12
namespace Go.Proofs.YtiamlbhkiehilaaGreatDoor
open Go.RowKit Go.Maps

theorem infoStrs : (Tryz.prog.info? 44).map (fun i => (i.zero, i.size, i.bytes)) = some (some (.slice none 0 0), 1, 24) := by kernel_rfl
theorem infoRows : (Tryz.prog.info? 40).map (fun i => (i.zero, i.size, i.bytes)) = some (some (.slice none 0 0), 1, 24) := by kernel_rfl
theorem infoRow : (Tryz.prog.info? 51).map (fun i => (i.zero, i.size, i.bytes)) = some (some (.agg #[.string ⟨#[]⟩, .slice none 0 0]), 2, 40) := by kernel_rfl

/-- What the book's owner writes into its i-th list of texts, of rows. -/
def markT (i : Nat) : List Value := [.string (markB (i / 4 * 4))]
def markR (i : Nat) : List Value := [.string (markB (i / 4 * 4)), .slice none 0 0]

/-- The law's book of lists of texts and of rows. -/
structure BookR (B kb : Nat) (ts : List Value) (T : Value) (rs : List Value) (R : Value) (w : World) : Prop where
  le : B ≤ kb
  head : w.heap[kb]? = some (.cells #[.slice none 0 0, R, T] 75 (0, 0))
  trow : w.ownsRow B 44 1 T ts.length ts
  tlists : ∀ (i : Nat) v, ts[i]? = some v → ∃ n, n ≤ 100000 ∧ w.ownsRow B 9 1 v n (repC n (markT i))
  rrow : w.ownsRow B 40 1 R rs.length rs
  rlists : ∀ (i : Nat) v, rs[i]? = some v → ∃ n, n ≤ 100000 ∧ w.ownsRow B 51 2 v n (repC n (markR i))

/-- What holds at the head of each round: the list's first things are written over. -/
structure KInvT (B : Nat) (w1 wr : World) (l : Value) (xs : List ByteArray) (m : ByteArray) (i : Nat) : Prop where
  le : i ≤ xs.length
  own : wr.ownsRow B 9 1 l xs.length ((List.replicate i m ++ xs.drop i).map Value.string)
  kb : Kb l.ownBlock.toList w1 wr

set_option maxRecDepth 100000 in
set_option maxHeartbeats 1000000 in
theorem keepTexts_any (B kb : Nat) (ts : List Value) (T : Value) (rs : List Value) (R l : Value) (xs : List ByteArray) (w : World) (hmod : ts.length % 4 = 0) (hls : ts.length ≤ 1000000000000) (hfn : xs.length ≤ 30000) (hB : BookR B kb ts T rs R w)
    (hl : w.ownsRow B 9 1 l xs.length (xs.map Value.string)) (hap : ∀ v ∈ ts, v.ownBlock = none ∨ v.ownBlock ≠ l.ownBlock) :
    Calls Tryz.prog 78 #[.pointer (some ⟨kb, 0, none⟩), l] w fun e w' =>
      e = .returned (.tuple #[]) ∧ ∃ T' l1 l2 l3, BookR B kb (ts ++ [l, l1, l2, l3]) T' rs R w' ∧ (∀ u ∈ [l1, l2, l3], u.ownBlock = l.ownBlock ∨ ∃ g, u.ownBlock = some g ∧ w.heap.size ≤ g) ∧ Kb (may kb T l) w w' := by
  obtain ⟨i0, hi0, hz0, hz1, hz2⟩ := info_parts infoStr
  obtain ⟨j0, hj0, hy0, hy1, hy2⟩ := info_parts infoStrs
  obtain ⟨Va, Vc, rfl, _⟩ := own_form hB.trow
  obtain ⟨ao, cap, rfl, hao⟩ := own_form hl
  obtain ⟨Ra, Rc, hR, _⟩ := own_form hB.rrow
  obtain ⟨c0, c1, c2, d0, d1, d2⟩ := res_cells hB.head
  have hkl := lt_of_heap hB.head
  have hBk := hB.le
  go_enter Tryz.func78, Tryz.ntmps78
  go_wp2_with fail
  refine (mark_any ts.length w (by omega)).mono ?_
  rintro e w2 ⟨rfl, hb2⟩
  have hmk : markT ts.length = [.string (markB ts.length)] := by unfold markT; rw [show ts.length / 4 * 4 = ts.length by omega]
  have hk3 : Kb ((Value.slice ao xs.length cap).ownBlock.toList) w w2 := Kb.of_below hb2 _
  have hl3 : w2.ownsRow B 9 1 (.slice ao xs.length cap) xs.length (xs.map Value.string) := own_below hl hb2
  have HB := hide hB
  have HAP := hide hap
  have HL := hide hl
  clear hB hap hl hb2 c0 c1 c2 d0 d1 d2
  go_wp2_with fail
  go_loopw [5] (fun iv wr => ∃ i : Nat, iv = .int .i64 i ∧ KInvT B w2 wr (.slice ao xs.length cap) xs (markB ts.length) i) (fun iv _ => xs.length - (intOf iv).toNat)
  case atStart => exact ⟨0, rfl, Nat.zero_le _, by simpa using hl3, Kb.refl _ _⟩
  case round =>
    obtain ⟨i, rfl, hi⟩ := hrel
    by_cases hlt : i < xs.length
    · obtain ⟨g, rfl⟩ := hao (by omega)
      have hko := hi.kb
      obtain ⟨f, hf⟩ : ∃ f, xs[i]? = some f := ⟨_, List.getElem?_eq_getElem hlt⟩
      have hdr : xs.drop i = f :: xs.drop (i + 1) := by
        rw [List.drop_eq_getElem_cons hlt]
        rw [List.getElem?_eq_getElem hlt] at hf
        injection hf with hf
        rw [hf]
      have hown := hi.own
      rw [hdr] at hown
      have hA : (List.replicate i (markB ts.length)).length = i := List.length_replicate
      obtain ⟨hc, hz⟩ := own_cell hown
      have a0 := hc i (.string f) (by rw [List.getElem?_map, List.getElem?_append_right (by rw [hA]; omega), hA, Nat.sub_self]; rfl)
      have z0 := hz i
      have ho' := own_set hown i (.string (markB ts.length))
      have e4 : ((List.replicate i (markB ts.length) ++ f :: xs.drop (i + 1)).map Value.string).set i (.string (markB ts.length)) = (List.replicate (i + 1) (markB ts.length) ++ xs.drop (i + 1)).map Value.string := by
        rw [← List.map_set, List.set_append_right _ _ (by rw [hA]; omega), hA, Nat.sub_self, List.set_cons_zero, List.replicate_succ', List.append_assoc]
        rfl
      rw [e4] at ho'
      have HO := hide ho'
      clear ho' e4 hc hz hown hdr hf
      go_wp2
      go_roundw
      case rel =>
        exact ⟨i + 1, by go_num, hlt, HO.out, hko.setCell (p := ⟨g, _, none⟩) (.inl (by simp [Value.ownBlock])) _⟩
      case measure => simp [intOf]; omega
    · have hin : i = xs.length := by have := hi.le; omega
      subst hin
      have ho0 := hi.own
      have e5 : (List.replicate xs.length (markB ts.length) ++ xs.drop xs.length).map Value.string = repC xs.length [.string (markB ts.length)] := by
        rw [List.drop_length, List.append_nil]
        generalize xs.length = n
        induction n with
        | zero => rfl
        | succ n ih => rw [List.replicate_succ, List.map_cons, ih, repC_succ]; rfl
      rw [e5] at ho0
      have hk0 : Kb ((Value.slice ao xs.length cap).ownBlock.toList) w wr := hk3.trans (hi.kb.mono (fun _ _ h => h))
      clear hi hk3 hl3 e5
      go_wp2_with (first | (at_builtin; refine wpList_append_marks _ rfl _ _ 44 rfl B 9 i0 (.string ⟨#[]⟩) 1 16 Tryz.underlying44 hi0 hz0 hz1 hz2 rfl (by decide) (.slice ao xs.length cap) xs.length [.string (markB ts.length)] rfl rfl (ho0.alloc _) ⟨wr.heap.size, 0, none⟩ 1 1 (by decide) rfl (cells_new _ _ _ _ rfl) ?c1 ?c2 ?c3 ?c4 ?_) | go_in)
      case c1 => intro u hu; rw [List.mem_singleton.1 hu]; rfl
      case c2 => unfold maxLen; omega
      case c3 => omega
      case c4 => have := hk0.size; simp; omega
      intro v1 w4 ho1 hg1 hk1 hn1
      obtain ⟨a1, p1, rfl, _⟩ := own_form ho1
      have hL1 := hk1 _ _ _ (ho0.alloc _)
      have hK1 : Kb ((Value.slice ao xs.length cap).ownBlock.toList) w w4 := (hk0.alloc _).grown hg1 (fun k hk => .inl (by rw [hk]; simp))
      have hn1' : (Value.slice a1 (xs.length + 1) p1).ownBlock = (Value.slice ao xs.length cap).ownBlock ∨ ∃ g, (Value.slice a1 (xs.length + 1) p1).ownBlock = some g ∧ w.heap.size ≤ g := by
        rcases hn1 with h | ⟨g, h, hle⟩
        · exact .inl h
        · exact .inr ⟨g, h, by have := hk0.size; omega⟩
      have HL1 := hide hL1
      have HO1 := hide ho1
      have HN1 := hide hn1'
      clear ho1 hg1 hk1 hn1 hn1' ho0
      go_wp2_with (first | (at_builtin; refine wpList_append_marks _ rfl _ _ 44 rfl B 9 i0 (.string ⟨#[]⟩) 1 16 Tryz.underlying44 hi0 hz0 hz1 hz2 rfl (by decide) (.slice ao xs.length cap) xs.length [.string (markB ts.length)] rfl rfl (HL1.out.alloc _) ⟨w4.heap.size, 0, none⟩ 2 2 (by decide) rfl (cells_new _ _ _ _ rfl) ?c1 ?c2 ?c3 ?c4 ?_) | go_in)
      case c1 => intro u hu; rw [List.mem_singleton.1 hu]; rfl
      case c2 => unfold maxLen; omega
      case c3 => omega
      case c4 => have := hK1.size; simp; omega
      intro v2 w5 ho2 hg2 hk2 hn2
      obtain ⟨a2, p2, rfl, _⟩ := own_form ho2
      have hL2 := hk2 _ _ _ (HL1.out.alloc _)
      have hM2 := hk2 _ _ _ (HO1.out.alloc _)
      have hK2 : Kb ((Value.slice ao xs.length cap).ownBlock.toList) w w5 := (hK1.alloc _).grown hg2 (fun k hk => .inl (by rw [hk]; simp))
      have hn2' : (Value.slice a2 (xs.length + 2) p2).ownBlock = (Value.slice ao xs.length cap).ownBlock ∨ ∃ g, (Value.slice a2 (xs.length + 2) p2).ownBlock = some g ∧ w.heap.size ≤ g := by
        rcases hn2 with h | ⟨g, h, hle⟩
        · exact .inl h
        · exact .inr ⟨g, h, by have := hK1.size; omega⟩
      have HL2 := hide hL2
      have HM2 := hide hM2
      have HO2 := hide ho2
      have HN2 := hide hn2'
      clear ho2 hg2 hk2 hn2 hn2' hL1 hL2 hM2 HO1 HL1
      go_wp2_with (first | (at_builtin; refine wpList_append_marks _ rfl _ _ 44 rfl B 9 i0 (.string ⟨#[]⟩) 1 16 Tryz.underlying44 hi0 hz0 hz1 hz2 rfl (by decide) (.slice ao xs.length cap) xs.length [.string (markB ts.length)] rfl rfl (HL2.out.alloc _) ⟨w5.heap.size, 0, none⟩ 3 3 (by decide) rfl (cells_new _ _ _ _ rfl) ?c1 ?c2 ?c3 ?c4 ?_) | go_in)
      case c1 => intro u hu; rw [List.mem_singleton.1 hu]; rfl
      case c2 => unfold maxLen; omega
      case c3 => omega
      case c4 => have := hK2.size; simp; omega
      intro v3 w6 ho3 hg3 hk3 hn3
      obtain ⟨a3, p3, rfl, _⟩ := own_form ho3
      have hL3 := hk3 _ _ _ (HL2.out.alloc _)
      have hM3 := hk3 _ _ _ (HM2.out.alloc _)
      have hN3 := hk3 _ _ _ (HO2.out.alloc _)
      have hK3 : Kb ((Value.slice ao xs.length cap).ownBlock.toList) w w6 := (hK2.alloc _).grown hg3 (fun k hk => .inl (by rw [hk]; simp))
      have hn3' : (Value.slice a3 (xs.length + 3) p3).ownBlock = (Value.slice ao xs.length cap).ownBlock ∨ ∃ g, (Value.slice a3 (xs.length + 3) p3).ownBlock = some g ∧ w.heap.size ≤ g := by
        rcases hn3 with h | ⟨g, h, hle⟩
        · exact .inl h
        · exact .inr ⟨g, h, by have := hK2.size; omega⟩
      have HL3 := hide hL3
      have HM3 := hide hM3
      have HR3 := hide hN3
      have HO3 := hide ho3
      have HN3 := hide hn3'
      have far : ∀ {e : TypeId} {size n : Nat} {v : Value} {ys : List Value}, e ≠ 9 → w.ownsRow B e size v n ys → w6.ownsRow B e size v n ys := by
        intro e size n v ys hne ho
        refine own_kbL ho hK3 (fun g hg heq => ?_)
        rcases own_ne ho HL.out hne with h | h
        · rw [h] at heq; cases heq
        · exact h (heq.trans (Option.mem_toList.1 hg).symm)
      have hV : w6.ownsRow B 44 1 (.slice Va ts.length Vc) ts.length ts := far (by decide) HB.out.trow
      have hRR : Hid (w6.ownsRow B 40 1 R rs.length rs) := far (by decide) HB.out.rrow
      have hRL : Hid (∀ (i : Nat) v, rs[i]? = some v → ∃ n, n ≤ 100000 ∧ w6.ownsRow B 51 2 v n (repC n (markR i))) := by
        intro i v hv
        obtain ⟨n, hn, ho⟩ := HB.out.rlists i v hv
        exact ⟨n, hn, far (by decide) ho⟩
      have hH : w6.heap[kb]? = some (.cells #[.slice none 0 0, R, .slice Va ts.length Vc] 75 (0, 0)) := hK3.heap HB.out.head (fun hm => own_head HL.out HB.out.head (by decide) (Option.mem_toList.1 hm).symm)
      have hLs : Hid (∀ (i : Nat) v, ts[i]? = some v → ∃ n, n ≤ 100000 ∧ w6.ownsRow B 9 1 v n (repC n (markT i))) := by
        intro i v hv
        obtain ⟨n, hn, ho⟩ := HB.out.tlists i v hv
        refine ⟨n, hn, own_kbL ho hK3 (fun g hg heq => ?_)⟩
        rcases HAP.out v (List.mem_of_getElem? hv) with h | h
        · rw [h] at heq; cases heq
        · exact h (heq.trans (Option.mem_toList.1 hg).symm)
      have HV := hide hV
      have hkn := own_head HV.out hH (by decide)
      have HKN := hide hkn
      obtain ⟨c0, c1, c2, d0, d1, d2⟩ := res_cells hH
      clear ho3 hg3 hk3 hn3 hn3' hL3 hM3 hN3 HL2 HM2 HO2 hV hkn far
      go_wp2_with (first | (at_builtin; refine wpList_append_own _ rfl _ _ 56 rfl B 44 j0 (.slice none 0 0) 1 24 Tryz.underlying56 hj0 hy0 hy1 hy2 rfl (by decide) (.slice Va ts.length Vc) ts.length ts rfl (HV.out.alloc _) ⟨w6.heap.size, 0, none⟩ 4 4 [.slice ao xs.length cap, .slice a1 (xs.length + 1) p1, .slice a2 (xs.length + 2) p2, .slice a3 (xs.length + 3) p3] rfl rfl (cells_new _ _ _ _ rfl) ?c1 ?c2 ?c3 ?c4 ?_) | go_in)
      case c1 => intro u hu; simp at hu; rcases hu with rfl | rfl | rfl | rfl <;> rfl
      case c2 => unfold maxLen; omega
      case c3 => omega
      case c4 => have := hK3.size; simp; omega
      intro V' w7 hoV hgV _
      have hH7 : w7.heap[kb]? = some (.cells #[.slice none 0 0, R, .slice Va ts.length Vc] 75 (0, 0)) := (hgV.block kb (by have := lt_of_heap hH; simp; omega) HKN.out).trans (heap_old hH _)
      clear c0 c1 c2 d0 d1 d2
      obtain ⟨c0, c1, c2, d0, d1, d2⟩ := res_cells hH7
      obtain ⟨aV, pV, rfl, _⟩ := own_form hoV
      have HOV := hide hoV
      have HGV := hide hgV
      clear hoV hgV
      go_wp2_with fail
      have hk7 : Kb [kb] w7 (w7.setCell ⟨kb, 2, none⟩ (.slice aV (ts.length + 4) pV)) := (Kb.refl _ _).setCell (.inl (by simp)) _
      have carry : ∀ {e : TypeId} {size n : Nat} {v : Value} {ys : List Value}, e ≠ 44 → e ≠ 75 → w6.ownsRow B e size v n ys → (w7.setCell ⟨kb, 2, none⟩ (.slice aV (ts.length + 4) pV)).ownsRow B e size v n ys := by
        intro e size n v ys hne hne2 h
        have h7 := (h.alloc (.cells #[.slice ao xs.length cap, .slice a1 (xs.length + 1) p1, .slice a2 (xs.length + 2) p2, .slice a3 (xs.length + 3) p3] 44)).kept HGV.out (own_ne h HV.out hne)
        exact own_store h7 hne2 hH7
      have hpos : ∀ r, r < 4 → markT (ts.length + r) = [.string (markB ts.length)] := by
        intro r hr
        rw [← hmk]
        unfold markT
        rw [show (ts.length + r) / 4 * 4 = ts.length / 4 * 4 by omega]
      refine bodyPost_end (v := .tuple #[]) (by simp [results, Tryz.results78, go_sem]) rfl ?_
      refine ⟨rfl, .slice aV (ts.length + 4) pV, .slice a1 (xs.length + 1) p1, .slice a2 (xs.length + 2) p2, .slice a3 (xs.length + 3) p3, ⟨hBk, ?_, ?_, ?_, carry (by decide) (by decide) hRR.out, ?_⟩, ?_, ?_⟩
      · rw [heap_set hH7]
        rfl
      · rw [List.length_append]
        exact own_store HOV.out (by decide) hH7
      · intro i v hv
        by_cases hil : i < ts.length
        · rw [List.getElem?_append_left hil] at hv
          obtain ⟨n, hn, ho⟩ := hLs.out i v hv
          exact ⟨n, hn, carry (by decide) (by decide) ho⟩
        · rw [List.getElem?_append_right (by omega)] at hv
          obtain ⟨r, rfl⟩ : ∃ r, i = ts.length + r := ⟨i - ts.length, by omega⟩
          rw [Nat.add_sub_cancel_left] at hv
          match r, hv with
          | 0, hv => injection hv with hv; subst hv; exact ⟨xs.length, by omega, by rw [hpos 0 (by decide)]; exact carry (by decide) (by decide) HL3.out⟩
          | 1, hv => injection hv with hv; subst hv; exact ⟨(xs.length + 1), by omega, by rw [hpos 1 (by decide)]; exact carry (by decide) (by decide) HM3.out⟩
          | 2, hv => injection hv with hv; subst hv; exact ⟨(xs.length + 2), by omega, by rw [hpos 2 (by decide)]; exact carry (by decide) (by decide) HR3.out⟩
          | 3, hv => injection hv with hv; subst hv; exact ⟨(xs.length + 3), by omega, by rw [hpos 3 (by decide)]; exact carry (by decide) (by decide) HO3.out⟩
          | r + 4, hv => simp at hv
      · intro i v hv
        obtain ⟨n, hn, ho⟩ := hRL.out i v hv
        exact ⟨n, hn, carry (by decide) (by decide) ho⟩
      · intro u hu
        simp at hu
        rcases hu with rfl | rfl | rfl
        · exact HN1.out
        · exact HN2.out
        · exact HN3.out
      · refine Kb.setCell ?_ (.inl (by simp [may])) _
        refine Kb.grown ((hK3.mono (fun k _ hk => ?_)).alloc _) HGV.out (fun k hk => .inl ?_)
        · simp only [may, List.mem_cons, List.mem_append]; exact .inr (.inr hk)
        · simp only [may, List.mem_cons, List.mem_append]; exact .inr (.inl (Option.mem_toList.2 hk))

end Go.Proofs.YtiamlbhkiehilaaGreatDoor
