import Derived.Test.YtiamlbhkiehilaaTLaw
namespace Go.Proofs.Ytiamlbhkiehilaa
open Go.RowKit

def endR : List RowD := [⟨⟨#[97]⟩, [⟨#[97]⟩, ⟨#[98]⟩]⟩, ⟨⟨#[98]⟩, []⟩]
theorem tell_end : tellGo ⟨#[]⟩ 0 [] endR = ([97, 58, 32, 97, 32, 98, 10, 98, 58, 10], 0, 0) := by decide +kernel

theorem end_rows (w7 : World) (X : Obj) : IsRows (.slice (some ⟨w7.heap.size + 1 + 1, 0, none⟩) 2 2) endR (((w7.alloc X).alloc (.cells #[.string ⟨#[97]⟩, .string ⟨#[98]⟩] 9)).alloc (.cells #[.string ⟨#[97]⟩, .slice (some ⟨w7.heap.size + 1, 0, none⟩) 2 2, .string ⟨#[98]⟩, .slice none 0 0] 38)) := by
  have s1 : (w7.alloc X).heap.size = w7.heap.size + 1 := by simp
  have s2 : ((w7.alloc X).alloc (.cells #[.string ⟨#[97]⟩, .string ⟨#[98]⟩] 9)).heap.size = w7.heap.size + 1 + 1 := by simp
  have h1 := heap_new ((w7.alloc X).alloc (.cells #[.string ⟨#[97]⟩, .string ⟨#[98]⟩] 9)) (.cells #[.string ⟨#[97]⟩, .slice (some ⟨w7.heap.size + 1, 0, none⟩) 2 2, .string ⟨#[98]⟩, .slice none 0 0] 38)
  have h2 := heap_old (heap_new (w7.alloc X) (.cells #[.string ⟨#[97]⟩, .string ⟨#[98]⟩] 9)) (.cells #[.string ⟨#[97]⟩, .slice (some ⟨w7.heap.size + 1, 0, none⟩) 2 2, .string ⟨#[98]⟩, .slice none 0 0] 38)
  rw [s2] at h1
  rw [s1] at h2
  refine ⟨_, 2, rfl, Nat.le_refl _, (fun h => by cases h), fun _ => ⟨_, _, rfl, lt_of_heap h1, ?_⟩⟩
  intro i n to hi
  match i, hi with
  | 0, hi =>
    simp [endR] at hi
    obtain ⟨rfl, rfl⟩ := hi
    refine ⟨by rw [cell_at h1]; rfl, _, by rw [cell_at h1]; rfl, some ⟨w7.heap.size + 1, 0, none⟩, 2, rfl, Nat.le_refl _, (fun h => by cases h), fun _ => ⟨_, _, rfl, lt_of_heap h2, ?_⟩⟩
    intro j s hj
    match j, hj with
    | 0, hj => simp at hj; subst hj; rw [cell_at h2]; rfl
    | 1, hj => simp at hj; subst hj; rw [cell_at h2]; rfl
    | j + 2, hj => simp at hj
  | 1, hi =>
    simp [endR] at hi
    obtain ⟨rfl, rfl⟩ := hi
    exact ⟨by rw [cell_at h1]; rfl, _, by rw [cell_at h1]; rfl, none, 0, rfl, Nat.le_refl _, (fun _ => rfl), fun h => absurd rfl h⟩
  | i + 2, hi => simp [endR] at hi

/-- What holds at the head of each round of the loop that writes over. -/
structure OInv (G : Nat) (hs : List Nat) (rs : List RowD) (i : Nat) (w5 wx : World) : Prop where
  le : i ≤ rs.length
  fam : Fam G hs (overTo rs i) wx
  row : RowP G (lentP hs (overTo rs i) ++ List.replicate 8 beyP) [] wx
  kb : Kb (G :: hs) w5 wx

set_option maxHeartbeats 4000000 in
set_option maxRecDepth 100000 in
theorem tells_walk (v : Value) (rs : List RowD) (w : World) (hv : IsRows v rs w) (hfit : fitsR rs) (hreach : rs.length ≤ 1000000000000) (hto : ∀ r ∈ rs, r.to.length ≤ 1000000000000) (hb1 : (rowsText rs).length ≤ 1000000000000) (hb2 : (rowsText (rs.map overR)).length ≤ 1000000000000) :
    Calls Try.prog 4 #[v] w fun e w' => e = .returned (.bool true) ∧ Below w.heap.size w w' := by
  have hlen : rs.length ≤ maxLen := by unfold maxLen; omega
  have HQ : Hid (∀ v w', IsRows v rs w' → Calls Try.prog 8 #[v] w' fun e w'' => e = .returned (.tuple #[.string ⟨(tellGo ⟨#[]⟩ 0 [] rs).1.toArray⟩, .agg #[.int .i64 (tellGo ⟨#[]⟩ 0 [] rs).2.1, .int .i64 (tellGo ⟨#[]⟩ 0 [] rs).2.2]]) ∧ Below w'.heap.size w' w'') := fun v w' h => qtell_any v rs w' hlen h hfit hb1
  have HR : Hid (∀ v w', IsRows v rs w' → Calls Try.prog 9 #[v] w' fun e w'' => e = .returned (.tuple #[.string ⟨(tellGo ⟨#[]⟩ 0 [] rs).1.toArray⟩, .agg #[.int .i64 (tellGo ⟨#[]⟩ 0 [] rs).2.1, .int .i64 (tellGo ⟨#[]⟩ 0 [] rs).2.2]]) ∧ Below w'.heap.size w' w'') := fun v w' h => reftell_any v rs w' hlen h hfit hb1
  generalize tellGo ⟨#[]⟩ 0 [] rs = R at HQ HR
  obtain ⟨ts, tk, tl⟩ := R
  simp only at HQ HR
  have hfit2 : fitsR (rs.map overR) := by
    intro r hr
    obtain ⟨r0, h0, rfl⟩ := List.mem_map.1 hr
    refine ⟨show overS.size ≤ maxLen by decide, by simp [overR]; exact (hfit r0 h0).2.1, ?_⟩
    intro s hs
    rw [(List.mem_replicate.1 hs).2]
    decide
  have hlen2 : (rs.map overR).length ≤ maxLen := by rw [List.length_map]; exact hlen
  have HQ2 : Hid (∀ v w', IsRows v (rs.map overR) w' → Calls Try.prog 8 #[v] w' fun e w'' => e = .returned (.tuple #[.string ⟨(tellGo ⟨#[]⟩ 0 [] (rs.map overR)).1.toArray⟩, .agg #[.int .i64 (tellGo ⟨#[]⟩ 0 [] (rs.map overR)).2.1, .int .i64 (tellGo ⟨#[]⟩ 0 [] (rs.map overR)).2.2]]) ∧ Below w'.heap.size w' w'') := fun v w' h => qtell_any v _ w' hlen2 h hfit2 hb2
  have HR2 : Hid (∀ v w', IsRows v (rs.map overR) w' → Calls Try.prog 9 #[v] w' fun e w'' => e = .returned (.tuple #[.string ⟨(tellGo ⟨#[]⟩ 0 [] (rs.map overR)).1.toArray⟩, .agg #[.int .i64 (tellGo ⟨#[]⟩ 0 [] (rs.map overR)).2.1, .int .i64 (tellGo ⟨#[]⟩ 0 [] (rs.map overR)).2.2]]) ∧ Below w'.heap.size w' w'') := fun v w' h => reftell_any v _ w' hlen2 h hfit2 hb2
  generalize tellGo ⟨#[]⟩ 0 [] (rs.map overR) = R at HQ2 HR2
  obtain ⟨os, ok, ol⟩ := R
  simp only at HQ2 HR2
  have HV := hide hv
  obtain ⟨ao, cap, hve, _⟩ := hv
  subst hve
  clear hfit2 hlen2 hlen hb1 hb2
  go_enter Try.func4, Try.ntmps4
  go_wp2_with fail
  refine (lent_any _ rs _ HV.out hreach hto).mono ?_
  rintro e w1 ⟨rfl, hbl1, hs, hfam1, hrow1⟩
  go_wp2_with fail
  refine (HQ.out _ _ (lent_rows (cap := rs.length + 8) hfam1 hrow1 (by omega))).mono ?_
  rintro e w2 ⟨rfl, hb2⟩
  have hfam2 := hfam1.kb (Kb.of_below hb2 []) (fun _ _ => by simp)
  have hrow2 : RowP w.heap.size _ _ w2 := Below.heapAt hb2 hrow1 (lt_of_heap hrow1)
  have hbl2 := hbl1.trans (hb2.mono hbl1.size)
  have hlt2 : ∀ h ∈ hs, h < w2.heap.size := hfam2.lt
  have hgG := hfam2.gt
  clear hb2 hfam1 hrow1 hbl1 HQ
  go_wp2_with fail
  have hb3 : Below w2.heap.size w2 (w2.alloc (.cells #[.int .i64 tk, .int .i64 tl] 28)) := (Below.refl _ _).alloc (Nat.le_refl _) _
  refine (HR.out _ _ (HV.out.below (hbl2.trans (hb3.mono hbl2.size)))).mono ?_
  rintro e w3 ⟨rfl, hb4⟩
  have he3 := Below.heapAt hb4 (heap_new w2 (.cells #[.int .i64 tk, .int .i64 tl] 28)) (by simp)
  have hb34 := hb3.trans (hb4.mono hb3.size)
  have hfam3 := hfam2.kb (Kb.of_below hb34 []) (fun _ _ => by simp)
  have hrow3 : RowP w.heap.size _ _ w3 := Below.heapAt hb34 hrow2 (lt_of_heap hrow2)
  have hbl3 := hbl2.trans (hb34.mono hbl2.size)
  have hG2 := lt_of_heap hrow2
  clear hb3 hb4 hb34 hfam2 hrow2 hbl2 HR
  go_wp2_with fail
  have hb5 : Below w3.heap.size w3 (w3.alloc (.cells #[.int .i64 tk, .int .i64 tl] 28)) := (Below.refl _ _).alloc (Nat.le_refl _) _
  have hfam4 := hfam3.kb (Kb.of_below hb5 []) (fun _ _ => by simp)
  have hrow4 : RowP w.heap.size _ _ (w3.alloc (.cells #[.int .i64 tk, .int .i64 tl] 28)) := Below.heapAt hb5 hrow3 (lt_of_heap hrow3)
  have hf4 := heap_new w3 (.cells #[.int .i64 tk, .int .i64 tl] 28)
  have he4 := heap_old he3 (.cells #[.int .i64 tk, .int .i64 tl] 28)
  refine (kept_any w.heap.size _ rs hs _ (HV.out.below (hbl3.trans (hb5.mono hbl3.size))) hfam4 hrow4 hreach hto).mono ?_
  rintro e w5 ⟨rfl, hb6⟩
  have hfam5 := hfam4.kb (Kb.of_below hb6 []) (fun _ _ => by simp)
  have hrow5 : RowP w.heap.size _ _ w5 := Below.heapAt hb6 hrow4 (lt_of_heap hrow4)
  have he5 := Below.heapAt hb6 he4 (lt_of_heap he4)
  have hf5 := Below.heapAt hb6 hf4 (lt_of_heap hf4)
  have hbl5 := (hbl3.trans (hb5.mono hbl3.size)).trans (hb6.mono (by have := hbl3.size; simp; omega))
  have hs23 := lt_of_heap he3
  clear hb5 hb6 hfam4 hrow4 hfam3 hrow3 hbl3 he3 he4 hf4
  go_wp2_with fail
  have hO : OInv w.heap.size hs rs 0 w5 w5 := ⟨Nat.zero_le _, hfam5, hrow5, Kb.refl _ _⟩
  have hG5 := lt_of_heap hrow5
  have hn1 : w2.heap.size ∉ w.heap.size :: hs := by
    simp only [List.mem_cons, not_or]
    exact ⟨by omega, fun hm => by have := hlt2 _ hm; omega⟩
  have hn2 : w3.heap.size ∉ w.heap.size :: hs := by
    simp only [List.mem_cons, not_or]
    exact ⟨by omega, fun hm => by have := hlt2 _ hm; omega⟩
  have hge : ∀ k ∈ w.heap.size :: hs, w.heap.size ≤ k := by
    intro k hk
    rw [List.mem_cons] at hk
    rcases hk with rfl | hk
    · exact Nat.le_refl _
    · exact Nat.le_of_lt (hgG k hk)
  have HN1 := hide hn1
  have HN2 := hide hn2
  have HGE := hide hge
  have HGG := hide hgG
  clear hfam5 hrow5 hn1 hn2 hge hgG hlt2
  go_loopw [9] (fun i wx => ∃ i0 : Nat, i = .int .i64 i0 ∧ OInv w.heap.size hs rs i0 w5 wx) (fun i _ => rs.length - (intOf i).toNat)
  case atStart => exact ⟨0, rfl, hO⟩
  case round =>
    clear hO
    obtain ⟨i0, rfl, hi⟩ := hrel
    by_cases hin : i0 < rs.length
    · obtain ⟨⟨nm, to⟩, hr⟩ : ∃ r, rs[i0]? = some r := ⟨_, List.getElem?_eq_getElem hin⟩
      have hfam := hi.fam
      have hrow := hi.row
      have hkb := hi.kb
      rw [overTo_here hr] at hfam hrow
      have hAl : ((rs.take i0).map overR).length = i0 := by rw [List.length_map, List.length_take]; omega
      have hnx := overTo_next hr
      have hto1 := hto _ (List.mem_of_getElem? hr)
      simp only at hto1
      have HNX := hide hnx
      clear hr hi hnx
      generalize (rs.take i0).map overR = A at *
      generalize rs.drop (i0 + 1) = B at *
      subst hAl
      obtain ⟨h, hh⟩ : ∃ h, hs[A.length]? = some h := ⟨_, List.getElem?_eq_getElem (by rw [hfam.len]; simp)⟩
      obtain ⟨L, M, hLM, hLl⟩ := lentP_parts (r := ⟨nm, to⟩) hfam.len hh
      rw [hLM, List.append_assoc, List.cons_append] at hrow
      have HLM := hide hLM
      have hGh := HGG.out h (List.mem_of_getElem? hh)
      have hhm : h ∈ w.heap.size :: hs := List.mem_cons_of_mem _ (List.mem_of_getElem? hh)
      have HHM := hide hhm
      have HH := hide hh
      have HLL := hide hLl
      clear hLM hh hLl hhm
      go_wp2_with fail
      go_loopw [10] (fun i wx => ∃ k : Nat, i = .int .i64 k ∧ k ≤ to.length ∧ Fam w.heap.size hs (A ++ ⟨nm, List.replicate k overS ++ to.drop k⟩ :: B) wx ∧ RowP w.heap.size (L ++ (nm, slv h to) :: (M ++ List.replicate 8 beyP)) [] wx ∧ Kb (w.heap.size :: hs) w5 wx) (fun i _ => to.length - (intOf i).toNat)
      case atStart => exact ⟨0, rfl, Nat.zero_le _, hfam, hrow, hkb⟩
      case round =>
        clear hfam hrow hkb
        obtain ⟨k, rfl, hk, hfam, hrow, hkb⟩ := hrel
        obtain ⟨c0, c1⟩ := hrow.get (i := A.length) (n := nm) (v := slv h to) (by rw [List.getElem?_append_right (by rw [HLL.out]; omega), HLL.out, Nat.sub_self]; rfl)
        unfold slv at c1
        have hblk := hfam.blk A.length h _ HH.out (by rw [List.getElem?_append_right (Nat.le_refl _), Nat.sub_self]; rfl)
        simp only at hblk
        by_cases hkt : k < to.length
        · obtain ⟨x, hx⟩ : ∃ x, to[k]? = some x := ⟨_, List.getElem?_eq_getElem hkt⟩
          have hb2 := hblk
          rw [drop_here hx, List.append_assoc, List.cons_append] at hb2
          have x0 := hb2.get (i := k) (s := x) (by rw [List.getElem?_append_right (by simp)]; simp)
          have f0 : wr.frozen? ⟨h, k, none⟩ = false := frozen_at hblk _
          have hov := hb2.over overS
          rw [List.length_replicate] at hov
          have hkb1 : Kb [h] wr (wr.setCell ⟨h, k, none⟩ (.string overS)) := (Kb.refl _ _).setCell (Or.inl (by simp)) _
          have hov2 : RowS h ((List.replicate (k + 1) overS ++ to.drop (k + 1)) ++ List.replicate 8 beyS) [] (wr.setCell ⟨h, k, none⟩ (.string overS)) := by
            rw [List.replicate_succ', List.append_assoc, List.append_assoc]
            exact hov
          have hfam2 := hfam.set (r' := ⟨nm, List.replicate (k + 1) overS ++ to.drop (k + 1)⟩) HH.out hkb1 hov2
          have hrow2 : RowP w.heap.size (L ++ (nm, slv h to) :: (M ++ List.replicate 8 beyP)) [] (wr.setCell ⟨h, k, none⟩ (.string overS)) := hkb1.heap hrow (by simp; omega)
          have hkb2 := hkb.setCell (p := ⟨h, k, none⟩) (Or.inl HHM.out) (.string overS)
          clear hov hov2 hkb1 hb2 hblk hx hfam hrow hkb
          unfold overS at hfam2 hrow2 hkb2
          have HF2 := hide hfam2
          have HR2' := hide hrow2
          have HK2 := hide hkb2
          clear hfam2 hrow2 hkb2
          go_wp2
          go_roundw
          case rel => exact ⟨k + 1, by go_num, by omega, HF2.out, HR2'.out, HK2.out⟩
          case measure => simp [intOf]; omega
        · have hk2 : k = to.length := by omega
          subst hk2
          rw [List.drop_of_length_le (Nat.le_refl _), List.append_nil] at hfam hblk
          have hov := hrow.overName overS
          rw [HLL.out] at hov
          have f0 : wr.frozen? ⟨w.heap.size, A.length * 2, none⟩ = false := frozen_at hrow _
          have hkb1 : Kb [w.heap.size] wr (wr.setCell ⟨w.heap.size, A.length * 2, none⟩ (.string overS)) := (Kb.refl _ _).setCell (Or.inl (by simp)) _
          have hfam2 := (hfam.set (r' := overR ⟨nm, to⟩) HH.out (Kb.refl _ _) (by exact hblk)).kb hkb1 (fun h' hh' e => by have := HGG.out h' hh'; simp at e; omega)
          have hfin : OInv w.heap.size hs rs (A.length + 1) w5 (wr.setCell ⟨w.heap.size, A.length * 2, none⟩ (.string overS)) := by
            refine ⟨hin, ?_, ?_, hkb.setCell (p := ⟨w.heap.size, _, none⟩) (Or.inl (by simp)) _⟩
            · rw [HNX.out]; exact hfam2
            · rw [HNX.out, HLM.out, List.append_assoc, List.cons_append]
              have e : slv h (overR ⟨nm, to⟩).to = slv h to := by simp [slv, overR]
              rw [e]
              exact hov
          unfold overS at hfin
          have HFIN := hide hfin
          clear hov hkb1 hfam2 hfin hblk hfam hrow hkb
          go_wp2
          go_roundw
          case rel => exact ⟨A.length + 1, by go_num, HFIN.out⟩
          case measure => simp [intOf]; omega
    · have hi0 : i0 = rs.length := by have := hi.le; omega
      subst hi0
      have hfam := hi.fam
      have hrow := hi.row
      have hkb := hi.kb
      rw [overTo_end] at hfam hrow
      have he6 := hkb.heap he5 HN1.out
      have hf6 := hkb.heap hf5 HN2.out
      have hbl6 := hbl5.trans (hkb.below hbl5.size HGE.out)
      have hIR := lent_rows (cap := rs.length + 8) hfam hrow (by rw [List.length_map]; omega)
      rw [List.length_map] at hIR
      clear hi hfam hrow hkb he5 hf5 hbl5
      go_wp2_with fail
      refine (HQ2.out _ _ hIR).mono ?_
      rintro e w6 ⟨rfl, hb6⟩
      have he7 := Below.heapAt hb6 he6 (lt_of_heap he6)
      have hf7 := Below.heapAt hb6 hf6 (lt_of_heap hf6)
      have hIR2 := hIR.below hb6
      have hbl7 := hbl6.trans (hb6.mono hbl6.size)
      clear hb6 he6 hf6 hIR hbl6 HQ2
      go_wp2_with fail
      have hb8 : Below w6.heap.size w6 (w6.alloc (.cells #[.int .i64 ok, .int .i64 ol] 28)) := (Below.refl _ _).alloc (Nat.le_refl _) _
      refine (HR2.out _ _ (hIR2.below hb8)).mono ?_
      rintro e w7 ⟨rfl, hb9⟩
      have he8 := Below.heapAt hb9 (heap_old he7 _) (by have := lt_of_heap he7; simp; omega)
      have hf8 := Below.heapAt hb9 (heap_old hf7 _) (by have := lt_of_heap hf7; simp; omega)
      have hg8 := Below.heapAt hb9 (heap_new w6 (.cells #[.int .i64 ok, .int .i64 ol] 28)) (by simp)
      have hbl8 := (hbl7.trans (hb8.mono hbl7.size)).trans (hb9.mono (by have := hbl7.size; simp; omega))
      clear hb8 hb9 hIR2 he7 hf7 hbl7 HR2
      go_wp2_with fail
      have hER := end_rows w7 (.cells #[.int .i64 ok, .int .i64 ol] 28)
      have hq := qtell_any _ endR _ (by decide) hER (by
        intro r hr
        simp only [endR, List.mem_cons, List.not_mem_nil, or_false] at hr
        rcases hr with rfl | rfl
        · refine ⟨by decide, by decide, ?_⟩
          intro s hs
          simp only [List.mem_cons, List.not_mem_nil, or_false] at hs
          rcases hs with rfl | rfl <;> decide
        · exact ⟨by decide, by decide, fun s hs => by simp at hs⟩) (by decide)
      rw [tell_end] at hq
      have hh9 := heap_old (heap_old (heap_new w7 (.cells #[.int .i64 ok, .int .i64 ol] 28)) (.cells #[.string ⟨#[97]⟩, .string ⟨#[98]⟩] 9)) (.cells #[.string ⟨#[97]⟩, .slice (some ⟨w7.heap.size + 1, 0, none⟩) 2 2, .string ⟨#[98]⟩, .slice none 0 0] 38)
      have he9 := heap_old (heap_old (heap_old he8 (.cells #[.int .i64 ok, .int .i64 ol] 28)) (.cells #[.string ⟨#[97]⟩, .string ⟨#[98]⟩] 9)) (.cells #[.string ⟨#[97]⟩, .slice (some ⟨w7.heap.size + 1, 0, none⟩) 2 2, .string ⟨#[98]⟩, .slice none 0 0] 38)
      have hf9 := heap_old (heap_old (heap_old hf8 (.cells #[.int .i64 ok, .int .i64 ol] 28)) (.cells #[.string ⟨#[97]⟩, .string ⟨#[98]⟩] 9)) (.cells #[.string ⟨#[97]⟩, .slice (some ⟨w7.heap.size + 1, 0, none⟩) 2 2, .string ⟨#[98]⟩, .slice none 0 0] 38)
      have hg9 := heap_old (heap_old (heap_old hg8 (.cells #[.int .i64 ok, .int .i64 ol] 28)) (.cells #[.string ⟨#[97]⟩, .string ⟨#[98]⟩] 9)) (.cells #[.string ⟨#[97]⟩, .slice (some ⟨w7.heap.size + 1, 0, none⟩) 2 2, .string ⟨#[98]⟩, .slice none 0 0] 38)
      have hbl9 := ((hbl8.alloc hbl8.size (.cells #[.int .i64 ok, .int .i64 ol] 28)).alloc (by have := hbl8.size; simp; omega) (.cells #[.string ⟨#[97]⟩, .string ⟨#[98]⟩] 9)).alloc (by have := hbl8.size; simp; omega) (.cells #[.string ⟨#[97]⟩, .slice (some ⟨w7.heap.size + 1, 0, none⟩) 2 2, .string ⟨#[98]⟩, .slice none 0 0] 38)
      clear he8 hf8 hg8 hbl8 hER
      refine hq.mono ?_
      clear hq
      rintro e w8 ⟨rfl, hb10⟩
      have he := Below.heapAt hb10 he9 (lt_of_heap he9)
      have hf := Below.heapAt hb10 hf9 (lt_of_heap hf9)
      have hg := Below.heapAt hb10 hg9 (lt_of_heap hg9)
      have hh := Below.heapAt hb10 hh9 (lt_of_heap hh9)
      have hbl := hbl9.trans (hb10.mono hbl9.size)
      clear he9 hf9 hg9 hh9 hbl9 hb10
      have a0 : w8.cell? ⟨w2.heap.size, 0, none⟩ = some (.int .i64 tk) := by rw [cell_at he]; rfl
      have a1 : w8.cell? ⟨w2.heap.size, 1, none⟩ = some (.int .i64 tl) := by rw [cell_at he]; rfl
      have a2 : w8.cell? ⟨w3.heap.size, 0, none⟩ = some (.int .i64 tk) := by rw [cell_at hf]; rfl
      have a3 : w8.cell? ⟨w3.heap.size, 1, none⟩ = some (.int .i64 tl) := by rw [cell_at hf]; rfl
      have a4 : w8.cell? ⟨w6.heap.size, 0, none⟩ = some (.int .i64 ok) := by rw [cell_at hg]; rfl
      have a5 : w8.cell? ⟨w6.heap.size, 1, none⟩ = some (.int .i64 ol) := by rw [cell_at hg]; rfl
      have a6 : w8.cell? ⟨w7.heap.size, 0, none⟩ = some (.int .i64 ok) := by rw [cell_at hh]; rfl
      have a7 : w8.cell? ⟨w7.heap.size, 1, none⟩ = some (.int .i64 ol) := by rw [cell_at hh]; rfl
      have s3 := lt_of_heap he
      have s4 := lt_of_heap hf
      have s6 := lt_of_heap hg
      have s7 := lt_of_heap hh
      have q1 := eql_err tk tl
      have q2 := eql_err ok ol
      have q3 := guardErr
      clear he hf hg hh
      go_wp2
      go_ret
      exact ⟨rfl, hbl.alloc hbl.size _⟩

end Go.Proofs.Ytiamlbhkiehilaa
