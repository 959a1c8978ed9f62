import Derived.Test.YtiamlbhkiehilaaGreatDoorBk15
import Derived.Test.YtiamlbhkiehilaaGreatDoorBk18
import Derived.Test.YtiamlbhkiehilaaGreatDoorBk20
import Derived.Test.YtiamlbhkiehilaaGreatDoorBk21
import Derived.Test.YtiamlbhkiehilaaGreatDoorBk23
namespace Go.Proofs.YtiamlbhkiehilaaGreatDoor
open Go.RowKit Go.Maps

theorem readGo_bad' {ls : List ByteArray} : ∀ {pre : List RowD} {last : ByteArray} {n : Nat} {rs : List RowD} {k m : Int}, readGo pre last n ls = (rs, k, m) → k ≠ 0 → rs = [] ∧ 0 ≤ m := by
  induction ls with
  | nil => intro pre last n rs k m h hk; simp only [readGo, Prod.mk.injEq] at h; exact absurd h.2.1.symm hk
  | cons l q ih =>
    intro pre last n rs k m h hk
    cases q with
    | nil =>
      rw [readGo_last] at h
      split at h
      · simp only [Prod.mk.injEq] at h; exact absurd h.2.1.symm hk
      · simp only [Prod.mk.injEq] at h; exact ⟨h.1.symm, by omega⟩
    | cons l' t =>
      cases hl : lineRow l with
      | none => rw [readGo_form hl] at h; simp only [Prod.mk.injEq] at h; exact ⟨h.1.symm, by omega⟩
      | some x =>
        by_cases he : chk true x last = 0
        · rw [readGo_add hl he] at h
          exact ih h hk
        · rw [readGo_bad hl he] at h; simp only [Prod.mk.injEq] at h; exact ⟨h.1.symm, by omega⟩

theorem read_bad {s : ByteArray} {rs : List RowD} {k m : Int} (h : readB s = (rs, k, m)) (hk : k ≠ 0) : rs = [] ∧ 0 ≤ m := by
  unfold readB at h
  split at h
  · simp only [Prod.mk.injEq] at h; exact ⟨h.1.symm, by omega⟩
  · exact readGo_bad' h hk

theorem read_small {s : ByteArray} {rs : List RowD} {m : Int} (h : readB s = (rs, 0, m)) : s.size ≤ 25000 := by
  unfold readB at h
  split at h
  · simp only [Prod.mk.injEq] at h; exact absurd h.2.1 (by decide)
  · omega

theorem okRows_long {last : ByteArray} {rs : List RowD} (h : okRows last rs) : ∀ r ∈ rs, r.name.size ≤ 12 ∧ ∀ b ∈ r.to, b.size ≤ 12 := by
  induction rs generalizing last with
  | nil => simp
  | cons a q ih =>
    intro r hr
    rcases List.mem_cons.1 hr with rfl | hr
    · have h1 := (rowErr_zero.1 h.1).2
      unfold chk at h1
      have h2 : rowLong r = false := by
        cases hl : rowLong r
        · rfl
        · rw [hl] at h1
          split at h1
          · simp at h1
          · simp at h1
      simp only [rowLong, longS, Bool.or_eq_false_iff, decide_eq_false_iff_not, List.any_eq_false, decide_eq_true_eq] at h2
      exact ⟨by omega, fun b hb => by have := h2.2 b hb; omega⟩
    · exact ih h.2 r hr

theorem read_fits {s : ByteArray} {rs : List RowD} {m : Int} (h : readB s = (rs, 0, m)) : fitsR rs := by
  have h1 := okRows_long (read_tell h).1
  have h2 := (readB_fits s).1
  rw [h] at h2
  intro r hr
  obtain ⟨a, b⟩ := h1 r hr
  exact ⟨by unfold maxLen; omega, by have := h2 r hr; unfold maxLen; omega, fun x hx => by have := b x hx; unfold maxLen; omega⟩

set_option maxRecDepth 100000 in
set_option maxHeartbeats 2000000 in
theorem back_walk (file text : ByteArray) (w : World) (m : Int) (hf : file.size ≤ maxLen) (ht : text.size ≤ maxLen) (hm : w.cell? ⟨1, 0, none⟩ = some (.int .i64 m)) (hg : 1 < w.heap.size)
    (HW : Calls Tryz.prog 15 #[] w fun e w' => e = .returned (.bool true) ∧ Below w.heap.size w w') :
    Calls Tryz.prog 8 #[.string file, .string text] w fun e w' => e = .returned (.bool true) ∧ Below w.heap.size w w' := by
  go_enter Tryz.func8, Tryz.ntmps8
  go_wp2_with fail
  refine HW.mono ?_
  rintro e w1 ⟨rfl, hb1⟩
  have hm1 : w1.cell? ⟨1, 0, none⟩ = some (.int .i64 m) := (hb1.cell (p := ⟨1, 0, none⟩) hg).trans hm
  clear HW
  go_wp2_with fail
  refine (qparse_any file w1 m hf hm1).mono ?_
  rintro e w2 ⟨vl, rfl, hol, hb2⟩
  have hB2 : Below w.heap.size w w2 := hb1.trans (hb2.mono hb1.size)
  generalize hpf : parseB file = pf at hol ⊢
  obtain ⟨fs, pk, pn⟩ := pf
  simp only at hol ⊢
  have ge := heap_new w2 (.cells #[.int .i64 pk, .int .i64 pn] 27)
  have hB3 : Below w.heap.size w (w2.alloc (.cells #[.int .i64 pk, .int .i64 pn] 27)) := hB2.alloc hB2.size _
  have hol3 := hol.alloc (.cells #[.int .i64 pk, .int .i64 pn] 27)
  by_cases hpk : pk = 0
  · subst hpk
    have hgo := parse_ok hpf
    have hpr := print_ok hgo []
    have hpp := print_parse hgo
    obtain ⟨hsm, hcn⟩ := okGo_small hgo
    have hlen : fs.length ≤ 120 := by
      rcases hcn with h | h
      · rw [h]; simp
      · simpa using h
    have htl := textL_len hsm
    rw [List.nil_append] at hpr
    go_wp2_with fail
    generalize w2.alloc (.cells #[.int .i64 0, .int .i64 pn] 27) = w3 at ge hB3 hol3 ⊢
    obtain ⟨e0, e1, _, _⟩ := err_cells ge
    have hqp := qprint_any vl fs w3 (by unfold maxLen; omega) (facts_of_owns hol3) (fun f hf => by have := hsm f hf; unfold maxLen; omega)
    rw [hpr] at hqp
    simp only at hqp
    have HQP := hide hqp
    have HPP := hide hpp
    clear hqp hpr hpp hgo hsm hcn hol hb2 hB2 ge
    obtain ⟨la, lc, rfl, _⟩ := own_form hol3
    refine HQP.out.mono ?_
    rintro e w4 ⟨rfl, hb4⟩
    have hB4 : Below w.heap.size w w4 := hB3.trans (hb4.mono hB3.size)
    have gf := heap_new w4 (.cells #[.int .i64 0, .int .i64 0] 27)
    have hb5 : Below w4.heap.size w4 (w4.alloc (.cells #[.int .i64 0, .int .i64 0] 27)) := (Below.refl _ _).alloc (Nat.le_refl _) _
    go_wp2_with fail
    generalize w4.alloc (.cells #[.int .i64 0, .int .i64 0] 27) = w5 at gf hb5 ⊢
    have hB5 : Below w.heap.size w w5 := hB4.trans (hb5.mono hB4.size)
    have hm5 : w5.cell? ⟨1, 0, none⟩ = some (.int .i64 m) := (hB5.cell (p := ⟨1, 0, none⟩) hg).trans hm
    have hl5 := own_below (own_below hol3 hb4) hb5
    have hqm := qparse_any ⟨(textL fs).toArray⟩ w5 m (by rw [arr_size]; unfold maxLen; omega) hm5
    refine hqm.mono ?_
    unfold PRes
    rw [HPP.out]
    rintro e w6 ⟨vm, rfl, hom, hb6⟩
    simp only at hom ⊢
    obtain ⟨ma, mc, rfl, _⟩ := own_form hom
    have gg := heap_new w6 (.cells #[.int .i64 0, .int .i64 0] 27)
    have gf7 := heap_old (Below.heapAt hb6 gf (lt_of_heap gf)) (.cells #[.int .i64 0, .int .i64 0] 27)
    have hB6 : Below w.heap.size w w6 := hB5.trans (hb6.mono hB5.size)
    have hB7 : Below w.heap.size w (w6.alloc (.cells #[.int .i64 0, .int .i64 0] 27)) := hB6.alloc hB6.size _
    have hl7 := facts_of_owns ((own_below hl5 hb6).alloc (.cells #[.int .i64 0, .int .i64 0] 27))
    have hm7 := facts_of_owns (hom.alloc (.cells #[.int .i64 0, .int .i64 0] 27))
    have gf6 := Below.heapAt hb6 gf (lt_of_heap gf)
    obtain ⟨f0, f1, _, _⟩ := err_cells gf6
    have hlt6 := lt_of_heap gf6
    clear gg gf7 gf6
    have hq : ((fs.length : Int) != (fs.length : Int)) = false := by simp
    have HL7 := hide hl7
    have HM7 := hide hm7
    clear hqm hom hl5 hol3 hb4 hb5 hb6 gf hB3 hB4 hB5 hB6 hl7 hm7 HQP HPP hpf htl e0 e1
    go_wp2_with fail
    generalize w6.alloc (.cells #[.int .i64 0, .int .i64 0] 27) = w7 at hB7 HL7 HM7 ⊢
    clear f0 f1 hlt6
    go_loopw [12] (fun iv wr => ∃ i : Nat, iv = .int .i64 i ∧ i ≤ fs.length ∧ Below w7.heap.size w7 wr) (fun iv _ => fs.length - (intOf iv).toNat)
    case atStart => exact ⟨0, rfl, Nat.zero_le _, Below.refl _ _⟩
    case round =>
      obtain ⟨i, rfl, hi, hbx⟩ := hrel
      by_cases hlt : i < fs.length
      · obtain ⟨⟨k, p, q⟩, hfi⟩ : ∃ f, fs[i]? = some f := ⟨_, List.getElem?_eq_getElem hlt⟩
        have hne : fs ≠ [] := by intro e; rw [e] at hlt; simp at hlt
        obtain ⟨xa, xc, hx1, _, _, hx2⟩ := HL7.out.below hbx
        obtain ⟨ya, yc, hy1, _, _, hy2⟩ := HM7.out.below hbx
        injection hx1 with hx1 _ hx3
        injection hy1 with hy1 _ hy3
        obtain ⟨b1, o1, h1, hb1', hf1⟩ := hx2 hne
        obtain ⟨b2, o2, h2, hb2', hf2⟩ := hy2 hne
        rw [h1] at hx1
        rw [h2] at hy1
        subst hx1 hy1 hx3 hy3
        obtain ⟨a0, a1, a2⟩ := hf1 i k p q hfi
        obtain ⟨c0, c1, c2⟩ := hf2 i k p q hfi
        have hneq := neq_fact k p q
        have hgf := guardFact
        clear hfi hf1 hf2 hx2 hy2
        go_wp2
        go_quiet (fail)
        go_wp2
        go_roundw
        case rel => exact ⟨i + 1, by go_num, hlt, below_drewN hbx _⟩
        case measure => simp [intOf]; omega
      · have hBr : Below w.heap.size w wr := hB7.trans (hbx.mono hB7.size)
        clear hB7 hbx
        have hm8 : wr.cell? ⟨1, 0, none⟩ = some (.int .i64 m) := (hBr.cell (p := ⟨1, 0, none⟩) hg).trans hm
        go_wp2_with fail
        refine (qread_any text wr m ht hm8).mono ?_
        rintro e wa ⟨vr, ps, rfl, hps, hor, hba⟩
        have hBa : Below w.heap.size w wa := hBr.trans (hba.mono hBr.size)
        generalize hrd : readB text = rr at hps ⊢
        obtain ⟨rs, rk, rn⟩ := rr
        simp only at hps ⊢
        have hps2 : ps.map Prod.fst = rs := hps
        by_cases hrk : rk = 0
        · subst hrk
          obtain ⟨ho1, ho2, ho3⟩ := read_tell hrd
          have gr := heap_new wa (.cells #[.int .i64 0, .int .i64 rn] 27)
          have hBb : Below w.heap.size w (wa.alloc (.cells #[.int .i64 0, .int .i64 rn] 27)) := hBa.alloc hBa.size _
          have hir := (hor.below ((Below.refl _ _).alloc (Nat.le_refl _) (.cells #[.int .i64 0, .int .i64 rn] 27))).rows
          rw [hps2] at hir
          obtain ⟨hf1, hf2⟩ := readB_fits text
          rw [hrd] at hf1 hf2
          simp only at hf1 hf2
          have htl := qtell_any vr rs (wa.alloc (.cells #[.int .i64 0, .int .i64 rn] 27)) (by unfold maxLen; omega) hir (read_fits hrd) (by rw [ho2]; have := read_small hrd; rw [show text.data.toList.length = text.size from Array.length_toList]; omega)
          have ho3' : tellGo ⟨#[]⟩ 0 [] rs = (text.data.toList, 0, 0) := ho3
          rw [ho3'] at htl
          have htx : (⟨text.data.toList.toArray⟩ : ByteArray) = text := by apply bytes_inj; simp
          simp only at htl
          rw [htx] at htl
          have HTL := hide htl
          obtain ⟨e0, e1, _, _⟩ := err_cells gr
          clear htl hir hor hps hps2 ho1 ho2 ho3 ho3' hf1 hf2 hrd htx
          go_wp2_with fail
          refine HTL.out.mono ?_
          rintro e wc ⟨rfl, hbc⟩
          have hBc : Below w.heap.size w wc := hBb.trans (hbc.mono hBb.size)
          have htt : (text.toList == text.toList) = true := by simp
          clear e0 e1 gr
          go_wp2
          go_ret
          exact ⟨rfl, hBc.alloc hBc.size _⟩
        · obtain ⟨hr0, hrn⟩ := read_bad hrd hrk
          have hpl : ps = [] := by
            rw [hr0] at hps2
            exact List.map_eq_nil_iff.1 hps2
          subst hpl
          obtain ⟨va, vc, hva, _⟩ := own_form hor.row
          subst hva
          have hkb : (rk == 0) = false := beq_false_of_ne hrk
          have hkn : (rk != 0) = true := by simp [hrk]
          have hrn' : decide (0 ≤ rn) = true := by simp [hrn]
          clear hor hps hps2 hrd
          go_wp2
          go_ret
          exact ⟨rfl, hBa.alloc hBa.size _⟩
  · have hkb : (pk == 0) = false := beq_false_of_ne hpk
    go_wp2_with fail
    generalize w2.alloc (.cells #[.int .i64 pk, .int .i64 pn] 27) = w3 at ge hB3 hol3 ⊢
    clear ge hol hol3 hb2 hB2 hpf
    have hm8 : w3.cell? ⟨1, 0, none⟩ = some (.int .i64 m) := (hB3.cell (p := ⟨1, 0, none⟩) hg).trans hm
    go_wp2_with fail
    refine (qread_any text w3 m ht hm8).mono ?_
    rintro e wa ⟨vr, ps, rfl, hps, hor, hba⟩
    have hBa : Below w.heap.size w wa := hB3.trans (hba.mono hB3.size)
    generalize hrd : readB text = rr at hps ⊢
    obtain ⟨rs, rk, rn⟩ := rr
    simp only at hps ⊢
    have hps2 : ps.map Prod.fst = rs := hps
    by_cases hrk : rk = 0
    · subst hrk
      obtain ⟨ho1, ho2, ho3⟩ := read_tell hrd
      have gr := heap_new wa (.cells #[.int .i64 0, .int .i64 rn] 27)
      have hBb : Below w.heap.size w (wa.alloc (.cells #[.int .i64 0, .int .i64 rn] 27)) := hBa.alloc hBa.size _
      have hir := (hor.below ((Below.refl _ _).alloc (Nat.le_refl _) (.cells #[.int .i64 0, .int .i64 rn] 27))).rows
      rw [hps2] at hir
      obtain ⟨hf1, hf2⟩ := readB_fits text
      rw [hrd] at hf1 hf2
      simp only at hf1 hf2
      have htl := qtell_any vr rs (wa.alloc (.cells #[.int .i64 0, .int .i64 rn] 27)) (by unfold maxLen; omega) hir (read_fits hrd) (by rw [ho2]; have := read_small hrd; rw [show text.data.toList.length = text.size from Array.length_toList]; omega)
      have ho3' : tellGo ⟨#[]⟩ 0 [] rs = (text.data.toList, 0, 0) := ho3
      rw [ho3'] at htl
      have htx : (⟨text.data.toList.toArray⟩ : ByteArray) = text := by apply bytes_inj; simp
      simp only at htl
      rw [htx] at htl
      have HTL := hide htl
      obtain ⟨e0, e1, _, _⟩ := err_cells gr
      clear htl hir hor hps hps2 ho1 ho2 ho3 ho3' hf1 hf2 hrd htx
      go_wp2_with fail
      refine HTL.out.mono ?_
      rintro e wc ⟨rfl, hbc⟩
      have hBc : Below w.heap.size w wc := hBb.trans (hbc.mono hBb.size)
      have htt : (text.toList == text.toList) = true := by simp
      clear e0 e1 gr
      go_wp2
      go_ret
      exact ⟨rfl, hBc.alloc hBc.size _⟩
    · obtain ⟨hr0, hrn⟩ := read_bad hrd hrk
      have hpl : ps = [] := by
        rw [hr0] at hps2
        exact List.map_eq_nil_iff.1 hps2
      subst hpl
      obtain ⟨va, vc, hva, _⟩ := own_form hor.row
      subst hva
      have hkb : (rk == 0) = false := beq_false_of_ne hrk
      have hkn : (rk != 0) = true := by simp [hrk]
      have hrn' : decide (0 ≤ rn) = true := by simp [hrn]
      clear hor hps hps2 hrd
      go_wp2
      go_ret
      exact ⟨rfl, hBa.alloc hBa.size _⟩

end Go.Proofs.YtiamlbhkiehilaaGreatDoor
