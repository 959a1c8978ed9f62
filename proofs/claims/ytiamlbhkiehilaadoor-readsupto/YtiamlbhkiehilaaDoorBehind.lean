import Derived.Test.YtiamlbhkiehilaaDoorRows3
namespace Go.Proofs.YtiamlbhkiehilaaDoor
open Go.RowKit

def okK (r : RowD) (k : Nat) : Bool := isN r.name && ((r.to.take k).all isN && ascB (r.to.take k))
def longK (r : RowD) (k : Nat) : Bool := longS r.name || (r.to.take k).any longS

theorem okK_zero {r : RowD} {x : ByteArray} (hx : r.to[0]? = some x) : okK r 1 = (okK r 0 && isN x) := by
  unfold okK
  rw [all_step (k := 0) hx, ascB_one]
  cases isN r.name <;> simp [ascB]
theorem okK_succ {r : RowD} {j : Nat} {y x : ByteArray} (hy : r.to[j]? = some y) (hx : r.to[j + 1]? = some x) : okK r (j + 1 + 1) = (okK r (j + 1) && isN x && lessS y x) := by
  unfold okK
  rw [all_step (k := j + 1) hx, ascB_step hy hx]
  cases isN r.name <;> cases (r.to.take (j + 1)).all isN <;> cases isN x <;> cases ascB (r.to.take (j + 1)) <;> cases lessS y x <;> rfl
theorem longK_succ {r : RowD} {k : Nat} {x : ByteArray} (hx : r.to[k]? = some x) : longK r (k + 1) = (longK r k || longS x) := by
  unfold longK
  rw [any_step hx, Bool.or_assoc]
theorem okK_end {r : RowD} {k : Nat} (h : r.to.length ≤ k) : okK r k = (rowNames r && ascB r.to) := by
  unfold okK rowNames
  rw [List.take_of_length_le h, Bool.and_assoc]
theorem longK_end {r : RowD} {k : Nat} (h : r.to.length ≤ k) : longK r k = rowLong r := by
  unfold longK rowLong
  rw [List.take_of_length_le h]

set_option maxHeartbeats 4000000 in
set_option maxRecDepth 100000 in
theorem behind_any (n : ByteArray) (v : Value) (ss : List ByteArray) (last : ByteArray) (w : World) (hn : n.size ≤ maxLen) (hlen : ss.length ≤ maxLen) (hv : IsStrs v ss w) (hfit : fitsS ss) :
    Calls Tryd.prog 22 #[.agg #[.string n, v], .string last] w fun e w' => e = .returned (.int .i64 (rowErr ⟨n, ss⟩ last)) ∧ Below w.heap.size w w' := by
  obtain ⟨ao, cap, rfl, _, _, hne0⟩ := hv
  have hne := hide hne0
  clear hne0
  have hn0 := hn
  unfold maxLen at hlen hn
  have hb : Below w.heap.size w (w.alloc (.cells #[.string n, .slice ao ss.length cap] 54)) := (Below.refl _ _).alloc (Nat.le_refl _) _
  have g1 := heap_new w (.cells #[.string n, .slice ao ss.length cap] 54)
  go_enter Tryd.func22, Tryd.ntmps22
  go_wp2_with fail
  refine (name_any _ _ hn0).mono ?_
  rintro e w1 ⟨rfl, rfl⟩
  go_wp2_with fail
  generalize w.alloc (.cells #[.string n, .slice ao ss.length cap] 54) = w1 at hb g1 ⊢
  have hz1 := lt_of_heap g1
  go_loopw [5, 6, 7] (fun o l i wr => ∃ k : Nat, i = .int .i64 k ∧ k ≤ ss.length ∧ o = .bool (okK ⟨n, ss⟩ k) ∧ l = .bool (longK ⟨n, ss⟩ k) ∧ Below w1.heap.size w1 wr) (fun _ _ i _ => ss.length - (intOf i).toNat)
  case atStart => exact ⟨0, rfl, Nat.zero_le _, by simp [okK, isN, ascB], congrArg Value.bool (by rw [Bool.eq_iff_iff]; simp [longK, longS]; omega), Below.refl _ _⟩
  case round =>
    obtain ⟨k, rfl, hk, rfl, rfl, hbx⟩ := hrel
    have g2 := Below.heapAt hbx g1 hz1
    have c0 := (cell_at g2 0)
    have c1 := (cell_at g2 1)
    simp only [List.getElem?_toArray, List.getElem?_cons_zero, List.getElem?_cons_succ] at c0 c1
    by_cases hlt : k < ss.length
    · obtain ⟨x, hx⟩ : ∃ x, ss[k]? = some x := ⟨_, List.getElem?_eq_getElem hlt⟩
      obtain ⟨b, off, hao, hbw, hs⟩ := hne.out (ne_nil_of_get hx)
      subst hao
      have hS := (hs.below hb hbw).below (hbx.mono hb.size) hbw
      have d0 := hS k x hx
      have hxs := hfit x (List.mem_of_getElem? hx)
      have hxs' : (x.size : Int) ≤ 9223372036854775807 := by unfold maxLen at hxs; omega
      have HX := hide hx
      clear g2
      by_cases hk0 : k = 0
      · subst hk0
        have hst := okK_zero (r := ⟨n, ss⟩) hx
        rw [Nat.add_zero] at d0
        clear hx hs hne hS
        cases ho : okK ⟨n, ss⟩ 0
        · cases hnx : isN x
          all_goals
            have HO1 : Hid (okK ⟨n, ss⟩ (0 + 1) = false) := by unfold Hid; rw [hst, ho, Bool.false_and]
            have HNX : Hid (nameB x.data.toList = _) := hnx
            clear hst ho hnx
            cases hl : longK ⟨n, ss⟩ 0
            · have HL := hide hl
              clear hl
              by_cases hxl : 12 < x.size
              · have HL1 : Hid (longK ⟨n, ss⟩ (0 + 1) = true) := by unfold Hid; rw [longK_succ HX.out, HL.out, Bool.false_or]; simp [longS, hxl]
                go_wp2_with fail
                refine (name_any _ _ hxs).mono ?_
                rintro e w2 ⟨rfl, rfl⟩
                rw [HNX.out]
                go_wp2_with fail
                go_quiet (fail)
                go_wp2
                go_roundw
                case rel => exact ⟨0 + 1, by go_num, by omega, congrArg Value.bool HO1.out.symm, congrArg Value.bool (by first | exact HL1.out.symm | (rw [HL1.out]; simp <;> omega)), below_drewN hbx _⟩
                case measure => simp [intOf]; omega
              · have HL1 : Hid (longK ⟨n, ss⟩ (0 + 1) = false) := by unfold Hid; rw [longK_succ HX.out, HL.out, Bool.false_or]; simp [longS, hxl]
                go_wp2_with fail
                refine (name_any _ _ hxs).mono ?_
                rintro e w2 ⟨rfl, rfl⟩
                rw [HNX.out]
                go_wp2_with fail
                go_quiet (fail)
                go_wp2
                go_roundw
                case rel => exact ⟨0 + 1, by go_num, by omega, congrArg Value.bool HO1.out.symm, congrArg Value.bool (by first | exact HL1.out.symm | (rw [HL1.out]; simp <;> omega)), below_drewN hbx _⟩
                case measure => simp [intOf]; omega
            · have HL := hide hl
              clear hl
              have HL1 : Hid (longK ⟨n, ss⟩ (0 + 1) = true) := by unfold Hid; rw [longK_succ HX.out, HL.out, Bool.true_or]
              go_wp2_with fail
              refine (name_any _ _ hxs).mono ?_
              rintro e w2 ⟨rfl, rfl⟩
              rw [HNX.out]
              go_wp2_with fail
              go_quiet (fail)
              go_wp2
              go_roundw
              case rel => exact ⟨0 + 1, by go_num, by omega, congrArg Value.bool HO1.out.symm, congrArg Value.bool (by first | exact HL1.out.symm | (rw [HL1.out]; simp <;> omega)), below_drewN hbx _⟩
              case measure => simp [intOf]; omega
        · cases hnx : isN x
          · have HO1 : Hid (okK ⟨n, ss⟩ (0 + 1) = false) := by unfold Hid; rw [hst, ho, hnx]; rfl
            have HNX : Hid (nameB x.data.toList = _) := hnx
            clear hst ho hnx
            cases hl : longK ⟨n, ss⟩ 0
            · have HL := hide hl
              clear hl
              by_cases hxl : 12 < x.size
              · have HL1 : Hid (longK ⟨n, ss⟩ (0 + 1) = true) := by unfold Hid; rw [longK_succ HX.out, HL.out, Bool.false_or]; simp [longS, hxl]
                go_wp2_with fail
                refine (name_any _ _ hxs).mono ?_
                rintro e w2 ⟨rfl, rfl⟩
                rw [HNX.out]
                go_wp2_with fail
                go_quiet (fail)
                go_wp2
                go_roundw
                case rel => exact ⟨0 + 1, by go_num, by omega, congrArg Value.bool HO1.out.symm, congrArg Value.bool (by first | exact HL1.out.symm | (rw [HL1.out]; simp <;> omega)), below_drewN hbx _⟩
                case measure => simp [intOf]; omega
              · have HL1 : Hid (longK ⟨n, ss⟩ (0 + 1) = false) := by unfold Hid; rw [longK_succ HX.out, HL.out, Bool.false_or]; simp [longS, hxl]
                go_wp2_with fail
                refine (name_any _ _ hxs).mono ?_
                rintro e w2 ⟨rfl, rfl⟩
                rw [HNX.out]
                go_wp2_with fail
                go_quiet (fail)
                go_wp2
                go_roundw
                case rel => exact ⟨0 + 1, by go_num, by omega, congrArg Value.bool HO1.out.symm, congrArg Value.bool (by first | exact HL1.out.symm | (rw [HL1.out]; simp <;> omega)), below_drewN hbx _⟩
                case measure => simp [intOf]; omega
            · have HL := hide hl
              clear hl
              have HL1 : Hid (longK ⟨n, ss⟩ (0 + 1) = true) := by unfold Hid; rw [longK_succ HX.out, HL.out, Bool.true_or]
              go_wp2_with fail
              refine (name_any _ _ hxs).mono ?_
              rintro e w2 ⟨rfl, rfl⟩
              rw [HNX.out]
              go_wp2_with fail
              go_quiet (fail)
              go_wp2
              go_roundw
              case rel => exact ⟨0 + 1, by go_num, by omega, congrArg Value.bool HO1.out.symm, congrArg Value.bool (by first | exact HL1.out.symm | (rw [HL1.out]; simp <;> omega)), below_drewN hbx _⟩
              case measure => simp [intOf]; omega
          · have HO1 : Hid (okK ⟨n, ss⟩ (0 + 1) = true) := by unfold Hid; rw [hst, ho, hnx]; rfl
            have HNX : Hid (nameB x.data.toList = _) := hnx
            clear hst ho hnx
            cases hl : longK ⟨n, ss⟩ 0
            · have HL := hide hl
              clear hl
              by_cases hxl : 12 < x.size
              · have HL1 : Hid (longK ⟨n, ss⟩ (0 + 1) = true) := by unfold Hid; rw [longK_succ HX.out, HL.out, Bool.false_or]; simp [longS, hxl]
                go_wp2_with fail
                refine (name_any _ _ hxs).mono ?_
                rintro e w2 ⟨rfl, rfl⟩
                rw [HNX.out]
                go_wp2_with fail
                go_quiet (fail)
                go_wp2
                go_roundw
                case rel => exact ⟨0 + 1, by go_num, by omega, congrArg Value.bool HO1.out.symm, congrArg Value.bool (by first | exact HL1.out.symm | (rw [HL1.out]; simp <;> omega)), below_drewN hbx _⟩
                case measure => simp [intOf]; omega
              · have HL1 : Hid (longK ⟨n, ss⟩ (0 + 1) = false) := by unfold Hid; rw [longK_succ HX.out, HL.out, Bool.false_or]; simp [longS, hxl]
                go_wp2_with fail
                refine (name_any _ _ hxs).mono ?_
                rintro e w2 ⟨rfl, rfl⟩
                rw [HNX.out]
                go_wp2_with fail
                go_quiet (fail)
                go_wp2
                go_roundw
                case rel => exact ⟨0 + 1, by go_num, by omega, congrArg Value.bool HO1.out.symm, congrArg Value.bool (by first | exact HL1.out.symm | (rw [HL1.out]; simp <;> omega)), below_drewN hbx _⟩
                case measure => simp [intOf]; omega
            · have HL := hide hl
              clear hl
              have HL1 : Hid (longK ⟨n, ss⟩ (0 + 1) = true) := by unfold Hid; rw [longK_succ HX.out, HL.out, Bool.true_or]
              go_wp2_with fail
              refine (name_any _ _ hxs).mono ?_
              rintro e w2 ⟨rfl, rfl⟩
              rw [HNX.out]
              go_wp2_with fail
              go_quiet (fail)
              go_wp2
              go_roundw
              case rel => exact ⟨0 + 1, by go_num, by omega, congrArg Value.bool HO1.out.symm, congrArg Value.bool (by first | exact HL1.out.symm | (rw [HL1.out]; simp <;> omega)), below_drewN hbx _⟩
              case measure => simp [intOf]; omega
      · obtain ⟨j, rfl⟩ : ∃ j, k = j + 1 := ⟨k - 1, by omega⟩
        obtain ⟨y, hy⟩ : ∃ y, ss[j]? = some y := ⟨_, List.getElem?_eq_getElem (by omega)⟩
        have d1 := hS j y hy
        have hst := okK_succ (r := ⟨n, ss⟩) hy hx
        have hk1 : ((j : Int) + 1 == 0) = false := by rw [beq_eq_false_iff_ne]; omega
        clear hx hs hne hS hy hk0
        cases ho : okK ⟨n, ss⟩ (j + 1)
        · cases hnx : isN x
          all_goals
            have HO1 : Hid (okK ⟨n, ss⟩ (j + 1 + 1) = false) := by unfold Hid; rw [hst, ho, Bool.false_and, Bool.false_and]
            have HNX : Hid (nameB x.data.toList = _) := hnx
            clear hst ho hnx
            cases hl : longK ⟨n, ss⟩ (j + 1)
            · have HL := hide hl
              clear hl
              by_cases hxl : 12 < x.size
              · have HL1 : Hid (longK ⟨n, ss⟩ (j + 1 + 1) = true) := by unfold Hid; rw [longK_succ HX.out, HL.out, Bool.false_or]; simp [longS, hxl]
                go_wp2_with fail
                refine (name_any _ _ hxs).mono ?_
                rintro e w2 ⟨rfl, rfl⟩
                rw [HNX.out]
                go_wp2_with fail
                go_quiet (fail)
                go_wp2
                go_roundw
                case rel => exact ⟨j + 1 + 1, by go_num, by omega, congrArg Value.bool HO1.out.symm, congrArg Value.bool (by first | exact HL1.out.symm | (rw [HL1.out]; simp <;> omega)), below_drewN hbx _⟩
                case measure => simp [intOf]; omega
              · have HL1 : Hid (longK ⟨n, ss⟩ (j + 1 + 1) = false) := by unfold Hid; rw [longK_succ HX.out, HL.out, Bool.false_or]; simp [longS, hxl]
                go_wp2_with fail
                refine (name_any _ _ hxs).mono ?_
                rintro e w2 ⟨rfl, rfl⟩
                rw [HNX.out]
                go_wp2_with fail
                go_quiet (fail)
                go_wp2
                go_roundw
                case rel => exact ⟨j + 1 + 1, by go_num, by omega, congrArg Value.bool HO1.out.symm, congrArg Value.bool (by first | exact HL1.out.symm | (rw [HL1.out]; simp <;> omega)), below_drewN hbx _⟩
                case measure => simp [intOf]; omega
            · have HL := hide hl
              clear hl
              have HL1 : Hid (longK ⟨n, ss⟩ (j + 1 + 1) = true) := by unfold Hid; rw [longK_succ HX.out, HL.out, Bool.true_or]
              go_wp2_with fail
              refine (name_any _ _ hxs).mono ?_
              rintro e w2 ⟨rfl, rfl⟩
              rw [HNX.out]
              go_wp2_with fail
              go_quiet (fail)
              go_wp2
              go_roundw
              case rel => exact ⟨j + 1 + 1, by go_num, by omega, congrArg Value.bool HO1.out.symm, congrArg Value.bool (by first | exact HL1.out.symm | (rw [HL1.out]; simp <;> omega)), below_drewN hbx _⟩
              case measure => simp [intOf]; omega
        · cases hnx : isN x
          · have HO1 : Hid (okK ⟨n, ss⟩ (j + 1 + 1) = false) := by unfold Hid; rw [hst, ho, hnx]; rfl
            have HNX : Hid (nameB x.data.toList = _) := hnx
            clear hst ho hnx
            cases hl : longK ⟨n, ss⟩ (j + 1)
            · have HL := hide hl
              clear hl
              by_cases hxl : 12 < x.size
              · have HL1 : Hid (longK ⟨n, ss⟩ (j + 1 + 1) = true) := by unfold Hid; rw [longK_succ HX.out, HL.out, Bool.false_or]; simp [longS, hxl]
                go_wp2_with fail
                refine (name_any _ _ hxs).mono ?_
                rintro e w2 ⟨rfl, rfl⟩
                rw [HNX.out]
                go_wp2_with fail
                go_quiet (fail)
                go_wp2
                go_roundw
                case rel => exact ⟨j + 1 + 1, by go_num, by omega, congrArg Value.bool HO1.out.symm, congrArg Value.bool (by first | exact HL1.out.symm | (rw [HL1.out]; simp <;> omega)), below_drewN hbx _⟩
                case measure => simp [intOf]; omega
              · have HL1 : Hid (longK ⟨n, ss⟩ (j + 1 + 1) = false) := by unfold Hid; rw [longK_succ HX.out, HL.out, Bool.false_or]; simp [longS, hxl]
                go_wp2_with fail
                refine (name_any _ _ hxs).mono ?_
                rintro e w2 ⟨rfl, rfl⟩
                rw [HNX.out]
                go_wp2_with fail
                go_quiet (fail)
                go_wp2
                go_roundw
                case rel => exact ⟨j + 1 + 1, by go_num, by omega, congrArg Value.bool HO1.out.symm, congrArg Value.bool (by first | exact HL1.out.symm | (rw [HL1.out]; simp <;> omega)), below_drewN hbx _⟩
                case measure => simp [intOf]; omega
            · have HL := hide hl
              clear hl
              have HL1 : Hid (longK ⟨n, ss⟩ (j + 1 + 1) = true) := by unfold Hid; rw [longK_succ HX.out, HL.out, Bool.true_or]
              go_wp2_with fail
              refine (name_any _ _ hxs).mono ?_
              rintro e w2 ⟨rfl, rfl⟩
              rw [HNX.out]
              go_wp2_with fail
              go_quiet (fail)
              go_wp2
              go_roundw
              case rel => exact ⟨j + 1 + 1, by go_num, by omega, congrArg Value.bool HO1.out.symm, congrArg Value.bool (by first | exact HL1.out.symm | (rw [HL1.out]; simp <;> omega)), below_drewN hbx _⟩
              case measure => simp [intOf]; omega
          · cases hle : lessS y x
            · have HO1 : Hid (okK ⟨n, ss⟩ (j + 1 + 1) = false) := by unfold Hid; rw [hst, ho, hnx, hle]; rfl
              have HNX : Hid (nameB x.data.toList = _) := hnx
              have hle' : Op.bytesLess y.toList x.toList = false := hle
              clear hst ho hnx hle
              cases hl : longK ⟨n, ss⟩ (j + 1)
              · have HL := hide hl
                clear hl
                by_cases hxl : 12 < x.size
                · have HL1 : Hid (longK ⟨n, ss⟩ (j + 1 + 1) = true) := by unfold Hid; rw [longK_succ HX.out, HL.out, Bool.false_or]; simp [longS, hxl]
                  go_wp2_with fail
                  refine (name_any _ _ hxs).mono ?_
                  rintro e w2 ⟨rfl, rfl⟩
                  rw [HNX.out]
                  go_wp2_with fail
                  go_quiet (fail)
                  go_wp2
                  go_roundw
                  case rel => exact ⟨j + 1 + 1, by go_num, by omega, congrArg Value.bool HO1.out.symm, congrArg Value.bool (by first | exact HL1.out.symm | (rw [HL1.out]; simp <;> omega)), below_drewN hbx _⟩
                  case measure => simp [intOf]; omega
                · have HL1 : Hid (longK ⟨n, ss⟩ (j + 1 + 1) = false) := by unfold Hid; rw [longK_succ HX.out, HL.out, Bool.false_or]; simp [longS, hxl]
                  go_wp2_with fail
                  refine (name_any _ _ hxs).mono ?_
                  rintro e w2 ⟨rfl, rfl⟩
                  rw [HNX.out]
                  go_wp2_with fail
                  go_quiet (fail)
                  go_wp2
                  go_roundw
                  case rel => exact ⟨j + 1 + 1, by go_num, by omega, congrArg Value.bool HO1.out.symm, congrArg Value.bool (by first | exact HL1.out.symm | (rw [HL1.out]; simp <;> omega)), below_drewN hbx _⟩
                  case measure => simp [intOf]; omega
              · have HL := hide hl
                clear hl
                have HL1 : Hid (longK ⟨n, ss⟩ (j + 1 + 1) = true) := by unfold Hid; rw [longK_succ HX.out, HL.out, Bool.true_or]
                go_wp2_with fail
                refine (name_any _ _ hxs).mono ?_
                rintro e w2 ⟨rfl, rfl⟩
                rw [HNX.out]
                go_wp2_with fail
                go_quiet (fail)
                go_wp2
                go_roundw
                case rel => exact ⟨j + 1 + 1, by go_num, by omega, congrArg Value.bool HO1.out.symm, congrArg Value.bool (by first | exact HL1.out.symm | (rw [HL1.out]; simp <;> omega)), below_drewN hbx _⟩
                case measure => simp [intOf]; omega
            · have HO1 : Hid (okK ⟨n, ss⟩ (j + 1 + 1) = true) := by unfold Hid; rw [hst, ho, hnx, hle]; rfl
              have HNX : Hid (nameB x.data.toList = _) := hnx
              have hle' : Op.bytesLess y.toList x.toList = true := hle
              clear hst ho hnx hle
              cases hl : longK ⟨n, ss⟩ (j + 1)
              · have HL := hide hl
                clear hl
                by_cases hxl : 12 < x.size
                · have HL1 : Hid (longK ⟨n, ss⟩ (j + 1 + 1) = true) := by unfold Hid; rw [longK_succ HX.out, HL.out, Bool.false_or]; simp [longS, hxl]
                  go_wp2_with fail
                  refine (name_any _ _ hxs).mono ?_
                  rintro e w2 ⟨rfl, rfl⟩
                  rw [HNX.out]
                  go_wp2_with fail
                  go_quiet (fail)
                  go_wp2
                  go_roundw
                  case rel => exact ⟨j + 1 + 1, by go_num, by omega, congrArg Value.bool HO1.out.symm, congrArg Value.bool (by first | exact HL1.out.symm | (rw [HL1.out]; simp <;> omega)), below_drewN hbx _⟩
                  case measure => simp [intOf]; omega
                · have HL1 : Hid (longK ⟨n, ss⟩ (j + 1 + 1) = false) := by unfold Hid; rw [longK_succ HX.out, HL.out, Bool.false_or]; simp [longS, hxl]
                  go_wp2_with fail
                  refine (name_any _ _ hxs).mono ?_
                  rintro e w2 ⟨rfl, rfl⟩
                  rw [HNX.out]
                  go_wp2_with fail
                  go_quiet (fail)
                  go_wp2
                  go_roundw
                  case rel => exact ⟨j + 1 + 1, by go_num, by omega, congrArg Value.bool HO1.out.symm, congrArg Value.bool (by first | exact HL1.out.symm | (rw [HL1.out]; simp <;> omega)), below_drewN hbx _⟩
                  case measure => simp [intOf]; omega
              · have HL := hide hl
                clear hl
                have HL1 : Hid (longK ⟨n, ss⟩ (j + 1 + 1) = true) := by unfold Hid; rw [longK_succ HX.out, HL.out, Bool.true_or]
                go_wp2_with fail
                refine (name_any _ _ hxs).mono ?_
                rintro e w2 ⟨rfl, rfl⟩
                rw [HNX.out]
                go_wp2_with fail
                go_quiet (fail)
                go_wp2
                go_roundw
                case rel => exact ⟨j + 1 + 1, by go_num, by omega, congrArg Value.bool HO1.out.symm, congrArg Value.bool (by first | exact HL1.out.symm | (rw [HL1.out]; simp <;> omega)), below_drewN hbx _⟩
                case measure => simp [intOf]; omega
    · have HO := hide (okK_end (r := ⟨n, ss⟩) (k := k) (by simp only; omega))
      have HL := hide (longK_end (r := ⟨n, ss⟩) (k := k) (by simp only; omega))
      rw [HO.out, HL.out]
      have hbl := hb.trans (hbx.mono hb.size)
      simp only
      cases hA : (rowNames ⟨n, ss⟩ && ascB ss)
      · have HE : Hid (rowErr ⟨n, ss⟩ last = 4) := by unfold Hid rowErr; simp only; rw [hA]; rfl
        clear hA
        go_wp2
        go_ret
        exact ⟨by rw [HE.out]; rfl, hbl⟩
      · cases hB : rowLong ⟨n, ss⟩
        · cases hC : leqS n last
          · have HE : Hid (rowErr ⟨n, ss⟩ last = 0) := by unfold Hid rowErr; simp only; rw [hA, hB, hC]; rfl
            have hq : (Op.bytesLess n.toList last.toList || n.toList == last.toList) = false := hC
            clear hA hB hC
            go_wp2
            go_ret
            exact ⟨by rw [HE.out]; rfl, hbl⟩
          · have HE : Hid (rowErr ⟨n, ss⟩ last = 4) := by unfold Hid rowErr; simp only; rw [hA, hB, hC]; rfl
            have hq : (Op.bytesLess n.toList last.toList || n.toList == last.toList) = true := hC
            clear hA hB hC
            go_wp2
            go_ret
            exact ⟨by rw [HE.out]; rfl, hbl⟩
        · have HE : Hid (rowErr ⟨n, ss⟩ last = 5) := by unfold Hid rowErr; simp only; rw [hA, hB]; rfl
          clear hA hB
          go_wp2
          go_ret
          exact ⟨by rw [HE.out]; rfl, hbl⟩

end Go.Proofs.YtiamlbhkiehilaaDoor
