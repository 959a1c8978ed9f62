import Derived.Test.YtiamlbhkiehilaaDoorRdMem
import Derived.Test.YtiamlbhkiehilaaDoorSame
import Derived.Deep.RegionWith
namespace Go.Proofs.YtiamlbhkiehilaaDoor
open Go.RowKit Go.Maps

set_option maxRecDepth 100000 in
set_option maxHeartbeats 1000000 in
/-- Two lists of the same texts are found the same. -/
theorem sameTexts_any (va vb : Value) (ss : List ByteArray) (w : World) (hlen : ss.length ≤ 1000000) (ha : IsStrs va ss w) (hb : IsStrs vb ss w) :
    Calls Tryd.prog 24 #[va, vb] w fun e w' => e = .returned (.bool true) ∧ Below w.heap.size w w' := by
  obtain ⟨ao, ca, rfl, _, _, hfa⟩ := ha
  obtain ⟨bo, cb, rfl, _, _, hfb⟩ := hb
  have HA := hide hfa
  have HB := hide hfb
  clear hfa hfb
  have hq : ((ss.length : Int) != (ss.length : Int)) = false := by simp
  go_enter Tryd.func24, Tryd.ntmps24
  go_wp2
  go_loopw [5] (fun iv wr => ∃ i : Nat, iv = .int .i64 i ∧ i ≤ ss.length ∧ Below w.heap.size w wr) (fun iv _ => ss.length - (intOf iv).toNat)
  case atStart => exact ⟨0, rfl, Nat.zero_le _, Below.refl _ _⟩
  case round =>
    obtain ⟨i, rfl, hi, hbx⟩ := hrel
    by_cases hlt : i < ss.length
    · obtain ⟨x, hf⟩ : ∃ f, ss[i]? = some f := ⟨_, List.getElem?_eq_getElem hlt⟩
      have hne : ss ≠ [] := by intro e; rw [e] at hlt; simp at hlt
      obtain ⟨b1, o1, h1, hb1, hf1⟩ := HA.out hne
      obtain ⟨b2, o2, h2, hb2, hf2⟩ := HB.out hne
      rw [h1, h2]
      have a0 := (hf1.below hbx hb1) i x hf
      have c0 := (hf2.below hbx hb2) i x hf
      have hxx : (x.toList != x.toList) = false := by simp
      clear hf hf1 hf2
      go_wp2
      go_quiet (fail)
      go_wp2
      go_roundw
      case rel => exact ⟨i + 1, by go_num, hlt, below_drewN hbx _⟩
      case measure => simp [intOf]; omega
    · go_wp2
      go_ret
      exact ⟨rfl, hbx⟩

set_option maxRecDepth 100000 in
set_option maxHeartbeats 1000000 in
/-- Two lists of the same rows are found the same. -/
theorem sameRows_any (va vb : Value) (rs : List RowD) (w : World) (hlen : rs.length ≤ 1000000) (hto : ∀ r ∈ rs, r.to.length ≤ 1000000) (ha : IsRows va rs w) (hb : IsRows vb rs w) :
    Calls Tryd.prog 14 #[va, vb] w fun e w' => e = .returned (.bool true) ∧ Below w.heap.size w w' := by
  obtain ⟨ao, ca, rfl, _, _, hfa⟩ := ha
  obtain ⟨bo, cb, rfl, _, _, hfb⟩ := hb
  have HA := hide hfa
  have HB := hide hfb
  have HT := hide hto
  clear hfa hfb hto
  have hq : ((rs.length : Int) != (rs.length : Int)) = false := by simp
  go_enter Tryd.func14, Tryd.ntmps14
  go_wp2
  go_loopw [5] (fun iv wr => ∃ i : Nat, iv = .int .i64 i ∧ i ≤ rs.length ∧ Below w.heap.size w wr) (fun iv _ => rs.length - (intOf iv).toNat)
  case atStart => exact ⟨0, rfl, Nat.zero_le _, Below.refl _ _⟩
  case round =>
    obtain ⟨i, rfl, hi, hbx⟩ := hrel
    by_cases hlt : i < rs.length
    · obtain ⟨⟨n, tt⟩, hf⟩ : ∃ f, rs[i]? = some f := ⟨_, List.getElem?_eq_getElem hlt⟩
      have hne : rs ≠ [] := by intro e; rw [e] at hlt; simp at hlt
      obtain ⟨b1, o1, h1, hb1, hf1⟩ := HA.out hne
      obtain ⟨b2, o2, h2, hb2, hf2⟩ := HB.out hne
      rw [h1, h2]
      obtain ⟨a0, ta, a1, hta⟩ := (hf1.below hbx hb1) i n tt hf
      obtain ⟨c0, tb, c1, htb⟩ := (hf2.below hbx hb2) i n tt hf
      have HST := hide (sameTexts_any ta tb tt wr.drew (HT.out ⟨n, tt⟩ (List.mem_of_getElem? hf)) (hta.below (Below.refl _ _).drew) (htb.below (Below.refl _ _).drew))
      have hb1' := Nat.lt_of_lt_of_le hb1 hbx.size
      have hb2' := Nat.lt_of_lt_of_le hb2 hbx.size
      have hxx : (n.toList != n.toList) = false := by simp
      clear hf hf1 hf2 hta htb
      go_wp2_with fail
      go_region_with (go_at_call 24; refine HST.out.mono ?_; rintro e w4 ⟨rfl, hb4⟩)
      all_goals
        have hb5 : Below wr.heap.size wr w4 := ⟨hb4.os, hb4.tape, hb4.output, hb4.size, hb4.block⟩
        have a0' := (hb5.cell (p := ⟨b1, _, none⟩) hb1').trans a0
        have c0' := (hb5.cell (p := ⟨b2, _, none⟩) hb2').trans c0
        have hb6 : Below w.heap.size w w4 := hbx.trans (hb5.mono hbx.size)
        clear a0 c0 a1 c1 hb4 hb5
        go_wp2
        go_quiet (fail)
        go_wp2
        go_roundw
        case rel => exact ⟨i + 1, by go_num, hlt, below_drewN hb6 _⟩
        case measure => simp [intOf]; omega
    · go_wp2
      go_ret
      exact ⟨rfl, hbx⟩

end Go.Proofs.YtiamlbhkiehilaaDoor
