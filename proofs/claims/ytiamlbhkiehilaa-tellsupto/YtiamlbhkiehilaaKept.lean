import Derived.Test.YtiamlbhkiehilaaLent
import Derived.WalkSpells
namespace Go.Proofs.Ytiamlbhkiehilaa
open Go.RowKit

set_option maxHeartbeats 2000000 in
set_option maxRecDepth 100000 in
theorem kept_any (g : Nat) (v : Value) (rs : List RowD) (hs : List Nat) (w : World) (hv : IsRows v rs w) (hf : Fam g hs rs w) (hp : RowP g (lentP hs rs ++ List.replicate 8 beyP) [] w) (hreach : rs.length ≤ 1000000000000) (hto : ∀ r ∈ rs, r.to.length ≤ 1000000000000) :
    Calls Try.prog 10 #[.slice (some ⟨g, 0, none⟩) (rs.length + 8) (rs.length + 8), v] w fun e w' => e = .returned (.bool true) ∧ Below w.heap.size w w' := by
  obtain ⟨ao, cap, hve, _, _, hne0⟩ := hv
  subst hve
  have hne := hide hne0
  clear hne0
  have hlg := lt_of_heap hp
  go_enter Try.func10, Try.ntmps10
  go_wp2
  go_loopw [5] (fun i wr => ∃ j : Nat, i = .int .i64 j ∧ j ≤ rs.length + 8 ∧ Below w.heap.size w wr) (fun i _ => (rs.length + 8) - (intOf i).toNat)
  case atStart => exact ⟨0, rfl, Nat.zero_le _, Below.refl _ _⟩
  case round =>
    obtain ⟨j, rfl, hj, hbx⟩ := hrel
    have hp2 : RowP g (lentP hs rs ++ List.replicate 8 beyP) [] wr := Below.heapAt hbx hp hlg
    by_cases hj8 : j < rs.length + 8
    · by_cases hjn : j < rs.length
      · obtain ⟨⟨nm, to⟩, hrj⟩ : ∃ r, rs[j]? = some r := ⟨_, List.getElem?_eq_getElem hjn⟩
        obtain ⟨h, hh⟩ : ∃ h, hs[j]? = some h := ⟨_, List.getElem?_eq_getElem (by rw [hf.len]; exact hjn)⟩
        obtain ⟨b, off, hao, hbw, hrs⟩ := hne.out (ne_nil_of_get hrj)
        subst hao
        obtain ⟨d0w, tv, d1w, hst0⟩ := hrs j nm to hrj
        obtain ⟨ao2, cap2, htv, hc2, _, hst1⟩ := hst0
        have hst := hide hst1
        clear hst1
        subst htv
        have d0 := (hbx.cell (p := ⟨b, off + j * 2, none⟩) hbw).trans d0w
        have d1 := (hbx.cell (p := ⟨b, off + j * 2 + 1, none⟩) hbw).trans d1w
        have hget := lentP_get hh hrj
        obtain ⟨c0, c1⟩ := hp2.get (i := j) (n := nm) (v := slv h to) (by rw [List.getElem?_append_left (by rw [lentP_length hf.len]; exact hjn)]; exact hget)
        unfold slv at c1
        have hblk := hf.blk j h _ hh hrj
        have hbh := lt_of_heap hblk
        have hto1 := hto _ (List.mem_of_getElem? hrj)
        simp only at hto1 hblk
        have HD1 : Hid (∀ w', Below w.heap.size w w' → w'.cell? ⟨b, off + j * 2 + 1, none⟩ = some (.slice ao2 to.length cap2)) := fun w' h => (h.cell (p := ⟨b, off + j * 2 + 1, none⟩) hbw).trans d1w
        clear hrj hh hrs d0w d1w hget hp2 hf hp
        have i1 : (j : Int) < (rs.length : Int) := by omega
        have i2 : (j : Int) < (rs.length : Int) + 8 := by omega
        go_wp2
        go_quiet (fail)
        go_wp2_with fail
        have hb2 : Below w.heap.size w (wr.drewN nq) := below_drewN hbx nq
        clear hbx d0 d1 c0 c1
        generalize wr.drewN nq = wy at hb2 ⊢
        go_loopw [8] (fun i wx => ∃ k : Nat, i = .int .i64 k ∧ k ≤ to.length + 8 ∧ Below w.heap.size w wx) (fun i _ => (to.length + 8) - (intOf i).toNat)
        case atStart => exact ⟨0, rfl, Nat.zero_le _, hb2⟩
        case round =>
          clear hb2
          obtain ⟨k, rfl, hk, hb3⟩ := hrel
          have hblk3 : RowS h (to ++ List.replicate 8 beyS) [] wr := Below.heapAt hb3 hblk hbh
          have d1 := HD1.out _ hb3
          by_cases hk8 : k < to.length + 8
          · have k8 : (k : Int) < (to.length : Int) + 8 := by omega
            by_cases hkn : k < to.length
            · obtain ⟨x, hx⟩ : ∃ x, to[k]? = some x := ⟨_, List.getElem?_eq_getElem hkn⟩
              obtain ⟨b2, off2, hao2, hb2w, hs2⟩ := hst.out (ne_nil_of_get hx)
              subst hao2
              have x0 := (hs2.below hb3 hb2w) k x hx
              have x1 := hblk3.get (i := k) (s := x) (by rw [List.getElem?_append_left hkn]; exact hx)
              clear hx hs2 hblk3 hst
              have k1 : (k : Int) < (to.length : Int) := by omega
              have k2 : decide ((to.length : Int) ≤ (k : Int)) = false := by simp; omega
              have k3 : ¬ to.length ≤ k := by omega
              go_wp2
              go_quiet (fail)
              go_wp2
              go_roundw
              case rel => exact ⟨k + 1, by go_num, by omega, below_drewN hb3 _⟩
              case measure => simp [intOf]; omega
            · have x1 := hblk3.get (i := k) (s := ⟨#[98, 101, 121, 111, 110, 100]⟩) (by rw [List.getElem?_append_right (by omega), List.getElem?_replicate, if_pos (by omega)]; rfl)
              clear hblk3
              have k1 : (to.length : Int) ≤ (k : Int) := by omega
              have k2 : decide ((k : Int) < (to.length : Int)) = false := by simp; omega
              have k3 : to.length ≤ k := by omega
              go_wp2
              go_quiet (fail)
              go_wp2
              go_roundw
              case rel => exact ⟨k + 1, by go_num, by omega, below_drewN hb3 _⟩
              case measure => simp [intOf]; omega
          · clear hblk3 d1
            go_wp2
            go_roundw
            case rel => exact ⟨j + 1, by go_num, by omega, hb3⟩
            case measure => simp [intOf]; omega
      · obtain ⟨c0, c1⟩ := hp2.get (i := j) (n := ⟨#[98, 101, 121, 111, 110, 100]⟩) (v := .slice none 0 0) (by rw [List.getElem?_append_right (by rw [lentP_length hf.len]; omega), lentP_length hf.len, List.getElem?_replicate, if_pos (by omega)]; rfl)
        have hnil := fun w' => run_neq_slice_nil_any (P := Try.prog) w' 36 9 none 0 0 0 0 Try.underlying36
        have i1 : (rs.length : Int) ≤ (j : Int) := by omega
        have i2 : (j : Int) < (rs.length : Int) + 8 := by omega
        clear hp2 hf hp
        go_wp2
        go_roundw
        case rel => exact ⟨j + 1, by go_num, by omega, hbx⟩
        case measure => simp [intOf]; omega
    · go_wp2
      go_ret
      exact ⟨rfl, hbx⟩

end Go.Proofs.Ytiamlbhkiehilaa
