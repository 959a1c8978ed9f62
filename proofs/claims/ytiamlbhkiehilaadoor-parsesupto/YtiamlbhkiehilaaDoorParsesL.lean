import Derived.Test.YtiamlbhkiehilaaDoorParsesW
namespace Go.Proofs.YtiamlbhkiehilaaDoor
open Go.RowKit Go.Maps

def exB : ByteArray := ⟨#[112, 32, 61, 32, 38, 97, 32, 35, 32, 120, 10, 10, 42, 113, 61, 112]⟩

set_option maxRecDepth 100000 in
set_option maxHeartbeats 1000000 in
theorem parses_walk (v : Value) (ss : List ByteArray) (w : World) (m : Int) (hm : w.cell? ⟨0, 0, none⟩ = some (.int .i64 m)) (hg : 0 < w.heap.size) (hlen : ss.length ≤ 2000000) (hv : IsStrs v ss w) (hfit : fitsS ss) :
    Calls Tryd.prog 3 #[v] w fun e w' => e = .returned (.bool true) ∧ Below w.heap.size w w' := by
  obtain ⟨ao, cap, rfl, _, _, hfa⟩ := hv
  have HA := hide hfa
  have HF := hide hfit
  clear hfa hfit
  have gk := heap_new w (.cells #[.slice none 0 0, .slice none 0 0, .slice none 0 0] 28)
  have hb0 : Below w.heap.size w (w.alloc (.cells #[.slice none 0 0, .slice none 0 0, .slice none 0 0] 28)) := (Below.refl _ _).alloc (Nat.le_refl _) _
  go_enter Tryd.func3, Tryd.ntmps3
  go_wp2_with fail
  generalize w.alloc (.cells #[.slice none 0 0, .slice none 0 0, .slice none 0 0] 28) = w0 at gk hb0 ⊢
  have hbk : BookO w.heap.size w.heap.size [] (.slice none 0 0) w0 := ⟨Nat.le_refl _, gk, World.ownsRow_nil _ _ _ _, fun i v h => by simp at h⟩
  go_loopw [4] (fun iv wr => ∃ (i : Nat) (ls : List Value) (V : Value), iv = .int .i64 i ∧ i ≤ ss.length ∧ ls.length = 8 * i ∧ BookO w.heap.size w.heap.size ls V wr ∧ Below w.heap.size w wr) (fun iv _ => ss.length - (intOf iv).toNat)
  case atStart => exact ⟨0, [], _, rfl, Nat.zero_le _, rfl, hbk, hb0⟩
  case round =>
    clear hbk hb0 gk
    obtain ⟨i, ls, V, rfl, hi, hll, hbk, hbx⟩ := hrel
    have hm' : wr.cell? ⟨0, 0, none⟩ = some (.int .i64 m) := (hbx.cell (p := ⟨0, 0, none⟩) hg).trans hm
    by_cases hlt : i < ss.length
    · obtain ⟨s, hs⟩ : ∃ s, ss[i]? = some s := ⟨_, List.getElem?_eq_getElem hlt⟩
      have hne : ss ≠ [] := by intro e; rw [e] at hlt; simp at hlt
      obtain ⟨b, off, rfl, hb, hsa⟩ := HA.out hne
      have hc := (hbx.cell (p := ⟨b, off + i, none⟩) hb).trans (hsa i s hs)
      have hfs := HF.out s (List.mem_of_getElem? hs)
      have hp := parses_any s w.heap.size w.heap.size ls V wr m hfs hm' hg (by omega) (by omega) hbk
      have HL := hide hll
      clear hs hsa hll hfs
      go_wp2_with fail
      refine hp.mono ?_
      rintro e w2 ⟨rfl, V2, ls2, hl2, hbk2, hb2⟩
      clear hp
      go_wp2
      go_roundw
      case rel => exact ⟨i + 1, ls2, V2, by go_num, hlt, by rw [hl2, HL.out]; omega, hbk2, hbx.trans hb2⟩
      case measure => simp [intOf]; omega
    · have hin : i = ss.length := by omega
      subst hin
      have hp := parses_any exB w.heap.size w.heap.size ls V wr m (by decide) hm' hg (by omega) (by omega) hbk
      unfold exB at hp
      clear hll
      go_wp2_with fail
      refine hp.mono ?_
      rintro e w2 ⟨rfl, V2, ls2, hl2, hbk2, hb2⟩
      clear hp hl2
      go_wp2
      go_ret
      exact ⟨rfl, hbx.trans hb2⟩

end Go.Proofs.YtiamlbhkiehilaaDoor
