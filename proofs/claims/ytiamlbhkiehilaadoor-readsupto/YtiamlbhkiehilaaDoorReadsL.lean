import Derived.Test.YtiamlbhkiehilaaDoorReadsW
namespace Go.Proofs.YtiamlbhkiehilaaDoor
open Go.RowKit Go.Maps

def exR : ByteArray := ⟨#[97, 58, 32, 98, 10, 98, 58, 10]⟩

set_option maxRecDepth 100000 in
set_option maxHeartbeats 1000000 in
theorem reads_walk (v : Value) (ss : List ByteArray) (w : World) (m : Int) (hm : w.cell? ⟨0, 0, none⟩ = some (.int .i64 m)) (hg : 0 < w.heap.size) (hlen : ss.length ≤ 1048576) (hv : IsStrs v ss w) (hfit : fitsS ss) :
    Calls Tryd.prog 4 #[v] w fun e w' => e = .returned (.bool true) ∧ Below w.heap.size w w' := by
  obtain ⟨ao, cap, rfl, _, _, hfa⟩ := hv
  have HA := hide hfa
  have HF := hide hfit
  clear hfa hfit
  have gk := heap_new w (.cells #[.slice none 0 0, .slice none 0 0, .slice none 0 0] 28)
  have hb0 : Below w.heap.size w (w.alloc (.cells #[.slice none 0 0, .slice none 0 0, .slice none 0 0] 28)) := (Below.refl _ _).alloc (Nat.le_refl _) _
  go_enter Tryd.func4, Tryd.ntmps4
  go_wp2_with fail
  generalize w.alloc (.cells #[.slice none 0 0, .slice none 0 0, .slice none 0 0] 28) = w0 at gk hb0 ⊢
  have hbk : BookR w.heap.size w.heap.size [] (.slice none 0 0) [] (.slice none 0 0) w0 := ⟨Nat.le_refl _, gk, World.ownsRow_nil _ _ _ _, (fun i v h => by simp at h), World.ownsRow_nil _ _ _ _, (fun i v h => by simp at h)⟩
  go_loopw [4] (fun iv wr => ∃ (i : Nat) (ts rs : List Value) (T R : Value), iv = .int .i64 i ∧ i ≤ ss.length ∧ ts.length ≤ 208000 * i ∧ ts.length % 4 = 0 ∧ rs.length = 8 * i ∧ BookR w.heap.size w.heap.size ts T rs R wr ∧ Below w.heap.size w wr) (fun iv _ => ss.length - (intOf iv).toNat)
  case atStart => exact ⟨0, [], [], _, _, rfl, Nat.zero_le _, Nat.zero_le _, rfl, rfl, hbk, hb0⟩
  case round =>
    clear hbk hb0 gk
    obtain ⟨i, ts, rs, T, R, rfl, hi, hlt1, hlt2, hll, hbk, hbx⟩ := hrel
    have hm' : wr.cell? ⟨0, 0, none⟩ = some (.int .i64 m) := (hbx.cell (p := ⟨0, 0, none⟩) hg).trans hm
    by_cases hlt : i < ss.length
    · obtain ⟨s, hs⟩ : ∃ s, ss[i]? = some s := ⟨_, List.getElem?_eq_getElem hlt⟩
      have hne : ss ≠ [] := by intro e; rw [e] at hlt; simp at hlt
      obtain ⟨b, off, rfl, hb, hsa⟩ := HA.out hne
      have hc := (hbx.cell (p := ⟨b, off + i, none⟩) hb).trans (hsa i s hs)
      have hfs := HF.out s (List.mem_of_getElem? hs)
      have hp := reads_any s w.heap.size w.heap.size ts T rs R wr m hfs hm' hg hlt2 (by omega) (by omega) (by omega) hbk
      have HL := hide (And.intro hll hlt1)
      clear hs hsa hll hfs hlt1 hlt2
      go_wp2_with fail
      refine hp.mono ?_
      rintro e w2 ⟨rfl, ts2, T2, rs2, R2, hl1, hl2, hl3, hbk2, hb2⟩
      have HL2 := hide (And.intro hl1 (And.intro hl2 hl3))
      clear hp hl1 hl2 hl3
      go_wp2
      go_roundw
      case rel =>
        obtain ⟨e1, e2⟩ := HL.out
        obtain ⟨e3, e4, e5⟩ := HL2.out
        exact ⟨i + 1, ts2, rs2, T2, R2, by go_num, hlt, by omega, e4, by omega, hbk2, hbx.trans hb2⟩
      case measure => simp [intOf]; omega
    · have hin : i = ss.length := by omega
      subst hin
      have hp := reads_any exR w.heap.size w.heap.size ts T rs R wr m (by decide) hm' hg hlt2 (by omega) (by omega) (by omega) hbk
      unfold exR at hp
      clear hll hlt1 hlt2
      go_wp2_with fail
      refine hp.mono ?_
      rintro e w2 ⟨rfl, ts2, T2, rs2, R2, _, _, _, hbk2, hb2⟩
      clear hp
      go_wp2
      go_ret
      exact ⟨rfl, hbx.trans hb2⟩

end Go.Proofs.YtiamlbhkiehilaaDoor
