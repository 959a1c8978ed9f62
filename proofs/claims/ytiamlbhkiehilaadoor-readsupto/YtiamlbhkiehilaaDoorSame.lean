import Derived.Test.YtiamlbhkiehilaaDoorEqs
import Derived.Test.YtiamlbhkiehilaaDoorFMem
import Derived.Test.YtiamlbhkiehilaaDoorAdded
import Derived.Test.YtiamlbhkiehilaaDoorRows1
import Derived.BigQuiet
namespace Go.Proofs.YtiamlbhkiehilaaDoor
open Go.RowKit Go.Maps

set_option maxRecDepth 100000 in
set_option maxHeartbeats 1000000 in
/-- Two lists of the same facts are found the same. -/
theorem sameFacts_any (va vb : Value) (fs : List Fct) (w : World) (hlen : fs.length ≤ 1000000) (ha : IsFacts va fs w) (hb : IsFacts vb fs w) :
    Calls Tryd.prog 9 #[va, vb] w fun e w' => e = .returned (.bool true) ∧ Below w.heap.size w w' := by
  obtain ⟨ao, ca, rfl, _, _, hfa⟩ := ha
  obtain ⟨bo, cb, rfl, _, _, hfb⟩ := hb
  have HA := hide hfa
  have HB := hide hfb
  clear hfa hfb
  have hq : ((fs.length : Int) != (fs.length : Int)) = false := by simp
  go_enter Tryd.func9, Tryd.ntmps9
  go_wp2
  go_loopw [5] (fun iv wr => ∃ i : Nat, iv = .int .i64 i ∧ i ≤ fs.length ∧ Below w.heap.size w wr) (fun iv _ => fs.length - (intOf iv).toNat)
  case atStart => exact ⟨0, rfl, Nat.zero_le _, Below.refl _ _⟩
  case round =>
    obtain ⟨i, rfl, hi, hbx⟩ := hrel
    by_cases hlt : i < fs.length
    · obtain ⟨⟨k, p, q⟩, hf⟩ : ∃ f, fs[i]? = some f := ⟨_, List.getElem?_eq_getElem hlt⟩
      have hne : fs ≠ [] := by intro e; rw [e] at hlt; simp at hlt
      obtain ⟨b1, o1, h1, hb1, hf1⟩ := HA.out hne
      obtain ⟨b2, o2, h2, hb2, hf2⟩ := HB.out hne
      rw [h1, h2]
      obtain ⟨a0, a1, a2⟩ := (hf1.below hbx hb1) i k p q hf
      obtain ⟨c0, c1, c2⟩ := (hf2.below hbx hb2) i k p q hf
      have hneq := neq_fact k p q
      have hgf := guardFact
      clear hf hf1 hf2
      go_wp2
      go_quiet (fail)
      go_wp2
      go_roundw
      case rel => exact ⟨i + 1, by go_num, hlt, below_drewN hbx _⟩
      case measure => simp [intOf]; omega
    · go_wp2
      go_ret
      exact ⟨rfl, hbx⟩

end Go.Proofs.YtiamlbhkiehilaaDoor
