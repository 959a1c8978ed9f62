import Derived.Test.YtiamlbhkiehilaaTLaw2
import Derived.Test.YtiamlbhkiehilaaTOpen
namespace Go.Proofs.Ytiamlbhkiehilaa
open Go.ChangeShapes Go.WideShapes Go.ChangeAt Go.RowKit Go.Deep

theorem tells_contract (H : Type) (enc : TypeId × Value → H) (W : World) (base : Nat) (args : Array Value) (ds gs : List (DataW H)) (before : List MemPlace)
    (hval : ∀ (j : Nat) t v, Try.f4.params[j]? = some t → args[j]? = some v → Value.okWide Try.prog W .any base t v)
    (hW : DataW.Whole enc Try.prog Try.f4.params.toList Rows.tellsSpec.vars false W args.toList ds gs before) (hk : Rows.uptoSmall H (ds ++ gs) = true) :
    Calls Try.prog 4 args W fun e W' => ∃ v, e = .returned v ∧ Rows.tellsSpec.post enc Try.prog Try.f4 false true false false W args v W' := by
  have hW' := hW
  obtain ⟨p, q, hA0, hV, rfl, _, _⟩ := hW
  have hA : DataW.TrodAll enc Try.prog W 0 (fun _ => true) true Try.f4.params.toList args.toList ds p := hA0
  rw [Try.params4] at hA hval
  obtain ⟨v0, d0, rfl, rfl, h0⟩ := trodAll_one hA
  obtain ⟨rfl, rfl⟩ := trodVars_none hV
  obtain ⟨a0, len, cap, rfl⟩ := okWide_slice Try.underlying32 (hval 0 32 v0 rfl rfl)
  have h0k := h0
  obtain ⟨fuel, hf⟩ := h0
  clear hA0
  simp only [List.append_nil] at hW' hk
  have hbulk : Rows.uptoBulkAll [d0] ≤ 1048576 := of_decide_eq_true hk
  have hlt : ∀ x ∈ p, x.block < W.heap.size := fun x hx => by simpa using hW'.lt x hx
  have hargs : ∀ (W' : World), Below W.heap.size W W' → DataW.Trod enc Try.prog W' 0 (fun b => decide (b < W.heap.size)) true 32 (.slice a0 len cap) d0 p :=
    fun W' hn => Below.trod laidOutT (by kernel_rfl) (of_decide_eq_true (by kernel_rfl)) h0k hn hlt
  have fin : (∃ rs : List RowD, IsRows (.slice a0 len cap) rs W ∧ fitsR rs ∧ rs.length ≤ 1000000000000 ∧ (∀ r ∈ rs, r.to.length ≤ 1000000000000) ∧ (rowsText rs).length ≤ 1000000000000 ∧ (rowsText (rs.map overR)).length ≤ 1000000000000) →
      Calls Try.prog 4 #[.slice a0 len cap] W fun e W' => ∃ v, e = Ending.returned v ∧ Rows.tellsSpec.post enc Try.prog Try.f4 false true false false W #[.slice a0 len cap] v W' := by
    rintro ⟨rs, h1, h2, h3, h4, h5, h6⟩
    refine (tells_walk _ rs W h1 h2 h3 h4 h5 h6).mono fun e W' ⟨he, hnx⟩ => ?_
    subst he
    exact ⟨_, rfl, _, _, _, [], p, [], hW', trodAll_mk1 (shut_bool Try.underlying4 true), trodAll_mk1 (hargs _ hnx), rfl, hnx.frame _, fun h => by cases h⟩
  refine fin ?_
  rcases open_rows hf with ⟨hcs, hx⟩ | ⟨a, len', cap', D, sp, ps, rs, hcs, hx, hrl, hIR, hfit, hbk⟩
  · simp [Value.cells] at hcs
    obtain ⟨rfl, rfl, rfl⟩ := hcs
    exact ⟨[], ⟨none, 0, rfl, Nat.le_refl _, (fun _ => rfl), fun h => absurd rfl h⟩, (fun r hr => by simp at hr), by simp, (fun r hr => by simp at hr), by simp [rowsText], by simp [rowsText]⟩
  · simp [Value.cells] at hcs
    obtain ⟨rfl, rfl, rfl⟩ := hcs
    simp only [Prod.mk.injEq] at hx
    obtain ⟨rfl, rfl⟩ := hx
    simp only [Rows.uptoBulkAll, Rows.uptoBulk] at hbulk
    obtain ⟨b1, b2, b3, b4⟩ := sum_bulk rs ((List.range len).map D) (by simp [hrl]) (fun i r d h1 h2 => by
      have hi := lt_get h1
      rw [List.getElem?_map, List.getElem?_range (by omega)] at h2
      simp at h2
      rw [← h2]
      exact hbk i r h1)
    exact ⟨rs, hIR, hfit, by omega, fun r hr => by have := b4 r hr; omega, by omega, by omega⟩

set_option maxRecDepth 100000 in
theorem tells_lifted (os : Os) (started : os.Started) (H : Type) (enc : TypeId × Value → H) (F : Stop.Interp) :
    ReturnsInHanded {} Try.checked os 4 .any ((Rows.OpenSpec.upto Rows.tellsSpec).pre6 enc Try.prog Try.f4 Rows.tellsUptoRow.domain false) (((Rows.OpenSpec.upto Rows.tellsSpec).at F).post enc Try.prog Try.f4 false true false false) := by
  refine returnsInHanded_of_cond (C := Try.checked) (s := Rows.OpenSpec.upto Rows.tellsSpec) (k := Rows.uptoSmall) rfl ownT started (by kernel_rfl) Try.func4
    (OpenSpec.witness (enc := enc) (C := Try.checked) (s := Rows.OpenSpec.upto Rows.tellsSpec) (k := Rows.uptoSmall) rfl false ⟨#[], #[.slice none 0 0], []⟩ 8 (by kernel_rfl) (by kernel_rfl) (by kernel_rfl)
      (x := ([.nil], [], [])) (by kernel_rfl) rfl (by kernel_rfl)) ?_
  intro W base args ds gs before hval hW _ hk _
  exact tells_contract H enc W base args ds gs before hval hW hk

theorem tells_upto : Rows.TellsUptoSaid :=
  OpenClaim.holds_of_cond 4 Try.f4 rfl rfl rfl rfl rfl rfl rfl ⟨rfl, rfl, rfl, rfl, rfl⟩ rfl rfl rfl rfl rfl (by kernel_rfl) Try.func4 (by kernel_rfl)
    (of_decide_eq_true (by kernel_rfl)) (by unfold Func.isWrapper; first | (rw [if_pos (by decide +kernel)]; kernel_rfl) | (rw [if_neg (by decide +kernel)]; exact ⟨rfl, rfl⟩))
    (fun os started H enc _ F => tells_lifted os started H enc F)

#print axioms tells_upto

end Go.Proofs.Ytiamlbhkiehilaa
