import Derived.Scope
import Derived.ScopeJumps
namespace Go.Proofs.YtiamlbhkiehilaaDoor

/-- As Q; by a goto to a label: what is promised of it. -/
def jumpsTo (J : Nat → Act → World → Prop) (Q : Exit → Act → World → Prop) : Exit → Act → World → Prop
  | .goto l, a, w => J l a w
  | e, a, w => Q e a w

/-- A scope with several labels: what holds at each jump, and a measure that each pass lowers. -/
theorem wp_scope_labels {P : Program} {a : Act} {w : World} {Q : Exit → Act → World → Prop} {c : Code} (J : Nat → Act → World → Prop) (μ : Nat → Act → World → Nat)
    (pass0 : ∀ l a w, J l a w → ∃ rest, findLabel c l = some (Code.skip.seq rest) ∧ rest.wp P (jumpsTo (fun l' a' w' => J l' a' w' ∧ μ l' a' w' < μ l a w) Q) a w)
    (first : (∀ l a w, J l a w → ∃ rest, findLabel c l = some (Code.skip.seq rest) ∧ rest.wp P (jumpsTo J Q) a w) → c.wp P (jumpsTo J Q) a w) : (Code.scope c).wp P Q a w := by
  have pass : ∀ l a w, J l a w → ∃ rest, findLabel c l = some rest ∧ rest.wp P (jumpsTo (fun l' a' w' => J l' a' w' ∧ μ l' a' w' < μ l a w) Q) a w := by
    intro l a w hJ
    obtain ⟨rest, hr, hw⟩ := pass0 l a w hJ
    exact ⟨_, hr, wp_seq (wp_skip hw)⟩
  have weak : ∀ l a w, J l a w → ∃ rest, findLabel c l = some (Code.skip.seq rest) ∧ rest.wp P (jumpsTo J Q) a w := by
    intro l a w hJ
    obtain ⟨rest, hr, hw⟩ := pass0 l a w hJ
    refine ⟨rest, hr, Code.wp_mono ?_ hw⟩
    intro e a' w' h
    cases e
    case goto => exact h.1
    all_goals exact h
  intro b k cs
  have fin : ∀ (n l : Nat) (a : Act) (w : World), μ l a w = n → J l a w → ∀ rest, findLabel c l = some rest → ∃ e a' w', Q e a' w' ∧ Arrives P (lone (b.at a (.code rest :: .inScope c :: k)) cs w) b k cs e a' w' := by
    intro n
    induction n using Nat.strongRecOn with
    | _ n ih =>
      intro l a w hn hJ rest hr
      obtain ⟨rest', hr', hp⟩ := pass l a w hJ
      have : rest' = rest := Option.some.inj (hr'.symm.trans hr)
      subst this
      obtain ⟨e, a₁, w₁, hq, harr⟩ := hp b (.inScope c :: k) cs
      cases e
      case goto l' =>
        obtain ⟨hJ', hlt⟩ := hq
        obtain ⟨r2, hr2, _⟩ := pass l' a₁ w₁ hJ'
        obtain ⟨e₂, a₂, w₂, hq₂, harr₂⟩ := ih _ (hn ▸ hlt) l' a₁ w₁ rfl hJ' r2 hr2
        exact ⟨e₂, a₂, w₂, hq₂, .of_steps (harr _ (by simp [gotoIn, hr2])) harr₂⟩
      case normal => exact ⟨_, _, _, hq, Steps.trans harr (.one step_inScope)⟩
      case exit id => exact ⟨_, _, _, hq, fun k' hk => harr k' (by simp [exitTo, hk])⟩
      all_goals exact ⟨_, _, _, hq, harr⟩
  obtain ⟨e, a₁, w₁, hq, harr⟩ := first weak b (.inScope c :: k) cs
  cases e
  case goto l' =>
    obtain ⟨r2, hr2, _⟩ := pass l' a₁ w₁ hq
    obtain ⟨e₂, a₂, w₂, hq₂, harr₂⟩ := fin _ l' a₁ w₁ rfl hq r2 hr2
    exact ⟨e₂, a₂, w₂, hq₂, .of_steps (.head step_scope (harr _ (by simp [gotoIn, hr2]))) harr₂⟩
  case normal => exact ⟨_, _, _, hq, .head step_scope (Steps.trans harr (.one step_inScope))⟩
  case exit id => exact ⟨_, _, _, hq, fun k' hk => .head step_scope (harr k' (by simp [exitTo, hk]))⟩
  all_goals exact ⟨_, _, _, hq, .of_steps (.one step_scope) harr⟩

end Go.Proofs.YtiamlbhkiehilaaDoor
