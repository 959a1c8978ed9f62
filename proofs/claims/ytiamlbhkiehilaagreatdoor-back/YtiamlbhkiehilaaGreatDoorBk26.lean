import Derived.Test.YtiamlbhkiehilaaGreatDoorBk25
namespace Go.Proofs.YtiamlbhkiehilaaGreatDoor

/-! What is reached -/
def pushS (y : List Nat × List Nat) (t : Nat) : List Nat × List Nat := if y.1.contains t then y else (addS t y.1, y.2 ++ [t])
theorem reachL_succ (next : Nat → List Nat) (k : Nat) (found rest : List Nat) : reachL next (k + 1) found rest = match rest.getLast? with
    | none => some found
    | some x => reachL next k ((next x).foldl pushS (found, rest.dropLast)).1 ((next x).foldl pushS (found, rest.dropLast)).2 := by
  rw [reachL]
  rfl

theorem push_inv {P : Nat → Prop} : ∀ (l : List Nat) (y : List Nat × List Nat), (∀ x, x ∈ l → P x) → (∀ x, x ∈ y.1 → P x) → (∀ x, x ∈ y.2 → P x) → (∀ x, x ∈ (l.foldl pushS y).1 → P x) ∧ (∀ x, x ∈ (l.foldl pushS y).2 → P x) := by
  intro l
  induction l with
  | nil => exact fun y _ h1 h2 => ⟨h1, h2⟩
  | cons a r ih =>
    intro y hl h1 h2
    rw [List.foldl_cons]
    refine ih _ (fun x hx => hl x (List.mem_cons_of_mem _ hx)) ?_ ?_
    · unfold pushS
      split
      · exact h1
      · intro x hx
        rcases (mem_addS.1 hx).2 with rfl | hx
        · exact hl _ List.mem_cons_self
        · exact h1 x hx
    · unfold pushS
      split
      · exact h2
      · intro x hx
        rcases List.mem_append.1 hx with hx | hx
        · exact h2 x hx
        · rw [List.mem_singleton.1 hx]
          exact hl _ List.mem_cons_self

theorem reachL_inv {next : Nat → List Nat} {P : Nat → Prop} (hP : ∀ x y, P x → y ∈ next x → P y) : ∀ (k : Nat) (found rest r : List Nat), reachL next k found rest = some r → (∀ x, x ∈ found → P x) → (∀ x, x ∈ rest → P x) → ∀ x, x ∈ r → P x := by
  intro k
  induction k with
  | zero => intro found rest r h; cases h
  | succ k ih =>
    intro found rest r h h1 h2
    rw [reachL_succ] at h
    cases hl : rest.getLast? with
    | none =>
      rw [hl] at h
      injection h with h
      rw [← h]
      exact h1
    | some a =>
      rw [hl] at h
      have ha : P a := h2 a (List.mem_of_getLast? hl)
      have hd : ∀ x, x ∈ rest.dropLast → P x := fun x hx => h2 x ((List.dropLast_sublist rest).subset hx)
      obtain ⟨p1, p2⟩ := push_inv (P := P) (next a) (found, rest.dropLast) (fun x hx => hP a x ha hx) h1 hd
      exact ih _ _ _ h p1 p2

theorem reached_inv {next : Nat → List Nat} {P : Nat → Prop} {k start : Nat} {r : List Nat} (h : reached k start next = some r) (h0 : P start) (hP : ∀ x y, P x → y ∈ next x → P y) : ∀ x, x ∈ r → P x := by
  refine reachL_inv hP k _ _ r h ?_ ?_
  · intro x hx
    rcases (mem_addS.1 hx).2 with rfl | hx
    · exact h0
    · cases hx
  · intro x hx
    rw [List.mem_singleton.1 hx]
    exact h0

/-- All around come to the same. -/
theorem around_same {next : Nat → List Nat} {V : Nat → Nat → Prop} (mono : ∀ x y, y ∈ next x → ∀ t, V x t → V y t) {k start : Nat} {l : List Nat} (h : around k start next = some l) : ∀ y, y ∈ l → ∀ t, V y t ↔ V start t := by
  unfold around at h
  cases ha : reached k start next with
  | none => rw [ha] at h; cases h
  | some ahead =>
    rw [ha] at h
    have h1 : ∀ x, x ∈ ahead → ∀ t, V start t → V x t := reached_inv (P := fun x => ∀ t, V start t → V x t) ha (fun _ ht => ht) (fun x y hx hy t ht => mono x y hy t (hx t ht))
    have h2 : ∀ x, x ∈ l → (∀ t, V x t → V start t) ∧ (∀ t, V start t → V x t) := by
      refine reached_inv (P := fun x => (∀ t, V x t → V start t) ∧ (∀ t, V start t → V x t)) (show reached k start (backOf ahead next) = some l from h) ⟨fun _ ht => ht, fun _ ht => ht⟩ ?_
      intro x y hx hy
      have hy := mem_mkS.1 hy
      simp only [Bool.and_eq_true, List.contains_iff_mem] at hy
      exact ⟨fun t ht => hx.1 t (mono y x hy.2.2 t ht), h1 y hy.2.1⟩
    exact fun y hy t => ⟨(h2 y hy).1 t, (h2 y hy).2 t⟩

theorem around_bd {next : Nat → List Nat} {P : Nat → Prop} {k start : Nat} {l : List Nat} (h : around k start next = some l) (h0 : P start) (hP : ∀ x y, y ∈ next x → P y) : ∀ y, y ∈ l → P y := by
  unfold around at h
  cases ha : reached k start next with
  | none => rw [ha] at h; cases h
  | some ahead =>
    rw [ha] at h
    have h1 : ∀ x, x ∈ ahead → P x := reached_inv ha h0 (fun x y _ hy => hP x y hy)
    refine reached_inv (P := P) (show reached k start (backOf ahead next) = some l from h) h0 (fun x y _ hy => ?_)
    have hy := mem_mkS.1 hy
    simp only [Bool.and_eq_true, List.contains_iff_mem] at hy
    exact h1 y hy.2.1

/-! It ends -/
theorem push_len : ∀ (l : List Nat) (y : List Nat × List Nat), (∀ x, x ∈ l → x < 128) → (128 - cnt 128 (l.foldl pushS y).1) + (l.foldl pushS y).2.length ≤ (128 - cnt 128 y.1) + y.2.length := by
  intro l
  induction l with
  | nil => exact fun y _ => Nat.le_refl _
  | cons a r ih =>
    intro y hl
    rw [List.foldl_cons]
    refine Nat.le_trans (ih _ (fun x hx => hl x (List.mem_cons_of_mem _ hx))) ?_
    unfold pushS
    split
    · exact Nat.le_refl _
    · rename_i hc
      have ha := hl a List.mem_cons_self
      have h1 : cnt 128 y.1 < cnt 128 (addS a y.1) ∨ ∃ x, x ∈ y.1 ∧ ¬ x < 128 := by
        by_cases hb : ∀ x, x ∈ y.1 → x < 128
        · exact .inl (cnt_lt (fun x hx => mem_addS.2 ⟨hb x hx, .inr hx⟩) ha (by simpa using hc) (mem_addS.2 ⟨ha, .inl rfl⟩))
        · simp only [Classical.not_forall] at hb
          obtain ⟨x, hx, hx'⟩ := hb
          exact .inr ⟨x, hx, hx'⟩
      have h2 : cnt 128 y.1 < cnt 128 (addS a y.1) := by
        refine filter_len_lt _ _ _ (fun x hx hy => ?_) (a := a) (by simpa using ha) (by simpa using hc) (by simpa using mem_addS.2 ⟨ha, .inl rfl⟩)
        have hx : x < 128 := by simpa using hx
        simpa using mem_addS.2 ⟨hx, .inr (by simpa using hy)⟩
      have := acnt_le 128 (addS a y.1)
      simp
      omega

theorem reachL_ends {next : Nat → List Nat} (hb : ∀ x y, y ∈ next x → y < 128) : ∀ (k : Nat) (found rest : List Nat), (128 - cnt 128 found) + rest.length < k → ∃ r, reachL next k found rest = some r := by
  intro k
  induction k with
  | zero => intro _ _ h; omega
  | succ k ih =>
    intro found rest h
    rw [reachL_succ]
    cases hl : rest.getLast? with
    | none => exact ⟨_, rfl⟩
    | some a =>
      have hne : rest ≠ [] := fun e => by rw [e] at hl; cases hl
      have hlen : 0 < rest.length := List.length_pos_iff.2 hne
      have := push_len (next a) (found, rest.dropLast) (fun x hx => hb a x hx)
      simp only [List.length_dropLast] at this
      exact ih _ _ (by omega)

theorem reached_ends {next : Nat → List Nat} (hb : ∀ x y, y ∈ next x → y < 128) {k : Nat} (hk : 130 ≤ k) (start : Nat) : ∃ r, reached k start next = some r := by
  unfold reached
  exact reachL_ends hb k _ _ (by simp; omega)

theorem around_ends {next : Nat → List Nat} (hb : ∀ x y, y ∈ next x → y < 128) {k : Nat} (hk : 130 ≤ k) (start : Nat) : ∃ r, around k start next = some r := by
  unfold around
  obtain ⟨r, hr⟩ := reached_ends hb hk start
  rw [hr]
  exact reached_ends (fun x y hy => (mem_mkS.1 hy).1) hk start

/-! Those that stand for others -/
theorem mem_standing {s : St} : ∀ {l : List Nat} {y : Nat}, y ∈ s.standing l ↔ y < 128 ∧ ∃ x, x ∈ l ∧ s.rep x = y := by
  intro l y
  have key : ∀ (l : List Nat) (f : List Nat), y ∈ l.foldl (fun f n => addS (s.rep n) f) f ↔ (y ∈ f ∧ (l = [] ∨ y < 128)) ∨ (y < 128 ∧ ∃ x, x ∈ l ∧ s.rep x = y) := by
    intro l
    induction l with
    | nil => intro f; simp
    | cons a r ih =>
      intro f
      rw [List.foldl_cons, ih, mem_addS]
      constructor
      · rintro (⟨⟨h1, h2⟩, h3⟩ | ⟨h1, x, hx, e⟩)
        · rcases h2 with rfl | h2
          · exact .inr ⟨h1, a, List.mem_cons_self, rfl⟩
          · exact .inl ⟨h2, .inr h1⟩
        · exact .inr ⟨h1, x, List.mem_cons_of_mem _ hx, e⟩
      · rintro (⟨h1, h2⟩ | ⟨h1, x, hx, e⟩)
        · rcases h2 with h2 | h2
          · cases h2
          · exact .inl ⟨⟨h2, .inr h1⟩, .inr h2⟩
        · rcases List.mem_cons.1 hx with rfl | hx
          · exact .inl ⟨⟨h1, .inl e.symm⟩, .inr h1⟩
          · exact .inr ⟨h1, x, hx, e⟩
  unfold St.standing
  rw [key]
  simp

theorem mem_heirsOf {s : St} {n y : Nat} : y ∈ s.heirsOf n ↔ y < 128 ∧ y ≠ n ∧ ∃ x, x ∈ s.hr n ∧ s.rep x = y := by
  unfold St.heirsOf
  rw [mem_delS, mem_standing]
  constructor
  · rintro ⟨h1, h2, h3⟩
    exact ⟨h1, h2, h3.2⟩
  · rintro ⟨h1, h2, h3⟩
    exact ⟨h1, h2, h1, h3⟩

theorem Inv.standing_lt {fs : List (Int × Nat × Nat)} {n : Nat} {c : Way} {E : Nat → Prop} {s : St} (h : Inv fs n c E s) {k y : Nat} (hy : y ∈ s.standing (s.ss.getD k [])) : y < n ∧ s.rep y = y := by
  obtain ⟨_, x, hx, rfl⟩ := mem_standing.1 hy
  exact ⟨h.rlt (h.bd _ _ hx), h.repi x⟩
theorem Inv.heirs_lt {fs : List (Int × Nat × Nat)} {n : Nat} {c : Way} {E : Nat → Prop} {s : St} (h : Inv fs n c E s) {k y : Nat} (hy : y ∈ s.heirsOf k) : y < n ∧ s.rep y = y ∧ ∀ t, PtN fs k t → PtN fs y t := by
  obtain ⟨_, _, x, hx, rfl⟩ := mem_heirsOf.1 hy
  exact ⟨h.rlt (h.bd _ _ hx), h.repi x, fun t ht => (h.same x t).2 (h.hr _ _ hx t ht)⟩

end Go.Proofs.YtiamlbhkiehilaaGreatDoor

namespace Go.Proofs.YtiamlbhkiehilaaGreatDoor


/-- Merges one with each of a list. -/
theorem Inv.mergeAll {fs : List (Int × Nat × Nat)} {n : Nat} {c : Way} {E : Nat → Prop} {s : St} (h : Inv fs n c E s) {a : Nat} (ha : a < n) {l : List Nat} (hl : ∀ b, b ∈ l → b < n ∧ ∀ t, PtN fs a t ↔ PtN fs b t) :
    Inv fs n c E (s.mergeAll a l).2 ∧ ((s.mergeAll a l).1 = false → (s.mergeAll a l).2 = s) ∧ (s.mergeAll a l).2.mea n + (if (s.mergeAll a l).1 then 1 else 0) ≤ s.mea n ∧ (s.mergeAll a l).2.pt n + (if (s.mergeAll a l).1 then n else 0) ≤ s.pt n := by
  have key : ∀ (l : List Nat), (∀ b, b ∈ l → b < n ∧ ∀ t, PtN fs a t ↔ PtN fs b t) → ∀ (x : Bool × St), Inv fs n c E x.2 → (x.1 = false → x.2 = s) → x.2.mea n + (if x.1 then 1 else 0) ≤ s.mea n → x.2.pt n + (if x.1 then n else 0) ≤ s.pt n →
      let z := l.foldl (fun x b => let y := x.2.merge a b; (y.1 || x.1, y.2)) x
      Inv fs n c E z.2 ∧ (z.1 = false → z.2 = s) ∧ z.2.mea n + (if z.1 then 1 else 0) ≤ s.mea n ∧ z.2.pt n + (if z.1 then n else 0) ≤ s.pt n := by
    intro l
    induction l with
    | nil => exact fun _ x h1 h2 h3 h4 => ⟨h1, h2, h3, h4⟩
    | cons b r ih =>
      intro hl x h1 h2 h3 h4
      obtain ⟨p1, p2⟩ := hl b List.mem_cons_self
      obtain ⟨q1, q2, q3⟩ := h1.merge ha p1 p2
      refine ih (fun b hb => hl b (List.mem_cons_of_mem _ hb)) _ q1 ?_ ?_ ?_
      · intro e
        have e : ((x.2.merge a b).1 || x.1) = false := e
        rw [Bool.or_eq_false_iff] at e
        show (x.2.merge a b).2 = s
        rw [q2 e.1]
        exact h2 e.2
      · show (x.2.merge a b).2.mea n + (if ((x.2.merge a b).1 || x.1) = true then 1 else 0) ≤ _
        cases hm : (x.2.merge a b).1
        · rw [q2 hm]
          simpa using h3
        · have := (q3 hm).1
          simp
          split at h3 <;> omega
      · show (x.2.merge a b).2.pt n + (if ((x.2.merge a b).1 || x.1) = true then n else 0) ≤ _
        cases hm : (x.2.merge a b).1
        · rw [q2 hm]
          simpa using h4
        · have := (q3 hm).2
          simp
          split at h4 <;> omega
  exact key l hl (false, s) h (fun _ => rfl) (by simp) (by simp)

/-- Merges targets with twins. -/
theorem Inv.collapse {fs : List (Int × Nat × Nat)} {n : Nat} {c : Way} {E : Nat → Prop} {s : St} (h : Inv fs n c E s) {a : Nat} {T : List Nat} (hT : ∀ t, t ∈ T → t < n ∧ PtN fs a t) :
    Inv fs n c E (s.collapse a T).2 ∧ ((s.collapse a T).1 = false → (s.collapse a T).2 = s) ∧ (s.collapse a T).2.mea n + (if (s.collapse a T).1 then 1 else 0) ≤ s.mea n ∧ (s.collapse a T).2.pt n + (if (s.collapse a T).1 then n else 0) ≤ s.pt n := by
  have htw : ∀ u, u ∈ s.tw a → u < n ∧ ∀ x, PtN fs a x → ∀ t, PtN fs x t ↔ PtN fs u t := fun u hu => ⟨h.bd _ _ hu, h.tw a u hu⟩
  unfold St.collapse
  generalize s.tw a = tw at htw
  have key : ∀ (l : List Nat), (∀ t, t ∈ l → t < n ∧ PtN fs a t) → ∀ (x : Bool × St), Inv fs n c E x.2 → (x.1 = false → x.2 = s) → x.2.mea n + (if x.1 then 1 else 0) ≤ s.mea n → x.2.pt n + (if x.1 then n else 0) ≤ s.pt n →
      let z := l.foldl (fun x t => let y := x.2.mergeAll t tw; (y.1 || x.1, y.2)) x
      Inv fs n c E z.2 ∧ (z.1 = false → z.2 = s) ∧ z.2.mea n + (if z.1 then 1 else 0) ≤ s.mea n ∧ z.2.pt n + (if z.1 then n else 0) ≤ s.pt n := by
    intro l
    induction l with
    | nil => exact fun _ x h1 h2 h3 h4 => ⟨h1, h2, h3, h4⟩
    | cons b r ih =>
      intro hl x h1 h2 h3 h4
      obtain ⟨p1, p2⟩ := hl b List.mem_cons_self
      obtain ⟨q1, q2, q3, q4⟩ := h1.mergeAll p1 (l := tw) (fun u hu => ⟨(htw u hu).1, (htw u hu).2 b p2⟩)
      refine ih (fun b hb => hl b (List.mem_cons_of_mem _ hb)) _ q1 ?_ ?_ ?_
      · intro e
        have e : ((x.2.mergeAll b tw).1 || x.1) = false := e
        rw [Bool.or_eq_false_iff] at e
        show (x.2.mergeAll b tw).2 = s
        rw [q2 e.1]
        exact h2 e.2
      · show (x.2.mergeAll b tw).2.mea n + (if ((x.2.mergeAll b tw).1 || x.1) = true then 1 else 0) ≤ _
        cases hm : (x.2.mergeAll b tw).1
        · rw [q2 hm]
          simpa using h3
        · rw [hm] at q3
          simp at q3 ⊢
          split at h3 <;> omega
      · show (x.2.mergeAll b tw).2.pt n + (if ((x.2.mergeAll b tw).1 || x.1) = true then n else 0) ≤ _
        cases hm : (x.2.mergeAll b tw).1
        · rw [q2 hm]
          simpa using h4
        · rw [hm] at q4
          simp at q4 ⊢
          split at h4 <;> omega
  exact key T hT (false, s) h (fun _ => rfl) (by simp) (by simp)

/-- Links of a list. -/
theorem Inv.linkL {fs : List (Int × Nat × Nat)} {n : Nat} {c : Way} {E : Nat → Prop} : ∀ (l : List (Nat × Nat)) {s : St}, Inv fs n c E s → (∀ e, e ∈ l → e.1 < n ∧ e.2 < n ∧ ∀ t, PtN fs e.1 t → PtN fs e.2 t) →
    Inv fs n c E (l.foldl (fun s e => s.link c e.1 e.2) s) ∧ More n s (l.foldl (fun s e => s.link c e.1 e.2) s) ∧ (∀ e, e ∈ l → (l.foldl (fun s e => s.link c e.1 e.2) s).Edge e.1 e.2) ∧ (l.foldl (fun s e => s.link c e.1 e.2) s).pt n ≤ s.pt n := by
  intro l
  induction l with
  | nil => exact fun h _ => ⟨h, More.refl _ _, fun e he => (by cases he), Nat.le_refl _⟩
  | cons a r ih =>
    intro s h hl
    obtain ⟨a1, a2, a3⟩ := hl a List.mem_cons_self
    obtain ⟨p1, p2, p3, p4⟩ := h.link a1 a2 a3
    obtain ⟨q1, q2, q3, q4⟩ := ih p1 (fun e he => hl e (List.mem_cons_of_mem _ he))
    refine ⟨q1, p2.trans q2, fun e he => ?_, Nat.le_trans q4 p4⟩
    rcases List.mem_cons.1 he with rfl | he
    · exact q2.edge p3
    · exact q3 e he

/-- The links that one target brings. -/
theorem Inv.links {fs : List (Int × Nat × Nat)} {n : Nat} {c : Way} {E : Nat → Prop} {s : St} (h : Inv fs n c E s) {a t : Nat} (ht : t < n) (hat : PtN fs a t) :
    Inv fs n c E (s.links c a t) ∧ More n s (s.links c a t) ∧ (∀ p, p ∈ s.ld a → (s.links c a t).Edge t p) ∧ (∀ q, q ∈ s.sr a → (s.links c a t).Edge q t) ∧ (s.links c a t).pt n ≤ s.pt n := by
  have e1 : ∀ (l : List Nat) (s : St), l.foldl (fun s p => s.link c t p) s = (l.map fun p => (t, p)).foldl (fun s e => s.link c e.1 e.2) s := fun l s => by rw [List.foldl_map]
  have e2 : ∀ (l : List Nat) (s : St), l.foldl (fun s q => s.link c q t) s = (l.map fun q => (q, t)).foldl (fun s e => s.link c e.1 e.2) s := fun l s => by rw [List.foldl_map]
  unfold St.links
  simp only []
  rw [e1, e2]
  obtain ⟨p1, p2, p3, p4⟩ := h.linkL ((s.ld a).map fun p => (t, p)) (fun e he => by
    obtain ⟨p, hp, rfl⟩ := List.mem_map.1 he
    exact ⟨ht, h.bd _ _ hp, fun x hx => h.ld a p hp t x hat hx⟩)
  generalize ((s.ld a).map fun p => (t, p)).foldl (fun s e => s.link c e.1 e.2) s = s1 at *
  obtain ⟨q1, q2, q3, q4⟩ := p1.linkL ((s1.sr a).map fun q => (q, t)) (fun e he => by
    obtain ⟨q, hq, rfl⟩ := List.mem_map.1 he
    exact ⟨p1.bd _ _ hq, ht, fun x hx => p1.sr a q hq t x hat hx⟩)
  generalize ((s1.sr a).map fun q => (q, t)).foldl (fun s e => s.link c e.1 e.2) s1 = s2 at *
  refine ⟨q1, p2.trans q2, fun p hp => q2.edge (p3 (t, p) (List.mem_map.2 ⟨p, hp, rfl⟩)), fun q hq => q3 (q, t) (List.mem_map.2 ⟨q, by rw [p2.sr]; exact hq, rfl⟩), Nat.le_trans q4 p4⟩

theorem Inv.linksL {fs : List (Int × Nat × Nat)} {n : Nat} {c : Way} {E : Nat → Prop} {a : Nat} : ∀ (l : List Nat) {s : St}, Inv fs n c E s → (∀ t, t ∈ l → t < n ∧ PtN fs a t) →
    Inv fs n c E (l.foldl (fun s t => s.links c a t) s) ∧ More n s (l.foldl (fun s t => s.links c a t) s) ∧ (∀ t, t ∈ l → (∀ p, p ∈ s.ld a → (l.foldl (fun s t => s.links c a t) s).Edge t p) ∧ (∀ q, q ∈ s.sr a → (l.foldl (fun s t => s.links c a t) s).Edge q t)) ∧ (l.foldl (fun s t => s.links c a t) s).pt n ≤ s.pt n := by
  intro l
  induction l with
  | nil => exact fun h _ => ⟨h, More.refl _ _, fun t ht => (by cases ht), Nat.le_refl _⟩
  | cons b r ih =>
    intro s h hl
    obtain ⟨a1, a2⟩ := hl b List.mem_cons_self
    obtain ⟨p1, p2, p3, p4, p5⟩ := h.links (c := c) a1 a2
    obtain ⟨q1, q2, q3, q4⟩ := ih p1 (fun t ht => hl t (List.mem_cons_of_mem _ ht))
    refine ⟨q1, p2.trans q2, fun t ht => ?_, Nat.le_trans q4 p5⟩
    rcases List.mem_cons.1 ht with rfl | ht
    · exact ⟨fun p hp => q2.edge (p3 p hp), fun q hq => q2.edge (p4 q hq)⟩
    · have := q3 t ht
      rw [p2.ld, p2.sr] at this
      exact this

/-- Hands on to all heirs. -/
theorem Inv.handL {fs : List (Int × Nat × Nat)} {n : Nat} {c : Way} {E : Nat → Prop} {a : Nat} {T : List Nat} : ∀ (l : List Nat) {s : St}, Inv fs n c E s → a < n → s.rep a = a → (∀ t, t ∈ T → t < n ∧ PtN fs a t) → (∀ j, j ∈ l → j < n ∧ s.rep j = j ∧ ∀ t, PtN fs a t → PtN fs j t) →
    Inv fs n c E (l.foldl (fun s j => s.hand c T a j) s) ∧ More n s (l.foldl (fun s j => s.hand c T a j) s) ∧ (∀ i, (l.foldl (fun s j => s.hand c T a j) s).hr i = s.hr i) ∧ (∀ j, j ∈ l → ∀ x, x ∈ T → x ∈ (l.foldl (fun s j => s.hand c T a j) s).tg j) ∧ (l.foldl (fun s j => s.hand c T a j) s).pt n ≤ s.pt n + l.length := by
  intro l
  induction l with
  | nil => exact fun h _ _ _ _ => ⟨h, More.refl _ _, fun _ => rfl, fun t ht => (by cases ht), Nat.le_refl _⟩
  | cons b r ih =>
    intro s h ha hra hT hl
    obtain ⟨b1, b2, b3⟩ := hl b List.mem_cons_self
    obtain ⟨p1, p2, p3, p4⟩ := h.hand' (c := c) (T := T) ha b1 hra b2 (fun x hx => ⟨(hT x hx).1, b3 x (hT x hx).2⟩)
    have p5 := (h.hand (c := c) (T := T) ha b1 hra b2 (fun x hx => ⟨(hT x hx).1, b3 x (hT x hx).2⟩)).2.2.2.2.1
    obtain ⟨q1, q2, q3, q4, q5⟩ := ih p1 ha (by rw [p2.rep]; exact hra) hT (fun j hj => by rw [p2.rep]; exact hl j (List.mem_cons_of_mem _ hj))
    refine ⟨q1, p2.trans q2, fun i => (q3 i).trans (p5 i), fun j hj x hx => ?_, ?_⟩
    · rcases List.mem_cons.1 hj with rfl | hj
      · exact q2.tg _ _ (p3 x hx)
      · exact q4 j hj x hx
    · simp only [List.length_cons, List.foldl_cons]
      omega

end Go.Proofs.YtiamlbhkiehilaaGreatDoor

namespace Go.Proofs.YtiamlbhkiehilaaGreatDoor

theorem mkS_len {p : Nat → Bool} {n : Nat} (h : ∀ k, k ∈ mkS p → k < n) : (mkS p).length ≤ n := by
  have key : ∀ m, (∀ k, k ∈ (List.range m).filter p → k < n) → ((List.range m).filter p).length ≤ n ∧ ((List.range m).filter p).length ≤ m := by
    intro m
    induction m with
    | zero => intro _; simp
    | succ m ih =>
      intro hm
      rw [List.range_succ, List.filter_append] at hm ⊢
      obtain ⟨i1, i2⟩ := ih (fun k hk => hm k (List.mem_append.2 (.inl hk)))
      cases hp : p m
      · simp [List.filter, hp]
        omega
      · have := hm m (List.mem_append.2 (.inr (by simp [List.filter, hp])))
        simp [List.filter, hp]
        omega
  exact (key 128 h).1

theorem Inv.unexempt {fs : List (Int × Nat × Nat)} {n : Nat} {c : Way} {a : Nat} {s : St} (h : Inv fs n c (· = a) s) (h1 : s.rep a = a → ¬ s.W a → ∀ x, x ∈ s.tg a → (c.deltas = true → x ∈ s.hd a) ∧ (c.deltas = false → (∀ j, j ∈ s.hr a → x ∈ s.tg (s.rep j)) ∧ (∀ p, p ∈ s.ld a → s.Edge x p) ∧ (∀ q, q ∈ s.sr a → s.Edge q x))) : Inv fs n c (fun _ => False) s := by
  refine { h with all := ?_, done := ?_ }
  · intro i hi hx hc x hxt
    by_cases e : i = a
    · subst e
      exact (h1 hi (fun hw => hx (.inl hw)) x hxt).1 hc
    · exact h.all i hi (fun hw => hx (.inl (hw.resolve_right e))) hc x hxt
  · intro i x hi hxt hcond
    by_cases hc : c.deltas = true
    · rw [if_pos hc] at hcond
      exact h.done i x hi hxt (by rw [if_pos hc]; exact hcond)
    · rw [if_neg hc] at hcond
      by_cases e : i = a
      · subst e
        exact (h1 hi (fun hw => hcond (.inl hw)) x hxt).2 (by simpa using hc)
      · exact h.done i x hi hxt (by rw [if_neg hc]; exact fun hw => hcond (.inl (hw.resolve_right e)))

/-- What was handed on is written down. -/
theorem Inv.putHd {fs : List (Int × Nat × Nat)} {n : Nat} {c : Way} {a : Nat} {s : St} (h : Inv fs n c (· = a) s) (hc : c.deltas = true) (ha : a < n) (hra : s.rep a = a) {F : List Nat} (hF : ∀ x, x ∈ F → x ∈ s.tg a ∧ (∀ j, j ∈ s.hr a → x ∈ s.tg (s.rep j)) ∧ (∀ p, p ∈ s.ld a → s.Edge x p) ∧ (∀ q, q ∈ s.sr a → s.Edge q x))
    (hall : ¬ s.W a → ∀ x, x ∈ s.tg a → x ∈ s.hd a ∨ x ∈ F) : Inv fs n c (fun _ => False) (s.put (7 * a + 1) (uniS (s.hd a) F)) := by
  have hn := h.hn
  have e : ∀ k, (s.put (7 * a + 1) (uniS (s.hd a) F)).ss.getD k [] = if k = 7 * a + 1 then uniS (s.hd a) F else s.ss.getD k [] := fun k => St.put_get (by rw [h.len]; omega) k
  generalize hs' : s.put (7 * a + 1) (uniS (s.hd a) F) = s' at e
  have hrep : s'.rep = s.rep := by rw [← hs']; rfl
  have hW : ∀ i, s'.W i ↔ s.W i := by rw [← hs']; exact fun _ => Iff.rfl
  have etg : ∀ i, s'.tg i = s.tg i := fun i => by unfold St.tg; rw [e, if_neg (by omega)]
  have ehr : ∀ i, s'.hr i = s.hr i := fun i => by unfold St.hr; rw [e, if_neg (by omega)]
  have eld : ∀ i, s'.ld i = s.ld i := fun i => by unfold St.ld; rw [e, if_neg (by omega)]
  have esr : ∀ i, s'.sr i = s.sr i := fun i => by unfold St.sr; rw [e, if_neg (by omega)]
  have etw : ∀ i, s'.tw i = s.tw i := fun i => by unfold St.tw; rw [e, if_neg (by omega)]
  have ehd : ∀ i, s'.hd i = if i = a then uniS (s.hd a) F else s.hd i := by
    intro i
    unfold St.hd
    rw [e]
    by_cases e2 : i = a
    · subst e2; rw [if_pos rfl, if_pos rfl]; rfl
    · rw [if_neg (by omega), if_neg e2]
  have edge : ∀ t p, s.Edge t p → s'.Edge t p := by
    intro t p he
    unfold St.Edge at he ⊢
    rw [hrep, ehr]
    exact he
  refine ⟨h.hn, h.fsb, (by rw [← hs', St.put_len]; exact h.len), (by rw [hrep]; exact h.repl), (by rw [hrep]; exact h.repi), (by rw [hrep]; exact h.same), ?_, ?_, (by intro i; rw [etg]; exact h.tg i), ?_, (fun hc' => absurd hc' (by rw [hc]; simp)), (by intro i; rw [ehr]; exact h.hr i), (by intro i; rw [eld]; exact h.ld i), (by intro i; rw [esr]; exact h.sr i), (by intro i; rw [etw]; exact h.tw i),
    (by intro p q hf; rw [hrep, etg]; exact h.cA p q hf), (by intro p q hf; rw [hrep, ehr]; exact h.cC p q hf), (by intro p q hf; rw [hrep, eld]; exact h.cL p q hf), (by intro p q hf; rw [hrep, esr]; exact h.cS p q hf), ?_, ?_, ?_, ?_, ?_⟩
  · intro k x hx
    rw [e] at hx
    split at hx
    · rcases (mem_uniS.1 hx).2 with hx | hx
      · exact h.bd _ _ hx
      · exact h.bd _ _ (hF x hx).1
    · exact h.bd _ _ hx
  · intro i f hi hf
    rw [hrep] at hi
    have hia : i ≠ a := fun e2 => hi (by rw [e2]; exact hra)
    rw [e, if_neg (by omega)]
    exact h.gone i f hi hf
  · intro i x hx
    rw [ehd] at hx
    rw [etg]
    split at hx
    · rename_i e2
      subst e2
      rcases (mem_uniS.1 hx).2 with hx | hx
      · exact h.hdt _ _ hx
      · exact (hF x hx).1
    · exact h.hdt _ _ hx
  · intro i
    rw [hW, ← hs']
    exact h.ins i
  · intro i hi
    rw [hrep]
    exact h.wst i ((hW i).1 hi)
  · rw [← hs']
    exact h.sus
  · intro i hi hx _ x hxt
    rw [hrep] at hi
    rw [etg] at hxt
    rw [ehd]
    split
    · rename_i e2
      subst e2
      have hxb := h.bd _ _ hxt
      exact mem_uniS.2 ⟨by omega, hall (fun hw => hx (.inl ((hW i).2 hw))) x hxt⟩
    · rename_i e2
      exact h.all i hi (fun hw => hx (.inl ((hW i).2 (hw.resolve_right e2)))) hc x hxt
  · intro i x hi hxt hcond
    rw [hrep] at hi
    rw [etg] at hxt
    rw [if_pos hc, ehd] at hcond
    have key : (∀ j, j ∈ s.hr i → x ∈ s.tg (s.rep j)) ∧ (∀ p, p ∈ s.ld i → s.Edge x p) ∧ (∀ q, q ∈ s.sr i → s.Edge q x) := by
      split at hcond
      · rename_i e2
        subst e2
        rcases (mem_uniS.1 hcond).2 with hx | hx
        · exact h.done i x hi hxt (by rw [if_pos hc]; exact hx)
        · exact (hF x hx).2
      · exact h.done i x hi hxt (by rw [if_pos hc]; exact hcond)
    obtain ⟨k1, k2, k3⟩ := key
    refine ⟨fun j hj => ?_, fun p hp => ?_, fun q hq => ?_⟩
    · rw [ehr] at hj
      rw [hrep, etg]
      exact k1 j hj
    · rw [eld] at hp
      exact edge _ _ (k2 p hp)
    · rw [esr] at hq
      exact edge _ _ (k3 q hq)

theorem St.put_mis {s : St} {n a : Nat} {F : List Nat} (hl : s.ss.length = 7 * n) (ha : a < n) : (s.put (7 * a + 1) F).mea n = s.mea n ∧ (s.put (7 * a + 1) F).pt n = s.pt n := by
  have key : ∀ f, f ≠ 1 → f < 7 → (s.put (7 * a + 1) F).mis n f = s.mis n f := by
    intro f hf hf7
    unfold St.mis
    congr 1
    funext i
    have e1 : (s.put (7 * a + 1) F).ss.getD (7 * i + f) [] = s.ss.getD (7 * i + f) [] := by rw [St.put_get (by omega), if_neg (by omega)]
    rw [e1]
    rfl
  have m0 := key 0 (by omega) (by omega)
  have m2 := key 2 (by omega) (by omega)
  have md : (s.put (7 * a + 1) F).dn n = s.dn n := St.dn_eq rfl
  have mn : (s.put (7 * a + 1) F).nw = s.nw := rfl
  have mm : (s.put (7 * a + 1) F).mea n = s.mea n := by unfold St.mea; omega
  refine ⟨mm, ?_⟩
  unfold St.pt
  rw [mm, m2, md]
  rfl

/-- One is worked at. -/
theorem Inv.work {fs : List (Int × Nat × Nat)} {n : Nat} {c : Way} {a : Nat} {s : St} (h : Inv fs n c (· = a) s) (ha : a < n) (hra : s.rep a = a) : Inv fs n c (fun _ => False) (s.work c a) ∧ (s.work c a).mea n ≤ s.mea n ∧ (s.work c a).pt n ≤ s.pt n + n := by
  have hn := h.hn
  have hfr : ∀ x, x ∈ subS (s.tg a) (s.hd a) → x ∈ s.tg a := fun x hx => (mem_subS.1 hx).2.1
  have hfr' : ∀ x, x ∈ s.tg a → x ∈ s.hd a ∨ x ∈ subS (s.tg a) (s.hd a) := by
    intro x hx
    by_cases e : x ∈ s.hd a
    · exact .inl e
    · have := h.bd _ _ hx
      exact .inr (mem_subS.2 ⟨by omega, hx, e⟩)
  unfold St.work
  generalize subS (s.tg a) (s.hd a) = fresh at *
  have hfb : ∀ x, x ∈ fresh → x < n ∧ PtN fs a x := fun x hx => ⟨h.bd _ _ (hfr x hx), h.tg _ _ (hfr x hx)⟩
  by_cases hfe : fresh.isEmpty = true
  · simp only [hfe, if_true]
    refine ⟨h.unexempt (fun _ _ x hx => ?_), Nat.le_refl _, Nat.le_add_right _ _⟩
    have hfn : fresh = [] := by simpa using hfe
    have hxh := (hfr' x hx).resolve_right (by rw [hfn]; simp)
    refine ⟨fun _ => hxh, fun hc => ?_⟩
    rw [h.hdn hc a] at hxh
    cases hxh
  · simp only [hfe, if_false, Bool.false_eq_true]
    obtain ⟨c1, c2, c3, c4⟩ := h.collapse (T := fresh) hfb
    generalize s.collapse a fresh = m at *
    cases hm : m.1
    · rw [c2 hm]
      simp only [Bool.false_eq_true, if_false]
      obtain ⟨l1, l2, l3, l4⟩ := h.linksL (c := c) fresh hfb
      generalize fresh.foldl (fun s t => s.links c a t) s = s2 at *
      obtain ⟨k1, k2, k3, k4, k5⟩ := l1.handL (c := c) (a := a) (T := fresh) (s2.heirsOf a) ha (by rw [l2.rep]; exact hra) hfb (fun j hj => by obtain ⟨q1, q2, q3⟩ := l1.heirs_lt hj; exact ⟨q1, q2, q3⟩)
      have hlen : (s2.heirsOf a).length ≤ n := by
        unfold St.heirsOf delS
        exact mkS_len (fun k hk => (l1.heirs_lt (k := a) (y := k) hk).1)
      have F2 : ∀ x, x ∈ fresh → ∀ j, j ∈ ((s2.heirsOf a).foldl (fun s h => s.hand c fresh a h) s2).hr a → x ∈ ((s2.heirsOf a).foldl (fun s h => s.hand c fresh a h) s2).tg (((s2.heirsOf a).foldl (fun s h => s.hand c fresh a h) s2).rep j) := by
        intro x hx j hj
        rw [k3] at hj
        rw [k2.rep]
        by_cases e : s2.rep j = a
        · rw [e]
          exact k2.tg _ _ (l2.tg _ _ (hfr x hx))
        · have := l1.rlt (l1.bd _ _ hj)
          exact k4 _ (mem_heirsOf.2 ⟨by omega, e, j, hj, rfl⟩) x hx
      have F1 : ∀ x, x ∈ fresh → (∀ p, p ∈ ((s2.heirsOf a).foldl (fun s h => s.hand c fresh a h) s2).ld a → ((s2.heirsOf a).foldl (fun s h => s.hand c fresh a h) s2).Edge x p) ∧ (∀ q, q ∈ ((s2.heirsOf a).foldl (fun s h => s.hand c fresh a h) s2).sr a → ((s2.heirsOf a).foldl (fun s h => s.hand c fresh a h) s2).Edge q x) := by
        intro x hx
        rw [k2.ld, k2.sr, l2.ld, l2.sr]
        exact ⟨fun p hp => k2.edge ((l3 x hx).1 p hp), fun q hq => k2.edge ((l3 x hx).2 q hq)⟩
      have M := l2.trans k2
      generalize (s2.heirsOf a).foldl (fun s h => s.hand c fresh a h) s2 = s3 at *
      have hnew : ¬ s3.W a → ∀ x, x ∈ s3.tg a → x ∈ s3.hd a ∨ x ∈ fresh := by
        intro hw x hx
        rw [M.hd]
        exact hfr' x ((M.new a x hx).resolve_right hw)
      cases hd : c.deltas
      · simp only [Bool.false_eq_true, if_false]
        refine ⟨k1.unexempt (fun _ hw x hx => ⟨fun e => absurd e (by rw [hd]; simp), fun _ => ?_⟩), M.mea, by omega⟩
        have hxf := (hnew hw x hx).resolve_left (by rw [M.hd, h.hdn hd]; simp)
        exact ⟨F2 x hxf, (F1 x hxf).1, (F1 x hxf).2⟩
      · simp only [if_true]
        obtain ⟨z1, z2⟩ := St.put_mis (s := s3) (F := uniS (s3.hd a) fresh) k1.len ha
        rw [z1, z2]
        refine ⟨k1.putHd hd ha (by rw [M.rep]; exact hra) (fun x hx => ⟨M.tg _ _ (hfr x hx), F2 x hx, (F1 x hx).1, (F1 x hx).2⟩) hnew, M.mea, by omega⟩
    · simp only [if_true]
      rw [hm] at c3 c4
      simp only [if_true] at c3 c4
      have hra' : m.2.rep (m.2.rep a) = m.2.rep a := c1.repi a
      have hla := c1.rlt ha
      have w1 := St.wait_nw m.2 (m.2.rep a)
      have wm : ∀ f, (m.2.wait (m.2.rep a)).mis n f = m.2.mis n f := fun f => by unfold St.mis; rw [St.wait_ss, St.wait_rep]
      have wd : (m.2.wait (m.2.rep a)).dn n = m.2.dn n := St.dn_eq (St.wait_rep _ _)
      have wu := St.wait_un m.2 (m.2.rep a)
      have mm : (m.2.wait (m.2.rep a)).mea n ≤ m.2.mea n + 1 := by unfold St.mea; rw [wm, wd]; omega
      refine ⟨(c1.wait hla hra').exempt (fun i hi e => ?_), by omega, ?_⟩
      · subst e
        rw [St.wait_rep] at hi
        exact .inl ((St.wait_W c1.ins _ _).2 (.inr hi.symm))
      · have := Nat.mul_le_mul_left n mm
        rw [Nat.mul_add, Nat.mul_one] at this
        have e1 : (m.2.wait (m.2.rep a)).pt n ≤ m.2.pt n + n := by unfold St.pt; rw [wm, wd, wu]; omega
        omega

end Go.Proofs.YtiamlbhkiehilaaGreatDoor

namespace Go.Proofs.YtiamlbhkiehilaaGreatDoor

theorem foldO_nil {α β : Type} (f : α → β → Option α) (a : α) : St.foldO f a [] = some a := rfl
theorem foldO_cons {α β : Type} (f : α → β → Option α) (a : α) (x : β) (r : List β) : St.foldO f a (x :: r) = (f a x).bind fun b => St.foldO f b r := rfl

theorem Inv.susp {fs : List (Int × Nat × Nat)} {n : Nat} {c : Way} {E : Nat → Prop} {s : St} (h : Inv fs n c E s) {l : List Nat} (hl : ∀ i, i ∈ l → i < n) : Inv fs n c E { s with susp := l } :=
  { h with sus := hl }

/-- Looks for cycles around one. -/
theorem Inv.lookStep {fs : List (Int × Nat × Nat)} {n : Nat} {c : Way} {E : Nat → Prop} {s : St} (h : Inv fs n c E s) {k a : Nat} (hk : 130 ≤ k) (ha : a < n) : ∃ s', s.lookStep k a = some s' ∧ Inv fs n c E s' ∧ s'.mea n ≤ s.mea n ∧ s'.pt n ≤ s.pt n := by
  have h1 : Inv fs n c E { s with susp := delS a s.susp } := h.susp (fun i hi => h.sus i (mem_delS.1 hi).2.2)
  have hn := h.hn
  unfold St.lookStep
  simp only []
  generalize hs1 : ({ s with susp := delS a s.susp } : St) = s1 at *
  have m1 : s1.mea n = s.mea n := by rw [← hs1]; rfl
  have m2 : s1.pt n = s.pt n := by rw [← hs1]; rfl
  obtain ⟨l, hl⟩ := around_ends (next := s1.heirsOf) (fun x y hy => (mem_heirsOf.1 hy).1) hk a
  rw [hl]
  have hsame := around_same (V := PtN fs) (fun x y hy t ht => (h1.heirs_lt hy).2.2 t ht) hl
  have hbd := around_bd (P := (· < n)) hl ha (fun x y hy => (h1.heirs_lt hy).1)
  obtain ⟨p1, p2, p3, p4⟩ := h1.mergeAll ha (l := l) (fun b hb => ⟨hbd b hb, fun t => (hsame b hb t).symm⟩)
  exact ⟨_, rfl, p1, by show (s1.mergeAll a l).2.mea n ≤ _; omega, by show (s1.mergeAll a l).2.pt n ≤ _; omega⟩

theorem Inv.lookL {fs : List (Int × Nat × Nat)} {n : Nat} {c : Way} {E : Nat → Prop} {k : Nat} (hk : 130 ≤ k) : ∀ (l : List Nat) {s : St}, Inv fs n c E s → (∀ a, a ∈ l → a < n) → ∃ s', St.foldO (St.lookStep k) s l = some s' ∧ Inv fs n c E s' ∧ s'.mea n ≤ s.mea n ∧ s'.pt n ≤ s.pt n := by
  intro l
  induction l with
  | nil => exact fun h _ => ⟨_, rfl, h, Nat.le_refl _, Nat.le_refl _⟩
  | cons a r ih =>
    intro s h hl
    obtain ⟨s1, e1, p1, p2, p3⟩ := h.lookStep hk (hl a List.mem_cons_self)
    obtain ⟨s2, e2, q1, q2, q3⟩ := ih p1 (fun b hb => hl b (List.mem_cons_of_mem _ hb))
    refine ⟨s2, ?_, q1, by omega, by omega⟩
    rw [foldO_cons, e1]
    exact e2

theorem Inv.look {fs : List (Int × Nat × Nat)} {n : Nat} {c : Way} {E : Nat → Prop} {s : St} (h : Inv fs n c E s) {k : Nat} (hk : 130 ≤ k) : ∃ s', s.lookForCycles k = some s' ∧ Inv fs n c E s' ∧ s'.mea n ≤ s.mea n ∧ s'.pt n ≤ s.pt n :=
  Inv.lookL hk s.susp h h.sus

/-- Those that have come get their turn. -/
theorem St.letIn_W (s : St) (o : Int) (i : Nat) : (s.letIn o).W i ↔ s.W i := by
  unfold St.letIn
  split
  · exact Iff.rfl
  · unfold St.W
    simp only [List.not_mem_nil, or_false]
    split
    · rw [List.mem_mergeSort, List.mem_append]
    · rw [List.mem_append]
theorem St.letIn_nw (s : St) (o : Int) : (s.letIn o).nw = s.nw := by
  unfold St.letIn
  split
  · rfl
  · unfold St.nw
    simp only [List.length_nil, Nat.add_zero]
    split
    · rw [List.length_mergeSort, List.length_append]
    · rw [List.length_append]
theorem St.letIn_same (s : St) (o : Int) : (s.letIn o).ss = s.ss ∧ (s.letIn o).rep = s.rep ∧ (s.letIn o).inside = s.inside ∧ (s.letIn o).susp = s.susp ∧ (s.letIn o).un = s.un := by
  unfold St.letIn
  split <;> exact ⟨rfl, rfl, rfl, rfl, rfl⟩
theorem St.letIn_come (s : St) (o : Int) (h : (s.letIn o).now = []) : (s.letIn o).come = [] := by
  unfold St.letIn at h ⊢
  split
  · rename_i hc
    rw [if_pos hc] at h
    rw [h] at hc
    simp at hc
  · rfl

theorem filter_ne_lt {l : List Nat} {a : Nat} (h : a ∈ l) : (l.filter (· != a)).length < l.length := by
  have := filter_len_lt l (· != a) (fun _ => true) (fun _ _ _ => rfl) h (by simp) rfl
  rwa [List.filter_eq_self.2 (fun _ _ => rfl)] at this

theorem Inv.same_as {fs : List (Int × Nat × Nat)} {n : Nat} {c : Way} {E E' : Nat → Prop} {s s' : St} (h : Inv fs n c E s) (e1 : s'.ss = s.ss) (e2 : s'.rep = s.rep) (e3 : s'.susp = s.susp) (hins : ∀ i, i ∈ s'.inside ↔ s'.W i) (hw : ∀ i, s'.W i → s.W i) (hE : ∀ i, s.W i ∨ E i → s'.W i ∨ E' i) : Inv fs n c E' s' := by
  obtain ⟨ss, rep, inside, now, come, susp, un⟩ := s'
  simp only at e1 e2 e3
  subst e1 e2 e3
  refine ⟨h.hn, h.fsb, h.len, h.repl, h.repi, h.same, h.bd, h.gone, h.tg, h.hdt, h.hdn, h.hr, h.ld, h.sr, h.tw, h.cA, h.cC, h.cL, h.cS, hins, fun i hi => h.wst i (hw i hi), h.sus, ?_, ?_⟩
  · exact fun i hi hx hc => h.all i hi (fun hw' => hx (hE i hw')) hc
  · intro i x hi hxt hcond
    refine h.done i x hi hxt ?_
    split
    · rename_i hc
      rw [if_pos hc] at hcond
      exact hcond
    · rename_i hc
      rw [if_neg hc] at hcond
      exact fun hw' => hcond (hE i hw')

/-- Whose turn it is. -/
theorem Inv.next {fs : List (Int × Nat × Nat)} {n : Nat} {c : Way} {s : St} (h : Inv fs n c (fun _ => False) s) (o : Int) :
    (∃ s', s.next o = (none, s') ∧ Inv fs n c (fun _ => False) s' ∧ (∀ i, ¬ s'.W i) ∧ s'.pt n = s.pt n) ∨
    (∃ a s', s.next o = (some a, s') ∧ Inv fs n c (· = a) s' ∧ a < n ∧ s'.rep a = a ∧ s'.mea n + 1 ≤ s.mea n ∧ s'.pt n + n ≤ s.pt n) := by
  obtain ⟨e1, e2, e3, e4, e5⟩ := St.letIn_same s o
  have eW := St.letIn_W s o
  have en := St.letIn_nw s o
  have ec := St.letIn_come s o
  have key : s.next o = (match (s.letIn o).now with | [] => (none, s.letIn o) | x :: r => (some (if o == 1 then (x :: r).getLastD 0 else x), (s.letIn o).drop (if o == 1 then (x :: r).getLastD 0 else x))) := by
    unfold St.next
    rfl
  rw [key]
  generalize s.letIn o = s1 at *
  have m0 : ∀ f, s1.mis n f = s.mis n f := fun f => by unfold St.mis; rw [e1, e2]
  have md : s1.dn n = s.dn n := St.dn_eq e2
  have mm : s1.mea n = s.mea n := by unfold St.mea; rw [m0, md, en]
  have mp : s1.pt n = s.pt n := by unfold St.pt; rw [m0, md, mm, e5]
  have hins1 : ∀ i, i ∈ s1.inside ↔ s1.W i := fun i => by rw [e3, eW]; exact h.ins i
  cases hnow : s1.now with
  | nil =>
    refine .inl ⟨s1, rfl, h.same_as e1 e2 e4 hins1 (fun i hi => (eW i).1 hi) (fun i hi => hi.imp (eW i).2 id), ?_, mp⟩
    intro i hi
    unfold St.W at hi
    rw [hnow, ec hnow] at hi
    rcases hi with hi | hi <;> cases hi
  | cons x r =>
    refine .inr ⟨_, _, rfl, ?_⟩
    have hmem : (if o == 1 then (x :: r).getLastD 0 else x) ∈ s1.now := by
      rw [hnow]
      split
      · rw [List.getLastD_eq_getLast?, List.getLast?_eq_some_getLast (by simp)]
        exact List.getLast_mem _
      · exact List.mem_cons_self
    generalize (if o == 1 then (x :: r).getLastD 0 else x) = a at hmem
    have hwa : s.W a := (eW a).1 (.inl hmem)
    obtain ⟨ha, hra⟩ := h.wst a hwa
    have dW : ∀ i, (s1.drop a).W i ↔ s1.W i ∧ i ≠ a := by
      intro i
      unfold St.W St.drop
      simp only [List.mem_filter, bne_iff_ne]
      constructor
      · rintro (⟨p, q⟩ | ⟨p, q⟩)
        · exact ⟨.inl p, q⟩
        · exact ⟨.inr p, q⟩
      · rintro ⟨p | p, q⟩
        · exact .inl ⟨p, q⟩
        · exact .inr ⟨p, q⟩
    have dins : ∀ i, i ∈ (s1.drop a).inside ↔ (s1.drop a).W i := by
      intro i
      rw [dW]
      show i ∈ delS a s1.inside ↔ _
      rw [mem_delS, hins1]
      constructor
      · rintro ⟨_, p, q⟩
        exact ⟨q, p⟩
      · rintro ⟨q, p⟩
        exact ⟨h.w128 i ((eW i).1 q), p, q⟩
    have dn : (s1.drop a).nw + 1 ≤ s1.nw := by
      unfold St.nw St.drop
      have := filter_ne_lt hmem
      have := filter_ne_len s1.come a
      simp only
      omega
    have d0 : ∀ f, (s1.drop a).mis n f = s1.mis n f := fun f => rfl
    have dd : (s1.drop a).dn n = s1.dn n := rfl
    have dm : (s1.drop a).mea n + 1 ≤ s.mea n := by rw [← mm]; unfold St.mea; rw [d0, dd]; omega
    refine ⟨h.same_as e1 e2 e4 dins (fun i hi => (eW i).1 ((dW i).1 hi).1) ?_, ha, by show s1.rep a = a; rw [e2]; exact hra, dm, ?_⟩
    · rintro i (hi | hi)
      · by_cases e : i = a
        · exact .inr e
        · exact .inl ((dW i).2 ⟨(eW i).2 hi, e⟩)
      · exact hi.elim
    · have := Nat.mul_le_mul_left n dm
      rw [Nat.mul_add, Nat.mul_one] at this
      have e6 : (s1.drop a).un = s1.un := rfl
      rw [← mp]
      unfold St.pt
      rw [d0, dd, e6]
      rw [mm]
      omega

/-- It ends, with nothing that waits. -/
theorem Inv.solveL {fs : List (Int × Nat × Nat)} {n : Nat} {c : Way} {k : Nat} (hk : 130 ≤ k) : ∀ (j : Nat) {s : St}, Inv fs n c (fun _ => False) s → s.mea n < j → ∃ s', St.solveL k c j s = some s' ∧ Inv fs n c (fun _ => False) s' ∧ (∀ i, ¬ s'.W i) ∧ s'.pt n ≤ s.pt n := by
  intro j
  induction j with
  | zero => intro s _ hj; omega
  | succ j ih =>
    intro s h hj
    rcases h.next c.order with ⟨s', e, p1, p2, p3⟩ | ⟨a, s', e, p1, p2, p3, p4, p5⟩
    · refine ⟨s', ?_, p1, p2, by omega⟩
      rw [St.solveL, e]
    · obtain ⟨q1, q2, q3⟩ := p1.work p2 p3
      obtain ⟨s2, e2, r1, r2, r3⟩ := q1.look hk
      obtain ⟨s3, e3, t1, t2, t3⟩ := ih r1 (by omega)
      refine ⟨s3, ?_, t1, t2, by omega⟩
      rw [St.solveL, e]
      simp only []
      rw [e2]
      exact e3

/-- Where nothing waits, what is known is the solution. -/
theorem Inv.solved {fs : List (Int × Nat × Nat)} {n : Nat} {c : Way} {s : St} (h : Inv fs n c (fun _ => False) s) (hw : ∀ i, ¬ s.W i) (i x : Nat) : x ∈ s.tg (s.rep i) ↔ PtN fs i x := by
  constructor
  · intro hx
    exact (h.same i x).1 (h.tg _ _ hx)
  · have done : ∀ i x, x ∈ s.tg (s.rep i) → (∀ j, j ∈ s.hr (s.rep i) → x ∈ s.tg (s.rep j)) ∧ (∀ p, p ∈ s.ld (s.rep i) → s.Edge x p) ∧ (∀ q, q ∈ s.sr (s.rep i) → s.Edge q x) := by
      intro i x hx
      refine h.done _ x (h.repi i) hx ?_
      split
      · rename_i hc
        exact h.all _ (h.repi i) (fun hw' => hw'.elim (hw _) id) hc x hx
      · exact fun hw' => hw'.elim (hw _) id
    have edge : ∀ t p x, s.Edge t p → x ∈ s.tg (s.rep t) → x ∈ s.tg (s.rep p) := by
      rintro t p x (e | ⟨j, hj, e⟩) hx
      · rw [← e]; exact hx
      · rw [← e]; exact (done t x hx).1 j hj
    intro hx
    induction hx using PtN.ind with
    | addr hf => exact h.cA _ _ hf
    | copy hf _ ih => exact (done _ _ ih).1 _ (h.cC _ _ hf)
    | load hf _ _ ih1 ih2 => exact edge _ _ _ ((done _ _ ih1).2.1 _ (h.cL _ _ hf)) ih2
    | store hf _ _ ih1 ih2 => exact edge _ _ _ ((done _ _ ih1).2.2 _ (h.cS _ _ hf)) ih2

end Go.Proofs.YtiamlbhkiehilaaGreatDoor

namespace Go.Proofs.YtiamlbhkiehilaaGreatDoor

/-! Twins -/
theorem Inv.putTw {fs : List (Int × Nat × Nat)} {n : Nat} {c : Way} {E : Nat → Prop} {s : St} (h : Inv fs n c E s) {i : Nat} (hi : i < n) (hri : s.rep i = i) {T : List Nat} (hT : ∀ u, u ∈ T → u < n ∧ ∀ x, PtN fs i x → ∀ t, PtN fs x t ↔ PtN fs u t) :
    Inv fs n c E (s.put (7 * i + 5) T) ∧ (s.put (7 * i + 5) T).mea n = s.mea n ∧ (s.put (7 * i + 5) T).pt n = s.pt n := by
  have e : ∀ k, (s.put (7 * i + 5) T).ss.getD k [] = if k = 7 * i + 5 then T else s.ss.getD k [] := fun k => St.put_get (by rw [h.len]; omega) k
  have m : ∀ f, f < 5 → (s.put (7 * i + 5) T).mis n f = s.mis n f := by
    intro f hf
    unfold St.mis
    congr 1
    funext j
    have e1 : (s.put (7 * i + 5) T).ss.getD (7 * j + f) [] = s.ss.getD (7 * j + f) [] := by rw [e, if_neg (by omega)]
    rw [e1]
    rfl
  have m0 := m 0 (by omega)
  have m2 := m 2 (by omega)
  have md : (s.put (7 * i + 5) T).dn n = s.dn n := rfl
  have mn : (s.put (7 * i + 5) T).nw = s.nw := rfl
  have mu : (s.put (7 * i + 5) T).un = s.un := rfl
  have mm : (s.put (7 * i + 5) T).mea n = s.mea n := by unfold St.mea; rw [m0, md, mn]
  refine ⟨?_, mm, by unfold St.pt; rw [mm, m2, md, mu]⟩
  generalize hs' : s.put (7 * i + 5) T = s' at e
  have hrep : s'.rep = s.rep := by rw [← hs']; rfl
  have etg : ∀ j, s'.tg j = s.tg j := fun j => by unfold St.tg; rw [e, if_neg (by omega)]
  have ehd : ∀ j, s'.hd j = s.hd j := fun j => by unfold St.hd; rw [e, if_neg (by omega)]
  have ehr : ∀ j, s'.hr j = s.hr j := fun j => by unfold St.hr; rw [e, if_neg (by omega)]
  have eld : ∀ j, s'.ld j = s.ld j := fun j => by unfold St.ld; rw [e, if_neg (by omega)]
  have esr : ∀ j, s'.sr j = s.sr j := fun j => by unfold St.sr; rw [e, if_neg (by omega)]
  have hW : ∀ j, s'.W j ↔ s.W j := by rw [← hs']; exact fun _ => Iff.rfl
  have edge : ∀ t p, s'.Edge t p ↔ s.Edge t p := fun t p => by unfold St.Edge; rw [hrep, ehr]
  refine ⟨h.hn, h.fsb, (by rw [← hs', St.put_len]; exact h.len), (by rw [hrep]; exact h.repl), (by rw [hrep]; exact h.repi), (by rw [hrep]; exact h.same), ?_, ?_, (by intro j; rw [etg]; exact h.tg j), (by intro j; rw [etg, ehd]; exact h.hdt j), (by intro hc j; rw [ehd]; exact h.hdn hc j), (by intro j; rw [ehr]; exact h.hr j), (by intro j; rw [eld]; exact h.ld j), (by intro j; rw [esr]; exact h.sr j), ?_,
    (by intro p q hf; rw [hrep, etg]; exact h.cA p q hf), (by intro p q hf; rw [hrep, ehr]; exact h.cC p q hf), (by intro p q hf; rw [hrep, eld]; exact h.cL p q hf), (by intro p q hf; rw [hrep, esr]; exact h.cS p q hf), (by rw [← hs']; exact h.ins), (by intro j hj; rw [hrep]; exact h.wst j ((hW j).1 hj)), (by rw [← hs']; exact h.sus), ?_, ?_⟩
  · intro k x hx
    rw [e] at hx
    split at hx
    · exact (hT x hx).1
    · exact h.bd _ _ hx
  · intro j f hj hf
    rw [hrep] at hj
    have hne : j ≠ i := fun e2 => hj (by rw [e2]; exact hri)
    rw [e, if_neg (by omega)]
    exact h.gone j f hj hf
  · intro j u hu x hx t
    have hu : u ∈ s'.ss.getD (7 * j + 5) [] := hu
    rw [e] at hu
    split at hu
    · rename_i e2
      have : j = i := by omega
      subst this
      exact (hT u hu).2 x hx t
    · exact h.tw j u hu x hx t
  · intro j hj hx hc x hxt
    rw [hrep] at hj
    rw [etg] at hxt
    rw [ehd]
    exact h.all j hj (fun hw => hx (hw.imp (hW j).2 id)) hc x hxt
  · intro j x hj hxt hcond
    rw [hrep] at hj
    rw [etg] at hxt
    rw [ehd, hW] at hcond
    obtain ⟨k1, k2, k3⟩ := h.done j x hj hxt hcond
    refine ⟨?_, ?_, ?_⟩
    · intro y hy
      rw [ehr] at hy
      rw [hrep, etg]
      exact k1 y hy
    · intro p hp
      rw [eld] at hp
      exact (edge _ _).2 (k2 p hp)
    · intro q hq
      rw [esr] at hq
      exact (edge _ _).2 (k3 q hq)

theorem Inv.twinsOf {fs : List (Int × Nat × Nat)} {n : Nat} {c : Way} {E : Nat → Prop} {s : St} (h : Inv fs n c E s) {k i : Nat} (hk : 130 ≤ k) : ∃ T, s.twinsOf k n i = some T ∧ ∀ u, u ∈ T → u < n ∧ ∀ x, PtN fs i x → ∀ t, PtN fs x t ↔ PtN fs u t := by
  have hn := h.hn
  unfold St.twinsOf
  simp only []
  obtain ⟨nx, hnx⟩ : ∃ nx, nx = fun m => if m == n then s.standing (s.ld i) else if (s.standing (s.sr i)).contains m then addS n (s.heirsOf m) else s.heirsOf m := ⟨_, rfl⟩
  rw [← hnx]
  have hstep : ∀ m y, y ∈ nx m → (m = n ∧ y ∈ s.standing (s.ld i)) ∨ (m ≠ n ∧ y = n ∧ m ∈ s.standing (s.sr i)) ∨ (m ≠ n ∧ y ∈ s.heirsOf m) := by
    intro m y hy
    rw [hnx] at hy
    simp only [beq_iff_eq, List.contains_iff_mem] at hy
    split at hy
    · exact .inl ⟨by assumption, hy⟩
    · split at hy
      · rcases (mem_addS.1 hy).2 with rfl | hy
        · exact .inr (.inl ⟨by assumption, rfl, by assumption⟩)
        · exact .inr (.inr ⟨by assumption, hy⟩)
      · exact .inr (.inr ⟨by assumption, hy⟩)
  have hle : ∀ m y, y ∈ nx m → y ≤ n := by
    intro m y hy
    rcases hstep m y hy with ⟨_, hy⟩ | ⟨_, rfl, _⟩ | ⟨_, hy⟩
    · exact Nat.le_of_lt (h.standing_lt (k := 7 * i + 3) hy).1
    · exact Nat.le_refl _
    · exact Nat.le_of_lt (h.heirs_lt hy).1
  obtain ⟨l, hl⟩ := around_ends (next := nx) (fun m y hy => by have := hle m y hy; omega) hk n
  rw [hl]
  refine ⟨_, rfl, ?_⟩
  intro u hu
  obtain ⟨_, hun, hu⟩ := mem_delS.1 hu
  have hule := around_bd (P := (· ≤ n)) hl (Nat.le_refl _) hle u hu
  refine ⟨by omega, fun x hx t => ?_⟩
  have := around_same (V := fun m t => if m = n then PtN fs x t else PtN fs m t) (next := nx) (fun m y hy t ht => ?_) hl u hu t
  · simp only [hun, if_false, if_true] at this
    exact this.symm
  · rcases hstep m y hy with ⟨rfl, hy⟩ | ⟨hm, rfl, hy⟩ | ⟨hm, hy⟩
    · simp only [if_true] at ht
      have hyn := (h.standing_lt (k := 7 * i + 3) hy).1
      rw [if_neg (by omega)]
      obtain ⟨_, p, hp, rfl⟩ := mem_standing.1 hy
      exact (h.same p t).2 (h.ld i p hp x t hx ht)
    · rw [if_neg hm] at ht
      simp only [if_true]
      obtain ⟨_, q, hq, rfl⟩ := mem_standing.1 hy
      exact h.sr i q hq x t hx ((h.same q t).1 ht)
    · rw [if_neg hm] at ht
      obtain ⟨q1, q2, q3⟩ := h.heirs_lt hy
      rw [if_neg (by omega)]
      exact q3 t ht

theorem Inv.all_lt {fs : List (Int × Nat × Nat)} {n : Nat} {c : Way} {E : Nat → Prop} {s : St} (h : Inv fs n c E s) {i : Nat} : i ∈ s.all n ↔ i < n ∧ s.rep i = i := by
  have hn := h.hn
  unfold St.all
  rw [mem_standing]
  constructor
  · rintro ⟨_, x, hx, rfl⟩
    exact ⟨h.rlt (by simpa using hx), h.repi x⟩
  · rintro ⟨h1, h2⟩
    exact ⟨by omega, i, by simpa using h1, h2⟩

theorem Inv.twinsL {fs : List (Int × Nat × Nat)} {n : Nat} {c : Way} {E : Nat → Prop} {k : Nat} (hk : 130 ≤ k) : ∀ (l : List Nat) {s : St}, Inv fs n c E s → (∀ i, i ∈ l → i < n ∧ s.rep i = i) → ∃ s', St.foldO (fun s i => (s.twinsOf k n i).map fun t => s.put (7 * i + 5) t) s l = some s' ∧ Inv fs n c E s' ∧ s'.mea n = s.mea n ∧ s'.pt n = s.pt n := by
  intro l
  induction l with
  | nil => exact fun h _ => ⟨_, rfl, h, rfl, rfl⟩
  | cons a r ih =>
    intro s h hl
    obtain ⟨a1, a2⟩ := hl a List.mem_cons_self
    obtain ⟨T, e1, hT⟩ := h.twinsOf (i := a) hk
    obtain ⟨p1, p2, p3⟩ := h.putTw a1 a2 hT
    obtain ⟨s2, e2, q1, q2, q3⟩ := ih p1 (fun b hb => hl b (List.mem_cons_of_mem _ hb))
    refine ⟨s2, ?_, q1, by omega, by omega⟩
    rw [foldO_cons, e1]
    exact e2

theorem Inv.findTwins {fs : List (Int × Nat × Nat)} {n : Nat} {c : Way} {E : Nat → Prop} {s : St} (h : Inv fs n c E s) {k : Nat} (hk : 130 ≤ k) : ∃ s', s.findTwins k n = some s' ∧ Inv fs n c E s' ∧ s'.mea n = s.mea n ∧ s'.pt n = s.pt n :=
  Inv.twinsL hk _ h (fun _ hi => h.all_lt.1 hi)

/-! Parts -/
/-- What a part stands for. -/
def PV (fs : List (Int × Nat × Nat)) (n : Nat) (s : St) (x t : Nat) : Prop :=
  (x < n ∧ t = x) ∨ (∃ p q y, ((4 : Int), p, q) ∈ fs ∧ PtN fs p y ∧ x = n + s.rep y ∧ PtN fs q t) ∨ (2 * n ≤ x ∧ ∃ y, PtN fs (x - 2 * n) y ∧ PtN fs y t)

structure Ps (fs : List (Int × Nat × Nat)) (n : Nat) (s : St) (ps : List (List Nat)) : Prop where
  len : ps.length = n
  bd : ∀ i x, x ∈ ps.getD i [] → x < 3 * n
  snd : ∀ i x t, x ∈ ps.getD i [] → PV fs n s x t → PtN fs i t

def psM (n : Nat) (ps : List (List Nat)) : Nat := sumN n fun i => 3 * n - cnt (3 * n) (ps.getD i [])

theorem ps_set {ps : List (List Nat)} {i : Nat} {t : List Nat} (hi : i < ps.length) (j : Nat) : (ps.set i t).getD j [] = if j = i then t else ps.getD j [] := by
  simp only [List.getD_eq_getElem?_getD]
  by_cases h : j = i
  · subst h; simp [hi]
  · rw [List.getElem?_set_ne (Ne.symm h)]; simp [h]

/-- A set of parts grows. -/
theorem Ps.grow {fs : List (Int × Nat × Nat)} {n : Nat} {s : St} {ps : List (List Nat)} (h : Ps fs n s ps) {i : Nat} (hi : i < n) {T : List Nat} (h1 : ∀ x, x ∈ T → x < 3 * n) (h2 : ∀ x t, x ∈ T → PV fs n s x t → PtN fs i t) : Ps fs n s (ps.set i T) := by
  have e := fun j => ps_set (t := T) (by rw [h.len]; exact hi : i < ps.length) j
  refine ⟨by rw [List.length_set]; exact h.len, fun j x hx => ?_, fun j x t hx hv => ?_⟩
  · rw [e] at hx
    split at hx
    · exact h1 x hx
    · exact h.bd j x hx
  · rw [e] at hx
    split at hx
    · rename_i e2
      subst e2
      exact h2 x t hx hv
    · exact h.snd j x t hx hv

theorem psM_le {n : Nat} {ps ps' : List (List Nat)} (h : ∀ i x, x ∈ ps.getD i [] → x ∈ ps'.getD i []) : psM n ps' ≤ psM n ps := by
  refine sumN_le fun i _ => ?_
  have := cnt_mono (n := 3 * n) (h i)
  omega
theorem psM_lt {n : Nat} {ps ps' : List (List Nat)} (h : ∀ i x, x ∈ ps.getD i [] → x ∈ ps'.getD i []) {j x : Nat} (hj : j < n) (hx : x < 3 * n) (h1 : x ∉ ps.getD j []) (h2 : x ∈ ps'.getD j []) : psM n ps' < psM n ps := by
  refine sumN_lt (fun i _ => ?_) hj ?_
  · have := cnt_mono (n := 3 * n) (h i)
    omega
  · have := cnt_lt (n := 3 * n) (h j) hx h1 h2
    have := acnt_le (3 * n) (ps'.getD j [])
    omega

/-- A step of the parts: f: has something come? -/
structure PStep (fs : List (Int × Nat × Nat)) (n : Nat) (s : St) (ps : List (List Nat)) (f : Bool) (ps' : List (List Nat)) : Prop where
  ok : Ps fs n s ps'
  up : ∀ i x, x ∈ ps.getD i [] → x ∈ ps'.getD i []
  no : f = false → ∀ i x, x ∈ ps'.getD i [] → x ∈ ps.getD i []
  m : psM n ps' + (if f then 1 else 0) ≤ psM n ps

theorem PStep.refl {fs : List (Int × Nat × Nat)} {n : Nat} {s : St} {ps : List (List Nat)} (h : Ps fs n s ps) : PStep fs n s ps false ps := ⟨h, fun _ _ h => h, fun _ _ _ h => h, by simp⟩
theorem PStep.trans {fs : List (Int × Nat × Nat)} {n : Nat} {s : St} {a b c : List (List Nat)} {f g : Bool} (h : PStep fs n s a f b) (k : PStep fs n s b g c) : PStep fs n s a (g || f) c := by
  refine ⟨k.ok, fun i x hx => k.up i x (h.up i x hx), fun e i x hx => ?_, ?_⟩
  · rw [Bool.or_eq_false_iff] at e
    exact h.no e.2 i x (k.no e.1 i x hx)
  · have h1 := h.m
    have h2 := k.m
    cases f <;> cases g <;> simp at * <;> omega

theorem PStep.set {fs : List (Int × Nat × Nat)} {n : Nat} {s : St} {ps : List (List Nat)} (h : Ps fs n s ps) {i : Nat} (hi : i < n) {T : List Nat} (h1 : ∀ x, x ∈ T → x < 3 * n) (h2 : ∀ x t, x ∈ T → PV fs n s x t → PtN fs i t) (h3 : ∀ x, x ∈ ps.getD i [] → x ∈ T) {f : Bool} (h4 : f = false → ∀ x, x ∈ T → x ∈ ps.getD i []) (h5 : f = true → ∃ x, x ∈ T ∧ x ∉ ps.getD i []) : PStep fs n s ps f (ps.set i T) := by
  have e := fun j => ps_set (t := T) (by rw [h.len]; exact hi : i < ps.length) j
  have up : ∀ j x, x ∈ ps.getD j [] → x ∈ (ps.set i T).getD j [] := by
    intro j x hx
    rw [e]
    split
    · rename_i e2
      subst e2
      exact h3 x hx
    · exact hx
  refine ⟨h.grow hi h1 h2, up, fun hf j x hx => ?_, ?_⟩
  · rw [e] at hx
    split at hx
    · rename_i e2
      subst e2
      exact h4 hf x hx
    · exact hx
  · cases hf : f
    · have := psM_le (n := n) up
      simp
      omega
    · obtain ⟨x, hx, hx'⟩ := h5 hf
      have := psM_lt (n := n) up hi (h1 x hx) hx' (by rw [e, if_pos rfl]; exact hx)
      simp
      omega

end Go.Proofs.YtiamlbhkiehilaaGreatDoor

namespace Go.Proofs.YtiamlbhkiehilaaGreatDoor

variable {fs : List (Int × Nat × Nat)} {n : Nat} {c : Way} {E : Nat → Prop} {s : St}

theorem mem_add_self {ps : List (List Nat)} {i x : Nat} (hx : x < 128) (hi : i < ps.length) : x ∈ (St.partAdd ps i x).getD i [] := by
  unfold St.partAdd
  rw [ps_set hi, if_pos rfl]
  exact mem_addS.2 ⟨hx, .inl rfl⟩
theorem mem_add_old {ps : List (List Nat)} {i x j y : Nat} (hi : i < ps.length) (hy : y < 128) (h : y ∈ ps.getD j []) : y ∈ (St.partAdd ps i x).getD j [] := by
  unfold St.partAdd
  rw [ps_set hi]
  split
  · rename_i e
    subst e
    exact mem_addS.2 ⟨hy, .inr h⟩
  · exact h

/-- One part more. -/
theorem PStep.add {ps : List (List Nat)} (h : Ps fs n s ps) (hn : n ≤ 40) {i x : Nat} (hi : i < n) (hx : x < 3 * n) (hv : ∀ t, PV fs n s x t → PtN fs i t) : PStep fs n s ps (!(ps.getD i []).contains x) (St.partAdd ps i x) := by
  refine PStep.set h hi ?_ ?_ ?_ ?_ ?_
  · intro y hy
    rcases (mem_addS.1 hy).2 with rfl | hy
    · exact hx
    · exact h.bd _ _ hy
  · intro y t hy hpv
    rcases (mem_addS.1 hy).2 with rfl | hy
    · exact hv t hpv
    · exact h.snd _ _ _ hy hpv
  · intro y hy
    have := h.bd _ _ hy
    exact mem_addS.2 ⟨by omega, .inr hy⟩
  · intro hf y hy
    simp only [Bool.not_eq_false', List.contains_iff_mem] at hf
    rcases (mem_addS.1 hy).2 with rfl | hy
    · exact hf
    · exact hy
  · intro hf
    simp only [Bool.not_eq_true', List.contains_eq_mem, decide_eq_false_iff_not] at hf
    exact ⟨x, mem_addS.2 ⟨by omega, .inl rfl⟩, hf⟩

/-- A set of parts goes over. -/
theorem PStep.uni {ps : List (List Nat)} (h : Ps fs n s ps) (hn : n ≤ 40) {i j : Nat} (hi : i < n) (hS : ∀ t, PtN fs j t → PtN fs i t) : PStep fs n s ps (newS (ps.getD i []) (ps.getD j [])) (ps.set i (uniS (ps.getD i []) (ps.getD j []))) := by
  refine PStep.set h hi ?_ ?_ ?_ ?_ ?_
  · intro y hy
    rcases (mem_uniS.1 hy).2 with hy | hy <;> exact h.bd _ _ hy
  · intro y t hy hpv
    rcases (mem_uniS.1 hy).2 with hy | hy
    · exact h.snd _ _ _ hy hpv
    · exact hS t (h.snd _ _ _ hy hpv)
  · intro y hy
    have := h.bd _ _ hy
    exact mem_uniS.2 ⟨by omega, .inl hy⟩
  · intro hf y hy
    rcases (mem_uniS.1 hy).2 with hy | hy
    · exact hy
    · exact newS_false.1 hf y hy
  · intro hf
    obtain ⟨x, hx, hx'⟩ := newS_iff.1 hf
    have := h.bd _ _ hx
    exact ⟨x, mem_uniS.2 ⟨by omega, .inr hx⟩, hx'⟩


/-- At first: addresses, and what may be stored. -/
theorem Inv.parts0 (h : Inv fs n c E s) : Ps fs n s (s.parts0 n) ∧ ∀ i x, i < n → x ∈ s.tg i → x ∈ (s.parts0 n).getD i [] ∧ n + s.rep x ∈ (s.parts0 n).getD (s.rep x) [] := by
  have hn := h.hn
  have inner : ∀ (i : Nat), i < n → ∀ (l : List Nat), (∀ x, x ∈ l → x ∈ s.tg i) → ∀ (ps : List (List Nat)), Ps fs n s ps →
      let ps' := l.foldl (fun ps t => St.partAdd (St.partAdd ps i t) (s.rep t) (n + s.rep t)) ps
      Ps fs n s ps' ∧ (∀ j x, x ∈ ps.getD j [] → x ∈ ps'.getD j []) ∧ ∀ x, x ∈ l → x ∈ ps'.getD i [] ∧ n + s.rep x ∈ ps'.getD (s.rep x) [] := by
    intro i hi l
    induction l with
    | nil => exact fun _ ps hp => ⟨hp, fun _ _ hx => hx, fun x hx => by cases hx⟩
    | cons a r ih =>
      intro hl ps hp
      have hat := hl a List.mem_cons_self
      have han := h.bd _ _ hat
      have hra := h.rlt han
      have s1 := PStep.add hp hn hi (x := a) (by omega) (fun t hv => by
        rcases hv with ⟨_, rfl⟩ | ⟨p, q, y, _, _, e, _⟩ | ⟨e, _⟩
        · exact h.tg _ _ hat
        · omega
        · omega)
      have s2 := PStep.add s1.ok hn hra (x := n + s.rep a) (by omega) (fun t hv => by
        rcases hv with ⟨e, _⟩ | ⟨p, q, y, hf, hy, e, ht⟩ | ⟨e, _⟩
        · omega
        · have e2 : s.rep y = s.rep a := by omega
          rw [← e2]
          exact (h.same y t).2 (PtN.store hf hy ht)
        · omega)
      obtain ⟨p1, p2, p3⟩ := ih (fun x hx => hl x (List.mem_cons_of_mem _ hx)) _ s2.ok
      refine ⟨p1, fun j x hx => p2 j x (s2.up j x (s1.up j x hx)), fun x hx => ?_⟩
      rcases List.mem_cons.1 hx with rfl | hx
      · exact ⟨p2 _ _ (s2.up _ _ (mem_add_self (by omega) (by rw [hp.len]; exact hi))), p2 _ _ (mem_add_self (by omega) (by rw [s1.ok.len]; exact hra))⟩
      · exact p3 x hx
  have outer : ∀ m, m ≤ n →
      let ps' := (List.range m).foldl (fun ps i => (s.tg i).foldl (fun ps t => St.partAdd (St.partAdd ps i t) (s.rep t) (n + s.rep t)) ps) (List.replicate n [])
      Ps fs n s ps' ∧ ∀ i x, i < m → x ∈ s.tg i → x ∈ ps'.getD i [] ∧ n + s.rep x ∈ ps'.getD (s.rep x) [] := by
    intro m
    induction m with
    | zero =>
      intro _
      refine ⟨⟨by simp, ?_, ?_⟩, fun i x hi => by omega⟩
      · intro i x hx
        simp only [List.range_zero, List.foldl_nil, List.getD_eq_getElem?_getD, List.getElem?_replicate] at hx
        split at hx <;> simp at hx
      · intro i x t hx
        simp only [List.range_zero, List.foldl_nil, List.getD_eq_getElem?_getD, List.getElem?_replicate] at hx
        split at hx <;> simp at hx
    | succ m ih =>
      intro hm
      obtain ⟨p1, p2⟩ := ih (by omega)
      rw [List.range_succ, List.foldl_append]
      simp only [List.foldl_cons, List.foldl_nil]
      obtain ⟨q1, q2, q3⟩ := inner m (by omega) (s.tg m) (fun _ hx => hx) _ p1
      refine ⟨q1, fun i x hi hx => ?_⟩
      by_cases e : i = m
      · subst e
        exact q3 x hx
      · obtain ⟨r1, r2⟩ := p2 i x (by omega) hx
        exact ⟨q2 _ _ r1, q2 _ _ r2⟩
  obtain ⟨p1, p2⟩ := outer n (Nat.le_refl _)
  exact ⟨p1, p2⟩

/-- What must hold at one, when nothing more comes. -/
def Shut (n : Nat) (s : St) (ps : List (List Nat)) (i : Nat) : Prop := ps.getD i [] ≠ [] → (∀ h, h ∈ s.heirsOf i → ∀ x, x ∈ ps.getD i [] → x ∈ ps.getD h []) ∧ (∀ p, p ∈ s.standing (s.ld i) → 2 * n + i ∈ ps.getD p [])

theorem Shut.of {ps ps' : List (List Nat)} {i : Nat} (h : Shut n s ps' i) (h1 : ∀ j x, x ∈ ps.getD j [] ↔ x ∈ ps'.getD j []) : Shut n s ps i := by
  intro hne
  have hne' : ps'.getD i [] ≠ [] := by
    obtain ⟨x, hx⟩ := List.exists_mem_of_ne_nil _ hne
    exact List.ne_nil_of_mem ((h1 i x).1 hx)
  obtain ⟨k1, k2⟩ := h hne'
  exact ⟨fun j hj x hx => (h1 j x).2 (k1 j hj x ((h1 i x).1 hx)), fun p hp => (h1 p _).2 (k2 p hp)⟩

theorem Inv.handParts (h : Inv fs n c E s) {ps : List (List Nat)} (hp : Ps fs n s ps) {i : Nat} (hi : i < n) :
    PStep fs n s ps (s.handParts ps i (2 * n + i)).1 (s.handParts ps i (2 * n + i)).2 ∧ ((s.handParts ps i (2 * n + i)).1 = false → Shut n s ps i) := by
  have hn := h.hn
  unfold St.handParts
  by_cases he : (ps.getD i []).isEmpty = true
  · rw [if_pos he]
    refine ⟨PStep.refl hp, fun _ hne => absurd (by simpa using he) hne⟩
  · rw [if_neg he]
    simp only []
    have k1 : ∀ (l : List Nat), (∀ j, j ∈ l → j < n ∧ ∀ t, PtN fs i t → PtN fs j t) → ∀ (x : Bool × List (List Nat)), PStep fs n s ps x.1 x.2 →
        let z := l.foldl (fun x h => (newS (x.2.getD h []) (x.2.getD i []) || x.1, x.2.set h (uniS (x.2.getD h []) (x.2.getD i [])))) x
        PStep fs n s ps z.1 z.2 ∧ (z.1 = false → x.1 = false ∧ ∀ j, j ∈ l → ∀ y, y ∈ ps.getD i [] → y ∈ ps.getD j []) := by
      intro l
      induction l with
      | nil => exact fun _ x hx => ⟨hx, fun e => ⟨e, fun j hj => by cases hj⟩⟩
      | cons a r ih =>
        intro hl x hx
        obtain ⟨a1, a2⟩ := hl a List.mem_cons_self
        obtain ⟨p1, p2⟩ := ih (fun j hj => hl j (List.mem_cons_of_mem _ hj)) (newS (x.2.getD a []) (x.2.getD i []) || x.1, x.2.set a (uniS (x.2.getD a []) (x.2.getD i []))) (hx.trans (PStep.uni hx.ok hn a1 a2))
        refine ⟨p1, fun e => ?_⟩
        obtain ⟨q1, q2⟩ := p2 e
        simp only [Bool.or_eq_false_iff] at q1
        refine ⟨q1.2, fun j hj y hy => ?_⟩
        rcases List.mem_cons.1 hj with rfl | hj
        · exact hx.no q1.2 _ _ (newS_false.1 q1.1 y (hx.up _ _ hy))
        · exact q2 j hj y hy
    obtain ⟨p1, p2⟩ := k1 (s.heirsOf i) (fun j hj => by obtain ⟨q1, _, q3⟩ := h.heirs_lt hj; exact ⟨q1, q3⟩) (false, ps) (PStep.refl hp)
    generalize (s.heirsOf i).foldl (fun x h => (newS (x.2.getD h []) (x.2.getD i []) || x.1, x.2.set h (uniS (x.2.getD h []) (x.2.getD i [])))) (false, ps) = z at *
    have k2 : ∀ (l : List Nat), (∀ p, p ∈ l → p < n ∧ ∀ x t, PtN fs i x → PtN fs x t → PtN fs p t) → ∀ (x : Bool × List (List Nat)), PStep fs n s ps x.1 x.2 →
        let y := l.foldl (fun x p => ((!(x.2.getD p []).contains (2 * n + i)) || x.1, St.partAdd x.2 p (2 * n + i))) x
        PStep fs n s ps y.1 y.2 ∧ (y.1 = false → x.1 = false ∧ ∀ p, p ∈ l → 2 * n + i ∈ ps.getD p []) := by
      intro l
      induction l with
      | nil => exact fun _ x hx => ⟨hx, fun e => ⟨e, fun j hj => by cases hj⟩⟩
      | cons a r ih =>
        intro hl x hx
        obtain ⟨a1, a2⟩ := hl a List.mem_cons_self
        have hadd := PStep.add hx.ok hn a1 (x := 2 * n + i) (by omega) (fun t hv => by
          rcases hv with ⟨e, _⟩ | ⟨p, q, y, hf, hy, e, ht⟩ | ⟨_, y, hy, ht⟩
          · omega
          · have hyt := PtN.taken hy
            obtain ⟨p', hp'⟩ := hyt
            have := h.rlt (h.fsb _ _ _ hp').2
            omega
          · rw [Nat.add_sub_cancel_left] at hy
            exact a2 y t hy ht)
        obtain ⟨p1, p2⟩ := ih (fun j hj => hl j (List.mem_cons_of_mem _ hj)) ((!(x.2.getD a []).contains (2 * n + i)) || x.1, St.partAdd x.2 a (2 * n + i)) (hx.trans hadd)
        refine ⟨p1, fun e => ?_⟩
        obtain ⟨q1, q2⟩ := p2 e
        simp only [Bool.or_eq_false_iff] at q1
        refine ⟨q1.2, fun p hp => ?_⟩
        rcases List.mem_cons.1 hp with rfl | hp
        · exact hx.no q1.2 _ _ (by simpa using q1.1)
        · exact q2 p hp
    obtain ⟨r1, r2⟩ := k2 (s.standing (s.ld i)) (fun p hp => by
      obtain ⟨_, x, hx, rfl⟩ := mem_standing.1 hp
      exact ⟨h.rlt (h.bd _ _ hx), fun y t hy ht => (h.same x t).2 (h.ld i x hx y t hy ht)⟩) z p1
    refine ⟨r1, fun e _ => ?_⟩
    obtain ⟨u1, u2⟩ := r2 e
    exact ⟨(p2 u1).2, u2⟩

theorem Inv.partsRound (h : Inv fs n c E s) : ∀ (l : List Nat), (∀ i, i ∈ l → i < n) → ∀ (ps : List (List Nat)), Ps fs n s ps → PStep fs n s ps (s.partsRound n l ps).1 (s.partsRound n l ps).2 ∧ ((s.partsRound n l ps).1 = false → ∀ i, i ∈ l → Shut n s ps i) := by
  intro l hl ps hp
  have key : ∀ (l : List Nat), (∀ i, i ∈ l → i < n) → ∀ (x : Bool × List (List Nat)), PStep fs n s ps x.1 x.2 →
      let z := l.foldl (fun x i => let y := s.handParts x.2 i (2 * n + i); (y.1 || x.1, y.2)) x
      PStep fs n s ps z.1 z.2 ∧ (z.1 = false → x.1 = false ∧ ∀ i, i ∈ l → Shut n s ps i) := by
    intro l
    induction l with
    | nil => exact fun _ x hx => ⟨hx, fun e => ⟨e, fun j hj => by cases hj⟩⟩
    | cons a r ih =>
      intro hl x hx
      obtain ⟨s1, s2⟩ := h.handParts hx.ok (hl a List.mem_cons_self)
      obtain ⟨p1, p2⟩ := ih (fun j hj => hl j (List.mem_cons_of_mem _ hj)) ((s.handParts x.2 a (2 * n + a)).1 || x.1, (s.handParts x.2 a (2 * n + a)).2) (hx.trans s1)
      refine ⟨p1, fun e => ?_⟩
      obtain ⟨q1, q2⟩ := p2 e
      simp only [Bool.or_eq_false_iff] at q1
      refine ⟨q1.2, fun i hi => ?_⟩
      rcases List.mem_cons.1 hi with rfl | hi
      · exact (s2 q1.1).of (fun j y => ⟨hx.up j y, hx.no q1.2 j y⟩)
      · exact q2 i hi
  obtain ⟨p1, p2⟩ := key l hl (false, ps) (PStep.refl hp)
  exact ⟨p1, fun e => (p2 e).2⟩

theorem Inv.partsLoop (h : Inv fs n c E s) {l : List Nat} (hl : ∀ i, i ∈ l → i < n) : ∀ (k : Nat) (ps : List (List Nat)), Ps fs n s ps → psM n ps < k → ∃ ps', s.partsLoop n l k ps = some ps' ∧ Ps fs n s ps' ∧ (∀ i x, x ∈ ps.getD i [] → x ∈ ps'.getD i []) ∧ ∀ i, i ∈ l → Shut n s ps' i := by
  intro k
  induction k with
  | zero => intro ps _ hk; omega
  | succ k ih =>
    intro ps hp hk
    obtain ⟨p1, p2⟩ := h.partsRound l hl ps hp
    rw [St.partsLoop]
    cases hf : (s.partsRound n l ps).1
    · simp only [Bool.false_eq_true, if_false]
      refine ⟨_, rfl, p1.ok, p1.up, fun i hi => (p2 hf i hi).of (fun j x => ⟨p1.no hf j x, p1.up j x⟩)⟩
    · simp only [if_true]
      have hm := p1.m
      rw [hf] at hm
      simp only [if_true] at hm
      obtain ⟨ps', e, q1, q2, q3⟩ := ih _ p1.ok (by omega)
      exact ⟨ps', e, q1, fun i x hx => q2 i x (p1.up i x hx), q3⟩

theorem psM_bound (n : Nat) (ps : List (List Nat)) : psM n ps ≤ n * (3 * n) := sumN_bound (fun _ _ => Nat.sub_le _ _)

/-- Parts say it all. -/
theorem Inv.partsOf (h : Inv fs n c E s) {k : Nat} (hk : 5000 ≤ k) : ∃ ps, s.partsOf k n = some ps ∧ ∀ a b, a < n → b < n → s.rep a = a → s.rep b = b → ps.getD a [] = ps.getD b [] → ∀ t, PtN fs a t ↔ PtN fs b t := by
  have hn := h.hn
  obtain ⟨p1, p2⟩ := h.parts0
  have hb := psM_bound n (s.parts0 n)
  have hb2 : n * (3 * n) ≤ 40 * (3 * 40) := Nat.mul_le_mul hn (Nat.mul_le_mul (Nat.le_refl _) hn)
  obtain ⟨ps, e, q1, q2, q3⟩ := h.partsLoop (l := s.all n) (fun i hi => (h.all_lt.1 hi).1) k (s.parts0 n) p1 (by omega)
  refine ⟨ps, e, ?_⟩
  have full : ∀ p t, PtN fs p t → ∃ x, x ∈ ps.getD (s.rep p) [] ∧ PV fs n s x t := by
    have hn' : ∀ p t, PtN fs p t → p < n ∧ t < n := by
      intro p t ht
      refine ⟨?_, ?_⟩
      · have hx : ∀ p t, PtN fs p t → p < n := by
          intro p t ht
          induction ht using PtN.ind with
          | addr hf => exact (h.fsb _ _ _ hf).1
          | copy hf => exact (h.fsb _ _ _ hf).1
          | load hf => exact (h.fsb _ _ _ hf).1
          | store _ hv =>
            obtain ⟨p', hp'⟩ := hv.taken
            exact (h.fsb _ _ _ hp').2
        exact hx p t ht
      · obtain ⟨p', hp'⟩ := ht.taken
        exact (h.fsb _ _ _ hp').2
    have shut : ∀ p, p < n → Shut n s ps (s.rep p) := fun p hp => q3 _ (h.all_lt.2 ⟨h.rlt hp, h.repi p⟩)
    intro p t ht
    induction ht using PtN.ind with
    | @addr p q hf =>
      have := h.fsb _ _ _ hf
      exact ⟨q, q2 _ _ (p2 _ _ (h.rlt this.1) (h.cA _ _ hf)).1, .inl ⟨this.2, rfl⟩⟩
    | @copy p q x hf hq ih =>
      obtain ⟨y, hy, hv⟩ := ih
      have hb := h.fsb _ _ _ hf
      by_cases e2 : s.rep p = s.rep q
      · rw [e2]
        exact ⟨y, hy, hv⟩
      · have := h.rlt hb.1
        exact ⟨y, ((shut q hb.2) (List.ne_nil_of_mem hy)).1 (s.rep p) (mem_heirsOf.2 ⟨by omega, e2, p, h.cC _ _ hf, rfl⟩) y hy, hv⟩
    | @load p q v x hf hq hv ih1 ih2 =>
      obtain ⟨y, hy, _⟩ := ih1
      have hb := h.fsb _ _ _ hf
      have := h.rlt hb.1
      refine ⟨2 * n + s.rep q, ((shut q hb.2) (List.ne_nil_of_mem hy)).2 (s.rep p) (mem_standing.2 ⟨by omega, p, h.cL _ _ hf, rfl⟩), .inr (.inr ⟨by omega, v, ?_, hv⟩)⟩
      rw [Nat.add_sub_cancel_left]
      exact (h.same q v).2 hq
    | @store p q v x hf hp hq ih1 ih2 =>
      obtain ⟨p', hp'⟩ := hp.taken
      have := h.rlt (h.fsb _ _ _ hp').1
      exact ⟨n + s.rep v, q2 _ _ (p2 _ _ this (h.cA _ _ hp')).2, .inr (.inl ⟨p, q, v, hf, hp, rfl, hq⟩)⟩
  intro a b ha hb ra rb e2 t
  constructor
  · intro ht
    obtain ⟨x, hx, hv⟩ := full a t ht
    rw [ra, e2] at hx
    exact q1.snd b x t hx hv
  · intro ht
    obtain ⟨x, hx, hv⟩ := full b t ht
    rw [rb, ← e2] at hx
    exact q1.snd a x t hx hv

end Go.Proofs.YtiamlbhkiehilaaGreatDoor
