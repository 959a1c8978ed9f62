import Derived.Test.YtiamlbhkiehilaaGreatDoorBk26
import Derived.Test.YtiamlbhkiehilaaGreatDoorBk02
import Derived.Test.YtiamlbhkiehilaaGreatDoorRows
import Derived.Deep.AppendLies
import Derived.WalkSpells
import Derived.WalkLawsBesides
import Derived.RegionTactic
import Derived.ChangeAlike
import Derived.Laws.BitsAll
import Derived.Test.YtiamlbhkiehilaaGreatDoorBk25
import Derived.Deep.RegionLaw
namespace Go.Proofs.YtiamlbhkiehilaaGreatDoor

variable {fs : List (Int × Nat × Nat)} {n : Nat} {c : Way} {E : Nat → Prop}

theorem Inv.mergeSame {s : St} (h : Inv fs n c E s) {ps : List (List Nat)} (hp : ∀ a b, a < n → b < n → s.rep a = a → s.rep b = b → ps.getD a [] = ps.getD b [] → ∀ t, PtN fs a t ↔ PtN fs b t) :
    Inv fs n c E (s.mergeSame n ps).2 ∧ ((s.mergeSame n ps).1 = false → (s.mergeSame n ps).2 = s) ∧ (s.mergeSame n ps).2.mea n + (if (s.mergeSame n ps).1 then 1 else 0) ≤ s.mea n ∧ (s.mergeSame n ps).2.pt n ≤ s.pt n := by
  have hall : ∀ i, i ∈ s.all n → i < n ∧ s.rep i = i := fun i hi => h.all_lt.1 hi
  have inner : ∀ (a : Nat), a ∈ s.all n → ∀ (l : List Nat), (∀ b, b ∈ l → b ∈ s.all n) → ∀ (x : Bool × St), Inv fs n c E x.2 → (x.1 = false → x.2 = s) → x.2.mea n + (if x.1 then 1 else 0) ≤ s.mea n → x.2.pt n ≤ s.pt n →
      let z := l.foldl (fun x b => if a < b && ps.getD a [] == ps.getD b [] then let y := x.2.merge a b; (y.1 || x.1, y.2) else x) x
      Inv fs n c E z.2 ∧ (z.1 = false → z.2 = s) ∧ z.2.mea n + (if z.1 then 1 else 0) ≤ s.mea n ∧ z.2.pt n ≤ s.pt n := by
    intro a ha l
    induction l with
    | nil => exact fun _ x h1 h2 h3 h4 => ⟨h1, h2, h3, h4⟩
    | cons b r ih =>
      intro hl x h1 h2 h3 h4
      rw [List.foldl_cons]
      by_cases hc : (decide (a < b) && ps.getD a [] == ps.getD b []) = true
      · rw [if_pos hc]
        simp only [Bool.and_eq_true, beq_iff_eq] at hc
        have ha' := hall a ha
        have hb' := hall b (hl b List.mem_cons_self)
        obtain ⟨q1, q2, q3⟩ := h1.merge ha'.1 hb'.1 (hp a b ha'.1 hb'.1 ha'.2 hb'.2 hc.2)
        refine ih (fun b hb => hl b (List.mem_cons_of_mem _ hb)) _ q1 ?_ ?_ ?_
        · intro e
          have e : ((x.2.merge a b).1 || x.1) = false := e
          rw [Bool.or_eq_false_iff] at e
          show (x.2.merge a b).2 = s
          rw [q2 e.1]
          exact h2 e.2
        · show (x.2.merge a b).2.mea n + (if ((x.2.merge a b).1 || x.1) = true then 1 else 0) ≤ _
          cases hm : (x.2.merge a b).1
          · rw [q2 hm]
            simpa using h3
          · have := (q3 hm).1
            simp
            split at h3 <;> omega
        · show (x.2.merge a b).2.pt n ≤ _
          cases hm : (x.2.merge a b).1
          · rw [q2 hm]
            exact h4
          · have := (q3 hm).2
            omega
      · rw [if_neg hc]
        exact ih (fun b hb => hl b (List.mem_cons_of_mem _ hb)) x h1 h2 h3 h4
  have outer : ∀ (l : List Nat), (∀ b, b ∈ l → b ∈ s.all n) → ∀ (x : Bool × St), Inv fs n c E x.2 → (x.1 = false → x.2 = s) → x.2.mea n + (if x.1 then 1 else 0) ≤ s.mea n → x.2.pt n ≤ s.pt n →
      let z := l.foldl (fun x a => (s.all n).foldl (fun x b => if a < b && ps.getD a [] == ps.getD b [] then let y := x.2.merge a b; (y.1 || x.1, y.2) else x) x) x
      Inv fs n c E z.2 ∧ (z.1 = false → z.2 = s) ∧ z.2.mea n + (if z.1 then 1 else 0) ≤ s.mea n ∧ z.2.pt n ≤ s.pt n := by
    intro l
    induction l with
    | nil => exact fun _ x h1 h2 h3 h4 => ⟨h1, h2, h3, h4⟩
    | cons a r ih =>
      intro hl x h1 h2 h3 h4
      rw [List.foldl_cons]
      obtain ⟨p1, p2, p3, p4⟩ := inner a (hl a List.mem_cons_self) (s.all n) (fun _ hb => hb) x h1 h2 h3 h4
      exact ih (fun b hb => hl b (List.mem_cons_of_mem _ hb)) _ p1 p2 p3 p4
  exact outer (s.all n) (fun _ hb => hb) (false, s) h (fun _ => rfl) (by simp) (Nat.le_refl _)

theorem Inv.substitute {k : Nat} (hk : 5000 ≤ k) : ∀ (j : Nat) {s : St}, Inv fs n c E s → s.mea n < j → ∃ s', St.substitute k n j s = some s' ∧ Inv fs n c E s' ∧ s'.mea n ≤ s.mea n ∧ s'.pt n ≤ s.pt n := by
  intro j
  induction j with
  | zero => intro s _ hj; omega
  | succ j ih =>
    intro s h hj
    obtain ⟨ps, e, hp⟩ := h.partsOf hk
    obtain ⟨q1, q2, q3, q4⟩ := h.mergeSame hp
    rw [St.substitute, e]
    simp only [Option.bind_some]
    cases hf : (s.mergeSame n ps).1
    · simp only [Bool.false_eq_true, if_false]
      rw [hf] at q3
      exact ⟨_, rfl, q1, by simpa using q3, q4⟩
    · simp only [if_true]
      rw [hf] at q3
      simp only [if_true] at q3
      obtain ⟨s', e', r1, r2, r3⟩ := ih q1 (by omega)
      exact ⟨s', e', r1, by omega, by omega⟩

theorem Inv.lookAhead {k : Nat} (hk : 5000 ≤ k) {s : St} (h : Inv fs n c E s) (hm : s.mea n < k) : ∃ s', s.lookAhead k c n = some s' ∧ Inv fs n c E s' ∧ s'.mea n ≤ s.mea n ∧ s'.pt n ≤ s.pt n := by
  unfold St.lookAhead
  have h1 : ∃ s1, (if c.subst then St.substitute k n k s else some s) = some s1 ∧ Inv fs n c E s1 ∧ s1.mea n ≤ s.mea n ∧ s1.pt n ≤ s.pt n := by
    cases c.subst
    · exact ⟨s, rfl, h, Nat.le_refl _, Nat.le_refl _⟩
    · exact Inv.substitute hk k h hm
  obtain ⟨s1, e1, p1, p2, p3⟩ := h1
  rw [e1]
  simp only [Option.bind_some]
  cases c.collapse
  · exact ⟨s1, rfl, p1, p2, p3⟩
  · obtain ⟨s2, e2, q1, q2, q3⟩ := p1.findTwins (k := k) (by omega)
    exact ⟨s2, e2, q1, by omega, by omega⟩

/-! The start -/
def st0 (n : Nat) : St := { ss := List.replicate (7 * n) [], rep := id, inside := [], now := [], come := [], susp := [], un := 0 }

/-- What is laid of facts. -/
structure Laid (n : Nat) (l : List (Int × Nat × Nat)) (s : St) : Prop where
  len : s.ss.length = 7 * n
  tg : ∀ i x, x ∈ s.tg i ↔ ((1 : Int), i, x) ∈ l
  hr : ∀ i x, x ∈ s.hr i ↔ ((2 : Int), x, i) ∈ l
  ld : ∀ i x, x ∈ s.ld i ↔ ((3 : Int), x, i) ∈ l
  sr : ∀ i x, x ∈ s.sr i ↔ ((4 : Int), i, x) ∈ l
  hd : ∀ i, s.hd i = []
  tw : ∀ i, s.tw i = []
  tr : ∀ i, s.tr i = []
  rep : s.rep = id
  ins : s.inside = []
  now : s.now = []
  come : s.come = []
  susp : s.susp = []
  un : s.un = 0

theorem add_get {s : St} {n j x0 : Nat} (hl : s.ss.length = 7 * n) (hj : j < 7 * n) (hx0 : x0 < 128) (hb : ∀ m x, x ∈ s.ss.getD m [] → x < 128) : (s.addAt j x0).ss.length = 7 * n ∧ (∀ m x, x ∈ (s.addAt j x0).ss.getD m [] ↔ x ∈ s.ss.getD m [] ∨ (m = j ∧ x = x0)) ∧ (∀ m, m ≠ j → (s.addAt j x0).ss.getD m [] = s.ss.getD m []) := by
  refine ⟨by simp [St.addAt]; exact hl, fun m x => ?_, fun m hm => ?_⟩
  · unfold St.addAt
    rw [St.put_get (by omega)]
    split
    · rename_i e
      subst e
      rw [mem_addS]
      constructor
      · rintro ⟨a, rfl | b⟩
        · exact .inr ⟨rfl, rfl⟩
        · exact .inl b
      · rintro (a | ⟨_, rfl⟩)
        · exact ⟨hb _ _ a, .inr a⟩
        · exact ⟨hx0, .inl rfl⟩
    · rename_i e
      constructor
      · exact .inl
      · rintro (a | ⟨a, _⟩)
        · exact a
        · exact absurd a e
  · unfold St.addAt
    rw [St.put_get (by omega), if_neg hm]

theorem Laid.bd {n : Nat} {l : List (Int × Nat × Nat)} {s : St} (h : Laid n l s) (hf : ∀ k p q, (k, p, q) ∈ l → p < n ∧ q < n) : ∀ m x, x ∈ s.ss.getD m [] → x < n := by
  intro m x hx
  have hm : m = 7 * (m / 7) + m % 7 := (Nat.div_add_mod m 7).symm
  have hlt : m % 7 < 7 := Nat.mod_lt _ (by omega)
  generalize m / 7 = i at hm
  generalize m % 7 = f at hm hlt
  subst hm
  rcases (show f = 0 ∨ f = 1 ∨ f = 2 ∨ f = 3 ∨ f = 4 ∨ f = 5 ∨ f = 6 by omega) with rfl | rfl | rfl | rfl | rfl | rfl | rfl
  · exact (hf _ _ _ ((h.tg i x).1 hx)).2
  · have := h.hd i
    unfold St.hd at this
    rw [this] at hx
    cases hx
  · exact (hf _ _ _ ((h.hr i x).1 hx)).1
  · exact (hf _ _ _ ((h.ld i x).1 hx)).1
  · exact (hf _ _ _ ((h.sr i x).1 hx)).2
  · have := h.tw i
    unfold St.tw at this
    rw [this] at hx
    cases hx
  · have := h.tr i
    unfold St.tr at this
    rw [this] at hx
    cases hx

theorem mem_snoc3 {l : List (Int × Nat × Nat)} {k k' : Int} {p q p' q' : Nat} : (k', p', q') ∈ l ++ [(k, p, q)] ↔ (k', p', q') ∈ l ∨ (k' = k ∧ p' = p ∧ q' = q) := by simp

theorem Laid.lay {n : Nat} {l : List (Int × Nat × Nat)} {s : St} (h : Laid n l s) (hn : n ≤ 40) (hf : ∀ k p q, (k, p, q) ∈ l → p < n ∧ q < n) {k : Int} {p q : Nat} (hp : p < n) (hq : q < n) (hk : 1 ≤ k ∧ k ≤ 4) : Laid n (l ++ [(k, p, q)]) (s.lay k p q) := by
  have hb : ∀ m x, x ∈ s.ss.getD m [] → x < 128 := fun m x hx => by have := h.bd hf m x hx; omega
  unfold St.lay
  rcases (show k = 1 ∨ k = 2 ∨ k = 3 ∨ k = 4 by omega) with rfl | rfl | rfl | rfl
  · obtain ⟨a1, a2, a3⟩ := add_get (x0 := q) h.len (show 7 * p < 7 * n by omega) (by omega) hb
    rw [if_pos rfl]
    refine ⟨a1, ?_, ?_, ?_, ?_, ?_, ?_, ?_, h.rep, h.ins, h.now, h.come, h.susp, h.un⟩
    · intro i x
      rw [mem_snoc3, ← h.tg]
      refine (a2 (7 * i) x).trans (or_congr Iff.rfl ?_)
      constructor
      · rintro ⟨e, rfl⟩; exact ⟨rfl, by omega, rfl⟩
      · rintro ⟨_, rfl, rfl⟩; exact ⟨rfl, rfl⟩
    · intro i x
      rw [mem_snoc3, ← h.hr]
      unfold St.hr
      rw [a3 _ (by omega)]
      simp
    · intro i x
      rw [mem_snoc3, ← h.ld]
      unfold St.ld
      rw [a3 _ (by omega)]
      simp
    · intro i x
      rw [mem_snoc3, ← h.sr]
      unfold St.sr
      rw [a3 _ (by omega)]
      simp
    · intro i; exact (a3 _ (by omega)).trans (h.hd i)
    · intro i; exact (a3 _ (by omega)).trans (h.tw i)
    · intro i; exact (a3 _ (by omega)).trans (h.tr i)
  · obtain ⟨a1, a2, a3⟩ := add_get (x0 := p) h.len (show 7 * q + 2 < 7 * n by omega) (by omega) hb
    rw [if_neg (by omega), if_pos rfl]
    refine ⟨a1, ?_, ?_, ?_, ?_, ?_, ?_, ?_, h.rep, h.ins, h.now, h.come, h.susp, h.un⟩
    · intro i x
      rw [mem_snoc3, ← h.tg]
      unfold St.tg
      rw [a3 _ (by omega)]
      simp
    · intro i x
      rw [mem_snoc3, ← h.hr]
      refine (a2 (7 * i + 2) x).trans (or_congr Iff.rfl ?_)
      constructor
      · rintro ⟨e, rfl⟩; exact ⟨rfl, rfl, by omega⟩
      · rintro ⟨_, rfl, rfl⟩; exact ⟨rfl, rfl⟩
    · intro i x
      rw [mem_snoc3, ← h.ld]
      unfold St.ld
      rw [a3 _ (by omega)]
      simp
    · intro i x
      rw [mem_snoc3, ← h.sr]
      unfold St.sr
      rw [a3 _ (by omega)]
      simp
    · intro i; exact (a3 _ (by omega)).trans (h.hd i)
    · intro i; exact (a3 _ (by omega)).trans (h.tw i)
    · intro i; exact (a3 _ (by omega)).trans (h.tr i)
  · obtain ⟨a1, a2, a3⟩ := add_get (x0 := p) h.len (show 7 * q + 3 < 7 * n by omega) (by omega) hb
    rw [if_neg (by omega), if_neg (by omega), if_pos rfl]
    refine ⟨a1, ?_, ?_, ?_, ?_, ?_, ?_, ?_, h.rep, h.ins, h.now, h.come, h.susp, h.un⟩
    · intro i x
      rw [mem_snoc3, ← h.tg]
      unfold St.tg
      rw [a3 _ (by omega)]
      simp
    · intro i x
      rw [mem_snoc3, ← h.hr]
      unfold St.hr
      rw [a3 _ (by omega)]
      simp
    · intro i x
      rw [mem_snoc3, ← h.ld]
      refine (a2 (7 * i + 3) x).trans (or_congr Iff.rfl ?_)
      constructor
      · rintro ⟨e, rfl⟩; exact ⟨rfl, rfl, by omega⟩
      · rintro ⟨_, rfl, rfl⟩; exact ⟨rfl, rfl⟩
    · intro i x
      rw [mem_snoc3, ← h.sr]
      unfold St.sr
      rw [a3 _ (by omega)]
      simp
    · intro i; exact (a3 _ (by omega)).trans (h.hd i)
    · intro i; exact (a3 _ (by omega)).trans (h.tw i)
    · intro i; exact (a3 _ (by omega)).trans (h.tr i)
  · obtain ⟨a1, a2, a3⟩ := add_get (x0 := q) h.len (show 7 * p + 4 < 7 * n by omega) (by omega) hb
    rw [if_neg (by omega), if_neg (by omega), if_neg (by omega), if_pos rfl]
    refine ⟨a1, ?_, ?_, ?_, ?_, ?_, ?_, ?_, h.rep, h.ins, h.now, h.come, h.susp, h.un⟩
    · intro i x
      rw [mem_snoc3, ← h.tg]
      unfold St.tg
      rw [a3 _ (by omega)]
      simp
    · intro i x
      rw [mem_snoc3, ← h.hr]
      unfold St.hr
      rw [a3 _ (by omega)]
      simp
    · intro i x
      rw [mem_snoc3, ← h.ld]
      unfold St.ld
      rw [a3 _ (by omega)]
      simp
    · intro i x
      rw [mem_snoc3, ← h.sr]
      refine (a2 (7 * i + 4) x).trans (or_congr Iff.rfl ?_)
      constructor
      · rintro ⟨e, rfl⟩; exact ⟨rfl, by omega, rfl⟩
      · rintro ⟨_, rfl, rfl⟩; exact ⟨rfl, rfl⟩
    · intro i; exact (a3 _ (by omega)).trans (h.hd i)
    · intro i; exact (a3 _ (by omega)).trans (h.tw i)
    · intro i; exact (a3 _ (by omega)).trans (h.tr i)

theorem Laid.zero (n : Nat) : Laid n [] (st0 n) := by
  have e : ∀ k, (st0 n).ss.getD k [] = [] := by
    intro k
    simp only [st0, List.getD_eq_getElem?_getD, List.getElem?_replicate]
    split <;> simp
  have m : ∀ k x, ¬ x ∈ (st0 n).ss.getD k [] := fun k x => by rw [e]; simp
  refine ⟨by simp [st0], ?_, ?_, ?_, ?_, fun i => e _, fun i => e _, fun i => e _, rfl, rfl, rfl, rfl, rfl, rfl⟩
  · intro i x; exact ⟨fun h => absurd h (m _ _), fun h => by cases h⟩
  · intro i x; exact ⟨fun h => absurd h (m _ _), fun h => by cases h⟩
  · intro i x; exact ⟨fun h => absurd h (m _ _), fun h => by cases h⟩
  · intro i x; exact ⟨fun h => absurd h (m _ _), fun h => by cases h⟩

theorem Laid.all {n : Nat} (hn : n ≤ 40) : ∀ (l m : List (Int × Nat × Nat)) (s : St), Laid n m s → (∀ k p q, (k, p, q) ∈ m ++ l → p < n ∧ q < n) → (∀ k p q, (k, p, q) ∈ l → 1 ≤ k ∧ k ≤ 4) → Laid n (m ++ l) (l.foldl (fun s f => s.lay f.1 f.2.1 f.2.2) s) := by
  intro l
  induction l with
  | nil => intro m s h _ _; simpa using h
  | cons a r ih =>
    intro m s h h1 h2
    obtain ⟨k, p, q⟩ := a
    have hp := h1 k p q (by simp)
    have := ih (m ++ [(k, p, q)]) (s.lay k p q) (h.lay hn (fun k p q hf => h1 k p q (by simp [hf])) hp.1 hp.2 (h2 k p q (by simp))) (fun k p q hf => h1 k p q (by simpa using hf)) (fun k p q hf => h2 k p q (List.mem_cons_of_mem _ hf))
    rw [List.append_assoc] at this
    exact this

/-- The start: who points to something, waits. -/
theorem start_inv (hn : n ≤ 40) (h1 : ∀ k p q, (k, p, q) ∈ fs → p < n ∧ q < n) (h2 : ∀ k p q, (k, p, q) ∈ fs → 1 ≤ k ∧ k ≤ 4) : Inv fs n c (fun _ => False) (St.start n fs) ∧ (St.start n fs).un = 0 ∧ (St.start n fs).nw ≤ n := by
  have hl := Laid.all hn fs [] (st0 n) (Laid.zero n) (by simpa using h1) h2
  rw [List.nil_append] at hl
  have hs : St.start n fs = (List.range n).foldl (fun s i => if (s.tg i).isEmpty then s else s.wait i) (fs.foldl (fun s f => s.lay f.1 f.2.1 f.2.2) (st0 n)) := rfl
  rw [hs]
  generalize fs.foldl (fun s f => s.lay f.1 f.2.1 f.2.2) (st0 n) = s at hl
  have key : ∀ m, m ≤ n → let s' := (List.range m).foldl (fun s i => if (s.tg i).isEmpty then s else s.wait i) s
      s'.ss = s.ss ∧ s'.rep = id ∧ s'.susp = [] ∧ s'.un = 0 ∧ s'.nw ≤ m ∧ (∀ i, i ∈ s'.inside ↔ s'.W i) ∧ (∀ i, s'.W i → i < n) ∧ (∀ i, i < m → s.tg i ≠ [] → s'.W i) := by
    intro m
    induction m with
    | zero =>
      intro _
      refine ⟨rfl, hl.rep, hl.susp, hl.un, by show s.nw ≤ 0; unfold St.nw; rw [hl.now, hl.come]; simp, fun i => ?_, fun i hi => ?_, fun i hi => by omega⟩
      · show i ∈ s.inside ↔ s.W i
        unfold St.W
        rw [hl.ins, hl.now, hl.come]
        simp
      · have hi : s.W i := hi
        unfold St.W at hi
        rw [hl.now, hl.come] at hi
        simp at hi
    | succ m ih =>
      intro hm
      obtain ⟨p1, p2, p3, p4, p5, p6, p7, p8⟩ := ih (by omega)
      simp only [List.range_succ, List.foldl_append, List.foldl_cons, List.foldl_nil]
      generalize (List.range m).foldl (fun s i => if (s.tg i).isEmpty then s else s.wait i) s = s1 at *
      have et : s1.tg m = s.tg m := by unfold St.tg; rw [p1]
      by_cases he : (s1.tg m).isEmpty = true
      · rw [if_pos he]
        refine ⟨p1, p2, p3, p4, by omega, p6, p7, fun i hi hne => ?_⟩
        by_cases e : i = m
        · subst e
          rw [et] at he
          exact absurd (by simpa using he) hne
        · exact p8 i (by omega) hne
      · rw [if_neg he]
        have := St.wait_nw s1 m
        refine ⟨by rw [St.wait_ss]; exact p1, by rw [St.wait_rep]; exact p2, by rw [St.wait_susp]; exact p3, by rw [St.wait_un]; exact p4, by omega, St.wait_ins p6 (by omega) (fun i hi => by have := p7 i hi; omega), fun i hi => ?_, fun i hi hne => ?_⟩
        · rcases (St.wait_W p6 m i).1 hi with hi | rfl
          · exact p7 i hi
          · omega
        · refine (St.wait_W p6 m i).2 ?_
          by_cases e : i = m
          · exact .inr e
          · exact .inl (p8 i (by omega) hne)
  obtain ⟨p1, p2, p3, p4, p5, p6, p7, p8⟩ := key n (Nat.le_refl _)
  generalize (List.range n).foldl (fun s i => if (s.tg i).isEmpty then s else s.wait i) s = s' at *
  have g : ∀ k, s'.ss.getD k [] = s.ss.getD k [] := fun k => by rw [p1]
  have hr : ∀ i, s'.rep i = i := fun i => by rw [p2]; rfl
  have hhd : ∀ i, s'.hd i = [] := fun i => (g _).trans (hl.hd i)
  refine ⟨⟨hn, h1, by rw [p1]; exact hl.len, fun i => by rw [hr]; exact Nat.le_refl _, fun i => by rw [hr, hr], fun i t => by rw [hr], fun k x hx => by rw [g] at hx; exact hl.bd h1 k x hx, fun i f hi => absurd (hr i) hi, ?_, fun i x hx => by rw [hhd] at hx; (cases hx), fun _ => hhd, ?_, ?_, ?_, ?_, ?_, ?_, ?_, ?_, p6, fun i hi => ⟨p7 i hi, hr i⟩, fun i hi => by rw [p3] at hi; (cases hi), ?_, ?_⟩, p4, p5⟩
  · intro i x hx
    exact PtN.addr ((hl.tg i x).1 (by unfold St.tg at hx ⊢; rw [g] at hx; exact hx))
  · intro i x hx t ht
    exact PtN.copy ((hl.hr i x).1 (by unfold St.hr at hx ⊢; rw [g] at hx; exact hx)) ht
  · intro i x hx y t hy ht
    exact PtN.load ((hl.ld i x).1 (by unfold St.ld at hx ⊢; rw [g] at hx; exact hx)) hy ht
  · intro i x hx y t hy ht
    exact PtN.store ((hl.sr i x).1 (by unfold St.sr at hx ⊢; rw [g] at hx; exact hx)) hy ht
  · intro i u hu
    have := hl.tw i
    unfold St.tw at this hu
    rw [g, this] at hu
    cases hu
  · intro p q hf
    rw [hr]
    unfold St.tg
    rw [g]
    exact (hl.tg p q).2 hf
  · intro p q hf
    rw [hr]
    unfold St.hr
    rw [g]
    exact (hl.hr q p).2 hf
  · intro p q hf
    rw [hr]
    unfold St.ld
    rw [g]
    exact (hl.ld q p).2 hf
  · intro p q hf
    rw [hr]
    unfold St.sr
    rw [g]
    exact (hl.sr p q).2 hf
  · intro i _ hx _ x hxt
    exfalso
    have hxt : x ∈ s.tg i := by unfold St.tg at hxt ⊢; rw [g] at hxt; exact hxt
    exact hx (.inl (p8 i (h1 _ _ _ ((hl.tg i x).1 hxt)).1 (List.ne_nil_of_mem hxt)))
  · intro i x _ hxt hcond
    have hxt : x ∈ s.tg i := by unfold St.tg at hxt ⊢; rw [g] at hxt; exact hxt
    have hw := p8 i (h1 _ _ _ ((hl.tg i x).1 hxt)).1 (List.ne_nil_of_mem hxt)
    split at hcond
    · rw [hhd] at hcond
      cases hcond
    · exact absurd (.inl hw) hcond

theorem sumN_one (n : Nat) : ∀ s : St, s.dn n ≤ n := fun s => by
  have := sumN_bound (n := n) (m := 1) (f := fun i => if s.rep i = i then 1 else 0) (fun i _ => by split <;> omega)
  unfold St.dn
  omega

/-- What it comes to: the least solution, and how often sets were united. -/
theorem run_ok (hn : n ≤ 40) (h1 : ∀ k p q, (k, p, q) ∈ fs → p < n ∧ q < n) (h2 : ∀ k p q, (k, p, q) ∈ fs → 1 ≤ k ∧ k ≤ 4) {k : Nat} (hk : 5000 ≤ k) :
    ∃ s, St.solve k c (St.start n fs) n = some s ∧ (∀ i x, x ∈ s.tg (s.rep i) ↔ PtN fs i x) ∧ s.un ≤ n * n * n + 4 * (n * n) + n ∧ Inv fs n c (fun _ => False) s := by
  obtain ⟨h, hu, hw⟩ := start_inv (c := c) hn h1 h2
  generalize St.start n fs = s at *
  have b0 : s.mis n 0 ≤ n * n := sumN_bound (fun i _ => by split <;> omega)
  have b2 : s.mis n 2 ≤ n * n := sumN_bound (fun i _ => by split <;> omega)
  have bd := sumN_one n s
  have bm : s.mea n ≤ n * n + 3 * n := by unfold St.mea; omega
  have bn : n * n ≤ 40 * 40 := Nat.mul_le_mul hn hn
  obtain ⟨s1, e1, p1, p2, p3⟩ := h.lookAhead hk (by omega)
  obtain ⟨s2, e2, q1, q2, q3⟩ := Inv.solveL (k := k) (by omega) k p1 (by omega)
  refine ⟨s2, by unfold St.solve; rw [e1]; exact e2, q1.solved q2, ?_, q1⟩
  have hpt : s.pt n ≤ n * n + n + n * (n * n + 3 * n) := by
    have := Nat.mul_le_mul_left n bm
    unfold St.pt
    omega
  have hun : s2.un ≤ s2.pt n := by unfold St.pt; omega
  have e3 : n * (n * n + 3 * n) = n * n * n + 3 * (n * n) := by
    rw [Nat.mul_add, ← Nat.mul_assoc, ← Nat.mul_assoc, Nat.mul_comm n 3, Nat.mul_assoc 3]
  omega

end Go.Proofs.YtiamlbhkiehilaaGreatDoor

namespace Go.Proofs.YtiamlbhkiehilaaGreatDoor
open Go.RowKit

/-! A set of numbers in memory: a cell with a slice of words. -/

abbrev T64 : TypeId := 186
def hasW (ws : List Nat) (k : Nat) : Bool := (ws.getD (k / 64) 0).testBit (k % 64)
def u64s (ws : List Nat) : List Value := ws.map fun (x : Nat) => Value.int .u64 (x : Int)
theorem u64s_len (ws : List Nat) : (u64s ws).length = ws.length := by simp [u64s]
theorem u64s_get {ws : List Nat} {j x : Nat} (h : ws[j]? = some x) : (u64s ws)[j]? = some (.int .u64 (x : Int)) := by simp [u64s, h]
theorem u64s_set (ws : List Nat) (j x : Nat) : (u64s ws).set j (.int .u64 (x : Int)) = u64s (ws.set j x) := by simp [u64s, List.map_set]

/-- Words in memory of their own. -/
def OwnW (w : World) (B : Nat) (v : Value) (ws : List Nat) : Prop := w.ownsRow B T64 1 v ws.length (u64s ws) ∧ ∀ x ∈ ws, x < 18446744073709551616

theorem OwnW.lt {w : World} {B : Nat} {v : Value} {ws : List Nat} (h : OwnW w B v ws) {g : Nat} (hg : v.ownBlock = some g) : B ≤ g ∧ g < w.heap.size := by
  rcases h.1.2 with ⟨rfl, _⟩ | ⟨g', cap, cur, rfl, hb, hh, _⟩
  · cases hg
  · cases hg
    exact ⟨hb, lt_of_heap hh⟩
theorem OwnW.kb {w w' : World} {B : Nat} {v : Value} {ws : List Nat} {L : List Nat} (h : OwnW w B v ws) (hk : Kb L w w') (hl : ∀ g ∈ L, v.ownBlock ≠ some g) : OwnW w' B v ws := by
  refine ⟨⟨h.1.1, ?_⟩, h.2⟩
  rcases h.1.2 with h2 | ⟨g, cap, cur, hv, hg, hh, r⟩
  · exact .inl h2
  · exact .inr ⟨g, cap, cur, hv, hg, hk.heap hh (fun hm => hl g hm (by rw [hv]; rfl)), r⟩
theorem OwnW.ne {w : World} {B b : Nat} {v : Value} {ws : List Nat} {cs : Array Value} {T : TypeId} {fz : Nat × Nat} (h : OwnW w B v ws) (hb : w.heap[b]? = some (.cells cs T fz)) (hT : T ≠ T64) : v.ownBlock ≠ some b := by
  intro e
  rcases h.1.2 with ⟨rfl, _⟩ | ⟨g, cap, cur, rfl, _, hh, _⟩
  · cases e
  · cases e
    rw [hb] at hh
    injection hh with hh
    injection hh with _ h2 _
    exact hT h2
/-- As a row: nil, or a block. -/
theorem OwnW.form {w : World} {B : Nat} {v : Value} {ws : List Nat} (h : OwnW w B v ws) : ∃ ao cap, v = .slice ao ws.length cap ∧ (∀ (j x : Nat), ws[j]? = some x → ∃ g, ao = some ⟨g, 0, none⟩ ∧ w.cell? ⟨g, j, none⟩ = some (.int .u64 (x : Int)) ∧ w.frozen? ⟨g, j, none⟩ = false) := by
  rcases h.1.2 with ⟨rfl, h0⟩ | ⟨g, cap, cur, rfl, _, hh, h1, h2, h3, h4⟩
  · refine ⟨none, 0, by rw [h0], fun j x hx => ?_⟩
    have := (List.getElem?_eq_some_iff.1 hx).1
    omega
  · refine ⟨some ⟨g, 0, none⟩, cap, rfl, fun j x hx => ⟨g, rfl, ?_, frozen_at hh j⟩⟩
    have hj := (List.getElem?_eq_some_iff.1 hx).1
    rw [cell_at hh, ← Array.getElem?_toList]
    have e := u64s_get hx
    rw [← h4, Nat.mul_one, List.getElem?_take_of_lt hj] at e
    exact e
theorem OwnW.set {w : World} {B g n cap : Nat} {ws : List Nat} (h : OwnW w B (.slice (some ⟨g, 0, none⟩) n cap) ws) (j x : Nat) (hx : x < 18446744073709551616) : OwnW (w.setCell ⟨g, j, none⟩ (.int .u64 (x : Int))) B (.slice (some ⟨g, 0, none⟩) n cap) (ws.set j x) := by
  refine ⟨⟨by simp [u64s], ?_⟩, fun y hy => ?_⟩
  · rcases h.1.2 with ⟨e, _⟩ | ⟨g', cap', cur, e, hb, hh, h1, h2, h3, h4⟩
    · cases e
    · injection e with e1 e2 e3
      injection e1 with e1
      injection e1 with e1
      subst e1 e2 e3
      rw [List.length_set]
      refine .inr ⟨g, cap, cur.setIfInBounds j (.int .u64 (x : Int)), rfl, hb, heap_set hh j _, h1, h2, by simpa using h3, ?_⟩
      rw [Array.toList_setIfInBounds, ← u64s_set, ← h4, List.take_set]
  · rcases List.mem_or_eq_of_mem_set hy with hy | rfl
    · exact h.2 y hy
    · exact hx
theorem OwnW.drew {w : World} {B : Nat} {v : Value} {ws : List Nat} (h : OwnW w B v ws) (n : Nat) : OwnW (w.drewN n) B v ws := h
theorem OwnW.alloc {w : World} {B : Nat} {v : Value} {ws : List Nat} (h : OwnW w B v ws) (o : Obj) : OwnW (w.alloc o) B v ws := h.kb ((Kb.refl [] w).alloc o) (by simp)
theorem OwnW.nil (w : World) (B : Nat) : OwnW w B (.slice none 0 0) [] := ⟨⟨rfl, .inl ⟨rfl, rfl⟩⟩, by simp⟩

/-- A cell that holds a slice of words is written. -/
structure SetCh (w w' : World) (b o : Nat) (cs : Array Value) (T : TypeId) (v v' : Value) : Prop where
  blk : w'.heap[b]? = some (.cells (cs.setIfInBounds o v') T (0, 0))
  kb : Kb (b :: v.ownBlock.toList) w w'
  lies : v'.ownBlock = v.ownBlock ∨ ∃ g, v'.ownBlock = some g ∧ w.heap.size ≤ g

theorem SetCh.refl {w : World} {b o : Nat} {cs : Array Value} {T : TypeId} {v : Value} (hb : w.heap[b]? = some (.cells cs T (0, 0))) (hv : cs[o]? = some v) : SetCh w w b o cs T v v := by
  refine ⟨?_, Kb.refl _ _, .inl rfl⟩
  rw [hb]
  have : cs.setIfInBounds o v = cs := by
    apply Array.ext_getElem?
    intro i
    rw [Array.getElem?_setIfInBounds]
    split
    · rename_i e
      subst e
      split
      · exact hv.symm
      · rename_i hn
        rw [Array.getElem?_eq_none (by omega)]
    · rfl
  rw [this]

theorem set_set' (cs : Array Value) (o : Nat) (v v' : Value) : (cs.setIfInBounds o v).setIfInBounds o v' = cs.setIfInBounds o v' := by
  apply Array.ext_getElem?
  intro i
  simp only [Array.getElem?_setIfInBounds, Array.size_setIfInBounds]
  split <;> rfl

theorem SetCh.trans {w w' w'' : World} {b o : Nat} {cs : Array Value} {T : TypeId} {v v' v'' : Value} (h : SetCh w w' b o cs T v v') (k : SetCh w' w'' b o (cs.setIfInBounds o v') T v' v'') : SetCh w w'' b o cs T v v'' := by
  refine ⟨by rw [k.blk, set_set'], ?_, ?_⟩
  · refine ⟨k.kb.os.trans h.kb.os, k.kb.tape.trans h.kb.tape, k.kb.output.trans h.kb.output, Nat.le_trans h.kb.size k.kb.size, fun j hj hl => ?_⟩
    refine (k.kb.block j (Nat.lt_of_lt_of_le hj h.kb.size) (fun hm => ?_)).trans (h.kb.block j hj hl)
    rcases List.mem_cons.1 hm with rfl | hm
    · exact hl List.mem_cons_self
    · rcases h.lies with e | ⟨g, e, hg⟩
      · rw [e] at hm
        exact hl (List.mem_cons_of_mem _ hm)
      · rw [e] at hm
        simp at hm
        omega
  · rcases k.lies with e | ⟨g, e, hg⟩
    · rw [e]
      exact h.lies
    · exact .inr ⟨g, e, Nat.le_trans h.kb.size hg⟩

end Go.Proofs.YtiamlbhkiehilaaGreatDoor

namespace Go.Proofs.YtiamlbhkiehilaaGreatDoor
open Go.RowKit

theorem splace_any (n q bt : Nat) (hn : n < 128) (hq : q = n / 64) (hbt : bt = 2 ^ (n % 64)) (w : World) : Calls Tryz.prog 147 #[.int .u64 n] w fun e w' => e = .returned (.tuple #[.int .i64 q, .int .u64 bt]) ∧ w' = w := by
  have hlt : 2 ^ (n % 64) < 18446744073709551616 := by
    have : n % 64 < 64 := Nat.mod_lt _ (by omega)
    exact Nat.lt_of_lt_of_le (Nat.pow_lt_pow_right (by omega) this) (by decide)
  have HQ := hide (And.intro hq hbt)
  clear hq hbt
  go_enter Tryz.func147, Tryz.ntmps147
  go_wp2
  have hwr : IntKind.u64.wrap (2 ^ (n % 64)) = ((2 ^ (n % 64) : Nat) : Int) := by
    rw [IntKind.wrap_u64]
    have e : ((2 : Int) ^ (n % 64)) = ((2 ^ (n % 64) : Nat) : Int) := by simp
    rw [e]
    generalize 2 ^ (n % 64) = p at hlt
    omega
  refine bodyPost_ret (v := .tuple #[.int .i64 ((n / 64 : Nat) : Int), .int .u64 ((2 ^ (n % 64) : Nat) : Int)]) (by simp [results, Tryz.results147, go_sem, hwr]) rfl ⟨by rw [HQ.out.1, HQ.out.2], rfl⟩

theorem word_any (B b o : Nat) (cs : Array Value) (T : TypeId) (v : Value) (ws : List Nat) (at_ : Nat) (w : World) (hb : w.heap[b]? = some (.cells cs T (0, 0))) (hv : cs[o]? = some v) (h : OwnW w B v ws) :
    Calls Tryz.prog 150 #[.pointer (some ⟨b, o, none⟩), .int .i64 at_] w fun e w' => e = .returned (.int .u64 ((ws.getD at_ 0 : Nat) : Int)) ∧ w' = w := by
  have hc : w.cell? ⟨b, o, none⟩ = some v := by rw [cell_at hb]; exact hv
  obtain ⟨ao, cap, rfl, hw⟩ := h.form
  go_enter Tryz.func150, Tryz.ntmps150
  by_cases hlt : at_ < ws.length
  · obtain ⟨x, hx⟩ : ∃ x, ws[at_]? = some x := ⟨_, List.getElem?_eq_getElem hlt⟩
    obtain ⟨g, rfl, hg, _⟩ := hw at_ x hx
    have e : ws.getD at_ 0 = x := by simp [hx]
    go_wp2
    go_ret
    exact ⟨by rw [e]; rfl, rfl⟩
  · have e : ws.getD at_ 0 = 0 := by simp [List.getElem?_eq_none (Nat.le_of_not_lt hlt)]
    go_wp2
    go_ret
    exact ⟨by rw [e]; rfl, rfl⟩

theorem info64 : (Tryz.prog.info? 186).map (fun i => (i.zero, i.size, i.bytes)) = some (some (.int .u64 0), 1, 8) := by kernel_rfl

/-- Words that are not there are 0. -/
def padW (ws : List Nat) (size : Nat) : List Nat := ws ++ List.replicate (size - ws.length) 0
theorem padW_get (ws : List Nat) (size k : Nat) : (padW ws size).getD k 0 = ws.getD k 0 := by
  unfold padW
  simp only [List.getD_eq_getElem?_getD]
  by_cases h : k < ws.length
  · rw [List.getElem?_append_left h]
  · rw [List.getElem?_append_right (by omega), List.getElem?_replicate, List.getElem?_eq_none (Nat.le_of_not_lt h)]
    split <;> rfl
theorem padW_has (ws : List Nat) (size k : Nat) : hasW (padW ws size) k = hasW ws k := by unfold hasW; rw [padW_get]
theorem padW_len (ws : List Nat) (size : Nat) : (padW ws size).length = max ws.length size := by simp [padW]; omega
theorem padW_zero {ws : List Nat} {size : Nat} (h : size ≤ ws.length) : padW ws size = ws := by simp [padW, Nat.sub_eq_zero_of_le h]
theorem padW_step {ws : List Nat} {k : Nat} (h : ws.length ≤ k) : padW ws (k + 1) = padW ws k ++ [0] := by
  unfold padW
  rw [List.append_assoc, show k + 1 - ws.length = (k - ws.length) + 1 by omega, List.replicate_succ']

/-- What holds at the head of each round of reach. -/
structure RcInv (w wr : World) (B b o : Nat) (cs : Array Value) (T : TypeId) (v : Value) (ws : List Nat) (k : Nat) (vk : Value) : Prop where
  le : ws.length ≤ k
  own : OwnW wr B vk (padW ws k)
  ch : SetCh w wr b o cs T v vk

def lenAt (w : World) (b o : Nat) : Nat := match w.cell? ⟨b, o, none⟩ with
  | some (.slice _ n _) => n
  | _ => 0
theorem cells_new' (w : World) (cs : Array Value) (T : TypeId) (xs : List Value) (h : cs.toList = xs) : ∀ j u, xs[j]? = some u → (w.alloc (.cells cs T)).cell? ((⟨w.heap.size, 0, none⟩ : Addr).add j) = some u := by
  intro j u hu
  have hadd : (⟨w.heap.size, 0, none⟩ : Addr).add j = ⟨w.heap.size, j, none⟩ := by unfold Addr.add; split <;> simp_all
  rw [hadd, cell_at (heap_new w _), ← Array.getElem?_toList, h]
  exact hu

set_option maxRecDepth 100000 in
theorem reach_any (B b o : Nat) (cs : Array Value) (T : TypeId) (v : Value) (ws : List Nat) (size : Nat) (w : World) (hB : B ≤ w.heap.size) (hT : T ≠ T64) (hb : w.heap[b]? = some (.cells cs T (0, 0))) (hv : cs[o]? = some v) (h : OwnW w B v ws) (hs : size ≤ 1000) :
    Calls Tryz.prog 148 #[.pointer (some ⟨b, o, none⟩), .int .i64 size] w fun e w' => e = .returned (.tuple #[]) ∧ ∃ v', OwnW w' B v' (padW ws size) ∧ SetCh w w' b o cs T v v' := by
  obtain ⟨i0, hi, hz0, hz1, hz2⟩ := info_parts info64
  have ho : o < cs.size := (Array.getElem?_eq_some_iff.1 hv).1
  go_enter Tryz.func148, Tryz.ntmps148
  go_wp2
  have H0 : Hid (RcInv w w B b o cs T v ws ws.length v) := hide ⟨Nat.le_refl _, by rw [padW_zero (Nat.le_refl _)]; exact h, SetCh.refl hb hv⟩
  clear h
  go_loopw [] (fun wr => ∃ (k : Nat) (vk : Value), (k = ws.length ∨ k ≤ size) ∧ RcInv w wr B b o cs T v ws k vk) (fun wr => size - lenAt wr b o)
  case atStart => exact ⟨ws.length, v, .inl rfl, H0.out⟩
  case round =>
    clear H0
    obtain ⟨k, vk, hk, hI⟩ := hrel
    have hle := hI.le
    have hpl : (padW ws k).length = k := by rw [padW_len]; omega
    obtain ⟨ao, cap, rfl, _⟩ := hI.own.form
    rw [hpl] at hI
    have hbr := hI.ch.blk
    have hc : wr.cell? ⟨b, o, none⟩ = some (.slice ao k cap) := by rw [cell_at hbr]; simp [ho]
    have hfz : wr.frozen? ⟨b, o, none⟩ = false := frozen_at hbr o
    have hm : lenAt wr b o = k := by unfold lenAt; rw [hc]
    by_cases hlt : k < size
    · have hsz := hI.ch.kb.size
      have hne : (Value.slice ao k cap).ownBlock ≠ some b := hI.own.ne hbr hT
      have hown := hI.own.alloc (.cells #[.int .u64 0] 186)
      have HI := hide hI
      have HM := hide hm
      have HN := hide hne
      have HB := hide hbr
      have HS1 : Hid (B ≤ (wr.alloc (.cells #[.int .u64 0] 186)).heap.size) := hide (by rw [World.size_alloc]; omega)
      have HS2 : Hid (b < (wr.alloc (.cells #[.int .u64 0] 186)).heap.size) := hide (by rw [World.size_alloc]; exact Nat.lt_succ_of_lt (lt_of_heap hbr))
      have HS3 : Hid ((cs.setIfInBounds o (.slice ao k cap))[o]? = some (.slice ao k cap)) := hide (by simp [ho])
      have hrow := hown.1
      rw [hpl] at hrow
      have HR := hide hrow
      clear hI hm hne hbr hown hrow
      go_wp2_with (first
        | (at_builtin; go_loud (refine wpList_append_lies _ rfl (.tmp 15) (.tmp 16) 110 rfl B 186 i0 (.int .u64 0) 1 8 Tryz.underlying110 hi hz0 hz1 hz2 rfl (by decide) (.slice ao k cap) k (u64s (padW ws k)) (by simp [Act.eval]) HR.out ⟨wr.heap.size, 0, none⟩ 1 1 [.int .u64 0] (by simp [Act.eval]) rfl (cells_new' wr #[.int .u64 0] 186 [.int .u64 0] rfl) (by intro u hu; rw [List.mem_singleton.1 hu]; rfl) (by decide) (by unfold maxLen; omega) (by omega) HS1.out _ rfl ?_; intro g cp w2 hw2 hg hbk hgl; have hcb : w2.heap[b]? = some (.cells (cs.setIfInBounds o (.slice ao k cap)) T (0, 0)) := (hg.block b HS2.out (fun e => HN.out e.symm)).trans (heap_old HB.out _); have hc2 : w2.cell? ⟨b, o, none⟩ = some (.slice ao k cap) := (cell_at hcb o).trans HS3.out; have hf2 : w2.frozen? ⟨b, o, none⟩ = false := frozen_at hcb o))
        | go_in)
      have HX : Hid (RcInv w (w2.setCell ⟨b, o, none⟩ (.slice (some ⟨g, 0, none⟩) (k + 1) cp)) B b o cs T v ws (k + 1) (.slice (some ⟨g, 0, none⟩) (k + 1) cp)) := by
        have hgne : g ≠ b := by
          rcases hbk with e | e
          · intro e2
            subst e2
            exact HN.out e
          · have := lt_of_heap HB.out
            simp at e
            omega
        refine hide ⟨by omega, ?_, ?_⟩
        · have hO : OwnW w2 B (.slice (some ⟨g, 0, none⟩) (k + 1) cp) (padW ws (k + 1)) := by
            rw [padW_step hle]
            refine ⟨?_, fun x hx => ?_⟩
            · have e1 : u64s (padW ws k ++ [0]) = u64s (padW ws k) ++ [.int .u64 0] := by simp [u64s]
              rw [e1, List.length_append, hpl]
              exact hw2
            · rcases List.mem_append.1 hx with hx | hx
              · exact HI.out.own.2 x hx
              · rw [List.mem_singleton.1 hx]
                decide
          exact hO.kb ((Kb.refl [b] w2).setCell (p := ⟨b, o, none⟩) (.inl (by simp)) _) (by intro x hx; rw [List.mem_singleton.1 hx]; intro e; cases e; exact hgne rfl)
        · refine HI.out.ch.trans ⟨?_, ?_, ?_⟩
          · rw [heap_set hcb]
          · refine (((Kb.refl _ wr).alloc _).grown hg (fun x hx => ?_)).setCell (p := ⟨b, o, none⟩) (.inl (by simp)) _
            exact .inl (by simp [hx])
          · rcases hbk with e | e
            · exact .inl e.symm
            · refine .inr ⟨g, rfl, ?_⟩
              simp at e
              omega
      have HL : Hid (lenAt (w2.setCell ⟨b, o, none⟩ (.slice (some ⟨g, 0, none⟩) (k + 1) cp)) b o = k + 1) := by
        refine hide ?_
        unfold lenAt
        rw [cell_at (heap_set hcb o _)]
        simp [ho]
      clear hw2 hg hbk hgl hcb HR HB HN
      go_wp2
      go_roundw
      case rel => exact ⟨k + 1, _, .inr (by omega), HX.out⟩
      case measure => rw [HL.out, HM.out]; omega
    · have HI := hide hI
      clear hI
      go_wp2
      go_end0
      refine ⟨rfl, _, ?_, HI.out.ch⟩
      have e : padW ws size = padW ws k := by
        rcases hk with rfl | hk
        · rw [padW_zero (Nat.le_of_not_lt hlt), padW_zero (Nat.le_refl _)]
        · rw [show k = size by omega]
      rw [e]
      exact HI.out.own

end Go.Proofs.YtiamlbhkiehilaaGreatDoor

namespace Go.Proofs.YtiamlbhkiehilaaGreatDoor
open Go.RowKit

/-- A slice of words that stands for a set. -/
def SetV (w : World) (B : Nat) (v : Value) (s : List Nat) : Prop := ∃ ws, ws.length ≤ 2 ∧ OwnW w B v ws ∧ s = mkS (hasW ws)

theorem SetV.kb {w w' : World} {B : Nat} {v : Value} {s : List Nat} {L : List Nat} (h : SetV w B v s) (hk : Kb L w w') (hl : ∀ g ∈ L, v.ownBlock ≠ some g) : SetV w' B v s := by
  obtain ⟨ws, h1, h2, h3⟩ := h
  exact ⟨ws, h1, h2.kb hk hl, h3⟩
theorem SetV.nil (w : World) (B : Nat) : SetV w B (.slice none 0 0) [] := ⟨[], by simp, OwnW.nil w B, by simp [mkS, hasW]⟩
theorem SetV.ne {w : World} {B b : Nat} {v : Value} {s : List Nat} {cs : Array Value} {T : TypeId} {fz : Nat × Nat} (h : SetV w B v s) (hb : w.heap[b]? = some (.cells cs T fz)) (hT : T ≠ T64) : v.ownBlock ≠ some b := by
  obtain ⟨ws, _, h2, _⟩ := h
  exact h2.ne hb hT
theorem SetV.lt {w : World} {B : Nat} {v : Value} {s : List Nat} (h : SetV w B v s) {g : Nat} (hg : v.ownBlock = some g) : B ≤ g ∧ g < w.heap.size := by
  obtain ⟨ws, _, h2, _⟩ := h
  exact h2.lt hg

theorem mkS_contains {p : Nat → Bool} {n : Nat} (hn : n < 128) : (mkS p).contains n = p n := by
  rw [Bool.eq_iff_iff, List.contains_iff_mem, mem_mkS]
  exact ⟨fun h => h.2, fun h => ⟨hn, h⟩⟩
theorem mkS_congr {p q : Nat → Bool} (h : ∀ k, k < 128 → p k = q k) : mkS p = mkS q := by
  unfold mkS
  refine List.filter_congr fun k hk => h k (by simpa using hk)

theorem and_pow {x m : Nat} : (x &&& 2 ^ m = 0) ↔ x.testBit m = false := by
  constructor
  · intro h
    have h2 : (x &&& 2 ^ m).testBit m = false := by rw [h]; simp
    rw [Nat.testBit_and, Nat.testBit_two_pow_self] at h2
    simpa using h2
  · intro h
    apply Nat.eq_of_testBit_eq
    intro i
    rw [Nat.testBit_and, Nat.testBit_two_pow, Nat.zero_testBit]
    by_cases e : m = i
    · subst e; simp [h]
    · simp [e]

theorem set_getD (ws : List Nat) (i x k : Nat) (hi : i < ws.length) : (ws.set i x).getD k 0 = if k = i then x else ws.getD k 0 := by
  simp only [List.getD_eq_getElem?_getD]
  by_cases h : k = i
  · subst h; simp [hi]
  · rw [List.getElem?_set_ne (Ne.symm h)]; simp [h]

theorem hasW_or {ws : List Nat} {n q bt x : Nat} (hq : q = n / 64) (hbt : bt = 2 ^ (n % 64)) (hx : ws[q]? = some x) (k : Nat) : hasW (ws.set q (x ||| bt)) k = (k == n || hasW ws k) := by
  subst hq hbt
  have hn := (List.getElem?_eq_some_iff.1 hx).1
  unfold hasW
  rw [set_getD _ _ _ _ hn]
  by_cases h : k / 64 = n / 64
  · rw [if_pos h, Nat.testBit_or, Nat.testBit_two_pow, h]
    have e1 : ws.getD (n / 64) 0 = x := by simp [hx]
    rw [e1]
    by_cases e : n % 64 = k % 64
    · have : k = n := by omega
      subst this
      simp
    · have : k ≠ n := fun e2 => e (by rw [e2])
      simp [e, this]
  · rw [if_neg h]
    have : k ≠ n := fun e2 => h (by rw [e2])
    simp [this]

theorem hasW_at {ws : List Nat} {n q x : Nat} (hq : q = n / 64) (hx : ws[q]? = some x) : hasW ws n = x.testBit (n % 64) := by
  subst hq
  unfold hasW
  simp [hx]

theorem new_bit {x n bt : Nat} (hbt : bt = 2 ^ (n % 64)) : decide (x &&& bt = 0) = !x.testBit (n % 64) := by
  subst hbt
  by_cases e : x &&& 2 ^ (n % 64) = 0
  · simp [e, and_pow.1 e]
  · cases ht : x.testBit (n % 64)
    · exact absurd (and_pow.2 ht) e
    · simp [e]

theorem beq0 (m : Nat) : (((m : Nat) : Int) == 0) = decide (m = 0) := by
  rw [Bool.eq_iff_iff]
  simp

theorem or_lt64 {x y : Nat} (hx : x < 18446744073709551616) (hy : y < 18446744073709551616) : x ||| y < 18446744073709551616 := Nat.or_lt_two_pow (n := 64) hx hy
theorem pow64 (n : Nat) : 2 ^ (n % 64) < 18446744073709551616 := Nat.lt_of_lt_of_le (Nat.pow_lt_pow_right (by omega) (Nat.mod_lt n (by omega))) (by decide)

set_option maxRecDepth 100000 in
theorem sadd_any (B b o : Nat) (cs : Array Value) (T : TypeId) (v : Value) (s : List Nat) (n : Nat) (w : World) (hB : B ≤ w.heap.size) (hT : T ≠ T64) (hb : w.heap[b]? = some (.cells cs T (0, 0))) (hv : cs[o]? = some v) (h : SetV w B v s) (hn : n < 128) :
    Calls Tryz.prog 108 #[.pointer (some ⟨b, o, none⟩), .int .u64 n] w fun e w' => e = .returned (.bool (!s.contains n)) ∧ ∃ v', SetV w' B v' (addS n s) ∧ SetCh w w' b o cs T v v' := by
  obtain ⟨ws, hl, hO, rfl⟩ := h
  have ho : o < cs.size := (Array.getElem?_eq_some_iff.1 hv).1
  obtain ⟨q, hq⟩ : ∃ q, q = n / 64 := ⟨_, rfl⟩
  obtain ⟨bt, hbt⟩ : ∃ bt, bt = 2 ^ (n % 64) := ⟨_, rfl⟩
  have hp : bt < 18446744073709551616 := by rw [hbt]; exact pow64 n
  have hq2 : q ≤ 1 := by omega
  have HP := splace_any n q bt hn hq hbt w
  have HQ := hide (And.intro hq hbt)
  clear hq hbt
  go_enter Tryz.func108, Tryz.ntmps108
  go_wp2_with fail
  refine HP.mono ?_
  clear HP
  rintro e w' ⟨rfl, rfl⟩
  go_wp2_with fail
  refine (reach_any B b o cs T v ws (q + 1) w' hB hT hb hv hO (by omega)).mono ?_
  rintro e w1 ⟨rfl, v1, hO1, hC1⟩
  have hpl := padW_len ws (q + 1)
  have HH : Hid (∀ k, hasW (padW ws (q + 1)) k = hasW ws k) := padW_has ws (q + 1)
  have hL2 : (padW ws (q + 1)).length ≤ 2 := by omega
  have hlt : q < (padW ws (q + 1)).length := by omega
  generalize padW ws (q + 1) = wp at *
  clear hpl hl hO
  obtain ⟨x, hx⟩ : ∃ x, wp[q]? = some x := ⟨_, List.getElem?_eq_getElem hlt⟩
  obtain ⟨ao, cap, rfl, hw⟩ := hO1.form
  obtain ⟨g, rfl, hg, hgf⟩ := hw _ x hx
  have hxl : x < 18446744073709551616 := hO1.2 x (List.mem_of_getElem? hx)
  have hbr := hC1.blk
  have hc : w1.cell? ⟨b, o, none⟩ = some (.slice (some ⟨g, 0, none⟩) wp.length cap) := by rw [cell_at hbr]; simp [ho]
  have hgb : g ≠ b := fun e => hO1.ne hbr hT (by rw [e]; rfl)
  have HF : Hid (SetV (w1.setCell ⟨g, q, none⟩ (.int .u64 ((x ||| bt : Nat) : Int))) B (.slice (some ⟨g, 0, none⟩) wp.length cap) (addS n (mkS (hasW ws))) ∧ SetCh w' (w1.setCell ⟨g, q, none⟩ (.int .u64 ((x ||| bt : Nat) : Int))) b o cs T v (.slice (some ⟨g, 0, none⟩) wp.length cap)) := by
    refine hide ⟨⟨wp.set q (x ||| bt), by rw [List.length_set]; omega, hO1.set _ _ (or_lt64 hxl hp), ?_⟩, hC1.trans ⟨?_, (Kb.refl _ _).setCell (p := ⟨g, q, none⟩) (.inl (by simp [Value.ownBlock])) _, .inl rfl⟩⟩
    · unfold addS
      refine mkS_congr fun k hk => ?_
      rw [hasW_or HQ.out.1 HQ.out.2 hx, mkS_contains hk, HH.out]
    · have e2 : (w1.setCell ⟨g, q, none⟩ (.int .u64 ((x ||| bt : Nat) : Int))).heap[b]? = w1.heap[b]? := Below.heap_setCell _ _ _ _ (fun e => hgb e.symm)
      rw [e2, hbr, set_set']
  have HE : Hid ((!(mkS (hasW ws)).contains n) = decide (x &&& bt = 0)) := by
    refine hide ?_
    rw [mkS_contains hn, ← HH.out, hasW_at HQ.out.1 hx, new_bit HQ.out.2]
  have HX := hide hx
  have hand := u64_and_nat x bt hxl hp
  have hor := u64_or_nat x bt hxl hp
  generalize wp.length = L at *
  clear hO1 hC1 hw hbr hx
  go_wp2
  go_ret
  refine ⟨?_, _, HF.out⟩
  rw [HE.out, ← beq0]
  rfl

end Go.Proofs.YtiamlbhkiehilaaGreatDoor

namespace Go.Proofs.YtiamlbhkiehilaaGreatDoor
open Go.RowKit

/-- Two slices of words share nothing. -/
def Apart (v v2 : Value) : Prop := ∀ g, v.ownBlock = some g → v2.ownBlock ≠ some g
theorem Apart.symm {v v2 : Value} (h : Apart v v2) : Apart v2 v := fun g h1 h2 => h g h2 h1

/-- Another cell with words abides. -/
theorem SetCh.other {w w' : World} {B b o b2 o2 : Nat} {cs cs2 : Array Value} {T T2 : TypeId} {v v' v2 : Value} {ws : List Nat} (h : SetCh w w' b o cs T v v') (hb : w.heap[b]? = some (.cells cs T (0, 0))) (hO : OwnW w B v ws) (hb2 : w.heap[b2]? = some (.cells cs2 T2 (0, 0))) (hv2 : cs2[o2]? = some v2) (hT2 : T2 ≠ T64) (hne : b2 ≠ b ∨ o2 ≠ o) : ∃ cs2', w'.heap[b2]? = some (.cells cs2' T2 (0, 0)) ∧ cs2'[o2]? = some v2 := by
  by_cases e : b2 = b
  · subst e
    rw [hb] at hb2
    injection hb2 with hb2
    injection hb2 with e1 e2 _
    subst e1 e2
    refine ⟨_, h.blk, ?_⟩
    rw [Array.getElem?_setIfInBounds, if_neg (fun e => (hne.resolve_left (by simp)) e.symm)]
    exact hv2
  · refine ⟨cs2, h.kb.heap hb2 ?_, hv2⟩
    intro hm
    rcases List.mem_cons.1 hm with e1 | hm
    · exact e e1
    · simp at hm
      exact hO.ne hb2 hT2 hm
theorem SetCh.apart {w w' : World} {B b o : Nat} {cs : Array Value} {T : TypeId} {v v' v2 : Value} {ws2 : List Nat} (h : SetCh w w' b o cs T v v') (hb : w.heap[b]? = some (.cells cs T (0, 0))) (hT : T ≠ T64) (h2 : OwnW w B v2 ws2) (ha : Apart v v2) : OwnW w' B v2 ws2 ∧ Apart v' v2 := by
  refine ⟨h2.kb h.kb ?_, ?_⟩
  · intro g hg
    rcases List.mem_cons.1 hg with rfl | hg
    · exact h2.ne hb hT
    · simp at hg
      exact ha g hg
  · intro g hg
    rcases h.lies with e | ⟨g', e, hg'⟩
    · exact ha g (by rw [← e]; exact hg)
    · rw [e] at hg
      cases hg
      intro e2
      have := (h2.lt e2).2
      omega
theorem SetV.apart {w w' : World} {B b o : Nat} {cs : Array Value} {T : TypeId} {v v' v2 : Value} {s2 : List Nat} (h : SetCh w w' b o cs T v v') (hb : w.heap[b]? = some (.cells cs T (0, 0))) (hT : T ≠ T64) (h2 : SetV w B v2 s2) (ha : Apart v v2) : SetV w' B v2 s2 ∧ Apart v' v2 := by
  obtain ⟨ws, h1, h3, h4⟩ := h2
  obtain ⟨k1, k2⟩ := h.apart hb hT h3 ha
  exact ⟨⟨ws, h1, k1, h4⟩, k2⟩

theorem has_any (B b o : Nat) (cs : Array Value) (T : TypeId) (v : Value) (s : List Nat) (n : Nat) (w : World) (hb : w.heap[b]? = some (.cells cs T (0, 0))) (hv : cs[o]? = some v) (h : SetV w B v s) (hn : n < 128) :
    Calls Tryz.prog 178 #[.pointer (some ⟨b, o, none⟩), .int .u64 n] w fun e w' => e = .returned (.bool (s.contains n)) ∧ w' = w := by
  obtain ⟨ws, hl, hO, rfl⟩ := h
  obtain ⟨q, hq⟩ : ∃ q, q = n / 64 := ⟨_, rfl⟩
  obtain ⟨bt, hbt⟩ : ∃ bt, bt = 2 ^ (n % 64) := ⟨_, rfl⟩
  have hp : bt < 18446744073709551616 := by rw [hbt]; exact pow64 n
  have HP := splace_any n q bt hn hq hbt w
  have HE : Hid ((mkS (hasW ws)).contains n = !decide (ws.getD q 0 &&& bt = 0)) := by
    refine hide ?_
    rw [mkS_contains hn, new_bit hbt, Bool.not_not]
    subst hq
    rfl
  have HQ := hide (And.intro hq hbt)
  clear hq hbt
  have hxl : ws.getD q 0 < 18446744073709551616 := by
    rw [List.getD_eq_getElem?_getD]
    cases hx : ws[q]? with
    | none => simp
    | some x => simpa using hO.2 x (List.mem_of_getElem? hx)
  have HW := word_any B b o cs T v ws q w hb hv hO
  clear hO
  generalize ws.getD q 0 = x at *
  have hand := u64_and_nat x bt hxl hp
  go_enter Tryz.func178, Tryz.ntmps178
  go_wp2_with fail
  refine HP.mono ?_
  clear HP
  rintro e w' ⟨rfl, rfl⟩
  go_wp2_with fail
  refine HW.mono ?_
  clear HW
  rintro e w1 ⟨rfl, rfl⟩
  go_wp2
  go_ret
  refine ⟨?_, rfl⟩
  rw [HE.out, ← beq0]
  rfl

end Go.Proofs.YtiamlbhkiehilaaGreatDoor

namespace Go.Proofs.YtiamlbhkiehilaaGreatDoor
open Go.RowKit

abbrev TN : TypeId := 144

/-- Numbers in memory of their own. -/
def OwnN (w : World) (B : Nat) (v : Value) (ws : List Nat) : Prop := w.ownsRow B TN 1 v ws.length (u64s ws) ∧ ∀ x ∈ ws, x < 18446744073709551616

theorem OwnN.lt {w : World} {B : Nat} {v : Value} {ws : List Nat} (h : OwnN w B v ws) {g : Nat} (hg : v.ownBlock = some g) : B ≤ g ∧ g < w.heap.size := by
  rcases h.1.2 with ⟨rfl, _⟩ | ⟨g', cap, cur, rfl, hb, hh, _⟩
  · cases hg
  · cases hg
    exact ⟨hb, lt_of_heap hh⟩
theorem OwnN.kb {w w' : World} {B : Nat} {v : Value} {ws : List Nat} {L : List Nat} (h : OwnN w B v ws) (hk : Kb L w w') (hl : ∀ g ∈ L, v.ownBlock ≠ some g) : OwnN w' B v ws := by
  refine ⟨⟨h.1.1, ?_⟩, h.2⟩
  rcases h.1.2 with h2 | ⟨g, cap, cur, hv, hg, hh, r⟩
  · exact .inl h2
  · exact .inr ⟨g, cap, cur, hv, hg, hk.heap hh (fun hm => hl g hm (by rw [hv]; rfl)), r⟩
theorem OwnN.ne {w : World} {B b : Nat} {v : Value} {ws : List Nat} {cs : Array Value} {T : TypeId} {fz : Nat × Nat} (h : OwnN w B v ws) (hb : w.heap[b]? = some (.cells cs T fz)) (hT : T ≠ TN) : v.ownBlock ≠ some b := by
  intro e
  rcases h.1.2 with ⟨rfl, _⟩ | ⟨g, cap, cur, rfl, _, hh, _⟩
  · cases e
  · cases e
    rw [hb] at hh
    injection hh with hh
    injection hh with _ h2 _
    exact hT h2
/-- As a row: nil, or a block. -/
theorem OwnN.form {w : World} {B : Nat} {v : Value} {ws : List Nat} (h : OwnN w B v ws) : ∃ ao cap, v = .slice ao ws.length cap ∧ (∀ (j x : Nat), ws[j]? = some x → ∃ g, ao = some ⟨g, 0, none⟩ ∧ w.cell? ⟨g, j, none⟩ = some (.int .u64 (x : Int)) ∧ w.frozen? ⟨g, j, none⟩ = false) := by
  rcases h.1.2 with ⟨rfl, h0⟩ | ⟨g, cap, cur, rfl, _, hh, h1, h2, h3, h4⟩
  · refine ⟨none, 0, by rw [h0], fun j x hx => ?_⟩
    have := (List.getElem?_eq_some_iff.1 hx).1
    omega
  · refine ⟨some ⟨g, 0, none⟩, cap, rfl, fun j x hx => ⟨g, rfl, ?_, frozen_at hh j⟩⟩
    have hj := (List.getElem?_eq_some_iff.1 hx).1
    rw [cell_at hh, ← Array.getElem?_toList]
    have e := u64s_get hx
    rw [← h4, Nat.mul_one, List.getElem?_take_of_lt hj] at e
    exact e
theorem OwnN.set {w : World} {B g n cap : Nat} {ws : List Nat} (h : OwnN w B (.slice (some ⟨g, 0, none⟩) n cap) ws) (j x : Nat) (hx : x < 18446744073709551616) : OwnN (w.setCell ⟨g, j, none⟩ (.int .u64 (x : Int))) B (.slice (some ⟨g, 0, none⟩) n cap) (ws.set j x) := by
  refine ⟨⟨by simp [u64s], ?_⟩, fun y hy => ?_⟩
  · rcases h.1.2 with ⟨e, _⟩ | ⟨g', cap', cur, e, hb, hh, h1, h2, h3, h4⟩
    · cases e
    · injection e with e1 e2 e3
      injection e1 with e1
      injection e1 with e1
      subst e1 e2 e3
      rw [List.length_set]
      refine .inr ⟨g, cap, cur.setIfInBounds j (.int .u64 (x : Int)), rfl, hb, heap_set hh j _, h1, h2, by simpa using h3, ?_⟩
      rw [Array.toList_setIfInBounds, ← u64s_set, ← h4, List.take_set]
  · rcases List.mem_or_eq_of_mem_set hy with hy | rfl
    · exact h.2 y hy
    · exact hx
theorem OwnN.drew {w : World} {B : Nat} {v : Value} {ws : List Nat} (h : OwnN w B v ws) (n : Nat) : OwnN (w.drewN n) B v ws := h
theorem OwnN.alloc {w : World} {B : Nat} {v : Value} {ws : List Nat} (h : OwnN w B v ws) (o : Obj) : OwnN (w.alloc o) B v ws := h.kb ((Kb.refl [] w).alloc o) (by simp)
theorem OwnN.nil (w : World) (B : Nat) : OwnN w B (.slice none 0 0) [] := ⟨⟨rfl, .inl ⟨rfl, rfl⟩⟩, by simp⟩


theorem OwnN.of_row {w : World} {B : Nat} {v : Value} {xs : List Nat} {n : Nat} (h : w.ownsRow B TN 1 v n (u64s xs)) (hn : n = xs.length) (hx : ∀ x ∈ xs, x < 18446744073709551616) : OwnN w B v xs := by
  subst hn
  exact ⟨h, hx⟩

/-! Who stands for whom -/
def topF (ab : List Nat) : Nat → Nat → Nat
  | 0, n => n
  | k + 1, n => match ab[n]? with
    | some x => if x = n then n else topF ab k x
    | none => n
def topOf (ab : List Nat) (n : Nat) : Nat := topF ab (n + 1) n
def Down (ab : List Nat) : Prop := ∀ (i x : Nat), ab[i]? = some x → x ≤ i

theorem topF_more {ab : List Nat} (h : Down ab) : ∀ (n k : Nat), n + 1 ≤ k → topF ab k n = topF ab (n + 1) n := by
  intro n
  induction n using Nat.strongRecOn with
  | _ n ih =>
    intro k hk
    obtain ⟨k, rfl⟩ : ∃ j, k = j + 1 := ⟨k - 1, by omega⟩
    simp only [topF]
    cases hx : ab[n]? with
    | none => rfl
    | some x =>
      simp only []
      by_cases e : x = n
      · rw [if_pos e, if_pos e]
      · have := h n x hx
        rw [if_neg e, if_neg e, ih x (by omega) k (by omega), ih x (by omega) n (by omega)]
theorem topOf_step {ab : List Nat} (h : Down ab) {n x : Nat} (hx : ab[n]? = some x) : topOf ab n = if x = n then n else topOf ab x := by
  unfold topOf
  have h2 := h n x hx
  rw [topF, hx]
  simp only []
  by_cases e : x = n
  · rw [if_pos e, if_pos e]
  · rw [if_neg e, if_neg e]
    exact topF_more h x n (by omega)
theorem topOf_none {ab : List Nat} {n : Nat} (hx : ab[n]? = none) : topOf ab n = n := by
  unfold topOf
  rw [topF, hx]
theorem topOf_le {ab : List Nat} (h : Down ab) : ∀ (n : Nat), topOf ab n ≤ n := by
  intro n
  induction n using Nat.strongRecOn with
  | _ n ih =>
    cases hx : ab[n]? with
    | none => rw [topOf_none hx]; exact Nat.le_refl _
    | some x =>
      rw [topOf_step h hx]
      have := h n x hx
      by_cases e : x = n
      · rw [if_pos e]; exact Nat.le_refl _
      · rw [if_neg e]
        have := ih x (by omega)
        omega
theorem topOf_top {ab : List Nat} (h : Down ab) : ∀ (n : Nat), topOf ab (topOf ab n) = topOf ab n := by
  intro n
  induction n using Nat.strongRecOn with
  | _ n ih =>
    cases hx : ab[n]? with
    | none => rw [topOf_none hx, topOf_none hx]
    | some x =>
      have := h n x hx
      have e1 := topOf_step h hx
      by_cases e : x = n
      · rw [if_pos e] at e1
        rw [e1, e1]
      · rw [if_neg e] at e1
        rw [e1]
        exact ih x (by omega)
theorem topOf_at {ab : List Nat} (h : Down ab) {n x : Nat} (hx : ab[topOf ab n]? = some x) : x = topOf ab n := by
  have h1 := topOf_step h hx
  rw [topOf_top h] at h1
  by_cases e : x = topOf ab n
  · exact e
  · rw [if_neg e] at h1
    have h2 := h _ _ hx
    have h3 := topOf_le h x
    omega

/-- One entry is turned to another that leads to i. -/
theorem topOf_set {ab : List Nat} (h : Down ab) {j i : Nat} (hj : j < ab.length) (hi : topOf ab i = i) (hij : i ≤ j) : Down (ab.set j i) ∧ (∀ m, topOf ab j = i → topOf (ab.set j i) m = topOf ab m) ∧ (topOf ab j = j → ∀ m, topOf (ab.set j i) m = if topOf ab m = j then i else topOf ab m) := by
  have hD : Down (ab.set j i) := by
    intro m x hx
    rw [List.getElem?_set] at hx
    split at hx
    · rename_i e
      subst e
      injection hx with hx
      omega
    · exact h m x hx
  refine ⟨hD, fun m he => ?_, fun he m => ?_⟩
  · induction m using Nat.strongRecOn with
    | _ m ih =>
      by_cases e : m = j
      · subst e
        have hx : (ab.set m i)[m]? = some i := by simp [hj]
        rw [topOf_step hD hx, he]
        by_cases e2 : i = m
        · rw [if_pos e2, e2]
        · rw [if_neg e2, ih i (by omega), hi]
      · have hx : (ab.set j i)[m]? = ab[m]? := List.getElem?_set_ne (Ne.symm e)
        cases hm : ab[m]? with
        | none => rw [topOf_none (hx.trans hm), topOf_none hm]
        | some x =>
          have := h m x hm
          rw [topOf_step hD (hx.trans hm), topOf_step h hm]
          by_cases e2 : x = m
          · rw [if_pos e2, if_pos e2]
          · rw [if_neg e2, if_neg e2, ih x (by omega)]
  · induction m using Nat.strongRecOn with
    | _ m ih =>
      by_cases e : m = j
      · subst e
        have hx : (ab.set m i)[m]? = some i := by simp [hj]
        rw [topOf_step hD hx, he, if_pos rfl]
        by_cases e2 : i = m
        · rw [if_pos e2, e2]
        · rw [if_neg e2, ih i (by omega), hi, if_neg e2]
      · have hx : (ab.set j i)[m]? = ab[m]? := List.getElem?_set_ne (Ne.symm e)
        cases hm : ab[m]? with
        | none => rw [topOf_none (hx.trans hm), topOf_none hm, if_neg e]
        | some x =>
          have := h m x hm
          rw [topOf_step hD (hx.trans hm), topOf_step h hm]
          by_cases e2 : x = m
          · rw [if_pos e2, if_pos e2, if_neg e]
          · rw [if_neg e2, if_neg e2, ih x (by omega)]

theorem topOf_snoc {ab : List Nat} (h : Down ab) : Down (ab ++ [ab.length]) ∧ ∀ m, topOf (ab ++ [ab.length]) m = topOf ab m := by
  have hD : Down (ab ++ [ab.length]) := by
    intro i x hx
    by_cases e : i < ab.length
    · rw [List.getElem?_append_left e] at hx
      exact h i x hx
    · rw [List.getElem?_append_right (by omega)] at hx
      have := (List.getElem?_eq_some_iff.1 hx).1
      simp at this
      have e2 : i = ab.length := by omega
      subst e2
      simp at hx
      omega
  refine ⟨hD, fun m => ?_⟩
  induction m using Nat.strongRecOn with
  | _ m ih =>
    by_cases e : m < ab.length
    · have hx : (ab ++ [ab.length])[m]? = ab[m]? := List.getElem?_append_left e
      obtain ⟨x, hm⟩ : ∃ x, ab[m]? = some x := ⟨_, List.getElem?_eq_getElem e⟩
      have := h m x hm
      rw [topOf_step hD (hx.trans hm), topOf_step h hm]
      by_cases e2 : x = m
      · rw [if_pos e2, if_pos e2]
      · rw [if_neg e2, if_neg e2, ih x (by omega)]
    · rw [topOf_none (List.getElem?_eq_none (Nat.le_of_not_lt e) : ab[m]? = none)]
      by_cases e2 : m = ab.length
      · subst e2
        have hx : (ab ++ [ab.length])[ab.length]? = some ab.length := by simp
        rw [topOf_step hD hx, if_pos rfl]
      · exact topOf_none (List.getElem?_eq_none (by simp; omega))

/-- Entries that say who stands for whom. -/
structure ClsR (ab : List Nat) (rep : Nat → Nat) : Prop where
  down : Down ab
  top : ∀ m, topOf ab m = rep m
  small : ab.length ≤ 128
theorem ClsR.nil : ClsR [] id := ⟨fun i x hx => by simp at hx, fun m => topOf_none (by simp), by simp⟩

end Go.Proofs.YtiamlbhkiehilaaGreatDoor
