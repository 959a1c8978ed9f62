import Derived.Test.YtiamlbhkiehilaaDoorRows
import Derived.Test.YtiamlbhkiehilaaDoorSpec
import Derived.WalkSpells
import Derived.WalkLawsBesides
import Derived.Test.YtiamlbhkiehilaaDoorFrame
import Derived.RegionTactic
import Derived.ChangeAlike
namespace Go.Proofs.YtiamlbhkiehilaaDoor
open Go.RowKit Go.Maps Go.WideMaps

theorem law_str : Keyed Tryd.prog 9 := string_keyed Tryd.underlying9

set_option maxHeartbeats 400000 in
theorem newTally_any (w : World) :
    Calls Tryd.prog 29 #[] w fun e w' => e = .returned (.pointer (some ⟨w.heap.size + 1, 0, none⟩)) ∧ w' = (w.alloc (.map #[] 0)).alloc (.cells #[.int .i64 0, .map (some w.heap.size)] 73) := by
  have hmm := @run_makeMap Tryd.prog
  go_enter Tryd.func29, Tryd.ntmps29
  go_wp2
  go_ret
  exact ⟨rfl, rfl⟩

/-- A tally in block tb, its map in block bm. -/
def IsTally (tb bm n c : Nat) (ks : List Lit) (w : World) : Prop :=
  w.heap[tb]? = some (.cells #[.int .i64 n, .map (some bm)] 73 (0, 0)) ∧ w.ownsMap Tryd.prog 9 (unitElem (H := Unit)) bm c (setU ks)

set_option maxHeartbeats 400000 in
theorem add_name (tb : Nat) (k : Int) (p q : ByteArray) (w : World) (h : 12 < p.size ∨ 12 < q.size) (hp : p.size ≤ maxLen) (hq : q.size ≤ maxLen) :
    Calls Tryd.prog 32 #[.pointer (some ⟨tb, 0, none⟩), .agg #[.int .i64 k, .string p, .string q]] w fun e w' => e = .returned (.int .i64 5) ∧ Below w.heap.size w w' := by
  unfold maxLen at hp hq
  by_cases h1 : 12 < p.size
  · go_enter Tryd.func32, Tryd.ntmps32
    go_wp2
    go_ret
    exact ⟨rfl, (Below.refl _ _).alloc (Nat.le_refl _) _⟩
  · have h2 : 12 < q.size := by omega
    go_enter Tryd.func32, Tryd.ntmps32
    go_wp2
    go_ret
    exact ⟨rfl, (Below.refl _ _).alloc (Nat.le_refl _) _⟩

set_option maxHeartbeats 400000 in
theorem add_many (tb bm c : Nat) (ks : List Lit) (k : Int) (p q : ByteArray) (w : World) (h1 : p.size ≤ 12) (h2 : q.size ≤ 12) (ht : IsTally tb bm 120 c ks w) :
    Calls Tryd.prog 32 #[.pointer (some ⟨tb, 0, none⟩), .agg #[.int .i64 k, .string p, .string q]] w fun e w' => e = .returned (.int .i64 6) ∧ Below w.heap.size w w' := by
  have c0 : ∀ o, (w.alloc o).cell? ⟨tb, 0, none⟩ = some (.int .i64 120) := fun o => by rw [cell_at (heap_old ht.1 o)]; rfl
  clear ht
  go_enter Tryd.func32, Tryd.ntmps32
  go_wp2
  go_ret
  exact ⟨rfl, (Below.refl _ _).alloc (Nat.le_refl _) _⟩

/-- What the first half of 'add' leaves: the count raised, the fact in a box of its own. -/
theorem add_facts {tb bm n c : Nat} {ks : List Lit} {w : World} (ht : IsTally tb bm n c ks w) (o : Obj) (v : Nat) :
    IsTally tb bm v c ks ((w.setCell ⟨tb, 0, none⟩ (.int .i64 v)).alloc o) ∧ Kb [tb, bm] w ((w.setCell ⟨tb, 0, none⟩ (.int .i64 v)).alloc o) := by
  obtain ⟨hh, hm⟩ := ht
  have hne : bm ≠ tb := by
    intro e
    obtain ⟨es, cl, hb, _⟩ := hm
    rw [e, hh] at hb
    cases hb
  have hs := heap_set hh 0 (.int .i64 v)
  refine ⟨⟨heap_old hs o, ?_⟩, ((Kb.refl _ _).setCell (Or.inl (by simp)) _).alloc _⟩
  have h2 : (w.setCell ⟨tb, 0, none⟩ (.int .i64 v)).ownsMap Tryd.prog 9 (unitElem (H := Unit)) bm c (setU ks) := hm.setCell (by simpa using hne) _
  exact Kb.ownsMap (l := []) ((Kb.refl _ _).alloc o) h2 (by simp)

/-- One more name in the set. -/
theorem put_one {tb bm n c : Nat} {ks : List Lit} {w : World} (ht : IsTally tb bm n c ks w) (hc : c < 2000) (s : ByteArray) (hs : s.size ≤ 12) :
    ∃ w1, (Instr.mapUpdate 71 (.map (some bm)) (.string s) (.agg #[])).run Tryd.prog w.drew = .ok () w1 ∧ IsTally tb bm n (c + 1) (ks ++ [keyS s]) w1 ∧ w.drew.grownBy w1 (some bm) := by
  obtain ⟨hh, hm⟩ := ht
  have hm' : w.drew.ownsMap Tryd.prog 9 (unitElem (H := Unit)) bm c (setU ks) := hm
  have hh' : w.drew.heap[tb]? = some (.cells #[.int .i64 n, .map (some bm)] 73 (0, 0)) := hh
  obtain ⟨w1, hr, ho, hg⟩ := hm'.update law_str Tryd.underlying71 (by unfold maxLen; omega) (keyOf_string_mk Tryd.underlying9 (s := s) (by unfold maxLen; omega)) (unitElem_mk (H := Unit))
  refine ⟨w1, hr, ⟨?_, ?_⟩, hg⟩
  · refine (hg.block tb (lt_of_heap hh') ?_).trans hh'
    intro e
    obtain ⟨es, cl, hb, _⟩ := hm
    rw [← Option.some.inj e, hh] at hb
    cases hb
  · have e : setU (ks ++ [keyS s]) = (setU ks).put (keyS s) (.agg []) := setOf_snoc _ _ _
    rw [e]
    exact ho

set_option maxRecDepth 100000 in
set_option maxHeartbeats 400000 in
theorem add_puts (tb bm n c : Nat) (ks : List Lit) (k : Int) (p q : ByteArray) (w : World) (h1 : p.size ≤ 12) (h2 : q.size ≤ 12) (hn : n < 120) (hc : c ≤ 1000) (ht : IsTally tb bm n c ks w) :
    Calls Tryd.prog 32 #[.pointer (some ⟨tb, 0, none⟩), .agg #[.int .i64 k, .string p, .string q]] w fun e w' =>
      (e = .returned (.int .i64 (if 40 < Maps.size (setU (ks ++ [keyS p, keyS q])) then 7 else 0))) ∧ Kb [tb, bm] w w' ∧ IsTally tb bm (n + 1) (c + 1 + 1) (ks ++ [keyS p, keyS q]) w' := by
  have c0 : ∀ o, (w.alloc o).cell? ⟨tb, 0, none⟩ = some (.int .i64 n) := fun o => by rw [cell_at (heap_old ht.1 o)]; rfl
  have f0 : ∀ o, (w.alloc o).frozen? ⟨tb, 0, none⟩ = false := fun o => frozen_at (heap_old ht.1 o) _
  have hlt := lt_of_heap ht.1
  obtain ⟨ht1, hk1⟩ := add_facts ht (.cells #[.int .i64 k, .string p, .string q] 48) (n + 1)
  have ec : ((n + 1 : Nat) : Int) = (n : Int) + 1 := by omega
  rw [ec] at ht1 hk1
  clear ec
  have hbm : bm < w.heap.size := by obtain ⟨es, cl, hb, _⟩ := ht.2; exact lt_of_heap hb
  obtain ⟨w1, hr1, ht2, hg1⟩ := put_one ht1 (by omega) p h1
  have c1 : ((w.setCell ⟨tb, 0, none⟩ (.int .i64 ((n : Int) + 1))).alloc (.cells #[.int .i64 k, .string p, .string q] 48)).cell? ⟨tb, 1, none⟩ = some (.map (some bm)) := by rw [cell_at ht1.1]; rfl
  obtain ⟨w2, hr2, ht3, hg2⟩ := put_one ht2 (by omega) q h2
  have c2 : w1.cell? ⟨tb, 1, none⟩ = some (.map (some bm)) := by rw [cell_at ht2.1]; rfl
  have hb1 : ((w.setCell ⟨tb, 0, none⟩ (.int .i64 ((n : Int) + 1))).alloc (.cells #[.int .i64 k, .string p, .string q] 48)).drew.heap[w.heap.size]? = some (.cells #[.int .i64 k, .string p, .string q] 48) := by
    have := heap_new (w.setCell ⟨tb, 0, none⟩ (.int .i64 ((n : Int) + 1))) (.cells #[.int .i64 k, .string p, .string q] 48)
    have e : (w.setCell ⟨tb, 0, none⟩ (.int .i64 ((n : Int) + 1))).heap.size = w.heap.size := by simp [World.setCell]
    rw [e] at this
    exact this
  have c3 : w1.cell? ⟨w.heap.size, 2, none⟩ = some (.string q) := by
    have h := (hg1.block w.heap.size (lt_of_heap hb1) (by simp; omega)).trans hb1
    rw [cell_at h]; rfl
  rw [List.append_assoc, List.singleton_append] at ht3
  have c4 : w2.cell? ⟨tb, 1, none⟩ = some (.map (some bm)) := by rw [cell_at ht3.1]; rfl
  have hk2 : Kb [tb, bm] w w2 := (((hk1.drew).grown hg1 (by intro x hx; cases hx; simp)).drew).grown hg2 (by intro x hx; cases hx; simp)
  have hm3 := ht3.2
  clear hb1 hg1 hg2 ht1 ht2 hk1
  go_enter Tryd.func32, Tryd.ntmps32
  go_wp2
  go_region
  go_wp2
  go_region
  go_wp2_with (first | (at_len; refine wpList_len_own _ rfl _ 71 rfl 9 77 Tryd.underlying71 (unitElem (H := Unit)) bm (c + 1 + 1) (setU (ks ++ [keyS p, keyS q])) rfl hm3 ?_) | go_in)
  all_goals
    go_ret
    exact ⟨rfl, hk2, ht3⟩

end Go.Proofs.YtiamlbhkiehilaaDoor
