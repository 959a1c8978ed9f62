import Derived.Test.YtiamlbhkiehilaaGreatDoorBk00
import Derived.Lib.OthersKept
import Derived.Deep.Quiet
import Derived.Maps.OwnSet
import Derived.Maps.Views
import Derived.Test.YtiamlbhkiehilaaGreatDoorRows
import Derived.WalkSpells
import Derived.WalkLawsBesides
import Derived.RegionTactic
import Derived.ChangeAlike
import Derived.WalkKit
import Derived.Laws.CopyOwn
import Derived.Deep.RegionLaw
namespace Go.Proofs.YtiamlbhkiehilaaGreatDoor
open Go.RowKit

/-- w' is w with new blocks and with writes to the listed blocks alone. -/
structure Kb (l : List Nat) (w w' : World) : Prop where
  os : w'.os = w.os
  tape : w'.tape = w.tape
  output : w'.output = w.output
  size : w.heap.size ≤ w'.heap.size
  block : ∀ k, k < w.heap.size → k ∉ l → w'.heap[k]? = w.heap[k]?

theorem Kb.refl (l : List Nat) (w : World) : Kb l w w := ⟨rfl, rfl, rfl, Nat.le_refl _, fun _ _ _ => rfl⟩

theorem Kb.trans {l : List Nat} {a b c : World} (h : Kb l a b) (k : Kb l b c) : Kb l a c :=
  ⟨k.os.trans h.os, k.tape.trans h.tape, k.output.trans h.output, Nat.le_trans h.size k.size, fun i hi hl => (k.block i (Nat.lt_of_lt_of_le hi h.size) hl).trans (h.block i hi hl)⟩

theorem Kb.mono {l l' : List Nat} {w w' : World} (h : Kb l w w') (hl : ∀ k, k < w.heap.size → k ∈ l → k ∈ l') : Kb l' w w' :=
  ⟨h.os, h.tape, h.output, h.size, fun k hk hn => h.block k hk (fun hm => hn (hl k hk hm))⟩

theorem Kb.drew {l : List Nat} {a w : World} (h : Kb l a w) : Kb l a w.drew := ⟨h.os, h.tape, h.output, h.size, h.block⟩

theorem Kb.drewN {l : List Nat} {a w : World} (h : Kb l a w) (n : Nat) : Kb l a (w.drewN n) := ⟨h.os, h.tape, h.output, h.size, h.block⟩

theorem Kb.alloc {l : List Nat} {a w : World} (h : Kb l a w) (o : Obj) : Kb l a (w.alloc o) :=
  h.trans ⟨rfl, rfl, rfl, by simp, fun k hk _ => Below.heap_alloc _ _ _ hk⟩

/-- A store into a listed block, or into one that is new. -/
theorem Kb.setCell {l : List Nat} {a w : World} (h : Kb l a w) {p : Addr} (hp : p.block ∈ l ∨ a.heap.size ≤ p.block) (u : Value) : Kb l a (w.setCell p u) := by
  refine ⟨h.os, h.tape, h.output, by simpa [World.setCell] using h.size, fun k hk hl => ?_⟩
  have hne : k ≠ p.block := by
    rcases hp with hp | hp
    · intro e
      exact hl (e ▸ hp)
    · omega
  exact (Below.heap_setCell _ _ _ _ hne).trans (h.block k hk hl)

theorem Kb.grown {l : List Nat} {a w w' : World} {row : Option Nat} (h : Kb l a w) (hg : w.grownBy w' row) (hr : ∀ k, row = some k → k ∈ l ∨ a.heap.size ≤ k) : Kb l a w' :=
  ⟨hg.os.trans h.os, hg.tape.trans h.tape, hg.output.trans h.output, Nat.le_trans h.size hg.size, fun k hk hl => (hg.block k (Nat.lt_of_lt_of_le hk h.size) (fun e => by
    rcases hr k e.symm with h1 | h1
    · exact hl h1
    · omega)).trans (h.block k hk hl)⟩

theorem Kb.of_below {w w' : World} (h : Below w.heap.size w w') (l : List Nat) : Kb l w w' := ⟨h.os, h.tape, h.output, h.size, fun k hk _ => h.block k hk⟩

theorem Kb.below {l : List Nat} {w w' : World} (h : Kb l w w') {B : Nat} (hB : B ≤ w.heap.size) (hl : ∀ k ∈ l, B ≤ k) : Below B w w' :=
  ⟨h.os, h.tape, h.output, h.size, fun k hk => h.block k (by omega) (fun hm => by have := hl k hm; omega)⟩

theorem Kb.cell {l : List Nat} {w w' : World} (h : Kb l w w') {p : Addr} (hp : p.block < w.heap.size) (hl : p.block ∉ l) : w'.cell? p = w.cell? p := World.cell?_of_block (w := w) (h.block p.block hp hl)

theorem lt_of_heap {w : World} {b : Nat} {o : Obj} (h : w.heap[b]? = some o) : b < w.heap.size := (Array.getElem?_eq_some_iff.1 h).1

theorem Kb.heap {l : List Nat} {w w' : World} (h : Kb l w w') {b : Nat} {o : Obj} (hb : w.heap[b]? = some o) (hl : b ∉ l) : w'.heap[b]? = some o := (h.block b (lt_of_heap hb) hl).trans hb

theorem Below.heapAt {B : Nat} {w w' : World} (h : Below B w w') {b : Nat} {o : Obj} (hb : w.heap[b]? = some o) (hl : b < B) : w'.heap[b]? = some o := (h.block b hl).trans hb

theorem heap_new (w : World) (o : Obj) : (w.alloc o).heap[w.heap.size]? = some o := by
  show (w.heap.push o)[w.heap.size]? = _
  simp

theorem heap_old {w : World} {b : Nat} {x : Obj} (h : w.heap[b]? = some x) (o : Obj) : (w.alloc o).heap[b]? = some x := by
  rw [Below.heap_alloc _ _ _ (lt_of_heap h)]; exact h

theorem cell_at {w : World} {b : Nat} {cs : Array Value} {T : TypeId} {fr : Nat × Nat} (hb : w.heap[b]? = some (.cells cs T fr)) (j : Nat) : w.cell? ⟨b, j, none⟩ = cs[j]? := by
  simp [World.cell?, hb]

theorem frozen_at {w : World} {b : Nat} {cs : Array Value} {T : TypeId} (hb : w.heap[b]? = some (.cells cs T (0, 0))) (j : Nat) : w.frozen? ⟨b, j, none⟩ = false := by
  simp [World.frozen?, hb]

theorem heap_set {w : World} {b : Nat} {cs : Array Value} {T : TypeId} {fr : Nat × Nat} (hb : w.heap[b]? = some (.cells cs T fr)) (j : Nat) (v : Value) : (w.setCell ⟨b, j, none⟩ v).heap[b]? = some (.cells (cs.setIfInBounds j v) T fr) := by
  simp [World.setCell, Array.getElem?_modify, hb]

/-- A map in a block that is none of the written ones reads as it did. -/
theorem Kb.ownsMap {H : Type} {P : Program} {l : List Nat} {w w' : World} (h : Kb l w w') {k : TypeId} {R : Value → Option (DataW H × List MemPlace)} {b n : Nat} {D : DataW H} (hm : w.ownsMap P k R b n D) (hl : b ∉ l) : w'.ownsMap P k R b n D := by
  obtain ⟨es, clock, hb, r⟩ := hm
  exact ⟨es, clock, h.heap hb hl, r⟩

theorem others_ownsMap {H : Type} {P : Program} {e : TypeId} {c : Option Nat} {w w' : World} (h : Lib.OthersKept e c w w') {k : TypeId} {R : Value → Option (DataW H × List MemPlace)} {b n : Nat} {D : DataW H} (hm : w.ownsMap P k R b n D) (hl : some b ≠ c) : w'.ownsMap P k R b n D := by
  obtain ⟨es, clock, hb, r⟩ := hm
  exact ⟨es, clock, h b _ hb hl (by intro c fz; exact fun e => by cases e), r⟩

/-- A builder stays one while blocks are written that are neither its own nor rows of its bytes. -/
theorem Kb.builderAt {l : List Nat} {w w' : World} (h : Kb l w w') {T e : TypeId} {B b : Nat} {p : Value} {bs : List Value} (hb : Lib.BuilderAtF T e B b p bs w) (hl : b ∉ l) (hn : ∀ x ∈ l, ∀ c fz, w.heap[x]? ≠ some (.cells c e fz)) : Lib.BuilderAtF T e B b p bs w' := by
  obtain ⟨hB, v, hv, hown, hne⟩ := hb
  refine ⟨hB, v, h.heap hv hl, ?_, hne⟩
  obtain ⟨h1, h2⟩ := hown
  refine ⟨h1, ?_⟩
  rcases h2 with h2 | ⟨g, cap, cur, fz, hv, hg, hh, r⟩
  · exact Or.inl h2
  · exact Or.inr ⟨g, cap, cur, fz, hv, hg, h.heap hh (fun hm => hn g hm _ _ hh), r⟩

theorem Kb.builder {l : List Nat} {w w' : World} (h : Kb l w w') {T e : TypeId} {B b : Nat} {bs : List Value} (hb : Lib.IsBuilderF T e B b bs w) (hl : b ∉ l) (hn : ∀ x ∈ l, ∀ c fz, w.heap[x]? ≠ some (.cells c e fz)) : Lib.IsBuilderF T e B b bs w' := by
  rcases hb with hb | hb
  · exact .inl (h.builderAt hb hl hn)
  · exact .inr (h.builderAt hb hl hn)

end Go.Proofs.YtiamlbhkiehilaaGreatDoor

namespace Go.Proofs.YtiamlbhkiehilaaGreatDoor
open Go.RowKit Go.Maps Go.WideMaps

theorem law_str : Keyed Tryz.prog 9 := string_keyed Tryz.underlying9

set_option maxHeartbeats 400000 in
theorem newTally_any (w : World) :
    Calls Tryz.prog 62 #[] w fun e w' => e = .returned (.pointer (some ⟨w.heap.size + 1, 0, none⟩)) ∧ w' = (w.alloc (.map #[] 0)).alloc (.cells #[.int .i64 0, .map (some w.heap.size)] 158) := by
  have hmm := @run_makeMap Tryz.prog
  go_enter Tryz.func62, Tryz.ntmps62
  go_wp2
  go_ret
  exact ⟨rfl, rfl⟩

/-- A tally in block tb, its map in block bm. -/
def IsTally (tb bm n c : Nat) (ks : List Lit) (w : World) : Prop :=
  w.heap[tb]? = some (.cells #[.int .i64 n, .map (some bm)] 158 (0, 0)) ∧ w.ownsMap Tryz.prog 9 (unitElem (H := Unit)) bm c (setU ks)

set_option maxHeartbeats 400000 in
theorem add_name (tb : Nat) (k : Int) (p q : ByteArray) (w : World) (h : 12 < p.size ∨ 12 < q.size) (hp : p.size ≤ maxLen) (hq : q.size ≤ maxLen) :
    Calls Tryz.prog 64 #[.pointer (some ⟨tb, 0, none⟩), .agg #[.int .i64 k, .string p, .string q]] w fun e w' => e = .returned (.int .i64 5) ∧ Below w.heap.size w w' := by
  unfold maxLen at hp hq
  by_cases h1 : 12 < p.size
  · go_enter Tryz.func64, Tryz.ntmps64
    go_wp2
    go_ret
    exact ⟨rfl, (Below.refl _ _).alloc (Nat.le_refl _) _⟩
  · have h2 : 12 < q.size := by omega
    go_enter Tryz.func64, Tryz.ntmps64
    go_wp2
    go_ret
    exact ⟨rfl, (Below.refl _ _).alloc (Nat.le_refl _) _⟩

set_option maxHeartbeats 400000 in
theorem add_many (tb bm c : Nat) (ks : List Lit) (k : Int) (p q : ByteArray) (w : World) (h1 : p.size ≤ 12) (h2 : q.size ≤ 12) (ht : IsTally tb bm 120 c ks w) :
    Calls Tryz.prog 64 #[.pointer (some ⟨tb, 0, none⟩), .agg #[.int .i64 k, .string p, .string q]] w fun e w' => e = .returned (.int .i64 6) ∧ Below w.heap.size w w' := by
  have c0 : ∀ o, (w.alloc o).cell? ⟨tb, 0, none⟩ = some (.int .i64 120) := fun o => by rw [cell_at (heap_old ht.1 o)]; rfl
  clear ht
  go_enter Tryz.func64, Tryz.ntmps64
  go_wp2
  go_ret
  exact ⟨rfl, (Below.refl _ _).alloc (Nat.le_refl _) _⟩

/-- What the first half of 'add' leaves: the count raised, the fact in a box of its own. -/
theorem add_facts {tb bm n c : Nat} {ks : List Lit} {w : World} (ht : IsTally tb bm n c ks w) (o : Obj) (v : Nat) :
    IsTally tb bm v c ks ((w.setCell ⟨tb, 0, none⟩ (.int .i64 v)).alloc o) ∧ Kb [tb, bm] w ((w.setCell ⟨tb, 0, none⟩ (.int .i64 v)).alloc o) := by
  obtain ⟨hh, hm⟩ := ht
  have hne : bm ≠ tb := by
    intro e
    obtain ⟨es, cl, hb, _⟩ := hm
    rw [e, hh] at hb
    cases hb
  have hs := heap_set hh 0 (.int .i64 v)
  refine ⟨⟨heap_old hs o, ?_⟩, ((Kb.refl _ _).setCell (Or.inl (by simp)) _).alloc _⟩
  have h2 : (w.setCell ⟨tb, 0, none⟩ (.int .i64 v)).ownsMap Tryz.prog 9 (unitElem (H := Unit)) bm c (setU ks) := hm.setCell (by simpa using hne) _
  exact Kb.ownsMap (l := []) ((Kb.refl _ _).alloc o) h2 (by simp)

/-- One more name in the set. -/
theorem put_one {tb bm n c : Nat} {ks : List Lit} {w : World} (ht : IsTally tb bm n c ks w) (hc : c < 2000) (s : ByteArray) (hs : s.size ≤ 12) :
    ∃ w1, (Instr.mapUpdate 156 (.map (some bm)) (.string s) (.agg #[])).run Tryz.prog w.drew = .ok () w1 ∧ IsTally tb bm n (c + 1) (ks ++ [keyS s]) w1 ∧ w.drew.grownBy w1 (some bm) := by
  obtain ⟨hh, hm⟩ := ht
  have hm' : w.drew.ownsMap Tryz.prog 9 (unitElem (H := Unit)) bm c (setU ks) := hm
  have hh' : w.drew.heap[tb]? = some (.cells #[.int .i64 n, .map (some bm)] 158 (0, 0)) := hh
  obtain ⟨w1, hr, ho, hg⟩ := hm'.update law_str Tryz.underlying156 (by unfold maxLen; omega) (keyOf_string_mk Tryz.underlying9 (s := s) (by unfold maxLen; omega)) (unitElem_mk (H := Unit))
  refine ⟨w1, hr, ⟨?_, ?_⟩, hg⟩
  · refine (hg.block tb (lt_of_heap hh') ?_).trans hh'
    intro e
    obtain ⟨es, cl, hb, _⟩ := hm
    rw [← Option.some.inj e, hh] at hb
    cases hb
  · have e : setU (ks ++ [keyS s]) = (setU ks).put (keyS s) (.agg []) := setOf_snoc _ _ _
    rw [e]
    exact ho

set_option maxRecDepth 100000 in
set_option maxHeartbeats 400000 in
theorem add_puts (tb bm n c : Nat) (ks : List Lit) (k : Int) (p q : ByteArray) (w : World) (h1 : p.size ≤ 12) (h2 : q.size ≤ 12) (hn : n < 120) (hc : c ≤ 1000) (ht : IsTally tb bm n c ks w) :
    Calls Tryz.prog 64 #[.pointer (some ⟨tb, 0, none⟩), .agg #[.int .i64 k, .string p, .string q]] w fun e w' =>
      (e = .returned (.int .i64 (if 40 < Maps.size (setU (ks ++ [keyS p, keyS q])) then 7 else 0))) ∧ Kb [tb, bm] w w' ∧ IsTally tb bm (n + 1) (c + 1 + 1) (ks ++ [keyS p, keyS q]) w' := by
  have c0 : ∀ o, (w.alloc o).cell? ⟨tb, 0, none⟩ = some (.int .i64 n) := fun o => by rw [cell_at (heap_old ht.1 o)]; rfl
  have f0 : ∀ o, (w.alloc o).frozen? ⟨tb, 0, none⟩ = false := fun o => frozen_at (heap_old ht.1 o) _
  have hlt := lt_of_heap ht.1
  obtain ⟨ht1, hk1⟩ := add_facts ht (.cells #[.int .i64 k, .string p, .string q] 48) (n + 1)
  have ec : ((n + 1 : Nat) : Int) = (n : Int) + 1 := by omega
  rw [ec] at ht1 hk1
  clear ec
  have hbm : bm < w.heap.size := by obtain ⟨es, cl, hb, _⟩ := ht.2; exact lt_of_heap hb
  obtain ⟨w1, hr1, ht2, hg1⟩ := put_one ht1 (by omega) p h1
  have c1 : ((w.setCell ⟨tb, 0, none⟩ (.int .i64 ((n : Int) + 1))).alloc (.cells #[.int .i64 k, .string p, .string q] 48)).cell? ⟨tb, 1, none⟩ = some (.map (some bm)) := by rw [cell_at ht1.1]; rfl
  obtain ⟨w2, hr2, ht3, hg2⟩ := put_one ht2 (by omega) q h2
  have c2 : w1.cell? ⟨tb, 1, none⟩ = some (.map (some bm)) := by rw [cell_at ht2.1]; rfl
  have hb1 : ((w.setCell ⟨tb, 0, none⟩ (.int .i64 ((n : Int) + 1))).alloc (.cells #[.int .i64 k, .string p, .string q] 48)).drew.heap[w.heap.size]? = some (.cells #[.int .i64 k, .string p, .string q] 48) := by
    have := heap_new (w.setCell ⟨tb, 0, none⟩ (.int .i64 ((n : Int) + 1))) (.cells #[.int .i64 k, .string p, .string q] 48)
    have e : (w.setCell ⟨tb, 0, none⟩ (.int .i64 ((n : Int) + 1))).heap.size = w.heap.size := by simp [World.setCell]
    rw [e] at this
    exact this
  have c3 : w1.cell? ⟨w.heap.size, 2, none⟩ = some (.string q) := by
    have h := (hg1.block w.heap.size (lt_of_heap hb1) (by simp; omega)).trans hb1
    rw [cell_at h]; rfl
  rw [List.append_assoc, List.singleton_append] at ht3
  have c4 : w2.cell? ⟨tb, 1, none⟩ = some (.map (some bm)) := by rw [cell_at ht3.1]; rfl
  have hk2 : Kb [tb, bm] w w2 := (((hk1.drew).grown hg1 (by intro x hx; cases hx; simp)).drew).grown hg2 (by intro x hx; cases hx; simp)
  have hm3 := ht3.2
  clear hb1 hg1 hg2 ht1 ht2 hk1
  go_enter Tryz.func64, Tryz.ntmps64
  go_wp2
  go_region
  go_wp2
  go_region
  go_wp2_with (first | (at_len; refine wpList_len_own _ rfl _ 156 rfl 9 159 Tryz.underlying156 (unitElem (H := Unit)) bm (c + 1 + 1) (setU (ks ++ [keyS p, keyS q])) rfl hm3 ?_) | go_in)
  all_goals
    go_ret
    exact ⟨rfl, hk2, ht3⟩

end Go.Proofs.YtiamlbhkiehilaaGreatDoor

namespace Go.Proofs.YtiamlbhkiehilaaGreatDoor
open Go.RowKit Go.Maps

theorem add_any (tb bm : Nat) (pre : List Fct) (k : Int) (p q : ByteArray) (w : World) (hl : pre.length ≤ 120) (hp : p.size ≤ maxLen) (hq : q.size ≤ maxLen) (ht : IsTally tb bm pre.length (2 * pre.length) (keysOf pre) w) :
    Calls Tryz.prog 64 #[.pointer (some ⟨tb, 0, none⟩), .agg #[.int .i64 k, .string p, .string q]] w fun e w' =>
      e = .returned (.int .i64 (errOf pre ⟨k, p, q⟩)) ∧ Kb [tb, bm] w w' ∧ (errOf pre ⟨k, p, q⟩ = 0 → IsTally tb bm (pre.length + 1) (2 * (pre.length + 1)) (keysOf (pre ++ [⟨k, p, q⟩])) w') := by
  by_cases h1 : 12 < p.size ∨ 12 < q.size
  · refine (add_name tb k p q w h1 hp hq).mono ?_
    rintro e w' ⟨rfl, hb⟩
    have := errOf_name (pre := pre) (f := ⟨k, p, q⟩) h1
    exact ⟨by rw [this], Kb.of_below hb _, fun h => absurd (this.symm.trans h) (by decide)⟩
  · by_cases h2 : 120 ≤ pre.length
    · have hpl : pre.length = 120 := by omega
      have he := errOf_many (pre := pre) (f := ⟨k, p, q⟩) h1 h2
      rw [hpl] at ht
      refine (add_many tb bm _ _ k p q w (by omega) (by omega) ht).mono ?_
      rintro e w' ⟨rfl, hb⟩
      exact ⟨by rw [he], Kb.of_below hb _, fun h => absurd (he.symm.trans h) (by decide)⟩
    · refine (add_puts tb bm pre.length (2 * pre.length) (keysOf pre) k p q w (by omega) (by omega) (by omega) (by omega) ht).mono ?_
      rintro e w' ⟨rfl, hk, ht'⟩
      have e1 : keysOf pre ++ [keyS p, keyS q] = keysOf (pre ++ [⟨k, p, q⟩]) := (keysOf_snoc pre ⟨k, p, q⟩).symm
      rw [e1] at ht' ⊢
      rw [size_setU]
      refine ⟨?_, hk, fun _ => ht'⟩
      by_cases h3 : 40 < dcount (namesL (pre ++ [⟨k, p, q⟩]))
      · rw [errOf_full h1 h2 h3, if_pos h3]
      · rw [errOf_ok h1 h2 h3, if_neg h3]

/-- Facts in a row of memory. -/
def FactsAt (b off : Nat) (fs : List Fct) (w : World) : Prop :=
  ∀ i k p q, fs[i]? = some ⟨k, p, q⟩ → w.cell? ⟨b, off + i * 3, none⟩ = some (.int .i64 k) ∧ w.cell? ⟨b, off + i * 3 + 1, none⟩ = some (.string p) ∧ w.cell? ⟨b, off + i * 3 + 2, none⟩ = some (.string q)

theorem FactsAt.below {b off : Nat} {fs : List Fct} {w w' : World} (h : FactsAt b off fs w) {B : Nat} (hb : Below B w w') (hlt : b < B) : FactsAt b off fs w' := by
  intro i k p q hi
  obtain ⟨h1, h2, h3⟩ := h i k p q hi
  exact ⟨(hb.cell (p := ⟨b, _, none⟩) hlt).trans h1, (hb.cell (p := ⟨b, _, none⟩) hlt).trans h2, (hb.cell (p := ⟨b, _, none⟩) hlt).trans h3⟩

def fitsF (fs : List Fct) : Prop := ∀ f ∈ fs, f.p.size ≤ maxLen ∧ f.q.size ≤ maxLen

/-- A slice of facts: whatever lies there where it is empty. -/
def IsFacts (v : Value) (fs : List Fct) (w : World) : Prop :=
  ∃ ao cap, v = .slice ao fs.length cap ∧ fs.length ≤ cap ∧ (ao = none → cap = 0) ∧ (fs ≠ [] → ∃ b off, ao = some ⟨b, off, none⟩ ∧ b < w.heap.size ∧ FactsAt b off fs w)

theorem IsFacts.below {v : Value} {fs : List Fct} {w w' : World} (h : IsFacts v fs w) (hb : Below w.heap.size w w') : IsFacts v fs w' := by
  obtain ⟨ao, cap, rfl, hc, hcn, h⟩ := h
  refine ⟨ao, cap, rfl, hc, hcn, fun hne => ?_⟩
  obtain ⟨b, off, rfl, hlt, hf⟩ := h hne
  exact ⟨b, off, rfl, Nat.lt_of_lt_of_le hlt hb.size, hf.below hb hlt⟩

end Go.Proofs.YtiamlbhkiehilaaGreatDoor

namespace Go.Proofs.YtiamlbhkiehilaaGreatDoor
open Go.RowKit

set_option maxHeartbeats 400000 in
theorem start_any (c : Int) (w : World) :
    Calls Tryz.prog 105 #[.int .u8 c] w fun e w' => e = .returned (.bool (startB c)) ∧ w' = w := by
  go_enter Tryz.func105, Tryz.ntmps105
  go_wp2
  all_goals
    go_ret
    refine ⟨ret_bool ?_, rfl⟩
    rw [Bool.eq_iff_iff]
    simp [startB]
    omega

set_option maxHeartbeats 400000 in
theorem begins_any (c : Int) (w : World) :
    Calls Tryz.prog 99 #[.int .u8 c] w fun e w' => e = .returned (.bool (startB c)) ∧ w' = w := by
  go_enter Tryz.func99, Tryz.ntmps99
  go_wp2
  all_goals
    go_ret
    refine ⟨ret_bool ?_, rfl⟩
    rw [Bool.eq_iff_iff]
    simp [startB]
    omega

set_option maxHeartbeats 400000 in
theorem part_any (c : Int) (w : World) :
    Calls Tryz.prog 104 #[.int .u8 c] w fun e w' => e = .returned (.bool (partB c)) ∧ w' = w := by
  cases h : startB c
  all_goals
    have H : Hid (startB c = _) := h
    clear h
    go_enter Tryz.func104, Tryz.ntmps104
    go_wp2_with (go_at_call 105; refine (start_any _ _).mono ?_; rintro e w' ⟨rfl, rfl⟩; rw [H.out])
  all_goals
    go_ret
    refine ⟨ret_bool ?_, rfl⟩
    first | rw [part_of_start H.out] | (rw [part_of_not H.out, Bool.eq_iff_iff]; simp; done) | (rw [part_of_not H.out, Bool.eq_iff_iff]; simp; omega)

set_option maxHeartbeats 400000 in
theorem goesOn_any (c : Int) (w : World) :
    Calls Tryz.prog 100 #[.int .u8 c] w fun e w' => e = .returned (.bool (partB c)) ∧ w' = w := by
  cases h : startB c
  all_goals
    have H : Hid (startB c = _) := h
    clear h
    go_enter Tryz.func100, Tryz.ntmps100
    go_wp2_with (go_at_call 99; refine (begins_any _ _).mono ?_; rintro e w' ⟨rfl, rfl⟩; rw [H.out])
  all_goals
    go_ret
    refine ⟨ret_bool ?_, rfl⟩
    first | rw [part_of_start H.out] | (rw [part_of_not H.out, Bool.eq_iff_iff]; simp; done) | (rw [part_of_not H.out, Bool.eq_iff_iff]; simp; omega)

set_option maxHeartbeats 400000 in
theorem name_any (s : ByteArray) (w : World) (hs : s.size ≤ maxLen) :
    Calls Tryz.prog 74 #[.string s] w fun e w' => e = .returned (.bool (nameB s.data.toList)) ∧ w' = w := by
  unfold maxLen at hs
  go_enter Tryz.func74, Tryz.ntmps74
  go_wp2
  go_loop [3] (fun i => ∃ k : Nat, k ≤ s.size ∧ i = .int .i64 k ∧ partsB (s.data.toList.take k) = true) (fun i => s.size - (intOf i).toNat)
  case atStart => exact ⟨0, Nat.zero_le _, rfl, rfl⟩
  case round =>
    obtain ⟨k, hk, rfl, hp0⟩ := hrel
    have HP : Hid (partsB (s.data.toList.take k) = true) := hp0
    clear hp0
    by_cases hlt : k < s.size
    · have hsn := partsB_snoc (s.data.toList.take k) s[k]
      rw [← take_snoc s k hlt, HP.out, Bool.true_and] at hsn
      cases hc : partB (s[k].toNat : Int)
      · rw [hc] at hsn
        have HF : Hid (nameB s.data.toList = false) := nameB_parts _ (partsB_of_take hsn)
        have HC : Hid (partB (s[k].toNat : Int) = false) := hc
        clear hsn hc
        go_wp2_with (go_at_call 104; refine (part_any _ _).mono ?_; rintro e w' ⟨rfl, rfl⟩; rw [HC.out])
        go_ret
        exact ⟨by rw [HF.out]; rfl, rfl⟩
      · rw [hc] at hsn
        have HS : Hid (partsB (s.data.toList.take (k + 1)) = true) := hsn
        have HC : Hid (partB (s[k].toNat : Int) = true) := hc
        clear hsn hc
        go_wp2_with (go_at_call 104; refine (part_any _ _).mono ?_; rintro e w' ⟨rfl, rfl⟩; rw [HC.out])
        go_round
        case rel => exact ⟨k + 1, by omega, by go_num, HS.out⟩
        case measure => simp [intOf]; omega
    · by_cases h0 : 0 < s.size
      · have HF : Hid (nameB s.data.toList = startB s[0].toNat) := nameB_all s h0 (parts_full HP.out (by omega))
        go_wp2_with (go_at_call 105; refine (start_any _ _).mono ?_; rintro e w' ⟨rfl, rfl⟩)
        go_ret
        exact ⟨by rw [HF.out]; rfl, rfl⟩
      · have HF : Hid (nameB s.data.toList = false) := nameB_empty s (by omega)
        go_wp2
        go_ret
        exact ⟨by rw [HF.out]; rfl, rfl⟩

end Go.Proofs.YtiamlbhkiehilaaGreatDoor

namespace Go.Proofs.YtiamlbhkiehilaaGreatDoor
open Go.RowKit Go.Maps

/-- Byte by byte ahead. -/
def lessS (a b : ByteArray) : Bool := Op.bytesLess a.toList b.toList

/-- The names of facts, in their order, as texts. -/
def strsOf (l : List Fct) : List ByteArray := l.flatMap fun f => [f.p, f.q]

/-- How many at the head are ahead of s. -/
def insAt : List ByteArray → ByteArray → Nat
  | [], _ => 0
  | x :: r, s => if lessS x s = true then insAt r s + 1 else 0

/-- A name laid in at its place, if it is not there. -/
def insN (l : List ByteArray) (s : ByteArray) : List ByteArray :=
  if l[insAt l s]? = some s then l else l.take (insAt l s) ++ s :: l.drop (insAt l s)

/-- The different names, in order. -/
def namesS (l : List ByteArray) : List ByteArray := l.foldl insN []

theorem strsOf_even {fs : List Fct} {j : Nat} {f : Fct} (h : fs[j]? = some f) : (strsOf fs)[2 * j]? = some f.p := by
  induction fs generalizing j with
  | nil => simp at h
  | cons g r ih =>
    cases j with
    | zero =>
      simp at h
      subst h
      simp [strsOf]
    | succ j =>
      simp at h
      have := ih h
      have e : 2 * (j + 1) = (2 * j) + 1 + 1 := by omega
      rw [e]
      simpa [strsOf] using this

theorem strsOf_odd {fs : List Fct} {j : Nat} {f : Fct} (h : fs[j]? = some f) : (strsOf fs)[2 * j + 1]? = some f.q := by
  induction fs generalizing j with
  | nil => simp at h
  | cons g r ih =>
    cases j with
    | zero =>
      simp at h
      subst h
      simp [strsOf]
    | succ j =>
      simp at h
      have := ih h
      have e : 2 * (j + 1) + 1 = (2 * j + 1) + 1 + 1 := by omega
      rw [e]
      simpa [strsOf] using this

theorem strsOf_length (fs : List Fct) : (strsOf fs).length = 2 * fs.length := by
  induction fs with
  | nil => rfl
  | cons f r ih =>
    have : strsOf (f :: r) = f.p :: f.q :: strsOf r := by simp [strsOf]
    rw [this]
    simp [ih]
    omega

theorem insAt_le (l : List ByteArray) (s : ByteArray) : insAt l s ≤ l.length := by
  induction l with
  | nil => simp [insAt]
  | cons x r ih =>
    simp only [insAt]
    split
    · simp; omega
    · simp

theorem insAt_of {l : List ByteArray} {s : ByteArray} {k : Nat} (h : ∀ j x, j < k → l[j]? = some x → lessS x s = true) (hk : k ≤ l.length) (he : ∀ x, l[k]? = some x → lessS x s = false) : insAt l s = k := by
  induction l generalizing k with
  | nil => simp at hk; subst hk; rfl
  | cons x r ih =>
    cases k with
    | zero =>
      have := he x (by simp)
      simp [insAt, this]
    | succ k =>
      have h0 := h 0 x (by omega) (by simp)
      simp only [insAt, h0, if_true]
      rw [ih (k := k) (fun j y hj hy => h (j + 1) y (by omega) (by simpa using hy)) (by simpa using hk) (fun y hy => he y (by simpa using hy))]

theorem insN_length (l : List ByteArray) (s : ByteArray) : (insN l s).length ≤ l.length + 1 := by
  unfold insN
  have := insAt_le l s
  split
  · omega
  · simp; omega

theorem fold_snoc {fs : List ByteArray} {m : Nat} {s : ByteArray} (h : fs[m]? = some s) : namesS (fs.take (m + 1)) = insN (namesS (fs.take m)) s := by
  unfold namesS
  rw [take_next h, List.foldl_append]
  rfl

/-- A row of n elements with room for one more: the tail moved on by one, and a new one laid at its place. -/
theorem row_ins {α : Type} (cur xs : List α) (z s : α) (k : Nat) (hk : k ≤ xs.length) (h : cur.take (xs.length + 1) = xs ++ [z]) :
    ((splice cur (k + 1) (xs.drop k)).set k s).take (xs.length + 1) = xs.take k ++ s :: xs.drop k := by
  have hc : cur = (xs ++ [z]) ++ cur.drop (xs.length + 1) := by rw [← h, List.take_append_drop]
  generalize cur.drop (xs.length + 1) = t at hc
  subst hc
  clear h
  rw [List.take_set]
  have hl : ((xs ++ [z]).take (k + 1)).length = k + 1 := by rw [List.length_take, List.length_append, List.length_singleton]; omega
  have e1 : (splice ((xs ++ [z]) ++ t) (k + 1) (xs.drop k)).take (xs.length + 1) = (xs ++ [z]).take (k + 1) ++ xs.drop k := by
    unfold splice
    rw [List.take_append_of_le_length (l₁ := xs ++ [z]) (by rw [List.length_append, List.length_singleton]; omega), ← List.append_assoc]
    exact List.take_left' (by rw [List.length_append, hl, List.length_drop]; omega)
  rw [e1]
  apply List.ext_getElem?
  intro j
  rw [List.getElem?_set]
  by_cases h2 : k = j
  · subst h2
    rw [if_pos rfl, if_pos (by rw [List.length_append, hl]; omega), List.getElem?_append_right (by rw [List.length_take]; omega), List.length_take, Nat.min_eq_left hk, Nat.sub_self]
    rfl
  · rw [if_neg h2]
    have e3 : (xs.take k).length = k := by rw [List.length_take]; omega
    by_cases h3 : j < k
    · rw [List.getElem?_append_left (by omega), List.getElem?_append_left (by omega), List.getElem?_take, if_pos (by omega), List.getElem?_append_left (by omega), List.getElem?_take, if_pos h3]
    · rw [List.getElem?_append_right (by omega), hl, List.getElem?_append_right (by omega), e3, List.getElem?_cons, if_neg (by omega), Nat.sub_sub]

theorem insN_new {l : List ByteArray} {s : ByteArray} {k : Nat} (hk : insAt l s = k) (h : l[k]? ≠ some s) : insN l s = l.take k ++ s :: l.drop k := by
  subst hk
  unfold insN
  rw [if_neg h]
theorem insN_old {l : List ByteArray} {s : ByteArray} {k : Nat} (hk : insAt l s = k) (h : l[k]? = some s) : insN l s = l := by
  subst hk
  unfold insN
  rw [if_pos h]

end Go.Proofs.YtiamlbhkiehilaaGreatDoor

namespace Go.Proofs.YtiamlbhkiehilaaGreatDoor
open Go.RowKit Go.Maps

theorem infoStr : (Tryz.prog.info? 9).map (fun i => (i.zero, i.size, i.bytes)) = some (some (.string ⟨#[]⟩), 1, 16) := by kernel_rfl

theorem sizeStr : (Tryz.prog.info? 9).map (·.size) = some 1 := by kernel_rfl

theorem wrap_i64 (x : Int) (h1 : -9223372036854775808 ≤ x) (h2 : x ≤ 9223372036854775807) : IntKind.i64.wrap x = x := by
  rw [IntKind.wrap_i64]
  omega

theorem lt_of_getElem? {α : Type} {l : List α} {i : Nat} {x : α} (h : l[i]? = some x) : i < l.length := (List.getElem?_eq_some_iff.1 h).1

/-- What holds at the head of each round of Names. -/
structure NInv (w wr : World) (fs : List Fct) (m : Nat) (v : Value) (out : List ByteArray) : Prop where
  le : m ≤ 2 * fs.length
  eqn : out = namesS ((strsOf fs).take m)
  short : out.length ≤ m
  own : wr.ownsRow w.heap.size 9 1 v out.length (out.map Value.string)
  blw : Below w.heap.size w wr

theorem NInv.ins {w wr w4 : World} {fs : List Fct} {m k g cp : Nat} {v : Value} {out : List ByteArray} {s : ByteArray} {cur : List Value} (hi : NInv w wr fs m v out) (HS : (strsOf fs)[m]? = some s) (hk : insAt out s = k) (hne : out[k]? ≠ some s)
    (hBg : w.heap.size ≤ g) (hnc : out.length + 1 ≤ cp) (hcm : cp ≤ maxLen) (hcs : cur.length = cp) (htk : cur.take (out.length + 1) = out.map Value.string ++ [.string ⟨#[]⟩])
    (hg : w4.heap[g]? = some (.cells (splice cur (k + 1) ((out.drop k).map Value.string)).toArray 9 (0, 0))) (hb : Below w.heap.size w w4) :
    NInv w (w4.setCell ⟨g, k, none⟩ (.string s)) fs (m + 1) (.slice (some ⟨g, 0, none⟩) (out.length + 1) cp) (insN out s) := by
  have hko : k ≤ out.length := hk ▸ insAt_le out s
  have e0 : insN out s = out.take k ++ s :: out.drop k := insN_new hk hne
  have hl : (insN out s).length = out.length + 1 := by rw [e0]; simp; omega
  have hm := lt_of_getElem? HS
  rw [strsOf_length] at hm
  refine ⟨hm, ?_, ?_, ?_, hb.setCell (p := ⟨g, k, none⟩) hBg _⟩
  · rw [fold_snoc HS, ← hi.eqn]
  · rw [hl]; have := hi.short; omega
  · rw [hl]
    refine ⟨by simp [hl], .inr ⟨g, cp, (splice cur (k + 1) ((out.drop k).map Value.string)).toArray.setIfInBounds k (.string s), rfl, hBg, heap_set hg k _, hnc, hcm, ?_, ?_⟩⟩
    · simp
      rw [length_splice _ _ _ (by simp; omega), hcs]
    · have := row_ins cur (out.map Value.string) (.string ⟨#[]⟩) (.string s) k (by simpa using hko) (by simpa using htk)
      rw [List.length_map, ← List.map_drop] at this
      rw [Nat.mul_one, e0]
      simpa using this

theorem NInv.old {w wr : World} {fs : List Fct} {m k : Nat} {v : Value} {out : List ByteArray} {s : ByteArray} (hi : NInv w wr fs m v out) (HS : (strsOf fs)[m]? = some s) (hk : insAt out s = k) (he : out[k]? = some s) : NInv w wr fs (m + 1) v out := by
  have hm := lt_of_getElem? HS
  rw [strsOf_length] at hm
  refine ⟨hm, ?_, by have := hi.short; omega, hi.own, hi.blw⟩
  rw [fold_snoc HS, ← hi.eqn, insN_old hk he]

theorem toList_inj {a b : ByteArray} (h : a.toList = b.toList) : a = b := by
  rw [ByteArray.toList_eq, ByteArray.toList_eq] at h
  obtain ⟨⟨x⟩⟩ := a
  obtain ⟨⟨y⟩⟩ := b
  simp at h
  subst h
  rfl

set_option maxRecDepth 100000 in
set_option maxHeartbeats 4000000 in
theorem names_some (b off cap : Nat) (fs : List Fct) (w : World) (hlen : fs.length ≤ 1000) (hf : FactsAt b off fs w) (hb : b < w.heap.size) :
    Calls Tryz.prog 53 #[.slice (some ⟨b, off, none⟩) fs.length cap] w fun e w' => ∃ v, e = .returned v ∧ NInv w w' fs (2 * fs.length) v (namesS (strsOf fs)) := by
  go_enter Tryz.func53, Tryz.ntmps53
  go_wp2
  go_loopw [3, 4] (fun v i wr => ∃ m out, i = .int .i64 (m : Nat) ∧ NInv w wr fs m v out) (fun _ i _ => 2 * fs.length - (intOf i).toNat)
  case atStart => exact ⟨0, [], rfl, Nat.zero_le _, rfl, Nat.le_refl _, World.ownsRow_nil _ _ _ _, Below.refl _ _⟩
  case round =>
    obtain ⟨m, out, rfl, hi⟩ := hrel
    by_cases hlt : m < 2 * fs.length
    · obtain ⟨⟨k, p, q⟩, hfn⟩ : ∃ f, fs[m / 2]? = some f := ⟨_, List.getElem?_eq_getElem (by omega)⟩
      obtain ⟨d0, d1, d2⟩ := (hf.below hi.blw hb) (m / 2) k p q hfn
      clear d0
      have HF : Hid (fs[m / 2]? = some ⟨k, p, q⟩) := hfn
      clear hfn
      have hsh := hi.short
      have hblw := hi.blw
      have hodd : ((m : Int) % 2 == 1) = true ∨ ((m : Int) % 2 == 1) = false := by cases ((m : Int) % 2 == 1) <;> simp
      obtain ⟨i0, hi0, hz0, hz1, hz2⟩ := info_parts infoStr
      rcases hi.own.2 with ⟨hv, hn0⟩ | ⟨g, cp, cur, hv, hBg, hg, hnc, hcm, hcs, htk⟩
      · rw [hv]
        rw [hv] at hi
        have hown := hi.own
        have hn1 : out.length ≤ 0 := Nat.le_of_eq hn0
        clear hn0
        rcases hodd with ho | ho
        · have HS : Hid ((strsOf fs)[m]? = some q) := by
            have := strsOf_odd HF.out
            have e : 2 * (m / 2) + 1 = m := by have := beq_iff_eq.1 ho; omega
            rwa [e] at this
          clear HF hf
          go_wp2
          go_loop [6] (fun i => ∃ k : Nat, i = .int .i64 k ∧ k ≤ 0) (fun i => 0 - (intOf i).toNat)
          case atStart => exact ⟨0, rfl, Nat.zero_le _⟩
          case round =>
            obtain ⟨k, rfl, hk0⟩ := hrel
            have hko : k ≤ out.length := by omega
            have HK : Hid (insAt out q = k) := insAt_of (fun j x h => by omega) hko (fun y hy => absurd (lt_of_getElem? hy) (by omega))
            have HN : Hid (out[k]? ≠ some q) := fun h => absurd (lt_of_getElem? h) (by omega)
            go_wp2_with (first | (at_builtin; refine wpList_append_own _ rfl _ _ 44 rfl w.heap.size 9 i0 (.string ⟨#[]⟩) 1 16 Tryz.underlying44 hi0 hz0 hz1 hz2 rfl (by decide) _ _ _ rfl (hown.alloc _) ⟨wr.heap.size, 0, none⟩ 1 1 [.string ⟨#[]⟩] rfl rfl (cell_one_new _ _ _) ?c2 ?c3 ?c4 ?c5 ?_) | go_in)
            case c2 => rfl
            case c3 => unfold maxLen; omega
            case c4 => omega
            case c5 => have := hblw.size; simp; omega
            intro v' w1 hown1 hgrow1 _
            obtain ⟨g1, cp1, cur1, hv1, hBg1, hg1, hnc1, hcm1, hcs1, htk1⟩ : ∃ g cap cur, v' = .slice (some ⟨g, 0, none⟩) (out.length + 1) cap ∧ w.heap.size ≤ g ∧ w1.heap[g]? = some (.cells cur 9 (0, 0)) ∧ out.length + 1 ≤ cap ∧ cap ≤ maxLen ∧ cur.size = cap * 1 ∧ cur.toList.take ((out.length + 1) * 1) = out.map Value.string ++ [.string ⟨#[]⟩] := by
              rcases hown1.2 with ⟨_, h0⟩ | h
              · omega
              · exact h
            rw [hv1]
            go_wp2
            have hwp : IntKind.i64.wrap ((k : Int) + 1) = (k : Int) + 1 := by rw [wrap_i64 _ (by omega) (by omega)]
            have hk1 : (k : Int) + 1 ≤ (out.length : Int) + 1 := by omega
            have hk2 : (k : Int) ≤ (out.length : Int) + 1 := by omega
            have hk3 : 0 ≤ (k : Int) + 1 := by omega
            have htn : ((k : Int) + 1).toNat = k + 1 := by omega
            have hg1' : w1.drew.heap[g1]? = some (.cells cur1.toList.toArray 9 (0, 0)) := by rw [Array.toArray_toList]; exact hg1
            obtain ⟨cs, hcsE⟩ : ∃ cs, cs = (out.drop k).map Value.string := ⟨_, rfl⟩
            have hcl : cs.length = out.length - k := by rw [hcsE]; simp
            have hc1 : ∀ v ∈ cs, v.oneCell' = true := by intro v hv; rw [hcsE] at hv; obtain ⟨y, _, rfl⟩ := List.mem_map.1 hv; rfl
            have HCS : Hid (cs = (out.drop k).map Value.string) := hcsE
            clear hcsE
            have hbd : Below w.heap.size w w1.drew := ((hblw.alloc hblw.size _).grown hgrow1 (by have := hblw.size; simp; omega) (fun j hj => (hown.lt j hj).1)).drew
            have hcc : ∀ j v, cs[j]? = some v → w1.drew.cell? ((⟨g1, k, none⟩ : Addr).add j) = some v := by
              intro j v hj
              have hj' : j < cs.length := lt_of_getElem? hj
              have h1 : (cur1.toList.take ((out.length + 1) * 1))[k + j]? = some v := by
                rw [htk1, List.getElem?_append_left (by simp; omega)]
                rw [HCS.out, List.map_drop, List.getElem?_drop] at hj
                exact hj
              rw [List.getElem?_take, if_pos (by omega)] at h1
              have h2 : w1.drew.heap[g1]? = some (.cells cur1 9 (0, 0)) := hg1
              rw [Addr.add_lit, cell_at h2]
              simpa using h1
            have HCC := hide hcc
            clear hcc
            have hcp2 : ¬ cp1 = k := by omega
            obtain ⟨D, hD, hDk⟩ : ∃ D : Addr, (if cp1 = k + 1 then some (⟨g1, 0, none⟩ : Addr) else some ⟨g1, k + 1, none⟩) = some D ∧ Hid (0 < cs.length → D = ⟨g1, k + 1, none⟩) := by
              by_cases h : cp1 = k + 1
              · exact ⟨⟨g1, 0, none⟩, by simp [h], fun h0 => by omega⟩
              · exact ⟨⟨g1, k + 1, none⟩, by simp [h], fun _ => rfl⟩
            have s1 : Hid (cs.length = Nat.min (out.length + 1 - k) (out.length - k)) := by
              rw [hcl]
              exact (Nat.min_eq_right (by omega)).symm
            have s2' : k + 1 + cs.length ≤ cur1.toList.length := by rw [show cur1.toList.length = cur1.size from Array.length_toList]; omega
            have s2 := hide s2'
            clear s2'
            have s3 := hide hc1
            clear hc1
            go_region_law (refine step_copy_splice rfl (.tmp 61) (.tmp 64) 44 44 rfl 9 Tryz.underlying44 sizeStr (some D) (some ⟨g1, k, none⟩) (out.length - k) (cp1 - (k + 1)) (out.length + 1 - k) (cp1 - k) (by simp [Act.eval, Act.put]) (by simp [Act.eval, Act.put]) g1 (k + 1) cur1.toList 9 hg1' cs s1.out (fun h0 => ⟨congrArg some (hDk.out h0), ⟨g1, k, none⟩, rfl, unhide HCC⟩) s2.out s3.out w.heap.size w hbd hBg1 ?_; intro w4 hg4 hb4)
            have hg4' : w4.heap[g1]? = some (.cells (splice cur1.toList (k + 1) ((out.drop k).map Value.string)).toArray 9 (0, 0)) := by rw [← HCS.out]; exact hg4.out
            have hfin := hi.ins HS.out HK.out HN.out hBg1 hnc1 hcm1 (by rw [Array.length_toList, hcs1, Nat.mul_one]) (by rw [← htk1, Nat.mul_one]) hg4' hb4
            obtain ⟨v0, hv0⟩ : ∃ v0, w4.cell? ⟨g1, k, none⟩ = some v0 := by
              rw [cell_at hg4']
              refine ⟨_, Array.getElem?_eq_getElem ?_⟩
              rw [List.size_toArray, length_splice _ _ _ (by rw [← HCS.out]; exact s2.out), Array.length_toList]
              omega
            have hf0 : w4.frozen? ⟨g1, k, none⟩ = false := frozen_at hg4' _
            clear hg4' hg4 hb4 hg1' hbd HCC hD hDk s1 s2 s3 hown1 hgrow1 hg1 htk1
            go_wp2
            go_roundw
            case rel => exact ⟨m + 1, _, by go_num, hfin⟩
            case measure => simp [intOf]; omega
        · have HS : Hid ((strsOf fs)[m]? = some p) := by
            have := strsOf_even HF.out
            have e : 2 * (m / 2) = m := by have := beq_eq_false_iff_ne.1 ho; omega
            rwa [e] at this
          clear HF hf
          go_wp2
          go_loop [6] (fun i => ∃ k : Nat, i = .int .i64 k ∧ k ≤ 0) (fun i => 0 - (intOf i).toNat)
          case atStart => exact ⟨0, rfl, Nat.zero_le _⟩
          case round =>
            obtain ⟨k, rfl, hk0⟩ := hrel
            have hko : k ≤ out.length := by omega
            have HK : Hid (insAt out p = k) := insAt_of (fun j x h => by omega) hko (fun y hy => absurd (lt_of_getElem? hy) (by omega))
            have HN : Hid (out[k]? ≠ some p) := fun h => absurd (lt_of_getElem? h) (by omega)
            go_wp2_with (first | (at_builtin; refine wpList_append_own _ rfl _ _ 44 rfl w.heap.size 9 i0 (.string ⟨#[]⟩) 1 16 Tryz.underlying44 hi0 hz0 hz1 hz2 rfl (by decide) _ _ _ rfl (hown.alloc _) ⟨wr.heap.size, 0, none⟩ 1 1 [.string ⟨#[]⟩] rfl rfl (cell_one_new _ _ _) ?c2 ?c3 ?c4 ?c5 ?_) | go_in)
            case c2 => rfl
            case c3 => unfold maxLen; omega
            case c4 => omega
            case c5 => have := hblw.size; simp; omega
            intro v' w1 hown1 hgrow1 _
            obtain ⟨g1, cp1, cur1, hv1, hBg1, hg1, hnc1, hcm1, hcs1, htk1⟩ : ∃ g cap cur, v' = .slice (some ⟨g, 0, none⟩) (out.length + 1) cap ∧ w.heap.size ≤ g ∧ w1.heap[g]? = some (.cells cur 9 (0, 0)) ∧ out.length + 1 ≤ cap ∧ cap ≤ maxLen ∧ cur.size = cap * 1 ∧ cur.toList.take ((out.length + 1) * 1) = out.map Value.string ++ [.string ⟨#[]⟩] := by
              rcases hown1.2 with ⟨_, h0⟩ | h
              · omega
              · exact h
            rw [hv1]
            go_wp2
            have hwp : IntKind.i64.wrap ((k : Int) + 1) = (k : Int) + 1 := by rw [wrap_i64 _ (by omega) (by omega)]
            have hk1 : (k : Int) + 1 ≤ (out.length : Int) + 1 := by omega
            have hk2 : (k : Int) ≤ (out.length : Int) + 1 := by omega
            have hk3 : 0 ≤ (k : Int) + 1 := by omega
            have htn : ((k : Int) + 1).toNat = k + 1 := by omega
            have hg1' : w1.drew.heap[g1]? = some (.cells cur1.toList.toArray 9 (0, 0)) := by rw [Array.toArray_toList]; exact hg1
            obtain ⟨cs, hcsE⟩ : ∃ cs, cs = (out.drop k).map Value.string := ⟨_, rfl⟩
            have hcl : cs.length = out.length - k := by rw [hcsE]; simp
            have hc1 : ∀ v ∈ cs, v.oneCell' = true := by intro v hv; rw [hcsE] at hv; obtain ⟨y, _, rfl⟩ := List.mem_map.1 hv; rfl
            have HCS : Hid (cs = (out.drop k).map Value.string) := hcsE
            clear hcsE
            have hbd : Below w.heap.size w w1.drew := ((hblw.alloc hblw.size _).grown hgrow1 (by have := hblw.size; simp; omega) (fun j hj => (hown.lt j hj).1)).drew
            have hcc : ∀ j v, cs[j]? = some v → w1.drew.cell? ((⟨g1, k, none⟩ : Addr).add j) = some v := by
              intro j v hj
              have hj' : j < cs.length := lt_of_getElem? hj
              have h1 : (cur1.toList.take ((out.length + 1) * 1))[k + j]? = some v := by
                rw [htk1, List.getElem?_append_left (by simp; omega)]
                rw [HCS.out, List.map_drop, List.getElem?_drop] at hj
                exact hj
              rw [List.getElem?_take, if_pos (by omega)] at h1
              have h2 : w1.drew.heap[g1]? = some (.cells cur1 9 (0, 0)) := hg1
              rw [Addr.add_lit, cell_at h2]
              simpa using h1
            have HCC := hide hcc
            clear hcc
            have hcp2 : ¬ cp1 = k := by omega
            obtain ⟨D, hD, hDk⟩ : ∃ D : Addr, (if cp1 = k + 1 then some (⟨g1, 0, none⟩ : Addr) else some ⟨g1, k + 1, none⟩) = some D ∧ Hid (0 < cs.length → D = ⟨g1, k + 1, none⟩) := by
              by_cases h : cp1 = k + 1
              · exact ⟨⟨g1, 0, none⟩, by simp [h], fun h0 => by omega⟩
              · exact ⟨⟨g1, k + 1, none⟩, by simp [h], fun _ => rfl⟩
            have s1 : Hid (cs.length = Nat.min (out.length + 1 - k) (out.length - k)) := by
              rw [hcl]
              exact (Nat.min_eq_right (by omega)).symm
            have s2' : k + 1 + cs.length ≤ cur1.toList.length := by rw [show cur1.toList.length = cur1.size from Array.length_toList]; omega
            have s2 := hide s2'
            clear s2'
            have s3 := hide hc1
            clear hc1
            go_region_law (refine step_copy_splice rfl (.tmp 61) (.tmp 64) 44 44 rfl 9 Tryz.underlying44 sizeStr (some D) (some ⟨g1, k, none⟩) (out.length - k) (cp1 - (k + 1)) (out.length + 1 - k) (cp1 - k) (by simp [Act.eval, Act.put]) (by simp [Act.eval, Act.put]) g1 (k + 1) cur1.toList 9 hg1' cs s1.out (fun h0 => ⟨congrArg some (hDk.out h0), ⟨g1, k, none⟩, rfl, unhide HCC⟩) s2.out s3.out w.heap.size w hbd hBg1 ?_; intro w4 hg4 hb4)
            have hg4' : w4.heap[g1]? = some (.cells (splice cur1.toList (k + 1) ((out.drop k).map Value.string)).toArray 9 (0, 0)) := by rw [← HCS.out]; exact hg4.out
            have hfin := hi.ins HS.out HK.out HN.out hBg1 hnc1 hcm1 (by rw [Array.length_toList, hcs1, Nat.mul_one]) (by rw [← htk1, Nat.mul_one]) hg4' hb4
            obtain ⟨v0, hv0⟩ : ∃ v0, w4.cell? ⟨g1, k, none⟩ = some v0 := by
              rw [cell_at hg4']
              refine ⟨_, Array.getElem?_eq_getElem ?_⟩
              rw [List.size_toArray, length_splice _ _ _ (by rw [← HCS.out]; exact s2.out), Array.length_toList]
              omega
            have hf0 : w4.frozen? ⟨g1, k, none⟩ = false := frozen_at hg4' _
            clear hg4' hg4 hb4 hg1' hbd HCC hD hDk s1 s2 s3 hown1 hgrow1 hg1 htk1
            go_wp2
            go_roundw
            case rel => exact ⟨m + 1, _, by go_num, hfin⟩
            case measure => simp [intOf]; omega
      · rw [hv]
        rw [hv] at hi
        have hown := hi.own
        rcases hodd with ho | ho
        · have HS : Hid ((strsOf fs)[m]? = some q) := by
            have := strsOf_odd HF.out
            have e : 2 * (m / 2) + 1 = m := by have := beq_iff_eq.1 ho; omega
            rwa [e] at this
          clear HF hf
          go_wp2
          have hcell : Hid (∀ j x, out[j]? = some x → wr.cell? ⟨g, j, none⟩ = some (.string x)) := by
            intro j x hj
            rw [cell_at hg]
            have : (cur.toList.take (out.length * 1))[j]? = (out.map Value.string)[j]? := by rw [htk]
            rw [List.getElem?_take, if_pos (by have := lt_of_getElem? hj; omega)] at this
            simpa [hj] using this
          go_loop [6] (fun i => ∃ k : Nat, i = .int .i64 k ∧ k ≤ out.length ∧ ∀ j x, j < k → out[j]? = some x → lessS x q = true) (fun i => out.length - (intOf i).toNat)
          case atStart => exact ⟨0, rfl, Nat.zero_le _, fun j x h => by omega⟩
          case round =>
            obtain ⟨k, rfl, hko, hall⟩ := hrel
            by_cases hk : k < out.length
            · obtain ⟨x, hx⟩ : ∃ x, out[k]? = some x := ⟨_, List.getElem?_eq_getElem hk⟩
              have hcx := hcell.out k x hx
              have HX : Hid (out[k]? = some x) := hx
              clear hx
              cases hl : Op.bytesLess x.toList q.toList
              · have HK : Hid (insAt out q = k) := insAt_of hall hko (fun y hy => by have := HX.out.symm.trans hy; injection this with e; subst e; exact hl)
                clear hall
                cases he : (x.toList == q.toList)
                · have HN : Hid (out[k]? ≠ some q) := by
                    intro h
                    rw [HX.out] at h
                    injection h with h
                    subst h
                    simp at he
                  go_wp2_with (first | (at_builtin; refine wpList_append_own _ rfl _ _ 44 rfl w.heap.size 9 i0 (.string ⟨#[]⟩) 1 16 Tryz.underlying44 hi0 hz0 hz1 hz2 rfl (by decide) _ _ _ rfl (hown.alloc _) ⟨wr.heap.size, 0, none⟩ 1 1 [.string ⟨#[]⟩] rfl rfl (cell_one_new _ _ _) ?c2 ?c3 ?c4 ?c5 ?_) | go_in)
                  case c2 => rfl
                  case c3 => unfold maxLen; omega
                  case c4 => omega
                  case c5 => have := hblw.size; simp; omega
                  intro v' w1 hown1 hgrow1 _
                  obtain ⟨g1, cp1, cur1, hv1, hBg1, hg1, hnc1, hcm1, hcs1, htk1⟩ : ∃ g cap cur, v' = .slice (some ⟨g, 0, none⟩) (out.length + 1) cap ∧ w.heap.size ≤ g ∧ w1.heap[g]? = some (.cells cur 9 (0, 0)) ∧ out.length + 1 ≤ cap ∧ cap ≤ maxLen ∧ cur.size = cap * 1 ∧ cur.toList.take ((out.length + 1) * 1) = out.map Value.string ++ [.string ⟨#[]⟩] := by
                    rcases hown1.2 with ⟨_, h0⟩ | h
                    · omega
                    · exact h
                  rw [hv1]
                  go_wp2
                  have hwp : IntKind.i64.wrap ((k : Int) + 1) = (k : Int) + 1 := by rw [wrap_i64 _ (by omega) (by omega)]
                  have hk1 : (k : Int) + 1 ≤ (out.length : Int) + 1 := by omega
                  have hk2 : (k : Int) ≤ (out.length : Int) + 1 := by omega
                  have hk3 : 0 ≤ (k : Int) + 1 := by omega
                  have htn : ((k : Int) + 1).toNat = k + 1 := by omega
                  have hg1' : w1.drew.heap[g1]? = some (.cells cur1.toList.toArray 9 (0, 0)) := by rw [Array.toArray_toList]; exact hg1
                  obtain ⟨cs, hcsE⟩ : ∃ cs, cs = (out.drop k).map Value.string := ⟨_, rfl⟩
                  have hcl : cs.length = out.length - k := by rw [hcsE]; simp
                  have hc1 : ∀ v ∈ cs, v.oneCell' = true := by intro v hv; rw [hcsE] at hv; obtain ⟨y, _, rfl⟩ := List.mem_map.1 hv; rfl
                  have HCS : Hid (cs = (out.drop k).map Value.string) := hcsE
                  clear hcsE
                  have hbd : Below w.heap.size w w1.drew := ((hblw.alloc hblw.size _).grown hgrow1 (by have := hblw.size; simp; omega) (fun j hj => (hown.lt j hj).1)).drew
                  have hcc : ∀ j v, cs[j]? = some v → w1.drew.cell? ((⟨g1, k, none⟩ : Addr).add j) = some v := by
                    intro j v hj
                    have hj' : j < cs.length := lt_of_getElem? hj
                    have h1 : (cur1.toList.take ((out.length + 1) * 1))[k + j]? = some v := by
                      rw [htk1, List.getElem?_append_left (by simp; omega)]
                      rw [HCS.out, List.map_drop, List.getElem?_drop] at hj
                      exact hj
                    rw [List.getElem?_take, if_pos (by omega)] at h1
                    have h2 : w1.drew.heap[g1]? = some (.cells cur1 9 (0, 0)) := hg1
                    rw [Addr.add_lit, cell_at h2]
                    simpa using h1
                  have HCC := hide hcc
                  clear hcc
                  have hcp2 : ¬ cp1 = k := by omega
                  obtain ⟨D, hD, hDk⟩ : ∃ D : Addr, (if cp1 = k + 1 then some (⟨g1, 0, none⟩ : Addr) else some ⟨g1, k + 1, none⟩) = some D ∧ Hid (0 < cs.length → D = ⟨g1, k + 1, none⟩) := by
                    by_cases h : cp1 = k + 1
                    · exact ⟨⟨g1, 0, none⟩, by simp [h], fun h0 => by omega⟩
                    · exact ⟨⟨g1, k + 1, none⟩, by simp [h], fun _ => rfl⟩
                  have s1 : Hid (cs.length = Nat.min (out.length + 1 - k) (out.length - k)) := by
                    rw [hcl]
                    exact (Nat.min_eq_right (by omega)).symm
                  have s2' : k + 1 + cs.length ≤ cur1.toList.length := by rw [show cur1.toList.length = cur1.size from Array.length_toList]; omega
                  have s2 := hide s2'
                  clear s2'
                  have s3 := hide hc1
                  clear hc1
                  go_region_law (refine step_copy_splice rfl (.tmp 61) (.tmp 64) 44 44 rfl 9 Tryz.underlying44 sizeStr (some D) (some ⟨g1, k, none⟩) (out.length - k) (cp1 - (k + 1)) (out.length + 1 - k) (cp1 - k) (by simp [Act.eval, Act.put]) (by simp [Act.eval, Act.put]) g1 (k + 1) cur1.toList 9 hg1' cs s1.out (fun h0 => ⟨congrArg some (hDk.out h0), ⟨g1, k, none⟩, rfl, unhide HCC⟩) s2.out s3.out w.heap.size w hbd hBg1 ?_; intro w4 hg4 hb4)
                  have hg4' : w4.heap[g1]? = some (.cells (splice cur1.toList (k + 1) ((out.drop k).map Value.string)).toArray 9 (0, 0)) := by rw [← HCS.out]; exact hg4.out
                  have hfin := hi.ins HS.out HK.out HN.out hBg1 hnc1 hcm1 (by rw [Array.length_toList, hcs1, Nat.mul_one]) (by rw [← htk1, Nat.mul_one]) hg4' hb4
                  obtain ⟨v0, hv0⟩ : ∃ v0, w4.cell? ⟨g1, k, none⟩ = some v0 := by
                    rw [cell_at hg4']
                    refine ⟨_, Array.getElem?_eq_getElem ?_⟩
                    rw [List.size_toArray, length_splice _ _ _ (by rw [← HCS.out]; exact s2.out), Array.length_toList]
                    omega
                  have hf0 : w4.frozen? ⟨g1, k, none⟩ = false := frozen_at hg4' _
                  clear hg4' hg4 hb4 hg1' hbd HCC hD hDk s1 s2 s3 hown1 hgrow1 hg1 htk1
                  go_wp2
                  go_roundw
                  case rel => exact ⟨m + 1, _, by go_num, hfin⟩
                  case measure => simp [intOf]; omega
                · have hfin := hi.old HS.out HK.out (by rw [HX.out, toList_inj (beq_iff_eq.1 he)])
                  go_wp2
                  go_roundw
                  case rel => exact ⟨m + 1, _, by go_num, hfin⟩
                  case measure => simp [intOf]; omega
              · have HA : Hid (∀ j y, j < k + 1 → out[j]? = some y → lessS y q = true) := by
                  intro j y hj hy
                  by_cases h : j < k
                  · exact hall j y h hy
                  · have e : j = k := by omega
                    subst e
                    have := HX.out.symm.trans hy
                    injection this with e
                    subst e
                    exact hl
                clear hall
                go_wp2
                go_round
                case rel => exact ⟨k + 1, by go_num, by omega, HA.out⟩
                case measure => simp [intOf]; omega
            · have HK : Hid (insAt out q = k) := insAt_of hall hko (fun y hy => absurd (lt_of_getElem? hy) hk)
              have HN : Hid (out[k]? ≠ some q) := fun h => hk (lt_of_getElem? h)
              clear hall
              go_wp2_with (first | (at_builtin; refine wpList_append_own _ rfl _ _ 44 rfl w.heap.size 9 i0 (.string ⟨#[]⟩) 1 16 Tryz.underlying44 hi0 hz0 hz1 hz2 rfl (by decide) _ _ _ rfl (hown.alloc _) ⟨wr.heap.size, 0, none⟩ 1 1 [.string ⟨#[]⟩] rfl rfl (cell_one_new _ _ _) ?c2 ?c3 ?c4 ?c5 ?_) | go_in)
              case c2 => rfl
              case c3 => unfold maxLen; omega
              case c4 => omega
              case c5 => have := hblw.size; simp; omega
              intro v' w1 hown1 hgrow1 _
              obtain ⟨g1, cp1, cur1, hv1, hBg1, hg1, hnc1, hcm1, hcs1, htk1⟩ : ∃ g cap cur, v' = .slice (some ⟨g, 0, none⟩) (out.length + 1) cap ∧ w.heap.size ≤ g ∧ w1.heap[g]? = some (.cells cur 9 (0, 0)) ∧ out.length + 1 ≤ cap ∧ cap ≤ maxLen ∧ cur.size = cap * 1 ∧ cur.toList.take ((out.length + 1) * 1) = out.map Value.string ++ [.string ⟨#[]⟩] := by
                rcases hown1.2 with ⟨_, h0⟩ | h
                · omega
                · exact h
              rw [hv1]
              go_wp2
              have hwp : IntKind.i64.wrap ((k : Int) + 1) = (k : Int) + 1 := by rw [wrap_i64 _ (by omega) (by omega)]
              have hk1 : (k : Int) + 1 ≤ (out.length : Int) + 1 := by omega
              have hk2 : (k : Int) ≤ (out.length : Int) + 1 := by omega
              have hk3 : 0 ≤ (k : Int) + 1 := by omega
              have htn : ((k : Int) + 1).toNat = k + 1 := by omega
              have hg1' : w1.drew.heap[g1]? = some (.cells cur1.toList.toArray 9 (0, 0)) := by rw [Array.toArray_toList]; exact hg1
              obtain ⟨cs, hcsE⟩ : ∃ cs, cs = (out.drop k).map Value.string := ⟨_, rfl⟩
              have hcl : cs.length = out.length - k := by rw [hcsE]; simp
              have hc1 : ∀ v ∈ cs, v.oneCell' = true := by intro v hv; rw [hcsE] at hv; obtain ⟨y, _, rfl⟩ := List.mem_map.1 hv; rfl
              have HCS : Hid (cs = (out.drop k).map Value.string) := hcsE
              clear hcsE
              have hbd : Below w.heap.size w w1.drew := ((hblw.alloc hblw.size _).grown hgrow1 (by have := hblw.size; simp; omega) (fun j hj => (hown.lt j hj).1)).drew
              have hcc : ∀ j v, cs[j]? = some v → w1.drew.cell? ((⟨g1, k, none⟩ : Addr).add j) = some v := by
                intro j v hj
                have hj' : j < cs.length := lt_of_getElem? hj
                have h1 : (cur1.toList.take ((out.length + 1) * 1))[k + j]? = some v := by
                  rw [htk1, List.getElem?_append_left (by simp; omega)]
                  rw [HCS.out, List.map_drop, List.getElem?_drop] at hj
                  exact hj
                rw [List.getElem?_take, if_pos (by omega)] at h1
                have h2 : w1.drew.heap[g1]? = some (.cells cur1 9 (0, 0)) := hg1
                rw [Addr.add_lit, cell_at h2]
                simpa using h1
              have HCC := hide hcc
              clear hcc
              have hcp2 : ¬ cp1 = k := by omega
              obtain ⟨D, hD, hDk⟩ : ∃ D : Addr, (if cp1 = k + 1 then some (⟨g1, 0, none⟩ : Addr) else some ⟨g1, k + 1, none⟩) = some D ∧ Hid (0 < cs.length → D = ⟨g1, k + 1, none⟩) := by
                by_cases h : cp1 = k + 1
                · exact ⟨⟨g1, 0, none⟩, by simp [h], fun h0 => by omega⟩
                · exact ⟨⟨g1, k + 1, none⟩, by simp [h], fun _ => rfl⟩
              have s1 : Hid (cs.length = Nat.min (out.length + 1 - k) (out.length - k)) := by
                rw [hcl]
                exact (Nat.min_eq_right (by omega)).symm
              have s2' : k + 1 + cs.length ≤ cur1.toList.length := by rw [show cur1.toList.length = cur1.size from Array.length_toList]; omega
              have s2 := hide s2'
              clear s2'
              have s3 := hide hc1
              clear hc1
              go_region_law (refine step_copy_splice rfl (.tmp 61) (.tmp 64) 44 44 rfl 9 Tryz.underlying44 sizeStr (some D) (some ⟨g1, k, none⟩) (out.length - k) (cp1 - (k + 1)) (out.length + 1 - k) (cp1 - k) (by simp [Act.eval, Act.put]) (by simp [Act.eval, Act.put]) g1 (k + 1) cur1.toList 9 hg1' cs s1.out (fun h0 => ⟨congrArg some (hDk.out h0), ⟨g1, k, none⟩, rfl, unhide HCC⟩) s2.out s3.out w.heap.size w hbd hBg1 ?_; intro w4 hg4 hb4)
              have hg4' : w4.heap[g1]? = some (.cells (splice cur1.toList (k + 1) ((out.drop k).map Value.string)).toArray 9 (0, 0)) := by rw [← HCS.out]; exact hg4.out
              have hfin := hi.ins HS.out HK.out HN.out hBg1 hnc1 hcm1 (by rw [Array.length_toList, hcs1, Nat.mul_one]) (by rw [← htk1, Nat.mul_one]) hg4' hb4
              obtain ⟨v0, hv0⟩ : ∃ v0, w4.cell? ⟨g1, k, none⟩ = some v0 := by
                rw [cell_at hg4']
                refine ⟨_, Array.getElem?_eq_getElem ?_⟩
                rw [List.size_toArray, length_splice _ _ _ (by rw [← HCS.out]; exact s2.out), Array.length_toList]
                omega
              have hf0 : w4.frozen? ⟨g1, k, none⟩ = false := frozen_at hg4' _
              clear hg4' hg4 hb4 hg1' hbd HCC hD hDk s1 s2 s3 hown1 hgrow1 hg1 htk1
              go_wp2
              go_roundw
              case rel => exact ⟨m + 1, _, by go_num, hfin⟩
              case measure => simp [intOf]; omega
        · have HS : Hid ((strsOf fs)[m]? = some p) := by
            have := strsOf_even HF.out
            have e : 2 * (m / 2) = m := by have := beq_eq_false_iff_ne.1 ho; omega
            rwa [e] at this
          clear HF hf
          go_wp2
          have hcell : Hid (∀ j x, out[j]? = some x → wr.cell? ⟨g, j, none⟩ = some (.string x)) := by
            intro j x hj
            rw [cell_at hg]
            have : (cur.toList.take (out.length * 1))[j]? = (out.map Value.string)[j]? := by rw [htk]
            rw [List.getElem?_take, if_pos (by have := lt_of_getElem? hj; omega)] at this
            simpa [hj] using this
          go_loop [6] (fun i => ∃ k : Nat, i = .int .i64 k ∧ k ≤ out.length ∧ ∀ j x, j < k → out[j]? = some x → lessS x p = true) (fun i => out.length - (intOf i).toNat)
          case atStart => exact ⟨0, rfl, Nat.zero_le _, fun j x h => by omega⟩
          case round =>
            obtain ⟨k, rfl, hko, hall⟩ := hrel
            by_cases hk : k < out.length
            · obtain ⟨x, hx⟩ : ∃ x, out[k]? = some x := ⟨_, List.getElem?_eq_getElem hk⟩
              have hcx := hcell.out k x hx
              have HX : Hid (out[k]? = some x) := hx
              clear hx
              cases hl : Op.bytesLess x.toList p.toList
              · have HK : Hid (insAt out p = k) := insAt_of hall hko (fun y hy => by have := HX.out.symm.trans hy; injection this with e; subst e; exact hl)
                clear hall
                cases he : (x.toList == p.toList)
                · have HN : Hid (out[k]? ≠ some p) := by
                    intro h
                    rw [HX.out] at h
                    injection h with h
                    subst h
                    simp at he
                  go_wp2_with (first | (at_builtin; refine wpList_append_own _ rfl _ _ 44 rfl w.heap.size 9 i0 (.string ⟨#[]⟩) 1 16 Tryz.underlying44 hi0 hz0 hz1 hz2 rfl (by decide) _ _ _ rfl (hown.alloc _) ⟨wr.heap.size, 0, none⟩ 1 1 [.string ⟨#[]⟩] rfl rfl (cell_one_new _ _ _) ?c2 ?c3 ?c4 ?c5 ?_) | go_in)
                  case c2 => rfl
                  case c3 => unfold maxLen; omega
                  case c4 => omega
                  case c5 => have := hblw.size; simp; omega
                  intro v' w1 hown1 hgrow1 _
                  obtain ⟨g1, cp1, cur1, hv1, hBg1, hg1, hnc1, hcm1, hcs1, htk1⟩ : ∃ g cap cur, v' = .slice (some ⟨g, 0, none⟩) (out.length + 1) cap ∧ w.heap.size ≤ g ∧ w1.heap[g]? = some (.cells cur 9 (0, 0)) ∧ out.length + 1 ≤ cap ∧ cap ≤ maxLen ∧ cur.size = cap * 1 ∧ cur.toList.take ((out.length + 1) * 1) = out.map Value.string ++ [.string ⟨#[]⟩] := by
                    rcases hown1.2 with ⟨_, h0⟩ | h
                    · omega
                    · exact h
                  rw [hv1]
                  go_wp2
                  have hwp : IntKind.i64.wrap ((k : Int) + 1) = (k : Int) + 1 := by rw [wrap_i64 _ (by omega) (by omega)]
                  have hk1 : (k : Int) + 1 ≤ (out.length : Int) + 1 := by omega
                  have hk2 : (k : Int) ≤ (out.length : Int) + 1 := by omega
                  have hk3 : 0 ≤ (k : Int) + 1 := by omega
                  have htn : ((k : Int) + 1).toNat = k + 1 := by omega
                  have hg1' : w1.drew.heap[g1]? = some (.cells cur1.toList.toArray 9 (0, 0)) := by rw [Array.toArray_toList]; exact hg1
                  obtain ⟨cs, hcsE⟩ : ∃ cs, cs = (out.drop k).map Value.string := ⟨_, rfl⟩
                  have hcl : cs.length = out.length - k := by rw [hcsE]; simp
                  have hc1 : ∀ v ∈ cs, v.oneCell' = true := by intro v hv; rw [hcsE] at hv; obtain ⟨y, _, rfl⟩ := List.mem_map.1 hv; rfl
                  have HCS : Hid (cs = (out.drop k).map Value.string) := hcsE
                  clear hcsE
                  have hbd : Below w.heap.size w w1.drew := ((hblw.alloc hblw.size _).grown hgrow1 (by have := hblw.size; simp; omega) (fun j hj => (hown.lt j hj).1)).drew
                  have hcc : ∀ j v, cs[j]? = some v → w1.drew.cell? ((⟨g1, k, none⟩ : Addr).add j) = some v := by
                    intro j v hj
                    have hj' : j < cs.length := lt_of_getElem? hj
                    have h1 : (cur1.toList.take ((out.length + 1) * 1))[k + j]? = some v := by
                      rw [htk1, List.getElem?_append_left (by simp; omega)]
                      rw [HCS.out, List.map_drop, List.getElem?_drop] at hj
                      exact hj
                    rw [List.getElem?_take, if_pos (by omega)] at h1
                    have h2 : w1.drew.heap[g1]? = some (.cells cur1 9 (0, 0)) := hg1
                    rw [Addr.add_lit, cell_at h2]
                    simpa using h1
                  have HCC := hide hcc
                  clear hcc
                  have hcp2 : ¬ cp1 = k := by omega
                  obtain ⟨D, hD, hDk⟩ : ∃ D : Addr, (if cp1 = k + 1 then some (⟨g1, 0, none⟩ : Addr) else some ⟨g1, k + 1, none⟩) = some D ∧ Hid (0 < cs.length → D = ⟨g1, k + 1, none⟩) := by
                    by_cases h : cp1 = k + 1
                    · exact ⟨⟨g1, 0, none⟩, by simp [h], fun h0 => by omega⟩
                    · exact ⟨⟨g1, k + 1, none⟩, by simp [h], fun _ => rfl⟩
                  have s1 : Hid (cs.length = Nat.min (out.length + 1 - k) (out.length - k)) := by
                    rw [hcl]
                    exact (Nat.min_eq_right (by omega)).symm
                  have s2' : k + 1 + cs.length ≤ cur1.toList.length := by rw [show cur1.toList.length = cur1.size from Array.length_toList]; omega
                  have s2 := hide s2'
                  clear s2'
                  have s3 := hide hc1
                  clear hc1
                  go_region_law (refine step_copy_splice rfl (.tmp 61) (.tmp 64) 44 44 rfl 9 Tryz.underlying44 sizeStr (some D) (some ⟨g1, k, none⟩) (out.length - k) (cp1 - (k + 1)) (out.length + 1 - k) (cp1 - k) (by simp [Act.eval, Act.put]) (by simp [Act.eval, Act.put]) g1 (k + 1) cur1.toList 9 hg1' cs s1.out (fun h0 => ⟨congrArg some (hDk.out h0), ⟨g1, k, none⟩, rfl, unhide HCC⟩) s2.out s3.out w.heap.size w hbd hBg1 ?_; intro w4 hg4 hb4)
                  have hg4' : w4.heap[g1]? = some (.cells (splice cur1.toList (k + 1) ((out.drop k).map Value.string)).toArray 9 (0, 0)) := by rw [← HCS.out]; exact hg4.out
                  have hfin := hi.ins HS.out HK.out HN.out hBg1 hnc1 hcm1 (by rw [Array.length_toList, hcs1, Nat.mul_one]) (by rw [← htk1, Nat.mul_one]) hg4' hb4
                  obtain ⟨v0, hv0⟩ : ∃ v0, w4.cell? ⟨g1, k, none⟩ = some v0 := by
                    rw [cell_at hg4']
                    refine ⟨_, Array.getElem?_eq_getElem ?_⟩
                    rw [List.size_toArray, length_splice _ _ _ (by rw [← HCS.out]; exact s2.out), Array.length_toList]
                    omega
                  have hf0 : w4.frozen? ⟨g1, k, none⟩ = false := frozen_at hg4' _
                  clear hg4' hg4 hb4 hg1' hbd HCC hD hDk s1 s2 s3 hown1 hgrow1 hg1 htk1
                  go_wp2
                  go_roundw
                  case rel => exact ⟨m + 1, _, by go_num, hfin⟩
                  case measure => simp [intOf]; omega
                · have hfin := hi.old HS.out HK.out (by rw [HX.out, toList_inj (beq_iff_eq.1 he)])
                  go_wp2
                  go_roundw
                  case rel => exact ⟨m + 1, _, by go_num, hfin⟩
                  case measure => simp [intOf]; omega
              · have HA : Hid (∀ j y, j < k + 1 → out[j]? = some y → lessS y p = true) := by
                  intro j y hj hy
                  by_cases h : j < k
                  · exact hall j y h hy
                  · have e : j = k := by omega
                    subst e
                    have := HX.out.symm.trans hy
                    injection this with e
                    subst e
                    exact hl
                clear hall
                go_wp2
                go_round
                case rel => exact ⟨k + 1, by go_num, by omega, HA.out⟩
                case measure => simp [intOf]; omega
            · have HK : Hid (insAt out p = k) := insAt_of hall hko (fun y hy => absurd (lt_of_getElem? hy) hk)
              have HN : Hid (out[k]? ≠ some p) := fun h => hk (lt_of_getElem? h)
              clear hall
              go_wp2_with (first | (at_builtin; refine wpList_append_own _ rfl _ _ 44 rfl w.heap.size 9 i0 (.string ⟨#[]⟩) 1 16 Tryz.underlying44 hi0 hz0 hz1 hz2 rfl (by decide) _ _ _ rfl (hown.alloc _) ⟨wr.heap.size, 0, none⟩ 1 1 [.string ⟨#[]⟩] rfl rfl (cell_one_new _ _ _) ?c2 ?c3 ?c4 ?c5 ?_) | go_in)
              case c2 => rfl
              case c3 => unfold maxLen; omega
              case c4 => omega
              case c5 => have := hblw.size; simp; omega
              intro v' w1 hown1 hgrow1 _
              obtain ⟨g1, cp1, cur1, hv1, hBg1, hg1, hnc1, hcm1, hcs1, htk1⟩ : ∃ g cap cur, v' = .slice (some ⟨g, 0, none⟩) (out.length + 1) cap ∧ w.heap.size ≤ g ∧ w1.heap[g]? = some (.cells cur 9 (0, 0)) ∧ out.length + 1 ≤ cap ∧ cap ≤ maxLen ∧ cur.size = cap * 1 ∧ cur.toList.take ((out.length + 1) * 1) = out.map Value.string ++ [.string ⟨#[]⟩] := by
                rcases hown1.2 with ⟨_, h0⟩ | h
                · omega
                · exact h
              rw [hv1]
              go_wp2
              have hwp : IntKind.i64.wrap ((k : Int) + 1) = (k : Int) + 1 := by rw [wrap_i64 _ (by omega) (by omega)]
              have hk1 : (k : Int) + 1 ≤ (out.length : Int) + 1 := by omega
              have hk2 : (k : Int) ≤ (out.length : Int) + 1 := by omega
              have hk3 : 0 ≤ (k : Int) + 1 := by omega
              have htn : ((k : Int) + 1).toNat = k + 1 := by omega
              have hg1' : w1.drew.heap[g1]? = some (.cells cur1.toList.toArray 9 (0, 0)) := by rw [Array.toArray_toList]; exact hg1
              obtain ⟨cs, hcsE⟩ : ∃ cs, cs = (out.drop k).map Value.string := ⟨_, rfl⟩
              have hcl : cs.length = out.length - k := by rw [hcsE]; simp
              have hc1 : ∀ v ∈ cs, v.oneCell' = true := by intro v hv; rw [hcsE] at hv; obtain ⟨y, _, rfl⟩ := List.mem_map.1 hv; rfl
              have HCS : Hid (cs = (out.drop k).map Value.string) := hcsE
              clear hcsE
              have hbd : Below w.heap.size w w1.drew := ((hblw.alloc hblw.size _).grown hgrow1 (by have := hblw.size; simp; omega) (fun j hj => (hown.lt j hj).1)).drew
              have hcc : ∀ j v, cs[j]? = some v → w1.drew.cell? ((⟨g1, k, none⟩ : Addr).add j) = some v := by
                intro j v hj
                have hj' : j < cs.length := lt_of_getElem? hj
                have h1 : (cur1.toList.take ((out.length + 1) * 1))[k + j]? = some v := by
                  rw [htk1, List.getElem?_append_left (by simp; omega)]
                  rw [HCS.out, List.map_drop, List.getElem?_drop] at hj
                  exact hj
                rw [List.getElem?_take, if_pos (by omega)] at h1
                have h2 : w1.drew.heap[g1]? = some (.cells cur1 9 (0, 0)) := hg1
                rw [Addr.add_lit, cell_at h2]
                simpa using h1
              have HCC := hide hcc
              clear hcc
              have hcp2 : ¬ cp1 = k := by omega
              obtain ⟨D, hD, hDk⟩ : ∃ D : Addr, (if cp1 = k + 1 then some (⟨g1, 0, none⟩ : Addr) else some ⟨g1, k + 1, none⟩) = some D ∧ Hid (0 < cs.length → D = ⟨g1, k + 1, none⟩) := by
                by_cases h : cp1 = k + 1
                · exact ⟨⟨g1, 0, none⟩, by simp [h], fun h0 => by omega⟩
                · exact ⟨⟨g1, k + 1, none⟩, by simp [h], fun _ => rfl⟩
              have s1 : Hid (cs.length = Nat.min (out.length + 1 - k) (out.length - k)) := by
                rw [hcl]
                exact (Nat.min_eq_right (by omega)).symm
              have s2' : k + 1 + cs.length ≤ cur1.toList.length := by rw [show cur1.toList.length = cur1.size from Array.length_toList]; omega
              have s2 := hide s2'
              clear s2'
              have s3 := hide hc1
              clear hc1
              go_region_law (refine step_copy_splice rfl (.tmp 61) (.tmp 64) 44 44 rfl 9 Tryz.underlying44 sizeStr (some D) (some ⟨g1, k, none⟩) (out.length - k) (cp1 - (k + 1)) (out.length + 1 - k) (cp1 - k) (by simp [Act.eval, Act.put]) (by simp [Act.eval, Act.put]) g1 (k + 1) cur1.toList 9 hg1' cs s1.out (fun h0 => ⟨congrArg some (hDk.out h0), ⟨g1, k, none⟩, rfl, unhide HCC⟩) s2.out s3.out w.heap.size w hbd hBg1 ?_; intro w4 hg4 hb4)
              have hg4' : w4.heap[g1]? = some (.cells (splice cur1.toList (k + 1) ((out.drop k).map Value.string)).toArray 9 (0, 0)) := by rw [← HCS.out]; exact hg4.out
              have hfin := hi.ins HS.out HK.out HN.out hBg1 hnc1 hcm1 (by rw [Array.length_toList, hcs1, Nat.mul_one]) (by rw [← htk1, Nat.mul_one]) hg4' hb4
              obtain ⟨v0, hv0⟩ : ∃ v0, w4.cell? ⟨g1, k, none⟩ = some v0 := by
                rw [cell_at hg4']
                refine ⟨_, Array.getElem?_eq_getElem ?_⟩
                rw [List.size_toArray, length_splice _ _ _ (by rw [← HCS.out]; exact s2.out), Array.length_toList]
                omega
              have hf0 : w4.frozen? ⟨g1, k, none⟩ = false := frozen_at hg4' _
              clear hg4' hg4 hb4 hg1' hbd HCC hD hDk s1 s2 s3 hown1 hgrow1 hg1 htk1
              go_wp2
              go_roundw
              case rel => exact ⟨m + 1, _, by go_num, hfin⟩
              case measure => simp [intOf]; omega
    · go_wp2
      have hm : m = 2 * fs.length := by have := hi.le; omega
      subst hm
      go_ret
      refine ⟨_, rfl, ?_⟩
      have e := hi.eqn
      rw [List.take_of_length_le (by rw [strsOf_length]; omega)] at e
      rw [← e]
      exact hi

theorem names_none (ao : Option Addr) (cap : Nat) (w : World) :
    Calls Tryz.prog 53 #[.slice ao 0 cap] w fun e w' => ∃ v, e = .returned v ∧ NInv w w' [] 0 v (namesS (strsOf [])) := by
  go_enter Tryz.func53, Tryz.ntmps53
  go_wp2
  refine wp_loop_rounds 1 ?_
  rw [rounds_succ]
  go_wp2
  go_ret
  exact ⟨_, rfl, Nat.le_refl _, rfl, Nat.le_refl _, World.ownsRow_nil _ _ _ _, Below.refl _ _⟩

theorem names_any (v : Value) (fs : List Fct) (w : World) (hlen : fs.length ≤ 1000) (hv : IsFacts v fs w) :
    Calls Tryz.prog 53 #[v] w fun e w' => ∃ v, e = .returned v ∧ NInv w w' fs (2 * fs.length) v (namesS (strsOf fs)) := by
  obtain ⟨ao, cap, rfl, _, _, h⟩ := hv
  by_cases hfs : fs = []
  · subst hfs
    exact names_none ao cap w
  · obtain ⟨b, off, rfl, hb, hf⟩ := h hfs
    exact names_some b off cap fs w hlen hf hb

end Go.Proofs.YtiamlbhkiehilaaGreatDoor
