import Derived.Test.YtiamlbhkiehilaaDoorPure
import Derived.Lib.OthersKept
import Derived.Deep.Quiet
import Derived.Maps.OwnSet
import Derived.Maps.Views
namespace Go.Proofs.YtiamlbhkiehilaaDoor
open Go.RowKit

/-- w' is w with new blocks and with writes to the listed blocks alone. -/
structure Kb (l : List Nat) (w w' : World) : Prop where
  os : w'.os = w.os
  tape : w'.tape = w.tape
  output : w'.output = w.output
  size : w.heap.size ≤ w'.heap.size
  block : ∀ k, k < w.heap.size → k ∉ l → w'.heap[k]? = w.heap[k]?

theorem Kb.refl (l : List Nat) (w : World) : Kb l w w := ⟨rfl, rfl, rfl, Nat.le_refl _, fun _ _ _ => rfl⟩

theorem Kb.trans {l : List Nat} {a b c : World} (h : Kb l a b) (k : Kb l b c) : Kb l a c :=
  ⟨k.os.trans h.os, k.tape.trans h.tape, k.output.trans h.output, Nat.le_trans h.size k.size, fun i hi hl => (k.block i (Nat.lt_of_lt_of_le hi h.size) hl).trans (h.block i hi hl)⟩

theorem Kb.mono {l l' : List Nat} {w w' : World} (h : Kb l w w') (hl : ∀ k, k < w.heap.size → k ∈ l → k ∈ l') : Kb l' w w' :=
  ⟨h.os, h.tape, h.output, h.size, fun k hk hn => h.block k hk (fun hm => hn (hl k hk hm))⟩

theorem Kb.drew {l : List Nat} {a w : World} (h : Kb l a w) : Kb l a w.drew := ⟨h.os, h.tape, h.output, h.size, h.block⟩

theorem Kb.drewN {l : List Nat} {a w : World} (h : Kb l a w) (n : Nat) : Kb l a (w.drewN n) := ⟨h.os, h.tape, h.output, h.size, h.block⟩

theorem Kb.alloc {l : List Nat} {a w : World} (h : Kb l a w) (o : Obj) : Kb l a (w.alloc o) :=
  h.trans ⟨rfl, rfl, rfl, by simp, fun k hk _ => Below.heap_alloc _ _ _ hk⟩

/-- A store into a listed block, or into one that is new. -/
theorem Kb.setCell {l : List Nat} {a w : World} (h : Kb l a w) {p : Addr} (hp : p.block ∈ l ∨ a.heap.size ≤ p.block) (u : Value) : Kb l a (w.setCell p u) := by
  refine ⟨h.os, h.tape, h.output, by simpa [World.setCell] using h.size, fun k hk hl => ?_⟩
  have hne : k ≠ p.block := by
    rcases hp with hp | hp
    · intro e
      exact hl (e ▸ hp)
    · omega
  exact (Below.heap_setCell _ _ _ _ hne).trans (h.block k hk hl)

theorem Kb.grown {l : List Nat} {a w w' : World} {row : Option Nat} (h : Kb l a w) (hg : w.grownBy w' row) (hr : ∀ k, row = some k → k ∈ l ∨ a.heap.size ≤ k) : Kb l a w' :=
  ⟨hg.os.trans h.os, hg.tape.trans h.tape, hg.output.trans h.output, Nat.le_trans h.size hg.size, fun k hk hl => (hg.block k (Nat.lt_of_lt_of_le hk h.size) (fun e => by
    rcases hr k e.symm with h1 | h1
    · exact hl h1
    · omega)).trans (h.block k hk hl)⟩

theorem Kb.of_below {w w' : World} (h : Below w.heap.size w w') (l : List Nat) : Kb l w w' := ⟨h.os, h.tape, h.output, h.size, fun k hk _ => h.block k hk⟩

theorem Kb.below {l : List Nat} {w w' : World} (h : Kb l w w') {B : Nat} (hB : B ≤ w.heap.size) (hl : ∀ k ∈ l, B ≤ k) : Below B w w' :=
  ⟨h.os, h.tape, h.output, h.size, fun k hk => h.block k (by omega) (fun hm => by have := hl k hm; omega)⟩

theorem Kb.cell {l : List Nat} {w w' : World} (h : Kb l w w') {p : Addr} (hp : p.block < w.heap.size) (hl : p.block ∉ l) : w'.cell? p = w.cell? p := World.cell?_of_block (w := w) (h.block p.block hp hl)

theorem lt_of_heap {w : World} {b : Nat} {o : Obj} (h : w.heap[b]? = some o) : b < w.heap.size := (Array.getElem?_eq_some_iff.1 h).1

theorem Kb.heap {l : List Nat} {w w' : World} (h : Kb l w w') {b : Nat} {o : Obj} (hb : w.heap[b]? = some o) (hl : b ∉ l) : w'.heap[b]? = some o := (h.block b (lt_of_heap hb) hl).trans hb

theorem Below.heapAt {B : Nat} {w w' : World} (h : Below B w w') {b : Nat} {o : Obj} (hb : w.heap[b]? = some o) (hl : b < B) : w'.heap[b]? = some o := (h.block b hl).trans hb

theorem heap_new (w : World) (o : Obj) : (w.alloc o).heap[w.heap.size]? = some o := by
  show (w.heap.push o)[w.heap.size]? = _
  simp

theorem heap_old {w : World} {b : Nat} {x : Obj} (h : w.heap[b]? = some x) (o : Obj) : (w.alloc o).heap[b]? = some x := by
  rw [Below.heap_alloc _ _ _ (lt_of_heap h)]; exact h

theorem cell_at {w : World} {b : Nat} {cs : Array Value} {T : TypeId} {fr : Nat × Nat} (hb : w.heap[b]? = some (.cells cs T fr)) (j : Nat) : w.cell? ⟨b, j, none⟩ = cs[j]? := by
  simp [World.cell?, hb]

theorem frozen_at {w : World} {b : Nat} {cs : Array Value} {T : TypeId} (hb : w.heap[b]? = some (.cells cs T (0, 0))) (j : Nat) : w.frozen? ⟨b, j, none⟩ = false := by
  simp [World.frozen?, hb]

theorem heap_set {w : World} {b : Nat} {cs : Array Value} {T : TypeId} {fr : Nat × Nat} (hb : w.heap[b]? = some (.cells cs T fr)) (j : Nat) (v : Value) : (w.setCell ⟨b, j, none⟩ v).heap[b]? = some (.cells (cs.setIfInBounds j v) T fr) := by
  simp [World.setCell, Array.getElem?_modify, hb]

/-- A map in a block that is none of the written ones reads as it did. -/
theorem Kb.ownsMap {H : Type} {P : Program} {l : List Nat} {w w' : World} (h : Kb l w w') {k : TypeId} {R : Value → Option (DataW H × List MemPlace)} {b n : Nat} {D : DataW H} (hm : w.ownsMap P k R b n D) (hl : b ∉ l) : w'.ownsMap P k R b n D := by
  obtain ⟨es, clock, hb, r⟩ := hm
  exact ⟨es, clock, h.heap hb hl, r⟩

theorem others_ownsMap {H : Type} {P : Program} {e : TypeId} {c : Option Nat} {w w' : World} (h : Lib.OthersKept e c w w') {k : TypeId} {R : Value → Option (DataW H × List MemPlace)} {b n : Nat} {D : DataW H} (hm : w.ownsMap P k R b n D) (hl : some b ≠ c) : w'.ownsMap P k R b n D := by
  obtain ⟨es, clock, hb, r⟩ := hm
  exact ⟨es, clock, h b _ hb hl (by intro c fz; exact fun e => by cases e), r⟩

/-- A builder stays one while blocks are written that are neither its own nor rows of its bytes. -/
theorem Kb.builderAt {l : List Nat} {w w' : World} (h : Kb l w w') {T e : TypeId} {B b : Nat} {p : Value} {bs : List Value} (hb : Lib.BuilderAtF T e B b p bs w) (hl : b ∉ l) (hn : ∀ x ∈ l, ∀ c fz, w.heap[x]? ≠ some (.cells c e fz)) : Lib.BuilderAtF T e B b p bs w' := by
  obtain ⟨hB, v, hv, hown, hne⟩ := hb
  refine ⟨hB, v, h.heap hv hl, ?_, hne⟩
  obtain ⟨h1, h2⟩ := hown
  refine ⟨h1, ?_⟩
  rcases h2 with h2 | ⟨g, cap, cur, fz, hv, hg, hh, r⟩
  · exact Or.inl h2
  · exact Or.inr ⟨g, cap, cur, fz, hv, hg, h.heap hh (fun hm => hn g hm _ _ hh), r⟩

theorem Kb.builder {l : List Nat} {w w' : World} (h : Kb l w w') {T e : TypeId} {B b : Nat} {bs : List Value} (hb : Lib.IsBuilderF T e B b bs w) (hl : b ∉ l) (hn : ∀ x ∈ l, ∀ c fz, w.heap[x]? ≠ some (.cells c e fz)) : Lib.IsBuilderF T e B b bs w' := by
  rcases hb with hb | hb
  · exact .inl (h.builderAt hb hl hn)
  · exact .inr (h.builderAt hb hl hn)

end Go.Proofs.YtiamlbhkiehilaaDoor
