import Derived.Test.YtiamlbhkiehilaaFMem
import Derived.Test.YtiamlbhkiehilaaRows
import Derived.ProofKit
import Derived.SizedLaws
import Derived.Deep.Slices
import Derived.Deep.Strs
namespace Go.Proofs.Ytiamlbhkiehilaa
open Go.ChangeShapes Go.WideShapes Go.ChangeAt Go.RowKit Go.Deep

theorem own : ownKnob Try.prog.godebug = none := by kernel_rfl
theorem laidOut : laidOutB Try.prog = true := by kernel_rfl
theorem cellsFact : Try.prog.cellsOf 25 = 3 := by kernel_rfl
theorem cellsKind : Try.prog.cellsOf 23 = 1 := by kernel_rfl
theorem cellsStr : Try.prog.cellsOf 9 = 1 := by kernel_rfl
theorem bytesFact : Try.prog.bytesOf 25 = 40 := by kernel_rfl

theorem list_of_all {α : Type} {n : Nat} {p : Nat → α → Prop} (h : ∀ i, i < n → ∃ x, p i x) : ∃ l : List α, l.length = n ∧ ∀ i x, l[i]? = some x → p i x := by
  induction n with
  | zero => exact ⟨[], rfl, fun i x hx => by simp at hx⟩
  | succ n ih =>
    obtain ⟨l, hl, hp⟩ := ih (fun i hi => h i (by omega))
    obtain ⟨x, hx⟩ := h n (by omega)
    refine ⟨l ++ [x], by simp [hl], fun i y hy => ?_⟩
    rw [List.getElem?_append] at hy
    split at hy
    · exact hp i y hy
    · rename_i hi
      have hz : i - l.length = 0 := by
        have := (List.getElem?_eq_some_iff.1 hy).1
        simp at this
        omega
      rw [hz] at hy
      simp at hy
      have : i = n := by omega
      subst this
      exact hy ▸ hx

section
variable {H : Type} {enc : TypeId × Value → H} {w : World} {spare : Nat → Bool} {held : Bool}

/-- A fact's three cells, read. -/
theorem open_fact {fuel : Nat} {cs : List Value} {x : DataW H × List MemPlace} (h : DataW.trod enc Try.prog w 0 spare held fuel 25 cs = some x) :
    ∃ k p q, cs = [.int .i64 k, .string p, .string q] ∧ p.size ≤ maxLen ∧ q.size ≤ maxLen := by
  obtain ⟨y0, y1, y2, n, _, hl, h0, h1, h2⟩ := trod_struct3 Try.underlying25 h
  rw [cellsFact] at hl
  simp only [cellsKind, cellsStr] at h0 h1 h2
  obtain ⟨k, e0, _, _⟩ := DataW.trod_int Try.underlying23 h0
  obtain ⟨p, e1, _, hp⟩ := DataW.trod_string Try.underlying9 h1
  obtain ⟨q, e2, _, hq⟩ := DataW.trod_string Try.underlying9 h2
  match cs, hl with
  | [a, b, c], _ =>
    simp at e0 e1 e2
    subst e0 e1 e2
    exact ⟨k, p, q, rfl, hp, hq⟩

/-- A slice of facts that came in. -/
theorem open_facts {fuel : Nat} {cs : List Value} {x : DataW H × List MemPlace} (h : DataW.trod enc Try.prog w 0 (fun _ => true) held fuel 22 cs = some x) :
    (cs = [.slice none 0 0] ∧ x = (.nil, [])) ∨
    ∃ (a : Addr) (len cap : Nat) (D : Nat → DataW H) (ps : List MemPlace) (fs : List Fct), cs = [.slice (some a) len cap] ∧ len ≤ cap ∧ cap ≤ maxLen ∧ x = (.slice ((List.range len).map D) ((List.range (cap - len)).map fun j => D (len + j)), ps) ∧
      fs.length = len ∧ fitsF fs ∧ (fs ≠ [] → ∃ b off, a = ⟨b, off, none⟩ ∧ b < w.heap.size ∧ FactsAt b off fs w) := by
  rcases open_slice Try.underlying22 h with h0 | ⟨a, len, cap, m, n, D, Pl, hcs, _, hl, hm, hmm, hx, hel⟩
  · exact Or.inl h0
  · right
    simp only [if_true] at hmm
    subst hmm
    rw [cellsFact] at hel
    obtain ⟨fs, hfl, hfs⟩ := list_of_all (n := len) (p := fun i (f : Fct) => (w.cells? 0 (a.add (i * 3)) 3 = some [.int .i64 f.k, .string f.p, .string f.q]) ∧ f.p.size ≤ maxLen ∧ f.q.size ≤ maxLen) (fun i hi => by
      obtain ⟨cs', h1, h2⟩ := hel i (by omega)
      obtain ⟨k, p, q, rfl, hp, hq⟩ := open_fact h2
      exact ⟨⟨k, p, q⟩, h1, hp, hq⟩)
    refine ⟨a, len, m, D, _, fs, hcs, hl, hm, hx, hfl, ?_, ?_⟩
    · intro f hf
      obtain ⟨i, hi⟩ := List.getElem?_of_mem hf
      exact (hfs i f hi).2
    · intro hne
      have hpos : 0 < fs.length := by
        cases fs with
        | nil => exact absurd rfl hne
        | cons f r => simp
      have hcell : ∀ i k p q, fs[i]? = some ⟨k, p, q⟩ → ∀ j, j < 3 → w.cell? ((a.add (i * 3)).add j) = [Value.int .i64 k, .string p, .string q][j]? := by
        intro i k p q hi j hj
        obtain ⟨_, _, hc⟩ := World.cells?_some (hfs i _ hi).1
        exact hc j hj
      obtain ⟨⟨k0, p0, q0⟩, hf0⟩ : ∃ f, fs[0]? = some f := ⟨_, List.getElem?_eq_getElem hpos⟩
      have hc0 := hcell 0 k0 p0 q0 hf0 0 (by omega)
      obtain ⟨b, off, spot⟩ := a
      have hspot : spot = none := by simpa [Addr.add] using World.cell?_spot hc0
      subst hspot
      have hbl : b < w.heap.size := by
        have := World.cells?_block (hfs 0 _ hf0).1 (by omega)
        simpa [Addr.add] using this
      refine ⟨b, off, rfl, hbl, fun i k p q hi => ?_⟩
      have hc := hcell i k p q hi
      simp only [Addr.add_lit] at hc
      exact ⟨hc 0 (by omega), hc 1 (by omega), hc 2 (by omega)⟩

end

end Go.Proofs.Ytiamlbhkiehilaa
