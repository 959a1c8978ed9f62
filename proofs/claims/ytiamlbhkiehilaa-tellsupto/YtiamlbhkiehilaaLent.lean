import Derived.Test.YtiamlbhkiehilaaRows3
import Derived.Test.YtiamlbhkiehilaaCopy
import Derived.RegionTactic
namespace Go.Proofs.Ytiamlbhkiehilaa
open Go.RowKit

def beyS : ByteArray := ⟨#[98, 101, 121, 111, 110, 100]⟩
def overS : ByteArray := ⟨#[111, 118, 101, 114]⟩

/-- Rows as cells. -/
def cellsP (ps : List (ByteArray × Value)) : List Value := ps.flatMap fun p => [.string p.1, p.2]

theorem cellsP_length (ps : List (ByteArray × Value)) : (cellsP ps).length = ps.length * 2 := by
  induction ps with
  | nil => rfl
  | cons f r ih =>
    have : cellsP (f :: r) = .string f.1 :: f.2 :: cellsP r := by simp [cellsP]
    rw [this]
    simp [ih]
    omega

theorem cellsP_get (ps : List (ByteArray × Value)) (i : Nat) (n : ByteArray) (v : Value) (h : ps[i]? = some (n, v)) : (cellsP ps)[i * 2]? = some (.string n) ∧ (cellsP ps)[i * 2 + 1]? = some v := by
  induction ps generalizing i with
  | nil => simp at h
  | cons f r ih =>
    have e : cellsP (f :: r) = .string f.1 :: f.2 :: cellsP r := by simp [cellsP]
    rw [e]
    cases i with
    | zero =>
      simp at h
      subst h
      exact ⟨rfl, rfl⟩
    | succ i =>
      have := ih i (by simpa using h)
      have e2 : (i + 1) * 2 = i * 2 + 1 + 1 := by omega
      rw [e2]
      simpa using this

theorem cellsP_mid (A B : List (ByteArray × Value)) (n : ByteArray) (v : Value) : cellsP (A ++ (n, v) :: B) = cellsP A ++ .string n :: v :: cellsP B := by simp [cellsP]

/-- A row of rows, and what lies behind them. -/
def RowP (g : Nat) (ps : List (ByteArray × Value)) (rest : List Value) (w : World) : Prop := w.heap[g]? = some (.cells (cellsP ps ++ rest).toArray 38 (0, 0))

theorem RowP.get {g : Nat} {ps : List (ByteArray × Value)} {rest : List Value} {w : World} (h : RowP g ps rest w) {i : Nat} {n : ByteArray} {v : Value} (hi : ps[i]? = some (n, v)) :
    w.cell? ⟨g, i * 2, none⟩ = some (.string n) ∧ w.cell? ⟨g, i * 2 + 1, none⟩ = some v := by
  have hl := lt_get hi
  obtain ⟨g0, g1⟩ := cellsP_get ps _ _ _ hi
  have hc : ∀ j u, j < ps.length * 2 → (cellsP ps)[j]? = some u → w.cell? ⟨g, j, none⟩ = some u := by
    intro j u hj hu
    rw [cell_at h]
    simp only [List.getElem?_toArray]
    rw [List.getElem?_append_left (by rw [cellsP_length]; exact hj), hu]
  exact ⟨hc _ _ (by omega) g0, hc _ _ (by omega) g1⟩

theorem set2 (cs : List Value) (x y a b : Value) (r : List Value) : ((cs ++ x :: y :: r).toArray.setIfInBounds cs.length a).setIfInBounds (cs.length + 1) b = (cs ++ a :: b :: r).toArray := by
  apply Array.ext'
  simp

theorem set1 (cs : List Value) (x a : Value) (r : List Value) : (cs ++ x :: r).toArray.setIfInBounds cs.length a = (cs ++ a :: r).toArray := by
  apply Array.ext'
  simp

/-- A row laid behind the others. -/
theorem RowP.push {g : Nat} {ps : List (ByteArray × Value)} {x y : Value} {rest : List Value} {w : World} (h : RowP g ps (x :: y :: rest) w) (n : ByteArray) (v : Value) :
    RowP g (ps ++ [(n, v)]) rest ((w.setCell ⟨g, ps.length * 2, none⟩ (.string n)).setCell ⟨g, ps.length * 2 + 1, none⟩ v) := by
  have h1 := heap_set (heap_set h (ps.length * 2) (.string n)) (ps.length * 2 + 1) v
  unfold RowP
  rw [h1]
  have e := set2 (cellsP ps) x y (.string n) v rest
  rw [cellsP_length] at e
  rw [e, cellsP_mid]
  simp [cellsP]

/-- A row laid over another. -/
theorem RowP.over {g : Nat} {A B : List (ByteArray × Value)} {m : ByteArray} {u : Value} {rest : List Value} {w : World} (h : RowP g (A ++ (m, u) :: B) rest w) (n : ByteArray) (v : Value) :
    RowP g (A ++ (n, v) :: B) rest ((w.setCell ⟨g, A.length * 2, none⟩ (.string n)).setCell ⟨g, A.length * 2 + 1, none⟩ v) := by
  unfold RowP at h
  rw [cellsP_mid, List.append_assoc, List.cons_append, List.cons_append] at h
  have h1 := heap_set (heap_set h (A.length * 2) (.string n)) (A.length * 2 + 1) v
  unfold RowP
  rw [h1]
  have e := set2 (cellsP A) (.string m) u (.string n) v (cellsP B ++ rest)
  rw [cellsP_length] at e
  rw [e, cellsP_mid, List.append_assoc, List.cons_append, List.cons_append]

/-- A name laid over another. -/
theorem RowP.overName {g : Nat} {A B : List (ByteArray × Value)} {m : ByteArray} {u : Value} {rest : List Value} {w : World} (h : RowP g (A ++ (m, u) :: B) rest w) (n : ByteArray) :
    RowP g (A ++ (n, u) :: B) rest (w.setCell ⟨g, A.length * 2, none⟩ (.string n)) := by
  unfold RowP at h
  rw [cellsP_mid, List.append_assoc, List.cons_append, List.cons_append] at h
  have h1 := heap_set h (A.length * 2) (.string n)
  unfold RowP
  rw [h1]
  have e := set1 (cellsP A) (.string m) (.string n) (u :: (cellsP B ++ rest))
  rw [cellsP_length] at e
  rw [e, cellsP_mid, List.append_assoc, List.cons_append, List.cons_append]

/-- A row of texts, and what lies behind them. -/
def RowS (h : Nat) (ss : List ByteArray) (rest : List Value) (w : World) : Prop := w.heap[h]? = some (.cells (ss.map Value.string ++ rest).toArray 9 (0, 0))

theorem RowS.get {h : Nat} {ss : List ByteArray} {rest : List Value} {w : World} (hr : RowS h ss rest w) {i : Nat} {s : ByteArray} (hi : ss[i]? = some s) : w.cell? ⟨h, i, none⟩ = some (.string s) := by
  rw [cell_at hr]
  simp only [List.getElem?_toArray]
  rw [List.getElem?_append_left (by simpa using lt_get hi), List.getElem?_map, hi]
  rfl

theorem RowS.push {h : Nat} {ss : List ByteArray} {x : Value} {rest : List Value} {w : World} (hr : RowS h ss (x :: rest) w) (s : ByteArray) : RowS h (ss ++ [s]) rest (w.setCell ⟨h, ss.length, none⟩ (.string s)) := by
  have h1 := heap_set hr ss.length (.string s)
  unfold RowS
  rw [h1]
  have e := set1 (ss.map Value.string) x (.string s) rest
  rw [List.length_map] at e
  rw [e]
  simp

theorem RowS.over {h : Nat} {A B : List ByteArray} {t : ByteArray} {w : World} (hr : RowS h (A ++ t :: B) [] w) (s : ByteArray) : RowS h (A ++ s :: B) [] (w.setCell ⟨h, A.length, none⟩ (.string s)) := by
  unfold RowS at hr
  rw [List.append_nil, List.map_append, List.map_cons] at hr
  have h1 := heap_set hr A.length (.string s)
  unfold RowS
  rw [h1]
  have e := set1 (A.map Value.string) (.string t) (.string s) (B.map Value.string)
  rw [List.length_map] at e
  rw [e, List.append_nil, List.map_append, List.map_cons]

def slv (h : Nat) (to : List ByteArray) : Value := .slice (some ⟨h, 0, none⟩) to.length (to.length + 8)
def lentP (hs : List Nat) (rs : List RowD) : List (ByteArray × Value) := List.zipWith (fun h r => (r.name, slv h r.to)) hs rs
def beyP : ByteArray × Value := (beyS, .slice none 0 0)

/-- The lists that were lent, each in a block of its own. -/
structure Fam (g : Nat) (hs : List Nat) (rs : List RowD) (w : World) : Prop where
  len : hs.length = rs.length
  nodup : hs.Nodup
  gt : ∀ h ∈ hs, g < h
  blk : ∀ (j h : Nat) (r : RowD), hs[j]? = some h → rs[j]? = some r → RowS h (r.to ++ List.replicate 8 beyS) [] w

theorem lentP_get {hs : List Nat} {rs : List RowD} {j h : Nat} {r : RowD} (h1 : hs[j]? = some h) (h2 : rs[j]? = some r) : (lentP hs rs)[j]? = some (r.name, slv h r.to) := by
  unfold lentP
  rw [List.getElem?_zipWith, h1, h2]

theorem lentP_length {hs : List Nat} {rs : List RowD} (h : hs.length = rs.length) : (lentP hs rs).length = rs.length := by simp [lentP, h]

theorem lentP_snoc {hs : List Nat} {rs : List RowD} (h : hs.length = rs.length) (k : Nat) (r : RowD) : lentP (hs ++ [k]) (rs ++ [r]) = lentP hs rs ++ [(r.name, slv k r.to)] := by
  unfold lentP
  rw [List.zipWith_append h]
  rfl

theorem Fam.kb {g : Nat} {hs : List Nat} {rs : List RowD} {w w' : World} (hf : Fam g hs rs w) {l : List Nat} (hk : Kb l w w') (hl : ∀ h ∈ hs, h ∉ l) : Fam g hs rs w' :=
  ⟨hf.len, hf.nodup, hf.gt, fun j h r h1 h2 => hk.heap (hf.blk j h r h1 h2) (hl h (List.mem_of_getElem? h1))⟩

theorem Fam.lt {g : Nat} {hs : List Nat} {rs : List RowD} {w : World} (hf : Fam g hs rs w) : ∀ h ∈ hs, h < w.heap.size := by
  intro h hh
  obtain ⟨j, hj⟩ := List.getElem?_of_mem hh
  have hl := lt_get hj
  rw [hf.len] at hl
  exact lt_of_heap (hf.blk j h _ hj (List.getElem?_eq_getElem hl))

theorem Fam.snoc {g : Nat} {hs : List Nat} {rs : List RowD} {w : World} (hf : Fam g hs rs w) {k : Nat} {r : RowD} (hk : RowS k (r.to ++ List.replicate 8 beyS) [] w) (hn : k ∉ hs) (hg : g < k) : Fam g (hs ++ [k]) (rs ++ [r]) w := by
  refine ⟨by simp [hf.len], ?_, ?_, ?_⟩
  · rw [List.nodup_append]
    refine ⟨hf.nodup, by simp, ?_⟩
    intro a ha b hb e
    simp at hb
    subst hb
    subst e
    exact hn ha
  · intro h hh
    rw [List.mem_append] at hh
    rcases hh with hh | hh
    · exact hf.gt h hh
    · simp at hh; omega
  · intro j h r' h1 h2
    rw [List.getElem?_append] at h1 h2
    have hlen := hf.len
    split at h1
    · rename_i hj
      rw [if_pos (by omega)] at h2
      exact hf.blk j h r' h1 h2
    · rename_i hj
      rw [if_neg (by omega)] at h2
      have e1 : j - hs.length = 0 := by have := lt_get h1; simp at this; omega
      have e2 : j - rs.length = 0 := by omega
      rw [e1] at h1
      rw [e2] at h2
      simp at h1 h2
      subst h1 h2
      exact hk

/-- Rows that were lent, as rows. -/
theorem lent_rows {g cap : Nat} {hs : List Nat} {rs : List RowD} {ps : List (ByteArray × Value)} {rest : List Value} {w : World} (hf : Fam g hs rs w) (hp : RowP g (lentP hs rs ++ ps) rest w) (hc : rs.length ≤ cap) :
    IsRows (.slice (some ⟨g, 0, none⟩) rs.length cap) rs w := by
  refine ⟨_, cap, rfl, hc, (fun h => by cases h), fun _ => ⟨g, 0, rfl, lt_of_heap hp, ?_⟩⟩
  intro i n to hi
  have hl := lt_get hi
  obtain ⟨h, hh⟩ : ∃ h, hs[i]? = some h := ⟨_, List.getElem?_eq_getElem (by rw [hf.len]; exact hl)⟩
  have hget := lentP_get hh hi
  have hget2 : (lentP hs rs ++ ps)[i]? = some (n, slv h to) := by rw [List.getElem?_append_left (by rw [lentP_length hf.len]; exact hl)]; exact hget
  obtain ⟨c0, c1⟩ := hp.get hget2
  rw [Nat.zero_add]
  have hb := hf.blk i h _ hh hi
  refine ⟨c0, _, c1, some ⟨h, 0, none⟩, to.length + 8, rfl, by omega, (fun e => by cases e), fun _ => ⟨h, 0, rfl, lt_of_heap hb, ?_⟩⟩
  intro j s hj
  rw [Nat.zero_add]
  exact hb.get (by rw [List.getElem?_append_left (lt_get hj)]; exact hj)

end Go.Proofs.Ytiamlbhkiehilaa
