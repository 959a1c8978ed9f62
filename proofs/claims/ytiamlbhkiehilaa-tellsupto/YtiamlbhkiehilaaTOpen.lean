import Derived.Test.YtiamlbhkiehilaaTLaw
import Derived.Test.YtiamlbhkiehilaaOpenS
namespace Go.Proofs.Ytiamlbhkiehilaa
open Go.ChangeShapes Go.WideShapes Go.ChangeAt Go.RowKit Go.Deep

theorem cellsRow : Try.prog.cellsOf 38 = 2 := by kernel_rfl
theorem cellsStrs : Try.prog.cellsOf 36 = 1 := by kernel_rfl

section
variable {H : Type} {enc : TypeId × Value → H} {w : World} {held : Bool}

/-- A row's two cells, read. -/
theorem open_row {fuel : Nat} {cs : List Value} {x : DataW H × List MemPlace} (h : DataW.trod enc Try.prog w 0 (fun _ => true) held fuel 38 cs = some x) :
    ∃ nm tv ss, cs = [.string nm, tv] ∧ nm.size ≤ maxLen ∧ IsStrs tv ss w ∧ fitsS ss ∧ ss.length ≤ maxLen ∧ nm.size + toWidth ss + 2 ≤ Rows.uptoBulk x.1 := by
  obtain ⟨y0, y1, n, rfl, hl, h0, h1⟩ := trod_struct2 Try.underlying38 h
  rw [cellsRow] at hl
  simp only [cellsStrT, cellsStrs] at h0 h1
  obtain ⟨nm, e0, hy0, hn⟩ := DataW.trod_string Try.underlying9 h0
  obtain ⟨tv, ss, e1, hs, hf, hlen, hb⟩ := open_texts h1
  match cs, hl with
  | [a, b], _ =>
    simp at e0 e1
    subst e0 e1
    refine ⟨nm, b, ss, rfl, hn, hs, hf, hlen, ?_⟩
    have : nm.data.toList.length = nm.size := Array.length_toList
    simp only [Rows.uptoBulk, Rows.uptoBulkAll, hy0, this]
    omega

/-- A slice of rows that came in. -/
theorem open_rows {fuel : Nat} {cs : List Value} {x : DataW H × List MemPlace} (h : DataW.trod enc Try.prog w 0 (fun _ => true) held fuel 32 cs = some x) :
    (cs = [.slice none 0 0] ∧ x = (.nil, [])) ∨
    ∃ (a : Addr) (len cap : Nat) (D : Nat → DataW H) (sp : List (DataW H)) (ps : List MemPlace) (rs : List RowD), cs = [.slice (some a) len cap] ∧ x = (.slice ((List.range len).map D) sp, ps) ∧ rs.length = len ∧
      IsRows (.slice (some a) len cap) rs w ∧ fitsR rs ∧ ∀ i r, rs[i]? = some r → r.name.size + toWidth r.to + 2 ≤ Rows.uptoBulk (D i) := by
  rcases open_slice Try.underlying32 h with h0 | ⟨a, len, cap, m, n, D, Pl, hcs, _, hl, hm, hmm, hx, hel⟩
  · exact Or.inl h0
  · right
    simp only [if_true] at hmm
    subst hmm
    rw [cellsRow] at hel
    obtain ⟨rs, hrl, hrs⟩ := list_of_allT (n := len) (p := fun i (r : RowD) => (∃ tv, w.cells? 0 (a.add (i * 2)) 2 = some [.string r.name, tv] ∧ IsStrs tv r.to w) ∧ (r.name.size ≤ maxLen ∧ r.to.length ≤ maxLen ∧ fitsS r.to) ∧ r.name.size + toWidth r.to + 2 ≤ Rows.uptoBulk (D i)) (fun i hi => by
      obtain ⟨cs', h1, h2⟩ := hel i (by omega)
      obtain ⟨nm, tv, ss, rfl, hn, hs, hf, hlen, hb⟩ := open_row h2
      exact ⟨⟨nm, ss⟩, ⟨tv, h1, hs⟩, ⟨hn, hlen, hf⟩, hb⟩)
    subst hrl
    refine ⟨a, rs.length, m, D, _, _, rs, hcs, hx, rfl, ⟨some a, m, rfl, hl, (fun h => by cases h), fun hne => ?_⟩, ?_, fun i r hi => (hrs i r hi).2.2⟩
    · have hpos : 0 < rs.length := by
        cases rs with
        | nil => exact absurd rfl hne
        | cons f r => simp
      obtain ⟨r0, hr0⟩ : ∃ f, rs[0]? = some f := ⟨_, List.getElem?_eq_getElem hpos⟩
      obtain ⟨tv0, hc0, _⟩ := (hrs 0 r0 hr0).1
      obtain ⟨_, _, hc0'⟩ := World.cells?_some hc0
      have hcc := hc0' 0 (by omega)
      obtain ⟨b, off, spot⟩ := a
      have hs0 := cell_spot hcc
      have hspot : spot = none := by simpa [Addr.add] using hs0.1
      subst hspot
      refine ⟨b, off, rfl, by simpa [Addr.add] using hs0.2, ?_⟩
      intro i nm to hi
      obtain ⟨tv, hc, hst⟩ := (hrs i _ hi).1
      obtain ⟨_, _, hc'⟩ := World.cells?_some hc
      have c0 := hc' 0 (by omega)
      have c1 := hc' 1 (by omega)
      simp only [Addr.add_lit] at c0 c1
      exact ⟨c0, tv, c1, hst⟩
    · intro r hr
      obtain ⟨i, hi⟩ := List.getElem?_of_mem hr
      exact (hrs i r hi).2.1

end

theorem sum_bulk {H : Type} (rs : List RowD) (ds : List (DataW H)) (hl : ds.length = rs.length) (h : ∀ (i : Nat) (r : RowD) (d : DataW H), rs[i]? = some r → ds[i]? = some d → r.name.size + toWidth r.to + 2 ≤ Rows.uptoBulk d) :
    (rowsText rs).length ≤ Rows.uptoBulkAll ds ∧ (rowsText (rs.map overR)).length ≤ 6 * Rows.uptoBulkAll ds ∧ rs.length ≤ Rows.uptoBulkAll ds ∧ ∀ r ∈ rs, r.to.length ≤ Rows.uptoBulkAll ds := by
  induction rs generalizing ds with
  | nil => simp [rowsText]
  | cons r s ih =>
    cases ds with
    | nil => simp at hl
    | cons d ds =>
      have h0 := h 0 r d rfl rfl
      obtain ⟨h1, h2, h3, h4⟩ := ih ds (by simpa using hl) (fun i r' d' a b => h (i + 1) r' d' (by simpa using a) (by simpa using b))
      have hw : r.to.length ≤ toWidth r.to := by
        generalize r.to = l
        induction l with
        | nil => simp
        | cons x t iht => simp only [List.length_cons, toWidth]; omega
      have hw2 : toWidth (List.replicate r.to.length overS) = 5 * r.to.length := by
        generalize r.to.length = k
        induction k with
        | zero => rfl
        | succ k ihk =>
          rw [List.replicate_succ]
          simp only [toWidth, ihk, overS_ok]
          omega
      refine ⟨?_, ?_, ?_, ?_⟩
      · simp only [rowsText, List.length_append, rowText_length, Rows.uptoBulkAll]
        omega
      · simp only [List.map_cons, rowsText, List.length_append, rowText_length, Rows.uptoBulkAll, overR, hw2, overS_ok]
        omega
      · simp only [List.length_cons, Rows.uptoBulkAll]
        omega
      · intro r' hr'
        rw [List.mem_cons] at hr'
        simp only [Rows.uptoBulkAll]
        rcases hr' with rfl | hr'
        · omega
        · have := h4 r' hr'
          omega

end Go.Proofs.Ytiamlbhkiehilaa
