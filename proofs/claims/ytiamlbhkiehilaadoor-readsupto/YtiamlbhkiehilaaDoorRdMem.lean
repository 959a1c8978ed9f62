import Derived.Test.YtiamlbhkiehilaaDoorKeepR
import Derived.Test.YtiamlbhkiehilaaDoorRParse
namespace Go.Proofs.YtiamlbhkiehilaaDoor
open Go.RowKit Go.Maps

theorem strs_of_owns {w : World} {B : Nat} {v : Value} {ss : List ByteArray} (h : w.ownsRow B 9 1 v ss.length (ss.map Value.string)) : IsStrs v ss w := by
  rcases h.2 with ⟨rfl, h0⟩ | ⟨g, cap, cur, rfl, _, hg, hnc, _, hcs, htk⟩
  · exact ⟨none, 0, by rw [h0], by omega, fun _ => rfl, fun hne => absurd (List.length_eq_zero_iff.1 h0) hne⟩
  · refine ⟨some ⟨g, 0, none⟩, cap, rfl, hnc, (fun h => by cases h), fun _ => ⟨g, 0, rfl, lt_of_heap hg, ?_⟩⟩
    intro i s hi
    have hl := lt_get hi
    have hu : (ss.map Value.string)[i]? = some (.string s) := by rw [List.getElem?_map, hi]; rfl
    rw [Nat.zero_add, cell_at hg]
    rw [← htk, List.getElem?_take, if_pos (by omega)] at hu
    simpa using hu

theorem OwnR.rows {w : World} {lo hi : Nat} {v : Value} {ps : List (RowD × Value)} (h : OwnR w lo hi v ps) : IsRows v (ps.map Prod.fst) w := by
  have hl : (ps.map Prod.fst).length = ps.length := List.length_map _
  rcases h.row.2 with ⟨rfl, h0⟩ | ⟨g, cap, cur, rfl, _, hg, hnc, _, hcs, htk⟩
  · refine ⟨none, 0, by rw [hl, h0], by rw [hl]; omega, fun _ => rfl, fun hne => ?_⟩
    have : ps = [] := List.length_eq_zero_iff.1 h0
    subst this
    exact absurd rfl hne
  · refine ⟨some ⟨g, 0, none⟩, cap, by rw [hl], by rw [hl]; exact hnc, (fun h => by cases h), fun _ => ⟨g, 0, rfl, lt_of_heap hg, ?_⟩⟩
    intro i n tt hi
    rw [List.getElem?_map] at hi
    cases hp : ps[i]? with
    | none => rw [hp] at hi; cases hi
    | some x =>
      obtain ⟨r, tv⟩ := x
      rw [hp] at hi
      have hr : r = ⟨n, tt⟩ := by simpa using hi
      subst hr
      have hlt := lt_get hp
      obtain ⟨c0, c1⟩ := cellsP_get ps i _ tv hp
      have hc : ∀ j u, j < ps.length * 2 → (cellsP ps)[j]? = some u → w.cell? ⟨g, 0 + j, none⟩ = some u := by
        intro j u hj hu
        rw [Nat.zero_add, cell_at hg]
        rw [← htk, List.getElem?_take, if_pos hj] at hu
        simpa using hu
      exact ⟨hc _ _ (by omega) c0, tv, hc _ _ (by omega) c1, strs_of_owns (h.tos i _ tv hp)⟩

theorem OwnR.below {w w' : World} {lo hi : Nat} {v : Value} {ps : List (RowD × Value)} (h : OwnR w lo hi v ps) (hb : Below w.heap.size w w') : OwnR w' lo hi v ps :=
  ⟨own_below h.row hb, h.top, fun i r tv hp => own_below (h.tos i r tv hp) hb, h.ttop, h.sep⟩

theorem OwnR.nil (w : World) (lo hi : Nat) : OwnR w lo hi (.slice none 0 0) [] :=
  ⟨World.ownsRow_nil _ _ _ _, (fun g h => nomatch h), (fun i r tv h => by simp at h), (fun i r tv h => by simp at h), (fun i j x y _ h => by simp at h)⟩

theorem OwnR.low {w : World} {lo lo' hi : Nat} {v : Value} {ps : List (RowD × Value)} (h : OwnR w lo hi v ps) (hl : lo' ≤ lo) : OwnR w lo' hi v ps :=
  ⟨own_mono h.row hl, h.top, fun i r tv hp => own_mono (h.tos i r tv hp) hl, h.ttop, h.sep⟩

theorem OwnR.high {w : World} {lo hi hi' : Nat} {v : Value} {ps : List (RowD × Value)} (h : OwnR w lo hi v ps) (hl : hi ≤ hi') : OwnR w lo hi' v ps :=
  ⟨h.row, fun g hg => Nat.lt_of_lt_of_le (h.top g hg) hl, h.tos, fun i r tv hp g hg => Nat.lt_of_lt_of_le (h.ttop i r tv hp g hg) hl, h.sep⟩

/-- Two stores into a block that is none of them. -/
theorem OwnR.store {w : World} {lo hi b j : Nat} {x : Value} {v : Value} {ps : List (RowD × Value)} (h : OwnR w lo hi v ps) (hb : b < lo) : OwnR (w.setCell ⟨b, j, none⟩ x) lo hi v ps :=
  ⟨ownsRow_setCell_below h.row (a := ⟨b, j, none⟩) hb _, h.top, fun i r tv hp => ownsRow_setCell_below (h.tos i r tv hp) (a := ⟨b, j, none⟩) hb _, h.ttop, h.sep⟩

theorem cellsP_snoc (ps : List (RowD × Value)) (r : RowD) (tv : Value) : cellsP (ps ++ [(r, tv)]) = cellsP ps ++ [.string r.name, tv] := by simp [cellsP]

theorem OwnR.push {w2 w3 : World} {lo hs : Nat} {v v' : Value} {ps : List (RowD × Value)} {r : RowD} {tv : Value} {o : Obj} (h : OwnR w2 lo hs v ps) (hlo : lo ≤ hs) (ht : w2.ownsRow hs 9 1 tv r.to.length (r.to.map Value.string))
    (ho : w3.ownsRow lo 54 2 v' (ps.length + 1) (cellsP ps ++ [.string r.name, tv])) (hg : (w2.alloc o).grownBy w3 v.ownBlock) : OwnR w3 lo w3.heap.size v' (ps ++ [(r, tv)]) := by
  have hold : ∀ (i : Nat) r' tv', ps[i]? = some (r', tv') → w3.ownsRow lo 9 1 tv' r'.to.length (r'.to.map Value.string) := fun i r' tv' hp => ((h.tos i r' tv' hp).alloc o).kept hg (own_ne (h.tos i r' tv' hp) h.row (by decide))
  have hnew : w3.ownsRow hs 9 1 tv r.to.length (r.to.map Value.string) := (ht.alloc o).kept hg (own_ne ht h.row (by decide))
  have hall : ∀ (i : Nat) r' tv', (ps ++ [(r, tv)])[i]? = some (r', tv') → w3.ownsRow lo 9 1 tv' r'.to.length (r'.to.map Value.string) := by
    intro i r' tv' hp
    by_cases hi : i < ps.length
    · rw [List.getElem?_append_left hi] at hp
      exact hold i r' tv' hp
    · rw [List.getElem?_append_right (by omega)] at hp
      have : i - ps.length = 0 := by have := lt_get hp; simp at this; omega
      rw [this] at hp
      simp at hp
      obtain ⟨rfl, rfl⟩ := hp
      exact own_mono hnew hlo
  refine ⟨by rw [List.length_append, cellsP_snoc]; exact ho, fun g hg' => (ho.lt g hg').2, hall, fun i r' tv' hp g hg' => ((hall i r' tv' hp).lt g hg').2, ?_⟩
  intro i j x y hij hx hy
  by_cases hj : j < ps.length
  · rw [List.getElem?_append_left hj] at hy
    rw [List.getElem?_append_left (by omega)] at hx
    exact h.sep i j x y hij hx hy
  · have hjl := lt_get hy
    rw [List.length_append] at hjl
    have hjl' : j < ps.length + 1 := hjl
    rw [List.getElem?_append_left (by omega)] at hx
    rw [List.getElem?_append_right (by omega)] at hy
    have : j - ps.length = 0 := by omega
    rw [this] at hy
    simp at hy
    subst hy
    obtain ⟨r', tv'⟩ := x
    cases hq : tv'.ownBlock with
    | none => exact .inl rfl
    | some g =>
      refine .inr (fun e => ?_)
      have h1 := h.ttop i r' tv' hx g hq
      have h2 := (ht.lt g e.symm).1
      omega

theorem tos_size (s : ByteArray) : ∀ (d i : Nat), s.size - i = d → ∀ x ∈ tosR s i, x.size ≤ s.size := by
  intro d
  induction d using Nat.strongRecOn with
  | _ d ih =>
    intro i hd x hx
    by_cases h : i < s.size
    · rw [tosR_step h] at hx
      have h1 := stop_ge s 32 (i + 1)
      rcases List.mem_cons.1 hx with rfl | hx
      · rw [ByteArray.size_extract]; omega
      · exact ih (s.size - stop s 32 (i + 1)) (by omega) _ rfl x hx
    · rw [tosR_end (by omega)] at hx
      simp at hx

theorem refRow_fits {s : ByteArray} {r : RowD} (h : refRow s = some r) : r.name.size ≤ s.size ∧ r.to.length ≤ s.size ∧ ∀ x ∈ r.to, x.size ≤ s.size := by
  unfold refRow at h
  split at h
  · cases h
  · split at h
    · injection h with h
      subst h
      refine ⟨by rw [ByteArray.size_extract]; omega, ?_, tos_size s _ _ rfl⟩
      have := tosR_len s _ (stop s 58 0 + 1) rfl
      show (tosR s _).length ≤ _
      omega
    · cases h

theorem lineRow_ref {s : ByteArray} {r : RowD} (h : lineRow s = some r) : refRow s = some r ∧ rowNames r = true := by
  unfold lineRow at h
  split at h
  · rename_i r' hr
    split at h
    · injection h with h
      subst h
      exact ⟨hr, by assumption⟩
    · cases h
  · cases h

/-- What a row of a line is, by its names. -/
theorem ref_cases {s : ByteArray} {r : RowD} (h : refRow s = some r) (last : ByteArray) : (lineRow s = some r ∧ rowErr r last = chk true r last) ∨ (lineRow s = none ∧ rowErr r last = 4) := by
  unfold lineRow
  rw [h]
  cases hn : rowNames r
  · right
    simp [hn, rowErr]
  · left
    simp [hn, rowErr, chk]

theorem ref_none {s : ByteArray} (h : refRow s = none) : lineRow s = none := by
  unfold lineRow
  rw [h]

theorem readGo_last {pre : List RowD} {last : ByteArray} {n : Nat} {l : ByteArray} : readGo pre last n [l] = if l.size = 0 then (pre, 0, 0) else ([], 4, (n : Int) + 1) := rfl
theorem readGo_form {pre : List RowD} {last : ByteArray} {n : Nat} {l l' : ByteArray} {r : List ByteArray} (h : lineRow l = none) : readGo pre last n (l :: l' :: r) = ([], 4, (n : Int) + 1) := by simp [readGo, h]
theorem readGo_add {pre : List RowD} {last : ByteArray} {n : Nat} {l l' : ByteArray} {r : List ByteArray} {x : RowD} (h : lineRow l = some x) (he : chk true x last = 0) : readGo pre last n (l :: l' :: r) = readGo (pre ++ [x]) x.name (n + 1) (l' :: r) := by simp [readGo, h, he]
theorem readGo_bad {pre : List RowD} {last : ByteArray} {n : Nat} {l l' : ByteArray} {r : List ByteArray} {x : RowD} (h : lineRow l = some x) (he : chk true x last ≠ 0) : readGo pre last n (l :: l' :: r) = ([], chk true x last, (n : Int) + 1) := by simp [readGo, h, he]

/-- What Read answers: rows in memory of their own, and the error. -/
def RdRes (w w' : World) (s : ByteArray) (e : Ending) : Prop :=
  ∃ v ps, e = .returned (.tuple #[v, .agg #[.int .i64 (readB s).2.1, .int .i64 (readB s).2.2]]) ∧ ps.map Prod.fst = (readB s).1 ∧ OwnR w' w.heap.size w'.heap.size v ps ∧ Below w.heap.size w w'

theorem RdRes.bad {w w' : World} {s : ByteArray} {k n : Int} (h : readB s = ([], k, n)) (hb : Below w.heap.size w w') : RdRes w w' s (.returned (.tuple #[.slice none 0 0, .agg #[.int .i64 k, .int .i64 n]])) :=
  ⟨.slice none 0 0, [], by rw [h], by rw [h]; rfl, OwnR.nil _ _ _, hb⟩

/-- What holds at the head of each round of Read. -/
structure RdInv (w1 wr : World) (ls : List ByteArray) (i : Nat) (v : Value) (last : ByteArray) (ps : List (RowD × Value)) : Prop where
  lt : i < ls.length
  eqn : readGo [] noB 0 ls = readGo (ps.map Prod.fst) last i (ls.drop i)
  cnt : ps.length ≤ i
  own : OwnR wr w1.heap.size wr.heap.size v ps
  blw : Below w1.heap.size w1 wr

end Go.Proofs.YtiamlbhkiehilaaDoor
