import Derived.Test.YtiamlbhkiehilaaGreatDoorBk14
import Derived.Test.YtiamlbhkiehilaaGreatDoorBk08
import Derived.Test.YtiamlbhkiehilaaGreatDoorBk01
import Derived.Test.YtiamlbhkiehilaaGreatDoorBk05
namespace Go.Proofs.YtiamlbhkiehilaaGreatDoor
open Go.RowKit Go.Maps

theorem strs_of_owns {w : World} {B : Nat} {v : Value} {ss : List ByteArray} (h : w.ownsRow B 9 1 v ss.length (ss.map Value.string)) : IsStrs v ss w := by
  rcases h.2 with ⟨rfl, h0⟩ | ⟨g, cap, cur, rfl, _, hg, hnc, _, hcs, htk⟩
  · exact ⟨none, 0, by rw [h0], by omega, fun _ => rfl, fun hne => absurd (List.length_eq_zero_iff.1 h0) hne⟩
  · refine ⟨some ⟨g, 0, none⟩, cap, rfl, hnc, (fun h => by cases h), fun _ => ⟨g, 0, rfl, lt_of_heap hg, ?_⟩⟩
    intro i s hi
    have hl := lt_get hi
    have hu : (ss.map Value.string)[i]? = some (.string s) := by rw [List.getElem?_map, hi]; rfl
    rw [Nat.zero_add, cell_at hg]
    rw [← htk, List.getElem?_take, if_pos (by omega)] at hu
    simpa using hu

theorem OwnR.rows {w : World} {lo hi : Nat} {v : Value} {ps : List (RowD × Value)} (h : OwnR w lo hi v ps) : IsRows v (ps.map Prod.fst) w := by
  have hl : (ps.map Prod.fst).length = ps.length := List.length_map _
  rcases h.row.2 with ⟨rfl, h0⟩ | ⟨g, cap, cur, rfl, _, hg, hnc, _, hcs, htk⟩
  · refine ⟨none, 0, by rw [hl, h0], by rw [hl]; omega, fun _ => rfl, fun hne => ?_⟩
    have : ps = [] := List.length_eq_zero_iff.1 h0
    subst this
    exact absurd rfl hne
  · refine ⟨some ⟨g, 0, none⟩, cap, by rw [hl], by rw [hl]; exact hnc, (fun h => by cases h), fun _ => ⟨g, 0, rfl, lt_of_heap hg, ?_⟩⟩
    intro i n tt hi
    rw [List.getElem?_map] at hi
    cases hp : ps[i]? with
    | none => rw [hp] at hi; cases hi
    | some x =>
      obtain ⟨r, tv⟩ := x
      rw [hp] at hi
      have hr : r = ⟨n, tt⟩ := by simpa using hi
      subst hr
      have hlt := lt_get hp
      obtain ⟨c0, c1⟩ := cellsP_get ps i _ tv hp
      have hc : ∀ j u, j < ps.length * 2 → (cellsP ps)[j]? = some u → w.cell? ⟨g, 0 + j, none⟩ = some u := by
        intro j u hj hu
        rw [Nat.zero_add, cell_at hg]
        rw [← htk, List.getElem?_take, if_pos hj] at hu
        simpa using hu
      exact ⟨hc _ _ (by omega) c0, tv, hc _ _ (by omega) c1, strs_of_owns (h.tos i _ tv hp)⟩

theorem OwnR.below {w w' : World} {lo hi : Nat} {v : Value} {ps : List (RowD × Value)} (h : OwnR w lo hi v ps) (hb : Below w.heap.size w w') : OwnR w' lo hi v ps :=
  ⟨own_below h.row hb, h.top, fun i r tv hp => own_below (h.tos i r tv hp) hb, h.ttop, h.sep⟩

theorem OwnR.nil (w : World) (lo hi : Nat) : OwnR w lo hi (.slice none 0 0) [] :=
  ⟨World.ownsRow_nil _ _ _ _, (fun g h => nomatch h), (fun i r tv h => by simp at h), (fun i r tv h => by simp at h), (fun i j x y _ h => by simp at h)⟩

theorem OwnR.low {w : World} {lo lo' hi : Nat} {v : Value} {ps : List (RowD × Value)} (h : OwnR w lo hi v ps) (hl : lo' ≤ lo) : OwnR w lo' hi v ps :=
  ⟨own_mono h.row hl, h.top, fun i r tv hp => own_mono (h.tos i r tv hp) hl, h.ttop, h.sep⟩

theorem OwnR.high {w : World} {lo hi hi' : Nat} {v : Value} {ps : List (RowD × Value)} (h : OwnR w lo hi v ps) (hl : hi ≤ hi') : OwnR w lo hi' v ps :=
  ⟨h.row, fun g hg => Nat.lt_of_lt_of_le (h.top g hg) hl, h.tos, fun i r tv hp g hg => Nat.lt_of_lt_of_le (h.ttop i r tv hp g hg) hl, h.sep⟩

/-- Two stores into a block that is none of them. -/
theorem OwnR.store {w : World} {lo hi b j : Nat} {x : Value} {v : Value} {ps : List (RowD × Value)} (h : OwnR w lo hi v ps) (hb : b < lo) : OwnR (w.setCell ⟨b, j, none⟩ x) lo hi v ps :=
  ⟨ownsRow_setCell_below h.row (a := ⟨b, j, none⟩) hb _, h.top, fun i r tv hp => ownsRow_setCell_below (h.tos i r tv hp) (a := ⟨b, j, none⟩) hb _, h.ttop, h.sep⟩

theorem cellsP_snoc (ps : List (RowD × Value)) (r : RowD) (tv : Value) : cellsP (ps ++ [(r, tv)]) = cellsP ps ++ [.string r.name, tv] := by simp [cellsP]

theorem OwnR.push {w2 w3 : World} {lo hs : Nat} {v v' : Value} {ps : List (RowD × Value)} {r : RowD} {tv : Value} {o : Obj} (h : OwnR w2 lo hs v ps) (hlo : lo ≤ hs) (ht : w2.ownsRow hs 9 1 tv r.to.length (r.to.map Value.string))
    (ho : w3.ownsRow lo 51 2 v' (ps.length + 1) (cellsP ps ++ [.string r.name, tv])) (hg : (w2.alloc o).grownBy w3 v.ownBlock) : OwnR w3 lo w3.heap.size v' (ps ++ [(r, tv)]) := by
  have hold : ∀ (i : Nat) r' tv', ps[i]? = some (r', tv') → w3.ownsRow lo 9 1 tv' r'.to.length (r'.to.map Value.string) := fun i r' tv' hp => ((h.tos i r' tv' hp).alloc o).kept hg (own_ne (h.tos i r' tv' hp) h.row (by decide))
  have hnew : w3.ownsRow hs 9 1 tv r.to.length (r.to.map Value.string) := (ht.alloc o).kept hg (own_ne ht h.row (by decide))
  have hall : ∀ (i : Nat) r' tv', (ps ++ [(r, tv)])[i]? = some (r', tv') → w3.ownsRow lo 9 1 tv' r'.to.length (r'.to.map Value.string) := by
    intro i r' tv' hp
    by_cases hi : i < ps.length
    · rw [List.getElem?_append_left hi] at hp
      exact hold i r' tv' hp
    · rw [List.getElem?_append_right (by omega)] at hp
      have : i - ps.length = 0 := by have := lt_get hp; simp at this; omega
      rw [this] at hp
      simp at hp
      obtain ⟨rfl, rfl⟩ := hp
      exact own_mono hnew hlo
  refine ⟨by rw [List.length_append, cellsP_snoc]; exact ho, fun g hg' => (ho.lt g hg').2, hall, fun i r' tv' hp g hg' => ((hall i r' tv' hp).lt g hg').2, ?_⟩
  intro i j x y hij hx hy
  by_cases hj : j < ps.length
  · rw [List.getElem?_append_left hj] at hy
    rw [List.getElem?_append_left (by omega)] at hx
    exact h.sep i j x y hij hx hy
  · have hjl := lt_get hy
    rw [List.length_append] at hjl
    have hjl' : j < ps.length + 1 := hjl
    rw [List.getElem?_append_left (by omega)] at hx
    rw [List.getElem?_append_right (by omega)] at hy
    have : j - ps.length = 0 := by omega
    rw [this] at hy
    simp at hy
    subst hy
    obtain ⟨r', tv'⟩ := x
    cases hq : tv'.ownBlock with
    | none => exact .inl rfl
    | some g =>
      refine .inr (fun e => ?_)
      have h1 := h.ttop i r' tv' hx g hq
      have h2 := (ht.lt g e.symm).1
      omega

theorem tos_size (s : ByteArray) : ∀ (d i : Nat), s.size - i = d → ∀ x ∈ tosR s i, x.size ≤ s.size := by
  intro d
  induction d using Nat.strongRecOn with
  | _ d ih =>
    intro i hd x hx
    by_cases h : i < s.size
    · rw [tosR_step h] at hx
      have h1 := stop_ge s 32 (i + 1)
      rcases List.mem_cons.1 hx with rfl | hx
      · rw [ByteArray.size_extract]; omega
      · exact ih (s.size - stop s 32 (i + 1)) (by omega) _ rfl x hx
    · rw [tosR_end (by omega)] at hx
      simp at hx

theorem refRow_fits {s : ByteArray} {r : RowD} (h : refRow s = some r) : r.name.size ≤ s.size ∧ r.to.length ≤ s.size ∧ ∀ x ∈ r.to, x.size ≤ s.size := by
  unfold refRow at h
  split at h
  · cases h
  · split at h
    · injection h with h
      subst h
      refine ⟨by rw [ByteArray.size_extract]; omega, ?_, tos_size s _ _ rfl⟩
      have := tosR_len s _ (stop s 58 0 + 1) rfl
      show (tosR s _).length ≤ _
      omega
    · cases h

theorem lineRow_ref {s : ByteArray} {r : RowD} (h : lineRow s = some r) : refRow s = some r ∧ rowNames r = true := by
  unfold lineRow at h
  split at h
  · rename_i r' hr
    split at h
    · injection h with h
      subst h
      exact ⟨hr, by assumption⟩
    · cases h
  · cases h

/-- What a row of a line is, by its names. -/
theorem ref_cases {s : ByteArray} {r : RowD} (h : refRow s = some r) (last : ByteArray) : (lineRow s = some r ∧ rowErr r last = chk true r last) ∨ (lineRow s = none ∧ rowErr r last = 4) := by
  unfold lineRow
  rw [h]
  cases hn : rowNames r
  · right
    simp [hn, rowErr]
  · left
    simp [hn, rowErr, chk]

theorem ref_none {s : ByteArray} (h : refRow s = none) : lineRow s = none := by
  unfold lineRow
  rw [h]

theorem readGo_last {pre : List RowD} {last : ByteArray} {n : Nat} {l : ByteArray} : readGo pre last n [l] = if l.size = 0 then (pre, 0, 0) else ([], 4, (n : Int) + 1) := rfl
theorem readGo_form {pre : List RowD} {last : ByteArray} {n : Nat} {l l' : ByteArray} {r : List ByteArray} (h : lineRow l = none) : readGo pre last n (l :: l' :: r) = ([], 4, (n : Int) + 1) := by simp [readGo, h]
theorem readGo_add {pre : List RowD} {last : ByteArray} {n : Nat} {l l' : ByteArray} {r : List ByteArray} {x : RowD} (h : lineRow l = some x) (he : chk true x last = 0) : readGo pre last n (l :: l' :: r) = readGo (pre ++ [x]) x.name (n + 1) (l' :: r) := by simp [readGo, h, he]
theorem readGo_bad {pre : List RowD} {last : ByteArray} {n : Nat} {l l' : ByteArray} {r : List ByteArray} {x : RowD} (h : lineRow l = some x) (he : chk true x last ≠ 0) : readGo pre last n (l :: l' :: r) = ([], chk true x last, (n : Int) + 1) := by simp [readGo, h, he]

/-- What Read answers: rows in memory of their own, and the error. -/
def RdRes (w w' : World) (s : ByteArray) (e : Ending) : Prop :=
  ∃ v ps, e = .returned (.tuple #[v, .agg #[.int .i64 (readB s).2.1, .int .i64 (readB s).2.2]]) ∧ ps.map Prod.fst = (readB s).1 ∧ OwnR w' w.heap.size w'.heap.size v ps ∧ Below w.heap.size w w'

theorem RdRes.bad {w w' : World} {s : ByteArray} {k n : Int} (h : readB s = ([], k, n)) (hb : Below w.heap.size w w') : RdRes w w' s (.returned (.tuple #[.slice none 0 0, .agg #[.int .i64 k, .int .i64 n]])) :=
  ⟨.slice none 0 0, [], by rw [h], by rw [h]; rfl, OwnR.nil _ _ _, hb⟩

/-- What holds at the head of each round of Read. -/
structure RdInv (w1 wr : World) (ls : List ByteArray) (i : Nat) (v : Value) (last : ByteArray) (ps : List (RowD × Value)) : Prop where
  lt : i < ls.length
  eqn : readGo [] noB 0 ls = readGo (ps.map Prod.fst) last i (ls.drop i)
  cnt : ps.length ≤ i
  own : OwnR wr w1.heap.size wr.heap.size v ps
  blw : Below w1.heap.size w1 wr

end Go.Proofs.YtiamlbhkiehilaaGreatDoor

namespace Go.Proofs.YtiamlbhkiehilaaGreatDoor
open Go.RowKit Go.Maps

/-- A row's line, without its newline. -/
def rowLine (r : RowD) : List UInt8 := r.name.data.toList ++ 58 :: toText r.to

theorem rowText_line (r : RowD) : rowText r = rowLine r ++ [10] := by simp [rowText, rowLine]

/-- Bytes that are no c. -/
def nc (c : Int) (x : UInt8) : Bool := decide ((x.toNat : Int) ≠ c)

theorem stop_take (s : ByteArray) (c : Int) : ∀ (d k : Nat), s.size - k = d → k ≤ s.size → stop s c k = k + ((s.data.toList.drop k).takeWhile (nc c)).length := by
  intro d
  induction d with
  | zero =>
    intro k hd hk
    have : k = s.size := by omega
    subst this
    rw [stop_end (Nat.le_refl _), List.drop_eq_nil_of_le (by simp)]
    rfl
  | succ d ih =>
    intro k hd hk
    have hlt : k < s.size := by omega
    rw [drop_cons hlt]
    by_cases hp : (s[k].toNat : Int) = c
    · rw [stop_yes hlt hp]
      simp [nc, hp]
    · rw [stop_no hlt hp, ih (k + 1) (by omega) hlt]
      simp [nc, hp]
      omega

theorem ext_take {s : ByteArray} {c : Int} {k : Nat} (hk : k ≤ s.size) : (s.extract k (stop s c k)).data.toList = (s.data.toList.drop k).takeWhile (nc c) := by
  rw [ByteArray.data_extract, Array.toList_extract, List.extract_eq_take_drop, stop_take s c _ k rfl hk, Nat.add_sub_cancel_left, take_takeWhile]

theorem drop_stop {s : ByteArray} {c : Int} {k : Nat} (hk : k ≤ s.size) : s.data.toList.drop (stop s c k) = (s.data.toList.drop k).dropWhile (nc c) := by
  rw [stop_take s c _ k rfl hk, ← List.drop_drop, drop_takeWhile]

theorem byte_head {s : ByteArray} {k : Nat} (h : k < s.size) {c : UInt8} (hb : byteAt s k = (c.toNat : Int)) : s.data.toList.drop k = c :: s.data.toList.drop (k + 1) := by
  rw [drop_cons h]
  rw [byteAt_lt h] at hb
  have : s[k] = c := UInt8.toNat_inj.1 (by omega)
  rw [this]

/-- What stands behind blanks is what was cut there. -/
theorem tos_text (s : ByteArray) : ∀ (d i : Nat), s.size - i = d → i ≤ s.size → (i < s.size → byteAt s i = 32) → toText (tosR s i) = s.data.toList.drop i := by
  intro d
  induction d using Nat.strongRecOn with
  | _ d ih =>
    intro i hd hi hb
    by_cases h : i < s.size
    · have h1 := stop_ge s 32 (i + 1)
      have h2 := stop_le (s := s) (c := 32) (k := i + 1) h
      rw [tosR_step h, toText, ih (s.size - stop s 32 (i + 1)) (by omega) _ rfl h2 (fun hlt => stop_at h hlt), byte_head h (c := 32) (hb h), ext_take h, drop_stop h]
      rw [List.cons_append, List.takeWhile_append_dropWhile]
    · rw [tosR_end (by omega), List.drop_eq_nil_of_le (by simp; omega)]
      rfl

theorem ref_line {s : ByteArray} {r : RowD} (h : refRow s = some r) : s.data.toList = rowLine r := by
  unfold refRow at h
  split at h
  · cases h
  · rename_i h1
    split at h
    · rename_i h2
      injection h with h
      subst h
      unfold rowLine
      have hlt : stop s 58 0 < s.size := by omega
      rw [tos_text s _ _ rfl hlt (fun hlt2 => by
        rcases h2 with h2 | h2
        · omega
        · exact h2)]
      have e1 := ext_take (s := s) (c := 58) (k := 0) (Nat.zero_le _)
      have e2 := drop_stop (s := s) (c := 58) (k := 0) (Nat.zero_le _)
      have e3 := byte_head hlt (c := 58) (stop_at (Nat.zero_le _) hlt)
      show _ = (s.extract 0 (stop s 58 0)).data.toList ++ 58 :: s.data.toList.drop (stop s 58 0 + 1)
      rw [← e3, e1, e2, List.drop_zero, List.takeWhile_append_dropWhile]
    · cases h

/-- Rows without an error, behind a name. -/
def okRows : ByteArray → List RowD → Prop
  | _, [] => True
  | last, r :: q => rowErr r last = 0 ∧ okRows r.name q

theorem rowErr_zero {r : RowD} {last : ByteArray} : rowErr r last = 0 ↔ rowNames r = true ∧ chk true r last = 0 := by
  cases h : rowNames r
  · simp [rowErr, h]
  · simp [rowErr, chk, h]

theorem tell_ok {rs : List RowD} : ∀ {last : ByteArray} {i : Nat} {acc : List UInt8}, okRows last rs → (acc ++ rowsText rs).length ≤ 25000 → tellGo last i acc rs = (acc ++ rowsText rs, 0, 0) := by
  induction rs with
  | nil =>
    intro last i acc _ h
    simp only [rowsText, List.append_nil] at h ⊢
    simp only [tellGo]
    rw [if_neg (by omega)]
  | cons r q ih =>
    intro last i acc ho h
    simp only [tellGo, ho.1, if_true]
    rw [ih ho.2 (by simpa [rowsText] using h)]
    simp [rowsText]

def joinL : List (List UInt8) → List UInt8
  | [] => []
  | [a] => a
  | a :: b :: r => a ++ 10 :: joinL (b :: r)

theorem lnL_ne (l : List UInt8) : lnL l ≠ [] := by
  cases l with
  | nil => simp [lnL]
  | cons c r =>
    unfold lnL
    split
    · simp
    · split <;> simp

theorem join_ln (l : List UInt8) : joinL (lnL l) = l := by
  induction l with
  | nil => rfl
  | cons c r ih =>
    unfold lnL
    split
    · rename_i h
      subst h
      cases hq : lnL r with
      | nil => exact absurd hq (lnL_ne r)
      | cons a q => rw [hq] at ih; simp [joinL, ih]
    · cases hq : lnL r with
      | nil => exact absurd hq (lnL_ne r)
      | cons a q =>
        rw [hq] at ih
        cases q with
        | nil => simp only [joinL] at ih ⊢; rw [ih]
        | cons b q => simp only [joinL] at ih ⊢; rw [← ih]; rfl

theorem join_rows (rs : List RowD) : joinL (rs.map rowLine ++ [[]]) = rowsText rs := by
  induction rs with
  | nil => rfl
  | cons r q ih =>
    cases q with
    | nil => simp [joinL, rowsText, rowText_line]
    | cons r2 q =>
      simp only [List.map_cons, List.cons_append, joinL] at ih ⊢
      rw [ih]
      simp [rowsText, rowText_line]

theorem read_rows {ls : List ByteArray} : ∀ {pre rs : List RowD} {last : ByteArray} {n : Nat} {m : Int}, ls ≠ [] → readGo pre last n ls = (rs, 0, m) → ∃ q, rs = pre ++ q ∧ okRows last q ∧ ls.map (·.data.toList) = q.map rowLine ++ [[]] := by
  induction ls with
  | nil => intro pre rs last n m h; exact absurd rfl h
  | cons l r ih =>
    intro pre rs last n m _ h
    cases r with
    | nil =>
      rw [readGo_last] at h
      split at h
      · rename_i hz
        injection h with h _
        refine ⟨[], by rw [← h]; simp, trivial, ?_⟩
        have : l.data.toList = [] := List.length_eq_zero_iff.1 (by rw [Array.length_toList]; exact hz)
        simp [this]
      · injection h with _ h; injection h with h _; cases h
    | cons l' r =>
      cases hl : lineRow l with
      | none => rw [readGo_form hl] at h; injection h with _ h; injection h with h _; cases h
      | some x =>
        by_cases he : chk true x last = 0
        · rw [readGo_add hl he] at h
          obtain ⟨q, h1, h2, h3⟩ := ih (by simp) h
          obtain ⟨h4, h5⟩ := lineRow_ref hl
          refine ⟨x :: q, by rw [h1]; simp, ⟨rowErr_zero.2 ⟨h5, he⟩, h2⟩, ?_⟩
          rw [List.map_cons, h3, ref_line h4]
          rfl
        · rw [readGo_bad hl he] at h
          injection h with _ h; injection h with h _
          exact absurd h he

/-- What was read is told as the same text. -/
theorem read_tell {s : ByteArray} {rs : List RowD} {m : Int} (h : readB s = (rs, 0, m)) : okRows noB rs ∧ rowsText rs = s.data.toList ∧ tellGo noB 0 [] rs = (s.data.toList, 0, 0) := by
  unfold readB at h
  split at h
  · injection h with _ h; injection h with h _; cases h
  · rename_i hs
    obtain ⟨q, h1, h2, h3⟩ := read_rows (by simp [linesB]) h
    rw [List.nil_append] at h1
    subst h1
    have e : rowsText rs = s.data.toList := by rw [← join_rows, ← h3, linesB_lnL, join_ln]
    refine ⟨h2, e, ?_⟩
    have hz : s.data.toList.length = s.size := Array.length_toList
    rw [tell_ok h2 (by rw [List.nil_append, e, hz]; omega), List.nil_append, e]

end Go.Proofs.YtiamlbhkiehilaaGreatDoor

namespace Go.Proofs.YtiamlbhkiehilaaGreatDoor
open Go.RowKit Go.Maps

theorem name_nc {n : List UInt8} (h : nameB n = true) (c : Int) (hs : startB c = false) (hp : partB c = false) : ∀ x ∈ n, nc c x = true := by
  obtain ⟨a, t, rfl, ha, ht⟩ := name_parts h
  intro x hx
  simp only [nc, decide_eq_true_eq]
  intro he
  rcases List.mem_cons.1 hx with h1 | h1
  · rw [← h1, he, hs] at ha; cases ha
  · have := ht x h1
    unfold prt at this
    rw [he, hp] at this
    cases this

theorem toText_head (ts : List ByteArray) : toText ts = [] ∨ ∃ r, toText ts = 32 :: r := by
  cases ts with
  | nil => exact .inl rfl
  | cons a q => exact .inr ⟨_, rfl⟩

theorem take_name {n : List UInt8} (h : nameB n = true) (ts : List ByteArray) : (n ++ toText ts).takeWhile (nc 32) = n ∧ (n ++ toText ts).dropWhile (nc 32) = toText ts := by
  have hn := name_nc h 32 (by decide) (by decide)
  rcases toText_head ts with e | ⟨r, e⟩
  · rw [e, List.append_nil]
    exact takeWhile_end hn
  · rw [e]
    exact takeWhile_all hn 32 r (by decide)

theorem tos_list (s : ByteArray) : ∀ (ts : List ByteArray) (i : Nat), i ≤ s.size → (∀ t ∈ ts, nameB t.data.toList = true) → s.data.toList.drop i = toText ts → tosR s i = ts := by
  intro ts
  induction ts with
  | nil =>
    intro i hi _ h
    have hl := congrArg List.length h
    rw [List.length_drop, Array.length_toList] at hl
    simp only [toText, List.length_nil] at hl
    exact tosR_end (show s.data.size ≤ i by omega)
  | cons t q ih =>
    intro i hi hn h
    have hlt : i < s.size := by
      rcases Nat.lt_or_ge i s.size with h1 | h1
      · exact h1
      · rw [List.drop_eq_nil_of_le (by rw [Array.length_toList]; exact h1)] at h
        simp [toText] at h
    rw [drop_cons hlt, toText, List.cons_append] at h
    injection h with _ h
    obtain ⟨e1, e2⟩ := take_name (hn t (by simp)) q
    have e3 := ext_take (s := s) (c := 32) (k := i + 1) hlt
    have e4 := drop_stop (s := s) (c := 32) (k := i + 1) hlt
    rw [h] at e3 e4
    rw [e1] at e3
    rw [e2] at e4
    rw [tosR_step hlt, data_inj e3, ih _ (stop_le hlt) (fun x hx => hn x (by simp [hx])) e4]

theorem line_row {r : RowD} (h : rowNames r = true) : lineRow ⟨(rowLine r).toArray⟩ = some r := by
  have hr := h
  simp only [rowNames, Bool.and_eq_true, List.all_eq_true, isN] at h
  obtain ⟨hn, ht⟩ := h
  have hd : (⟨(rowLine r).toArray⟩ : ByteArray).data.toList = r.name.data.toList ++ 58 :: toText r.to := by
    show (rowLine r).toArray.toList = _
    rw [List.toList_toArray]; rfl
  have hsz : (⟨(rowLine r).toArray⟩ : ByteArray).size = r.name.data.toList.length + 1 + (toText r.to).length := by
    rw [arr_size]; simp [rowLine]; omega
  generalize (⟨(rowLine r).toArray⟩ : ByteArray) = s at hd hsz
  obtain ⟨e1, e2⟩ := takeWhile_all (p := nc 58) (name_nc hn 58 (by decide) (by decide)) 58 (toText r.to) (by decide)
  have e3 := stop_take s 58 _ 0 rfl (Nat.zero_le _)
  have e4 := ext_take (s := s) (c := 58) (k := 0) (Nat.zero_le _)
  have e5 := drop_stop (s := s) (c := 58) (k := 0) (Nat.zero_le _)
  rw [List.drop_zero, hd, e1, Nat.zero_add] at e3
  rw [List.drop_zero, hd, e1] at e4
  rw [List.drop_zero, hd, e2] at e5
  have e6 : s.data.toList.drop (stop s 58 0 + 1) = toText r.to := by
    rw [← List.drop_drop, hd, e3, List.drop_left]
    rfl
  have e7 := tos_list s r.to (stop s 58 0 + 1) (by rw [e3]; omega) ht e6
  have href : refRow s = some r := by
    unfold refRow
    rw [if_neg (by rw [e3]; omega), if_pos, e7, data_inj e4]
    by_cases hl : s.size ≤ stop s 58 0 + 1
    · exact .inl hl
    · right
      have hlt : stop s 58 0 + 1 < s.size := by omega
      rcases toText_head r.to with e | ⟨q, e⟩
      · rw [e] at hsz
        simp only [List.length_nil] at hsz
        omega
      · rw [e, drop_cons hlt] at e6
        injection e6 with e6 _
        rw [byteAt_lt hlt, e6]
        rfl
  unfold lineRow
  rw [href]
  simp [hr]

theorem toText_nonl {ts : List ByteArray} (h : ∀ t ∈ ts, nameB t.data.toList = true) : ∀ c ∈ toText ts, c ≠ 10 := by
  induction ts with
  | nil => simp [toText]
  | cons t q ih =>
    intro c hc
    simp only [toText, List.cons_append, List.mem_cons, List.mem_append] at hc
    rcases hc with rfl | hc | hc
    · decide
    · exact name_nonl (h t (by simp)) c hc
    · exact ih (fun x hx => h x (by simp [hx])) c hc

theorem rowLine_nonl {r : RowD} (h : rowNames r = true) : ∀ c ∈ rowLine r, c ≠ 10 := by
  simp only [rowNames, Bool.and_eq_true, List.all_eq_true, isN] at h
  intro c hc
  simp only [rowLine, List.mem_append, List.mem_cons] at hc
  rcases hc with hc | rfl | hc
  · exact name_nonl h.1 c hc
  · decide
  · exact toText_nonl h.2 c hc

theorem okRows_names {last : ByteArray} {rs : List RowD} (h : okRows last rs) : ∀ r ∈ rs, rowNames r = true := by
  induction rs generalizing last with
  | nil => simp
  | cons a q ih =>
    intro r hr
    rcases List.mem_cons.1 hr with rfl | hr
    · exact (rowErr_zero.1 h.1).1
    · exact ih h.2 r hr

theorem lnL_rows {rs : List RowD} (h : ∀ r ∈ rs, rowNames r = true) : lnL (rowsText rs) = rs.map rowLine ++ [[]] := by
  induction rs with
  | nil => rfl
  | cons a q ih =>
    rw [rowsText, rowText_line, List.append_assoc, List.singleton_append, lnL_pre _ _ (rowLine_nonl (h a (by simp))), ih (fun x hx => h x (by simp [hx]))]
    rfl

theorem read_lines {rs : List RowD} : ∀ {last : ByteArray} {pre : List RowD} {n : Nat}, okRows last rs → readGo pre last n (rs.map (fun r => ⟨(rowLine r).toArray⟩) ++ [⟨#[]⟩]) = (pre ++ rs, 0, 0) := by
  induction rs with
  | nil => intro last pre n _; simp [readGo, ByteArray.size]
  | cons a q ih =>
    intro last pre n h
    obtain ⟨h1, h2⟩ := rowErr_zero.1 h.1
    have := ih (last := a.name) (pre := pre ++ [a]) (n := n + 1) h.2
    rw [List.append_assoc, List.singleton_append] at this
    cases hq : q.map (fun r => (⟨(rowLine r).toArray⟩ : ByteArray)) ++ [⟨#[]⟩] with
    | nil => simp at hq
    | cons l' t =>
      rw [List.map_cons, List.cons_append, hq, readGo_add (line_row h1) h2, ← hq]
      exact this

/-- What is told of rows in order is read as these rows. -/
theorem tell_read {rs : List RowD} (h : okRows noB rs) (hl : (rowsText rs).length ≤ 25000) : readB ⟨(rowsText rs).toArray⟩ = (rs, 0, 0) := by
  have hls : linesB ⟨(rowsText rs).toArray⟩ = rs.map (fun r => ⟨(rowLine r).toArray⟩) ++ [⟨#[]⟩] := by
    apply map_inj
    rw [linesB_lnL]
    show lnL (rowsText rs).toArray.toList = _
    rw [List.toList_toArray, lnL_rows (okRows_names h), List.map_append, List.map_map]
    congr 1
  unfold readB
  rw [if_neg (by rw [arr_size]; omega), hls, read_lines h]
  rfl

end Go.Proofs.YtiamlbhkiehilaaGreatDoor

namespace Go.Proofs.YtiamlbhkiehilaaGreatDoor
open Go.RowKit Go.Maps

theorem BookR.below {B kb : Nat} {ts : List Value} {T : Value} {rs : List Value} {R : Value} {w w' : World} (h : BookR B kb ts T rs R w) (hb : Below w.heap.size w w') : BookR B kb ts T rs R w' :=
  ⟨h.le, Below.heapAt hb h.head (lt_of_heap h.head), own_below h.trow hb, (fun i v hv => by
    obtain ⟨n, hn, ho⟩ := h.tlists i v hv
    exact ⟨n, hn, own_below ho hb⟩), own_below h.rrow hb, (fun i v hv => by
    obtain ⟨n, hn, ho⟩ := h.rlists i v hv
    exact ⟨n, hn, own_below ho hb⟩)⟩

/-- An owned row, read. -/
theorem own_read {w : World} {B : Nat} {e : TypeId} {size n : Nat} {v : Value} {xs : List Value} (h : w.ownsRow B e size v n xs) (hn : 0 < n) : ∃ g cap, v = .slice (some ⟨g, 0, none⟩) n cap ∧ g < w.heap.size ∧ ∀ (j : Nat) u, xs[j]? = some u → w.cell? ⟨g, j, none⟩ = some u := by
  obtain ⟨ao, cap, rfl, hao⟩ := own_form h
  obtain ⟨g, rfl⟩ := hao hn
  exact ⟨g, cap, rfl, (h.lt g rfl).2, (own_cell h).1⟩

set_option maxRecDepth 100000 in
set_option maxHeartbeats 2000000 in
theorem staysR_any (B kb : Nat) (ts : List Value) (T : Value) (rs : List Value) (R : Value) (w : World) (hlt : ts.length ≤ 1000000000000) (hlr : rs.length ≤ 1000000000000) (h : BookR B kb ts T rs R w) :
    Calls Tryz.prog 29 #[.pointer (some ⟨kb, 0, none⟩)] w fun e w' => e = .returned (.bool true) ∧ Below w.heap.size w w' := by
  obtain ⟨Ta, Tc, rfl, _⟩ := own_form h.trow
  obtain ⟨Ra, Rc, rfl, _⟩ := own_form h.rrow
  have hkl := lt_of_heap h.head
  obtain ⟨c0, c1, c2, _, _, _⟩ := res_cells h.head
  have HH := hide h
  clear h
  go_enter Tryz.func29, Tryz.ntmps29
  go_wp2
  go_loop [3] (fun iv => iv = .int .i64 0) (fun _ => 0)
  case atStart => rfl
  case round =>
    subst hrel
    go_wp2_with fail
    clear c0 c1 c2
    go_loopw [6] (fun iv wr => ∃ i : Nat, iv = .int .i64 i ∧ i ≤ ts.length ∧ Below w.heap.size w wr) (fun iv _ => ts.length - (intOf iv).toNat)
    case atStart => exact ⟨0, rfl, Nat.zero_le _, Below.refl _ _⟩
    case round =>
      obtain ⟨i, rfl, hi, hbx⟩ := hrel
      have hk := HH.out.below hbx
      obtain ⟨c0, c1, c2, _, _, _⟩ := res_cells hk.head
      by_cases hlt : i < ts.length
      · obtain ⟨v, hv⟩ : ∃ v, ts[i]? = some v := ⟨_, List.getElem?_eq_getElem hlt⟩
        obtain ⟨n, hn, hf⟩ := hk.tlists i v hv
        obtain ⟨g, cap, hV, hgl, hgr⟩ := own_read hk.trow (by omega)
        injection hV with hV1 _ _
        subst hV1
        have hcv := hgr i v hv
        have HF := hide hf
        obtain ⟨ao2, cap2, rfl, _⟩ := own_form hf
        have HCV := hide hcv
        have hmk := mark_any (i / 4 * 4) wr (by omega)
        rw [show (((i / 4 * 4 : Nat)) : Int) = (i : Int) / 4 * 4 by omega] at hmk
        have HK := hide hk.head
        clear hgr hv hf hk hcv
        go_wp2_with fail
        refine hmk.mono ?_
        rintro e w2 ⟨rfl, hb2⟩
        have hB2 : Below w.heap.size w w2 := hbx.trans (hb2.mono hbx.size)
        have HF2 := hide (own_below HF.out hb2)
        have HC2 := hide ((hb2.cell (p := ⟨g, i, none⟩) hgl).trans HCV.out)
        have HK2 := hide (Below.heapAt hb2 HK.out (lt_of_heap HK.out))
        have hgl2 := Nat.lt_of_lt_of_le hgl hb2.size
        clear hmk HF HCV HK hb2 c0 c1 c2 hgl hbx
        go_wp2_with fail
        go_loopw [8] (fun jv wr => ∃ j : Nat, jv = .int .i64 j ∧ j ≤ n ∧ Below w2.heap.size w2 wr) (fun jv _ => n - (intOf jv).toNat)
        case atStart => exact ⟨0, rfl, Nat.zero_le _, Below.refl _ _⟩
        case round =>
          obtain ⟨j, rfl, hj, hby⟩ := hrel
          have gk := Below.heapAt hby HK2.out (lt_of_heap HK2.out)
          obtain ⟨c0, c1, c2, _, _, _⟩ := res_cells gk
          have cg := (hby.cell (p := ⟨g, i, none⟩) hgl2).trans HC2.out
          by_cases hjn : j < n
          · obtain ⟨g2, cp2, hv2, hg2l, hg2r⟩ := own_read (own_below HF2.out hby) (by omega)
            injection hv2 with hv2 _ _
            subst hv2
            have cj := hg2r j (.string (markB (i / 4 * 4))) (by rw [repC_get n _ j (by show j < n * 1; omega)]; show [Value.string _][j % 1]? = _; rw [Nat.mod_one]; rfl)
            have hxx : ((markB (i / 4 * 4)).toList != (markB (i / 4 * 4)).toList) = false := by simp
            clear hg2r gk
            go_wp2
            exact ⟨⟨j + 1, by go_num, hjn, hby⟩, by simp [intOf]; omega⟩
          · go_wp2
            go_round
            case rel => exact ⟨i + 1, by go_num, hlt, hB2.trans (hby.mono hB2.size)⟩
            case measure => simp [intOf]; omega
      · go_wp2_with fail
        go_loopw [9] (fun iv wr => ∃ i : Nat, iv = .int .i64 i ∧ i ≤ rs.length ∧ Below w.heap.size w wr) (fun iv _ => rs.length - (intOf iv).toNat)
        case atStart => exact ⟨0, rfl, Nat.zero_le _, hbx⟩
        case round =>
          clear hbx hk c0 c1 c2
          obtain ⟨i2, rfl, hi2, hbx⟩ := hrel
          have hk := HH.out.below hbx
          obtain ⟨c0, c1, c2, _, _, _⟩ := res_cells hk.head
          by_cases hlt2 : i2 < rs.length
          · obtain ⟨v, hv⟩ : ∃ v, rs[i2]? = some v := ⟨_, List.getElem?_eq_getElem hlt2⟩
            obtain ⟨n, hn, hf⟩ := hk.rlists i2 v hv
            obtain ⟨g, cap, hV, hgl, hgr⟩ := own_read hk.rrow (by omega)
            injection hV with hV1 _ _
            subst hV1
            have hcv := hgr i2 v hv
            have HF := hide hf
            obtain ⟨ao2, cap2, rfl, _⟩ := own_form hf
            have HCV := hide hcv
            have hmk := mark_any (i2 / 4 * 4) wr (by omega)
            rw [show (((i2 / 4 * 4 : Nat)) : Int) = (i2 : Int) / 4 * 4 by omega] at hmk
            have HK := hide hk.head
            clear hgr hv hf hk hcv
            go_wp2_with fail
            refine hmk.mono ?_
            rintro e w2 ⟨rfl, hb2⟩
            have hB2 : Below w.heap.size w w2 := hbx.trans (hb2.mono hbx.size)
            have HF2 := hide (own_below HF.out hb2)
            have HC2 := hide ((hb2.cell (p := ⟨g, i2, none⟩) hgl).trans HCV.out)
            have HK2 := hide (Below.heapAt hb2 HK.out (lt_of_heap HK.out))
            have hgl2 := Nat.lt_of_lt_of_le hgl hb2.size
            clear hmk HF HCV HK hb2 c0 c1 c2 hgl hbx
            go_wp2_with fail
            go_loopw [11] (fun jv wr => ∃ j : Nat, jv = .int .i64 j ∧ j ≤ n ∧ Below w2.heap.size w2 wr) (fun jv _ => n - (intOf jv).toNat)
            case atStart => exact ⟨0, rfl, Nat.zero_le _, Below.refl _ _⟩
            case round =>
              obtain ⟨j, rfl, hj, hby⟩ := hrel
              have gk := Below.heapAt hby HK2.out (lt_of_heap HK2.out)
              obtain ⟨c0, c1, c2, _, _, _⟩ := res_cells gk
              have cg := (hby.cell (p := ⟨g, i2, none⟩) hgl2).trans HC2.out
              by_cases hjn : j < n
              · obtain ⟨g2, cp2, hv2, hg2l, hg2r⟩ := own_read (own_below HF2.out hby) (by omega)
                injection hv2 with hv2 _ _
                subst hv2
                have cj := hg2r (j * 2) (.string (markB (i2 / 4 * 4))) (by rw [repC_get n _ (j * 2) (by show j * 2 < n * 2; omega)]; show [Value.string _, _][(j * 2) % 2]? = _; rw [Nat.mul_mod_left]; rfl)
                have ck := hg2r (j * 2 + 1) (.slice none 0 0) (by rw [repC_get n _ (j * 2 + 1) (by show j * 2 + 1 < n * 2; omega)]; show [Value.string _, _][(j * 2 + 1) % 2]? = _; rw [show (j * 2 + 1) % 2 = 1 by omega]; rfl)
                have hxx : ((markB (i2 / 4 * 4)).toList != (markB (i2 / 4 * 4)).toList) = false := by simp
                clear hg2r gk
                go_wp2
                exact ⟨⟨j + 1, by go_num, hjn, hby⟩, by simp [intOf]; omega⟩
              · go_wp2
                go_round
                case rel => exact ⟨i2 + 1, by go_num, hlt2, hB2.trans (hby.mono hB2.size)⟩
                case measure => simp [intOf]; omega
          · go_wp2
            go_ret
            exact ⟨rfl, hbx⟩

end Go.Proofs.YtiamlbhkiehilaaGreatDoor

namespace Go.Proofs.YtiamlbhkiehilaaGreatDoor
open Go.RowKit

def okK (r : RowD) (k : Nat) : Bool := isN r.name && ((r.to.take k).all isN && ascB (r.to.take k))
def longK (r : RowD) (k : Nat) : Bool := longS r.name || (r.to.take k).any longS

theorem okK_zero {r : RowD} {x : ByteArray} (hx : r.to[0]? = some x) : okK r 1 = (okK r 0 && isN x) := by
  unfold okK
  rw [all_step (k := 0) hx, ascB_one]
  cases isN r.name <;> simp [ascB]
theorem okK_succ {r : RowD} {j : Nat} {y x : ByteArray} (hy : r.to[j]? = some y) (hx : r.to[j + 1]? = some x) : okK r (j + 1 + 1) = (okK r (j + 1) && isN x && lessS y x) := by
  unfold okK
  rw [all_step (k := j + 1) hx, ascB_step hy hx]
  cases isN r.name <;> cases (r.to.take (j + 1)).all isN <;> cases isN x <;> cases ascB (r.to.take (j + 1)) <;> cases lessS y x <;> rfl
theorem longK_succ {r : RowD} {k : Nat} {x : ByteArray} (hx : r.to[k]? = some x) : longK r (k + 1) = (longK r k || longS x) := by
  unfold longK
  rw [any_step hx, Bool.or_assoc]
theorem okK_end {r : RowD} {k : Nat} (h : r.to.length ≤ k) : okK r k = (rowNames r && ascB r.to) := by
  unfold okK rowNames
  rw [List.take_of_length_le h, Bool.and_assoc]
theorem longK_end {r : RowD} {k : Nat} (h : r.to.length ≤ k) : longK r k = rowLong r := by
  unfold longK rowLong
  rw [List.take_of_length_le h]

set_option maxHeartbeats 4000000 in
set_option maxRecDepth 100000 in
theorem behind_any (n : ByteArray) (v : Value) (ss : List ByteArray) (last : ByteArray) (w : World) (hn : n.size ≤ maxLen) (hlen : ss.length ≤ maxLen) (hv : IsStrs v ss w) (hfit : fitsS ss) :
    Calls Tryz.prog 76 #[.agg #[.string n, v], .string last] w fun e w' => e = .returned (.int .i64 (rowErr ⟨n, ss⟩ last)) ∧ Below w.heap.size w w' := by
  obtain ⟨ao, cap, rfl, _, _, hne0⟩ := hv
  have hne := hide hne0
  clear hne0
  have hn0 := hn
  unfold maxLen at hlen hn
  have hb : Below w.heap.size w (w.alloc (.cells #[.string n, .slice ao ss.length cap] 51)) := (Below.refl _ _).alloc (Nat.le_refl _) _
  have g1 := heap_new w (.cells #[.string n, .slice ao ss.length cap] 51)
  go_enter Tryz.func76, Tryz.ntmps76
  go_wp2_with fail
  refine (name_any _ _ hn0).mono ?_
  rintro e w1 ⟨rfl, rfl⟩
  go_wp2_with fail
  generalize w.alloc (.cells #[.string n, .slice ao ss.length cap] 51) = w1 at hb g1 ⊢
  have hz1 := lt_of_heap g1
  go_loopw [5, 6, 7] (fun o l i wr => ∃ k : Nat, i = .int .i64 k ∧ k ≤ ss.length ∧ o = .bool (okK ⟨n, ss⟩ k) ∧ l = .bool (longK ⟨n, ss⟩ k) ∧ Below w1.heap.size w1 wr) (fun _ _ i _ => ss.length - (intOf i).toNat)
  case atStart => exact ⟨0, rfl, Nat.zero_le _, by simp [okK, isN, ascB], congrArg Value.bool (by rw [Bool.eq_iff_iff]; simp [longK, longS]; omega), Below.refl _ _⟩
  case round =>
    obtain ⟨k, rfl, hk, rfl, rfl, hbx⟩ := hrel
    have g2 := Below.heapAt hbx g1 hz1
    have c0 := (cell_at g2 0)
    have c1 := (cell_at g2 1)
    simp only [List.getElem?_toArray, List.getElem?_cons_zero, List.getElem?_cons_succ] at c0 c1
    by_cases hlt : k < ss.length
    · obtain ⟨x, hx⟩ : ∃ x, ss[k]? = some x := ⟨_, List.getElem?_eq_getElem hlt⟩
      obtain ⟨b, off, hao, hbw, hs⟩ := hne.out (ne_nil_of_get hx)
      subst hao
      have hS := (hs.below hb hbw).below (hbx.mono hb.size) hbw
      have d0 := hS k x hx
      have hxs := hfit x (List.mem_of_getElem? hx)
      have hxs' : (x.size : Int) ≤ 9223372036854775807 := by unfold maxLen at hxs; omega
      have HX := hide hx
      clear g2
      by_cases hk0 : k = 0
      · subst hk0
        have hst := okK_zero (r := ⟨n, ss⟩) hx
        rw [Nat.add_zero] at d0
        clear hx hs hne hS
        cases ho : okK ⟨n, ss⟩ 0
        · cases hnx : isN x
          all_goals
            have HO1 : Hid (okK ⟨n, ss⟩ (0 + 1) = false) := by unfold Hid; rw [hst, ho, Bool.false_and]
            have HNX : Hid (nameB x.data.toList = _) := hnx
            clear hst ho hnx
            cases hl : longK ⟨n, ss⟩ 0
            · have HL := hide hl
              clear hl
              by_cases hxl : 12 < x.size
              · have HL1 : Hid (longK ⟨n, ss⟩ (0 + 1) = true) := by unfold Hid; rw [longK_succ HX.out, HL.out, Bool.false_or]; simp [longS, hxl]
                go_wp2_with fail
                refine (name_any _ _ hxs).mono ?_
                rintro e w2 ⟨rfl, rfl⟩
                rw [HNX.out]
                go_wp2_with fail
                go_quiet (fail)
                go_wp2
                go_roundw
                case rel => exact ⟨0 + 1, by go_num, by omega, congrArg Value.bool HO1.out.symm, congrArg Value.bool (by first | exact HL1.out.symm | (rw [HL1.out]; simp <;> omega)), below_drewN hbx _⟩
                case measure => simp [intOf]; omega
              · have HL1 : Hid (longK ⟨n, ss⟩ (0 + 1) = false) := by unfold Hid; rw [longK_succ HX.out, HL.out, Bool.false_or]; simp [longS, hxl]
                go_wp2_with fail
                refine (name_any _ _ hxs).mono ?_
                rintro e w2 ⟨rfl, rfl⟩
                rw [HNX.out]
                go_wp2_with fail
                go_quiet (fail)
                go_wp2
                go_roundw
                case rel => exact ⟨0 + 1, by go_num, by omega, congrArg Value.bool HO1.out.symm, congrArg Value.bool (by first | exact HL1.out.symm | (rw [HL1.out]; simp <;> omega)), below_drewN hbx _⟩
                case measure => simp [intOf]; omega
            · have HL := hide hl
              clear hl
              have HL1 : Hid (longK ⟨n, ss⟩ (0 + 1) = true) := by unfold Hid; rw [longK_succ HX.out, HL.out, Bool.true_or]
              go_wp2_with fail
              refine (name_any _ _ hxs).mono ?_
              rintro e w2 ⟨rfl, rfl⟩
              rw [HNX.out]
              go_wp2_with fail
              go_quiet (fail)
              go_wp2
              go_roundw
              case rel => exact ⟨0 + 1, by go_num, by omega, congrArg Value.bool HO1.out.symm, congrArg Value.bool (by first | exact HL1.out.symm | (rw [HL1.out]; simp <;> omega)), below_drewN hbx _⟩
              case measure => simp [intOf]; omega
        · cases hnx : isN x
          · have HO1 : Hid (okK ⟨n, ss⟩ (0 + 1) = false) := by unfold Hid; rw [hst, ho, hnx]; rfl
            have HNX : Hid (nameB x.data.toList = _) := hnx
            clear hst ho hnx
            cases hl : longK ⟨n, ss⟩ 0
            · have HL := hide hl
              clear hl
              by_cases hxl : 12 < x.size
              · have HL1 : Hid (longK ⟨n, ss⟩ (0 + 1) = true) := by unfold Hid; rw [longK_succ HX.out, HL.out, Bool.false_or]; simp [longS, hxl]
                go_wp2_with fail
                refine (name_any _ _ hxs).mono ?_
                rintro e w2 ⟨rfl, rfl⟩
                rw [HNX.out]
                go_wp2_with fail
                go_quiet (fail)
                go_wp2
                go_roundw
                case rel => exact ⟨0 + 1, by go_num, by omega, congrArg Value.bool HO1.out.symm, congrArg Value.bool (by first | exact HL1.out.symm | (rw [HL1.out]; simp <;> omega)), below_drewN hbx _⟩
                case measure => simp [intOf]; omega
              · have HL1 : Hid (longK ⟨n, ss⟩ (0 + 1) = false) := by unfold Hid; rw [longK_succ HX.out, HL.out, Bool.false_or]; simp [longS, hxl]
                go_wp2_with fail
                refine (name_any _ _ hxs).mono ?_
                rintro e w2 ⟨rfl, rfl⟩
                rw [HNX.out]
                go_wp2_with fail
                go_quiet (fail)
                go_wp2
                go_roundw
                case rel => exact ⟨0 + 1, by go_num, by omega, congrArg Value.bool HO1.out.symm, congrArg Value.bool (by first | exact HL1.out.symm | (rw [HL1.out]; simp <;> omega)), below_drewN hbx _⟩
                case measure => simp [intOf]; omega
            · have HL := hide hl
              clear hl
              have HL1 : Hid (longK ⟨n, ss⟩ (0 + 1) = true) := by unfold Hid; rw [longK_succ HX.out, HL.out, Bool.true_or]
              go_wp2_with fail
              refine (name_any _ _ hxs).mono ?_
              rintro e w2 ⟨rfl, rfl⟩
              rw [HNX.out]
              go_wp2_with fail
              go_quiet (fail)
              go_wp2
              go_roundw
              case rel => exact ⟨0 + 1, by go_num, by omega, congrArg Value.bool HO1.out.symm, congrArg Value.bool (by first | exact HL1.out.symm | (rw [HL1.out]; simp <;> omega)), below_drewN hbx _⟩
              case measure => simp [intOf]; omega
          · have HO1 : Hid (okK ⟨n, ss⟩ (0 + 1) = true) := by unfold Hid; rw [hst, ho, hnx]; rfl
            have HNX : Hid (nameB x.data.toList = _) := hnx
            clear hst ho hnx
            cases hl : longK ⟨n, ss⟩ 0
            · have HL := hide hl
              clear hl
              by_cases hxl : 12 < x.size
              · have HL1 : Hid (longK ⟨n, ss⟩ (0 + 1) = true) := by unfold Hid; rw [longK_succ HX.out, HL.out, Bool.false_or]; simp [longS, hxl]
                go_wp2_with fail
                refine (name_any _ _ hxs).mono ?_
                rintro e w2 ⟨rfl, rfl⟩
                rw [HNX.out]
                go_wp2_with fail
                go_quiet (fail)
                go_wp2
                go_roundw
                case rel => exact ⟨0 + 1, by go_num, by omega, congrArg Value.bool HO1.out.symm, congrArg Value.bool (by first | exact HL1.out.symm | (rw [HL1.out]; simp <;> omega)), below_drewN hbx _⟩
                case measure => simp [intOf]; omega
              · have HL1 : Hid (longK ⟨n, ss⟩ (0 + 1) = false) := by unfold Hid; rw [longK_succ HX.out, HL.out, Bool.false_or]; simp [longS, hxl]
                go_wp2_with fail
                refine (name_any _ _ hxs).mono ?_
                rintro e w2 ⟨rfl, rfl⟩
                rw [HNX.out]
                go_wp2_with fail
                go_quiet (fail)
                go_wp2
                go_roundw
                case rel => exact ⟨0 + 1, by go_num, by omega, congrArg Value.bool HO1.out.symm, congrArg Value.bool (by first | exact HL1.out.symm | (rw [HL1.out]; simp <;> omega)), below_drewN hbx _⟩
                case measure => simp [intOf]; omega
            · have HL := hide hl
              clear hl
              have HL1 : Hid (longK ⟨n, ss⟩ (0 + 1) = true) := by unfold Hid; rw [longK_succ HX.out, HL.out, Bool.true_or]
              go_wp2_with fail
              refine (name_any _ _ hxs).mono ?_
              rintro e w2 ⟨rfl, rfl⟩
              rw [HNX.out]
              go_wp2_with fail
              go_quiet (fail)
              go_wp2
              go_roundw
              case rel => exact ⟨0 + 1, by go_num, by omega, congrArg Value.bool HO1.out.symm, congrArg Value.bool (by first | exact HL1.out.symm | (rw [HL1.out]; simp <;> omega)), below_drewN hbx _⟩
              case measure => simp [intOf]; omega
      · obtain ⟨j, rfl⟩ : ∃ j, k = j + 1 := ⟨k - 1, by omega⟩
        obtain ⟨y, hy⟩ : ∃ y, ss[j]? = some y := ⟨_, List.getElem?_eq_getElem (by omega)⟩
        have d1 := hS j y hy
        have hst := okK_succ (r := ⟨n, ss⟩) hy hx
        have hk1 : ((j : Int) + 1 == 0) = false := by rw [beq_eq_false_iff_ne]; omega
        clear hx hs hne hS hy hk0
        cases ho : okK ⟨n, ss⟩ (j + 1)
        · cases hnx : isN x
          all_goals
            have HO1 : Hid (okK ⟨n, ss⟩ (j + 1 + 1) = false) := by unfold Hid; rw [hst, ho, Bool.false_and, Bool.false_and]
            have HNX : Hid (nameB x.data.toList = _) := hnx
            clear hst ho hnx
            cases hl : longK ⟨n, ss⟩ (j + 1)
            · have HL := hide hl
              clear hl
              by_cases hxl : 12 < x.size
              · have HL1 : Hid (longK ⟨n, ss⟩ (j + 1 + 1) = true) := by unfold Hid; rw [longK_succ HX.out, HL.out, Bool.false_or]; simp [longS, hxl]
                go_wp2_with fail
                refine (name_any _ _ hxs).mono ?_
                rintro e w2 ⟨rfl, rfl⟩
                rw [HNX.out]
                go_wp2_with fail
                go_quiet (fail)
                go_wp2
                go_roundw
                case rel => exact ⟨j + 1 + 1, by go_num, by omega, congrArg Value.bool HO1.out.symm, congrArg Value.bool (by first | exact HL1.out.symm | (rw [HL1.out]; simp <;> omega)), below_drewN hbx _⟩
                case measure => simp [intOf]; omega
              · have HL1 : Hid (longK ⟨n, ss⟩ (j + 1 + 1) = false) := by unfold Hid; rw [longK_succ HX.out, HL.out, Bool.false_or]; simp [longS, hxl]
                go_wp2_with fail
                refine (name_any _ _ hxs).mono ?_
                rintro e w2 ⟨rfl, rfl⟩
                rw [HNX.out]
                go_wp2_with fail
                go_quiet (fail)
                go_wp2
                go_roundw
                case rel => exact ⟨j + 1 + 1, by go_num, by omega, congrArg Value.bool HO1.out.symm, congrArg Value.bool (by first | exact HL1.out.symm | (rw [HL1.out]; simp <;> omega)), below_drewN hbx _⟩
                case measure => simp [intOf]; omega
            · have HL := hide hl
              clear hl
              have HL1 : Hid (longK ⟨n, ss⟩ (j + 1 + 1) = true) := by unfold Hid; rw [longK_succ HX.out, HL.out, Bool.true_or]
              go_wp2_with fail
              refine (name_any _ _ hxs).mono ?_
              rintro e w2 ⟨rfl, rfl⟩
              rw [HNX.out]
              go_wp2_with fail
              go_quiet (fail)
              go_wp2
              go_roundw
              case rel => exact ⟨j + 1 + 1, by go_num, by omega, congrArg Value.bool HO1.out.symm, congrArg Value.bool (by first | exact HL1.out.symm | (rw [HL1.out]; simp <;> omega)), below_drewN hbx _⟩
              case measure => simp [intOf]; omega
        · cases hnx : isN x
          · have HO1 : Hid (okK ⟨n, ss⟩ (j + 1 + 1) = false) := by unfold Hid; rw [hst, ho, hnx]; rfl
            have HNX : Hid (nameB x.data.toList = _) := hnx
            clear hst ho hnx
            cases hl : longK ⟨n, ss⟩ (j + 1)
            · have HL := hide hl
              clear hl
              by_cases hxl : 12 < x.size
              · have HL1 : Hid (longK ⟨n, ss⟩ (j + 1 + 1) = true) := by unfold Hid; rw [longK_succ HX.out, HL.out, Bool.false_or]; simp [longS, hxl]
                go_wp2_with fail
                refine (name_any _ _ hxs).mono ?_
                rintro e w2 ⟨rfl, rfl⟩
                rw [HNX.out]
                go_wp2_with fail
                go_quiet (fail)
                go_wp2
                go_roundw
                case rel => exact ⟨j + 1 + 1, by go_num, by omega, congrArg Value.bool HO1.out.symm, congrArg Value.bool (by first | exact HL1.out.symm | (rw [HL1.out]; simp <;> omega)), below_drewN hbx _⟩
                case measure => simp [intOf]; omega
              · have HL1 : Hid (longK ⟨n, ss⟩ (j + 1 + 1) = false) := by unfold Hid; rw [longK_succ HX.out, HL.out, Bool.false_or]; simp [longS, hxl]
                go_wp2_with fail
                refine (name_any _ _ hxs).mono ?_
                rintro e w2 ⟨rfl, rfl⟩
                rw [HNX.out]
                go_wp2_with fail
                go_quiet (fail)
                go_wp2
                go_roundw
                case rel => exact ⟨j + 1 + 1, by go_num, by omega, congrArg Value.bool HO1.out.symm, congrArg Value.bool (by first | exact HL1.out.symm | (rw [HL1.out]; simp <;> omega)), below_drewN hbx _⟩
                case measure => simp [intOf]; omega
            · have HL := hide hl
              clear hl
              have HL1 : Hid (longK ⟨n, ss⟩ (j + 1 + 1) = true) := by unfold Hid; rw [longK_succ HX.out, HL.out, Bool.true_or]
              go_wp2_with fail
              refine (name_any _ _ hxs).mono ?_
              rintro e w2 ⟨rfl, rfl⟩
              rw [HNX.out]
              go_wp2_with fail
              go_quiet (fail)
              go_wp2
              go_roundw
              case rel => exact ⟨j + 1 + 1, by go_num, by omega, congrArg Value.bool HO1.out.symm, congrArg Value.bool (by first | exact HL1.out.symm | (rw [HL1.out]; simp <;> omega)), below_drewN hbx _⟩
              case measure => simp [intOf]; omega
          · cases hle : lessS y x
            · have HO1 : Hid (okK ⟨n, ss⟩ (j + 1 + 1) = false) := by unfold Hid; rw [hst, ho, hnx, hle]; rfl
              have HNX : Hid (nameB x.data.toList = _) := hnx
              have hle' : Op.bytesLess y.toList x.toList = false := hle
              clear hst ho hnx hle
              cases hl : longK ⟨n, ss⟩ (j + 1)
              · have HL := hide hl
                clear hl
                by_cases hxl : 12 < x.size
                · have HL1 : Hid (longK ⟨n, ss⟩ (j + 1 + 1) = true) := by unfold Hid; rw [longK_succ HX.out, HL.out, Bool.false_or]; simp [longS, hxl]
                  go_wp2_with fail
                  refine (name_any _ _ hxs).mono ?_
                  rintro e w2 ⟨rfl, rfl⟩
                  rw [HNX.out]
                  go_wp2_with fail
                  go_quiet (fail)
                  go_wp2
                  go_roundw
                  case rel => exact ⟨j + 1 + 1, by go_num, by omega, congrArg Value.bool HO1.out.symm, congrArg Value.bool (by first | exact HL1.out.symm | (rw [HL1.out]; simp <;> omega)), below_drewN hbx _⟩
                  case measure => simp [intOf]; omega
                · have HL1 : Hid (longK ⟨n, ss⟩ (j + 1 + 1) = false) := by unfold Hid; rw [longK_succ HX.out, HL.out, Bool.false_or]; simp [longS, hxl]
                  go_wp2_with fail
                  refine (name_any _ _ hxs).mono ?_
                  rintro e w2 ⟨rfl, rfl⟩
                  rw [HNX.out]
                  go_wp2_with fail
                  go_quiet (fail)
                  go_wp2
                  go_roundw
                  case rel => exact ⟨j + 1 + 1, by go_num, by omega, congrArg Value.bool HO1.out.symm, congrArg Value.bool (by first | exact HL1.out.symm | (rw [HL1.out]; simp <;> omega)), below_drewN hbx _⟩
                  case measure => simp [intOf]; omega
              · have HL := hide hl
                clear hl
                have HL1 : Hid (longK ⟨n, ss⟩ (j + 1 + 1) = true) := by unfold Hid; rw [longK_succ HX.out, HL.out, Bool.true_or]
                go_wp2_with fail
                refine (name_any _ _ hxs).mono ?_
                rintro e w2 ⟨rfl, rfl⟩
                rw [HNX.out]
                go_wp2_with fail
                go_quiet (fail)
                go_wp2
                go_roundw
                case rel => exact ⟨j + 1 + 1, by go_num, by omega, congrArg Value.bool HO1.out.symm, congrArg Value.bool (by first | exact HL1.out.symm | (rw [HL1.out]; simp <;> omega)), below_drewN hbx _⟩
                case measure => simp [intOf]; omega
            · have HO1 : Hid (okK ⟨n, ss⟩ (j + 1 + 1) = true) := by unfold Hid; rw [hst, ho, hnx, hle]; rfl
              have HNX : Hid (nameB x.data.toList = _) := hnx
              have hle' : Op.bytesLess y.toList x.toList = true := hle
              clear hst ho hnx hle
              cases hl : longK ⟨n, ss⟩ (j + 1)
              · have HL := hide hl
                clear hl
                by_cases hxl : 12 < x.size
                · have HL1 : Hid (longK ⟨n, ss⟩ (j + 1 + 1) = true) := by unfold Hid; rw [longK_succ HX.out, HL.out, Bool.false_or]; simp [longS, hxl]
                  go_wp2_with fail
                  refine (name_any _ _ hxs).mono ?_
                  rintro e w2 ⟨rfl, rfl⟩
                  rw [HNX.out]
                  go_wp2_with fail
                  go_quiet (fail)
                  go_wp2
                  go_roundw
                  case rel => exact ⟨j + 1 + 1, by go_num, by omega, congrArg Value.bool HO1.out.symm, congrArg Value.bool (by first | exact HL1.out.symm | (rw [HL1.out]; simp <;> omega)), below_drewN hbx _⟩
                  case measure => simp [intOf]; omega
                · have HL1 : Hid (longK ⟨n, ss⟩ (j + 1 + 1) = false) := by unfold Hid; rw [longK_succ HX.out, HL.out, Bool.false_or]; simp [longS, hxl]
                  go_wp2_with fail
                  refine (name_any _ _ hxs).mono ?_
                  rintro e w2 ⟨rfl, rfl⟩
                  rw [HNX.out]
                  go_wp2_with fail
                  go_quiet (fail)
                  go_wp2
                  go_roundw
                  case rel => exact ⟨j + 1 + 1, by go_num, by omega, congrArg Value.bool HO1.out.symm, congrArg Value.bool (by first | exact HL1.out.symm | (rw [HL1.out]; simp <;> omega)), below_drewN hbx _⟩
                  case measure => simp [intOf]; omega
              · have HL := hide hl
                clear hl
                have HL1 : Hid (longK ⟨n, ss⟩ (j + 1 + 1) = true) := by unfold Hid; rw [longK_succ HX.out, HL.out, Bool.true_or]
                go_wp2_with fail
                refine (name_any _ _ hxs).mono ?_
                rintro e w2 ⟨rfl, rfl⟩
                rw [HNX.out]
                go_wp2_with fail
                go_quiet (fail)
                go_wp2
                go_roundw
                case rel => exact ⟨j + 1 + 1, by go_num, by omega, congrArg Value.bool HO1.out.symm, congrArg Value.bool (by first | exact HL1.out.symm | (rw [HL1.out]; simp <;> omega)), below_drewN hbx _⟩
                case measure => simp [intOf]; omega
    · have HO := hide (okK_end (r := ⟨n, ss⟩) (k := k) (by simp only; omega))
      have HL := hide (longK_end (r := ⟨n, ss⟩) (k := k) (by simp only; omega))
      rw [HO.out, HL.out]
      have hbl := hb.trans (hbx.mono hb.size)
      simp only
      cases hA : (rowNames ⟨n, ss⟩ && ascB ss)
      · have HE : Hid (rowErr ⟨n, ss⟩ last = 4) := by unfold Hid rowErr; simp only; rw [hA]; rfl
        clear hA
        go_wp2
        go_ret
        exact ⟨by rw [HE.out]; rfl, hbl⟩
      · cases hB : rowLong ⟨n, ss⟩
        · cases hC : leqS n last
          · have HE : Hid (rowErr ⟨n, ss⟩ last = 0) := by unfold Hid rowErr; simp only; rw [hA, hB, hC]; rfl
            have hq : (Op.bytesLess n.toList last.toList || n.toList == last.toList) = false := hC
            clear hA hB hC
            go_wp2
            go_ret
            exact ⟨by rw [HE.out]; rfl, hbl⟩
          · have HE : Hid (rowErr ⟨n, ss⟩ last = 4) := by unfold Hid rowErr; simp only; rw [hA, hB, hC]; rfl
            have hq : (Op.bytesLess n.toList last.toList || n.toList == last.toList) = true := hC
            clear hA hB hC
            go_wp2
            go_ret
            exact ⟨by rw [HE.out]; rfl, hbl⟩
        · have HE : Hid (rowErr ⟨n, ss⟩ last = 5) := by unfold Hid rowErr; simp only; rw [hA, hB]; rfl
          clear hA hB
          go_wp2
          go_ret
          exact ⟨by rw [HE.out]; rfl, hbl⟩

end Go.Proofs.YtiamlbhkiehilaaGreatDoor

namespace Go.Proofs.YtiamlbhkiehilaaGreatDoor
open Go.RowKit Go.Maps

theorem size_zero {l : ByteArray} (h : l.size = 0) : l = ⟨#[]⟩ := by
  obtain ⟨⟨l⟩⟩ := l
  cases l with
  | nil => rfl
  | cons a b => simp [ByteArray.size] at h

theorem not_empty {l : ByteArray} (h : ¬ l.size = 0) : l.toList.isEmpty = false := by
  rw [ByteArray.toList_eq]
  obtain ⟨⟨l⟩⟩ := l
  cases l with
  | nil => exact absurd rfl h
  | cons a b => rfl

set_option maxRecDepth 100000 in
set_option maxHeartbeats 2000000 in
theorem rread_any (s : ByteArray) (w : World) (hs : s.size ≤ maxLen) :
    Calls Tryz.prog 43 #[.string s] w fun e w' => RdRes w w' s e := by
  unfold maxLen at hs
  obtain ⟨i0, hi0, hz0, hz1, hz2⟩ := info_parts infoRow
  have g0 := heap_new w (.cells #[.int .i64 0, .int .i64 0] 27)
  have hb0 : Below w.heap.size w (w.alloc (.cells #[.int .i64 0, .int .i64 0] 27)) := (Below.refl _ _).alloc (Nat.le_refl _) _
  by_cases hbig : 25000 < s.size
  · have HE : Hid (readB s = ([], 2, 0)) := by unfold Hid readB; rw [if_pos hbig]
    go_enter Tryz.func43, Tryz.ntmps43
    go_wp2_with fail
    refine bodyPost_ret (v := .tuple #[.slice none 0 0, .agg #[.int .i64 2, .int .i64 0]]) (by simp [results, Tryz.results43, go_sem]) rfl (RdRes.bad HE.out ?_)
    exact (Below.refl _ _).alloc (Nat.le_refl _) _
  · have HE : Hid (readB s = readGo [] noB 0 (linesB s)) := by unfold Hid readB; rw [if_neg hbig]
    go_enter Tryz.func43, Tryz.ntmps43
    go_wp2_with fail
    generalize w.alloc (.cells #[.int .i64 0, .int .i64 0] 27) = w0 at g0 hb0 ⊢
    have hl0 := lt_of_heap g0
    refine (lines_any s w0 (by omega)).mono ?_
    rintro e w1 ⟨v, rfl, hown, hb1⟩
    have g1 := Below.heapAt hb1 g0 hl0
    have hB1 : Below w.heap.size w w1 := hb0.trans (hb1.mono hb0.size)
    have hls := linesB_len s
    have HSZ := hide (linesB_size s)
    have hpos : 0 < (linesB s).length := by simp [linesB]
    obtain ⟨g, cap, rfl, hnc, hgl, hgB, hrd⟩ := row_reads hown hpos
    have HRD := hide hrd
    clear hrd hown hb1 g0 hb0
    generalize linesB s = ls at *
    go_wp2_with fail
    go_loopw [4, 6, 7] (fun v lv iv wr => ∃ (i : Nat) (last : ByteArray) (ps : List (RowD × Value)), lv = .string last ∧ iv = .int .i64 i ∧ RdInv w1 wr ls i v last ps) (fun _ _ iv _ => ls.length - (intOf iv).toNat)
    case atStart => exact ⟨0, noB, [], rfl, rfl, hpos, rfl, by simp, OwnR.nil _ _ _, Below.refl _ _⟩
    case round =>
      obtain ⟨i, last, ps, rfl, rfl, hi⟩ := hrel
      have hblw := hi.blw
      have hown := hi.own
      have hit := hi.lt
      have hcnt := hi.cnt
      have hwl : w.heap.size < w1.heap.size := lt_of_heap g1
      have g2 := Below.heapAt hblw g1 hwl
      have hBx : Below w.heap.size w wr := hB1.trans (hblw.mono (Nat.le_of_lt hwl))
      obtain ⟨l, hl⟩ : ∃ l, ls[i]? = some l := ⟨_, List.getElem?_eq_getElem hit⟩
      have cl : wr.cell? ⟨g, i, none⟩ = some (.string l) := (World.cell?_of_block (w := w1) (a := ⟨g, i, none⟩) (hblw.block g hgl)).trans (HRD.out i l hl)
      have heq := hi.eqn
      rw [drop_here hl] at heq
      have hlsz := HSZ.out l (List.mem_of_getElem? hl)
      by_cases hlast : i + 1 = ls.length
      · have hd : ls.drop (i + 1) = [] := by rw [hlast, List.drop_length]
        rw [hd, readGo_last] at heq
        have hq : ((i : Int) == (ls.length : Int) - 1) = true := by simp; omega
        obtain ⟨c0, c1, f0, f1⟩ := err_cells g2
        by_cases hz : l.size = 0
        · rw [if_pos hz] at heq
          have HF : Hid (readB s = (ps.map Prod.fst, 0, 0)) := HE.out.trans heq
          have hl0' := size_zero hz
          subst hl0'
          clear hi heq hl g2
          go_wp2_with fail
          refine bodyPost_ret (v := .tuple #[u4, .agg #[.int .i64 0, .int .i64 0]]) (by simp [results, Tryz.results43, go_sem, c0, c1]) rfl ⟨u4, ps, by rw [HF.out], by rw [HF.out], ?_, ?_⟩
          · exact (((hown.store hwl).store hwl).low (Nat.le_of_lt hwl)).high (by simp [World.setCell])
          · exact (hBx.setCell (p := ⟨w.heap.size, 0, none⟩) (Nat.le_refl _) _).setCell (p := ⟨w.heap.size, 1, none⟩) (Nat.le_refl _) _
        · rw [if_neg hz] at heq
          have HF : Hid (readB s = ([], 4, (i : Int) + 1)) := HE.out.trans heq
          have hne := not_empty hz
          clear hi heq hl g2
          go_wp2_with fail
          refine bodyPost_ret (v := .tuple #[.slice none 0 0, .agg #[.int .i64 4, .int .i64 ((i : Int) + 1)]]) (by simp [results, Tryz.results43, go_sem, c0, c1]) rfl (RdRes.bad HF.out ?_)
          exact (hBx.setCell (p := ⟨w.heap.size, 0, none⟩) (Nat.le_refl _) _).setCell (p := ⟨w.heap.size, 1, none⟩) (Nat.le_refl _) _
      · have hq : ((i : Int) == (ls.length : Int) - 1) = false := beq_false_of_ne (by omega)
        obtain ⟨l', hl'⟩ : ∃ l', ls[i + 1]? = some l' := ⟨_, List.getElem?_eq_getElem (by omega)⟩
        rw [drop_here hl'] at heq
        have HQ := hide heq
        have HL' := hide hl'
        clear heq hi hl'
        go_wp2_with fail
        refine (rrow_any l wr (by omega)).mono ?_
        rintro e w2 (⟨hn, rfl, hb2⟩ | ⟨r, tv, hr, rfl, ho2, hb2⟩)
        · have HF : Hid (readB s = ([], 4, (i : Int) + 1)) := HE.out.trans (HQ.out.trans (readGo_form (ref_none hn)))
          have g3 := heap_old (Below.heapAt hb2 g2 (lt_of_heap g2)) (.cells #[.string ⟨#[]⟩, .slice none 0 0] 51)
          have hB3 : Below w.heap.size w (w2.alloc (.cells #[.string ⟨#[]⟩, .slice none 0 0] 51)) := (hBx.trans (hb2.mono hBx.size)).alloc (Nat.le_trans hBx.size hb2.size) _
          have g4 := heap_new w2 (.cells #[.string ⟨#[]⟩, .slice none 0 0] 51)
          go_wp2_with fail
          generalize w2.alloc (.cells #[.string ⟨#[]⟩, .slice none 0 0] 51) = w3 at g3 g4 hB3 ⊢
          refine (behind_any ⟨#[]⟩ (.slice none 0 0) [] last w3 (by decide) (by decide) ⟨none, 0, rfl, Nat.le_refl _, fun _ => rfl, fun h => absurd rfl h⟩ (fun x hx => by simp at hx)).mono ?_
          rintro e w4 ⟨rfl, hb4⟩
          generalize rowErr ⟨⟨#[]⟩, []⟩ last = er
          have g5 := Below.heapAt hb4 g3 (lt_of_heap g3)
          have hB4 : Below w.heap.size w w4 := hB3.trans (hb4.mono hB3.size)
          obtain ⟨c0, c1, f0, f1⟩ := err_cells g5
          clear hn hown g2 g3 g4 g5 cl
          go_wp2_with fail
          refine bodyPost_ret (v := .tuple #[.slice none 0 0, .agg #[.int .i64 4, .int .i64 ((i : Int) + 1)]]) (by simp [results, Tryz.results43, go_sem, c0, c1]) rfl (RdRes.bad HF.out ?_)
          exact (hB4.setCell (p := ⟨w.heap.size, 0, none⟩) (Nat.le_refl _) _).setCell (p := ⟨w.heap.size, 1, none⟩) (Nat.le_refl _) _
        · obtain ⟨ta, tc, rfl, _⟩ := own_form ho2
          obtain ⟨q1, q2, q3⟩ := refRow_fits hr
          have hrc := ref_cases hr last
          have g3 := heap_old (Below.heapAt hb2 g2 (lt_of_heap g2)) (.cells #[.string r.name, .slice ta r.to.length tc] 51)
          have hb3 : Below wr.heap.size wr (w2.alloc (.cells #[.string r.name, .slice ta r.to.length tc] 51)) := hb2.alloc hb2.size _
          have g4 := heap_new w2 (.cells #[.string r.name, .slice ta r.to.length tc] 51)
          have ho3 := ho2.alloc (.cells #[.string r.name, .slice ta r.to.length tc] 51)
          go_wp2_with fail
          generalize w2.alloc (.cells #[.string r.name, .slice ta r.to.length tc] 51) = w3 at g3 g4 hb3 ho3 ⊢
          refine (behind_any r.name (.slice ta r.to.length tc) r.to last w3 (by unfold maxLen; omega) (by unfold maxLen; omega) (strs_of_owns ho3) (fun x hx => by have := q3 x hx; unfold maxLen; omega)).mono ?_
          rintro e w4 ⟨rfl, hb4⟩
          have g5 := Below.heapAt hb4 g3 (lt_of_heap g3)
          have g6 := Below.heapAt hb4 g4 (lt_of_heap g4)
          have ho4 := own_below ho3 hb4
          have hb5 : Below wr.heap.size wr w4 := hb3.trans (hb4.mono hb3.size)
          have hB4 : Below w.heap.size w w4 := hBx.trans (hb5.mono hBx.size)
          have hbl4 : Below w1.heap.size w1 w4 := hblw.trans (hb5.mono hblw.size)
          have hown4 := hown.below hb5
          obtain ⟨c0, c1, f0, f1⟩ := err_cells g5
          obtain ⟨d0, d1, e0, e1⟩ := err_cells g6
          change _ ∨ _ at hrc
          have HO4 := hide ho4
          have HW4 := hide hown4
          clear ho2 ho3 ho4 hown hown4 hb2 hb3 hb4 g2 g3 g4 g5 g6 e0 e1 cl hr hb5
          have hbad : ∀ er : Int, er ≠ 0 → rowErr r last = er → readB s = ([], er, (i : Int) + 1) := by
            intro er hne he
            rcases hrc with ⟨h1, h2⟩ | ⟨h1, h2⟩
            · rw [h2] at he
              rw [← he]
              exact HE.out.trans (HQ.out.trans (readGo_bad h1 (by rw [he]; exact hne)))
            · rw [h2] at he
              rw [← he]
              exact HE.out.trans (HQ.out.trans (readGo_form h1))
          by_cases herr : rowErr r last = 0
          · have HN : Hid (readGo [] noB 0 ls = readGo ((ps ++ [(r, Value.slice ta r.to.length tc)]).map Prod.fst) r.name (i + 1) (ls.drop (i + 1))) := by
              unfold Hid
              rcases hrc with ⟨h1, h2⟩ | ⟨h1, h2⟩
              · rw [drop_here HL'.out, HQ.out, readGo_add h1 (by rw [← h2]; exact herr)]
                simp
              · rw [h2] at herr
                exact absurd herr (by decide)
            have herr' : rowErr ⟨r.name, r.to⟩ last = 0 := herr
            rw [herr']
            clear hrc hbad herr herr'
            go_wp2_with (first | (at_builtin; refine wpList_append_own _ rfl _ _ 40 rfl w1.heap.size 51 i0 (.agg #[.string ⟨#[]⟩, .slice none 0 0]) 2 40 Tryz.underlying40 hi0 hz0 hz1 hz2 rfl (by decide) _ _ _ rfl (HW4.out.row.alloc _) ⟨w4.heap.size, 0, none⟩ 1 1 [.string r.name, .slice ta r.to.length tc] rfl rfl (cells_new _ _ _ _ rfl) ?x6 ?x7 ?x8 ?x9 ?_) | go_in)
            case x6 => intro u hu; simp at hu; rcases hu with rfl | rfl <;> rfl
            case x7 => unfold maxLen; omega
            case x8 => omega
            case x9 => have := hbl4.size; simp; omega
            intro v' w5 hown5 hgrow5 _
            have hb6 : Below w1.heap.size w1 w5 := (hbl4.alloc hbl4.size _).grown hgrow5 (by have := hbl4.size; simp; omega) (fun j hj => (HW4.out.row.lt j hj).1)
            have hpu := HW4.out.push hblw.size HO4.out hown5 hgrow5
            clear hown5 hgrow5
            go_wp2_with fail
            go_round
            case rel => exact ⟨i + 1, r.name, ps ++ [(r, .slice ta r.to.length tc)], rfl, by go_num, by omega, HN.out, by rw [List.length_append]; show ps.length + 1 ≤ _; omega, hpu, hb6⟩
            case measure => simp [intOf]; omega
          · have HF := hide (hbad _ herr rfl)
            have heb : (rowErr r last == 0) = false := beq_false_of_ne herr
            have hen : rowErr ⟨r.name, r.to⟩ last = rowErr r last := rfl
            rw [hen]
            clear hrc hbad hen
            generalize rowErr r last = er at *
            go_wp2_with fail
            refine bodyPost_ret (v := .tuple #[.slice none 0 0, .agg #[.int .i64 er, .int .i64 ((i : Int) + 1)]]) (by simp [results, Tryz.results43, go_sem, c0, c1]) rfl (RdRes.bad HF.out ?_)
            exact (hB4.setCell (p := ⟨w.heap.size, 0, none⟩) (Nat.le_refl _) _).setCell (p := ⟨w.heap.size, 1, none⟩) (Nat.le_refl _) _

end Go.Proofs.YtiamlbhkiehilaaGreatDoor
