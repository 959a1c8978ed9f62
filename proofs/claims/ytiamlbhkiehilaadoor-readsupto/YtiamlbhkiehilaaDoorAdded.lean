import Derived.Test.YtiamlbhkiehilaaDoorNames
import Derived.Test.YtiamlbhkiehilaaDoorSorted
import Derived.Laws.AppendOwnNone
namespace Go.Proofs.YtiamlbhkiehilaaDoor
open Go.RowKit Go.Maps

theorem infoFact : (Tryd.prog.info? 48).map (fun i => (i.zero, i.size, i.bytes)) = some (some (.agg #[.int .i64 0, .string ⟨#[]⟩, .string ⟨#[]⟩]), 3, 40) := by kernel_rfl

/-- Facts as cells. -/
def cellsF (fs : List Fct) : List Value := fs.flatMap fun f => [.int .i64 f.k, .string f.p, .string f.q]

theorem cellsF_length (fs : List Fct) : (cellsF fs).length = fs.length * 3 := by
  induction fs with
  | nil => rfl
  | cons f r ih =>
    have : cellsF (f :: r) = .int .i64 f.k :: .string f.p :: .string f.q :: cellsF r := by simp [cellsF]
    rw [this]
    simp [ih]
    omega

theorem cellsF_get (fs : List Fct) (i : Nat) (k : Int) (p q : ByteArray) (h : fs[i]? = some ⟨k, p, q⟩) :
    (cellsF fs)[i * 3]? = some (.int .i64 k) ∧ (cellsF fs)[i * 3 + 1]? = some (.string p) ∧ (cellsF fs)[i * 3 + 2]? = some (.string q) := by
  induction fs generalizing i with
  | nil => simp at h
  | cons f r ih =>
    have e : cellsF (f :: r) = .int .i64 f.k :: .string f.p :: .string f.q :: cellsF r := by simp [cellsF]
    rw [e]
    cases i with
    | zero =>
      simp at h
      subst h
      exact ⟨rfl, rfl, rfl⟩
    | succ i =>
      have := ih i (by simpa using h)
      have e2 : (i + 1) * 3 = i * 3 + 1 + 1 + 1 := by omega
      rw [e2]
      simpa using this

theorem cellsF_one (fs : List Fct) : ∀ u ∈ cellsF fs, u.oneCell' = true := by
  intro u hu
  obtain ⟨f, _, hf⟩ := List.mem_flatMap.1 hu
  simp at hf
  rcases hf with rfl | rfl | rfl <;> rfl

theorem cellsF_snoc (fs : List Fct) (f : Fct) : cellsF (fs ++ [f]) = cellsF fs ++ [.int .i64 f.k, .string f.p, .string f.q] := by simp [cellsF]

theorem FactsAt.cells {b off : Nat} {fs : List Fct} {w : World} (h : FactsAt b off fs w) : ∀ j u, (cellsF fs)[j]? = some u → w.cell? ((⟨b, off, none⟩ : Addr).add j) = some u := by
  intro j u hj
  have hl := lt_of_getElem? hj
  rw [cellsF_length] at hl
  rw [Addr.add_lit]
  obtain ⟨⟨k, p, q⟩, hf⟩ : ∃ f, fs[j / 3]? = some f := ⟨_, List.getElem?_eq_getElem (by omega)⟩
  obtain ⟨c0, c1, c2⟩ := h _ _ _ _ hf
  obtain ⟨g0, g1, g2⟩ := cellsF_get fs _ _ _ _ hf
  have hm : j % 3 = 0 ∨ j % 3 = 1 ∨ j % 3 = 2 := by omega
  rcases hm with hm | hm | hm
  · have e : j = j / 3 * 3 := by omega
    generalize j / 3 = i at *
    subst e
    rw [← hj, g0]; exact c0
  · have e : j = j / 3 * 3 + 1 := by omega
    generalize j / 3 = i at *
    subst e
    rw [← hj, g1]; exact c1
  · have e : j = j / 3 * 3 + 2 := by omega
    generalize j / 3 = i at *
    subst e
    rw [← hj, g2]; exact c2

theorem facts_of_owns {w : World} {B : Nat} {v : Value} {fs : List Fct} (h : w.ownsRow B 48 3 v fs.length (cellsF fs)) : IsFacts v fs w := by
  rcases h.2 with ⟨rfl, h0⟩ | ⟨g, cap, cur, rfl, _, hg, hnc, _, hcs, htk⟩
  · refine ⟨none, 0, by rw [h0], by omega, fun _ => rfl, fun hne => ?_⟩
    exact absurd (List.length_eq_zero_iff.1 h0) hne
  · refine ⟨some ⟨g, 0, none⟩, cap, rfl, hnc, (fun h => by cases h), fun _ => ⟨g, 0, rfl, lt_of_heap hg, ?_⟩⟩
    intro i k p q hi
    have hl := lt_of_getElem? hi
    obtain ⟨g0, g1, g2⟩ := cellsF_get fs _ _ _ _ hi
    have hc : ∀ j u, j < fs.length * 3 → (cellsF fs)[j]? = some u → w.cell? ⟨g, 0 + j, none⟩ = some u := by
      intro j u hj hu
      rw [Nat.zero_add, cell_at hg]
      rw [← htk, List.getElem?_take, if_pos hj] at hu
      simpa using hu
    exact ⟨hc _ _ (by omega) g0, hc _ _ (by omega) g1, hc _ _ (by omega) g2⟩

set_option maxHeartbeats 400000 in
set_option maxRecDepth 100000 in
theorem added_name (v : Value) (k : Int) (p q : ByteArray) (w : World) (h : 12 < p.size ∨ 12 < q.size) (hp : p.size ≤ maxLen) (hq : q.size ≤ maxLen) :
    Calls Tryd.prog 18 #[v, .agg #[.int .i64 k, .string p, .string q]] w fun e w' => e = .returned (.int .i64 5) ∧ Below w.heap.size w w' := by
  unfold maxLen at hp hq
  by_cases h1 : 12 < p.size
  · go_enter Tryd.func18, Tryd.ntmps18
    go_wp2
    go_ret
    exact ⟨rfl, (Below.refl _ _).alloc (Nat.le_refl _) _⟩
  · have h2 : 12 < q.size := by omega
    go_enter Tryd.func18, Tryd.ntmps18
    go_wp2
    go_ret
    exact ⟨rfl, (Below.refl _ _).alloc (Nat.le_refl _) _⟩

set_option maxHeartbeats 400000 in
set_option maxRecDepth 100000 in
theorem added_many (ao : Option Addr) (n cap : Nat) (k : Int) (p q : ByteArray) (w : World) (h1 : p.size ≤ 12) (h2 : q.size ≤ 12) (hn : 120 ≤ n) (hm : n ≤ maxLen) :
    Calls Tryd.prog 18 #[.slice ao n cap, .agg #[.int .i64 k, .string p, .string q]] w fun e w' => e = .returned (.int .i64 6) ∧ Below w.heap.size w w' := by
  unfold maxLen at hm
  go_enter Tryd.func18, Tryd.ntmps18
  go_wp2
  go_ret
  exact ⟨rfl, (Below.refl _ _).alloc (Nat.le_refl _) _⟩

theorem cell_three_new (w : World) (a b c : Value) (t : TypeId) : ∀ j u, [a, b, c][j]? = some u → (w.alloc (.cells #[a, b, c] t)).cell? ((⟨w.heap.size, 0, none⟩ : Addr).add j) = some u := by
  intro j u hj
  rw [Addr.add_lit, Nat.zero_add, cell_at (heap_new w _)]
  simpa using hj

set_option maxHeartbeats 400000 in
set_option maxRecDepth 100000 in
theorem added_some (b off cap : Nat) (fs : List Fct) (k : Int) (p q : ByteArray) (w : World) (h1 : p.size ≤ 12) (h2 : q.size ≤ 12) (hn : fs.length < 120) (hb : b < w.heap.size) (hf : FactsAt b off fs w) :
    Calls Tryd.prog 18 #[.slice (some ⟨b, off, none⟩) fs.length cap, .agg #[.int .i64 k, .string p, .string q]] w fun e w' => e = .returned (.int .i64 (errOf fs ⟨k, p, q⟩)) ∧ Below w.heap.size w w' := by
  obtain ⟨i0, hi0, hz0, hz1, hz2⟩ := info_parts infoFact
  have hb0 : Below w.heap.size w (w.alloc (.cells #[.int .i64 k, .string p, .string q] 48)) := (Below.refl _ _).alloc (Nat.le_refl _) _
  have HF := hide (hf.below hb0 hb)
  clear hf
  go_enter Tryd.func18, Tryd.ntmps18
  go_wp2_with (first | (at_builtin; refine wpList_append_own _ rfl _ _ 31 rfl (w.heap.size + 1) 48 i0 (.agg #[.int .i64 0, .string ⟨#[]⟩, .string ⟨#[]⟩]) 3 40 Tryd.underlying31 hi0 hz0 hz1 hz2 rfl (by decide) _ _ _ rfl (World.ownsRow_nil _ _ _ _) ⟨b, off, none⟩ fs.length cap (cellsF fs) rfl (cellsF_length fs) (unhide HF).cells (cellsF_one fs) ?c3 ?c4 ?c5 ?_) | go_in)
  case c3 => unfold maxLen; omega
  case c4 => omega
  case c5 => simp
  intro v1 w1 hown1 hgrow1 _
  have g0 : w1.heap[w.heap.size]? = some (.cells #[.int .i64 k, .string p, .string q] 48 (0, 0)) := (hgrow1.block _ (by simp) (by simp [Value.ownBlock])).trans (heap_new _ _)
  have c0 : w1.cell? ⟨w.heap.size, 0, none⟩ = some (.int .i64 k) := by rw [cell_at g0]; rfl
  have c1 : w1.cell? ⟨w.heap.size, 1, none⟩ = some (.string p) := by rw [cell_at g0]; rfl
  have c2 : w1.cell? ⟨w.heap.size, 2, none⟩ = some (.string q) := by rw [cell_at g0]; rfl
  have hb1 : Below w.heap.size w w1 := hb0.grown hgrow1 (by simp) (fun j hj => by cases hj)
  have hz := lt_of_heap g0
  clear hgrow1 g0 HF hb0
  go_wp2_with (first | (at_builtin; refine wpList_append_own _ rfl _ _ 31 rfl (w.heap.size + 1) 48 i0 (.agg #[.int .i64 0, .string ⟨#[]⟩, .string ⟨#[]⟩]) 3 40 Tryd.underlying31 hi0 hz0 hz1 hz2 rfl (by decide) _ _ _ rfl (hown1.alloc _) ⟨w1.heap.size, 0, none⟩ 1 1 [.int .i64 k, .string p, .string q] rfl rfl (cell_three_new _ _ _ _ _) ?c6 ?c7 ?c8 ?c9 ?_) | go_in)
  case c6 => intro u hu; simp at hu; rcases hu with rfl | rfl | rfl <;> rfl
  case c7 => unfold maxLen; omega
  case c8 => omega
  case c9 => simp; omega
  intro v2 w2 hown2 hgrow2 _
  have hl2 : (fs ++ [⟨k, p, q⟩] : List Fct).length = fs.length + 1 := by simp
  have ho2 : w2.ownsRow (w.heap.size + 1) 48 3 v2 (fs ++ [⟨k, p, q⟩] : List Fct).length (cellsF (fs ++ [⟨k, p, q⟩])) := by
    rw [hl2, cellsF_snoc]
    exact hown2
  have hf2 := hide (facts_of_owns ho2)
  have hb2 : Below w.heap.size w w2 := (hb1.alloc (by omega) _).grown hgrow2 (by simp; omega) (fun j hj => Nat.le_of_succ_le (hown1.lt j hj).1)
  clear hown1 hown2 ho2 hgrow2 hb1
  go_wp2_with fail
  refine (names_any v2 (fs ++ [⟨k, p, q⟩]) _ (by omega) (unhide hf2)).mono ?_
  rintro e w3 ⟨v3, rfl, hN⟩
  have hnl := names_length (fs ++ [⟨k, p, q⟩])
  obtain ⟨ao, cp, hv3⟩ : ∃ ao cp, v3 = .slice ao (dcount (namesL (fs ++ [⟨k, p, q⟩]))) cp := by
    have ho := hN.own
    rw [hnl] at ho
    rcases ho.2 with ⟨h, h0⟩ | ⟨g, cap, cur, h, _⟩
    · exact ⟨none, 0, by rw [h, h0]⟩
    · exact ⟨_, _, h⟩
  have hshort : dcount (namesL (fs ++ [⟨k, p, q⟩])) ≤ 2 * (fs.length + 1) := by
    have := hN.short
    rw [hnl, hl2] at this
    exact this
  have hb3 : Below w.heap.size w w3 := hb2.trans (hN.blw.mono (by have := hb2.size; omega))
  have HE : Hid (errOf fs ⟨k, p, q⟩ = if 40 < dcount (namesL (fs ++ [⟨k, p, q⟩])) then 7 else 0) := by
    have hx : ¬ (12 < p.size ∨ 12 < q.size) := by omega
    show _ = _
    by_cases h3 : 40 < dcount (namesL (fs ++ [⟨k, p, q⟩]))
    · rw [errOf_full (f := ⟨k, p, q⟩) hx (by omega) h3, if_pos h3]
    · rw [errOf_ok (f := ⟨k, p, q⟩) hx (by omega) h3, if_neg h3]
  rw [hv3]
  clear hN hnl hv3 hf2 hb2 hl2
  generalize dcount (namesL (fs ++ [⟨k, p, q⟩])) = d at *
  go_wp2
  all_goals
    go_ret
    refine ⟨ret_int ?_, hb3⟩
    rw [HE.out]
    first | (rw [if_pos (by omega)]; done) | (rw [if_neg (by omega)]; done)

set_option maxHeartbeats 400000 in
set_option maxRecDepth 100000 in
theorem added_empty (a : Addr) (cap : Nat) (k : Int) (p q : ByteArray) (w : World) (h1 : p.size ≤ 12) (h2 : q.size ≤ 12) :
    Calls Tryd.prog 18 #[.slice (some a) 0 cap, .agg #[.int .i64 k, .string p, .string q]] w fun e w' => e = .returned (.int .i64 (errOf [] ⟨k, p, q⟩)) ∧ Below w.heap.size w w' := by
  obtain ⟨i0, hi0, hz0, hz1, hz2⟩ := info_parts infoFact
  have hb0 : Below w.heap.size w (w.alloc (.cells #[.int .i64 k, .string p, .string q] 48)) := (Below.refl _ _).alloc (Nat.le_refl _) _
  go_enter Tryd.func18, Tryd.ntmps18
  go_wp2_with (first | (at_builtin; refine wpList_append_own _ rfl (.tmp 20) (.tmp 21) 31 rfl (w.heap.size + 1) 48 i0 (.agg #[.int .i64 0, .string ⟨#[]⟩, .string ⟨#[]⟩]) 3 40 Tryd.underlying31 hi0 hz0 hz1 hz2 rfl (by decide) _ _ _ rfl (World.ownsRow_nil _ _ _ _) a 0 cap [] rfl rfl (fun j u h => by simp at h) (fun u h => by simp at h) ?c3 ?c4 ?c5 ?_) | go_in)
  case c3 => unfold maxLen; omega
  case c4 => omega
  case c5 => simp
  intro v1 w1 hown1 hgrow1 _
  have g0 : w1.heap[w.heap.size]? = some (.cells #[.int .i64 k, .string p, .string q] 48 (0, 0)) := (hgrow1.block _ (by simp) (by simp [Value.ownBlock])).trans (heap_new _ _)
  have c0 : w1.cell? ⟨w.heap.size, 0, none⟩ = some (.int .i64 k) := by rw [cell_at g0]; rfl
  have c1 : w1.cell? ⟨w.heap.size, 1, none⟩ = some (.string p) := by rw [cell_at g0]; rfl
  have c2 : w1.cell? ⟨w.heap.size, 2, none⟩ = some (.string q) := by rw [cell_at g0]; rfl
  have hb1 : Below w.heap.size w w1 := hb0.grown hgrow1 (by simp) (fun j hj => by cases hj)
  have hz := lt_of_heap g0
  clear hgrow1 g0 hb0
  go_wp2_with (first | (at_builtin; refine wpList_append_own _ rfl _ _ 31 rfl (w.heap.size + 1) 48 i0 (.agg #[.int .i64 0, .string ⟨#[]⟩, .string ⟨#[]⟩]) 3 40 Tryd.underlying31 hi0 hz0 hz1 hz2 rfl (by decide) _ _ _ rfl (hown1.alloc _) ⟨w1.heap.size, 0, none⟩ 1 1 [.int .i64 k, .string p, .string q] rfl rfl (cell_three_new _ _ _ _ _) ?c6 ?c7 ?c8 ?c9 ?_) | go_in)
  case c6 => intro u hu; simp at hu; rcases hu with rfl | rfl | rfl <;> rfl
  case c7 => unfold maxLen; omega
  case c8 => omega
  case c9 => simp; omega
  intro v2 w2 hown2 hgrow2 _
  have hl2 : ([⟨k, p, q⟩] : List Fct).length = 0 + 1 := by simp
  have ho2 : w2.ownsRow (w.heap.size + 1) 48 3 v2 ([⟨k, p, q⟩] : List Fct).length (cellsF ([⟨k, p, q⟩])) := by
    exact hown2
  have hf2 := hide (facts_of_owns ho2)
  have hb2 : Below w.heap.size w w2 := (hb1.alloc (by omega) _).grown hgrow2 (by simp; omega) (fun j hj => by cases hj)
  clear hown1 hown2 ho2 hgrow2 hb1
  go_wp2_with fail
  refine (names_any v2 ([⟨k, p, q⟩]) _ (by omega) (unhide hf2)).mono ?_
  rintro e w3 ⟨v3, rfl, hN⟩
  have hnl := names_length ([⟨k, p, q⟩])
  obtain ⟨ao, cp, hv3⟩ : ∃ ao cp, v3 = .slice ao (dcount (namesL ([⟨k, p, q⟩]))) cp := by
    have ho := hN.own
    rw [hnl] at ho
    rcases ho.2 with ⟨h, h0⟩ | ⟨g, cap, cur, h, _⟩
    · exact ⟨none, 0, by rw [h, h0]⟩
    · exact ⟨_, _, h⟩
  have hshort : dcount (namesL ([⟨k, p, q⟩])) ≤ 2 * (0 + 1) := by
    have := hN.short
    rw [hnl, hl2] at this
    exact this
  have hb3 : Below w.heap.size w w3 := hb2.trans (hN.blw.mono (by have := hb2.size; omega))
  have HE : Hid (errOf [] ⟨k, p, q⟩ = if 40 < dcount (namesL ([⟨k, p, q⟩])) then 7 else 0) := by
    have hx : ¬ (12 < p.size ∨ 12 < q.size) := by omega
    show _ = _
    by_cases h3 : 40 < dcount (namesL ([⟨k, p, q⟩]))
    · rw [errOf_full (f := ⟨k, p, q⟩) hx (by simp) h3, if_pos h3]
    · rw [errOf_ok (f := ⟨k, p, q⟩) hx (by simp) h3, if_neg h3]
  rw [hv3]
  clear hN hnl hv3 hf2 hb2 hl2
  generalize dcount (namesL ([⟨k, p, q⟩])) = d at *
  go_wp2
  all_goals
    go_ret
    refine ⟨ret_int ?_, hb3⟩
    rw [HE.out]
    first | (rw [if_pos (by omega)]; done) | (rw [if_neg (by omega)]; done)

set_option maxHeartbeats 400000 in
set_option maxRecDepth 100000 in
theorem added_nil (k : Int) (p q : ByteArray) (w : World) (h1 : p.size ≤ 12) (h2 : q.size ≤ 12) :
    Calls Tryd.prog 18 #[.slice none 0 0, .agg #[.int .i64 k, .string p, .string q]] w fun e w' => e = .returned (.int .i64 (errOf [] ⟨k, p, q⟩)) ∧ Below w.heap.size w w' := by
  obtain ⟨i0, hi0, hz0, hz1, hz2⟩ := info_parts infoFact
  have hb0 : Below w.heap.size w (w.alloc (.cells #[.int .i64 k, .string p, .string q] 48)) := (Below.refl _ _).alloc (Nat.le_refl _) _
  go_enter Tryd.func18, Tryd.ntmps18
  have hz : w.heap.size < (w.alloc (.cells #[.int .i64 k, .string p, .string q] 48)).heap.size := by simp
  have ho1 : (w.alloc (.cells #[.int .i64 k, .string p, .string q] 48)).ownsRow (w.heap.size + 1) 48 3 (.slice none 0 0) 0 [] := World.ownsRow_nil _ _ _ _
  go_wp2_with (first | (at_builtin; refine wpList_append_own_none rfl (.tmp 20) (.tmp 21) 31 rfl (w.heap.size + 1) 48 i0 3 Tryd.underlying31 hi0 _ _ _ rfl (World.ownsRow_nil _ _ _ _) rfl ?_) | (at_builtin; refine wpList_append_own _ rfl (.tmp 23) (.tmp 25) 31 rfl (w.heap.size + 1) 48 i0 (.agg #[.int .i64 0, .string ⟨#[]⟩, .string ⟨#[]⟩]) 3 40 Tryd.underlying31 hi0 hz0 hz1 hz2 rfl (by decide) (.slice none 0 0) 0 [] rfl (ho1.alloc _) ⟨(w.alloc (.cells #[.int .i64 k, .string p, .string q] 48)).heap.size, 0, none⟩ 1 1 [.int .i64 k, .string p, .string q] (by simp [Act.eval]) rfl (cell_three_new _ _ _ _ _) ?c6 ?c7 ?c8 ?c9 ?_) | go_in)
  case c6 => intro u hu; simp at hu; rcases hu with rfl | rfl | rfl <;> rfl
  case c7 => unfold maxLen; omega
  case c8 => omega
  case c9 => simp
  intro v2 w2 hown2 hgrow2 _
  have hl2 : ([⟨k, p, q⟩] : List Fct).length = 0 + 1 := by simp
  have ho2 : w2.ownsRow (w.heap.size + 1) 48 3 v2 ([⟨k, p, q⟩] : List Fct).length (cellsF ([⟨k, p, q⟩])) := by
    exact hown2
  have hf2 := hide (facts_of_owns ho2)
  have hb2 : Below w.heap.size w w2 := (hb0.alloc (by omega) _).grown hgrow2 (by simp; omega) (fun j hj => by cases hj)
  clear hown2 ho2 hgrow2 hb0 ho1
  go_wp2_with fail
  refine (names_any v2 ([⟨k, p, q⟩]) _ (by omega) (unhide hf2)).mono ?_
  rintro e w3 ⟨v3, rfl, hN⟩
  have hnl := names_length ([⟨k, p, q⟩])
  obtain ⟨ao, cp, hv3⟩ : ∃ ao cp, v3 = .slice ao (dcount (namesL ([⟨k, p, q⟩]))) cp := by
    have ho := hN.own
    rw [hnl] at ho
    rcases ho.2 with ⟨h, h0⟩ | ⟨g, cap, cur, h, _⟩
    · exact ⟨none, 0, by rw [h, h0]⟩
    · exact ⟨_, _, h⟩
  have hshort : dcount (namesL ([⟨k, p, q⟩])) ≤ 2 * (0 + 1) := by
    have := hN.short
    rw [hnl, hl2] at this
    exact this
  have hb3 : Below w.heap.size w w3 := hb2.trans (hN.blw.mono (by have := hb2.size; omega))
  have HE : Hid (errOf [] ⟨k, p, q⟩ = if 40 < dcount (namesL ([⟨k, p, q⟩])) then 7 else 0) := by
    have hx : ¬ (12 < p.size ∨ 12 < q.size) := by omega
    show _ = _
    by_cases h3 : 40 < dcount (namesL ([⟨k, p, q⟩]))
    · rw [errOf_full (f := ⟨k, p, q⟩) hx (by simp) h3, if_pos h3]
    · rw [errOf_ok (f := ⟨k, p, q⟩) hx (by simp) h3, if_neg h3]
  rw [hv3]
  clear hN hnl hv3 hf2 hb2 hl2
  generalize dcount (namesL ([⟨k, p, q⟩])) = d at *
  go_wp2
  all_goals
    go_ret
    refine ⟨ret_int ?_, hb3⟩
    rw [HE.out]
    first | (rw [if_pos (by omega)]; done) | (rw [if_neg (by omega)]; done)

theorem added_any (v : Value) (fs : List Fct) (k : Int) (p q : ByteArray) (w : World) (hlen : fs.length ≤ maxLen) (hv : IsFacts v fs w) (hp : p.size ≤ maxLen) (hq : q.size ≤ maxLen) :
    Calls Tryd.prog 18 #[v, .agg #[.int .i64 k, .string p, .string q]] w fun e w' => e = .returned (.int .i64 (errOf fs ⟨k, p, q⟩)) ∧ Below w.heap.size w w' := by
  by_cases h1 : 12 < p.size ∨ 12 < q.size
  · refine (added_name v k p q w h1 hp hq).mono ?_
    rintro e w' ⟨rfl, hb⟩
    exact ⟨by rw [errOf_name (f := ⟨k, p, q⟩) h1], hb⟩
  · obtain ⟨ao, cap, rfl, hc, hcn, h⟩ := hv
    by_cases h2 : 120 ≤ fs.length
    · refine (added_many ao fs.length cap k p q w (by omega) (by omega) h2 hlen).mono ?_
      rintro e w' ⟨rfl, hb⟩
      exact ⟨by rw [errOf_many (f := ⟨k, p, q⟩) h1 h2], hb⟩
    · by_cases hfs : fs = []
      · subst hfs
        cases ao with
        | none =>
          have := hcn rfl
          subst this
          exact added_nil k p q w (by omega) (by omega)
        | some a => exact added_empty a cap k p q w (by omega) (by omega)
      · obtain ⟨b, off, rfl, hb, hf⟩ := h hfs
        exact added_some b off cap fs k p q w (by omega) (by omega) (by omega) hb hf

end Go.Proofs.YtiamlbhkiehilaaDoor
