import Derived.Test.YtiamlbhkiehilaaGreatDoorBk02
import Derived.Laws.AppendOwnNone
import Derived.WalkSpells
import Derived.BigQuiet
import Derived.Deep.QuietTactic
import Derived.Test.YtiamlbhkiehilaaGreatDoorBk01
import Derived.Scope
import Derived.ScopeJumps
namespace Go.Proofs.YtiamlbhkiehilaaGreatDoor
open Go.RowKit Go.Maps

theorem bl_irrefl : ∀ x : List UInt8, Op.bytesLess x x = false
  | [] => rfl
  | a :: x => by simp [Op.bytesLess, bl_irrefl x]

theorem bl_trans : ∀ x y z : List UInt8, Op.bytesLess x y = true → Op.bytesLess y z = true → Op.bytesLess x z = true
  | [], _, [], _, h => by
    rename_i y _
    cases y <;> simp [Op.bytesLess] at h
  | [], _, _ :: _, _, _ => rfl
  | _ :: _, [], _, h, _ => by simp [Op.bytesLess] at h
  | _ :: _, _ :: _, [], _, h => by simp [Op.bytesLess] at h
  | a :: x, b :: y, c :: z, h1, h2 => by
    simp only [Op.bytesLess, Bool.or_eq_true, Bool.and_eq_true, decide_eq_true_eq, beq_iff_eq] at *
    rcases h1 with h1 | ⟨rfl, h1⟩
    · rcases h2 with h2 | ⟨rfl, _⟩
      · exact .inl (UInt8.lt_trans h1 h2)
      · exact .inl h1
    · rcases h2 with h2 | ⟨rfl, h2⟩
      · exact .inl h2
      · exact .inr ⟨rfl, bl_trans x y z h1 h2⟩

theorem bl_total : ∀ x y : List UInt8, Op.bytesLess x y = false → x ≠ y → Op.bytesLess y x = true
  | [], [], _, h => absurd rfl h
  | [], _ :: _, h, _ => by simp [Op.bytesLess] at h
  | _ :: _, [], _, _ => rfl
  | a :: x, b :: y, h1, h2 => by
    simp only [Op.bytesLess, Bool.or_eq_true, Bool.and_eq_true, Bool.or_eq_false_iff, decide_eq_true_eq, decide_eq_false_iff_not, beq_iff_eq] at *
    by_cases e : b = a
    · subst e
      refine .inr ⟨rfl, bl_total x y ?_ (fun e => h2 (by rw [e]))⟩
      simpa using h1.2
    · rcases UInt8.lt_or_lt_of_ne e with h | h
      · exact .inl h
      · exact absurd h h1.1

theorem lessS_irrefl (x : ByteArray) : lessS x x = false := bl_irrefl _
theorem lessS_trans {x y z : ByteArray} (h1 : lessS x y = true) (h2 : lessS y z = true) : lessS x z = true := bl_trans _ _ _ h1 h2
theorem bytes_inj {a b : ByteArray} (h : a.data.toList = b.data.toList) : a = b := by
  obtain ⟨⟨x⟩⟩ := a
  obtain ⟨⟨y⟩⟩ := b
  simp at h
  subst h
  rfl
theorem lessS_total {x y : ByteArray} (h1 : lessS x y = false) (h2 : x ≠ y) : lessS y x = true :=
  bl_total _ _ h1 (fun e => h2 (bytes_inj (by rwa [ByteArray.toList_eq, ByteArray.toList_eq] at e)))

/-- In order, each once. -/
def Asc (l : List ByteArray) : Prop := l.Pairwise fun x y => lessS x y = true

theorem insAt_lt {l : List ByteArray} {s : ByteArray} : ∀ x ∈ l.take (insAt l s), lessS x s = true := by
  induction l with
  | nil => intro x hx; simp at hx
  | cons y r ih =>
    intro x hx
    simp only [insAt] at hx
    split at hx
    · rename_i h
      rw [List.take_succ_cons, List.mem_cons] at hx
      rcases hx with rfl | hx
      · exact h
      · exact ih x hx
    · simp at hx

theorem insAt_ge {l : List ByteArray} {s : ByteArray} {x : ByteArray} (h : l[insAt l s]? = some x) : lessS x s = false := by
  induction l with
  | nil => simp at h
  | cons y r ih =>
    simp only [insAt] at h
    split at h
    · exact ih (by simpa using h)
    · rename_i hn
      simp at h
      subst h
      simpa using hn

theorem asc_mem {l : List ByteArray} {s : ByteArray} (h : Asc l) (hs : s ∈ l) : l[insAt l s]? = some s := by
  induction l with
  | nil => simp at hs
  | cons y r ih =>
    rw [Asc, List.pairwise_cons] at h
    rw [List.mem_cons] at hs
    simp only [insAt]
    by_cases e : s = y
    · subst e
      rw [if_neg (by rw [lessS_irrefl]; simp)]
      rfl
    · have hr : s ∈ r := hs.resolve_left e
      rw [if_pos (h.1 s hr)]
      simpa using ih h.2 hr

theorem asc_ins {l : List ByteArray} (s : ByteArray) (h : Asc l) : Asc (insN l s) := by
  unfold insN
  split
  · exact h
  · rename_i hne
    have hl : l.take (insAt l s) ++ l.drop (insAt l s) = l := List.take_append_drop _ _
    have h' := h
    rw [Asc, ← hl, List.pairwise_append] at h'
    obtain ⟨h1, h2, h3⟩ := h'
    rw [Asc, List.pairwise_append]
    have hs : ∀ y ∈ l.drop (insAt l s), lessS s y = true := by
      cases hd : l.drop (insAt l s) with
      | nil => intro y hy; simp at hy
      | cons z r =>
        have hz : l[insAt l s]? = some z := by
          have := congrArg (fun t => t[0]?) hd
          simpa using this
        have hzs : lessS s z = true := lessS_total (insAt_ge hz) (fun e => hne (by rw [hz, e]))
        rw [hd, List.pairwise_cons] at h2
        intro y hy
        rw [List.mem_cons] at hy
        rcases hy with rfl | hy
        · exact hzs
        · exact lessS_trans hzs (h2.1 y hy)
    refine ⟨h1, List.pairwise_cons.2 ⟨hs, h2⟩, fun a ha b hb => ?_⟩
    rw [List.mem_cons] at hb
    rcases hb with rfl | hb
    · exact insAt_lt a ha
    · exact h3 a ha b hb

theorem perm_ins {l : List ByteArray} {acc : List (List UInt8)} (s : ByteArray) (h : Asc l) (hp : (l.map (·.data.toList)).Perm acc) : ((insN l s).map (·.data.toList)).Perm (addN acc s.data.toList) := by
  have hm : s ∈ l ↔ s.data.toList ∈ acc := by
    rw [← hp.mem_iff, List.mem_map]
    constructor
    · intro hs; exact ⟨s, hs, rfl⟩
    · rintro ⟨y, hy, e⟩
      rwa [← bytes_inj e]
  unfold insN addN
  by_cases hs : s ∈ l
  · rw [if_pos (asc_mem h hs), if_pos (hm.1 hs)]
    exact hp
  · rw [if_neg (fun e => hs (List.mem_of_getElem? e)), if_neg (fun e => hs (hm.2 e)), List.map_append, List.map_cons]
    refine List.perm_middle.trans ?_
    rw [← List.map_append, List.take_append_drop]
    exact (List.Perm.cons _ hp).trans (List.perm_append_singleton _ _).symm

theorem perm_fold (l out : List ByteArray) (acc : List (List UInt8)) (h : Asc out) (hp : (out.map (·.data.toList)).Perm acc) :
    Asc (l.foldl insN out) ∧ ((l.foldl insN out).map (·.data.toList)).Perm ((l.map (·.data.toList)).foldl addN acc) := by
  induction l generalizing out acc with
  | nil => exact ⟨h, hp⟩
  | cons s r ih => exact ih _ _ (asc_ins s h) (perm_ins s h hp)

theorem asc_names (l : List ByteArray) : Asc (namesS l) := (perm_fold l [] [] List.Pairwise.nil (List.Perm.refl _)).1

theorem strs_names (fs : List Fct) : (strsOf fs).map (·.data.toList) = namesL fs := by
  induction fs with
  | nil => rfl
  | cons f r ih =>
    have e1 : strsOf (f :: r) = f.p :: f.q :: strsOf r := by simp [strsOf]
    have e2 : namesL (f :: r) = f.p.data.toList :: f.q.data.toList :: namesL r := by simp [namesL]
    rw [e1, e2, List.map_cons, List.map_cons, ih]

theorem names_length (fs : List Fct) : (namesS (strsOf fs)).length = dcount (namesL fs) := by
  have h := (perm_fold (strsOf fs) [] [] List.Pairwise.nil (List.Perm.refl _)).2.length_eq
  rw [List.length_map, strs_names] at h
  exact h

end Go.Proofs.YtiamlbhkiehilaaGreatDoor

namespace Go.Proofs.YtiamlbhkiehilaaGreatDoor
open Go.RowKit Go.Maps

theorem infoFact : (Tryz.prog.info? 48).map (fun i => (i.zero, i.size, i.bytes)) = some (some (.agg #[.int .i64 0, .string ⟨#[]⟩, .string ⟨#[]⟩]), 3, 40) := by kernel_rfl

/-- Facts as cells. -/
def cellsF (fs : List Fct) : List Value := fs.flatMap fun f => [.int .i64 f.k, .string f.p, .string f.q]

theorem cellsF_length (fs : List Fct) : (cellsF fs).length = fs.length * 3 := by
  induction fs with
  | nil => rfl
  | cons f r ih =>
    have : cellsF (f :: r) = .int .i64 f.k :: .string f.p :: .string f.q :: cellsF r := by simp [cellsF]
    rw [this]
    simp [ih]
    omega

theorem cellsF_get (fs : List Fct) (i : Nat) (k : Int) (p q : ByteArray) (h : fs[i]? = some ⟨k, p, q⟩) :
    (cellsF fs)[i * 3]? = some (.int .i64 k) ∧ (cellsF fs)[i * 3 + 1]? = some (.string p) ∧ (cellsF fs)[i * 3 + 2]? = some (.string q) := by
  induction fs generalizing i with
  | nil => simp at h
  | cons f r ih =>
    have e : cellsF (f :: r) = .int .i64 f.k :: .string f.p :: .string f.q :: cellsF r := by simp [cellsF]
    rw [e]
    cases i with
    | zero =>
      simp at h
      subst h
      exact ⟨rfl, rfl, rfl⟩
    | succ i =>
      have := ih i (by simpa using h)
      have e2 : (i + 1) * 3 = i * 3 + 1 + 1 + 1 := by omega
      rw [e2]
      simpa using this

theorem cellsF_one (fs : List Fct) : ∀ u ∈ cellsF fs, u.oneCell' = true := by
  intro u hu
  obtain ⟨f, _, hf⟩ := List.mem_flatMap.1 hu
  simp at hf
  rcases hf with rfl | rfl | rfl <;> rfl

theorem cellsF_snoc (fs : List Fct) (f : Fct) : cellsF (fs ++ [f]) = cellsF fs ++ [.int .i64 f.k, .string f.p, .string f.q] := by simp [cellsF]

theorem FactsAt.cells {b off : Nat} {fs : List Fct} {w : World} (h : FactsAt b off fs w) : ∀ j u, (cellsF fs)[j]? = some u → w.cell? ((⟨b, off, none⟩ : Addr).add j) = some u := by
  intro j u hj
  have hl := lt_of_getElem? hj
  rw [cellsF_length] at hl
  rw [Addr.add_lit]
  obtain ⟨⟨k, p, q⟩, hf⟩ : ∃ f, fs[j / 3]? = some f := ⟨_, List.getElem?_eq_getElem (by omega)⟩
  obtain ⟨c0, c1, c2⟩ := h _ _ _ _ hf
  obtain ⟨g0, g1, g2⟩ := cellsF_get fs _ _ _ _ hf
  have hm : j % 3 = 0 ∨ j % 3 = 1 ∨ j % 3 = 2 := by omega
  rcases hm with hm | hm | hm
  · have e : j = j / 3 * 3 := by omega
    generalize j / 3 = i at *
    subst e
    rw [← hj, g0]; exact c0
  · have e : j = j / 3 * 3 + 1 := by omega
    generalize j / 3 = i at *
    subst e
    rw [← hj, g1]; exact c1
  · have e : j = j / 3 * 3 + 2 := by omega
    generalize j / 3 = i at *
    subst e
    rw [← hj, g2]; exact c2

theorem facts_of_owns {w : World} {B : Nat} {v : Value} {fs : List Fct} (h : w.ownsRow B 48 3 v fs.length (cellsF fs)) : IsFacts v fs w := by
  rcases h.2 with ⟨rfl, h0⟩ | ⟨g, cap, cur, rfl, _, hg, hnc, _, hcs, htk⟩
  · refine ⟨none, 0, by rw [h0], by omega, fun _ => rfl, fun hne => ?_⟩
    exact absurd (List.length_eq_zero_iff.1 h0) hne
  · refine ⟨some ⟨g, 0, none⟩, cap, rfl, hnc, (fun h => by cases h), fun _ => ⟨g, 0, rfl, lt_of_heap hg, ?_⟩⟩
    intro i k p q hi
    have hl := lt_of_getElem? hi
    obtain ⟨g0, g1, g2⟩ := cellsF_get fs _ _ _ _ hi
    have hc : ∀ j u, j < fs.length * 3 → (cellsF fs)[j]? = some u → w.cell? ⟨g, 0 + j, none⟩ = some u := by
      intro j u hj hu
      rw [Nat.zero_add, cell_at hg]
      rw [← htk, List.getElem?_take, if_pos hj] at hu
      simpa using hu
    exact ⟨hc _ _ (by omega) g0, hc _ _ (by omega) g1, hc _ _ (by omega) g2⟩

set_option maxHeartbeats 400000 in
set_option maxRecDepth 100000 in
theorem added_name (v : Value) (k : Int) (p q : ByteArray) (w : World) (h : 12 < p.size ∨ 12 < q.size) (hp : p.size ≤ maxLen) (hq : q.size ≤ maxLen) :
    Calls Tryz.prog 52 #[v, .agg #[.int .i64 k, .string p, .string q]] w fun e w' => e = .returned (.int .i64 5) ∧ Below w.heap.size w w' := by
  unfold maxLen at hp hq
  by_cases h1 : 12 < p.size
  · go_enter Tryz.func52, Tryz.ntmps52
    go_wp2
    go_ret
    exact ⟨rfl, (Below.refl _ _).alloc (Nat.le_refl _) _⟩
  · have h2 : 12 < q.size := by omega
    go_enter Tryz.func52, Tryz.ntmps52
    go_wp2
    go_ret
    exact ⟨rfl, (Below.refl _ _).alloc (Nat.le_refl _) _⟩

set_option maxHeartbeats 400000 in
set_option maxRecDepth 100000 in
theorem added_many (ao : Option Addr) (n cap : Nat) (k : Int) (p q : ByteArray) (w : World) (h1 : p.size ≤ 12) (h2 : q.size ≤ 12) (hn : 120 ≤ n) (hm : n ≤ maxLen) :
    Calls Tryz.prog 52 #[.slice ao n cap, .agg #[.int .i64 k, .string p, .string q]] w fun e w' => e = .returned (.int .i64 6) ∧ Below w.heap.size w w' := by
  unfold maxLen at hm
  go_enter Tryz.func52, Tryz.ntmps52
  go_wp2
  go_ret
  exact ⟨rfl, (Below.refl _ _).alloc (Nat.le_refl _) _⟩

theorem cell_three_new (w : World) (a b c : Value) (t : TypeId) : ∀ j u, [a, b, c][j]? = some u → (w.alloc (.cells #[a, b, c] t)).cell? ((⟨w.heap.size, 0, none⟩ : Addr).add j) = some u := by
  intro j u hj
  rw [Addr.add_lit, Nat.zero_add, cell_at (heap_new w _)]
  simpa using hj

set_option maxHeartbeats 400000 in
set_option maxRecDepth 100000 in
theorem added_some (b off cap : Nat) (fs : List Fct) (k : Int) (p q : ByteArray) (w : World) (h1 : p.size ≤ 12) (h2 : q.size ≤ 12) (hn : fs.length < 120) (hb : b < w.heap.size) (hf : FactsAt b off fs w) :
    Calls Tryz.prog 52 #[.slice (some ⟨b, off, none⟩) fs.length cap, .agg #[.int .i64 k, .string p, .string q]] w fun e w' => e = .returned (.int .i64 (errOf fs ⟨k, p, q⟩)) ∧ Below w.heap.size w w' := by
  obtain ⟨i0, hi0, hz0, hz1, hz2⟩ := info_parts infoFact
  have hb0 : Below w.heap.size w (w.alloc (.cells #[.int .i64 k, .string p, .string q] 48)) := (Below.refl _ _).alloc (Nat.le_refl _) _
  have HF := hide (hf.below hb0 hb)
  clear hf
  go_enter Tryz.func52, Tryz.ntmps52
  go_wp2_with (first | (at_builtin; refine wpList_append_own _ rfl _ _ 36 rfl (w.heap.size + 1) 48 i0 (.agg #[.int .i64 0, .string ⟨#[]⟩, .string ⟨#[]⟩]) 3 40 Tryz.underlying36 hi0 hz0 hz1 hz2 rfl (by decide) _ _ _ rfl (World.ownsRow_nil _ _ _ _) ⟨b, off, none⟩ fs.length cap (cellsF fs) rfl (cellsF_length fs) (unhide HF).cells (cellsF_one fs) ?c3 ?c4 ?c5 ?_) | go_in)
  case c3 => unfold maxLen; omega
  case c4 => omega
  case c5 => simp
  intro v1 w1 hown1 hgrow1 _
  have g0 : w1.heap[w.heap.size]? = some (.cells #[.int .i64 k, .string p, .string q] 48 (0, 0)) := (hgrow1.block _ (by simp) (by simp [Value.ownBlock])).trans (heap_new _ _)
  have c0 : w1.cell? ⟨w.heap.size, 0, none⟩ = some (.int .i64 k) := by rw [cell_at g0]; rfl
  have c1 : w1.cell? ⟨w.heap.size, 1, none⟩ = some (.string p) := by rw [cell_at g0]; rfl
  have c2 : w1.cell? ⟨w.heap.size, 2, none⟩ = some (.string q) := by rw [cell_at g0]; rfl
  have hb1 : Below w.heap.size w w1 := hb0.grown hgrow1 (by simp) (fun j hj => by cases hj)
  have hz := lt_of_heap g0
  clear hgrow1 g0 HF hb0
  go_wp2_with (first | (at_builtin; refine wpList_append_own _ rfl _ _ 36 rfl (w.heap.size + 1) 48 i0 (.agg #[.int .i64 0, .string ⟨#[]⟩, .string ⟨#[]⟩]) 3 40 Tryz.underlying36 hi0 hz0 hz1 hz2 rfl (by decide) _ _ _ rfl (hown1.alloc _) ⟨w1.heap.size, 0, none⟩ 1 1 [.int .i64 k, .string p, .string q] rfl rfl (cell_three_new _ _ _ _ _) ?c6 ?c7 ?c8 ?c9 ?_) | go_in)
  case c6 => intro u hu; simp at hu; rcases hu with rfl | rfl | rfl <;> rfl
  case c7 => unfold maxLen; omega
  case c8 => omega
  case c9 => simp; omega
  intro v2 w2 hown2 hgrow2 _
  have hl2 : (fs ++ [⟨k, p, q⟩] : List Fct).length = fs.length + 1 := by simp
  have ho2 : w2.ownsRow (w.heap.size + 1) 48 3 v2 (fs ++ [⟨k, p, q⟩] : List Fct).length (cellsF (fs ++ [⟨k, p, q⟩])) := by
    rw [hl2, cellsF_snoc]
    exact hown2
  have hf2 := hide (facts_of_owns ho2)
  have hb2 : Below w.heap.size w w2 := (hb1.alloc (by omega) _).grown hgrow2 (by simp; omega) (fun j hj => Nat.le_of_succ_le (hown1.lt j hj).1)
  clear hown1 hown2 ho2 hgrow2 hb1
  go_wp2_with fail
  refine (names_any v2 (fs ++ [⟨k, p, q⟩]) _ (by omega) (unhide hf2)).mono ?_
  rintro e w3 ⟨v3, rfl, hN⟩
  have hnl := names_length (fs ++ [⟨k, p, q⟩])
  obtain ⟨ao, cp, hv3⟩ : ∃ ao cp, v3 = .slice ao (dcount (namesL (fs ++ [⟨k, p, q⟩]))) cp := by
    have ho := hN.own
    rw [hnl] at ho
    rcases ho.2 with ⟨h, h0⟩ | ⟨g, cap, cur, h, _⟩
    · exact ⟨none, 0, by rw [h, h0]⟩
    · exact ⟨_, _, h⟩
  have hshort : dcount (namesL (fs ++ [⟨k, p, q⟩])) ≤ 2 * (fs.length + 1) := by
    have := hN.short
    rw [hnl, hl2] at this
    exact this
  have hb3 : Below w.heap.size w w3 := hb2.trans (hN.blw.mono (by have := hb2.size; omega))
  have HE : Hid (errOf fs ⟨k, p, q⟩ = if 40 < dcount (namesL (fs ++ [⟨k, p, q⟩])) then 7 else 0) := by
    have hx : ¬ (12 < p.size ∨ 12 < q.size) := by omega
    show _ = _
    by_cases h3 : 40 < dcount (namesL (fs ++ [⟨k, p, q⟩]))
    · rw [errOf_full (f := ⟨k, p, q⟩) hx (by omega) h3, if_pos h3]
    · rw [errOf_ok (f := ⟨k, p, q⟩) hx (by omega) h3, if_neg h3]
  rw [hv3]
  clear hN hnl hv3 hf2 hb2 hl2
  generalize dcount (namesL (fs ++ [⟨k, p, q⟩])) = d at *
  go_wp2
  all_goals
    go_ret
    refine ⟨ret_int ?_, hb3⟩
    rw [HE.out]
    first | (rw [if_pos (by omega)]; done) | (rw [if_neg (by omega)]; done)

set_option maxHeartbeats 400000 in
set_option maxRecDepth 100000 in
theorem added_empty (a : Addr) (cap : Nat) (k : Int) (p q : ByteArray) (w : World) (h1 : p.size ≤ 12) (h2 : q.size ≤ 12) :
    Calls Tryz.prog 52 #[.slice (some a) 0 cap, .agg #[.int .i64 k, .string p, .string q]] w fun e w' => e = .returned (.int .i64 (errOf [] ⟨k, p, q⟩)) ∧ Below w.heap.size w w' := by
  obtain ⟨i0, hi0, hz0, hz1, hz2⟩ := info_parts infoFact
  have hb0 : Below w.heap.size w (w.alloc (.cells #[.int .i64 k, .string p, .string q] 48)) := (Below.refl _ _).alloc (Nat.le_refl _) _
  go_enter Tryz.func52, Tryz.ntmps52
  go_wp2_with (first | (at_builtin; refine wpList_append_own _ rfl (.tmp 20) (.tmp 21) 36 rfl (w.heap.size + 1) 48 i0 (.agg #[.int .i64 0, .string ⟨#[]⟩, .string ⟨#[]⟩]) 3 40 Tryz.underlying36 hi0 hz0 hz1 hz2 rfl (by decide) _ _ _ rfl (World.ownsRow_nil _ _ _ _) a 0 cap [] rfl rfl (fun j u h => by simp at h) (fun u h => by simp at h) ?c3 ?c4 ?c5 ?_) | go_in)
  case c3 => unfold maxLen; omega
  case c4 => omega
  case c5 => simp
  intro v1 w1 hown1 hgrow1 _
  have g0 : w1.heap[w.heap.size]? = some (.cells #[.int .i64 k, .string p, .string q] 48 (0, 0)) := (hgrow1.block _ (by simp) (by simp [Value.ownBlock])).trans (heap_new _ _)
  have c0 : w1.cell? ⟨w.heap.size, 0, none⟩ = some (.int .i64 k) := by rw [cell_at g0]; rfl
  have c1 : w1.cell? ⟨w.heap.size, 1, none⟩ = some (.string p) := by rw [cell_at g0]; rfl
  have c2 : w1.cell? ⟨w.heap.size, 2, none⟩ = some (.string q) := by rw [cell_at g0]; rfl
  have hb1 : Below w.heap.size w w1 := hb0.grown hgrow1 (by simp) (fun j hj => by cases hj)
  have hz := lt_of_heap g0
  clear hgrow1 g0 hb0
  go_wp2_with (first | (at_builtin; refine wpList_append_own _ rfl _ _ 36 rfl (w.heap.size + 1) 48 i0 (.agg #[.int .i64 0, .string ⟨#[]⟩, .string ⟨#[]⟩]) 3 40 Tryz.underlying36 hi0 hz0 hz1 hz2 rfl (by decide) _ _ _ rfl (hown1.alloc _) ⟨w1.heap.size, 0, none⟩ 1 1 [.int .i64 k, .string p, .string q] rfl rfl (cell_three_new _ _ _ _ _) ?c6 ?c7 ?c8 ?c9 ?_) | go_in)
  case c6 => intro u hu; simp at hu; rcases hu with rfl | rfl | rfl <;> rfl
  case c7 => unfold maxLen; omega
  case c8 => omega
  case c9 => simp; omega
  intro v2 w2 hown2 hgrow2 _
  have hl2 : ([⟨k, p, q⟩] : List Fct).length = 0 + 1 := by simp
  have ho2 : w2.ownsRow (w.heap.size + 1) 48 3 v2 ([⟨k, p, q⟩] : List Fct).length (cellsF ([⟨k, p, q⟩])) := by
    exact hown2
  have hf2 := hide (facts_of_owns ho2)
  have hb2 : Below w.heap.size w w2 := (hb1.alloc (by omega) _).grown hgrow2 (by simp; omega) (fun j hj => by cases hj)
  clear hown1 hown2 ho2 hgrow2 hb1
  go_wp2_with fail
  refine (names_any v2 ([⟨k, p, q⟩]) _ (by omega) (unhide hf2)).mono ?_
  rintro e w3 ⟨v3, rfl, hN⟩
  have hnl := names_length ([⟨k, p, q⟩])
  obtain ⟨ao, cp, hv3⟩ : ∃ ao cp, v3 = .slice ao (dcount (namesL ([⟨k, p, q⟩]))) cp := by
    have ho := hN.own
    rw [hnl] at ho
    rcases ho.2 with ⟨h, h0⟩ | ⟨g, cap, cur, h, _⟩
    · exact ⟨none, 0, by rw [h, h0]⟩
    · exact ⟨_, _, h⟩
  have hshort : dcount (namesL ([⟨k, p, q⟩])) ≤ 2 * (0 + 1) := by
    have := hN.short
    rw [hnl, hl2] at this
    exact this
  have hb3 : Below w.heap.size w w3 := hb2.trans (hN.blw.mono (by have := hb2.size; omega))
  have HE : Hid (errOf [] ⟨k, p, q⟩ = if 40 < dcount (namesL ([⟨k, p, q⟩])) then 7 else 0) := by
    have hx : ¬ (12 < p.size ∨ 12 < q.size) := by omega
    show _ = _
    by_cases h3 : 40 < dcount (namesL ([⟨k, p, q⟩]))
    · rw [errOf_full (f := ⟨k, p, q⟩) hx (by simp) h3, if_pos h3]
    · rw [errOf_ok (f := ⟨k, p, q⟩) hx (by simp) h3, if_neg h3]
  rw [hv3]
  clear hN hnl hv3 hf2 hb2 hl2
  generalize dcount (namesL ([⟨k, p, q⟩])) = d at *
  go_wp2
  all_goals
    go_ret
    refine ⟨ret_int ?_, hb3⟩
    rw [HE.out]
    first | (rw [if_pos (by omega)]; done) | (rw [if_neg (by omega)]; done)

set_option maxHeartbeats 400000 in
set_option maxRecDepth 100000 in
theorem added_nil (k : Int) (p q : ByteArray) (w : World) (h1 : p.size ≤ 12) (h2 : q.size ≤ 12) :
    Calls Tryz.prog 52 #[.slice none 0 0, .agg #[.int .i64 k, .string p, .string q]] w fun e w' => e = .returned (.int .i64 (errOf [] ⟨k, p, q⟩)) ∧ Below w.heap.size w w' := by
  obtain ⟨i0, hi0, hz0, hz1, hz2⟩ := info_parts infoFact
  have hb0 : Below w.heap.size w (w.alloc (.cells #[.int .i64 k, .string p, .string q] 48)) := (Below.refl _ _).alloc (Nat.le_refl _) _
  go_enter Tryz.func52, Tryz.ntmps52
  have hz : w.heap.size < (w.alloc (.cells #[.int .i64 k, .string p, .string q] 48)).heap.size := by simp
  have ho1 : (w.alloc (.cells #[.int .i64 k, .string p, .string q] 48)).ownsRow (w.heap.size + 1) 48 3 (.slice none 0 0) 0 [] := World.ownsRow_nil _ _ _ _
  go_wp2_with (first | (at_builtin; refine wpList_append_own_none rfl (.tmp 20) (.tmp 21) 36 rfl (w.heap.size + 1) 48 i0 3 Tryz.underlying36 hi0 _ _ _ rfl (World.ownsRow_nil _ _ _ _) rfl ?_) | (at_builtin; refine wpList_append_own _ rfl (.tmp 23) (.tmp 25) 36 rfl (w.heap.size + 1) 48 i0 (.agg #[.int .i64 0, .string ⟨#[]⟩, .string ⟨#[]⟩]) 3 40 Tryz.underlying36 hi0 hz0 hz1 hz2 rfl (by decide) (.slice none 0 0) 0 [] rfl (ho1.alloc _) ⟨(w.alloc (.cells #[.int .i64 k, .string p, .string q] 48)).heap.size, 0, none⟩ 1 1 [.int .i64 k, .string p, .string q] (by simp [Act.eval]) rfl (cell_three_new _ _ _ _ _) ?c6 ?c7 ?c8 ?c9 ?_) | go_in)
  case c6 => intro u hu; simp at hu; rcases hu with rfl | rfl | rfl <;> rfl
  case c7 => unfold maxLen; omega
  case c8 => omega
  case c9 => simp
  intro v2 w2 hown2 hgrow2 _
  have hl2 : ([⟨k, p, q⟩] : List Fct).length = 0 + 1 := by simp
  have ho2 : w2.ownsRow (w.heap.size + 1) 48 3 v2 ([⟨k, p, q⟩] : List Fct).length (cellsF ([⟨k, p, q⟩])) := by
    exact hown2
  have hf2 := hide (facts_of_owns ho2)
  have hb2 : Below w.heap.size w w2 := (hb0.alloc (by omega) _).grown hgrow2 (by simp; omega) (fun j hj => by cases hj)
  clear hown2 ho2 hgrow2 hb0 ho1
  go_wp2_with fail
  refine (names_any v2 ([⟨k, p, q⟩]) _ (by omega) (unhide hf2)).mono ?_
  rintro e w3 ⟨v3, rfl, hN⟩
  have hnl := names_length ([⟨k, p, q⟩])
  obtain ⟨ao, cp, hv3⟩ : ∃ ao cp, v3 = .slice ao (dcount (namesL ([⟨k, p, q⟩]))) cp := by
    have ho := hN.own
    rw [hnl] at ho
    rcases ho.2 with ⟨h, h0⟩ | ⟨g, cap, cur, h, _⟩
    · exact ⟨none, 0, by rw [h, h0]⟩
    · exact ⟨_, _, h⟩
  have hshort : dcount (namesL ([⟨k, p, q⟩])) ≤ 2 * (0 + 1) := by
    have := hN.short
    rw [hnl, hl2] at this
    exact this
  have hb3 : Below w.heap.size w w3 := hb2.trans (hN.blw.mono (by have := hb2.size; omega))
  have HE : Hid (errOf [] ⟨k, p, q⟩ = if 40 < dcount (namesL ([⟨k, p, q⟩])) then 7 else 0) := by
    have hx : ¬ (12 < p.size ∨ 12 < q.size) := by omega
    show _ = _
    by_cases h3 : 40 < dcount (namesL ([⟨k, p, q⟩]))
    · rw [errOf_full (f := ⟨k, p, q⟩) hx (by simp) h3, if_pos h3]
    · rw [errOf_ok (f := ⟨k, p, q⟩) hx (by simp) h3, if_neg h3]
  rw [hv3]
  clear hN hnl hv3 hf2 hb2 hl2
  generalize dcount (namesL ([⟨k, p, q⟩])) = d at *
  go_wp2
  all_goals
    go_ret
    refine ⟨ret_int ?_, hb3⟩
    rw [HE.out]
    first | (rw [if_pos (by omega)]; done) | (rw [if_neg (by omega)]; done)

theorem added_any (v : Value) (fs : List Fct) (k : Int) (p q : ByteArray) (w : World) (hlen : fs.length ≤ maxLen) (hv : IsFacts v fs w) (hp : p.size ≤ maxLen) (hq : q.size ≤ maxLen) :
    Calls Tryz.prog 52 #[v, .agg #[.int .i64 k, .string p, .string q]] w fun e w' => e = .returned (.int .i64 (errOf fs ⟨k, p, q⟩)) ∧ Below w.heap.size w w' := by
  by_cases h1 : 12 < p.size ∨ 12 < q.size
  · refine (added_name v k p q w h1 hp hq).mono ?_
    rintro e w' ⟨rfl, hb⟩
    exact ⟨by rw [errOf_name (f := ⟨k, p, q⟩) h1], hb⟩
  · obtain ⟨ao, cap, rfl, hc, hcn, h⟩ := hv
    by_cases h2 : 120 ≤ fs.length
    · refine (added_many ao fs.length cap k p q w (by omega) (by omega) h2 hlen).mono ?_
      rintro e w' ⟨rfl, hb⟩
      exact ⟨by rw [errOf_many (f := ⟨k, p, q⟩) h1 h2], hb⟩
    · by_cases hfs : fs = []
      · subst hfs
        cases ao with
        | none =>
          have := hcn rfl
          subst this
          exact added_nil k p q w (by omega) (by omega)
        | some a => exact added_empty a cap k p q w (by omega) (by omega)
      · obtain ⟨b, off, rfl, hb, hf⟩ := h hfs
        exact added_some b off cap fs k p q w (by omega) (by omega) (by omega) hb hf

end Go.Proofs.YtiamlbhkiehilaaGreatDoor

namespace Go.Proofs.YtiamlbhkiehilaaGreatDoor
open Go.RowKit

theorem lt_get {α : Type} {l : List α} {i : Nat} {x : α} (h : l[i]? = some x) : i < l.length := (List.getElem?_eq_some_iff.1 h).1

/-- A row: its name, and what it may point to. -/
structure RowD where
  name : ByteArray
  to : List ByteArray

/-- Not behind: Go's '<=' on texts. -/
def leqS (a b : ByteArray) : Bool := Op.bytesLess a.toList b.toList || a.toList == b.toList

theorem leqS_eq (a b : ByteArray) : leqS a b = !lessS b a := by
  unfold leqS
  cases h : lessS b a
  · cases h2 : Op.bytesLess a.toList b.toList
    · by_cases e : a = b
      · subst e; simp
      · have := lessS_total (x := a) (y := b) h2 e
        rw [h] at this
        cases this
    · simp
  · have h1 : lessS a b = false := by
      cases h1 : lessS a b
      · rfl
      · have := lessS_trans h h1
        rw [lessS_irrefl] at this
        cases this
    have h2 : (a.toList == b.toList) = false := by
      rw [beq_eq_false_iff_ne]
      intro e
      have e2 : a = b := bytes_inj (by rwa [ByteArray.toList_eq, ByteArray.toList_eq] at e)
      rw [e2, lessS_irrefl] at h
      cases h
    have h3 : Op.bytesLess a.toList b.toList = false := h1
    simp [h2, h3]

/-- Each behind the one ahead of it. -/
def ascB : List ByteArray → Bool
  | [] => true
  | [_] => true
  | a :: b :: r => lessS a b && ascB (b :: r)

theorem ascB_snoc (l : List ByteArray) (a b : ByteArray) : ascB (l ++ [a, b]) = (ascB (l ++ [a]) && lessS a b) := by
  induction l with
  | nil => simp [ascB]
  | cons x r ih =>
    cases r with
    | nil => simp [ascB]
    | cons y s =>
      have e1 : (x :: y :: s) ++ [a, b] = x :: y :: (s ++ [a, b]) := rfl
      have e2 : (x :: y :: s) ++ [a] = x :: y :: (s ++ [a]) := rfl
      rw [e1, e2]
      simp only [ascB]
      have ih' : ascB (y :: (s ++ [a, b])) = (ascB (y :: (s ++ [a])) && lessS a b) := ih
      rw [ih', Bool.and_assoc]

theorem ascB_take_false {l : List ByteArray} {k : Nat} (h : ascB (l.take k) = false) : ascB l = false := by
  induction l generalizing k with
  | nil => simp at h; rw [h] 
  | cons x r ih =>
    cases k with
    | zero => simp [ascB] at h
    | succ k =>
      cases r with
      | nil => simp [ascB] at h
      | cons y s =>
        cases k with
        | zero => simp [ascB] at h
        | succ k =>
          have e : (x :: y :: s).take (k + 1 + 1) = x :: y :: s.take k := rfl
          rw [e] at h
          simp only [ascB, Bool.and_eq_false_iff] at h ⊢
          rcases h with h | h
          · exact .inl h
          · exact .inr (ih (k := k + 1) h)

/-- The step from k to k + 1. -/
theorem ascB_step {l : List ByteArray} {k : Nat} {a b : ByteArray} (ha : l[k]? = some a) (hb : l[k + 1]? = some b) : ascB (l.take (k + 1 + 1)) = (ascB (l.take (k + 1)) && lessS a b) := by
  rw [take_next hb, take_next ha, List.append_assoc]
  exact ascB_snoc _ _ _

theorem ascB_one (l : List ByteArray) : ascB (l.take 1) = true := by
  cases l <;> rfl

def longS (s : ByteArray) : Bool := decide (12 < s.size)
def isN (s : ByteArray) : Bool := nameB s.data.toList
def rowNames (r : RowD) : Bool := isN r.name && r.to.all isN
def rowLong (r : RowD) : Bool := longS r.name || r.to.any longS

/-- The error of a row behind a name. -/
def rowErr (r : RowD) (ahead : ByteArray) : Int :=
  if rowNames r && ascB r.to then (if rowLong r then 5 else if leqS r.name ahead then 4 else 0) else 4

def toText : List ByteArray → List UInt8
  | [] => []
  | s :: r => 32 :: s.data.toList ++ toText r
def rowText (r : RowD) : List UInt8 := r.name.data.toList ++ 58 :: (toText r.to ++ [10])

theorem toText_snoc (l : List ByteArray) (s : ByteArray) : toText (l ++ [s]) = toText l ++ 32 :: s.data.toList := by
  induction l with
  | nil => simp [toText]
  | cons x r ih => simp [toText, ih]

def rowsText : List RowD → List UInt8
  | [] => []
  | r :: s => rowText r ++ rowsText s

theorem rowsText_snoc (l : List RowD) (r : RowD) : rowsText (l ++ [r]) = rowsText l ++ rowText r := by
  induction l with
  | nil => simp [rowsText]
  | cons x s ih => simp [rowsText, ih]

theorem rowsText_take {l : List RowD} {k : Nat} : (rowsText (l.take k)).length ≤ (rowsText l).length := by
  induction l generalizing k with
  | nil => simp
  | cons x r ih =>
    cases k with
    | zero => simp [rowsText]
    | succ k =>
      simp only [List.take_succ_cons, rowsText, List.length_append]
      have := ih (k := k)
      omega

/-- What Tell answers of the rest, behind rows that are right: the text, the error's kind, its line. -/
def tellGo (ahead : ByteArray) : Nat → List UInt8 → List RowD → List UInt8 × Int × Int
  | _, acc, [] => if 25000 < acc.length then ([], 2, 0) else (acc, 0, 0)
  | i, acc, r :: s => if rowErr r ahead = 0 then tellGo r.name (i + 1) (acc ++ rowText r) s else ([], rowErr r ahead, (i : Int) + 1)

def lastName : List RowD → ByteArray
  | [] => ⟨#[]⟩
  | [r] => r.name
  | _ :: r :: s => lastName (r :: s)

theorem lastName_snoc (l : List RowD) (r : RowD) : lastName (l ++ [r]) = r.name := by
  induction l with
  | nil => rfl
  | cons x s ih =>
    cases s with
    | nil => rfl
    | cons y t => exact ih

end Go.Proofs.YtiamlbhkiehilaaGreatDoor

namespace Go.Proofs.YtiamlbhkiehilaaGreatDoor
open Go.RowKit

/-- Texts in a row of memory. -/
def StrsAt (b off : Nat) (ss : List ByteArray) (w : World) : Prop := ∀ i s, ss[i]? = some s → w.cell? ⟨b, off + i, none⟩ = some (.string s)

/-- A slice of texts: whatever lies there where it is empty. -/
def IsStrs (v : Value) (ss : List ByteArray) (w : World) : Prop :=
  ∃ ao cap, v = .slice ao ss.length cap ∧ ss.length ≤ cap ∧ (ao = none → cap = 0) ∧ (ss ≠ [] → ∃ b off, ao = some ⟨b, off, none⟩ ∧ b < w.heap.size ∧ StrsAt b off ss w)

def fitsS (ss : List ByteArray) : Prop := ∀ s ∈ ss, s.size ≤ maxLen

theorem StrsAt.below {b off : Nat} {ss : List ByteArray} {w w' : World} (h : StrsAt b off ss w) {B : Nat} (hb : Below B w w') (hlt : b < B) : StrsAt b off ss w' :=
  fun i s hi => (hb.cell (p := ⟨b, _, none⟩) hlt).trans (h i s hi)

theorem IsStrs.below {v : Value} {ss : List ByteArray} {w w' : World} (h : IsStrs v ss w) (hb : Below w.heap.size w w') : IsStrs v ss w' := by
  obtain ⟨ao, cap, rfl, hc, hn, h⟩ := h
  refine ⟨ao, cap, rfl, hc, hn, fun hne => ?_⟩
  obtain ⟨b, off, rfl, hlt, hf⟩ := h hne
  exact ⟨b, off, rfl, Nat.lt_of_lt_of_le hlt hb.size, hf.below hb hlt⟩

theorem below_drewN {w w' : World} (h : Below w.heap.size w w') (n : Nat) : Below w.heap.size w (w'.drewN n) := ⟨h.os, h.tape, h.output, h.size, h.block⟩

theorem ne_nil_of_get {α : Type} {l : List α} {i : Nat} {x : α} (h : l[i]? = some x) : l ≠ [] := by
  rintro rfl
  simp at h

set_option maxHeartbeats 400000 in
theorem inOrder_any (v : Value) (ss : List ByteArray) (w : World) (hlen : ss.length ≤ maxLen) (hv : IsStrs v ss w) :
    Calls Tryz.prog 102 #[v] w fun e w' => e = .returned (.bool (ascB ss)) ∧ Below w.heap.size w w' := by
  obtain ⟨ao, cap, rfl, _, _, hne0⟩ := hv
  have hne := hide hne0
  clear hne0
  unfold maxLen at hlen
  go_enter Tryz.func102, Tryz.ntmps102
  go_wp2
  go_loopw [3] (fun i wr => ∃ j : Nat, i = .int .i64 ((j : Int) + 1) ∧ (j + 1 ≤ ss.length ∨ j = 0) ∧ Hid (ascB (ss.take (j + 1)) = true) ∧ Below w.heap.size w wr) (fun i _ => ss.length - (intOf i).toNat)
  case atStart => exact ⟨0, rfl, Or.inr rfl, ascB_one ss, Below.refl _ _⟩
  case round =>
    obtain ⟨j, rfl, hj, HA, hb⟩ := hrel
    by_cases hlt : j + 1 < ss.length
    · clear hj
      obtain ⟨a, ha⟩ : ∃ a, ss[j]? = some a := ⟨_, List.getElem?_eq_getElem (by omega)⟩
      obtain ⟨c, hc⟩ : ∃ c, ss[j + 1]? = some c := ⟨_, List.getElem?_eq_getElem hlt⟩
      obtain ⟨b, off, hao, hbw, hs⟩ := hne.out (ne_nil_of_get ha)
      subst hao
      have d0 := (hs.below hb hbw) j a ha
      have d1 := (hs.below hb hbw) (j + 1) c hc
      have hst := ascB_step ha hc
      rw [HA.out, Bool.true_and] at hst
      have hle := leqS_eq c a
      clear ha hc hs hne
      cases hl : lessS a c
      · rw [hl] at hst hle
        have HF := hide (ascB_take_false hst)
        have hq : (Op.bytesLess c.toList a.toList || c.toList == a.toList) = true := hle
        clear hst hle hl
        go_wp2
        go_quiet (fail)
        go_wp2
        go_ret
        exact ⟨by rw [HF.out]; rfl, below_drewN hb _⟩
      · rw [hl] at hst hle
        have HS := hide hst
        have hq : (Op.bytesLess c.toList a.toList || c.toList == a.toList) = false := hle
        clear hst hle hl
        go_wp2
        go_quiet (fail)
        go_wp2
        go_roundw
        case rel => exact ⟨j + 1, by go_num, Or.inl (by omega), HS.out, below_drewN hb _⟩
        case measure => simp [intOf]; omega
    · have HF : Hid (ascB ss = true) := by
        have h := HA.out
        rwa [List.take_of_length_le (by omega)] at h
      go_wp2
      go_ret
      exact ⟨by rw [HF.out]; rfl, hb⟩

end Go.Proofs.YtiamlbhkiehilaaGreatDoor

namespace Go.Proofs.YtiamlbhkiehilaaGreatDoor
open Go.RowKit Go.Maps

set_option maxRecDepth 100000 in
set_option maxHeartbeats 1000000 in
/-- Two lists of the same facts are found the same. -/
theorem sameFacts_any (va vb : Value) (fs : List Fct) (w : World) (hlen : fs.length ≤ 1000000) (ha : IsFacts va fs w) (hb : IsFacts vb fs w) :
    Calls Tryz.prog 40 #[va, vb] w fun e w' => e = .returned (.bool true) ∧ Below w.heap.size w w' := by
  obtain ⟨ao, ca, rfl, _, _, hfa⟩ := ha
  obtain ⟨bo, cb, rfl, _, _, hfb⟩ := hb
  have HA := hide hfa
  have HB := hide hfb
  clear hfa hfb
  have hq : ((fs.length : Int) != (fs.length : Int)) = false := by simp
  go_enter Tryz.func40, Tryz.ntmps40
  go_wp2
  go_loopw [5] (fun iv wr => ∃ i : Nat, iv = .int .i64 i ∧ i ≤ fs.length ∧ Below w.heap.size w wr) (fun iv _ => fs.length - (intOf iv).toNat)
  case atStart => exact ⟨0, rfl, Nat.zero_le _, Below.refl _ _⟩
  case round =>
    obtain ⟨i, rfl, hi, hbx⟩ := hrel
    by_cases hlt : i < fs.length
    · obtain ⟨⟨k, p, q⟩, hf⟩ : ∃ f, fs[i]? = some f := ⟨_, List.getElem?_eq_getElem hlt⟩
      have hne : fs ≠ [] := by intro e; rw [e] at hlt; simp at hlt
      obtain ⟨b1, o1, h1, hb1, hf1⟩ := HA.out hne
      obtain ⟨b2, o2, h2, hb2, hf2⟩ := HB.out hne
      rw [h1, h2]
      obtain ⟨a0, a1, a2⟩ := (hf1.below hbx hb1) i k p q hf
      obtain ⟨c0, c1, c2⟩ := (hf2.below hbx hb2) i k p q hf
      have hneq := neq_fact k p q
      have hgf := guardFact
      clear hf hf1 hf2
      go_wp2
      go_quiet (fail)
      go_wp2
      go_roundw
      case rel => exact ⟨i + 1, by go_num, hlt, below_drewN hbx _⟩
      case measure => simp [intOf]; omega
    · go_wp2
      go_ret
      exact ⟨rfl, hbx⟩

end Go.Proofs.YtiamlbhkiehilaaGreatDoor

namespace Go.Proofs.YtiamlbhkiehilaaGreatDoor

/-- As Q; by a goto to a label: what is promised of it. -/
def jumpsTo (J : Nat → Act → World → Prop) (Q : Exit → Act → World → Prop) : Exit → Act → World → Prop
  | .goto l, a, w => J l a w
  | e, a, w => Q e a w

/-- A scope with several labels: what holds at each jump, and a measure that each pass lowers. -/
theorem wp_scope_labels {P : Program} {a : Act} {w : World} {Q : Exit → Act → World → Prop} {c : Code} (J : Nat → Act → World → Prop) (μ : Nat → Act → World → Nat)
    (pass0 : ∀ l a w, J l a w → ∃ rest, findLabel c l = some (Code.skip.seq rest) ∧ rest.wp P (jumpsTo (fun l' a' w' => J l' a' w' ∧ μ l' a' w' < μ l a w) Q) a w)
    (first : (∀ l a w, J l a w → ∃ rest, findLabel c l = some (Code.skip.seq rest) ∧ rest.wp P (jumpsTo J Q) a w) → c.wp P (jumpsTo J Q) a w) : (Code.scope c).wp P Q a w := by
  have pass : ∀ l a w, J l a w → ∃ rest, findLabel c l = some rest ∧ rest.wp P (jumpsTo (fun l' a' w' => J l' a' w' ∧ μ l' a' w' < μ l a w) Q) a w := by
    intro l a w hJ
    obtain ⟨rest, hr, hw⟩ := pass0 l a w hJ
    exact ⟨_, hr, wp_seq (wp_skip hw)⟩
  have weak : ∀ l a w, J l a w → ∃ rest, findLabel c l = some (Code.skip.seq rest) ∧ rest.wp P (jumpsTo J Q) a w := by
    intro l a w hJ
    obtain ⟨rest, hr, hw⟩ := pass0 l a w hJ
    refine ⟨rest, hr, Code.wp_mono ?_ hw⟩
    intro e a' w' h
    cases e
    case goto => exact h.1
    all_goals exact h
  intro b k cs
  have fin : ∀ (n l : Nat) (a : Act) (w : World), μ l a w = n → J l a w → ∀ rest, findLabel c l = some rest → ∃ e a' w', Q e a' w' ∧ Arrives P (lone (b.at a (.code rest :: .inScope c :: k)) cs w) b k cs e a' w' := by
    intro n
    induction n using Nat.strongRecOn with
    | _ n ih =>
      intro l a w hn hJ rest hr
      obtain ⟨rest', hr', hp⟩ := pass l a w hJ
      have : rest' = rest := Option.some.inj (hr'.symm.trans hr)
      subst this
      obtain ⟨e, a₁, w₁, hq, harr⟩ := hp b (.inScope c :: k) cs
      cases e
      case goto l' =>
        obtain ⟨hJ', hlt⟩ := hq
        obtain ⟨r2, hr2, _⟩ := pass l' a₁ w₁ hJ'
        obtain ⟨e₂, a₂, w₂, hq₂, harr₂⟩ := ih _ (hn ▸ hlt) l' a₁ w₁ rfl hJ' r2 hr2
        exact ⟨e₂, a₂, w₂, hq₂, .of_steps (harr _ (by simp [gotoIn, hr2])) harr₂⟩
      case normal => exact ⟨_, _, _, hq, Steps.trans harr (.one step_inScope)⟩
      case exit id => exact ⟨_, _, _, hq, fun k' hk => harr k' (by simp [exitTo, hk])⟩
      all_goals exact ⟨_, _, _, hq, harr⟩
  obtain ⟨e, a₁, w₁, hq, harr⟩ := first weak b (.inScope c :: k) cs
  cases e
  case goto l' =>
    obtain ⟨r2, hr2, _⟩ := pass l' a₁ w₁ hq
    obtain ⟨e₂, a₂, w₂, hq₂, harr₂⟩ := fin _ l' a₁ w₁ rfl hq r2 hr2
    exact ⟨e₂, a₂, w₂, hq₂, .of_steps (.head step_scope (harr _ (by simp [gotoIn, hr2]))) harr₂⟩
  case normal => exact ⟨_, _, _, hq, .head step_scope (Steps.trans harr (.one step_inScope))⟩
  case exit id => exact ⟨_, _, _, hq, fun k' hk => .head step_scope (harr k' (by simp [exitTo, hk]))⟩
  all_goals exact ⟨_, _, _, hq, .of_steps (.one step_scope) harr⟩

end Go.Proofs.YtiamlbhkiehilaaGreatDoor
