import Derived.Test.YtiamlbhkiehilaaDoorStays
import Derived.Test.YtiamlbhkiehilaaDoorMarks
namespace Go.Proofs.YtiamlbhkiehilaaDoor
open Go.RowKit Go.Maps

theorem infoFacts : (Tryd.prog.info? 31).map (fun i => (i.zero, i.size, i.bytes)) = some (some (.slice none 0 0), 1, 24) := by kernel_rfl

/-- The cells of the fact that the book's owner writes into its i-th list. -/
def markC (i : Nat) : List Value := [.int .i64 0, .string (markB (i / 4 * 4)), .string noB]

theorem cellsF_rep (n i : Nat) : cellsF (List.replicate n (markF i)) = repC n (markC i) := by
  induction n with
  | zero => rfl
  | succ n ih => rw [List.replicate_succ, repC_succ, ← ih]; simp [cellsF, markF, markC]

/-- The law's book of lists of facts. -/
structure BookO (B kb : Nat) (ls : List Value) (V : Value) (w : World) : Prop where
  le : B ≤ kb
  head : w.heap[kb]? = some (.cells #[V, .slice none 0 0, .slice none 0 0] 28 (0, 0))
  row : w.ownsRow B 31 1 V ls.length ls
  lists : ∀ (i : Nat) v, ls[i]? = some v → ∃ n, n ≤ 1000 ∧ w.ownsRow B 48 3 v n (repC n (markC i))

theorem BookO.at {B kb : Nat} {ls : List Value} {V : Value} {w : World} (h : BookO B kb ls V w) : BookAt kb ls V w := by
  refine ⟨h.head, ?_, fun i v hv => ?_⟩
  · rcases h.row.2 with ⟨rfl, h0⟩ | ⟨g, cap, cur, rfl, _, hg, _, _, _, htk⟩
    · exact ⟨none, 0, by rw [h0], fun hne => absurd (List.length_eq_zero_iff.1 h0) hne⟩
    · refine ⟨_, cap, rfl, fun _ => ⟨g, rfl, lt_of_heap hg, fun i v hv => ?_⟩⟩
      have hl := lt_of_getElem? hv
      rw [cell_at hg]
      rw [← htk, List.getElem?_take, if_pos (by omega)] at hv
      simpa using hv
  · obtain ⟨n, hn, ho⟩ := h.lists i v hv
    refine ⟨n, hn, ?_⟩
    rw [← cellsF_rep] at ho
    exact facts_of_owns (fs := List.replicate n (markF i)) (by rw [List.length_replicate]; exact ho)

theorem own_set {w : World} {B : Nat} {e : TypeId} {size g n cap : Nat} {xs : List Value} (h : w.ownsRow B e size (.slice (some ⟨g, 0, none⟩) n cap) n xs) (j : Nat) (v : Value) :
    (w.setCell ⟨g, j, none⟩ v).ownsRow B e size (.slice (some ⟨g, 0, none⟩) n cap) n (xs.set j v) := by
  refine ⟨by rw [List.length_set]; exact h.1, ?_⟩
  rcases h.2 with ⟨h1, _⟩ | ⟨g', cap', cur, h1, hB, hg, hnc, hcm, hcs, htk⟩
  · cases h1
  · injection h1 with e1 _ e3
    injection e1 with e1
    injection e1 with e1
    subst e1 e3
    refine .inr ⟨g, cap, _, rfl, hB, heap_set hg j v, hnc, hcm, by simpa using hcs, ?_⟩
    rw [Array.toList_setIfInBounds, List.take_set, htk]

theorem own_cell {w : World} {B : Nat} {e : TypeId} {size g n cap : Nat} {xs : List Value} (h : w.ownsRow B e size (.slice (some ⟨g, 0, none⟩) n cap) n xs) :
    (∀ (j : Nat) u, xs[j]? = some u → w.cell? ⟨g, j, none⟩ = some u) ∧ (∀ o, w.frozen? ⟨g, o, none⟩ = false) := by
  rcases h.2 with ⟨h1, _⟩ | ⟨g', cap', cur, h1, hB, hg, hnc, hcm, hcs, htk⟩
  · cases h1
  · injection h1 with e1 _ e3
    injection e1 with e1
    injection e1 with e1
    subst e1 e3
    refine ⟨fun j u hu => ?_, fun o => frozen_at hg o⟩
    have hl := lt_of_getElem? hu
    rw [h.1] at hl
    rw [cell_at hg]
    rw [← htk, List.getElem?_take, if_pos hl] at hu
    simpa using hu

/-- Whatever lies in an owned row: nothing, or a block. -/
theorem own_form {w : World} {B : Nat} {e : TypeId} {size n : Nat} {v : Value} {xs : List Value} (h : w.ownsRow B e size v n xs) :
    ∃ ao cap, v = .slice ao n cap ∧ (0 < n → ∃ g, ao = some ⟨g, 0, none⟩) := by
  rcases h.2 with ⟨rfl, rfl⟩ | ⟨g, cap, cur, rfl, _⟩
  · exact ⟨none, 0, rfl, fun h => absurd h (Nat.lt_irrefl _)⟩
  · exact ⟨_, cap, rfl, fun _ => ⟨g, rfl⟩⟩

theorem set3L (cs : List Value) (x y z a b c : Value) (r : List Value) : (((cs ++ x :: y :: z :: r).set cs.length a).set (cs.length + 1) b).set (cs.length + 2) c = cs ++ a :: b :: c :: r := by
  simp

theorem set3F (A B : List Fct) (f : Fct) (k : Int) (p q : ByteArray) : (((cellsF (A ++ f :: B)).set (A.length * 3) (.int .i64 k)).set (A.length * 3 + 1) (.string p)).set (A.length * 3 + 2) (.string q) = cellsF (A ++ ⟨k, p, q⟩ :: B) := by
  have e : ∀ f : Fct, cellsF (A ++ f :: B) = cellsF A ++ .int .i64 f.k :: .string f.p :: .string f.q :: cellsF B := fun f => by simp [cellsF]
  have h := set3L (cellsF A) (.int .i64 f.k) (.string f.p) (.string f.q) (.int .i64 k) (.string p) (.string q) (cellsF B)
  rw [cellsF_length] at h
  rw [e, e]
  exact h

/-- An owned row stays while other blocks are written. -/
theorem own_kbL {w w' : World} {B : Nat} {e : TypeId} {size n : Nat} {v : Value} {xs : List Value} {L : List Nat} (h : w.ownsRow B e size v n xs) (hk : Kb L w w') (hne : ∀ g ∈ L, v.ownBlock ≠ some g) : w'.ownsRow B e size v n xs := by
  refine ⟨h.1, ?_⟩
  rcases h.2 with h | ⟨g, cap, cur, rfl, h2, h3, h4⟩
  · exact .inl h
  · exact .inr ⟨g, cap, cur, rfl, h2, hk.heap h3 (fun hm => hne g hm rfl), h4⟩

theorem cells_new (w : World) (cs : Array Value) (T : TypeId) (xs : List Value) (h : cs.toList = xs) : ∀ j u, xs[j]? = some u → (w.alloc (.cells cs T)).cell? ((⟨w.heap.size, 0, none⟩ : Addr).add j) = some u := by
  intro j u hu
  rw [Addr.add_lit, cell_at (heap_new w (.cells cs T)), Nat.zero_add]
  rw [← h] at hu
  simpa using hu

/-- Blocks of an owned row of another kind are others. -/
theorem own_ne {w : World} {B B' : Nat} {e e' : TypeId} {size size' : Nat} {v v' : Value} {n n' : Nat} {xs xs' : List Value} (h : w.ownsRow B e size v n xs) (h' : w.ownsRow B' e' size' v' n' xs') (hne : e ≠ e') : v.ownBlock = none ∨ v.ownBlock ≠ v'.ownBlock := by
  rcases h.2 with ⟨rfl, _⟩ | ⟨g, cap, cur, rfl, _, hg, _⟩
  · exact .inl rfl
  · refine .inr fun heq => ?_
    rcases h'.2 with ⟨rfl, _⟩ | ⟨g', cap', cur', rfl, _, hg', _⟩
    · cases heq
    · simp only [Value.ownBlock, Option.some.injEq] at heq
      rw [heq, hg'] at hg
      injection hg with h1
      injection h1 with h2 h3
      exact hne h3.symm

theorem own_head {w : World} {B : Nat} {e T : TypeId} {size : Nat} {v : Value} {n kb : Nat} {xs : List Value} {c : Array Value} {fz : Nat × Nat} (h : w.ownsRow B e size v n xs) (hk : w.heap[kb]? = some (.cells c T fz)) (hne : e ≠ T) : some kb ≠ v.ownBlock := by
  intro heq
  rcases h.2 with ⟨rfl, _⟩ | ⟨g, cap, cur, rfl, _, hg, _⟩
  · cases heq
  · simp only [Value.ownBlock, Option.some.injEq] at heq
    rw [← heq, hk] at hg
    injection hg with h1
    injection h1 with h2 h3
    exact hne h3.symm

/-- What a call may write into: the book, its row and the list that it is handed. -/
def may (kb : Nat) (V l : Value) : List Nat := kb :: (V.ownBlock.toList ++ l.ownBlock.toList)

/-- What holds at the head of each round: the list's first things are written over. -/
structure KInv (B : Nat) (w1 wr : World) (l : Value) (fs : List Fct) (m : Fct) (i : Nat) : Prop where
  le : i ≤ fs.length
  own : wr.ownsRow B 48 3 l fs.length (cellsF (List.replicate i m ++ fs.drop i))
  kb : Kb l.ownBlock.toList w1 wr

set_option maxRecDepth 100000 in
set_option maxHeartbeats 1000000 in
theorem keepFacts_any (B kb : Nat) (ls : List Value) (V l : Value) (fs : List Fct) (w : World) (hmod : ls.length % 4 = 0) (hls : ls.length ≤ 1000000000) (hfn : fs.length ≤ 120) (hB : BookO B kb ls V w)
    (hl : w.ownsRow B 48 3 l fs.length (cellsF fs)) (hap : ∀ v ∈ ls, v.ownBlock = none ∨ v.ownBlock ≠ l.ownBlock) :
    Calls Tryd.prog 10 #[.pointer (some ⟨kb, 0, none⟩), l] w fun e w' =>
      e = .returned (.tuple #[]) ∧ ∃ V' l1 l2 l3, BookO B kb (ls ++ [l, l1, l2, l3]) V' w' ∧ (∀ u ∈ [l1, l2, l3], u.ownBlock = l.ownBlock ∨ ∃ g, u.ownBlock = some g ∧ w.heap.size ≤ g) ∧ Kb (may kb V l) w w' := by
  obtain ⟨i0, hi0, hz0, hz1, hz2⟩ := info_parts infoFact
  obtain ⟨j0, hj0, hy0, hy1, hy2⟩ := info_parts infoFacts
  obtain ⟨Va, Vc, rfl, _⟩ := own_form hB.row
  obtain ⟨ao, cap, rfl, hao⟩ := own_form hl
  obtain ⟨c0, c1, c2, d0, d1, d2⟩ := res_cells hB.head
  have hkl := lt_of_heap hB.head
  have hBk := hB.le
  go_enter Tryd.func10, Tryd.ntmps10
  go_wp2_with fail
  refine (mark_any ls.length w (by omega)).mono ?_
  rintro e w2 ⟨rfl, hb2⟩
  have hmk : markC ls.length = [.int .i64 0, .string (markB ls.length), .string ⟨#[]⟩] := by unfold markC noB; rw [show ls.length / 4 * 4 = ls.length by omega]
  have hmf : markF ls.length = ⟨0, markB ls.length, ⟨#[]⟩⟩ := by unfold markF noB; rw [show ls.length / 4 * 4 = ls.length by omega]
  go_wp2_with fail
  have gx := heap_new w2 (.cells #[.int .i64 0, .string (markB ls.length), .string ⟨#[]⟩] 48)
  have hk3 : Kb ((Value.slice ao fs.length cap).ownBlock.toList) w (w2.alloc (.cells #[.int .i64 0, .string (markB ls.length), .string ⟨#[]⟩] 48)) := (Kb.of_below hb2 _).alloc _
  have hl3 : (w2.alloc (.cells #[.int .i64 0, .string (markB ls.length), .string ⟨#[]⟩] 48)).ownsRow B 48 3 (.slice ao fs.length cap) fs.length (cellsF fs) := (own_below hl hb2).alloc _
  have hbx : ∀ g, ao = some ⟨g, 0, none⟩ → g < w2.heap.size := fun g hg => ((own_below hl hb2).lt g (by rw [hg]; rfl)).2
  have HX := hide hbx
  have hxn : some w2.heap.size ≠ (Value.slice ao fs.length cap).ownBlock := fun h => Nat.lt_irrefl _ ((own_below hl hb2).lt _ h.symm).2
  have HXN := hide hxn
  have hx0 : w.heap.size ≤ w2.heap.size := hb2.size
  generalize w2.heap.size = bx at *
  generalize w2.alloc (.cells #[.int .i64 0, .string (markB ls.length), .string ⟨#[]⟩] 48) = w3 at gx hk3 hl3 ⊢
  have hxl := lt_of_heap gx
  have HB := hide hB
  have HAP := hide hap
  have HL := hide hl
  clear hB hap hl hb2 c0 c1 c2 d0 d1 d2 hbx hxn
  go_loopw [5] (fun iv wr => ∃ i : Nat, iv = .int .i64 i ∧ KInv B w3 wr (.slice ao fs.length cap) fs (markF ls.length) i ∧ wr.heap[bx]? = some (.cells #[.int .i64 0, .string (markB ls.length), .string ⟨#[]⟩] 48 (0, 0))) (fun iv _ => fs.length - (intOf iv).toNat)
  case atStart => exact ⟨0, rfl, ⟨Nat.zero_le _, by simpa using hl3, Kb.refl _ _⟩, gx⟩
  case round =>
    obtain ⟨i, rfl, hi, gy⟩ := hrel
    obtain ⟨x0, x1, x2, _, _, _⟩ := res_cells gy
    by_cases hlt : i < fs.length
    · obtain ⟨g, rfl⟩ := hao (by omega)
      have hgx := HX.out g rfl
      have hko := hi.kb
      obtain ⟨f, hf⟩ : ∃ f, fs[i]? = some f := ⟨_, List.getElem?_eq_getElem hlt⟩
      have hdr : fs.drop i = f :: fs.drop (i + 1) := by
        rw [List.drop_eq_getElem_cons hlt]
        rw [List.getElem?_eq_getElem hlt] at hf
        injection hf with hf
        rw [hf]
      have hown := hi.own
      rw [hdr] at hown
      have hA : (List.replicate i (markF ls.length)).length = i := List.length_replicate
      obtain ⟨hc, hz⟩ := own_cell hown
      have e3 := cellsF_get (List.replicate i (markF ls.length) ++ f :: fs.drop (i + 1)) i f.k f.p f.q (by rw [List.getElem?_append_right (by rw [hA]; omega), hA, Nat.sub_self]; rfl)
      have a0 := hc _ _ e3.1
      have a1 := hc _ _ e3.2.1
      have a2 := hc _ _ e3.2.2
      have z0 := hz (i * 3)
      have z1 := hz (i * 3 + 1)
      have z2 := hz (i * 3 + 2)
      have ho' := own_set (own_set (own_set hown (i * 3) (.int .i64 0)) (i * 3 + 1) (.string (markB ls.length))) (i * 3 + 2) (.string ⟨#[]⟩)
      have e4 := set3F (List.replicate i (markF ls.length)) (fs.drop (i + 1)) f 0 (markB ls.length) ⟨#[]⟩
      rw [hA] at e4
      rw [e4, ← hmf] at ho'
      have HO := hide ho'
      clear ho' e4 hc hz e3 hown hdr hf
      go_wp2
      go_roundw
      case rel =>
        refine ⟨i + 1, by go_num, ⟨hlt, ?_, ((hko.setCell (p := ⟨g, _, none⟩) (.inl (by simp [Value.ownBlock])) _).setCell (p := ⟨g, _, none⟩) (.inl (by simp [Value.ownBlock])) _).setCell (p := ⟨g, _, none⟩) (.inl (by simp [Value.ownBlock])) _⟩, ?_⟩
        · rw [List.replicate_succ', List.append_assoc]
          exact HO.out
        · rw [Below.heap_setCell _ _ _ _ (by show bx ≠ g; omega), Below.heap_setCell _ _ _ _ (by show bx ≠ g; omega), Below.heap_setCell _ _ _ _ (by show bx ≠ g; omega)]
          exact gy
      case measure => simp [intOf]; omega
    · have hin : i = fs.length := by have := hi.le; omega
      subst hin
      have ho0 := hi.own
      rw [List.drop_length, List.append_nil, cellsF_rep, hmk] at ho0
      have hkw : Kb ((Value.slice ao fs.length cap).ownBlock.toList) w wr := hk3.trans (hi.kb.mono (fun _ _ h => h))
      have hk0 := hkw
      have gx0 := gy
      clear hi hk3 hl3 gx gy hkw
      go_wp2_with (first | (at_builtin; refine wpList_append_marks _ rfl _ _ 31 rfl B 48 i0 (.agg #[.int .i64 0, .string ⟨#[]⟩, .string ⟨#[]⟩]) 3 40 Tryd.underlying31 hi0 hz0 hz1 hz2 rfl (by decide) (.slice ao fs.length cap) fs.length [.int .i64 0, .string (markB ls.length), .string ⟨#[]⟩] rfl rfl (ho0.alloc _) ⟨wr.heap.size, 0, none⟩ 1 1 (by decide) rfl (cells_new _ _ _ _ rfl) ?c1 ?c2 ?c3 ?c4 ?_) | go_in)
      case c1 => intro u hu; simp at hu; rcases hu with rfl | rfl | rfl <;> rfl
      case c2 => unfold maxLen; omega
      case c3 => omega
      case c4 => have := hk0.size; simp; omega
      intro v1 w4 ho1 hg1 hk1 hn1
      obtain ⟨a1, p1, rfl, _⟩ := own_form ho1
      have hL1 := hk1 _ _ _ (ho0.alloc _)
      have hK1 : Kb ((Value.slice ao fs.length cap).ownBlock.toList) w w4 := (hk0.alloc _).grown hg1 (fun k hk => .inl (by rw [hk]; simp))
      have gx1 : w4.heap[bx]? = some (.cells #[.int .i64 0, .string (markB ls.length), .string ⟨#[]⟩] 48 (0, 0)) := (hg1.block bx (by have := lt_of_heap gx0; simp; omega) HXN.out).trans (heap_old gx0 _)
      have hn1' : (Value.slice a1 (fs.length + 1) p1).ownBlock = (Value.slice ao fs.length cap).ownBlock ∨ ∃ g, (Value.slice a1 (fs.length + 1) p1).ownBlock = some g ∧ w.heap.size ≤ g := by
        rcases hn1 with h | ⟨g, h, hle⟩
        · exact .inl h
        · exact .inr ⟨g, h, by have := hk0.size; omega⟩
      obtain ⟨y0, y1, y2, _, _, _⟩ := res_cells gx1
      have HL1 := hide hL1
      have HO1 := hide ho1
      have HN1 := hide hn1'
      clear ho1 hg1 hk1 hn1 hn1' x0 x1 x2 ho0
      go_wp2_with (first | (at_builtin; refine wpList_append_marks _ rfl _ _ 31 rfl B 48 i0 (.agg #[.int .i64 0, .string ⟨#[]⟩, .string ⟨#[]⟩]) 3 40 Tryd.underlying31 hi0 hz0 hz1 hz2 rfl (by decide) (.slice ao fs.length cap) fs.length [.int .i64 0, .string (markB ls.length), .string ⟨#[]⟩] rfl rfl (HL1.out.alloc _) ⟨w4.heap.size, 0, none⟩ 2 2 (by decide) rfl (cells_new _ _ _ _ rfl) ?c1 ?c2 ?c3 ?c4 ?_) | go_in)
      case c1 => intro u hu; simp at hu; rcases hu with rfl | rfl | rfl <;> rfl
      case c2 => unfold maxLen; omega
      case c3 => omega
      case c4 => have := hK1.size; simp; omega
      intro v2 w5 ho2 hg2 hk2 hn2
      obtain ⟨a2, p2, rfl, _⟩ := own_form ho2
      have hL2 := hk2 _ _ _ (HL1.out.alloc _)
      have hM2 := hk2 _ _ _ (HO1.out.alloc _)
      have hK2 : Kb ((Value.slice ao fs.length cap).ownBlock.toList) w w5 := (hK1.alloc _).grown hg2 (fun k hk => .inl (by rw [hk]; simp))
      have gx2 : w5.heap[bx]? = some (.cells #[.int .i64 0, .string (markB ls.length), .string ⟨#[]⟩] 48 (0, 0)) := (hg2.block bx (by have := lt_of_heap gx1; simp; omega) HXN.out).trans (heap_old gx1 _)
      have hn2' : (Value.slice a2 (fs.length + 2) p2).ownBlock = (Value.slice ao fs.length cap).ownBlock ∨ ∃ g, (Value.slice a2 (fs.length + 2) p2).ownBlock = some g ∧ w.heap.size ≤ g := by
        rcases hn2 with h | ⟨g, h, hle⟩
        · exact .inl h
        · exact .inr ⟨g, h, by have := hK1.size; omega⟩
      obtain ⟨x0, x1, x2, _, _, _⟩ := res_cells gx2
      have HL2 := hide hL2
      have HM2 := hide hM2
      have HO2 := hide ho2
      have HN2 := hide hn2'
      clear ho2 hg2 hk2 hn2 hn2' y0 y1 y2 hL1 hL2 hM2 HO1 HL1
      go_wp2_with (first | (at_builtin; refine wpList_append_marks _ rfl _ _ 31 rfl B 48 i0 (.agg #[.int .i64 0, .string ⟨#[]⟩, .string ⟨#[]⟩]) 3 40 Tryd.underlying31 hi0 hz0 hz1 hz2 rfl (by decide) (.slice ao fs.length cap) fs.length [.int .i64 0, .string (markB ls.length), .string ⟨#[]⟩] rfl rfl (HL2.out.alloc _) ⟨w5.heap.size, 0, none⟩ 3 3 (by decide) rfl (cells_new _ _ _ _ rfl) ?c1 ?c2 ?c3 ?c4 ?_) | go_in)
      case c1 => intro u hu; simp at hu; rcases hu with rfl | rfl | rfl <;> rfl
      case c2 => unfold maxLen; omega
      case c3 => omega
      case c4 => have := hK2.size; simp; omega
      intro v3 w6 ho3 hg3 hk3 hn3
      obtain ⟨a3, p3, rfl, _⟩ := own_form ho3
      have hL3 := hk3 _ _ _ (HL2.out.alloc _)
      have hM3 := hk3 _ _ _ (HM2.out.alloc _)
      have hN3 := hk3 _ _ _ (HO2.out.alloc _)
      have hK3 : Kb ((Value.slice ao fs.length cap).ownBlock.toList) w w6 := (hK2.alloc _).grown hg3 (fun k hk => .inl (by rw [hk]; simp))
      have hn3' : (Value.slice a3 (fs.length + 3) p3).ownBlock = (Value.slice ao fs.length cap).ownBlock ∨ ∃ g, (Value.slice a3 (fs.length + 3) p3).ownBlock = some g ∧ w.heap.size ≤ g := by
        rcases hn3 with h | ⟨g, h, hle⟩
        · exact .inl h
        · exact .inr ⟨g, h, by have := hK2.size; omega⟩
      have HL3 := hide hL3
      have HM3 := hide hM3
      have HR3 := hide hN3
      have HO3 := hide ho3
      have HN3 := hide hn3'
      have hnk : ∀ g ∈ (Value.slice ao fs.length cap).ownBlock.toList, kb ≠ g := by
        intro g hg he
        exact own_head HL.out HB.out.head (by decide) (by rw [he]; simpa using (Option.mem_toList.1 hg).symm)
      have hV : w6.ownsRow B 31 1 (.slice Va ls.length Vc) ls.length ls := own_kbL HB.out.row hK3 (fun g hg heq => by
        rcases own_ne HB.out.row HL.out (by decide) with h | h
        · rw [h] at heq; cases heq
        · exact h (heq.trans (Option.mem_toList.1 hg).symm))
      have hH : w6.heap[kb]? = some (.cells #[.slice Va ls.length Vc, .slice none 0 0, .slice none 0 0] 28 (0, 0)) := hK3.heap HB.out.head (fun hm => hnk kb hm rfl)
      have hLs : Hid (∀ (i : Nat) v, ls[i]? = some v → ∃ n, n ≤ 1000 ∧ w6.ownsRow B 48 3 v n (repC n (markC i))) := by
        intro i v hv
        obtain ⟨n, hn, ho⟩ := HB.out.lists i v hv
        refine ⟨n, hn, own_kbL ho hK3 (fun g hg heq => ?_)⟩
        rcases HAP.out v (List.mem_of_getElem? hv) with h | h
        · rw [h] at heq; cases heq
        · exact h (heq.trans (Option.mem_toList.1 hg).symm)
      have HV := hide hV
      have hkn := own_head HV.out hH (by decide)
      have HKN := hide hkn
      obtain ⟨c0, c1, c2, d0, d1, d2⟩ := res_cells hH
      clear ho3 hg3 hk3 hn3 hn3' hL3 hM3 hN3 x0 x1 x2 HL2 HM2 HO2 hV hkn hnk gx0 gx1 gx2 HX HXN
      go_wp2_with (first | (at_builtin; refine wpList_append_own _ rfl _ _ 24 rfl B 31 j0 (.slice none 0 0) 1 24 Tryd.underlying24 hj0 hy0 hy1 hy2 rfl (by decide) (.slice Va ls.length Vc) ls.length ls rfl (HV.out.alloc _) ⟨w6.heap.size, 0, none⟩ 4 4 [.slice ao fs.length cap, .slice a1 (fs.length + 1) p1, .slice a2 (fs.length + 2) p2, .slice a3 (fs.length + 3) p3] rfl rfl (cells_new _ _ _ _ rfl) ?c1 ?c2 ?c3 ?c4 ?_) | go_in)
      case c1 => intro u hu; simp at hu; rcases hu with rfl | rfl | rfl | rfl <;> rfl
      case c2 => unfold maxLen; omega
      case c3 => omega
      case c4 => have := hK3.size; simp; omega
      intro V' w7 hoV hgV _
      have hH7 : w7.heap[kb]? = some (.cells #[.slice Va ls.length Vc, .slice none 0 0, .slice none 0 0] 28 (0, 0)) := (hgV.block kb (by have := lt_of_heap hH; simp; omega) HKN.out).trans (heap_old hH _)
      clear c0 c1 c2 d0 d1 d2
      obtain ⟨c0, c1, c2, d0, d1, d2⟩ := res_cells hH7
      obtain ⟨aV, pV, rfl, _⟩ := own_form hoV
      have HOV := hide hoV
      have HGV := hide hgV
      clear hoV hgV
      go_wp2_with fail
      have hk7 : Kb [kb] w7 (w7.setCell ⟨kb, 0, none⟩ (.slice aV (ls.length + 4) pV)) := (Kb.refl _ _).setCell (.inl (by simp)) _
      have carry : ∀ v n xs, w6.ownsRow B 48 3 v n xs → (w7.setCell ⟨kb, 0, none⟩ (.slice aV (ls.length + 4) pV)).ownsRow B 48 3 v n xs := by
        intro v n xs h
        have h7 := (h.alloc _).kept HGV.out (own_ne h HV.out (by decide))
        refine own_kbL h7 hk7 (fun g hg heq => ?_)
        rw [List.mem_singleton.1 hg] at heq
        exact own_head h7 hH7 (by decide) heq.symm
      have hpos : ∀ r, r < 4 → markC (ls.length + r) = [.int .i64 0, .string (markB ls.length), .string ⟨#[]⟩] := by
        intro r hr
        rw [← hmk]
        unfold markC
        rw [show (ls.length + r) / 4 * 4 = ls.length / 4 * 4 by omega]
      refine bodyPost_end (v := .tuple #[]) (by simp [results, Tryd.results10, go_sem]) rfl ?_
      refine ⟨rfl, .slice aV (ls.length + 4) pV, .slice a1 (fs.length + 1) p1, .slice a2 (fs.length + 2) p2, .slice a3 (fs.length + 3) p3, ⟨hBk, ?_, ?_, ?_⟩, ?_, ?_⟩
      · rw [heap_set hH7]
        rfl
      · rw [List.length_append]
        refine own_kbL HOV.out hk7 (fun g hg heq => ?_)
        rw [List.mem_singleton.1 hg] at heq
        exact own_head HOV.out hH7 (by decide) heq.symm
      · intro i v hv
        by_cases hil : i < ls.length
        · rw [List.getElem?_append_left hil] at hv
          obtain ⟨n, hn, ho⟩ := hLs.out i v hv
          exact ⟨n, hn, carry _ _ _ ho⟩
        · rw [List.getElem?_append_right (by omega)] at hv
          obtain ⟨r, rfl⟩ : ∃ r, i = ls.length + r := ⟨i - ls.length, by omega⟩
          rw [Nat.add_sub_cancel_left] at hv
          match r, hv with
          | 0, hv => injection hv with hv; subst hv; exact ⟨fs.length, by omega, by rw [hpos 0 (by decide)]; exact carry _ _ _ HL3.out⟩
          | 1, hv => injection hv with hv; subst hv; exact ⟨(fs.length + 1), by omega, by rw [hpos 1 (by decide)]; exact carry _ _ _ HM3.out⟩
          | 2, hv => injection hv with hv; subst hv; exact ⟨(fs.length + 2), by omega, by rw [hpos 2 (by decide)]; exact carry _ _ _ HR3.out⟩
          | 3, hv => injection hv with hv; subst hv; exact ⟨(fs.length + 3), by omega, by rw [hpos 3 (by decide)]; exact carry _ _ _ HO3.out⟩
          | r + 4, hv => simp at hv
      · intro u hu
        simp at hu
        rcases hu with rfl | rfl | rfl
        · exact HN1.out
        · exact HN2.out
        · exact HN3.out
      · refine Kb.setCell ?_ (.inl (by simp [may])) _
        refine Kb.grown ((hK3.mono (fun k _ hk => ?_)).alloc _) HGV.out (fun k hk => .inl ?_)
        · simp only [may, List.mem_cons, List.mem_append]; exact .inr (.inr hk)
        · simp only [may, List.mem_cons, List.mem_append]; exact .inr (.inl (Option.mem_toList.2 hk))

theorem may_below {B kb : Nat} {ls : List Value} {V l : Value} {w w' : World} {n : Nat} {xs : List Value} (hk : Kb (may kb V l) w w') (hB : BookO B kb ls V w) (hl : w.ownsRow B 48 3 l n xs) : Below B w w' := by
  refine hk.below (Nat.le_trans hB.le (Nat.le_of_lt (lt_of_heap hB.head))) (fun k hm => ?_)
  simp only [may, List.mem_cons, List.mem_append, Option.mem_toList] at hm
  rcases hm with rfl | h | h
  · exact hB.le
  · exact (hB.row.lt k h).1
  · exact (hl.lt k h).1

/-- A block of another kind is none of those. -/
theorem may_not {B kb b : Nat} {ls : List Value} {V l : Value} {w : World} {n : Nat} {xs : List Value} {c : Array Value} {T : TypeId} {fz : Nat × Nat} (hB : BookO B kb ls V w) (hl : w.ownsRow B 48 3 l n xs)
    (hb : w.heap[b]? = some (.cells c T fz)) (h1 : 28 ≠ T) (h2 : 31 ≠ T) (h3 : 48 ≠ T) : b ∉ may kb V l := by
  intro hm
  simp only [may, List.mem_cons, List.mem_append, Option.mem_toList] at hm
  rcases hm with rfl | h | h
  · have := hB.head
    rw [hb] at this
    injection this with this
    injection this with _ this
    exact h1 this.symm
  · exact own_head hB.row hb h2 h.symm
  · exact own_head hl hb h3 h.symm

theorem BookO.below {B kb : Nat} {ls : List Value} {V : Value} {w w' : World} (h : BookO B kb ls V w) (hb : Below w.heap.size w w') : BookO B kb ls V w' :=
  ⟨h.le, Below.heapAt hb h.head (lt_of_heap h.head), own_below h.row hb, fun i v hv => by
    obtain ⟨n, hn, ho⟩ := h.lists i v hv
    exact ⟨n, hn, own_below ho hb⟩⟩

end Go.Proofs.YtiamlbhkiehilaaDoor
