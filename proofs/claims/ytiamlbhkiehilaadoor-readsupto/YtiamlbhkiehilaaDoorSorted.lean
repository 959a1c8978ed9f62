import Derived.Test.YtiamlbhkiehilaaDoorNamesPure
namespace Go.Proofs.YtiamlbhkiehilaaDoor
open Go.RowKit Go.Maps

theorem bl_irrefl : ∀ x : List UInt8, Op.bytesLess x x = false
  | [] => rfl
  | a :: x => by simp [Op.bytesLess, bl_irrefl x]

theorem bl_trans : ∀ x y z : List UInt8, Op.bytesLess x y = true → Op.bytesLess y z = true → Op.bytesLess x z = true
  | [], _, [], _, h => by
    rename_i y _
    cases y <;> simp [Op.bytesLess] at h
  | [], _, _ :: _, _, _ => rfl
  | _ :: _, [], _, h, _ => by simp [Op.bytesLess] at h
  | _ :: _, _ :: _, [], _, h => by simp [Op.bytesLess] at h
  | a :: x, b :: y, c :: z, h1, h2 => by
    simp only [Op.bytesLess, Bool.or_eq_true, Bool.and_eq_true, decide_eq_true_eq, beq_iff_eq] at *
    rcases h1 with h1 | ⟨rfl, h1⟩
    · rcases h2 with h2 | ⟨rfl, _⟩
      · exact .inl (UInt8.lt_trans h1 h2)
      · exact .inl h1
    · rcases h2 with h2 | ⟨rfl, h2⟩
      · exact .inl h2
      · exact .inr ⟨rfl, bl_trans x y z h1 h2⟩

theorem bl_total : ∀ x y : List UInt8, Op.bytesLess x y = false → x ≠ y → Op.bytesLess y x = true
  | [], [], _, h => absurd rfl h
  | [], _ :: _, h, _ => by simp [Op.bytesLess] at h
  | _ :: _, [], _, _ => rfl
  | a :: x, b :: y, h1, h2 => by
    simp only [Op.bytesLess, Bool.or_eq_true, Bool.and_eq_true, Bool.or_eq_false_iff, decide_eq_true_eq, decide_eq_false_iff_not, beq_iff_eq] at *
    by_cases e : b = a
    · subst e
      refine .inr ⟨rfl, bl_total x y ?_ (fun e => h2 (by rw [e]))⟩
      simpa using h1.2
    · rcases UInt8.lt_or_lt_of_ne e with h | h
      · exact .inl h
      · exact absurd h h1.1

theorem lessS_irrefl (x : ByteArray) : lessS x x = false := bl_irrefl _
theorem lessS_trans {x y z : ByteArray} (h1 : lessS x y = true) (h2 : lessS y z = true) : lessS x z = true := bl_trans _ _ _ h1 h2
theorem bytes_inj {a b : ByteArray} (h : a.data.toList = b.data.toList) : a = b := by
  obtain ⟨⟨x⟩⟩ := a
  obtain ⟨⟨y⟩⟩ := b
  simp at h
  subst h
  rfl
theorem lessS_total {x y : ByteArray} (h1 : lessS x y = false) (h2 : x ≠ y) : lessS y x = true :=
  bl_total _ _ h1 (fun e => h2 (bytes_inj (by rwa [ByteArray.toList_eq, ByteArray.toList_eq] at e)))

/-- In order, each once. -/
def Asc (l : List ByteArray) : Prop := l.Pairwise fun x y => lessS x y = true

theorem insAt_lt {l : List ByteArray} {s : ByteArray} : ∀ x ∈ l.take (insAt l s), lessS x s = true := by
  induction l with
  | nil => intro x hx; simp at hx
  | cons y r ih =>
    intro x hx
    simp only [insAt] at hx
    split at hx
    · rename_i h
      rw [List.take_succ_cons, List.mem_cons] at hx
      rcases hx with rfl | hx
      · exact h
      · exact ih x hx
    · simp at hx

theorem insAt_ge {l : List ByteArray} {s : ByteArray} {x : ByteArray} (h : l[insAt l s]? = some x) : lessS x s = false := by
  induction l with
  | nil => simp at h
  | cons y r ih =>
    simp only [insAt] at h
    split at h
    · exact ih (by simpa using h)
    · rename_i hn
      simp at h
      subst h
      simpa using hn

theorem asc_mem {l : List ByteArray} {s : ByteArray} (h : Asc l) (hs : s ∈ l) : l[insAt l s]? = some s := by
  induction l with
  | nil => simp at hs
  | cons y r ih =>
    rw [Asc, List.pairwise_cons] at h
    rw [List.mem_cons] at hs
    simp only [insAt]
    by_cases e : s = y
    · subst e
      rw [if_neg (by rw [lessS_irrefl]; simp)]
      rfl
    · have hr : s ∈ r := hs.resolve_left e
      rw [if_pos (h.1 s hr)]
      simpa using ih h.2 hr

theorem asc_ins {l : List ByteArray} (s : ByteArray) (h : Asc l) : Asc (insN l s) := by
  unfold insN
  split
  · exact h
  · rename_i hne
    have hl : l.take (insAt l s) ++ l.drop (insAt l s) = l := List.take_append_drop _ _
    have h' := h
    rw [Asc, ← hl, List.pairwise_append] at h'
    obtain ⟨h1, h2, h3⟩ := h'
    rw [Asc, List.pairwise_append]
    have hs : ∀ y ∈ l.drop (insAt l s), lessS s y = true := by
      cases hd : l.drop (insAt l s) with
      | nil => intro y hy; simp at hy
      | cons z r =>
        have hz : l[insAt l s]? = some z := by
          have := congrArg (fun t => t[0]?) hd
          simpa using this
        have hzs : lessS s z = true := lessS_total (insAt_ge hz) (fun e => hne (by rw [hz, e]))
        rw [hd, List.pairwise_cons] at h2
        intro y hy
        rw [List.mem_cons] at hy
        rcases hy with rfl | hy
        · exact hzs
        · exact lessS_trans hzs (h2.1 y hy)
    refine ⟨h1, List.pairwise_cons.2 ⟨hs, h2⟩, fun a ha b hb => ?_⟩
    rw [List.mem_cons] at hb
    rcases hb with rfl | hb
    · exact insAt_lt a ha
    · exact h3 a ha b hb

theorem perm_ins {l : List ByteArray} {acc : List (List UInt8)} (s : ByteArray) (h : Asc l) (hp : (l.map (·.data.toList)).Perm acc) : ((insN l s).map (·.data.toList)).Perm (addN acc s.data.toList) := by
  have hm : s ∈ l ↔ s.data.toList ∈ acc := by
    rw [← hp.mem_iff, List.mem_map]
    constructor
    · intro hs; exact ⟨s, hs, rfl⟩
    · rintro ⟨y, hy, e⟩
      rwa [← bytes_inj e]
  unfold insN addN
  by_cases hs : s ∈ l
  · rw [if_pos (asc_mem h hs), if_pos (hm.1 hs)]
    exact hp
  · rw [if_neg (fun e => hs (List.mem_of_getElem? e)), if_neg (fun e => hs (hm.2 e)), List.map_append, List.map_cons]
    refine List.perm_middle.trans ?_
    rw [← List.map_append, List.take_append_drop]
    exact (List.Perm.cons _ hp).trans (List.perm_append_singleton _ _).symm

theorem perm_fold (l out : List ByteArray) (acc : List (List UInt8)) (h : Asc out) (hp : (out.map (·.data.toList)).Perm acc) :
    Asc (l.foldl insN out) ∧ ((l.foldl insN out).map (·.data.toList)).Perm ((l.map (·.data.toList)).foldl addN acc) := by
  induction l generalizing out acc with
  | nil => exact ⟨h, hp⟩
  | cons s r ih => exact ih _ _ (asc_ins s h) (perm_ins s h hp)

theorem asc_names (l : List ByteArray) : Asc (namesS l) := (perm_fold l [] [] List.Pairwise.nil (List.Perm.refl _)).1

theorem strs_names (fs : List Fct) : (strsOf fs).map (·.data.toList) = namesL fs := by
  induction fs with
  | nil => rfl
  | cons f r ih =>
    have e1 : strsOf (f :: r) = f.p :: f.q :: strsOf r := by simp [strsOf]
    have e2 : namesL (f :: r) = f.p.data.toList :: f.q.data.toList :: namesL r := by simp [namesL]
    rw [e1, e2, List.map_cons, List.map_cons, ih]

theorem names_length (fs : List Fct) : (namesS (strsOf fs)).length = dcount (namesL fs) := by
  have h := (perm_fold (strsOf fs) [] [] List.Pairwise.nil (List.Perm.refl _)).2.length_eq
  rw [List.length_map, strs_names] at h
  exact h

end Go.Proofs.YtiamlbhkiehilaaDoor
