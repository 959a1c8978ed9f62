import Derived.Test.YtiamlbhkiehilaaLentWalk
import Derived.Test.YtiamlbhkiehilaaKept
import Derived.Test.YtiamlbhkiehilaaTell
import Derived.Test.YtiamlbhkiehilaaRTell
import Derived.Test.YtiamlbhkiehilaaEqs
namespace Go.Proofs.Ytiamlbhkiehilaa
open Go.RowKit

def overR (r : RowD) : RowD := ⟨overS, List.replicate r.to.length overS⟩
/-- The rows when the first i are written over. -/
def overTo (rs : List RowD) (i : Nat) : List RowD := (rs.take i).map overR ++ rs.drop i

theorem overTo_zero (rs : List RowD) : overTo rs 0 = rs := rfl
theorem overTo_end (rs : List RowD) : overTo rs rs.length = rs.map overR := by simp [overTo]
theorem overTo_here {rs : List RowD} {i : Nat} {r : RowD} (h : rs[i]? = some r) : overTo rs i = (rs.take i).map overR ++ r :: rs.drop (i + 1) := by rw [overTo, drop_here h]
theorem overTo_next {rs : List RowD} {i : Nat} {r : RowD} (h : rs[i]? = some r) : overTo rs (i + 1) = (rs.take i).map overR ++ overR r :: rs.drop (i + 1) := by
  rw [overTo, take_next h]; simp

theorem lentP_same (hs : List Nat) (A B : List RowD) (n : ByteArray) (t t' : List ByteArray) (h : t'.length = t.length) : lentP hs (A ++ ⟨n, t'⟩ :: B) = lentP hs (A ++ ⟨n, t⟩ :: B) := by
  induction A generalizing hs with
  | nil => cases hs <;> simp [lentP, slv, h]
  | cons a A ih =>
    cases hs with
    | nil => rfl
    | cons k hs =>
      have := ih hs
      simp only [lentP, List.cons_append, List.zipWith_cons_cons] at this ⊢
      rw [this]

theorem lentP_parts {hs : List Nat} {A B : List RowD} {r : RowD} {h : Nat} (hl : hs.length = (A ++ r :: B).length) (hh : hs[A.length]? = some h) :
    ∃ L M, (∀ r', lentP hs (A ++ r' :: B) = L ++ (r'.name, slv h r'.to) :: M) ∧ L.length = A.length := by
  induction A generalizing hs with
  | nil =>
    cases hs with
    | nil => simp at hh
    | cons k hs =>
      simp at hh
      subst hh
      exact ⟨[], lentP hs B, fun r' => rfl, rfl⟩
  | cons a A ih =>
    cases hs with
    | nil => simp at hh
    | cons k hs =>
      obtain ⟨L, M, h1, h2⟩ := ih (hs := hs) (by simpa using hl) (by simpa using hh)
      refine ⟨(a.name, slv k a.to) :: L, M, fun r' => ?_, by simp [h2]⟩
      have := h1 r'
      simp only [lentP, List.cons_append, List.zipWith_cons_cons] at this ⊢
      rw [this]

theorem Fam.set {g : Nat} {hs : List Nat} {A B : List RowD} {r r' : RowD} {w w' : World} {h : Nat} (hf : Fam g hs (A ++ r :: B) w) (hh : hs[A.length]? = some h) (hk : Kb [h] w w') (hr : RowS h (r'.to ++ List.replicate 8 beyS) [] w') : Fam g hs (A ++ r' :: B) w' := by
  refine ⟨by have := hf.len; simpa using this, hf.nodup, hf.gt, ?_⟩
  intro j k s h1 h2
  by_cases hj : j = A.length
  · subst hj
    rw [hh] at h1
    injection h1 with h1
    subst h1
    rw [List.getElem?_append_right (Nat.le_refl _), Nat.sub_self] at h2
    simp at h2
    subst h2
    exact hr
  · have h2' : (A ++ r :: B)[j]? = some s := by
      by_cases hlt : j < A.length
      · rw [List.getElem?_append_left hlt] at h2 ⊢
        exact h2
      · rw [List.getElem?_append_right (by omega)] at h2 ⊢
        obtain ⟨m, hm⟩ : ∃ m, j - A.length = m + 1 := ⟨j - A.length - 1, by omega⟩
        rw [hm] at h2 ⊢
        simpa using h2
    have hb := hf.blk j k s h1 h2'
    refine hk.heap hb ?_
    simp only [List.mem_cons, List.not_mem_nil, or_false]
    intro e
    subst e
    obtain ⟨a1, a2⟩ := List.getElem?_eq_some_iff.1 h1
    obtain ⟨b1, b2⟩ := List.getElem?_eq_some_iff.1 hh
    exact hj ((List.getElem_inj hf.nodup).1 (a2.trans b2.symm))

theorem overS_ok : overS.size = 4 := rfl

end Go.Proofs.Ytiamlbhkiehilaa
