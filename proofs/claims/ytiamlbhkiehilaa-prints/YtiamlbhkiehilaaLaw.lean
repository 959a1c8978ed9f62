import Derived.Test.YtiamlbhkiehilaaFPrint
import Derived.Test.YtiamlbhkiehilaaRPrint
import Derived.Test.YtiamlbhkiehilaaCopy
import Derived.Test.YtiamlbhkiehilaaEqs
import Derived.BigQuiet
import Derived.Deep.QuietTactic
namespace Go.Proofs.Ytiamlbhkiehilaa
open Go.RowKit Go.Maps

theorem sizeFact : (Try.prog.info? 25).map (·.size) = some 3 := by kernel_rfl

def beyF : Fct := ⟨0, ⟨#[98, 101, 121, 111, 110, 100]⟩, ⟨#[]⟩⟩
def xyF : Fct := ⟨3, ⟨#[120]⟩, ⟨#[121]⟩⟩

/-- A row of facts, and what lies behind them. -/
def RowF (g : Nat) (A : List Fct) (rest : List Value) (w : World) : Prop := w.heap[g]? = some (.cells (cellsF A ++ rest).toArray 25 (0, 0))

theorem RowF.cells {g : Nat} {A : List Fct} {rest : List Value} {w : World} (h : RowF g A rest w) : FactsAt g 0 A w := by
  intro i k p q hi
  have hl := lt_of_getElem? hi
  obtain ⟨g0, g1, g2⟩ := cellsF_get A _ _ _ _ hi
  have hc : ∀ j u, j < A.length * 3 → (cellsF A)[j]? = some u → w.cell? ⟨g, 0 + j, none⟩ = some u := by
    intro j u hj hu
    rw [Nat.zero_add, cell_at h]
    simp only [List.getElem?_toArray]
    rw [List.getElem?_append_left (by rw [cellsF_length]; exact hj), hu]
  exact ⟨hc _ _ (by omega) g0, hc _ _ (by omega) g1, hc _ _ (by omega) g2⟩

theorem set3 (cs : List Value) (x y z a b c : Value) (r : List Value) : (((cs ++ x :: y :: z :: r).toArray.setIfInBounds cs.length a).setIfInBounds (cs.length + 1) b).setIfInBounds (cs.length + 2) c = (cs ++ a :: b :: c :: r).toArray := by
  apply Array.ext'
  simp

/-- A fact laid behind the others. -/
theorem RowF.push {g : Nat} {A : List Fct} {x y z : Value} {rest : List Value} {w : World} (h : RowF g A (x :: y :: z :: rest) w) (k : Int) (p q : ByteArray) :
    RowF g (A ++ [⟨k, p, q⟩]) rest (((w.setCell ⟨g, A.length * 3, none⟩ (.int .i64 k)).setCell ⟨g, A.length * 3 + 1, none⟩ (.string p)).setCell ⟨g, A.length * 3 + 2, none⟩ (.string q)) := by
  have h1 := heap_set (heap_set (heap_set h (A.length * 3) (.int .i64 k)) (A.length * 3 + 1) (.string p)) (A.length * 3 + 2) (.string q)
  unfold RowF
  rw [h1]
  have e := set3 (cellsF A) x y z (.int .i64 k) (.string p) (.string q) rest
  rw [cellsF_length] at e
  rw [e, cellsF_snoc]
  simp

theorem cellsF_cons (A B : List Fct) (f : Fct) : cellsF (A ++ f :: B) = cellsF A ++ .int .i64 f.k :: .string f.p :: .string f.q :: cellsF B := by simp [cellsF]

/-- A fact laid over another. -/
theorem RowF.over {g : Nat} {A B : List Fct} {f : Fct} {w : World} (h : RowF g (A ++ f :: B) [] w) (k : Int) (p q : ByteArray) :
    RowF g (A ++ ⟨k, p, q⟩ :: B) [] (((w.setCell ⟨g, A.length * 3, none⟩ (.int .i64 k)).setCell ⟨g, A.length * 3 + 1, none⟩ (.string p)).setCell ⟨g, A.length * 3 + 2, none⟩ (.string q)) := by
  unfold RowF at h
  rw [List.append_nil, cellsF_cons] at h
  have h1 := heap_set (heap_set (heap_set h (A.length * 3) (.int .i64 k)) (A.length * 3 + 1) (.string p)) (A.length * 3 + 2) (.string q)
  unfold RowF
  rw [h1]
  have e := set3 (cellsF A) (.int .i64 f.k) (.string f.p) (.string f.q) (.int .i64 k) (.string p) (.string q) (cellsF B)
  rw [cellsF_length] at e
  rw [e, List.append_nil, cellsF_cons]

theorem print_one : printGo [] [⟨4, ⟨#[112]⟩, ⟨#[113]⟩⟩] [] = ([42, 112, 32, 61, 32, 113, 10], 0, 0) := by decide +kernel

/-- What holds at the head of each round of the third loop. -/
structure L3 (g : Nat) (w5 wx : World) (fs : List Fct) (j : Nat) : Prop where
  le : j ≤ fs.length
  row : RowF g (List.replicate j xyF ++ (fs.drop j ++ List.replicate 8 beyF)) [] wx
  kb : Kb [g] w5 wx

/-- What holds at the head of each round of the first loop. -/
structure L1 (w wr : World) (fs : List Fct) (j : Nat) (rest : List Value) : Prop where
  le : j ≤ 8
  row : RowF w.heap.size (fs ++ List.replicate j beyF) rest wr
  len : rest.length = (8 - j) * 3
  blw : Below w.heap.size w wr

theorem rest_three {j : Nat} (rest : List Value) (h : rest.length = (8 - j) * 3) (hj : j < 8) : ∃ x y z r, rest = x :: y :: z :: r ∧ r.length = (8 - (j + 1)) * 3 := by
  match rest, h with
  | [], h => simp at h; omega
  | [_], h => simp at h; omega
  | [_, _], h => simp at h; omega
  | x :: y :: z :: r, h => exact ⟨x, y, z, r, rfl, by simp at h; omega⟩

set_option maxHeartbeats 1000000 in
set_option maxRecDepth 100000 in
theorem prints_walk (ao : Option Addr) (cap : Nat) (fs : List Fct) (w : World) (hc : fs.length ≤ cap) (hcap : cap * 40 ≤ 140737488351232) (hfit : fitsF fs) (hnil : ao = none → cap = 0)
    (hne : Hid (fs ≠ [] → ∃ b off, ao = some ⟨b, off, none⟩ ∧ b < w.heap.size ∧ FactsAt b off fs w)) :
    Calls Try.prog 3 #[.slice ao fs.length cap] w fun e w' => e = .returned (.bool true) ∧ Below w.heap.size w w' := by
  obtain ⟨i0, hi0, hz0, hz1, hz2⟩ := info_parts infoFact
  go_enter Try.func3, Try.ntmps3
  go_wp2_with (first | (at_make; refine wpList_make_full _ rfl _ _ 22 rfl w.heap.size 25 i0 (.agg #[.int .i64 0, .string ⟨#[]⟩, .string ⟨#[]⟩]) 3 Try.underlying22 hi0 hz0 hz1 .i64 .i64 _ _ (fs.length + 8) rfl rfl (by simp) (by simp) ?c1 ?c2 (Nat.le_refl _) ?_) | go_in)
  case c1 => rw [hz2]; omega
  case c2 => unfold maxLen; omega
  intro w1 hown1 hgrow1
  obtain ⟨cur, hg1, hcs⟩ : ∃ cur, w1.heap[w.heap.size]? = some (.cells cur 25 (0, 0)) ∧ cur.size = (fs.length + 8) * 3 := by
    rcases hown1.2 with ⟨h, _⟩ | ⟨g, cp, cur, hv, _, hg, _, _, hs, _⟩
    · cases h
    · injection hv with e1 e2 e3
      injection e1 with e1
      injection e1 with e1
      subst e1 e3
      exact ⟨cur, hg, hs⟩
  have hb1 : Below w.heap.size w w1 := (Below.refl _ _).grown hgrow1 (Nat.le_refl _) (fun j hj => by cases hj)
  clear hown1 hgrow1
  have hsrc : Hid (∀ a, ao = some a → ∀ j v, (cellsF fs)[j]? = some v → w1.cell? (a.add j) = some v) := by
    intro a ha j v hj
    have hfs : fs ≠ [] := by rintro rfl; simp [cellsF] at hj
    obtain ⟨b, off, hao, hb, hf⟩ := hne.out hfs
    rw [hao] at ha
    injection ha with ha
    subst ha
    exact (hf.below hb1 hb).cells j v hj
  have hn0 : Hid (ao = none → fs.length = 0) := fun h => by have := hnil h; omega
  go_wp2_with (first | (refine wpList_copyK rfl (.tmp 23) (.tmp 24) 22 22 rfl 25 3 Try.underlying22 sizeFact w.heap.size (fs.length + 8) (fs.length + 8) ao fs.length cap rfl rfl cur 25 hg1 (cellsF fs) (by omega) (cellsF_length fs) hn0.out hsrc.out (by rw [cellsF_length, hcs]; omega) (cellsF_one fs) ?_; intro w2 hg2 hgrow2) | go_in)
  obtain ⟨rest, hrest⟩ : ∃ rest, rest = cur.toList.drop (cellsF fs).length := ⟨_, rfl⟩
  have hr0 : rest.length = 24 := by rw [hrest, List.length_drop, cellsF_length, Array.length_toList, hcs]; omega
  have hL : L1 w w2 fs 0 rest := ⟨Nat.zero_le _, by unfold RowF; rw [hrest]; simpa using hg2.out, hr0, hb1.grown hgrow2 (by have := hb1.size; omega) (fun j hj => by cases hj; exact Nat.le_refl _)⟩
  clear hsrc hn0 hg1 hg2 hgrow2 hb1 hrest hr0 hcs
  go_loopw [5] (fun i wr => ∃ j rest, i = .int .i64 ((fs.length : Int) + (j : Nat)) ∧ L1 w wr fs j rest) (fun i _ => (fs.length + 8) - (intOf i).toNat)
  case atStart => exact ⟨0, rest, by simp, hL⟩
  case round =>
    clear hL
    obtain ⟨j, rest, rfl, hi⟩ := hrel
    by_cases hlt : j < 8
    · obtain ⟨x, y, z, r, hr, hrl⟩ := rest_three rest hi.len hlt
      rw [hr] at hi
      have hA : (fs ++ List.replicate j beyF).length = fs.length + j := by simp
      have hrow := hi.row
      have hbl := hi.blw
      have hp := hrow.push 0 ⟨#[98, 101, 121, 111, 110, 100]⟩ ⟨#[]⟩
      rw [hA] at hp
      have hcl : (cellsF (fs ++ List.replicate j beyF)).length = (fs.length + j) * 3 := by rw [cellsF_length, hA]
      have c0 : wr.cell? ⟨w.heap.size, (fs.length + j) * 3, none⟩ = some x := by rw [cell_at hrow]; simp [hcl]
      have c1 : wr.cell? ⟨w.heap.size, (fs.length + j) * 3 + 1, none⟩ = some y := by rw [cell_at hrow]; simp [hcl]
      have c2 : wr.cell? ⟨w.heap.size, (fs.length + j) * 3 + 2, none⟩ = some z := by rw [cell_at hrow]; simp [hcl]
      have f0 : ∀ o, wr.frozen? ⟨w.heap.size, o, none⟩ = false := fun o => frozen_at hrow o
      have HP := hide hp
      clear hp hrow hcl hA
      go_wp2
      go_roundw
      case rel =>
        refine ⟨j + 1, r, by go_num, hlt, ?_, hrl, ((hbl.setCell (p := ⟨w.heap.size, _, none⟩) (Nat.le_refl _) _).setCell (p := ⟨w.heap.size, _, none⟩) (Nat.le_refl _) _).setCell (p := ⟨w.heap.size, _, none⟩) (Nat.le_refl _) _⟩
        rw [List.replicate_succ', ← List.append_assoc]
        exact HP.out
      case measure => simp [intOf]; omega
    · have hj : j = 8 := by have := hi.le; omega
      subst hj
      have hrow := hi.row
      have hr : rest = [] := List.eq_nil_of_length_eq_zero (by simpa using hi.len)
      subst hr
      have hbl := hi.blw
      clear hi
      have hlen : fs.length ≤ maxLen := by unfold maxLen; omega
      have HQ : Hid (∀ v w', IsFacts v fs w' → Calls Try.prog 5 #[v] w' fun e w'' => e = .returned (.tuple #[.string ⟨(printGo [] fs []).1.toArray⟩, .agg #[.int .i64 (printGo [] fs []).2.1, .int .i64 (printGo [] fs []).2.2]]) ∧ Below w'.heap.size w' w'') := fun v w' h => qprint_any v fs w' hlen h hfit
      have HR : Hid (∀ v w', capOf v ≤ maxLen → IsFacts v fs w' → Calls Try.prog 6 #[v] w' fun e w'' => e = .returned (.tuple #[.string ⟨(printGo [] fs []).1.toArray⟩, .agg #[.int .i64 (printGo [] fs []).2.1, .int .i64 (printGo [] fs []).2.2]]) ∧ Below w'.heap.size w' w'') := fun v w' h h' => rprint_any v fs w' h h' hfit
      generalize printGo [] fs [] = R at HQ HR
      obtain ⟨rs, rk, rl⟩ := R
      simp only at HQ HR
      have hzr := lt_of_heap hrow
      have hIs : IsFacts (.slice (some ⟨w.heap.size, 0, none⟩) fs.length (fs.length + 8)) fs wr := ⟨_, _, rfl, by omega, (fun h => by cases h), fun _ => ⟨_, _, rfl, hzr, by have := hrow.cells.take fs.length; rwa [List.take_left] at this⟩⟩
      go_wp2_with fail
      refine (HQ.out _ _ hIs).mono ?_
      rintro e w3 ⟨rfl, hb3⟩
      have hrow3 : RowF w.heap.size (fs ++ List.replicate 8 beyF) [] w3 := Below.heapAt hb3 hrow hzr
      have hbl3 := hbl.trans (hb3.mono hbl.size)
      clear hb3 hIs hrow hbl HQ
      go_wp2_with fail
      have hIs : Hid (IsFacts (.slice ao fs.length cap) fs w) := ⟨ao, cap, rfl, hc, hnil, hne.out⟩
      have hb4 : Below w.heap.size w (w3.alloc (.cells #[.int .i64 rk, .int .i64 rl] 28)) := hbl3.alloc hbl3.size _
      refine (HR.out _ _ (by show cap ≤ maxLen; unfold maxLen; omega) (hIs.out.below hb4)).mono ?_
      rintro e w4 ⟨rfl, hb5⟩
      have heb : w4.heap[w3.heap.size]? = some (.cells #[.int .i64 rk, .int .i64 rl] 28 (0, 0)) := Below.heapAt hb5 (heap_new _ _) (by simp)
      have hbl4 : Below w.heap.size w w4 := hb4.trans (hb5.mono hb4.size)
      have hrow4 : RowF w.heap.size (fs ++ List.replicate 8 beyF) [] w4 := Below.heapAt hb5 (heap_old hrow3 _) (by have := lt_of_heap hrow3; simp; omega)
      have hlt34 : w.heap.size < w3.heap.size := lt_of_heap hrow3
      clear hb4 hb5 hrow3 hbl3 HR
      go_wp2_with fail
      have hW : Hid (Below w.heap.size w (w4.alloc (.cells #[.int .i64 rk, .int .i64 rl] 28))) := hbl4.alloc hbl4.size _
      have hR5 : RowF w.heap.size (fs ++ List.replicate 8 beyF) [] (w4.alloc (.cells #[.int .i64 rk, .int .i64 rl] 28)) := heap_old hrow4 _
      have he5 : (w4.alloc (.cells #[.int .i64 rk, .int .i64 rl] 28)).heap[w3.heap.size]? = some (.cells #[.int .i64 rk, .int .i64 rl] 28 (0, 0)) := heap_old heb _
      have hf5 : (w4.alloc (.cells #[.int .i64 rk, .int .i64 rl] 28)).heap[w4.heap.size]? = some (.cells #[.int .i64 rk, .int .i64 rl] 28 (0, 0)) := heap_new _ _
      have hlt45 : w3.heap.size < w4.heap.size := lt_of_heap heb
      clear hrow4 hbl4 heb
      generalize w4.alloc (.cells #[.int .i64 rk, .int .i64 rl] 28) = w5 at hW hR5 he5 hf5 ⊢
      go_loopw [10] (fun i wx => ∃ j : Nat, i = .int .i64 j ∧ j ≤ fs.length + 8 ∧ Below w5.heap.size w5 wx) (fun i _ => (fs.length + 8) - (intOf i).toNat)
      case atStart => exact ⟨0, rfl, Nat.zero_le _, Below.refl _ _⟩
      case round =>
        obtain ⟨j, rfl, hj, hbx⟩ := hrel
        by_cases hj8 : j < fs.length + 8
        · by_cases hjn : j < fs.length
          · obtain ⟨⟨k, p, q⟩, hfn⟩ : ∃ f, fs[j]? = some f := ⟨_, List.getElem?_eq_getElem hjn⟩
            obtain ⟨b, off, hao, hb, hf⟩ := hne.out (by rintro rfl; simp at hjn)
            subst hao
            obtain ⟨d0, d1, d2⟩ := ((hf.below hW.out hb).below (hbx.mono hW.out.size) hb) j k p q hfn
            obtain ⟨e0, e1, e2⟩ := (RowF.cells (show RowF w.heap.size (fs ++ List.replicate 8 beyF) [] _ from Below.heapAt hbx hR5 (lt_of_heap hR5))) j k p q (by rw [List.getElem?_append_left hjn]; exact hfn)
            rw [Nat.zero_add] at e0 e1 e2
            clear hfn hf hR5 he5 hf5
            have hi1 : (j : Int) < (fs.length : Int) := by omega
            have hneq := neq_fact k p q
            have hgf := guardFact
            have hi2 : decide ((fs.length : Int) ≤ (j : Int)) = false := by simp; omega
            have hi3 : ¬ fs.length ≤ j := by omega
            go_wp2
            go_quiet (fail)
            go_wp2
            go_roundw
            case rel => exact ⟨j + 1, by go_num, by omega, hbx.trans (Kb.below ((Kb.refl [] _).drewN _) hbx.size (by simp))⟩
            case measure => simp [intOf]; omega
          · have hget : (fs ++ List.replicate 8 beyF)[j]? = some ⟨0, ⟨#[98, 101, 121, 111, 110, 100]⟩, ⟨#[]⟩⟩ := by
              rw [List.getElem?_append_right (by omega), List.getElem?_replicate, if_pos (by omega)]
              rfl
            obtain ⟨e0, e1, e2⟩ := (RowF.cells (show RowF w.heap.size (fs ++ List.replicate 8 beyF) [] _ from Below.heapAt hbx hR5 (lt_of_heap hR5))) j _ _ _ hget
            rw [Nat.zero_add] at e0 e1 e2
            clear hget hR5 he5 hf5
            have hi1 : (fs.length : Int) ≤ (j : Int) := by omega
            have hneq := neq_fact 0 ⟨#[98, 101, 121, 111, 110, 100]⟩ ⟨#[]⟩
            have hgf := guardFact
            have hi2 : decide ((j : Int) < (fs.length : Int)) = false := by simp; omega
            have hi3 : fs.length ≤ j := by omega
            go_wp2
            go_quiet (fail)
            go_wp2
            go_roundw
            case rel => exact ⟨j + 1, by go_num, by omega, hbx.trans (Kb.below ((Kb.refl [] _).drewN _) hbx.size (by simp))⟩
            case measure => simp [intOf]; omega
        · have hx : Kb [w.heap.size] w5 _ := Kb.of_below hbx _
          have hL3 : L3 w.heap.size w5 _ fs 0 := ⟨Nat.zero_le _, by have := Below.heapAt hbx hR5 (lt_of_heap hR5); exact this, hx⟩
          clear hR5 hx hbx
          go_wp2_with fail
          go_loopw [11] (fun i wx => ∃ j : Nat, i = .int .i64 j ∧ L3 w.heap.size w5 wx fs j) (fun i _ => fs.length - (intOf i).toNat)
          case atStart => exact ⟨0, rfl, hL3⟩
          case round =>
            clear hL3
            obtain ⟨m, rfl, hi⟩ := hrel
            by_cases hmn : m < fs.length
            · obtain ⟨⟨k, p, q⟩, hfn⟩ : ∃ f, fs[m]? = some f := ⟨_, List.getElem?_eq_getElem hmn⟩
              have hrow := hi.row
              rw [drop_here hfn, List.cons_append] at hrow
              have hov := hrow.over 3 ⟨#[120]⟩ ⟨#[121]⟩
              obtain ⟨c0, c1, c2⟩ := hrow.cells m k p q (by rw [List.getElem?_append_right (by simp)]; simp)
              rw [Nat.zero_add] at c0 c1 c2
              have f0 : ∀ o, World.frozen? _ ⟨w.heap.size, o, none⟩ = false := fun o => frozen_at hrow o
              have hkb := hi.kb
              rw [List.length_replicate] at hov
              have HO := hide hov
              clear hov hrow hi hfn
              go_wp2
              go_roundw
              case rel =>
                refine ⟨m + 1, by go_num, hmn, ?_, ((hkb.setCell (p := ⟨w.heap.size, _, none⟩) (Or.inl (by simp)) _).setCell (p := ⟨w.heap.size, _, none⟩) (Or.inl (by simp)) _).setCell (p := ⟨w.heap.size, _, none⟩) (Or.inl (by simp)) _⟩
                rw [List.replicate_succ', List.append_assoc]
                exact HO.out
              case measure => simp [intOf]; omega
            · have hm : m = fs.length := by have := hi.le; omega
              subst hm
              have hrow := hi.row
              have hkb := hi.kb
              clear hi
              have hfit2 : fitsF (List.replicate fs.length xyF) := by
                intro f hf
                rw [(List.mem_replicate.1 hf).2]
                exact ⟨by decide, by decide⟩
              have hl2 : (List.replicate fs.length xyF).length = fs.length := List.length_replicate
              have hIs2 : IsFacts (.slice (some ⟨w.heap.size, 0, none⟩) fs.length (fs.length + 8)) (List.replicate fs.length xyF) wr :=
                ⟨_, _, by rw [hl2], by rw [hl2]; omega, (fun h => by cases h), fun _ => ⟨_, _, rfl, lt_of_heap hrow, by have := hrow.cells.take (List.replicate fs.length xyF).length; rwa [List.take_left] at this⟩⟩
              have HQ : Hid (∀ v w', IsFacts v (List.replicate fs.length xyF) w' → Calls Try.prog 5 #[v] w' fun e w'' => e = .returned (.tuple #[.string ⟨(printGo [] (List.replicate fs.length xyF) []).1.toArray⟩, .agg #[.int .i64 (printGo [] (List.replicate fs.length xyF) []).2.1, .int .i64 (printGo [] (List.replicate fs.length xyF) []).2.2]]) ∧ Below w'.heap.size w' w'') := fun v w' h => qprint_any v _ w' (by rw [hl2]; exact hlen) h hfit2
              have HR : Hid (∀ v w', capOf v ≤ maxLen → IsFacts v (List.replicate fs.length xyF) w' → Calls Try.prog 6 #[v] w' fun e w'' => e = .returned (.tuple #[.string ⟨(printGo [] (List.replicate fs.length xyF) []).1.toArray⟩, .agg #[.int .i64 (printGo [] (List.replicate fs.length xyF) []).2.1, .int .i64 (printGo [] (List.replicate fs.length xyF) []).2.2]]) ∧ Below w'.heap.size w' w'') := fun v w' h h' => rprint_any v _ w' h h' hfit2
              generalize printGo [] (List.replicate fs.length xyF) [] = R at HQ HR
              obtain ⟨rs2, rk2, rl2⟩ := R
              simp only at HQ HR
              have he6 := hkb.heap he5 (by simp; omega)
              have hf6 := hkb.heap hf5 (by simp; omega)
              have hbl6 : Below w.heap.size w wr := hW.out.trans (hkb.below hW.out.size (by simp))
              have hcp8 : fs.length + 8 ≤ maxLen := by unfold maxLen; omega
              clear hkb hrow he5 hf5 hfit2 hW
              go_wp2_with fail
              refine (HQ.out _ _ hIs2).mono ?_
              rintro e w6 ⟨rfl, hb6⟩
              have he7 := Below.heapAt hb6 he6 (lt_of_heap he6)
              have hf7 := Below.heapAt hb6 hf6 (lt_of_heap hf6)
              have hIs3 := hIs2.below hb6
              have hbl7 := hbl6.trans (hb6.mono hbl6.size)
              clear hb6 he6 hf6 hIs2 hbl6 HQ
              go_wp2_with fail
              have hb8 : Below w6.heap.size w6 (w6.alloc (.cells #[.int .i64 rk2, .int .i64 rl2] 28)) := (Below.refl _ _).alloc (Nat.le_refl _) _
              refine (HR.out (.slice (some ⟨w.heap.size, 0, none⟩) fs.length (fs.length + 8)) _ hcp8 (hIs3.below hb8)).mono ?_
              rintro e w7 ⟨rfl, hb9⟩
              have he8 := Below.heapAt hb9 (heap_old he7 _) (by have := lt_of_heap he7; simp; omega)
              have hf8 := Below.heapAt hb9 (heap_old hf7 _) (by have := lt_of_heap hf7; simp; omega)
              have hg8 := Below.heapAt hb9 (heap_new w6 (.cells #[.int .i64 rk2, .int .i64 rl2] 28)) (by simp)
              have hbl8 := (hbl7.trans (hb8.mono hbl7.size)).trans (hb9.mono (by have := hbl7.size; simp; omega))
              clear hb8 hb9 hIs3 he7 hf7 hbl7 HR
              go_wp2_with fail
              have hw1 : ((w7.alloc (.cells #[.int .i64 rk2, .int .i64 rl2] 28)).alloc (.cells #[.int .i64 4, .string ⟨#[112]⟩, .string ⟨#[113]⟩] 25)).heap[w7.heap.size + 1]? = some (.cells (cellsF [⟨4, ⟨#[112]⟩, ⟨#[113]⟩⟩] ++ []).toArray 25 (0, 0)) := by
                have := heap_new (w7.alloc (.cells #[.int .i64 rk2, .int .i64 rl2] 28)) (.cells #[.int .i64 4, .string ⟨#[112]⟩, .string ⟨#[113]⟩] 25)
                have e : (w7.alloc (.cells #[.int .i64 rk2, .int .i64 rl2] 28)).heap.size = w7.heap.size + 1 := by simp
                rw [e] at this
                exact this
              have hIs4 : IsFacts (.slice (some ⟨w7.heap.size + 1, 0, none⟩) 1 1) [⟨4, ⟨#[112]⟩, ⟨#[113]⟩⟩] ((w7.alloc (.cells #[.int .i64 rk2, .int .i64 rl2] 28)).alloc (.cells #[.int .i64 4, .string ⟨#[112]⟩, .string ⟨#[113]⟩] 25)) :=
                ⟨_, _, rfl, Nat.le_refl _, (fun h => by cases h), fun _ => ⟨_, _, rfl, lt_of_heap hw1, RowF.cells (rest := []) hw1⟩⟩
              have hq := qprint_any (.slice (some ⟨w7.heap.size + 1, 0, none⟩) 1 1) [⟨4, ⟨#[112]⟩, ⟨#[113]⟩⟩] _ (by decide) hIs4 (by intro f hf; rw [List.mem_singleton.1 hf]; exact ⟨by decide, by decide⟩)
              rw [print_one] at hq
              have hh8 := heap_old (heap_new w7 (.cells #[.int .i64 rk2, .int .i64 rl2] 28)) (.cells #[.int .i64 4, .string ⟨#[112]⟩, .string ⟨#[113]⟩] 25)
              have he9 := heap_old (heap_old he8 (.cells #[.int .i64 rk2, .int .i64 rl2] 28)) (.cells #[.int .i64 4, .string ⟨#[112]⟩, .string ⟨#[113]⟩] 25)
              have hf9 := heap_old (heap_old hf8 (.cells #[.int .i64 rk2, .int .i64 rl2] 28)) (.cells #[.int .i64 4, .string ⟨#[112]⟩, .string ⟨#[113]⟩] 25)
              have hg9 := heap_old (heap_old hg8 (.cells #[.int .i64 rk2, .int .i64 rl2] 28)) (.cells #[.int .i64 4, .string ⟨#[112]⟩, .string ⟨#[113]⟩] 25)
              have hbl9 := (hbl8.alloc hbl8.size (.cells #[.int .i64 rk2, .int .i64 rl2] 28)).alloc (by have := hbl8.size; simp; omega) (.cells #[.int .i64 4, .string ⟨#[112]⟩, .string ⟨#[113]⟩] 25)
              clear he8 hf8 hg8 hbl8 hw1 hIs4
              refine hq.mono ?_
              clear hq
              rintro e w8 ⟨rfl, hb10⟩
              have he := Below.heapAt hb10 he9 (lt_of_heap he9)
              have hf := Below.heapAt hb10 hf9 (lt_of_heap hf9)
              have hg := Below.heapAt hb10 hg9 (lt_of_heap hg9)
              have hh := Below.heapAt hb10 hh8 (lt_of_heap hh8)
              have hbl := hbl9.trans (hb10.mono hbl9.size)
              clear he9 hf9 hg9 hh8 hbl9 hb10
              have a0 : w8.cell? ⟨w3.heap.size, 0, none⟩ = some (.int .i64 rk) := by rw [cell_at he]; rfl
              have a1 : w8.cell? ⟨w3.heap.size, 1, none⟩ = some (.int .i64 rl) := by rw [cell_at he]; rfl
              have a2 : w8.cell? ⟨w4.heap.size, 0, none⟩ = some (.int .i64 rk) := by rw [cell_at hf]; rfl
              have a3 : w8.cell? ⟨w4.heap.size, 1, none⟩ = some (.int .i64 rl) := by rw [cell_at hf]; rfl
              have a4 : w8.cell? ⟨w6.heap.size, 0, none⟩ = some (.int .i64 rk2) := by rw [cell_at hg]; rfl
              have a5 : w8.cell? ⟨w6.heap.size, 1, none⟩ = some (.int .i64 rl2) := by rw [cell_at hg]; rfl
              have a6 : w8.cell? ⟨w7.heap.size, 0, none⟩ = some (.int .i64 rk2) := by rw [cell_at hh]; rfl
              have a7 : w8.cell? ⟨w7.heap.size, 1, none⟩ = some (.int .i64 rl2) := by rw [cell_at hh]; rfl
              have s3 := lt_of_heap he
              have s4 := lt_of_heap hf
              have s6 := lt_of_heap hg
              have s7 := lt_of_heap hh
              have q1 := eql_err rk rl
              have q2 := eql_err rk2 rl2
              have q3 := guardErr
              clear he hf hg hh
              go_wp2
              go_ret
              exact ⟨rfl, hbl.alloc hbl.size _⟩

end Go.Proofs.Ytiamlbhkiehilaa
