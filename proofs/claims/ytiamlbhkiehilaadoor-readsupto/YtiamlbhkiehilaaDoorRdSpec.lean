import Derived.Test.YtiamlbhkiehilaaDoorCSpec
import Derived.Test.YtiamlbhkiehilaaDoorRows3
namespace Go.Proofs.YtiamlbhkiehilaaDoor
open Go.RowKit Go.Maps

/-- The first place from k on where c stands, or the end. -/
def stopN (s : ByteArray) (c : Int) : Nat → Nat → Nat
  | 0, k => k
  | f + 1, k => if byteAt s k = c then k else stopN s c f (k + 1)
def stop (s : ByteArray) (c : Int) (k : Nat) : Nat := stopN s c (s.size - k) k

theorem stop_end {s : ByteArray} {c : Int} {k : Nat} (h : s.size ≤ k) : stop s c k = k := by
  unfold stop
  rw [Nat.sub_eq_zero_of_le h]
  rfl
theorem stop_yes {s : ByteArray} {c : Int} {k : Nat} (h : k < s.size) (hp : (s[k].toNat : Int) = c) : stop s c k = k := by
  unfold stop
  obtain ⟨f, hf⟩ : ∃ f, s.size - k = f + 1 := ⟨s.size - k - 1, by omega⟩
  rw [hf]
  simp [stopN, byteAt_lt h, hp]
theorem stop_no {s : ByteArray} {c : Int} {k : Nat} (h : k < s.size) (hp : (s[k].toNat : Int) ≠ c) : stop s c k = stop s c (k + 1) := by
  unfold stop
  obtain ⟨f, hf⟩ : ∃ f, s.size - k = f + 1 := ⟨s.size - k - 1, by omega⟩
  have hf2 : s.size - (k + 1) = f := by omega
  rw [hf, hf2]
  simp [stopN, byteAt_lt h, hp]
theorem stopN_ge (s : ByteArray) (c : Int) (f k : Nat) : k ≤ stopN s c f k := by
  induction f generalizing k with
  | zero => exact Nat.le_refl _
  | succ f ih =>
    unfold stopN
    split
    · exact Nat.le_refl _
    · have := ih (k + 1); omega
theorem stop_ge (s : ByteArray) (c : Int) (k : Nat) : k ≤ stop s c k := stopN_ge _ _ _ _
theorem stopN_le (s : ByteArray) (c : Int) (f k : Nat) : stopN s c f k ≤ k + f := by
  induction f generalizing k with
  | zero => exact Nat.le_refl _
  | succ f ih =>
    unfold stopN
    split
    · omega
    · have := ih (k + 1); omega
theorem stop_le {s : ByteArray} {c : Int} {k : Nat} (h : k ≤ s.size) : stop s c k ≤ s.size := by
  have := stopN_le s c (s.size - k) k
  unfold stop
  omega
theorem stopN_before (s : ByteArray) (c : Int) (f k : Nat) : ∀ j, k ≤ j → j < stopN s c f k → byteAt s j ≠ c := by
  induction f generalizing k with
  | zero => intro j h1 h2; simp only [stopN] at h2; omega
  | succ f ih =>
    intro j h1 h2
    unfold stopN at h2
    split at h2
    · omega
    · rename_i hne
      by_cases e : j = k
      · subst e; exact hne
      · exact ih (k + 1) j (by omega) h2
theorem stop_before {s : ByteArray} {c : Int} {k j : Nat} (h1 : k ≤ j) (h2 : j < stop s c k) : byteAt s j ≠ c := stopN_before _ _ _ _ j h1 h2
theorem stopN_at (s : ByteArray) (c : Int) (f k : Nat) (h : stopN s c f k < k + f) : byteAt s (stopN s c f k) = c := by
  induction f generalizing k with
  | zero => simp only [stopN] at h; omega
  | succ f ih =>
    unfold stopN at h ⊢
    split
    · assumption
    · rename_i hne
      rw [if_neg hne] at h
      exact ih (k + 1) (by omega)
theorem stop_at {s : ByteArray} {c : Int} {k : Nat} (hk : k ≤ s.size) (h : stop s c k < s.size) : byteAt s (stop s c k) = c := by
  unfold stop at h ⊢
  exact stopN_at _ _ _ _ (by omega)

/-- What stands behind blanks. -/
def tosN (s : ByteArray) : Nat → Nat → List ByteArray
  | 0, _ => []
  | f + 1, i => if s.size ≤ i then [] else s.extract (i + 1) (stop s 32 (i + 1)) :: tosN s f (stop s 32 (i + 1))
def tosR (s : ByteArray) (i : Nat) : List ByteArray := tosN s (s.size - i) i

theorem tosN_end (s : ByteArray) (f i : Nat) (h : s.size ≤ i) : tosN s f i = [] := by
  cases f with
  | zero => rfl
  | succ f => simp only [tosN, if_pos h]
theorem tosN_fuel (s : ByteArray) (f g i : Nat) (hf : s.size - i ≤ f) (hg : s.size - i ≤ g) : tosN s f i = tosN s g i := by
  induction f generalizing g i with
  | zero => rw [tosN_end s 0 i (by omega), tosN_end s g i (by omega)]
  | succ f ih =>
    by_cases h : s.size ≤ i
    · rw [tosN_end s _ i h, tosN_end s _ i h]
    · obtain ⟨g, rfl⟩ : ∃ g', g = g' + 1 := ⟨g - 1, by omega⟩
      have hn := stop_ge s 32 (i + 1)
      unfold tosN
      rw [ih g (stop s 32 (i + 1)) (by omega) (by omega)]
theorem tosR_end {s : ByteArray} {i : Nat} (h : s.size ≤ i) : tosR s i = [] := tosN_end _ _ _ h
theorem tosR_step {s : ByteArray} {i : Nat} (h : i < s.size) : tosR s i = s.extract (i + 1) (stop s 32 (i + 1)) :: tosR s (stop s 32 (i + 1)) := by
  obtain ⟨f, hf⟩ : ∃ f, s.size - i = f + 1 := ⟨s.size - i - 1, by omega⟩
  have hn := stop_ge s 32 (i + 1)
  have e1 : tosR s (stop s 32 (i + 1)) = tosN s f (stop s 32 (i + 1)) := tosN_fuel _ _ _ _ (by omega) (by omega)
  rw [e1]
  unfold tosR
  rw [hf]
  simp only [tosN]
  rw [if_neg (by omega)]

/-- A line as a row, by the document's cut at the first colon and at blanks. -/
def refRow (s : ByteArray) : Option RowD :=
  if s.size ≤ stop s 58 0 then none
  else if s.size ≤ stop s 58 0 + 1 ∨ byteAt s (stop s 58 0 + 1) = 32 then some ⟨s.extract 0 (stop s 58 0), tosR s (stop s 58 0 + 1)⟩
  else none

/-- A line as a row of names. -/
def lineRow (s : ByteArray) : Option RowD :=
  match refRow s with
  | some r => if rowNames r = true then some r else none
  | none => none

/-- What stands behind blanks, by the machine: names alone. -/
def gapN (s : ByteArray) : Nat → Nat → List ByteArray → Option (List ByteArray)
  | 0, _, out => some out
  | f + 1, i, out =>
    if s.size ≤ i then some out
    else if byteAt s i = 32 ∧ startB (byteAt s (i + 1)) = true then gapN s f (nEnd s (i + 2)) (out ++ [s.extract (i + 1) (nEnd s (i + 2))])
    else none
def gapR (s : ByteArray) (i : Nat) (out : List ByteArray) : Option (List ByteArray) := gapN s (s.size - i) i out

theorem gapN_end (s : ByteArray) (f i : Nat) (out : List ByteArray) (h : s.size ≤ i) : gapN s f i out = some out := by
  cases f with
  | zero => rfl
  | succ f => simp only [gapN, if_pos h]
theorem gapN_fuel (s : ByteArray) (f g i : Nat) (out : List ByteArray) (hf : s.size - i ≤ f) (hg : s.size - i ≤ g) : gapN s f i out = gapN s g i out := by
  induction f generalizing g i out with
  | zero => rw [gapN_end s 0 i out (by omega), gapN_end s g i out (by omega)]
  | succ f ih =>
    by_cases h : s.size ≤ i
    · rw [gapN_end s _ i out h, gapN_end s _ i out h]
    · obtain ⟨g, rfl⟩ : ∃ g', g = g' + 1 := ⟨g - 1, by omega⟩
      have hn := nEnd_ge s (i + 2)
      unfold gapN
      rw [ih g (nEnd s (i + 2)) _ (by omega) (by omega)]
theorem gapR_end {s : ByteArray} {i : Nat} {out : List ByteArray} (h : s.size ≤ i) : gapR s i out = some out := gapN_end _ _ _ _ h
theorem gapR_step {s : ByteArray} {i : Nat} {out : List ByteArray} (h : i < s.size) : gapR s i out =
    if byteAt s i = 32 ∧ startB (byteAt s (i + 1)) = true then gapR s (nEnd s (i + 2)) (out ++ [s.extract (i + 1) (nEnd s (i + 2))]) else none := by
  obtain ⟨f, hf⟩ : ∃ f, s.size - i = f + 1 := ⟨s.size - i - 1, by omega⟩
  have hn := nEnd_ge s (i + 2)
  have e1 : ∀ o, gapR s (nEnd s (i + 2)) o = gapN s f (nEnd s (i + 2)) o := fun o => gapN_fuel _ _ _ _ _ (by omega) (by omega)
  rw [e1]
  unfold gapR
  rw [hf]
  simp only [gapN]
  rw [if_neg (by omega)]

/-- A line as a row of names, by the machine. -/
def macRow (s : ByteArray) : Option RowD :=
  if startB (byteAt s 0) = true ∧ byteAt s (nEnd s 1) = 58 then (gapR s (nEnd s 1 + 1) []).map (fun t => ⟨s.extract 0 (nEnd s 1), t⟩) else none

theorem byteAt_ge {s : ByteArray} {k : Nat} (h : s.size ≤ k) : byteAt s k = 0 := by
  unfold byteAt
  rw [dif_neg (by omega)]

theorem lt_of_byte {s : ByteArray} {k : Nat} {p : Int → Prop} (h : p (byteAt s k)) (h0 : ¬ p 0) : k < s.size := by
  by_cases hk : k < s.size
  · exact hk
  · rw [byteAt_ge (by omega)] at h
    exact absurd h h0

theorem start_lt {s : ByteArray} {k : Nat} (h : startB (byteAt s k) = true) : k < s.size := lt_of_byte (p := fun c => startB c = true) h (by decide)

/-- When a piece is a name. -/
theorem isN_extract (s : ByteArray) (a k : Nat) (hk : k ≤ s.size) : isN (s.extract a k) = true ↔ a < k ∧ startB (byteAt s a) = true ∧ ∀ j, a < j → j < k → partB (byteAt s j) = true := by
  by_cases hak : a < k
  · have e : (s.extract a k).data.toList = s[a] :: (s.data.toList.drop (a + 1)).take (k - (a + 1)) := by
      rw [ByteArray.data_extract, Array.toList_extract, List.extract_eq_take_drop, List.drop_eq_getElem_cons (by simp; omega)]
      have e2 : k - a = (k - (a + 1)) + 1 := by omega
      rw [e2, List.take_succ_cons]
      rfl
    unfold isN
    rw [e]
    simp only [nameB, Bool.and_eq_true, partsB, List.all_eq_true]
    rw [byteAt_lt (show a < s.size by omega)]
    constructor
    · rintro ⟨h1, h2⟩
      refine ⟨hak, h1, fun j hj1 hj2 => ?_⟩
      rw [byteAt_lt (show j < s.size by omega)]
      refine h2 s[j] ?_
      refine List.mem_iff_getElem.2 ⟨j - (a + 1), by simp; omega, ?_⟩
      simp only [List.getElem_take, List.getElem_drop, Array.getElem_toList]
      have : a + 1 + (j - (a + 1)) = j := by omega
      simp only [this]
      rfl
    · rintro ⟨_, h1, h2⟩
      refine ⟨h1, fun c hc => ?_⟩
      obtain ⟨j, hj, hje⟩ := List.mem_iff_getElem.1 hc
      simp at hj
      have := h2 (a + 1 + j) (by omega) (by omega)
      rw [byteAt_lt (show a + 1 + j < s.size by omega)] at this
      have e3 : c = s[a + 1 + j] := by
        rw [← hje]
        simp
        rfl
      rw [e3]
      exact this
  · constructor
    · intro h
      exfalso
      have hz : (s.extract a k).size = 0 := by rw [ByteArray.size_extract]; omega
      have := nameB_empty _ hz
      unfold isN at h
      rw [this] at h
      cases h
    · rintro ⟨h, _⟩
      exact absurd h hak

theorem nEnd_part {s : ByteArray} {k j : Nat} (hk : k ≤ s.size) (h1 : k ≤ j) (h2 : j < nEnd s k) : partB (byteAt s j) = true := nEnd_parts s (s.size - k) k (by omega) j h1 h2

theorem nEnd_eq {s : ByteArray} {a k : Nat} (hak : a ≤ k) (hk : k ≤ s.size) (hp : ∀ j, a ≤ j → j < k → partB (byteAt s j) = true) (he : partB (byteAt s k) = false) : nEnd s a = k := by
  induction hd : k - a generalizing a with
  | zero =>
    have : a = k := by omega
    subst this
    by_cases hlt : a < s.size
    · exact nEnd_no hlt (by rw [← byteAt_lt hlt]; exact he)
    · exact nEnd_end (by omega)
  | succ d ih =>
    have h1 := hp a (Nat.le_refl _) (by omega)
    rw [byteAt_lt (show a < s.size by omega)] at h1
    rw [nEnd_yes (by omega) h1]
    exact ih (by omega) (fun j h1 h2 => hp j (by omega) h2) (by omega)

theorem nEnd_stop {s : ByteArray} {a : Nat} (h : a ≤ s.size) : partB (byteAt s (nEnd s a)) = false := by
  induction hd : s.size - a generalizing a with
  | zero => rw [nEnd_end (by omega), byteAt_ge (by omega)]; decide
  | succ d ih =>
    cases hp : partB (s[a].toNat : Int)
    · rw [nEnd_no (by omega) hp, byteAt_lt (by omega)]; exact hp
    · rw [nEnd_yes (by omega) hp]
      exact ih (by omega) (by omega)

/-- A piece up to a sign that no name holds is a name just where the machine finds its end there. -/
theorem piece_name {s : ByteArray} {c : Int} (hc : partB c = false) {a : Nat} (ha : a ≤ s.size) : isN (s.extract a (stop s c a)) = true ↔ startB (byteAt s a) = true ∧ nEnd s (a + 1) = stop s c a := by
  have hge := stop_ge s c a
  have hle := stop_le (c := c) ha
  have hend : partB (byteAt s (stop s c a)) = false := by
    by_cases h : stop s c a < s.size
    · rw [stop_at ha h]; exact hc
    · rw [byteAt_ge (by omega)]; decide
  rw [isN_extract _ _ _ hle]
  constructor
  · rintro ⟨h1, h2, h3⟩
    exact ⟨h2, nEnd_eq (by omega) hle (fun j hj1 hj2 => h3 j (by omega) hj2) hend⟩
  · rintro ⟨h1, h2⟩
    have hlt := start_lt h1
    have h3 := nEnd_ge s (a + 1)
    exact ⟨by omega, h1, fun j hj1 hj2 => nEnd_part (k := a + 1) (by omega) (by omega) (by omega)⟩

/-- Where the machine's end falls short of the sign, no sign stands there. -/
theorem piece_short {s : ByteArray} {c : Int} (hc : partB c = false) {a : Nat} (ha : a < s.size) (hs : startB (byteAt s a) = true) (hne : nEnd s (a + 1) ≠ stop s c a) : nEnd s (a + 1) < stop s c a ∧ byteAt s (nEnd s (a + 1)) ≠ c := by
  have hge := stop_ge s c a
  have hle := stop_le (c := c) (k := a) (by omega : a ≤ s.size)
  have h3 := nEnd_ge s (a + 1)
  have h4 := nEnd_le (s := s) (k := a + 1) ha
  have hlt : nEnd s (a + 1) < stop s c a := by
    rcases Nat.lt_or_ge (nEnd s (a + 1)) (stop s c a) with h | h
    · exact h
    · exfalso
      have h5 : stop s c a < nEnd s (a + 1) := by omega
      have h6 := stop_at (c := c) (k := a) (s := s) (by omega) (by omega)
      by_cases e : stop s c a = a
      · rw [e] at h6
        rw [h6] at hs
        rw [part_of_start hs] at hc
        cases hc
      · have := nEnd_part (s := s) (k := a + 1) (by omega) (by omega) h5
        rw [h6, hc] at this
        cases this
  exact ⟨hlt, stop_before (by omega) hlt⟩

theorem gap_tos (s : ByteArray) : ∀ (d i : Nat) (out : List ByteArray), s.size - i = d → i ≤ s.size → (i < s.size → byteAt s i = 32) →
    gapR s i out = if (tosR s i).all isN = true then some (out ++ tosR s i) else none := by
  intro d
  induction d using Nat.strongRecOn with
  | _ d ih =>
    intro i out hd hi hb
    by_cases hlt : i < s.size
    · rw [gapR_step hlt, tosR_step hlt]
      have hb := hb hlt
      have hge := stop_ge s 32 (i + 1)
      have hle := stop_le (s := s) (c := 32) (k := i + 1) hlt
      have hpn := piece_name (s := s) (c := 32) (by decide) (a := i + 1) hlt
      by_cases hs : startB (byteAt s (i + 1)) = true
      · rw [if_pos ⟨hb, hs⟩]
        have hlt1 := start_lt hs
        by_cases he : nEnd s (i + 1 + 1) = stop s 32 (i + 1)
        · have hn := hpn.2 ⟨hs, he⟩
          rw [show i + 2 = i + 1 + 1 from rfl, he, ih (s.size - stop s 32 (i + 1)) (by omega) _ _ rfl hle (fun h => stop_at hlt h)]
          simp only [List.all_cons, hn, Bool.true_and, List.append_assoc, List.cons_append, List.nil_append]
        · have hn : isN (s.extract (i + 1) (stop s 32 (i + 1))) = false := by
            rw [Bool.eq_false_iff]
            intro h
            exact he (hpn.1 h).2
          obtain ⟨h1, h2⟩ := piece_short (c := 32) (by decide) hlt1 hs he
          rw [show i + 2 = i + 1 + 1 from rfl, gapR_step (by omega), if_neg (fun h => h2 h.1)]
          simp [hn]
      · rw [if_neg (fun h => hs h.2)]
        have hn : isN (s.extract (i + 1) (stop s 32 (i + 1))) = false := by
          rw [Bool.eq_false_iff]
          intro h
          exact hs (hpn.1 h).1
        simp [hn]
    · rw [gapR_end (by omega), tosR_end (by omega)]
      simp

theorem mac_line (s : ByteArray) : macRow s = lineRow s := by
  unfold macRow lineRow refRow
  have hge := stop_ge s 58 0
  have hle := stop_le (s := s) (c := 58) (k := 0) (Nat.zero_le _)
  have hpn := piece_name (s := s) (c := 58) (by decide) (a := 0) (Nat.zero_le _)
  by_cases hs : startB (byteAt s 0) = true
  · have hlt := start_lt hs
    by_cases he : nEnd s (0 + 1) = stop s 58 0
    · have hn := hpn.2 ⟨hs, he⟩
      have he' : nEnd s 1 = stop s 58 0 := he
      rw [he']
      by_cases hend : s.size ≤ stop s 58 0
      · rw [if_neg (fun h => by rw [byteAt_ge hend] at h; exact absurd h.2 (by decide)), if_pos hend]
      · rw [if_neg hend, if_pos ⟨hs, stop_at (Nat.zero_le _) (by omega)⟩]
        by_cases hb : s.size ≤ stop s 58 0 + 1 ∨ byteAt s (stop s 58 0 + 1) = 32
        · rw [if_pos hb, gap_tos s _ (stop s 58 0 + 1) [] rfl (by omega) (fun h => by
            rcases hb with hb | hb
            · omega
            · exact hb)]
          simp only [rowNames, hn, Bool.true_and, List.nil_append]
          split <;> rfl
        · rw [if_neg hb]
          obtain ⟨hb1, hb2⟩ := not_or.1 hb
          rw [gapR_step (by omega), if_neg (fun h => hb2 h.1)]
          rfl
    · obtain ⟨h1, h2⟩ := piece_short (c := 58) (by decide) hlt hs he
      have hn : isN (s.extract 0 (stop s 58 0)) = false := by
        rw [Bool.eq_false_iff]
        intro h
        exact he (hpn.1 h).2
      rw [if_neg (fun h => h2 h.2)]
      split
      · rename_i r hr
        split at hr
        · cases hr
        · split at hr
          · injection hr with hr
            rw [← hr]
            simp [rowNames, hn]
          · cases hr
      · rfl
  · have hn : isN (s.extract 0 (stop s 58 0)) = false := by
      rw [Bool.eq_false_iff]
      intro h
      exact hs (hpn.1 h).1
    rw [if_neg (fun h => hs h.1)]
    split
    · rename_i r hr
      split at hr
      · cases hr
      · split at hr
        · injection hr with hr
          rw [← hr]
          simp [rowNames, hn]
        · cases hr
    · rfl

/-- The error of a line behind a name. -/
def lineErr (s ahead : ByteArray) : Int :=
  match lineRow s with
  | some r => chk true r ahead
  | none => 4

/-- What Read answers of the rest of the lines, behind n of them and the rows that they are; nothing stands in the last. -/
def readGo : List RowD → ByteArray → Nat → List ByteArray → List RowD × Int × Int
  | pre, _, _, [] => (pre, 0, 0)
  | pre, _, n, [l] => if l.size = 0 then (pre, 0, 0) else ([], 4, (n : Int) + 1)
  | pre, last, n, l :: l' :: r =>
    match lineRow l with
    | none => ([], 4, (n : Int) + 1)
    | some x => if chk true x last = 0 then readGo (pre ++ [x]) x.name (n + 1) (l' :: r) else ([], chk true x last, (n : Int) + 1)

def readB (s : ByteArray) : List RowD × Int × Int := if 25000 < s.size then ([], 2, 0) else readGo [] noB 0 (linesB s)

end Go.Proofs.YtiamlbhkiehilaaDoor
