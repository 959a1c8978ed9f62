import Derived.Test.YtiamlbhkiehilaaGreatDoorBk13
namespace Go.Proofs.YtiamlbhkiehilaaGreatDoor
open Go.RowKit Go.Maps

/-- Rows as cells: each name, and where its list lies. -/
def cellsP (ps : List (RowD × Value)) : List Value := ps.flatMap fun x => [.string x.1.name, x.2]

theorem cellsP_length (ps : List (RowD × Value)) : (cellsP ps).length = ps.length * 2 := by
  induction ps with
  | nil => rfl
  | cons f r ih =>
    have : cellsP (f :: r) = .string f.1.name :: f.2 :: cellsP r := by simp [cellsP]
    rw [this, List.length_cons, List.length_cons, ih, List.length_cons]
    omega

theorem cellsP_get (ps : List (RowD × Value)) (i : Nat) (r : RowD) (tv : Value) (h : ps[i]? = some (r, tv)) : (cellsP ps)[i * 2]? = some (.string r.name) ∧ (cellsP ps)[i * 2 + 1]? = some tv := by
  induction ps generalizing i with
  | nil => simp at h
  | cons f q ih =>
    have e : cellsP (f :: q) = .string f.1.name :: f.2 :: cellsP q := by simp [cellsP]
    rw [e]
    cases i with
    | zero =>
      simp at h
      subst h
      exact ⟨rfl, rfl⟩
    | succ i =>
      rw [List.getElem?_cons_succ] at h
      have := ih i h
      rw [show (i + 1) * 2 = i * 2 + 1 + 1 by omega, show i * 2 + 1 + 1 + 1 = (i * 2 + 1) + 1 + 1 by omega]
      simpa using this

/-- Rows in memory of their own: the row's block and those of its lists lie between lo and hi, and no two lists share one. -/
structure OwnR (w : World) (lo hi : Nat) (v : Value) (ps : List (RowD × Value)) : Prop where
  row : w.ownsRow lo 51 2 v ps.length (cellsP ps)
  top : ∀ g, v.ownBlock = some g → g < hi
  tos : ∀ (i : Nat) r tv, ps[i]? = some (r, tv) → w.ownsRow lo 9 1 tv r.to.length (r.to.map Value.string)
  ttop : ∀ (i : Nat) r tv, ps[i]? = some (r, tv) → ∀ g, tv.ownBlock = some g → g < hi
  sep : ∀ (i j : Nat) x y, i < j → ps[i]? = some x → ps[j]? = some y → x.2.ownBlock = none ∨ x.2.ownBlock ≠ y.2.ownBlock

/-- Blocks of other kinds than the book's, and outside of lo to hi, stay. -/
def FT (lo hi : Nat) (w w' : World) : Prop := ∀ (k : Nat) (c : Array Value) (e : TypeId) (fz : Nat × Nat), w.heap[k]? = some (.cells c e fz) → e ≠ 44 → e ≠ 40 → e ≠ 75 → (k < lo ∨ hi ≤ k) → w'.heap[k]? = some (.cells c e fz)

theorem FT.refl (lo hi : Nat) (w : World) : FT lo hi w w := fun _ _ _ _ h _ _ _ _ => h
theorem FT.trans {lo hi : Nat} {a b c : World} (h : FT lo hi a b) (g : FT lo hi b c) : FT lo hi a c := fun k cs e fz hk h1 h2 h3 h4 => g k cs e fz (h k cs e fz hk h1 h2 h3 h4) h1 h2 h3 h4
theorem FT.below {lo hi : Nat} {w w' : World} (h : Below w.heap.size w w') : FT lo hi w w' := fun _ _ _ _ hk _ _ _ _ => Below.heapAt h hk (lt_of_heap hk)
theorem FT.own {lo hi : Nat} {w w' : World} (h : FT lo hi w w') {B : Nat} {e : TypeId} {size n : Nat} {v : Value} {xs : List Value} (ho : w.ownsRow B e size v n xs) (h1 : e ≠ 44) (h2 : e ≠ 40) (h3 : e ≠ 75)
    (hg : ∀ g, v.ownBlock = some g → g < lo ∨ hi ≤ g) : w'.ownsRow B e size v n xs := by
  refine ⟨ho.1, ?_⟩
  rcases ho.2 with q | ⟨g, cap, cur, rfl, q2, q3, q4⟩
  · exact .inl q
  · exact .inr ⟨g, cap, cur, rfl, q2, h g _ _ _ q3 h1 h2 h3 (hg g rfl), q4⟩

structure KR1 (B kb lo hi : Nat) (ts rs : List Value) (R v : Value) (ps : List (RowD × Value)) (w wr : World) (i : Nat) (ts' : List Value) (T' : Value) : Prop where
  le : i ≤ ps.length
  len : ts'.length = ts.length + 4 * i
  book : BookR B kb ts' T' rs R wr
  row : wr.ownsRow lo 51 2 v ps.length (cellsP ps)
  tos : ∀ (j : Nat) r tv, i ≤ j → ps[j]? = some (r, tv) → wr.ownsRow lo 9 1 tv r.to.length (r.to.map Value.string)
  apart : ∀ (j : Nat) r tv u, i ≤ j → ps[j]? = some (r, tv) → u ∈ ts' → u.ownBlock = none ∨ u.ownBlock ≠ tv.ownBlock
  new : ∀ u ∈ ts', u ∈ ts ∨ ∀ g, u.ownBlock = some g → (lo ≤ g ∧ g < hi) ∨ w.heap.size ≤ g
  blw : Below B w wr
  ft : FT lo hi w wr

theorem KR1.next {B kb lo hi : Nat} {ts rs : List Value} {R v : Value} {ps : List (RowD × Value)} {w wr w2 : World} {i : Nat} {ts' : List Value} {T' T2 l1 l2 l3 : Value} {r : RowD} {tv : Value} (h : KR1 B kb lo hi ts rs R v ps w wr i ts' T') (hBl : B ≤ lo) (hlt : ps[i]? = some (r, tv))
    (hO : OwnR w lo hi v ps) (hb : BookR B kb (ts' ++ [tv, l1, l2, l3]) T2 rs R w2) (hn : ∀ u ∈ [l1, l2, l3], u.ownBlock = tv.ownBlock ∨ ∃ g, u.ownBlock = some g ∧ wr.heap.size ≤ g) (hk : Kb (may kb T' tv) wr w2) : KR1 B kb lo hi ts rs R v ps w w2 (i + 1) (ts' ++ [tv, l1, l2, l3]) T2 := by
  have htv := h.tos i r tv (Nat.le_refl _) hlt
  have hin : ∀ g, tv.ownBlock = some g → lo ≤ g ∧ g < hi := fun g hg => ⟨(htv.lt g hg).1, hO.ttop i r tv hlt g hg⟩
  have hfar : ∀ {e : TypeId} {size n : Nat} {u : Value} {xs : List Value}, wr.ownsRow lo e size u n xs → e ≠ 44 → e ≠ 75 → (u.ownBlock = none ∨ u.ownBlock ≠ tv.ownBlock) → w2.ownsRow lo e size u n xs := by
    intro e size n u xs ho h1 h2 h3
    refine own_kbL ho hk (fun g hg heq => ?_)
    simp only [may, List.mem_cons, List.mem_append, Option.mem_toList] at hg
    rcases hg with rfl | hg | hg
    · exact own_head ho h.book.head h2 heq.symm
    · rcases own_ne ho h.book.trow h1 with h' | h'
      · rw [h'] at heq; cases heq
      · exact h' (heq.trans hg.symm)
    · rcases h3 with h' | h'
      · rw [h'] at heq; cases heq
      · exact h' (heq.trans hg.symm)
  refine ⟨by have := lt_get hlt; omega, by rw [List.length_append, h.len]; show _ + 4 = _; omega, hb, ?_, ?_, ?_, ?_, ?_, ?_⟩
  · exact hfar h.row (by decide) (by decide) (own_ne h.row htv (by decide))
  · intro j r' tv' hj hg
    refine hfar (h.tos j r' tv' (by omega) hg) (by decide) (by decide) ?_
    rcases hO.sep i j _ _ (by omega) hlt hg with h' | h'
    · cases hq : tv'.ownBlock with
      | none => exact .inl rfl
      | some g => exact .inr (by rw [h']; simp)
    · exact .inr (fun e => h' e.symm)
  · intro j r' tv' u hj hg hu
    rcases List.mem_append.1 hu with hu | hu
    · exact h.apart j r' tv' u (by omega) hg hu
    · have hs := hO.sep i j _ _ (by omega) hlt hg
      rcases List.mem_cons.1 hu with rfl | hu
      · exact hs
      · rcases hn u hu with h' | ⟨g, h', hge⟩
        · rw [h']; exact hs
        · refine .inr (fun e => ?_)
          rw [h'] at e
          have := ((h.tos j r' tv' (by omega) hg).lt g e.symm).2
          omega
  · intro u hu
    rcases List.mem_append.1 hu with hu | hu
    · exact h.new u hu
    · refine .inr ?_
      rcases List.mem_cons.1 hu with rfl | hu
      · exact fun g hg => .inl (hin g hg)
      · intro g hg
        rcases hn u hu with h' | ⟨g', h', hge⟩
        · rw [h'] at hg; exact .inl (hin g hg)
        · rw [h'] at hg
          injection hg with hg
          exact .inr (by have := h.blw.size; omega)
  · refine h.blw.trans (hk.below (by have := lt_of_heap h.book.head; have := h.book.le; omega) (fun k hm => ?_))
    simp only [may, List.mem_cons, List.mem_append, Option.mem_toList] at hm
    rcases hm with rfl | hm | hm
    · exact h.book.le
    · exact (h.book.trow.lt k hm).1
    · have := (hin k hm).1; omega
  · refine h.ft.trans (fun k c e fz hk' h1 h2 h3 h4 => hk.heap hk' (fun hm => ?_))
    simp only [may, List.mem_cons, List.mem_append, Option.mem_toList] at hm
    rcases hm with rfl | hm | hm
    · have := h.book.head
      rw [hk'] at this
      injection this with this
      injection this with _ this
      exact h3 this
    · exact own_head h.book.trow hk' (fun e => h1 e.symm) hm.symm
    · have := hin k hm; omega

/-- What holds at the head of each round of the second loop. -/
structure KInvR (lo : Nat) (w1 wr : World) (l : Value) (ps : List (RowD × Value)) (m : RowD × Value) (i : Nat) : Prop where
  le : i ≤ ps.length
  own : wr.ownsRow lo 51 2 l ps.length (cellsP (List.replicate i m ++ ps.drop i))
  kb : Kb l.ownBlock.toList w1 wr

theorem set2L (cs : List Value) (x y a b : Value) (r : List Value) : ((cs ++ x :: y :: r).set cs.length a).set (cs.length + 1) b = cs ++ a :: b :: r := by simp

theorem set2P (A C : List (RowD × Value)) (f : RowD × Value) (n : ByteArray) (tv : Value) (t : List ByteArray) : ((cellsP (A ++ f :: C)).set (A.length * 2) (.string n)).set (A.length * 2 + 1) tv = cellsP (A ++ (⟨n, t⟩, tv) :: C) := by
  have e : ∀ f : RowD × Value, cellsP (A ++ f :: C) = cellsP A ++ .string f.1.name :: f.2 :: cellsP C := fun f => by simp [cellsP]
  have h := set2L (cellsP A) (.string f.1.name) f.2 (.string n) tv (cellsP C)
  rw [cellsP_length] at h
  rw [e, e]
  exact h

theorem cellsP_rep (n : Nat) (m : ByteArray) (tv : Value) (t : List ByteArray) : cellsP (List.replicate n (⟨m, t⟩, tv)) = repC n [.string m, tv] := by
  induction n with
  | zero => rfl
  | succ n ih => rw [List.replicate_succ, repC_succ, ← ih]; simp [cellsP]

set_option maxRecDepth 100000 in
set_option maxHeartbeats 2000000 in
theorem keepRows_any (B kb lo hi : Nat) (ts : List Value) (T : Value) (rs : List Value) (R v : Value) (ps : List (RowD × Value)) (w : World) (hBl : B ≤ lo) (hlo : lo ≤ w.heap.size) (hmod : ts.length % 4 = 0) (hmodr : rs.length % 4 = 0) (hls : ts.length ≤ 500000000000) (hlr : rs.length ≤ 1000000000) (hpn : ps.length ≤ 30000) (hto : ∀ x ∈ ps, x.1.to.length ≤ 30000)
    (hB : BookR B kb ts T rs R w) (hO : OwnR w lo hi v ps) (hap : ∀ u ∈ ts ++ rs, ∀ g, u.ownBlock = some g → g < lo ∨ hi ≤ g) :
    Calls Tryz.prog 45 #[.pointer (some ⟨kb, 0, none⟩), v] w fun e w' =>
      e = .returned (.tuple #[]) ∧ ∃ ts' T' R' l1 l2 l3, BookR B kb ts' T' (rs ++ [v, l1, l2, l3]) R' w' ∧ ts'.length = ts.length + 4 * ps.length ∧ (∀ u ∈ ts', u ∈ ts ∨ ∀ g, u.ownBlock = some g → (lo ≤ g ∧ g < hi) ∨ w.heap.size ≤ g) ∧ (∀ u ∈ [v, l1, l2, l3], ∀ g, u.ownBlock = some g → (lo ≤ g ∧ g < hi) ∨ w.heap.size ≤ g) ∧ Below B w w' ∧ FT lo hi w w' := by
  obtain ⟨i0, hi0, hz0, hz1, hz2⟩ := info_parts infoRow
  obtain ⟨j0, hj0, hy0, hy1, hy2⟩ := info_parts infoRows
  obtain ⟨Ra, Rc, rfl, _⟩ := own_form hB.rrow
  obtain ⟨ao, cap, rfl, hao⟩ := own_form hO.row
  have hkl := lt_of_heap hB.head
  have hBk := hB.le
  have hK1 : KR1 B kb lo hi ts rs (.slice Ra rs.length Rc) (.slice ao ps.length cap) ps w w 0 ts T := ⟨Nat.zero_le _, rfl, hB, hO.row, fun j r tv _ h => hO.tos j r tv h, fun j r tv u _ h hu => by
      cases hq : u.ownBlock with
      | none => exact .inl rfl
      | some g =>
        refine .inr (fun e => ?_)
        have h1 := hap u (List.mem_append_left _ hu) g hq
        have h2 := ((hO.tos j r tv h).lt g e.symm).1
        have h3 := hO.ttop j r tv h g e.symm
        omega, fun u hu => .inl hu, Below.refl _ _, FT.refl _ _ _⟩
  have HO := hide hO
  have HAP := hide hap
  have HTO := hide hto
  clear hB hO hap hto
  go_enter Tryz.func45, Tryz.ntmps45
  go_wp2
  go_loopw [4] (fun iv wr => ∃ (i : Nat) (ts' : List Value) (T' : Value), iv = .int .i64 i ∧ KR1 B kb lo hi ts rs (.slice Ra rs.length Rc) (.slice ao ps.length cap) ps w wr i ts' T') (fun iv _ => ps.length - (intOf iv).toNat)
  case atStart => exact ⟨0, ts, T, rfl, hK1⟩
  case round =>
    clear hK1
    obtain ⟨i, ts', T', rfl, hk⟩ := hrel
    by_cases hlt : i < ps.length
    · obtain ⟨g, rfl⟩ := hao (by omega)
      obtain ⟨⟨r, tv⟩, hg⟩ : ∃ x, ps[i]? = some x := ⟨_, List.getElem?_eq_getElem hlt⟩
      obtain ⟨hc, hz⟩ := own_cell hk.row
      have a0 := hc _ _ (cellsP_get ps i r tv hg).2
      have hlen := hk.len
      have hkt := keepTexts_any B kb ts' T' rs (.slice Ra rs.length Rc) tv r.to wr (by omega) (by omega) (HTO.out (r, tv) (List.mem_of_getElem? hg)) hk.book (own_mono (hk.tos i r tv (Nat.le_refl _) hg) hBl) (fun u hu => hk.apart i r tv u (Nat.le_refl _) hg hu)
      have HN : Hid (∀ w2 T2 l1 l2 l3, BookR B kb (ts' ++ [tv, l1, l2, l3]) T2 rs (.slice Ra rs.length Rc) w2 → (∀ u ∈ [l1, l2, l3], u.ownBlock = tv.ownBlock ∨ ∃ g, u.ownBlock = some g ∧ wr.heap.size ≤ g) → Kb (may kb T' tv) wr w2 → KR1 B kb lo hi ts rs (.slice Ra rs.length Rc) (.slice (some ⟨g, 0, none⟩) ps.length cap) ps w w2 (i + 1) (ts' ++ [tv, l1, l2, l3]) T2) :=
        fun w2 T2 l1 l2 l3 h1 h2 h3 => hk.next hBl hg HO.out h1 h2 h3
      clear hc hz hg hk hlen
      go_wp2_with fail
      refine hkt.mono ?_
      rintro e w2 ⟨rfl, T2, l1, l2, l3, hb2, hn2, hk2⟩
      have hnx := HN.out w2 T2 l1 l2 l3 hb2 hn2 hk2
      clear hkt hb2 hn2 hk2
      go_wp2
      go_roundw
      case rel => exact ⟨i + 1, _, _, by go_num, hnx⟩
      case measure => simp [intOf]; omega
    · have hin : i = ps.length := by have := hk.le; omega
      subst hin
      have hk1 := hide hk
      obtain ⟨c0, c1, c2, d0, d1, d2⟩ := res_cells hk.book.head
      have hmk := mark_any rs.length wr (by omega)
      clear hk
      go_wp2_with fail
      refine hmk.mono ?_
      rintro e w2 ⟨rfl, hb2⟩
      have hkr := hk1.out
      have hB2 : BookR B kb ts' T' rs (.slice Ra rs.length Rc) w2 := ⟨hkr.book.le, Below.heapAt hb2 hkr.book.head (lt_of_heap hkr.book.head), own_below hkr.book.trow hb2, fun i v hv => (by obtain ⟨n, hn, ho⟩ := hkr.book.tlists i v hv; exact ⟨n, hn, own_below ho hb2⟩), own_below hkr.book.rrow hb2, fun i v hv => (by obtain ⟨n, hn, ho⟩ := hkr.book.rlists i v hv; exact ⟨n, hn, own_below ho hb2⟩)⟩
      have hl2 := own_below hkr.row hb2
      have hbw2 : Below B w w2 := hkr.blw.trans (hb2.mono (by have := hkr.blw.size; omega))
      have hft2 : FT lo hi w w2 := hkr.ft.trans (FT.below hb2)
      have hnew := hide hkr.new
      have hlenT := hide hkr.len
      clear hkr hk1 hmk c0 c1 c2 d0 d1 d2
      have hapR : Hid (∀ u ∈ rs, u.ownBlock = none ∨ u.ownBlock ≠ (Value.slice ao ps.length cap).ownBlock) := by
        intro u hu
        cases hq : u.ownBlock with
        | none => exact .inl rfl
        | some g =>
          refine .inr (fun e => ?_)
          have h1 := HAP.out u (List.mem_append_right _ hu) g hq
          have h2 := (HO.out.row.lt g e.symm).1
          have h3 := HO.out.top g e.symm
          omega
      have hz2w : w.heap.size ≤ w2.heap.size := hbw2.size
      have hmk : markR rs.length = [.string (markB rs.length), .slice none 0 0] := by unfold markR; rw [show rs.length / 4 * 4 = rs.length by omega]
      have gx := heap_new w2 (.cells #[.string (markB rs.length), .slice none 0 0] 51)
      have hk3 : Kb ((Value.slice ao ps.length cap).ownBlock.toList) w2 (w2.alloc (.cells #[.string (markB rs.length), .slice none 0 0] 51)) := (Kb.refl _ _).alloc _
      have hl3 := hl2.alloc (.cells #[.string (markB rs.length), .slice none 0 0] 51)
      have hxn : some w2.heap.size ≠ (Value.slice ao ps.length cap).ownBlock := fun h => Nat.lt_irrefl _ (hl2.lt _ h.symm).2
      have HXN := hide hxn
      have HB := hide hB2
      have HL := hide hl2
      have HBW := hide hbw2
      have HFT := hide hft2
      have hkl2 : kb < w2.heap.size := lt_of_heap hB2.head
      clear hb2 hB2 hl2 hbw2 hft2 hxn
      go_wp2_with fail
      have hbx0 : w2.heap.size ≤ w2.heap.size := Nat.le_refl _
      generalize hbx : w2.heap.size = bx at gx HXN hbx0 ⊢
      generalize w2.alloc (.cells #[.string (markB rs.length), .slice none 0 0] 51) = w3 at gx hk3 hl3 ⊢
      have hxl := lt_of_heap gx
      have HBX : Hid (∀ g, ao = some ⟨g, 0, none⟩ → bx ≠ g) := fun g hg e => HXN.out (by rw [hg, e]; rfl)
      have hk3s := hk3.size
      clear hbx
      go_loopw [6] (fun iv wr => ∃ i : Nat, iv = .int .i64 i ∧ KInvR lo w3 wr (.slice ao ps.length cap) ps (⟨markB rs.length, []⟩, .slice none 0 0) i ∧ wr.heap[bx]? = some (.cells #[.string (markB rs.length), .slice none 0 0] 51 (0, 0))) (fun iv _ => ps.length - (intOf iv).toNat)
      case atStart => exact ⟨0, rfl, ⟨Nat.zero_le _, by simpa using hl3, Kb.refl _ _⟩, gx⟩
      case round =>
        obtain ⟨i, rfl, hi, gy⟩ := hrel
        obtain ⟨x0, x1, _, _⟩ := err_cells gy
        by_cases hlt : i < ps.length
        · obtain ⟨g, rfl⟩ := hao (by omega)
          have hgx := HBX.out g rfl
          have hko := hi.kb
          obtain ⟨f, hf⟩ : ∃ f, ps[i]? = some f := ⟨_, List.getElem?_eq_getElem hlt⟩
          have hdr : ps.drop i = f :: ps.drop (i + 1) := by
            rw [List.drop_eq_getElem_cons hlt]
            rw [List.getElem?_eq_getElem hlt] at hf
            injection hf with hf
            rw [hf]
          have hown := hi.own
          rw [hdr] at hown
          have hA : (List.replicate i ((⟨markB rs.length, []⟩, .slice none 0 0) : RowD × Value)).length = i := List.length_replicate
          obtain ⟨hc, hz⟩ := own_cell hown
          have e3 := cellsP_get (List.replicate i ((⟨markB rs.length, []⟩, .slice none 0 0) : RowD × Value) ++ f :: ps.drop (i + 1)) i f.1 f.2 (by rw [List.getElem?_append_right (by rw [hA]; omega), hA, Nat.sub_self]; rfl)
          have a0 := hc _ _ e3.1
          have a1 := hc _ _ e3.2
          have z0 := hz (i * 2)
          have z1 := hz (i * 2 + 1)
          have ho' := own_set (own_set hown (i * 2) (.string (markB rs.length))) (i * 2 + 1) (.slice none 0 0)
          have e4 := set2P (List.replicate i ((⟨markB rs.length, []⟩, .slice none 0 0) : RowD × Value)) (ps.drop (i + 1)) f (markB rs.length) (.slice none 0 0) []
          rw [hA] at e4
          rw [e4] at ho'
          have HO' := hide ho'
          clear ho' e4 hc hz e3 hown hdr hf
          go_wp2
          go_roundw
          case rel =>
            refine ⟨i + 1, by go_num, ⟨hlt, ?_, (hko.setCell (p := ⟨g, _, none⟩) (.inl (by simp [Value.ownBlock])) _).setCell (p := ⟨g, _, none⟩) (.inl (by simp [Value.ownBlock])) _⟩, ?_⟩
            · rw [List.replicate_succ', List.append_assoc]
              exact HO'.out
            · rw [Below.heap_setCell _ _ _ _ (by show bx ≠ g; exact hgx), Below.heap_setCell _ _ _ _ (by show bx ≠ g; exact hgx)]
              exact gy
          case measure => simp [intOf]; omega
        · have hin : i = ps.length := by have := hi.le; omega
          subst hin
          have ho0 := hi.own
          rw [List.drop_length, List.append_nil, cellsP_rep] at ho0
          have hk0 : Kb ((Value.slice ao ps.length cap).ownBlock.toList) w2 wr := hk3.trans (hi.kb.mono (fun _ _ h => h))
          have gx0 := gy
          have hzr := hk0.size
          clear hi hk3 hl3 gx gy
          go_wp2_with (first | (at_builtin; refine wpList_append_marks _ rfl _ _ 40 rfl lo 51 i0 (.agg #[.string ⟨#[]⟩, .slice none 0 0]) 2 40 Tryz.underlying40 hi0 hz0 hz1 hz2 rfl (by decide) (.slice ao ps.length cap) ps.length [.string (markB rs.length), .slice none 0 0] rfl rfl (ho0.alloc _) ⟨wr.heap.size, 0, none⟩ 1 1 (by decide) rfl (cells_new _ _ _ _ rfl) ?c1 ?c2 ?c3 ?c4 ?_) | go_in)
          case c1 => intro u hu; simp at hu; rcases hu with rfl | rfl <;> rfl
          case c2 => unfold maxLen; omega
          case c3 => omega
          case c4 => simp; omega
          intro v1 w4 ho1 hg1 hk1 hn1
          obtain ⟨a1, p1, rfl, _⟩ := own_form ho1
          have hL1 := hk1 _ _ _ (ho0.alloc _)
          have hK1 : Kb ((Value.slice ao ps.length cap).ownBlock.toList) w2 w4 := (hk0.alloc _).grown hg1 (fun k hk => .inl (by rw [hk]; simp))
          have gx1 : w4.heap[bx]? = some (.cells #[.string (markB rs.length), .slice none 0 0] 51 (0, 0)) := (hg1.block bx (by have := lt_of_heap gx0; simp; omega) HXN.out).trans (heap_old gx0 _)
          have hn1' : (Value.slice a1 (ps.length + 1) p1).ownBlock = (Value.slice ao ps.length cap).ownBlock ∨ ∃ g, (Value.slice a1 (ps.length + 1) p1).ownBlock = some g ∧ w2.heap.size ≤ g := by
            rcases hn1 with h | ⟨g, h, hle⟩
            · exact .inl h
            · exact .inr ⟨g, h, by omega⟩
          obtain ⟨y0, y1, _, _⟩ := err_cells gx1
          have HL1 := hide hL1
          have HO1 := hide ho1
          have HN1 := hide hn1'
          have hz4 := hK1.size
          clear ho1 hg1 hk1 hn1 hn1' x0 x1 ho0
          go_wp2_with (first | (at_builtin; refine wpList_append_marks _ rfl _ _ 40 rfl lo 51 i0 (.agg #[.string ⟨#[]⟩, .slice none 0 0]) 2 40 Tryz.underlying40 hi0 hz0 hz1 hz2 rfl (by decide) (.slice ao ps.length cap) ps.length [.string (markB rs.length), .slice none 0 0] rfl rfl (HL1.out.alloc _) ⟨w4.heap.size, 0, none⟩ 2 2 (by decide) rfl (cells_new _ _ _ _ rfl) ?c1 ?c2 ?c3 ?c4 ?_) | go_in)
          case c1 => intro u hu; simp at hu; rcases hu with rfl | rfl <;> rfl
          case c2 => unfold maxLen; omega
          case c3 => omega
          case c4 => simp; omega
          intro v2 w5 ho2 hg2 hk2 hn2
          obtain ⟨a2, p2, rfl, _⟩ := own_form ho2
          have hL2 := hk2 _ _ _ (HL1.out.alloc _)
          have hM2 := hk2 _ _ _ (HO1.out.alloc _)
          have hK2 : Kb ((Value.slice ao ps.length cap).ownBlock.toList) w2 w5 := (hK1.alloc _).grown hg2 (fun k hk => .inl (by rw [hk]; simp))
          have gx2 : w5.heap[bx]? = some (.cells #[.string (markB rs.length), .slice none 0 0] 51 (0, 0)) := (hg2.block bx (by have := lt_of_heap gx1; simp; omega) HXN.out).trans (heap_old gx1 _)
          have hn2' : (Value.slice a2 (ps.length + 2) p2).ownBlock = (Value.slice ao ps.length cap).ownBlock ∨ ∃ g, (Value.slice a2 (ps.length + 2) p2).ownBlock = some g ∧ w2.heap.size ≤ g := by
            rcases hn2 with h | ⟨g, h, hle⟩
            · exact .inl h
            · exact .inr ⟨g, h, by omega⟩
          obtain ⟨x0, x1, _, _⟩ := err_cells gx2
          have HL2 := hide hL2
          have HM2 := hide hM2
          have HO2 := hide ho2
          have HN2 := hide hn2'
          have hz5 := hK2.size
          clear ho2 hg2 hk2 hn2 hn2' y0 y1 hL1 hL2 hM2 HO1 HL1
          go_wp2_with (first | (at_builtin; refine wpList_append_marks _ rfl _ _ 40 rfl lo 51 i0 (.agg #[.string ⟨#[]⟩, .slice none 0 0]) 2 40 Tryz.underlying40 hi0 hz0 hz1 hz2 rfl (by decide) (.slice ao ps.length cap) ps.length [.string (markB rs.length), .slice none 0 0] rfl rfl (HL2.out.alloc _) ⟨w5.heap.size, 0, none⟩ 3 3 (by decide) rfl (cells_new _ _ _ _ rfl) ?c1 ?c2 ?c3 ?c4 ?_) | go_in)
          case c1 => intro u hu; simp at hu; rcases hu with rfl | rfl <;> rfl
          case c2 => unfold maxLen; omega
          case c3 => omega
          case c4 => simp; omega
          intro v3 w6 ho3 hg3 hk3 hn3
          obtain ⟨a3, p3, rfl, _⟩ := own_form ho3
          have hL3 := hk3 _ _ _ (HL2.out.alloc _)
          have hM3 := hk3 _ _ _ (HM2.out.alloc _)
          have hN3 := hk3 _ _ _ (HO2.out.alloc _)
          have hK3 : Kb ((Value.slice ao ps.length cap).ownBlock.toList) w2 w6 := (hK2.alloc _).grown hg3 (fun k hk => .inl (by rw [hk]; simp))
          have hn3' : (Value.slice a3 (ps.length + 3) p3).ownBlock = (Value.slice ao ps.length cap).ownBlock ∨ ∃ g, (Value.slice a3 (ps.length + 3) p3).ownBlock = some g ∧ w2.heap.size ≤ g := by
            rcases hn3 with h | ⟨g, h, hle⟩
            · exact .inl h
            · exact .inr ⟨g, h, by omega⟩
          have HL3 := hide hL3
          have HM3 := hide hM3
          have HR3 := hide hN3
          have HO3 := hide ho3
          have HN3 := hide hn3'
          have hz6 := hK3.size
          have far : ∀ {e : TypeId} {size n : Nat} {v : Value} {ys : List Value}, e ≠ 51 → w2.ownsRow B e size v n ys → w6.ownsRow B e size v n ys := by
            intro e size n v ys hne ho
            refine own_kbL ho hK3 (fun g hg heq => ?_)
            rcases own_ne ho HL.out hne with h | h
            · rw [h] at heq; cases heq
            · exact h (heq.trans (Option.mem_toList.1 hg).symm)
          have hV : w6.ownsRow B 40 1 (.slice Ra rs.length Rc) rs.length rs := far (by decide) HB.out.rrow
          have hTT : Hid (w6.ownsRow B 44 1 T' ts'.length ts') := far (by decide) HB.out.trow
          have hTL : Hid (∀ (i : Nat) v, ts'[i]? = some v → ∃ n, n ≤ 100000 ∧ w6.ownsRow B 9 1 v n (repC n (markT i))) := by
            intro i v hv
            obtain ⟨n, hn, ho⟩ := HB.out.tlists i v hv
            exact ⟨n, hn, far (by decide) ho⟩
          have hH : w6.heap[kb]? = some (.cells #[.slice none 0 0, .slice Ra rs.length Rc, T'] 75 (0, 0)) := hK3.heap HB.out.head (fun hm => own_head HL.out HB.out.head (by decide) (Option.mem_toList.1 hm).symm)
          have hLs : Hid (∀ (i : Nat) v, rs[i]? = some v → ∃ n, n ≤ 100000 ∧ w6.ownsRow B 51 2 v n (repC n (markR i))) := by
            intro i v hv
            obtain ⟨n, hn, ho⟩ := HB.out.rlists i v hv
            refine ⟨n, hn, own_kbL ho hK3 (fun g hg heq => ?_)⟩
            rcases hapR.out v (List.mem_of_getElem? hv) with h | h
            · rw [h] at heq; cases heq
            · exact h (heq.trans (Option.mem_toList.1 hg).symm)
          have HV := hide hV
          have hkn := own_head HV.out hH (by decide)
          have HKN := hide hkn
          obtain ⟨c0, c1, c2, d0, d1, d2⟩ := res_cells hH
          clear ho3 hg3 hk3 hn3 hn3' hL3 hM3 hN3 HL2 HM2 HO2 hV hkn far x0 x1 gx0 gx1 gx2
          go_wp2_with (first | (at_builtin; refine wpList_append_own _ rfl _ _ 73 rfl B 40 j0 (.slice none 0 0) 1 24 Tryz.underlying73 hj0 hy0 hy1 hy2 rfl (by decide) (.slice Ra rs.length Rc) rs.length rs rfl (HV.out.alloc _) ⟨w6.heap.size, 0, none⟩ 4 4 [.slice ao ps.length cap, .slice a1 (ps.length + 1) p1, .slice a2 (ps.length + 2) p2, .slice a3 (ps.length + 3) p3] rfl rfl (cells_new _ _ _ _ rfl) ?c1 ?c2 ?c3 ?c4 ?_) | go_in)
          case c1 => intro u hu; simp at hu; rcases hu with rfl | rfl | rfl | rfl <;> rfl
          case c2 => unfold maxLen; omega
          case c3 => omega
          case c4 => simp; omega
          intro V' w7 hoV hgV _
          have hH7 : w7.heap[kb]? = some (.cells #[.slice none 0 0, .slice Ra rs.length Rc, T'] 75 (0, 0)) := (hgV.block kb (by have := lt_of_heap hH; simp; omega) HKN.out).trans (heap_old hH _)
          clear c0 c1 c2 d0 d1 d2
          obtain ⟨c0, c1, c2, d0, d1, d2⟩ := res_cells hH7
          obtain ⟨aV, pV, rfl, _⟩ := own_form hoV
          have HOV := hide hoV
          have HGV := hide hgV
          clear hoV hgV
          go_wp2_with fail
          have carry : ∀ {C : Nat} {e : TypeId} {size n : Nat} {v : Value} {ys : List Value}, e ≠ 40 → e ≠ 75 → w6.ownsRow C e size v n ys → (w7.setCell ⟨kb, 1, none⟩ (.slice aV (rs.length + 4) pV)).ownsRow C e size v n ys := by
            intro C e size n v ys hne hne2 h
            have h7 := (h.alloc (.cells #[.slice ao ps.length cap, .slice a1 (ps.length + 1) p1, .slice a2 (ps.length + 2) p2, .slice a3 (ps.length + 3) p3] 40)).kept HGV.out (own_ne h HV.out hne)
            exact own_store h7 hne2 hH7
          have hpos : ∀ r, r < 4 → markR (rs.length + r) = [.string (markB rs.length), .slice none 0 0] := by
            intro r hr
            rw [← hmk]
            unfold markR
            rw [show (rs.length + r) / 4 * 4 = rs.length / 4 * 4 by omega]
          have hKE : Kb (may kb (.slice Ra rs.length Rc) (.slice ao ps.length cap)) w2 (w7.setCell ⟨kb, 1, none⟩ (.slice aV (rs.length + 4) pV)) := by
            refine Kb.setCell ?_ (.inl (by simp [may])) _
            refine Kb.grown ((hK3.mono (fun k _ hk => ?_)).alloc _) HGV.out (fun k hk => .inl ?_)
            · simp only [may, List.mem_cons, List.mem_append]; exact .inr (.inr hk)
            · simp only [may, List.mem_cons, List.mem_append]; exact .inr (.inl (Option.mem_toList.2 hk))
          have hinL : ∀ g, (Value.slice ao ps.length cap).ownBlock = some g → lo ≤ g ∧ g < hi := fun g hg => ⟨(HL.out.lt g hg).1, HO.out.top g hg⟩
          refine bodyPost_end (v := .tuple #[]) (by simp [results, Tryz.results45, go_sem]) rfl ?_
          refine ⟨rfl, ts', T', .slice aV (rs.length + 4) pV, .slice a1 (ps.length + 1) p1, .slice a2 (ps.length + 2) p2, .slice a3 (ps.length + 3) p3, ⟨hBk, ?_, carry (by decide) (by decide) hTT.out, ?_, ?_, ?_⟩, hlenT.out, hnew.out, ?_, ?_, ?_⟩
          · rw [heap_set hH7]
            rfl
          · intro i v hv
            obtain ⟨n, hn, ho⟩ := hTL.out i v hv
            exact ⟨n, hn, carry (by decide) (by decide) ho⟩
          · rw [List.length_append]
            exact own_store HOV.out (by decide) hH7
          · intro i v hv
            by_cases hil : i < rs.length
            · rw [List.getElem?_append_left hil] at hv
              obtain ⟨n, hn, ho⟩ := hLs.out i v hv
              exact ⟨n, hn, carry (by decide) (by decide) ho⟩
            · rw [List.getElem?_append_right (by omega)] at hv
              obtain ⟨r, rfl⟩ : ∃ r, i = rs.length + r := ⟨i - rs.length, by omega⟩
              rw [Nat.add_sub_cancel_left] at hv
              match r, hv with
              | 0, hv => injection hv with hv; subst hv; exact ⟨ps.length, by omega, by rw [hpos 0 (by decide)]; exact own_mono (carry (by decide) (by decide) HL3.out) hBl⟩
              | 1, hv => injection hv with hv; subst hv; exact ⟨(ps.length + 1), by omega, by rw [hpos 1 (by decide)]; exact own_mono (carry (by decide) (by decide) HM3.out) hBl⟩
              | 2, hv => injection hv with hv; subst hv; exact ⟨(ps.length + 2), by omega, by rw [hpos 2 (by decide)]; exact own_mono (carry (by decide) (by decide) HR3.out) hBl⟩
              | 3, hv => injection hv with hv; subst hv; exact ⟨(ps.length + 3), by omega, by rw [hpos 3 (by decide)]; exact own_mono (carry (by decide) (by decide) HO3.out) hBl⟩
              | r + 4, hv => simp at hv
          · intro u hu g hg
            simp at hu
            rcases hu with rfl | rfl | rfl | rfl
            · exact .inl (hinL g hg)
            · rcases HN1.out with h | ⟨g', h, hle⟩
              · rw [h] at hg; exact .inl (hinL g hg)
              · rw [h] at hg; injection hg with hg; exact .inr (by omega)
            · rcases HN2.out with h | ⟨g', h, hle⟩
              · rw [h] at hg; exact .inl (hinL g hg)
              · rw [h] at hg; injection hg with hg; exact .inr (by omega)
            · rcases HN3.out with h | ⟨g', h, hle⟩
              · rw [h] at hg; exact .inl (hinL g hg)
              · rw [h] at hg; injection hg with hg; exact .inr (by omega)
          · refine HBW.out.trans (hKE.below (by omega) (fun k hm => ?_))
            simp only [may, List.mem_cons, List.mem_append, Option.mem_toList] at hm
            rcases hm with rfl | hm | hm
            · exact hBk
            · exact (HB.out.rrow.lt k hm).1
            · have := (hinL k hm).1; omega
          · refine HFT.out.trans (fun k c e fz hk' h1 h2 h3 h4 => hKE.heap hk' (fun hm => ?_))
            simp only [may, List.mem_cons, List.mem_append, Option.mem_toList] at hm
            rcases hm with rfl | hm | hm
            · have := HB.out.head
              rw [hk'] at this
              injection this with this
              injection this with _ this
              exact h3 this
            · exact own_head HB.out.rrow hk' (fun e => h2 e.symm) hm.symm
            · have := hinL k hm; omega

end Go.Proofs.YtiamlbhkiehilaaGreatDoor
