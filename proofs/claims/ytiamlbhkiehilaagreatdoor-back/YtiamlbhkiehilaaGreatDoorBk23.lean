import Derived.Test.YtiamlbhkiehilaaGreatDoorBk10
import Derived.Test.YtiamlbhkiehilaaGreatDoorBk22
import Derived.Test.YtiamlbhkiehilaaGreatDoorBk02
import Derived.Test.YtiamlbhkiehilaaGreatDoorBk01
namespace Go.Proofs.YtiamlbhkiehilaaGreatDoor
open Go.RowKit Go.Maps

/-- What cut.Fact answers. -/
def factRes (s : ByteArray) : Value := .tuple #[.agg #[.int .i64 (saidB s).1.k, .string (saidB s).1.p, .string (saidB s).1.q], .bool (decide ((saidB s).2 = 0))]

set_option maxRecDepth 100000 in
set_option maxHeartbeats 1000000 in
theorem fact_any (s : ByteArray) (w : World) (hs : s.size ≤ 1000000) :
    Calls Tryz.prog 98 #[.string s] w fun e w' => e = .returned (factRes s) ∧ Below w.heap.size w w' := by
  have g0 := heap_new w (.cells #[.int .i64 0, .string ⟨#[]⟩, .string ⟨#[]⟩] 48)
  have hb0 : Below w.heap.size w (w.alloc (.cells #[.int .i64 0, .string ⟨#[]⟩, .string ⟨#[]⟩] 48)) := (Below.refl _ _).alloc (Nat.le_refl _) _
  go_enter Tryz.func98, Tryz.ntmps98
  go_wp2_with fail
  generalize w.alloc (.cells #[.int .i64 0, .string ⟨#[]⟩, .string ⟨#[]⟩] 48) = w0 at g0 hb0 ⊢
  have hl0 := lt_of_heap g0
  refine (pieces_any s w0 hs).mono ?_
  rintro e w1 (⟨hn, rfl, hb1⟩ | ⟨v, ws, hsm, hwd, hln, rfl, hown, hb1⟩)
  · have HE : Hid (factRes s = .tuple #[.agg #[.int .i64 0, .string ⟨#[]⟩, .string ⟨#[]⟩], .bool false]) := by unfold Hid factRes; rw [saidB_none hn]; rfl
    have g1 := Below.heapAt hb1 g0 hl0
    obtain ⟨c0, c1, c2, f0, f1, f2⟩ := res_cells g1
    go_wp2_with fail
    refine bodyPost_ret (v := .tuple #[.agg #[.int .i64 0, .string ⟨#[]⟩, .string ⟨#[]⟩], .bool false]) (by simp [results, Tryz.results98, go_sem, c0, c1, c2]) rfl ⟨by rw [HE.out], ?_⟩
    exact (((hb0.trans (hb1.mono hb0.size)).setCell (p := ⟨w.heap.size, 0, none⟩) (Nat.le_refl _) _).setCell (p := ⟨w.heap.size, 1, none⟩) (Nat.le_refl _) _).setCell (p := ⟨w.heap.size, 2, none⟩) (Nat.le_refl _) _
  · obtain ⟨hk, h2⟩ := said_kind ws hwd
    have hsd : saidB s = saidK ws := (saidB_some hsm).trans hk
    have g1 := Below.heapAt hb1 g0 hl0
    have hB1 : Below w.heap.size w w1 := hb0.trans (hb1.mono hb0.size)
    obtain ⟨c0, c1, c2, f0, f1, f2⟩ := res_cells g1
    have hkr := kindS_range (shapeL ws)
    go_wp2_with fail
    refine (kindOf_any (shapeL ws) w1).mono ?_
    rintro e w2 ⟨rfl, rfl⟩
    unfold saidK at hsd
    generalize kindS (shapeL ws) = kk at *
    obtain ⟨k, ok⟩ := kk
    simp only at hsd h2 hkr ⊢
    cases ok
    · have HE : Hid (factRes s = .tuple #[.agg #[.int .i64 0, .string ⟨#[]⟩, .string ⟨#[]⟩], .bool false]) := by unfold Hid factRes; rw [hsd]; rfl
      clear hsd hk hsm hwd h2
      go_wp2_with fail
      refine bodyPost_ret (v := .tuple #[.agg #[.int .i64 0, .string ⟨#[]⟩, .string ⟨#[]⟩], .bool false]) (by simp [results, Tryz.results98, go_sem, c0, c1, c2]) rfl ⟨by rw [HE.out], ?_⟩
      exact ((hB1.setCell (p := ⟨w.heap.size, 0, none⟩) (Nat.le_refl _) _).setCell (p := ⟨w.heap.size, 1, none⟩) (Nat.le_refl _) _).setCell (p := ⟨w.heap.size, 2, none⟩) (Nat.le_refl _) _
    · by_cases hkz : k = 0
      · subst hkz
        have HE : Hid (factRes s = .tuple #[.agg #[.int .i64 0, .string ⟨#[]⟩, .string ⟨#[]⟩], .bool true]) := by unfold Hid factRes; rw [hsd]; rfl
        clear hsd hk hsm hwd h2
        go_wp2_with fail
        refine bodyPost_ret (v := .tuple #[.agg #[.int .i64 0, .string ⟨#[]⟩, .string ⟨#[]⟩], .bool true]) (by simp [results, Tryz.results98, go_sem, c0, c1, c2]) rfl ⟨by rw [HE.out], ?_⟩
        exact ((hB1.setCell (p := ⟨w.heap.size, 0, none⟩) (Nat.le_refl _) _).setCell (p := ⟨w.heap.size, 1, none⟩) (Nat.le_refl _) _).setCell (p := ⟨w.heap.size, 2, none⟩) (Nat.le_refl _) _
      · have hkb : (k == 0) = false := beq_false_of_ne hkz
        have hl2 := h2 hkz
        obtain ⟨n0, n1, hn⟩ : ∃ n0 n1, nmsL ws = [n0, n1] := by
          match hm : nmsL ws, hl2 with
          | [n0, n1], _ => exact ⟨n0, n1, rfl⟩
        have HE : Hid (factRes s = .tuple #[.agg #[.int .i64 k, .string n0, .string n1], .bool true]) := by
          unfold Hid factRes
          rw [hsd, hn]
          simp [hkz]
        rw [hn] at hown
        obtain ⟨g', cap', rfl, hnc', hgl', hgB', hrd'⟩ := row_reads (ss := [n0, n1]) hown (by simp)
        have d0 := hrd' 0 n0 rfl
        have d1 := hrd' 1 n1 rfl
        clear hrd' hown hsd hk hsm hwd h2 hl2 hn
        go_wp2_with fail
        go_region
        go_wp2
        refine bodyPost_ret (v := .tuple #[.agg #[.int .i64 k, .string n0, .string n1], .bool true]) (by simp [results, Tryz.results98, go_sem, c0, c1, c2]) rfl ⟨by rw [HE.out], ?_⟩
        exact ((hB1.drew.setCell (p := ⟨w.heap.size, 0, none⟩) (Nat.le_refl _) _).setCell (p := ⟨w.heap.size, 1, none⟩) (Nat.le_refl _) _).setCell (p := ⟨w.heap.size, 2, none⟩) (Nat.le_refl _) _

end Go.Proofs.YtiamlbhkiehilaaGreatDoor

namespace Go.Proofs.YtiamlbhkiehilaaGreatDoor
open Go.RowKit Go.Maps

/-- What parseLine answers. -/
def lineR (l : ByteArray) : Fct × Int := if 80 < l.size then (noF, 3) else saidB l

set_option maxRecDepth 100000 in
set_option maxHeartbeats 1000000 in
theorem parseLine_any (s : ByteArray) (w : World) (hs : s.size ≤ 1000000) :
    Calls Tryz.prog 69 #[.string s] w fun e w' => e = .returned (.tuple #[.agg #[.int .i64 (lineR s).1.k, .string (lineR s).1.p, .string (lineR s).1.q], .int .i64 (lineR s).2]) ∧ Below w.heap.size w w' := by
  have g0 := heap_new w (.cells #[.int .i64 0, .string ⟨#[]⟩, .string ⟨#[]⟩] 48)
  have hb0 : Below w.heap.size w (w.alloc (.cells #[.int .i64 0, .string ⟨#[]⟩, .string ⟨#[]⟩] 48)) := (Below.refl _ _).alloc (Nat.le_refl _) _
  by_cases hw : 80 < s.size
  · have HE : Hid (lineR s = (noF, 3)) := by unfold Hid lineR; rw [if_pos hw]
    go_enter Tryz.func69, Tryz.ntmps69
    go_wp2_with fail
    refine bodyPost_ret (v := .tuple #[.agg #[.int .i64 0, .string ⟨#[]⟩, .string ⟨#[]⟩], .int .i64 3]) (by simp [results, Tryz.results69, go_sem]) rfl ⟨by rw [HE.out]; rfl, ?_⟩
    exact (Below.refl _ _).alloc (Nat.le_refl _) _
  · have HE : Hid (lineR s = saidB s) := by unfold Hid lineR; rw [if_neg hw]
    go_enter Tryz.func69, Tryz.ntmps69
    go_wp2_with fail
    generalize w.alloc (.cells #[.int .i64 0, .string ⟨#[]⟩, .string ⟨#[]⟩] 48) = w0 at g0 hb0 ⊢
    have hl0 := lt_of_heap g0
    refine (fact_any s w0 hs).mono ?_
    rintro e w1 ⟨rfl, hb1⟩
    have g1 := Below.heapAt hb1 g0 hl0
    have hB1 : Below w.heap.size w w1 := hb0.trans (hb1.mono hb0.size)
    unfold factRes
    rcases saidB_cases s with ⟨⟨k, p, q⟩, hsd, hp, hq, hk0, hk4⟩ | hsd
    · rw [hsd]
      have HF : Hid (lineR s = (⟨k, p, q⟩, 0)) := HE.out.trans hsd
      have g2 := heap_old g1 (.cells #[.int .i64 k, .string p, .string q] 48)
      obtain ⟨c0, c1, c2, f0, f1, f2⟩ := res_cells g2
      clear HE hsd g1 g2 hb1
      simp only [decide_true]
      go_wp2_with fail
      refine bodyPost_ret (v := .tuple #[.agg #[.int .i64 k, .string p, .string q], .int .i64 0]) (by simp [results, Tryz.results69, go_sem, c0, c1, c2]) rfl ⟨by rw [HF.out], ?_⟩
      exact (((hB1.alloc hB1.size _).setCell (p := ⟨w.heap.size, 0, none⟩) (Nat.le_refl _) _).setCell (p := ⟨w.heap.size, 1, none⟩) (Nat.le_refl _) _).setCell (p := ⟨w.heap.size, 2, none⟩) (Nat.le_refl _) _
    · rw [hsd]
      have HF : Hid (lineR s = (noF, 4)) := HE.out.trans hsd
      have g2 := heap_old g1 (.cells #[.int .i64 0, .string ⟨#[]⟩, .string ⟨#[]⟩] 48)
      obtain ⟨c0, c1, c2, f0, f1, f2⟩ := res_cells g2
      clear HE hsd g1 g2 hb1
      unfold noF noB
      have hd : decide ((4 : Int) = 0) = false := by decide
      simp only [hd]
      go_wp2_with fail
      refine bodyPost_ret (v := .tuple #[.agg #[.int .i64 0, .string ⟨#[]⟩, .string ⟨#[]⟩], .int .i64 4]) (by simp [results, Tryz.results69, go_sem, c0, c1, c2]) rfl ⟨by rw [HF.out]; rfl, ?_⟩
      exact (((hB1.alloc hB1.size _).setCell (p := ⟨w.heap.size, 0, none⟩) (Nat.le_refl _) _).setCell (p := ⟨w.heap.size, 1, none⟩) (Nat.le_refl _) _).setCell (p := ⟨w.heap.size, 2, none⟩) (Nat.le_refl _) _

theorem own_kb {l : List Nat} {w w' : World} {B : Nat} {e : TypeId} {size : Nat} {v : Value} {n : Nat} {xs : List Value} (h : w.ownsRow B e size v n xs) (hk : Kb l w w') (hl : ∀ x ∈ l, x < B) : w'.ownsRow B e size v n xs := by
  refine ⟨h.1, ?_⟩
  rcases h.2 with h | ⟨g, cap, cur, h1, h2, h3, h4⟩
  · exact .inl h
  · exact .inr ⟨g, cap, cur, h1, h2, hk.heap h3 (fun hm => by have := hl g hm; omega), h4⟩

/-- What holds at the head of each round of facts.Parse. -/
structure FPInv (tb bm : Nat) (w3 wr : World) (ls : List ByteArray) (i : Nat) (v : Value) (fs : List Fct) : Prop where
  le : i ≤ ls.length
  eqn : parseGo [] 0 ls = parseGo fs i (ls.drop i)
  cnt : fs.length ≤ 120
  own : wr.ownsRow w3.heap.size 48 3 v fs.length (cellsF fs)
  tal : IsTally tb bm fs.length (2 * fs.length) (keysOf fs) wr
  kb : Kb [tb, bm] w3 wr

theorem IsTally.kb {tb bm n c : Nat} {ks : List Lit} {w w' : World} (h : IsTally tb bm n c ks w) (hk : Kb [] w w') : IsTally tb bm n c ks w' := ⟨hk.heap h.1 (by simp), hk.ownsMap h.2 (by simp)⟩

end Go.Proofs.YtiamlbhkiehilaaGreatDoor

namespace Go.Proofs.YtiamlbhkiehilaaGreatDoor
open Go.RowKit Go.Maps

theorem tally_new (w : World) : IsTally (w.heap.size + 1) w.heap.size 0 0 (keysOf []) ((w.alloc (.map #[] 0)).alloc (.cells #[.int .i64 0, .map (some w.heap.size)] 158)) := by
  have s1 : (w.alloc (.map #[] 0)).heap.size = w.heap.size + 1 := by simp
  refine ⟨?_, ?_⟩
  · have := heap_new (w.alloc (.map #[] 0)) (.cells #[.int .i64 0, .map (some w.heap.size)] 158)
    rw [s1] at this
    exact this
  · exact Kb.ownsMap (l := []) ((Kb.refl _ _).alloc _) (World.ownsMap_made (H := Unit) w Tryz.prog 9 (unitElem (H := Unit))) (by simp)

set_option maxRecDepth 100000 in
set_option maxHeartbeats 2000000 in
theorem fparse_any (s : ByteArray) (w : World) (m : Int) (hs : s.size ≤ maxLen) (hm : w.cell? ⟨1, 0, none⟩ = some (.int .i64 m)) :
    Calls Tryz.prog 37 #[.string s] w fun e w' => PRes w w' s e := by
  unfold maxLen at hs
  obtain ⟨i0, hi0, hz0, hz1, hz2⟩ := info_parts infoFact
  have g0 := heap_new w (.cells #[.int .i64 0, .int .i64 0] 27)
  have hb0 : Below w.heap.size w (w.alloc (.cells #[.int .i64 0, .int .i64 0] 27)) := (Below.refl _ _).alloc (Nat.le_refl _) _
  have o1 : w.heap.size < (w.alloc (.cells #[.int .i64 0, .int .i64 0] 27)).heap.size := by simp
  by_cases hbig : 6000 < s.size
  · have HE : Hid (parseB s = ([], 2, 0)) := by unfold Hid parseB; rw [if_pos hbig]
    go_enter Tryz.func37, Tryz.ntmps37
    go_wp2_with fail
    refine bodyPost_ret (v := .tuple #[.slice none 0 0, .agg #[.int .i64 2, .int .i64 0]]) (by simp [results, Tryz.results37, go_sem]) rfl (PRes.bad HE.out ?_)
    exact (Below.refl _ _).alloc (Nat.le_refl _) _
  · have HE : Hid (parseB s = parseGo [] 0 (linesB s)) := by unfold Hid parseB; rw [if_neg hbig]
    have hsp' := split_lines s
    have hcl := Lib.splitB_all ⟨#[10]⟩ (by decide) 0 _ s rfl
    rw [hsp'] at hcl
    go_enter Tryz.func37, Tryz.ntmps37
    go_wp2_with fail
    generalize w.alloc (.cells #[.int .i64 0, .int .i64 0] 27) = w0 at g0 hb0 o1 ⊢
    refine (newTally_any w0).mono ?_
    rintro e w2 ⟨rfl, hw2⟩
    have ht0 := tally_new w0
    have hb2 : Below w0.heap.size w0 ((w0.alloc (.map #[] 0)).alloc (.cells #[.int .i64 0, .map (some w0.heap.size)] 158)) := ((Below.refl _ _).alloc (Nat.le_refl _) _).alloc (by simp) _
    have o2 : w0.heap.size + 1 < ((w0.alloc (.map #[] 0)).alloc (.cells #[.int .i64 0, .map (some w0.heap.size)] 158)).heap.size := by simp
    rw [← hw2] at ht0 hb2 o2
    clear hw2
    have g2 := Below.heapAt hb2 g0 (lt_of_heap g0)
    have hB2 : Below w.heap.size w w2 := hb0.trans (hb2.mono hb0.size)
    have hm2 : w2.cell? ⟨1, 0, none⟩ = some (.int .i64 m) := by rw [hB2.cell (World.block_lt_of_cell? _ _ hm)]; exact hm
    go_wp2_with fail
    refine (Tryz.strings_Split s ⟨#[10]⟩ m w2 (by omega) hm2 (by decide)).mono ?_
    rintro e w3 ⟨rfl, hw3⟩
    rw [← hcl]
    rw [hsp'] at hw3
    have g3 := heap_new w2 (.cells ((linesB s).map Value.string).toArray 9)
    have o3 : w2.heap.size < (w2.alloc (.cells ((linesB s).map Value.string).toArray 9)).heap.size := by simp
    have hb3 : Below w2.heap.size w2 (w2.alloc (.cells ((linesB s).map Value.string).toArray 9)) := (Below.refl _ _).alloc (Nat.le_refl _) _
    rw [← hw3] at g3 o3 hb3
    clear hw3 hm2 hcl hsp'
    have ht3 : IsTally (w0.heap.size + 1) w0.heap.size 0 0 (keysOf []) w3 := ht0.kb (Kb.of_below hb3 [])
    have g4 := Below.heapAt hb3 g2 (lt_of_heap g2)
    have hB3 : Below w.heap.size w w3 := hB2.trans (hb3.mono hB2.size)
    have hbd : decide (6000 < (s.size : Int)) = false := decide_eq_false (by omega)
    have hls := linesB_len s
    have HSZ := hide (linesB_size s)
    have HRD := hide (fun (i : Nat) l (hl : (linesB s)[i]? = some l) => show w3.cell? ⟨w2.heap.size, i, none⟩ = some (.string l) from by rw [cell_at g3]; simp [hl])
    clear g3 g2 hb3 ht0 hb2 hB2
    generalize linesB s = ls at *
    have o4 : w0.heap.size < w0.heap.size + 1 := by omega
    clear hb0 g0
    generalize w0.heap.size + 1 = tb at *
    generalize w0.heap.size = bm at *
    generalize w2.heap.size = g at *
    go_wp2_with fail
    go_loopw [4, 18] (fun v iv wr => ∃ (i : Nat) (fs : List Fct), iv = .int .i64 i ∧ FPInv tb bm w3 wr ls i v fs) (fun _ iv _ => ls.length - (intOf iv).toNat)
    case atStart => exact ⟨0, [], rfl, Nat.zero_le _, rfl, by simp, World.ownsRow_nil _ _ _ _, ht3, Kb.refl _ _⟩
    case round =>
      obtain ⟨i, fs, rfl, hi⟩ := hrel
      have hown := hi.own
      have hil := hi.le
      have hcnt := hi.cnt
      have hkb := hi.kb
      have htal := hi.tal
      have hwl : w.heap.size < w3.heap.size := lt_of_heap g4
      have g5 := hkb.heap g4 (by simp; omega)
      have hBx : Below w.heap.size w wr := hB3.trans (hkb.below (Nat.le_of_lt hwl) (by simp; omega))
      by_cases hit : i < ls.length
      · obtain ⟨l, hl⟩ : ∃ l, ls[i]? = some l := ⟨_, List.getElem?_eq_getElem hit⟩
        have cl : wr.cell? ⟨g, i, none⟩ = some (.string l) := (hkb.cell (p := ⟨g, i, none⟩) (by simp; omega) (by simp; omega)).trans (HRD.out i l hl)
        have heq := hi.eqn
        rw [drop_here hl] at heq
        have hlsz := HSZ.out l (List.mem_of_getElem? hl)
        clear hi
        go_wp2_with fail
        refine (parseLine_any l wr (by omega)).mono ?_
        rintro e w4 ⟨rfl, hb4⟩
        have hk4 : Kb [tb, bm] w3 w4 := hkb.trans (Kb.of_below hb4 _)
        have g6 := Below.heapAt hb4 g5 (lt_of_heap g5)
        have hB4 : Below w.heap.size w w4 := hBx.trans (hb4.mono hBx.size)
        have hown4 := own_below hown hb4
        have ht4 := htal.kb (Kb.of_below hb4 [])
        have hbad : ∀ er : Int, er ≠ 0 → lineR l = (noF, er) → parseB s = ([], er, (i : Int) + 1) := by
          intro er her hle
          unfold lineR at hle
          by_cases hw : 80 < l.size
          · rw [if_pos hw] at hle
            have e3 : (3 : Int) = er := congrArg Prod.snd hle
            rw [← e3]
            exact HE.out.trans (heq.trans (parseGo_wide hw))
          · rw [if_neg hw] at hle
            exact HE.out.trans (heq.trans (parseGo_form hw hle her))
        have hgood : ∀ f : Fct, lineR l = (f, 0) → ¬ 80 < l.size ∧ saidB l = (f, 0) := by
          intro f hle
          unfold lineR at hle
          by_cases hw : 80 < l.size
          · rw [if_pos hw] at hle
            exact absurd (show (3 : Int) = 0 from congrArg Prod.snd hle) (by decide)
          · rw [if_neg hw] at hle
            exact ⟨hw, hle⟩
        have hcase : (∃ f, lineR l = (f, 0) ∧ f.p.size ≤ l.size ∧ f.q.size ≤ l.size) ∨ (∃ er, er ≠ 0 ∧ lineR l = (noF, er)) := by
          unfold lineR
          by_cases hw : 80 < l.size
          · exact .inr ⟨3, by decide, by rw [if_pos hw]⟩
          · rw [if_neg hw]
            rcases saidB_cases l with ⟨f, h1, h2, h3, _, _⟩ | h
            · exact .inl ⟨f, h1, h2, h3⟩
            · exact .inr ⟨4, by decide, h⟩
        clear hown htal hkb hBx hb4
        rcases hcase with ⟨⟨k, p, q⟩, hle, hp, hq⟩ | ⟨er, her, hle⟩
        · obtain ⟨hw, hsd⟩ := hgood _ hle
          have HQ := hide heq
          clear hbad hgood heq
          rw [hle]
          clear hle
          by_cases hkz : k = 0
          · subst hkz
            have HN : Hid (parseGo [] 0 ls = parseGo fs (i + 1) (ls.drop (i + 1))) := HQ.out.trans (parseGo_skip hw hsd rfl)
            go_wp2_with fail
            go_round
            case rel => exact ⟨i + 1, fs, by go_num, hit, HN.out, hcnt, hown4.alloc _, ht4.kb ((Kb.refl _ _).alloc _), hk4.alloc _⟩
            case measure => simp [intOf]; omega
          · have hkq : (k == 0) = false := beq_false_of_ne hkz
            go_wp2_with fail
            have hown5 := hown4.alloc (.cells #[.int .i64 k, .string p, .string q] 48)
            have ht5 := ht4.kb ((Kb.refl [] _).alloc (.cells #[.int .i64 k, .string p, .string q] 48))
            have hk5 := hk4.alloc (.cells #[.int .i64 k, .string p, .string q] 48)
            have g7 := heap_new w4 (.cells #[.int .i64 k, .string p, .string q] 48)
            have g8 := heap_old g6 (.cells #[.int .i64 k, .string p, .string q] 48)
            have o5 : w3.heap.size ≤ w4.heap.size := hk4.size
            generalize hbx : w4.heap.size = bx at *
            generalize w4.alloc (.cells #[.int .i64 k, .string p, .string q] 48) = w5 at hown5 ht5 hk5 g7 g8 ⊢
            refine (add_any tb bm fs k p q w5 hcnt (by unfold maxLen; omega) (by unfold maxLen; omega) ht5).mono ?_
            rintro e w6 ⟨rfl, hk6, ht6⟩
            have hown6 := own_kb hown5 hk6 (by simp; omega)
            have hk7 := hk5.trans (hk6.mono (fun _ _ h => h))
            have g9 := hk6.heap g7 (by simp; omega)
            have g10 := hk6.heap g8 (by simp; omega)
            obtain ⟨d0, d1, d2, e0, e1, e2⟩ := res_cells g9
            obtain ⟨c0, c1, f0, f1⟩ := err_cells g10
            clear hown4 hown5 ht4 ht5 hk4 hk5 g6 g7 g8 g9 hB4 e0 e1 e2
            by_cases herr : errOf fs ⟨k, p, q⟩ = 0
            · have HN : Hid (parseGo [] 0 ls = parseGo (fs ++ [⟨k, p, q⟩]) (i + 1) (ls.drop (i + 1))) := HQ.out.trans (parseGo_add hw hsd hkz herr)
              have hc2 := (errOf_zero' herr).2.2
              have ht7 := ht6 herr
              rw [herr]
              clear ht6
              go_wp2_with (first | (at_builtin; refine wpList_append_own _ rfl _ _ 36 rfl w3.heap.size 48 i0 (.agg #[.int .i64 0, .string ⟨#[]⟩, .string ⟨#[]⟩]) 3 40 Tryz.underlying36 hi0 hz0 hz1 hz2 rfl (by decide) _ _ _ rfl (hown6.alloc _) ⟨w6.heap.size, 0, none⟩ 1 1 [.int .i64 k, .string p, .string q] rfl rfl (cell_three_new _ _ _ _ _) ?x6 ?x7 ?x8 ?x9 ?_) | go_in)
              case x6 => intro u hu; simp at hu; rcases hu with rfl | rfl | rfl <;> rfl
              case x7 => unfold maxLen; omega
              case x8 => omega
              case x9 => have := hk7.size; simp; omega
              intro v' w7 hown7 hgrow7 _
              have hk8 : Kb [tb, bm] w3 w7 := (hk7.alloc _).grown hgrow7 (fun j hj => .inr (hown6.lt j hj).1)
              have ht8 : IsTally tb bm (fs.length + 1) (2 * (fs.length + 1)) (keysOf (fs ++ [⟨k, p, q⟩])) w7 := by
                have ht7' := ht7.kb ((Kb.refl [] _).alloc (.cells #[.int .i64 k, .string p, .string q] 48))
                have hkk : ∀ b o, (w6.alloc (.cells #[.int .i64 k, .string p, .string q] 48)).heap[b]? = some o → b < w3.heap.size → w7.heap[b]? = some o := by
                  intro b o hb hlt
                  refine (hgrow7.block b (lt_of_heap hb) ?_).trans hb
                  intro e
                  have := (hown6.lt b e.symm).1
                  omega
                refine ⟨hkk _ _ ht7'.1 (by omega), ?_⟩
                obtain ⟨es, cl', hbk, r⟩ := ht7'.2
                exact ⟨es, cl', hkk _ _ hbk (by omega), r⟩
              go_wp2_with fail
              go_round
              case rel => exact ⟨i + 1, fs ++ [⟨k, p, q⟩], by go_num, hit, HN.out, by simp; omega, by rw [cellsF_snoc]; simpa using hown7, by simpa using ht8, hk8⟩
              case measure => simp [intOf]; omega
            · have HF : Hid (parseB s = ([], errOf fs ⟨k, p, q⟩, (i : Int) + 1)) := HE.out.trans (HQ.out.trans (parseGo_bad hw hsd hkz herr))
              have heb : (errOf fs ⟨k, p, q⟩ == 0) = false := beq_false_of_ne herr
              clear ht6
              generalize errOf fs ⟨k, p, q⟩ = er at *
              go_wp2_with (first | (at_builtin; refine wpList_append_own _ rfl _ _ 36 rfl w3.heap.size 48 i0 (.agg #[.int .i64 0, .string ⟨#[]⟩, .string ⟨#[]⟩]) 3 40 Tryz.underlying36 hi0 hz0 hz1 hz2 rfl (by decide) _ _ _ rfl (hown6.alloc _) ⟨w6.heap.size, 0, none⟩ 1 1 [.int .i64 k, .string p, .string q] rfl rfl (cell_three_new _ _ _ _ _) ?x6 ?x7 ?x8 ?x9 ?_) | go_in)
              case x6 => intro u hu; simp at hu; rcases hu with rfl | rfl | rfl <;> rfl
              case x7 => unfold maxLen; omega
              case x8 => omega
              case x9 => have := hk7.size; simp; omega
              intro v' w7 hown7 hgrow7 _
              have hk8 : Kb [tb, bm] w3 w7 := (hk7.alloc _).grown hgrow7 (fun j hj => .inr (hown6.lt j hj).1)
              have g11 : w7.heap[w.heap.size]? = some (.cells #[.int .i64 0, .int .i64 0] 27 (0, 0)) := by
                refine (hgrow7.block _ (lt_of_heap (heap_old g10 _)) ?_).trans (heap_old g10 _)
                intro e
                have := (hown6.lt _ e.symm).1
                omega
              obtain ⟨c0', c1', f0', f1'⟩ := err_cells g11
              go_wp2_with fail
              refine bodyPost_ret (v := .tuple #[.slice none 0 0, .agg #[.int .i64 er, .int .i64 ((i : Int) + 1)]]) (by simp [results, Tryz.results37, go_sem, c0', c1']) rfl (PRes.bad HF.out ?_)
              exact ((hB3.trans (hk8.below (Nat.le_of_lt hwl) (by simp; omega))).setCell (p := ⟨w.heap.size, 0, none⟩) (Nat.le_refl _) _).setCell (p := ⟨w.heap.size, 1, none⟩) (Nat.le_refl _) _
        · have HF : Hid (parseB s = ([], er, (i : Int) + 1)) := hbad er her hle
          have heb : (er == 0) = false := beq_false_of_ne her
          rw [hle]
          clear hbad hgood heq hle
          have g5' := heap_old g6 (.cells #[.int .i64 0, .string ⟨#[]⟩, .string ⟨#[]⟩] 48)
          obtain ⟨c0, c1, f0, f1⟩ := err_cells g5'
          unfold noF noB
          go_wp2_with fail
          refine bodyPost_ret (v := .tuple #[.slice none 0 0, .agg #[.int .i64 er, .int .i64 ((i : Int) + 1)]]) (by simp [results, Tryz.results37, go_sem, c0, c1]) rfl (PRes.bad HF.out ?_)
          exact ((hB4.alloc hB4.size _).setCell (p := ⟨w.heap.size, 0, none⟩) (Nat.le_refl _) _).setCell (p := ⟨w.heap.size, 1, none⟩) (Nat.le_refl _) _
      · have hie : i = ls.length := by omega
        subst hie
        have HF : Hid (parseB s = (fs, 0, 0)) := by
          unfold Hid
          rw [HE.out, hi.eqn, List.drop_length]
          simp [parseGo]
        obtain ⟨c0, c1, f0, f1⟩ := err_cells g5
        clear hi
        go_wp2_with fail
        refine bodyPost_ret (v := .tuple #[u4, .agg #[.int .i64 0, .int .i64 0]]) (by simp [results, Tryz.results37, go_sem, c0, c1]) rfl ⟨u4, by rw [HF.out], ?_, ?_⟩
        · rw [HF.out]
          exact own_mono (ownsRow_setCell_below (ownsRow_setCell_below hown (a := ⟨w.heap.size, 0, none⟩) hwl _) (a := ⟨w.heap.size, 1, none⟩) hwl _) (Nat.le_of_lt hwl)
        · exact (hBx.setCell (p := ⟨w.heap.size, 0, none⟩) (Nat.le_refl _) _).setCell (p := ⟨w.heap.size, 1, none⟩) (Nat.le_refl _) _

end Go.Proofs.YtiamlbhkiehilaaGreatDoor

namespace Go.Proofs.YtiamlbhkiehilaaGreatDoor
open Go.RowKit Go.Maps

set_option maxRecDepth 100000 in
set_option maxHeartbeats 1000000 in
theorem qparse_any (s : ByteArray) (w : World) (m : Int) (hs : s.size ≤ maxLen) (hm : w.cell? ⟨1, 0, none⟩ = some (.int .i64 m)) :
    Calls Tryz.prog 24 #[.string s] w fun e w' => PRes w w' s e := by
  have g0 := heap_new w (.cells #[.int .i64 0, .int .i64 0] 27)
  have hb0 : Below w.heap.size w (w.alloc (.cells #[.int .i64 0, .int .i64 0] 27)) := (Below.refl _ _).alloc (Nat.le_refl _) _
  have hm0 : (w.alloc (.cells #[.int .i64 0, .int .i64 0] 27)).cell? ⟨1, 0, none⟩ = some (.int .i64 m) := by rw [hb0.cell (World.block_lt_of_cell? _ _ hm)]; exact hm
  go_enter Tryz.func24, Tryz.ntmps24
  go_wp2_with fail
  generalize w.alloc (.cells #[.int .i64 0, .int .i64 0] 27) = w0 at g0 hb0 hm0 ⊢
  have hl0 := lt_of_heap g0
  refine (fparse_any s w0 m hs hm0).mono ?_
  rintro e w1 ⟨v, rfl, hown, hb1⟩
  have g1 := Below.heapAt hb1 g0 hl0
  obtain ⟨c0, c1, f0, f1⟩ := err_cells g1
  have hB1 : Below w.heap.size w w1 := hb0.trans (hb1.mono hb0.size)
  generalize hr : parseB s = r at hown ⊢
  obtain ⟨fs, k, n⟩ := r
  simp only at hown ⊢
  go_wp2_with fail
  refine bodyPost_ret (v := .tuple #[v, .agg #[.int .i64 k, .int .i64 n]]) (by simp [results, Tryz.results24, go_sem, c0, c1]) rfl ⟨v, by rw [hr], ?_, ?_⟩
  · rw [hr]
    exact own_mono (ownsRow_setCell_below (ownsRow_setCell_below hown (a := ⟨w.heap.size, 0, none⟩) hl0 _) (a := ⟨w.heap.size, 1, none⟩) hl0 _) (Nat.le_of_lt hl0)
  · exact (hB1.setCell (p := ⟨w.heap.size, 0, none⟩) (Nat.le_refl _) _).setCell (p := ⟨w.heap.size, 1, none⟩) (Nat.le_refl _) _

end Go.Proofs.YtiamlbhkiehilaaGreatDoor
