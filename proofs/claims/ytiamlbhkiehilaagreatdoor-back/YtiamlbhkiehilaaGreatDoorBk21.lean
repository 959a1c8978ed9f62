import Derived.Test.YtiamlbhkiehilaaGreatDoorBk05
import Derived.Test.YtiamlbhkiehilaaGreatDoorBk18
import Derived.Test.YtiamlbhkiehilaaGreatDoorBk19
import Derived.Deep.RegionWith
namespace Go.Proofs.YtiamlbhkiehilaaGreatDoor
open Go.RowKit

set_option maxHeartbeats 400000 in
theorem areNames_any (n : ByteArray) (v : Value) (ss : List ByteArray) (w : World) (hn : n.size ≤ maxLen) (hlen : ss.length ≤ maxLen) (hv : IsStrs v ss w) (hfit : fitsS ss) :
    Calls Tryz.prog 72 #[.agg #[.string n, v]] w fun e w' => e = .returned (.bool (rowNames ⟨n, ss⟩)) ∧ Below w.heap.size w w' := by
  obtain ⟨ao, cap, rfl, _, _, hne0⟩ := hv
  have hne := hide hne0
  clear hne0
  unfold maxLen at hlen
  go_enter Tryz.func72, Tryz.ntmps72
  go_wp2
  have hb : Below w.heap.size w (w.alloc (.cells #[.string n, .slice ao ss.length cap] 51)) := (Below.refl _ _).alloc (Nat.le_refl _) _
  have g0 : (w.alloc (.cells #[.string n, .slice ao ss.length cap] 51)).cell? ⟨w.heap.size, 0, none⟩ = some (.string n) := by rw [cell_at (heap_new _ _)]; rfl
  generalize w.alloc (.cells #[.string n, .slice ao ss.length cap] 51) = w1 at hb g0 ⊢
  go_loop [8] (fun i => ∃ k : Nat, i = .int .i64 k ∧ k ≤ ss.length ∧ Hid ((ss.take k).all isN = true)) (fun i => ss.length - (intOf i).toNat)
  case atStart => exact ⟨0, rfl, Nat.zero_le _, rfl⟩
  case round =>
    obtain ⟨k, rfl, hk, HA⟩ := hrel
    by_cases hlt : k < ss.length
    · obtain ⟨x, hx⟩ : ∃ x, ss[k]? = some x := ⟨_, List.getElem?_eq_getElem hlt⟩
      obtain ⟨b, off, hao, hbw, hs⟩ := hne.out (ne_nil_of_get hx)
      subst hao
      have d0 := (hs.below hb hbw) k x hx
      have hxs := hfit x (List.mem_of_getElem? hx)
      have hst := all_step (p := isN) hx
      rw [HA.out, Bool.true_and] at hst
      cases hp : isN x
      · have HF : Hid (rowNames ⟨n, ss⟩ = false) := by unfold Hid rowNames; simp only [all_take_false hx hp, Bool.and_false]
        have HP : Hid (nameB x.data.toList = false) := hp
        clear hst hp hx hs hne
        go_wp2_with (go_at_call 95; refine (isName_any _ _ hxs).mono ?_; rintro e w' ⟨rfl, rfl⟩; rw [HP.out])
        go_ret
        exact ⟨by rw [HF.out]; rfl, hb⟩
      · rw [hp] at hst
        have HS := hide hst
        have HP : Hid (nameB x.data.toList = true) := hp
        clear hst hp hx hs hne
        go_wp2_with (go_at_call 95; refine (isName_any _ _ hxs).mono ?_; rintro e w' ⟨rfl, rfl⟩; rw [HP.out])
        go_round
        case rel => exact ⟨k + 1, by go_num, by omega, HS.out⟩
        case measure => simp [intOf]; omega
    · have HF : Hid (rowNames ⟨n, ss⟩ = nameB n.data.toList) := by
        have h := HA.out
        rw [List.take_of_length_le (by omega)] at h
        unfold Hid rowNames isN at *
        simp only [h, Bool.and_true]
      go_wp2_with (go_at_call 95; refine (isName_any _ _ hn).mono ?_; rintro e w' ⟨rfl, rfl⟩)
      go_ret
      exact ⟨by rw [HF.out]; rfl, hb⟩

set_option maxHeartbeats 400000 in
theorem width_any (n : ByteArray) (v : Value) (ss : List ByteArray) (w : World) (hlen : ss.length ≤ maxLen) (hv : IsStrs v ss w) (hbound : n.size + 2 + toWidth ss ≤ 1000000000000) :
    Calls Tryz.prog 73 #[.agg #[.string n, v]] w fun e w' => e = .returned (.int .i64 ((n.size + 2 + toWidth ss : Nat) : Int)) ∧ Below w.heap.size w w' := by
  obtain ⟨ao, cap, rfl, _, _, hne0⟩ := hv
  have hne := hide hne0
  clear hne0
  unfold maxLen at hlen
  go_enter Tryz.func73, Tryz.ntmps73
  go_wp2
  have hb : Below w.heap.size w (w.alloc (.cells #[.string n, .slice ao ss.length cap] 51)) := (Below.refl _ _).alloc (Nat.le_refl _) _
  generalize w.alloc (.cells #[.string n, .slice ao ss.length cap] 51) = w1 at hb ⊢
  go_loop [3, 13] (fun s i => ∃ k : Nat, i = .int .i64 k ∧ k ≤ ss.length ∧ s = .int .i64 ((n.size : Int) + 2 + (toWidth (ss.take k) : Int))) (fun _ i => ss.length - (intOf i).toNat)
  case atStart => exact ⟨0, rfl, Nat.zero_le _, by simp [toWidth]⟩
  case round =>
    obtain ⟨k, rfl, hk, rfl⟩ := hrel
    by_cases hlt : k < ss.length
    · obtain ⟨x, hx⟩ : ∃ x, ss[k]? = some x := ⟨_, List.getElem?_eq_getElem hlt⟩
      obtain ⟨b, off, hao, hbw, hs⟩ := hne.out (ne_nil_of_get hx)
      subst hao
      have d0 := (hs.below hb hbw) k x hx
      have hst := toWidth_snoc (ss.take k) x
      rw [← take_next hx] at hst
      have htk := toWidth_take ss (k + 1)
      have HS := hide hst
      have hle : toWidth (ss.take k) + 1 + x.size ≤ toWidth ss := by omega
      clear hst hx hs hne htk
      generalize toWidth (ss.take k) = t at *
      go_wp2
      go_round
      case rel => exact ⟨k + 1, by go_num, by omega, by rw [HS.out]; go_num⟩
      case measure => simp [intOf]; omega
    · have HF : Hid (toWidth (ss.take k) = toWidth ss) := by unfold Hid; rw [List.take_of_length_le (by omega)]
      go_wp2
      go_ret
      exact ⟨ret_int (by rw [HF.out]), hb⟩

end Go.Proofs.YtiamlbhkiehilaaGreatDoor

namespace Go.Proofs.YtiamlbhkiehilaaGreatDoor
open Go.RowKit

theorem bytes_app (a : List UInt8) (s : ByteArray) : Lib.byteCells a ++ Lib.strCells s = Lib.byteCells (a ++ s.data.toList) := by simp [Lib.byteCells, Lib.strCells]

/-- What holds at the head of each round of write. -/
structure WrInv (w wr : World) (rs : List RowD) (n : Nat) : Prop where
  le : n ≤ rs.length
  bld : Lib.IsBuilderF 118 5 w.heap.size w.heap.size (Lib.byteCells (rowsText (rs.take n))) wr
  blw : Below w.heap.size w wr

set_option maxHeartbeats 1000000 in
theorem write_any (v : Value) (rs : List RowD) (w : World) (hlen : rs.length ≤ maxLen) (hv : IsRows v rs w) (hfit : fitsR rs) (hbound : (rowsText rs).length ≤ 1000000000000) :
    Calls Tryz.prog 59 #[v] w fun e w' => e = .returned (.string ⟨(rowsText rs).toArray⟩) ∧ Below w.heap.size w w' := by
  obtain ⟨ao, cap, rfl, _, _, hne0⟩ := hv
  have hne := hide hne0
  clear hne0
  unfold maxLen at hlen
  go_enter Tryz.func59, Tryz.ntmps59
  go_wp2
  go_loopw [10] (fun i wr => ∃ n : Nat, i = .int .i64 n ∧ WrInv w wr rs n) (fun i _ => rs.length - (intOf i).toNat)
  case atStart => exact ⟨0, rfl, Nat.zero_le _, .inl ⟨Nat.le_refl _, .slice none 0 0, heap_new _ _, World.ownsRowF_nil _ _ _ _, by simp [Value.ownBlock]⟩, (Below.refl _ _).alloc (Nat.le_refl _) _⟩
  case round =>
    obtain ⟨n, rfl, hi⟩ := hrel
    have hbl := hi.blw
    have hbd := hi.bld
    by_cases hlt : n < rs.length
    · obtain ⟨⟨nm, tgs⟩, hr⟩ : ∃ r, rs[n]? = some r := ⟨_, List.getElem?_eq_getElem hlt⟩
      obtain ⟨b, off, hao, hbw, hrs⟩ := hne.out (ne_nil_of_get hr)
      subst hao
      obtain ⟨d0w, tv, d1w, hst0⟩ := hrs n nm tgs hr
      have d0 := (hbl.cell (p := ⟨b, off + n * 2, none⟩) hbw).trans d0w
      have d1 := (hbl.cell (p := ⟨b, off + n * 2 + 1, none⟩) hbw).trans d1w
      clear d0w d1w
      obtain ⟨ao2, cap2, htv, _, _, hn2⟩ := hst0
      have hst := hide hn2
      clear hn2
      subst htv
      obtain ⟨hf1, hf2, _⟩ := hfit _ (List.mem_of_getElem? hr)
      simp only at hf1 hf2
      unfold maxLen at hf2
      have htx := rowsText_snoc (rs.take n) ⟨nm, tgs⟩
      rw [← take_next hr] at htx
      have hL := rowsText_take (l := rs) (k := n + 1)
      rw [htx, List.length_append, rowText_length] at hL
      simp only at hL
      have HTX := hide htx
      clear htx hr hrs hi
      generalize rowsText (rs.take n) = acc at *
      have hsz := hbd.elim (fun h => h.lt) (fun h => h.lt)
      go_wp2_with fail
      have hk1 : Kb [] _ _ := (Kb.refl [] wr).alloc (.cells #[.string nm, .slice ao2 tgs.length cap2] 51)
      have g1 := heap_new wr (.cells #[.string nm, .slice ao2 tgs.length cap2] 51)
      have hbd1 := hk1.builder hbd (by simp) (by simp)
      have hbl1 := hbl.alloc hbl.size (.cells #[.string nm, .slice ao2 tgs.length cap2] 51)
      have hbc : (Lib.byteCells acc).length = acc.length := Lib.byteCells_length acc
      refine (writeString_any w.heap.size w.heap.size (Lib.byteCells acc) nm _ hbd1 (by omega) hbl1.size).mono ?_
      rintro e w2 ⟨rfl, hbd2, hb2, ho2⟩
      rw [bytes_app] at hbd2
      have g2 := ho2 _ _ g1 (by intro e; injection e; omega) (by intro c fz e; cases e)
      have hbl2 := hbl1.trans hb2
      clear hk1 hbd1 hbl1 hb2 ho2 g1 hbc hbd d0 d1
      go_wp2_with fail
      have hbc : (Lib.byteCells (acc ++ nm.data.toList)).length = acc.length + nm.size := by rw [Lib.byteCells_length, List.length_append]; rfl
      have e58 : (⟨#[58]⟩ : ByteArray).size = 1 := rfl
      refine (writeString_any w.heap.size w.heap.size (Lib.byteCells (acc ++ nm.data.toList)) ⟨#[58]⟩ _ hbd2 (by omega) hbl2.size).mono ?_
      rintro e w3 ⟨rfl, hbd3, hb3, ho3⟩
      rw [bytes_app] at hbd3
      have g3 := ho3 _ _ g2 (by intro e; injection e; omega) (by intro c fz e; cases e)
      have hbl3 := hbl2.trans hb3
      have c1 : w3.cell? ⟨wr.heap.size, 1, none⟩ = some (.slice ao2 tgs.length cap2) := by rw [cell_at g3]; rfl
      clear hbl2 hb3 ho3 hbd2 g2 hbc e58 g3
      go_wp2_with fail
      go_loopw [21] (fun i wx => ∃ k : Nat, i = .int .i64 k ∧ k ≤ tgs.length ∧ Lib.IsBuilderF 118 5 w.heap.size w.heap.size (Lib.byteCells (acc ++ nm.data.toList ++ [58] ++ toText (tgs.take k))) wx ∧ Below w.heap.size w wx) (fun i _ => tgs.length - (intOf i).toNat)
      case atStart => exact ⟨0, rfl, Nat.zero_le _, by simpa [toText] using hbd3, hbl3⟩
      case round =>
        clear hbd3 hbl3
        obtain ⟨k, rfl, hk, hbd4, hbl4⟩ := hrel
        by_cases hkt : k < tgs.length
        · obtain ⟨x, hx⟩ : ∃ x, tgs[k]? = some x := ⟨_, List.getElem?_eq_getElem hkt⟩
          obtain ⟨b2, off2, hao2, hb2w, hs2⟩ := hst.out (ne_nil_of_get hx)
          subst hao2
          have x0 := (hs2.below hbl4 hb2w) k x hx
          have hts := toText_snoc (tgs.take k) x
          rw [← take_next hx] at hts
          have hw1 := toWidth_take tgs (k + 1)
          have hw2 := toWidth_snoc (tgs.take k) x
          rw [← take_next hx] at hw2
          have htl := toWidth_text (tgs.take k)
          have HTS := hide hts
          clear hts hx hs2 hst
          generalize toText (tgs.take k) = tt at *
          have e32 : (⟨#[32]⟩ : ByteArray).size = 1 := rfl
          have hbc : (Lib.byteCells (acc ++ nm.data.toList ++ [58] ++ tt)).length = acc.length + nm.size + 1 + tt.length := by
            rw [Lib.byteCells_length, List.length_append, List.length_append, List.length_append]; rfl
          go_wp2_with fail
          refine (writeString_any w.heap.size w.heap.size _ ⟨#[32]⟩ _ hbd4 (by omega) hbl4.size).mono ?_
          rintro e w5 ⟨rfl, hbd5, hb5, ho5⟩
          rw [bytes_app] at hbd5
          have hbl5 := hbl4.trans hb5
          clear hbd4 hb5 ho5 hbc x0
          have hbc : (Lib.byteCells (acc ++ nm.data.toList ++ [58] ++ tt ++ (⟨#[32]⟩ : ByteArray).data.toList)).length = acc.length + nm.size + 1 + tt.length + 1 := by
            rw [Lib.byteCells_length, List.length_append, List.length_append, List.length_append, List.length_append]; rfl
          go_wp2_with fail
          refine (writeString_any w.heap.size w.heap.size _ x _ hbd5 (by omega) hbl5.size).mono ?_
          rintro e w6 ⟨rfl, hbd6, hb6, ho6⟩
          rw [bytes_app] at hbd6
          have hbl6 := hbl5.trans hb6
          have hfin : Lib.IsBuilderF 118 5 w.heap.size w.heap.size (Lib.byteCells (acc ++ nm.data.toList ++ [58] ++ toText (tgs.take (k + 1)))) w6 := by
            rw [HTS.out]
            simpa using hbd6
          clear hbd5 hbd6 hb6 ho6 hbl5 hbc
          go_wp2
          go_roundw
          case rel => exact ⟨k + 1, by go_num, by omega, hfin, hbl6⟩
          case measure => simp [intOf]; omega
        · have htk : tgs.take k = tgs := List.take_of_length_le (by omega)
          rw [htk] at hbd4
          clear htk
          have e10 : (⟨#[10]⟩ : ByteArray).size = 1 := rfl
          have hbc : (Lib.byteCells (acc ++ nm.data.toList ++ [58] ++ toText tgs)).length = acc.length + nm.size + 1 + toWidth tgs := by
            rw [Lib.byteCells_length, List.length_append, List.length_append, List.length_append, toWidth_text]; rfl
          go_wp2_with fail
          refine (writeString_any w.heap.size w.heap.size _ ⟨#[10]⟩ _ hbd4 (by omega) hbl4.size).mono ?_
          rintro e w5 ⟨rfl, hbd5, hb5, ho5⟩
          rw [bytes_app] at hbd5
          have hbl5 := hbl4.trans hb5
          have hfin : WrInv w w5 rs (n + 1) := by
            refine ⟨hlt, ?_, hbl5⟩
            rw [HTX.out]
            simpa [rowText] using hbd5
          clear hbd4 hbd5 hb5 ho5 hbc hbl4
          go_wp2
          go_roundw
          case rel => exact ⟨n + 1, by go_num, hfin⟩
          case measure => simp [intOf]; omega
    · have htk : rs.take n = rs := List.take_of_length_le (by omega)
      rw [htk] at hbd
      clear htk hi
      go_wp2_with fail
      refine (builderString_any w.heap.size w.heap.size (rowsText rs) _ hbd hbl.size).mono ?_
      rintro e w2 ⟨rfl, _, hb2, _⟩
      have hbl2 := hbl.trans hb2
      clear hb2 hbl
      go_wp2
      go_ret
      exact ⟨rfl, hbl2⟩

end Go.Proofs.YtiamlbhkiehilaaGreatDoor

namespace Go.Proofs.YtiamlbhkiehilaaGreatDoor
open Go.RowKit

theorem tellGo_ok {ahead : ByteArray} {i : Nat} {acc : List UInt8} {r : RowD} {s : List RowD} (h : rowErr r ahead = 0) : tellGo ahead i acc (r :: s) = tellGo r.name (i + 1) (acc ++ rowText r) s := by simp [tellGo, h]
theorem tellGo_err {ahead : ByteArray} {i : Nat} {acc : List UInt8} {r : RowD} {s : List RowD} {e : Int} (h : rowErr r ahead = e) (h0 : e ≠ 0) : tellGo ahead i acc (r :: s) = ([], e, (i : Int) + 1) := by simp [tellGo, h, h0]
theorem tellGo_nil {ahead : ByteArray} {i : Nat} {acc : List UInt8} : tellGo ahead i acc [] = if 25000 < acc.length then ([], 2, 0) else (acc, 0, 0) := by simp [tellGo]

/-- What holds at the head of each round of Tell. -/
structure TInv (w wr : World) (rs : List RowD) (n : Nat) : Prop where
  le : n ≤ rs.length
  rest : tellGo (lastName (rs.take n)) n (rowsText (rs.take n)) (rs.drop n) = tellGo ⟨#[]⟩ 0 [] rs
  res : wr.heap[w.heap.size]? = some (.cells #[.int .i64 0, .int .i64 0] 27 (0, 0))
  blw : Below w.heap.size w wr

theorem TInv.next {w wr w2 : World} {rs : List RowD} {n : Nat} {r : RowD} (h : TInv w wr rs n) (hr : rs[n]? = some r) (he : rowErr r (lastName (rs.take n)) = 0) (hres : w2.heap[w.heap.size]? = some (.cells #[.int .i64 0, .int .i64 0] 27 (0, 0))) (hb : Below w.heap.size w w2) : TInv w w2 rs (n + 1) := by
  refine ⟨lt_get hr, ?_, hres, hb⟩
  have e := h.rest
  rw [drop_here hr, tellGo_ok he] at e
  rw [take_next hr, lastName_snoc, rowsText_snoc]
  exact e

set_option maxHeartbeats 2000000 in
set_option maxRecDepth 100000 in
theorem rtell_any (v : Value) (rs : List RowD) (w : World) (hlen : rs.length ≤ maxLen) (hv : IsRows v rs w) (hfit : fitsR rs) (hbound : (rowsText rs).length ≤ 1000000000000) :
    Calls Tryz.prog 39 #[v] w fun e w' => e = .returned (.tuple #[.string ⟨(tellGo ⟨#[]⟩ 0 [] rs).1.toArray⟩, .agg #[.int .i64 (tellGo ⟨#[]⟩ 0 [] rs).2.1, .int .i64 (tellGo ⟨#[]⟩ 0 [] rs).2.2]]) ∧ Below w.heap.size w w' := by
  have hv0 := hide hv
  have hlen0 := hlen
  obtain ⟨ao, cap, hve, _, _, hne0⟩ := hv
  subst hve
  have hne := hide hne0
  clear hne0
  unfold maxLen at hlen
  go_enter Tryz.func39, Tryz.ntmps39
  go_wp2
  go_loopw [4, 5, 11] (fun s a i wr => ∃ n : Nat, i = .int .i64 n ∧ s = .int .i64 ((min (rowsText (rs.take n)).length 25001 : Nat) : Int) ∧ a = .string (lastName (rs.take n)) ∧ TInv w wr rs n) (fun _ _ i _ => rs.length - (intOf i).toNat)
  case atStart => exact ⟨0, rfl, rfl, rfl, Nat.zero_le _, rfl, heap_new _ _, (Below.refl _ _).alloc (Nat.le_refl _) _⟩
  case round =>
    obtain ⟨n, rfl, rfl, rfl, hi⟩ := hrel
    have hbl := hi.blw
    have hres := hi.res
    have hsz := lt_of_heap hres
    by_cases hlt : n < rs.length
    · obtain ⟨⟨nm, tgs⟩, hr⟩ : ∃ r, rs[n]? = some r := ⟨_, List.getElem?_eq_getElem hlt⟩
      obtain ⟨b, off, hao, hbw, hrs⟩ := hne.out (ne_nil_of_get hr)
      subst hao
      obtain ⟨d0w, tv, d1w, hst0⟩ := hrs n nm tgs hr
      have d0 := (hbl.cell (p := ⟨b, off + n * 2, none⟩) hbw).trans d0w
      have d1 := (hbl.cell (p := ⟨b, off + n * 2 + 1, none⟩) hbw).trans d1w
      clear d0w d1w
      have HIS : Hid (∀ w', Below w.heap.size w w' → IsStrs tv tgs w') := fun w' h => hst0.below h
      obtain ⟨ao2, cap2, htv, _⟩ := hst0
      subst htv
      obtain ⟨hf1, hf2, hf3⟩ := hfit _ (List.mem_of_getElem? hr)
      simp only at hf1 hf2 hf3
      have htx := rowsText_snoc (rs.take n) ⟨nm, tgs⟩
      rw [← take_next hr] at htx
      have hL := rowsText_take (l := rs) (k := n + 1)
      have htl : (rowsText (rs.take (n + 1))).length = (rowsText (rs.take n)).length + (nm.size + 2 + toWidth tgs) := by rw [htx, List.length_append, rowText_length]
      have hln := lastName_snoc (rs.take n) ⟨nm, tgs⟩
      rw [← take_next hr] at hln
      have HR := hide hr
      have HTL := hide htl
      have HLN := hide hln
      have hw1 : nm.size + 2 + toWidth tgs ≤ 1000000000000 := by omega
      clear htx hr hrs htl hln
      generalize hla : lastName (rs.take n) = ahead at *
      have HLA := hide hla
      clear hla
      go_wp2_with fail
      have hk1 := (Kb.refl [] wr).alloc (.cells #[.string nm, .slice ao2 tgs.length cap2] 51)
      have g1 := heap_new wr (.cells #[.string nm, .slice ao2 tgs.length cap2] 51)
      generalize wr.alloc (.cells #[.string nm, .slice ao2 tgs.length cap2] 51) = w1 at hk1 g1 ⊢
      have hbl1 : Below w.heap.size w w1 := hbl.trans (hk1.below hbl.size (by simp))
      have hres1 := hk1.heap hres (by simp)
      have hz1 := lt_of_heap g1
      have p0 : w1.cell? ⟨wr.heap.size, 0, none⟩ = some (.string nm) := by rw [cell_at g1]; rfl
      have p1 : w1.cell? ⟨wr.heap.size, 1, none⟩ = some (.slice ao2 tgs.length cap2) := by rw [cell_at g1]; rfl
      clear hk1 hres hbl d0 d1
      go_region_with (first | (go_at_call 72; refine (areNames_any nm _ tgs _ hf1 hf2 (HIS.out _ hbl1.drew) hf3).mono ?_; rintro e w2 ⟨rfl, hb2⟩; have hb2' : Below w1.heap.size w1 w2 := (Below.refl _ _).drew.trans hb2; have g2 := Below.heapAt hb2' g1 hz1; have q0 : w2.cell? ⟨wr.heap.size, 0, none⟩ = some (.string nm) := (by rw [cell_at g2]; rfl); have q1 : w2.cell? ⟨wr.heap.size, 1, none⟩ = some (.slice ao2 tgs.length cap2) := (by rw [cell_at g2]; rfl)) | (go_at_call 71; refine (check_any nm _ tgs _ ahead _ hf1 hf2 (HIS.out _ (hbl1.trans (hb2'.mono hbl1.size))) hf3).mono ?_; rintro e w3 ⟨rfl, hb3⟩))
      all_goals
        have hb3' : Below w1.heap.size w1 w3 := hb2'.trans (hb3.mono hb2'.size)
        have g3 := Below.heapAt hb3' g1 hz1
        have hbl3 := hbl1.trans (hb3'.mono hbl1.size)
        have hres3 := Below.heapAt hb3' hres1 (lt_of_heap hres1)
        have k0 : w3.cell? ⟨wr.heap.size, 0, none⟩ = some (.string nm) := by rw [cell_at g3]; rfl
        have k1 : w3.cell? ⟨wr.heap.size, 1, none⟩ = some (.slice ao2 tgs.length cap2) := by rw [cell_at g3]; rfl
        have r0 : w3.cell? ⟨w.heap.size, 0, none⟩ = some (.int .i64 0) := by rw [cell_at hres3]; rfl
        have r1 : w3.cell? ⟨w.heap.size, 1, none⟩ = some (.int .i64 0) := by rw [cell_at hres3]; rfl
        have r2 : w3.frozen? ⟨w.heap.size, 0, none⟩ = false := frozen_at hres3 _
        have r3 : w3.frozen? ⟨w.heap.size, 1, none⟩ = false := frozen_at hres3 _
        clear hb2 hb2' hb3 hb3' g2 q0 q1 p0 p1 hres1 hbl1
        rw [← rowErr_chk]
        by_cases he : rowErr ⟨nm, tgs⟩ ahead = 0
        · have HE := hide he
          rw [HE.out]
          clear he
          go_wp2_with fail
          refine (width_any nm _ tgs _ hf2 (HIS.out _ hbl3) hw1).mono ?_
          rintro e w4 ⟨rfl, hb4⟩
          have g4 := Below.heapAt hb4 g3 (lt_of_heap g3)
          have hbl4 := hbl3.trans (hb4.mono hbl3.size)
          have hres4 := Below.heapAt hb4 hres3 (lt_of_heap hres3)
          have m0 : w4.cell? ⟨wr.heap.size, 0, none⟩ = some (.string nm) := by rw [cell_at g4]; rfl
          have hnext := hi.next HR.out (by rw [HLA.out]; exact HE.out) hres4 hbl4
          have hmin : min (min (rowsText (rs.take n)).length 25001 + (nm.size + 2 + toWidth tgs)) 25001 = min (rowsText (rs.take (n + 1))).length 25001 := by rw [HTL.out]; omega
          have HMIN := hide hmin
          clear hb4 g3 g4 hres3 hres4 hbl3 hi hmin k0 k1 r0 r1 r2 r3
          generalize (rowsText (rs.take n)).length = L at *
          have hLm : min L 25001 ≤ 25001 := Nat.min_le_right _ _
          generalize min L 25001 = sz at *
          generalize nm.size + 2 + toWidth tgs = wd at *
          go_wp2
          go_roundw
          case rel => exact ⟨n + 1, by go_num, congrArg (Value.int .i64) (by rw [← HMIN.out]; omega), by rw [HLN.out], hnext⟩
          case measure => simp [intOf]; omega
        · have HE : Hid (tellGo ⟨#[]⟩ 0 [] rs = ([], rowErr ⟨nm, tgs⟩ ahead, (n : Int) + 1)) := by
            have e := hi.rest
            rw [drop_here HR.out, HLA.out, tellGo_err rfl he] at e
            exact e.symm
          generalize rowErr ⟨nm, tgs⟩ ahead = x at HE he ⊢
          have hx : (x != 0) = true := bne_iff_ne.2 he
          clear he hres3 g3
          go_wp2
          refine bodyPost_ret (v := .tuple #[.string ⟨#[]⟩, .agg #[.int .i64 x, .int .i64 ((n : Int) + 1)]]) (by simp [results, Tryz.results39, go_sem, r0, r1]) rfl ⟨by rw [HE.out], ?_⟩
          exact (hbl3.setCell (p := ⟨w.heap.size, 0, none⟩) (Nat.le_refl _) _).setCell (p := ⟨w.heap.size, 1, none⟩) (Nat.le_refl _) _
    · have htk : rs.take n = rs := List.take_of_length_le (by omega)
      have e := hi.rest
      rw [List.drop_of_length_le (by omega), tellGo_nil, htk] at e
      rw [htk]
      have r0 : wr.cell? ⟨w.heap.size, 0, none⟩ = some (.int .i64 0) := by rw [cell_at hres]; rfl
      have r1 : wr.cell? ⟨w.heap.size, 1, none⟩ = some (.int .i64 0) := by rw [cell_at hres]; rfl
      have r2 : wr.frozen? ⟨w.heap.size, 0, none⟩ = false := frozen_at hres _
      have r3 : wr.frozen? ⟨w.heap.size, 1, none⟩ = false := frozen_at hres _
      clear hi htk
      by_cases hbig : 25000 < (rowsText rs).length
      · rw [if_pos hbig] at e
        have HE := hide e.symm
        have hm : min (rowsText rs).length 25001 = 25001 := by omega
        rw [hm]
        clear e hm hres
        go_wp2
        refine bodyPost_ret (v := .tuple #[.string ⟨#[]⟩, .agg #[.int .i64 2, .int .i64 0]]) (by simp [results, Tryz.results39, go_sem, r0, r1]) rfl ⟨by rw [HE.out], ?_⟩
        exact (hbl.setCell (p := ⟨w.heap.size, 0, none⟩) (Nat.le_refl _) _).setCell (p := ⟨w.heap.size, 1, none⟩) (Nat.le_refl _) _
      · rw [if_neg hbig] at e
        have HE := hide e.symm
        have hm : min (rowsText rs).length 25001 = (rowsText rs).length := by omega
        rw [hm]
        clear e hm
        have hle : ((rowsText rs).length : Int) ≤ 25000 := by omega
        go_wp2_with fail
        refine (write_any _ rs _ hlen0 (hv0.out.below hbl) hfit hbound).mono ?_
        rintro e w2 ⟨rfl, hb2⟩
        have hres2 := Below.heapAt hb2 hres (lt_of_heap hres)
        have hbl2 := hbl.trans (hb2.mono hbl.size)
        have q0 : w2.cell? ⟨w.heap.size, 0, none⟩ = some (.int .i64 0) := by rw [cell_at hres2]; rfl
        have q1 : w2.cell? ⟨w.heap.size, 1, none⟩ = some (.int .i64 0) := by rw [cell_at hres2]; rfl
        have q2 : w2.frozen? ⟨w.heap.size, 0, none⟩ = false := frozen_at hres2 _
        have q3 : w2.frozen? ⟨w.heap.size, 1, none⟩ = false := frozen_at hres2 _
        clear hb2 hres hres2 hbl r0 r1 r2 r3
        go_wp2
        refine bodyPost_ret (v := .tuple #[.string ⟨(rowsText rs).toArray⟩, .agg #[.int .i64 0, .int .i64 0]]) (by simp [results, Tryz.results39, go_sem, q0, q1]) rfl ⟨by rw [HE.out], ?_⟩
        exact (hbl2.setCell (p := ⟨w.heap.size, 0, none⟩) (Nat.le_refl _) _).setCell (p := ⟨w.heap.size, 1, none⟩) (Nat.le_refl _) _

set_option maxHeartbeats 400000 in
theorem qtell_any (v : Value) (rs : List RowD) (w : World) (hlen : rs.length ≤ maxLen) (hv : IsRows v rs w) (hfit : fitsR rs) (hbound : (rowsText rs).length ≤ 1000000000000) :
    Calls Tryz.prog 26 #[v] w fun e w' => e = .returned (.tuple #[.string ⟨(tellGo ⟨#[]⟩ 0 [] rs).1.toArray⟩, .agg #[.int .i64 (tellGo ⟨#[]⟩ 0 [] rs).2.1, .int .i64 (tellGo ⟨#[]⟩ 0 [] rs).2.2]]) ∧ Below w.heap.size w w' := by
  have hb0 : Below w.heap.size w (w.alloc (.cells #[.int .i64 0, .int .i64 0] 27)) := (Below.refl _ _).alloc (Nat.le_refl _) _
  have HC := rtell_any v rs _ hlen (hv.below hb0) hfit hbound
  generalize tellGo ⟨#[]⟩ 0 [] rs = R at HC ⊢
  have HH : Hid (Calls _ _ _ _ _) := HC
  clear HC
  go_enter Tryz.func26, Tryz.ntmps26
  go_wp2_with fail
  refine (HH.out).mono ?_
  rintro e w2 ⟨rfl, hb2⟩
  have g0 : w2.heap[w.heap.size]? = some (.cells #[.int .i64 0, .int .i64 0] 27 (0, 0)) := Below.heapAt hb2 (heap_new _ _) (by simp)
  have r0 : w2.cell? ⟨w.heap.size, 0, none⟩ = some (.int .i64 0) := by rw [cell_at g0]; rfl
  have r1 : w2.cell? ⟨w.heap.size, 1, none⟩ = some (.int .i64 0) := by rw [cell_at g0]; rfl
  have r2 : w2.frozen? ⟨w.heap.size, 0, none⟩ = false := frozen_at g0 _
  have r3 : w2.frozen? ⟨w.heap.size, 1, none⟩ = false := frozen_at g0 _
  have hbl : Below w.heap.size w w2 := hb0.trans (hb2.mono (by simp))
  clear hb2 g0 HH
  go_wp2
  refine bodyPost_ret (v := .tuple #[.string ⟨R.1.toArray⟩, .agg #[.int .i64 R.2.1, .int .i64 R.2.2]]) (by simp [results, Tryz.results26, go_sem, r0, r1]) rfl ⟨rfl, ?_⟩
  exact (hbl.setCell (p := ⟨w.heap.size, 0, none⟩) (Nat.le_refl _) _).setCell (p := ⟨w.heap.size, 1, none⟩) (Nat.le_refl _) _

end Go.Proofs.YtiamlbhkiehilaaGreatDoor
