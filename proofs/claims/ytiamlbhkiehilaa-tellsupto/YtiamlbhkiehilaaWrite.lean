import Derived.Test.YtiamlbhkiehilaaRows3
import Derived.Test.YtiamlbhkiehilaaRows2T
import Derived.Test.YtiamlbhkiehilaaBuilder
import Derived.Deep.RegionWith
namespace Go.Proofs.Ytiamlbhkiehilaa
open Go.RowKit

theorem bytes_app (a : List UInt8) (s : ByteArray) : Lib.byteCells a ++ Lib.strCells s = Lib.byteCells (a ++ s.data.toList) := by simp [Lib.byteCells, Lib.strCells]

/-- What holds at the head of each round of write. -/
structure WrInv (w wr : World) (rs : List RowD) (n : Nat) : Prop where
  le : n ≤ rs.length
  bld : Lib.IsBuilderF 46 5 w.heap.size w.heap.size (Lib.byteCells (rowsText (rs.take n))) wr
  blw : Below w.heap.size w wr

set_option maxHeartbeats 1000000 in
theorem write_any (v : Value) (rs : List RowD) (w : World) (hlen : rs.length ≤ maxLen) (hv : IsRows v rs w) (hfit : fitsR rs) (hbound : (rowsText rs).length ≤ 1000000000000) :
    Calls Try.prog 28 #[v] w fun e w' => e = .returned (.string ⟨(rowsText rs).toArray⟩) ∧ Below w.heap.size w w' := by
  obtain ⟨ao, cap, rfl, _, _, hne0⟩ := hv
  have hne := hide hne0
  clear hne0
  unfold maxLen at hlen
  go_enter Try.func28, Try.ntmps28
  go_wp2
  go_loopw [10] (fun i wr => ∃ n : Nat, i = .int .i64 n ∧ WrInv w wr rs n) (fun i _ => rs.length - (intOf i).toNat)
  case atStart => exact ⟨0, rfl, Nat.zero_le _, .inl ⟨Nat.le_refl _, .slice none 0 0, heap_new _ _, World.ownsRowF_nil _ _ _ _, by simp [Value.ownBlock]⟩, (Below.refl _ _).alloc (Nat.le_refl _) _⟩
  case round =>
    obtain ⟨n, rfl, hi⟩ := hrel
    have hbl := hi.blw
    have hbd := hi.bld
    by_cases hlt : n < rs.length
    · obtain ⟨⟨nm, to⟩, hr⟩ : ∃ r, rs[n]? = some r := ⟨_, List.getElem?_eq_getElem hlt⟩
      obtain ⟨b, off, hao, hbw, hrs⟩ := hne.out (ne_nil_of_get hr)
      subst hao
      obtain ⟨d0w, tv, d1w, hst0⟩ := hrs n nm to hr
      have d0 := (hbl.cell (p := ⟨b, off + n * 2, none⟩) hbw).trans d0w
      have d1 := (hbl.cell (p := ⟨b, off + n * 2 + 1, none⟩) hbw).trans d1w
      clear d0w d1w
      obtain ⟨ao2, cap2, htv, _, _, hn2⟩ := hst0
      have hst := hide hn2
      clear hn2
      subst htv
      obtain ⟨hf1, hf2, _⟩ := hfit _ (List.mem_of_getElem? hr)
      simp only at hf1 hf2
      unfold maxLen at hf2
      have htx := rowsText_snoc (rs.take n) ⟨nm, to⟩
      rw [← take_next hr] at htx
      have hL := rowsText_take (l := rs) (k := n + 1)
      rw [htx, List.length_append, rowText_length] at hL
      simp only at hL
      have HTX := hide htx
      clear htx hr hrs hi
      generalize rowsText (rs.take n) = acc at *
      have hsz := hbd.elim (fun h => h.lt) (fun h => h.lt)
      go_wp2_with fail
      have hk1 : Kb [] _ _ := (Kb.refl [] wr).alloc (.cells #[.string nm, .slice ao2 to.length cap2] 38)
      have g1 := heap_new wr (.cells #[.string nm, .slice ao2 to.length cap2] 38)
      have hbd1 := hk1.builder hbd (by simp) (by simp)
      have hbl1 := hbl.alloc hbl.size (.cells #[.string nm, .slice ao2 to.length cap2] 38)
      have hbc : (Lib.byteCells acc).length = acc.length := Lib.byteCells_length acc
      refine (writeString_any w.heap.size w.heap.size (Lib.byteCells acc) nm _ hbd1 (by omega) hbl1.size).mono ?_
      rintro e w2 ⟨rfl, hbd2, hb2, ho2⟩
      rw [bytes_app] at hbd2
      have g2 := ho2 _ _ g1 (by intro e; injection e; omega) (by intro c fz e; cases e)
      have hbl2 := hbl1.trans hb2
      clear hk1 hbd1 hbl1 hb2 ho2 g1 hbc hbd d0 d1
      go_wp2_with fail
      have hbc : (Lib.byteCells (acc ++ nm.data.toList)).length = acc.length + nm.size := by rw [Lib.byteCells_length, List.length_append]; rfl
      have e58 : (⟨#[58]⟩ : ByteArray).size = 1 := rfl
      refine (writeString_any w.heap.size w.heap.size (Lib.byteCells (acc ++ nm.data.toList)) ⟨#[58]⟩ _ hbd2 (by omega) hbl2.size).mono ?_
      rintro e w3 ⟨rfl, hbd3, hb3, ho3⟩
      rw [bytes_app] at hbd3
      have g3 := ho3 _ _ g2 (by intro e; injection e; omega) (by intro c fz e; cases e)
      have hbl3 := hbl2.trans hb3
      have c1 : w3.cell? ⟨wr.heap.size, 1, none⟩ = some (.slice ao2 to.length cap2) := by rw [cell_at g3]; rfl
      clear hbl2 hb3 ho3 hbd2 g2 hbc e58 g3
      go_wp2_with fail
      go_loopw [21] (fun i wx => ∃ k : Nat, i = .int .i64 k ∧ k ≤ to.length ∧ Lib.IsBuilderF 46 5 w.heap.size w.heap.size (Lib.byteCells (acc ++ nm.data.toList ++ [58] ++ toText (to.take k))) wx ∧ Below w.heap.size w wx) (fun i _ => to.length - (intOf i).toNat)
      case atStart => exact ⟨0, rfl, Nat.zero_le _, by simpa [toText] using hbd3, hbl3⟩
      case round =>
        clear hbd3 hbl3
        obtain ⟨k, rfl, hk, hbd4, hbl4⟩ := hrel
        by_cases hkt : k < to.length
        · obtain ⟨x, hx⟩ : ∃ x, to[k]? = some x := ⟨_, List.getElem?_eq_getElem hkt⟩
          obtain ⟨b2, off2, hao2, hb2w, hs2⟩ := hst.out (ne_nil_of_get hx)
          subst hao2
          have x0 := (hs2.below hbl4 hb2w) k x hx
          have hts := toText_snoc (to.take k) x
          rw [← take_next hx] at hts
          have hw1 := toWidth_take to (k + 1)
          have hw2 := toWidth_snoc (to.take k) x
          rw [← take_next hx] at hw2
          have htl := toWidth_text (to.take k)
          have HTS := hide hts
          clear hts hx hs2 hst
          generalize toText (to.take k) = tt at *
          have e32 : (⟨#[32]⟩ : ByteArray).size = 1 := rfl
          have hbc : (Lib.byteCells (acc ++ nm.data.toList ++ [58] ++ tt)).length = acc.length + nm.size + 1 + tt.length := by
            rw [Lib.byteCells_length, List.length_append, List.length_append, List.length_append]; rfl
          go_wp2_with fail
          refine (writeString_any w.heap.size w.heap.size _ ⟨#[32]⟩ _ hbd4 (by omega) hbl4.size).mono ?_
          rintro e w5 ⟨rfl, hbd5, hb5, ho5⟩
          rw [bytes_app] at hbd5
          have hbl5 := hbl4.trans hb5
          clear hbd4 hb5 ho5 hbc x0
          have hbc : (Lib.byteCells (acc ++ nm.data.toList ++ [58] ++ tt ++ (⟨#[32]⟩ : ByteArray).data.toList)).length = acc.length + nm.size + 1 + tt.length + 1 := by
            rw [Lib.byteCells_length, List.length_append, List.length_append, List.length_append, List.length_append]; rfl
          go_wp2_with fail
          refine (writeString_any w.heap.size w.heap.size _ x _ hbd5 (by omega) hbl5.size).mono ?_
          rintro e w6 ⟨rfl, hbd6, hb6, ho6⟩
          rw [bytes_app] at hbd6
          have hbl6 := hbl5.trans hb6
          have hfin : Lib.IsBuilderF 46 5 w.heap.size w.heap.size (Lib.byteCells (acc ++ nm.data.toList ++ [58] ++ toText (to.take (k + 1)))) w6 := by
            rw [HTS.out]
            simpa using hbd6
          clear hbd5 hbd6 hb6 ho6 hbl5 hbc
          go_wp2
          go_roundw
          case rel => exact ⟨k + 1, by go_num, by omega, hfin, hbl6⟩
          case measure => simp [intOf]; omega
        · have htk : to.take k = to := List.take_of_length_le (by omega)
          rw [htk] at hbd4
          clear htk
          have e10 : (⟨#[10]⟩ : ByteArray).size = 1 := rfl
          have hbc : (Lib.byteCells (acc ++ nm.data.toList ++ [58] ++ toText to)).length = acc.length + nm.size + 1 + toWidth to := by
            rw [Lib.byteCells_length, List.length_append, List.length_append, List.length_append, toWidth_text]; rfl
          go_wp2_with fail
          refine (writeString_any w.heap.size w.heap.size _ ⟨#[10]⟩ _ hbd4 (by omega) hbl4.size).mono ?_
          rintro e w5 ⟨rfl, hbd5, hb5, ho5⟩
          rw [bytes_app] at hbd5
          have hbl5 := hbl4.trans hb5
          have hfin : WrInv w w5 rs (n + 1) := by
            refine ⟨hlt, ?_, hbl5⟩
            rw [HTX.out]
            simpa [rowText] using hbd5
          clear hbd4 hbd5 hb5 ho5 hbc hbl4
          go_wp2
          go_roundw
          case rel => exact ⟨n + 1, by go_num, hfin⟩
          case measure => simp [intOf]; omega
    · have htk : rs.take n = rs := List.take_of_length_le (by omega)
      rw [htk] at hbd
      clear htk hi
      go_wp2_with fail
      refine (builderString_any w.heap.size w.heap.size (rowsText rs) _ hbd hbl.size).mono ?_
      rintro e w2 ⟨rfl, _, hb2, _⟩
      have hbl2 := hbl.trans hb2
      clear hb2 hbl
      go_wp2
      go_ret
      exact ⟨rfl, hbl2⟩

end Go.Proofs.Ytiamlbhkiehilaa
