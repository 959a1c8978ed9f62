import Derived.Test.YtiamlbhkiehilaaBehind
import Derived.Test.YtiamlbhkiehilaaTell
namespace Go.Proofs.Ytiamlbhkiehilaa
open Go.RowKit

theorem toText_bytes (acc : ByteArray) (x : ByteArray) (t : List UInt8) (h : acc.data.toList = t) : (acc ++ ⟨#[32]⟩ ++ x).data.toList = t ++ 32 :: x.data.toList := by
  simp [h]

set_option maxHeartbeats 2000000 in
set_option maxRecDepth 100000 in
theorem reftell_any (v : Value) (rs : List RowD) (w : World) (hlen : rs.length ≤ maxLen) (hv : IsRows v rs w) (hfit : fitsR rs) (hbound : (rowsText rs).length ≤ 1000000000000) :
    Calls Try.prog 9 #[v] w fun e w' => e = .returned (.tuple #[.string ⟨(tellGo ⟨#[]⟩ 0 [] rs).1.toArray⟩, .agg #[.int .i64 (tellGo ⟨#[]⟩ 0 [] rs).2.1, .int .i64 (tellGo ⟨#[]⟩ 0 [] rs).2.2]]) ∧ Below w.heap.size w w' := by
  obtain ⟨ao, cap, hve, _, _, hne0⟩ := hv
  subst hve
  have hne := hide hne0
  clear hne0
  unfold maxLen at hlen
  go_enter Try.func9, Try.ntmps9
  go_wp2
  go_loopw [4, 5, 6] (fun s a i wr => ∃ (n : Nat) (acc : ByteArray), i = .int .i64 n ∧ s = .string acc ∧ Hid (acc.data.toList = rowsText (rs.take n)) ∧ a = .string (lastName (rs.take n)) ∧ TInv w wr rs n) (fun _ _ i _ => rs.length - (intOf i).toNat)
  case atStart => exact ⟨0, ⟨#[]⟩, rfl, rfl, rfl, rfl, Nat.zero_le _, rfl, heap_new _ _, (Below.refl _ _).alloc (Nat.le_refl _) _⟩
  case round =>
    obtain ⟨n, acc, rfl, rfl, HAC, rfl, hi⟩ := hrel
    have hbl := hi.blw
    have hres := hi.res
    have hsz := lt_of_heap hres
    by_cases hlt : n < rs.length
    · obtain ⟨⟨nm, to⟩, hr⟩ : ∃ r, rs[n]? = some r := ⟨_, List.getElem?_eq_getElem hlt⟩
      obtain ⟨b, off, hao, hbw, hrs⟩ := hne.out (ne_nil_of_get hr)
      subst hao
      obtain ⟨d0w, tv, d1w, hst0⟩ := hrs n nm to hr
      have HD0 : Hid (∀ w', Below w.heap.size w w' → w'.cell? ⟨b, off + n * 2, none⟩ = some (.string nm)) := fun w' h => (h.cell (p := ⟨b, off + n * 2, none⟩) hbw).trans d0w
      have HD1 : Hid (∀ w', Below w.heap.size w w' → w'.cell? ⟨b, off + n * 2 + 1, none⟩ = some tv) := fun w' h => (h.cell (p := ⟨b, off + n * 2 + 1, none⟩) hbw).trans d1w
      clear d0w d1w
      have HIS : Hid (∀ w', Below w.heap.size w w' → IsStrs tv to w') := fun w' h => hst0.below h
      obtain ⟨ao2, cap2, htv, _, _, hst1⟩ := hst0
      have hst := hide hst1
      clear hst1
      subst htv
      obtain ⟨hf1, hf2, hf3⟩ := hfit _ (List.mem_of_getElem? hr)
      simp only at hf1 hf2 hf3
      have hf2' : (to.length : Int) ≤ 9223372036854775807 := by unfold maxLen at hf2; omega
      have htx := rowsText_snoc (rs.take n) ⟨nm, to⟩
      rw [← take_next hr] at htx
      have hL := rowsText_take (l := rs) (k := n + 1)
      have htl : (rowsText (rs.take (n + 1))).length = (rowsText (rs.take n)).length + (nm.size + 2 + toWidth to) := by rw [htx, List.length_append, rowText_length]
      have hac : acc.size = (rowsText (rs.take n)).length := by rw [← HAC.out]; exact Array.length_toList.symm
      have hw1 : acc.size + (nm.size + 2 + toWidth to) ≤ 1000000000000 := by omega
      have hln := lastName_snoc (rs.take n) ⟨nm, to⟩
      rw [← take_next hr] at hln
      have HR := hide hr
      have HTX := hide htx
      have HLN := hide hln
      have d0 := HD0.out _ hbl
      have d1 := HD1.out _ hbl
      clear htx hr hrs htl hln hac hL
      generalize hla : lastName (rs.take n) = ahead at *
      have HLA := hide hla
      clear hla
      go_wp2_with fail
      refine (behind_any nm _ to _ _ hf1 hf2 (HIS.out _ hbl) hf3).mono ?_
      rintro e w1 ⟨rfl, hb1⟩
      have hbl1 := hbl.trans (hb1.mono hbl.size)
      have hres1 := Below.heapAt hb1 hres hsz
      have p0 := HD0.out _ hbl1
      have p1 := HD1.out _ hbl1
      clear hb1 hres hbl d0 d1
      by_cases he : rowErr ⟨nm, to⟩ ahead = 0
      · have HE := hide he
        rw [HE.out]
        clear he
        have hnext := hi.next HR.out (by rw [HLA.out]; exact HE.out) hres1 hbl1
        clear hi hres1
        go_wp2_with fail
        go_loop [4, 8] (fun s i => ∃ (k : Nat) (bs : ByteArray), i = .int .i64 k ∧ k ≤ to.length ∧ s = .string bs ∧ Hid (bs.data.toList = acc.data.toList ++ nm.data.toList ++ [58] ++ toText (to.take k))) (fun _ i => to.length - (intOf i).toNat)
        case atStart => exact ⟨0, _, rfl, Nat.zero_le _, rfl, by simp [Hid, toText]⟩
        case round =>
          obtain ⟨k, bs, rfl, hk, rfl, HB⟩ := hrel
          have hbs : bs.size = acc.size + nm.size + 1 + toWidth (to.take k) := by
            have h := congrArg List.length HB.out
            rw [List.length_append, List.length_append, List.length_append, toWidth_text] at h
            exact h
          by_cases hkt : k < to.length
          · obtain ⟨x, hx⟩ : ∃ x, to[k]? = some x := ⟨_, List.getElem?_eq_getElem hkt⟩
            obtain ⟨b2, off2, hao2, hb2w, hs2⟩ := hst.out (ne_nil_of_get hx)
            subst hao2
            have x0 := (hs2.below hbl1 hb2w) k x hx
            have hts := toText_snoc (to.take k) x
            rw [← take_next hx] at hts
            have hw2 := toWidth_snoc (to.take k) x
            rw [← take_next hx] at hw2
            have hw3 := toWidth_take to (k + 1)
            have HN : Hid ((bs ++ ⟨#[32]⟩ ++ x).data.toList = acc.data.toList ++ nm.data.toList ++ [58] ++ toText (to.take (k + 1))) := by
              unfold Hid
              rw [hts, toText_bytes bs x _ HB.out, List.append_assoc _ (toText _)]
            have hsz1 : bs.size + 1 + x.size ≤ 1000000000000 := by omega
            have hsz2 : bs.size + 1 ≤ 1000000000000 := by omega
            clear hts hx hs2 hst hw2 hw3 hbs
            go_wp2
            go_round
            case rel => exact ⟨k + 1, _, by go_num, by omega, rfl, HN.out⟩
            case measure => simp [intOf]; omega
          · have htk : to.take k = to := List.take_of_length_le (by omega)
            rw [htk] at hbs
            have HN : Hid ((bs ++ ⟨#[10]⟩).data.toList = rowsText (rs.take (n + 1))) := by
              have h := HB.out
              rw [htk] at h
              unfold Hid
              rw [HTX.out, ← HAC.out]
              simp [h, rowText]
            have hsz1 : bs.size + 1 ≤ 1000000000000 := by omega
            clear htk hbs
            go_wp2
            go_roundw
            case rel => exact ⟨n + 1, _, by go_num, rfl, HN.out, by rw [HLN.out], hnext⟩
            case measure => simp [intOf]; omega
      · have HE : Hid (tellGo ⟨#[]⟩ 0 [] rs = ([], rowErr ⟨nm, to⟩ ahead, (n : Int) + 1)) := by
          have e := hi.rest
          rw [drop_here HR.out, HLA.out, tellGo_err rfl he] at e
          exact e.symm
        have r0 : w1.cell? ⟨w.heap.size, 0, none⟩ = some (.int .i64 0) := by rw [cell_at hres1]; rfl
        have r1 : w1.cell? ⟨w.heap.size, 1, none⟩ = some (.int .i64 0) := by rw [cell_at hres1]; rfl
        have r2 : w1.frozen? ⟨w.heap.size, 0, none⟩ = false := frozen_at hres1 _
        have r3 : w1.frozen? ⟨w.heap.size, 1, none⟩ = false := frozen_at hres1 _
        generalize rowErr ⟨nm, to⟩ ahead = x at HE he ⊢
        have hx : (x != 0) = true := bne_iff_ne.2 he
        clear he hres1
        go_wp2
        refine bodyPost_ret (v := .tuple #[.string ⟨#[]⟩, .agg #[.int .i64 x, .int .i64 ((n : Int) + 1)]]) (by simp [results, Try.results9, go_sem, r0, r1]) rfl ⟨by rw [HE.out], ?_⟩
        exact (hbl1.setCell (p := ⟨w.heap.size, 0, none⟩) (Nat.le_refl _) _).setCell (p := ⟨w.heap.size, 1, none⟩) (Nat.le_refl _) _
    · have htk : rs.take n = rs := List.take_of_length_le (by omega)
      have e := hi.rest
      rw [List.drop_of_length_le (by omega), tellGo_nil, htk] at e
      have hac := HAC.out
      rw [htk] at hac
      have hacl : acc.size = (rowsText rs).length := by rw [← hac]; exact Array.length_toList.symm
      have HAR : Hid (acc = ⟨(rowsText rs).toArray⟩) := by
        unfold Hid
        rw [← hac]
      have r0 : wr.cell? ⟨w.heap.size, 0, none⟩ = some (.int .i64 0) := by rw [cell_at hres]; rfl
      have r1 : wr.cell? ⟨w.heap.size, 1, none⟩ = some (.int .i64 0) := by rw [cell_at hres]; rfl
      have r2 : wr.frozen? ⟨w.heap.size, 0, none⟩ = false := frozen_at hres _
      have r3 : wr.frozen? ⟨w.heap.size, 1, none⟩ = false := frozen_at hres _
      clear hi htk hac hres
      by_cases hbig : 25000 < acc.size
      · rw [if_pos (by omega)] at e
        have HE := hide e.symm
        clear e hacl
        go_wp2
        refine bodyPost_ret (v := .tuple #[.string ⟨#[]⟩, .agg #[.int .i64 2, .int .i64 0]]) (by simp [results, Try.results9, go_sem, r0, r1]) rfl ⟨by rw [HE.out], ?_⟩
        exact (hbl.setCell (p := ⟨w.heap.size, 0, none⟩) (Nat.le_refl _) _).setCell (p := ⟨w.heap.size, 1, none⟩) (Nat.le_refl _) _
      · rw [if_neg (by omega)] at e
        have HE := hide e.symm
        clear e hacl
        go_wp2
        refine bodyPost_ret (v := .tuple #[.string acc, .agg #[.int .i64 0, .int .i64 0]]) (by simp [results, Try.results9, go_sem, r0, r1]) rfl ⟨by rw [HE.out, HAR.out], ?_⟩
        exact (hbl.setCell (p := ⟨w.heap.size, 0, none⟩) (Nat.le_refl _) _).setCell (p := ⟨w.heap.size, 1, none⟩) (Nat.le_refl _) _

end Go.Proofs.Ytiamlbhkiehilaa
