import Derived.Test.YtiamlbhkiehilaaGreatDoorBk11
import Derived.Deep.AppendLies
import Derived.Deep.RegionLaw
namespace Go.Proofs.YtiamlbhkiehilaaGreatDoor
open Go.RowKit Go.Maps

/-- What a cut of a line into a row answers: the row, its list in memory of its own. -/
def RowRes (o : Option RowD) (w w' : World) (e : Ending) : Prop :=
  (o = none ∧ e = .returned (.tuple #[.agg #[.string ⟨#[]⟩, .slice none 0 0], .bool false]) ∧ Below w.heap.size w w') ∨
  (∃ r tv, o = some r ∧ e = .returned (.tuple #[.agg #[.string r.name, tv], .bool true]) ∧ w'.ownsRow w.heap.size 9 1 tv r.to.length (r.to.map Value.string) ∧ Below w.heap.size w w')

theorem tosR_len (s : ByteArray) : ∀ (d i : Nat), s.size - i = d → (tosR s i).length ≤ d := by
  intro d
  induction d using Nat.strongRecOn with
  | _ d ih =>
    intro i hd
    by_cases h : i < s.size
    · rw [tosR_step h, List.length_cons]
      have h1 := stop_ge s 32 (i + 1)
      have := ih (s.size - stop s 32 (i + 1)) (by omega) _ rfl
      omega
    · rw [tosR_end (by omega)]
      exact Nat.zero_le _

theorem own_store {w : World} {B : Nat} {e T : TypeId} {size n b j : Nat} {v x : Value} {xs : List Value} {c : Array Value} (h : w.ownsRow B e size v n xs) (hne : e ≠ T) (hb : w.heap[b]? = some (.cells c T (0, 0))) : (w.setCell ⟨b, j, none⟩ x).ownsRow B e size v n xs := by
  have hk : Kb [b] w (w.setCell ⟨b, j, none⟩ x) := (Kb.refl _ _).setCell (p := ⟨b, j, none⟩) (.inl (by simp)) _
  refine own_kbL h hk (fun g hg heq => ?_)
  rw [List.mem_singleton.1 hg] at heq
  exact own_head h hb hne heq.symm

/-- Two stores into a block of another kind leave an owned row as it is. -/
theorem ownsRow_keep {w : World} {B : Nat} {e T : TypeId} {size n b : Nat} {v x y : Value} {xs : List Value} {c : Array Value} (h : w.ownsRow B e size v n xs) (hne : e ≠ T) (hb : w.heap[b]? = some (.cells c T (0, 0))) : ((w.setCell ⟨b, 0, none⟩ x).setCell ⟨b, 1, none⟩ y).ownsRow B e size v n xs := by
  have hk : Kb [b] w ((w.setCell ⟨b, 0, none⟩ x).setCell ⟨b, 1, none⟩ y) := ((Kb.refl _ _).setCell (p := ⟨b, 0, none⟩) (.inl (by simp)) _).setCell (p := ⟨b, 1, none⟩) (.inl (by simp)) _
  refine own_kbL h hk (fun g hg heq => ?_)
  rw [List.mem_singleton.1 hg] at heq
  exact own_head h hb hne heq.symm

/-- What holds at the head of each round behind the colon. -/
structure RwInv (w wr : World) (s nm : ByteArray) (br k1 i : Nat) (out : List ByteArray) (tv : Value) : Prop where
  le : i ≤ s.size
  eqn : tosR s k1 = out ++ tosR s i
  len : out.length ≤ i
  alt : (i = k1 ∧ out = []) ∨ (byteAt s k1 = 32 ∧ (i < s.size → byteAt s i = 32))
  cell : wr.heap[br]? = some (.cells #[.string nm, tv] 51 (0, 0))
  own : wr.ownsRow w.heap.size 9 1 tv out.length (out.map Value.string)
  slot : wr.heap[w.heap.size]? = some (.cells #[.string ⟨#[]⟩, .slice none 0 0] 51 (0, 0))
  blw : Below w.heap.size w wr

theorem refRow_none {s : ByteArray} (h : stop s 58 0 = s.size) : refRow s = none := by
  unfold refRow
  rw [if_pos (by omega)]

set_option maxRecDepth 100000 in
set_option maxHeartbeats 1000000 in
theorem rrow_any (s : ByteArray) (w : World) (hs : s.size ≤ 1000000) :
    Calls Tryz.prog 75 #[.string s] w fun e w' => RowRes (refRow s) w w' e := by
  obtain ⟨i0, hi0, hz0, hz1, hz2⟩ := info_parts infoStr
  have g0 := heap_new w (.cells #[.string ⟨#[]⟩, .slice none 0 0] 51)
  have hb0 : Below w.heap.size w (w.alloc (.cells #[.string ⟨#[]⟩, .slice none 0 0] 51)) := (Below.refl _ _).alloc (Nat.le_refl _) _
  go_enter Tryz.func75, Tryz.ntmps75
  go_wp2
  generalize w.alloc (.cells #[.string ⟨#[]⟩, .slice none 0 0] 51) = w0 at g0 hb0 ⊢
  have hl0 := lt_of_heap g0
  go_loop [4] (fun iv => ∃ i : Nat, iv = .int .i64 i ∧ i ≤ s.size ∧ stop s 58 0 = stop s 58 i) (fun iv => s.size - (intOf iv).toNat)
  case atStart => exact ⟨0, rfl, Nat.zero_le _, rfl⟩
  case round =>
    obtain ⟨i, rfl, hi, he⟩ := hrel
    have HE := hide he
    clear he
    by_cases hlt : i < s.size
    · by_cases hc : (s[i].toNat : Int) = 58
      · have hq : ((i : Int) == (s.size : Int)) = false := beq_false_of_ne (by omega)
        have HK : Hid (stop s 58 0 = i) := HE.out.trans (stop_yes hlt hc)
        have hcb : ((s[i].toNat : Int) != 58) = false := by simp [hc]
        go_wp2_with fail
        have gr := heap_new w0 (.cells #[.string (s.extract 0 i), .slice none 0 0] 51)
        have g1 := heap_old g0 (.cells #[.string (s.extract 0 i), .slice none 0 0] 51)
        have hb1 : Below w.heap.size w (w0.alloc (.cells #[.string (s.extract 0 i), .slice none 0 0] 51)) := hb0.alloc hb0.size _
        generalize w0.alloc (.cells #[.string (s.extract 0 i), .slice none 0 0] 51) = w1 at gr g1 hb1 ⊢
        have hbr : w.heap.size < w0.heap.size := hl0
        generalize w0.heap.size = br at gr hbr ⊢
        clear g0 hb0 hl0 hcb hq
        have hI : RwInv w w1 s (s.extract 0 i) br (i + 1) (i + 1) [] (.slice none 0 0) := ⟨hlt, by simp, Nat.zero_le _, .inl ⟨rfl, rfl⟩, gr, World.ownsRow_nil _ _ _ _, g1, hb1⟩
        clear gr g1 hb1
        go_loopw [4] (fun iv wr => ∃ (j : Nat) (out : List ByteArray) (tv : Value), iv = .int .i64 j ∧ RwInv w wr s (s.extract 0 i) br (i + 1) j out tv) (fun iv _ => s.size - (intOf iv).toNat)
        case atStart => exact ⟨i + 1, [], _, by go_num, hI⟩
        case round =>
          clear hI
          obtain ⟨j, out, tv, rfl, hj⟩ := hrel
          obtain ⟨ao, cap, rfl, _⟩ := own_form hj.own
          have HJ := hide hj
          by_cases hlj : j < s.size
          · by_cases hcj : (s[j].toNat : Int) = 32
            · have hcb : ((s[j].toNat : Int) != 32) = false := by simp [hcj]
              clear hj
              go_wp2_with fail
              go_loop [6] (fun kv => ∃ k : Nat, kv = .int .i64 k ∧ j + 1 ≤ k ∧ k ≤ s.size ∧ stop s 32 (j + 1) = stop s 32 k) (fun kv => s.size - (intOf kv).toNat)
              case atStart => exact ⟨j + 1, by go_num, Nat.le_refl _, hlj, rfl⟩
              case round =>
                obtain ⟨k, rfl, hjk, hk, hek⟩ := hrel
                have HEK := hide hek
                clear hek
                by_cases hlk : k < s.size
                · by_cases hck : (s[k].toNat : Int) = 32
                  · have hcb2 : ((s[k].toNat : Int) != 32) = false := by simp [hck]
                    have HKK : Hid (stop s 32 (j + 1) = k) := HEK.out.trans (stop_yes hlk hck)
                    have HI : Hid (∀ (w2 : World) (g cp : Nat), w2.heap[br]? = some (.cells #[.string (s.extract 0 i), .slice (some ⟨g, 0, none⟩) (out.length + 1) cp] 51 (0, 0)) → w2.ownsRow w.heap.size 9 1 (.slice (some ⟨g, 0, none⟩) (out.length + 1) cp) (out.length + 1) (out.map Value.string ++ [.string (s.extract (j + 1) k)]) → w2.heap[w.heap.size]? = some (.cells #[.string ⟨#[]⟩, .slice none 0 0] 51 (0, 0)) → Below w.heap.size w w2 → RwInv w w2 s (s.extract 0 i) br (i + 1) k (out ++ [s.extract (j + 1) k]) (.slice (some ⟨g, 0, none⟩) (out.length + 1) cp)) := by
                      intro w2 g cp h1 h2 h3 h4
                      have hj := HJ.out
                      refine ⟨hk, ?_, ?_, .inr ⟨?_, ?_⟩, h1, ?_, h3, h4⟩
                      · rw [hj.eqn, tosR_step hlj, HKK.out]
                        simp
                      · have := hj.len
                        rw [List.length_append]
                        show out.length + 1 ≤ k
                        omega
                      · rcases hj.alt with ⟨h5, _⟩ | ⟨h5, _⟩
                        · rw [← h5, byteAt_lt hlj]; exact hcj
                        · exact h5
                      · intro h5
                        rw [← HKK.out]
                        exact stop_at (by omega) (by rw [HKK.out]; exact h5)
                      · rw [List.length_append, List.map_append]
                        exact h2
                    obtain ⟨d0, d1, e0, e1⟩ := err_cells HJ.out.cell
                    have hol := HJ.out.len
                    have HOW := hide (HJ.out.own.alloc (.cells #[.string (s.extract (j + 1) k)] 9))
                    have hwz := HJ.out.blw.size
                    have hcn := cells_new wr #[.string (s.extract (j + 1) k)] 9 [.string (s.extract (j + 1) k)] rfl
                    have HCN := hide hcn
                    have hbl := lt_of_heap HJ.out.cell
                    have HBN := hide (own_head HJ.out.own HJ.out.cell (by decide))
                    have HSN := hide (own_head HJ.out.own HJ.out.slot (by decide))
                    clear hcn
                    have hwr : IntKind.i64.wrap ((j : Int) + 1) = (j : Int) + 1 := by rw [wrap_i64 _ (by omega) (by omega)]
                    have hin : (j : Int) + 1 ≤ (k : Int) := by omega
                    have hin0 : (0 : Int) ≤ (j : Int) + 1 := by omega
                    have htn : ((j : Int) + 1).toNat = j + 1 := by omega
                    go_wp2_with fail
                    go_region_law (refine step_append_lies _ rfl (.tmp 54) (.tmp 60) 44 rfl w.heap.size 9 i0 (.string ⟨#[]⟩) 1 16 Tryz.underlying44 hi0 hz0 hz1 hz2 rfl (by decide) (.slice ao out.length cap) out.length (out.map Value.string) (by simp [Act.eval]) HOW.out ⟨wr.heap.size, 0, none⟩ 1 1 [.string (s.extract (j + 1) k)] (by simp [Act.eval]) rfl HCN.out (by intro u hu; rw [List.mem_singleton.1 hu]; rfl) (by decide) (by unfold maxLen; omega) (by omega) (by simp; omega) _ rfl ?_; intro g cp w2 ho hg hbk hgl; have hr2 : w2.heap[br]? = some (.cells #[.string (s.extract 0 i), .slice ao out.length cap] 51 (0, 0)) := (hg.block br (by simp; omega) HBN.out).trans (heap_old HJ.out.cell _); have hr3 := err_cells hr2; obtain ⟨q0, q1, q2, q3⟩ := hr3; have hs2 : w2.heap[w.heap.size]? = some (.cells #[.string ⟨#[]⟩, .slice none 0 0] 51 (0, 0)) := (hg.block w.heap.size (by simp; omega) HSN.out).trans (heap_old HJ.out.slot _); have hb2 : Below w.heap.size w w2 := (HJ.out.blw.alloc hwz (.cells #[.string (s.extract (j + 1) k)] 9)).drew.grown hg (by simp; omega) (fun x hx => (HJ.out.own.lt x hx).1))
                    all_goals
                      go_wp2
                      go_roundw
                      case rel =>
                        refine ⟨k, _, _, rfl, HI.out _ g cp ?_ (own_store ho (by decide) hr2) ?_ (hb2.setCell (p := ⟨br, 1, none⟩) (Nat.le_of_lt hbr) _)⟩
                        · rw [heap_set hr2 1]; rfl
                        · rw [Below.heap_setCell _ _ _ _ (by show w.heap.size ≠ br; omega)]; exact hs2
                      case measure => simp [intOf]; omega
                  · have hcb2 : ((s[k].toNat : Int) != 32) = true := by simp [hck]
                    have HKK : Hid (stop s 32 (j + 1) = stop s 32 (k + 1)) := HEK.out.trans (stop_no hlk hck)
                    go_wp2
                    go_round
                    case rel => exact ⟨k + 1, by go_num, by omega, hlk, HKK.out⟩
                    case measure => simp [intOf]; omega
                · have hke : k = s.size := by omega
                  subst hke
                  have HKK : Hid (stop s 32 (j + 1) = s.size) := HEK.out.trans (stop_end (by omega))
                  have HI : Hid (∀ (w2 : World) (g cp : Nat), w2.heap[br]? = some (.cells #[.string (s.extract 0 i), .slice (some ⟨g, 0, none⟩) (out.length + 1) cp] 51 (0, 0)) → w2.ownsRow w.heap.size 9 1 (.slice (some ⟨g, 0, none⟩) (out.length + 1) cp) (out.length + 1) (out.map Value.string ++ [.string (s.extract (j + 1) s.size)]) → w2.heap[w.heap.size]? = some (.cells #[.string ⟨#[]⟩, .slice none 0 0] 51 (0, 0)) → Below w.heap.size w w2 → RwInv w w2 s (s.extract 0 i) br (i + 1) s.size (out ++ [s.extract (j + 1) s.size]) (.slice (some ⟨g, 0, none⟩) (out.length + 1) cp)) := by
                    intro w2 g cp h1 h2 h3 h4
                    have hj := HJ.out
                    refine ⟨hk, ?_, ?_, .inr ⟨?_, ?_⟩, h1, ?_, h3, h4⟩
                    · rw [hj.eqn, tosR_step hlj, HKK.out]
                      simp
                    · have := hj.len
                      rw [List.length_append]
                      show out.length + 1 ≤ s.size
                      omega
                    · rcases hj.alt with ⟨h5, _⟩ | ⟨h5, _⟩
                      · rw [← h5, byteAt_lt hlj]; exact hcj
                      · exact h5
                    · intro h5
                      rw [← HKK.out]
                      exact stop_at (by omega) (by rw [HKK.out]; exact h5)
                    · rw [List.length_append, List.map_append]
                      exact h2
                  obtain ⟨d0, d1, e0, e1⟩ := err_cells HJ.out.cell
                  have hol := HJ.out.len
                  have HOW := hide (HJ.out.own.alloc (.cells #[.string (s.extract (j + 1) s.size)] 9))
                  have hwz := HJ.out.blw.size
                  have hcn := cells_new wr #[.string (s.extract (j + 1) s.size)] 9 [.string (s.extract (j + 1) s.size)] rfl
                  have HCN := hide hcn
                  have hbl := lt_of_heap HJ.out.cell
                  have HBN := hide (own_head HJ.out.own HJ.out.cell (by decide))
                  have HSN := hide (own_head HJ.out.own HJ.out.slot (by decide))
                  clear hcn
                  have hwr : IntKind.i64.wrap ((j : Int) + 1) = (j : Int) + 1 := by rw [wrap_i64 _ (by omega) (by omega)]
                  have hin : (j : Int) + 1 ≤ (s.size : Int) := by omega
                  have hin0 : (0 : Int) ≤ (j : Int) + 1 := by omega
                  have htn : ((j : Int) + 1).toNat = j + 1 := by omega
                  go_wp2_with fail
                  go_region_law (refine step_append_lies _ rfl (.tmp 54) (.tmp 60) 44 rfl w.heap.size 9 i0 (.string ⟨#[]⟩) 1 16 Tryz.underlying44 hi0 hz0 hz1 hz2 rfl (by decide) (.slice ao out.length cap) out.length (out.map Value.string) (by simp [Act.eval]) HOW.out ⟨wr.heap.size, 0, none⟩ 1 1 [.string (s.extract (j + 1) s.size)] (by simp [Act.eval]) rfl HCN.out (by intro u hu; rw [List.mem_singleton.1 hu]; rfl) (by decide) (by unfold maxLen; omega) (by omega) (by simp; omega) _ rfl ?_; intro g cp w2 ho hg hbk hgl; have hr2 : w2.heap[br]? = some (.cells #[.string (s.extract 0 i), .slice ao out.length cap] 51 (0, 0)) := (hg.block br (by simp; omega) HBN.out).trans (heap_old HJ.out.cell _); have hr3 := err_cells hr2; obtain ⟨q0, q1, q2, q3⟩ := hr3; have hs2 : w2.heap[w.heap.size]? = some (.cells #[.string ⟨#[]⟩, .slice none 0 0] 51 (0, 0)) := (hg.block w.heap.size (by simp; omega) HSN.out).trans (heap_old HJ.out.slot _); have hb2 : Below w.heap.size w w2 := (HJ.out.blw.alloc hwz (.cells #[.string (s.extract (j + 1) s.size)] 9)).drew.grown hg (by simp; omega) (fun x hx => (HJ.out.own.lt x hx).1))
                  all_goals
                    go_wp2
                    go_roundw
                    case rel =>
                      refine ⟨s.size, _, _, rfl, HI.out _ g cp ?_ (own_store ho (by decide) hr2) ?_ (hb2.setCell (p := ⟨br, 1, none⟩) (Nat.le_of_lt hbr) _)⟩
                      · rw [heap_set hr2 1]; rfl
                      · rw [Below.heap_setCell _ _ _ _ (by show w.heap.size ≠ br; omega)]; exact hs2
                    case measure => simp [intOf]; omega
            · have hcb : ((s[j].toNat : Int) != 32) = true := by simp [hcj]
              have HN : Hid (refRow s = none) := by
                unfold Hid refRow
                rw [HK.out, if_neg (by omega)]
                rcases hj.alt with ⟨h1, _⟩ | ⟨_, h2⟩
                · rw [if_neg]
                  rw [← h1]
                  rintro (h | h)
                  · omega
                  · rw [byteAt_lt hlj] at h; exact hcj h
                · have := h2 hlj
                  rw [byteAt_lt hlj] at this
                  exact absurd this hcj
              obtain ⟨c0, c1, f0, f1⟩ := err_cells hj.slot
              have hbw := hj.blw
              clear hj
              go_wp2_with fail
              refine bodyPost_ret (v := .tuple #[.agg #[.string ⟨#[]⟩, .slice none 0 0], .bool false]) (by simp [results, Tryz.results75, go_sem, c0, c1]) rfl (.inl ⟨HN.out, rfl, ?_⟩)
              exact (hbw.setCell (p := ⟨w.heap.size, 0, none⟩) (Nat.le_refl _) _).setCell (p := ⟨w.heap.size, 1, none⟩) (Nat.le_refl _) _
          · have hje : j = s.size := by have := hj.le; omega
            subst hje
            have HN : Hid (refRow s = some ⟨s.extract 0 i, out⟩) := by
              unfold Hid refRow
              rw [HK.out, if_neg (by omega)]
              have e := hj.eqn
              rw [tosR_end (Nat.le_refl _), List.append_nil] at e
              rw [if_pos, e]
              rcases hj.alt with ⟨h1, _⟩ | ⟨h1, _⟩
              · exact .inl (by omega)
              · exact .inr h1
            obtain ⟨c0, c1, f0, f1⟩ := err_cells hj.slot
            obtain ⟨d0, d1, e0, e1⟩ := err_cells hj.cell
            have hbw := hj.blw
            have how := hide hj.own
            have HSL := hide hj.slot
            clear hj
            go_wp2_with fail
            refine bodyPost_ret (v := .tuple #[.agg #[.string (s.extract 0 i), .slice ao out.length cap], .bool true]) (by simp [results, Tryz.results75, go_sem, c0, c1]) rfl (.inr ⟨⟨s.extract 0 i, out⟩, .slice ao out.length cap, HN.out, rfl, ?_, ?_⟩)
            · exact ownsRow_keep how.out (by decide) HSL.out
            · exact (hbw.setCell (p := ⟨w.heap.size, 0, none⟩) (Nat.le_refl _) _).setCell (p := ⟨w.heap.size, 1, none⟩) (Nat.le_refl _) _
      · have HK : Hid (stop s 58 0 = stop s 58 (i + 1)) := HE.out.trans (stop_no hlt hc)
        have hcb : ((s[i].toNat : Int) != 58) = true := by simp [hc]
        go_wp2
        go_round
        case rel => exact ⟨i + 1, by go_num, hlt, HK.out⟩
        case measure => simp [intOf]; omega
    · have hin : i = s.size := by omega
      subst hin
      have hq : ((s.size : Int) == (s.size : Int)) = true := by simp
      have HK : Hid (refRow s = none) := refRow_none (HE.out.trans (stop_end (Nat.le_refl _)))
      obtain ⟨c0, c1, f0, f1⟩ := err_cells g0
      go_wp2_with fail
      refine bodyPost_ret (v := .tuple #[.agg #[.string ⟨#[]⟩, .slice none 0 0], .bool false]) (by simp [results, Tryz.results75, go_sem, c0, c1]) rfl (.inl ⟨HK.out, rfl, ?_⟩)
      exact (hb0.setCell (p := ⟨w.heap.size, 0, none⟩) (Nat.le_refl _) _).setCell (p := ⟨w.heap.size, 1, none⟩) (Nat.le_refl _) _

end Go.Proofs.YtiamlbhkiehilaaGreatDoor
