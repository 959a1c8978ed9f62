import Derived.Test.YtiamlbhkiehilaaGreatDoorBk27
import Derived.Deep.RegionWith
namespace Go.Proofs.YtiamlbhkiehilaaGreatDoor
open Go.RowKit

theorem infoN : (Tryz.prog.info? 144).map (fun i => (i.zero, i.size, i.bytes)) = some (some (.int .u64 0), 1, 8) := by kernel_rfl

/-- One number more behind a slice in a cell. -/
theorem appCh {wr W w2 : World} {B b o g cp x : Nat} {cs : Array Value} {T : TypeId} {vk : Value} {xs : List Nat} (hO : OwnN wr B vk xs) (hb : wr.heap[b]? = some (.cells cs T (0, 0))) (hT : T ≠ TN) (hW : Kb [] wr W) (hg : W.grownBy w2 vk.ownBlock) (hbk : vk.ownBlock = some g ∨ g = W.heap.size)
    (hw2 : w2.ownsRow B TN 1 (.slice (some ⟨g, 0, none⟩) (xs.length + 1) cp) (xs.length + 1) (u64s xs ++ [.int .u64 (x : Int)])) (hx : x < 18446744073709551616) :
    OwnN (w2.setCell ⟨b, o, none⟩ (.slice (some ⟨g, 0, none⟩) (xs.length + 1) cp)) B (.slice (some ⟨g, 0, none⟩) (xs.length + 1) cp) (xs ++ [x]) ∧ SetCh wr (w2.setCell ⟨b, o, none⟩ (.slice (some ⟨g, 0, none⟩) (xs.length + 1) cp)) b o cs T vk (.slice (some ⟨g, 0, none⟩) (xs.length + 1) cp) := by
  have hne := hO.ne hb hT
  have hgne : g ≠ b := by
    rcases hbk with e | e
    · intro e2
      subst e2
      exact hne e
    · have h1 := lt_of_heap hb
      have h2 := hW.size
      omega
  have hcb : w2.heap[b]? = some (.cells cs T (0, 0)) := (hg.block b (Nat.lt_of_lt_of_le (lt_of_heap hb) hW.size) (fun e => hne e.symm)).trans (hW.heap hb (by simp))
  refine ⟨?_, ?_, ?_, ?_⟩
  · have hO2 : OwnN w2 B (.slice (some ⟨g, 0, none⟩) (xs.length + 1) cp) (xs ++ [x]) := by
      refine ⟨?_, fun y hy => ?_⟩
      · have e1 : u64s (xs ++ [x]) = u64s xs ++ [.int .u64 (x : Int)] := by simp [u64s]
        rw [e1, List.length_append]
        exact hw2
      · rcases List.mem_append.1 hy with hy | hy
        · exact hO.2 y hy
        · rw [List.mem_singleton.1 hy]
          exact hx
    exact hO2.kb ((Kb.refl [b] w2).setCell (p := ⟨b, o, none⟩) (.inl (by simp)) _) (by intro y hy; rw [List.mem_singleton.1 hy]; intro e; cases e; exact hgne rfl)
  · rw [heap_set hcb]
  · refine Kb.setCell ?_ (p := ⟨b, o, none⟩) (.inl (by simp)) _
    refine (hW.mono (by simp)).grown hg (fun y hy => .inl (by simp [hy]))
  · rcases hbk with e | e
    · exact .inl e.symm
    · exact .inr ⟨g, rfl, by rw [e]; exact hW.size⟩

/-- Room for all numbers up to n. -/
structure SrInv (w wr : World) (B b o : Nat) (cs : Array Value) (T : TypeId) (v : Value) (rep : Nat → Nat) (ab : List Nat) (vk : Value) : Prop where
  cls : ClsR ab rep
  own : OwnN wr B vk ab
  ch : SetCh w wr b o cs T v vk

theorem ClsR.snoc {ab : List Nat} {rep : Nat → Nat} (h : ClsR ab rep) (hl : ab.length < 128) : ClsR (ab ++ [ab.length]) rep :=
  ⟨(topOf_snoc h.down).1, fun m => by rw [(topOf_snoc h.down).2]; exact h.top m, by simp; omega⟩

set_option maxRecDepth 100000 in
theorem sreach_any (B b o : Nat) (cs : Array Value) (T : TypeId) (v : Value) (ab : List Nat) (rep : Nat → Nat) (n : Nat) (w : World) (hB : B ≤ w.heap.size) (hT : T ≠ TN) (hb : w.heap[b]? = some (.cells cs T (0, 0))) (hv : cs[o]? = some v) (h : OwnN w B v ab) (hc : ClsR ab rep) (hn : n < 128) :
    Calls Tryz.prog 124 #[.pointer (some ⟨b, o, none⟩), .int .u64 n] w fun e w' => e = .returned (.tuple #[]) ∧ ∃ v' ab', n < ab'.length ∧ ab.length ≤ ab'.length ∧ SrInv w w' B b o cs T v rep ab' v' := by
  obtain ⟨i0, hi, hz0, hz1, hz2⟩ := info_parts infoN
  have ho : o < cs.size := (Array.getElem?_eq_some_iff.1 hv).1
  go_enter Tryz.func124, Tryz.ntmps124
  go_wp2
  have H0 : Hid (SrInv w w B b o cs T v rep ab v) := hide ⟨hc, h, SetCh.refl hb hv⟩
  clear h hc
  go_loopw [] (fun wr => ∃ (ak : List Nat) (vk : Value), ab.length ≤ ak.length ∧ SrInv w wr B b o cs T v rep ak vk) (fun wr => n + 1 - lenAt wr b o)
  case atStart => exact ⟨ab, v, Nat.le_refl _, H0.out⟩
  case round =>
    clear H0
    obtain ⟨ak, vk, hml, hI⟩ := hrel
    have hML := hide hml
    clear hml
    have hsm := hI.cls.small
    obtain ⟨ao, cap, rfl, _⟩ := hI.own.form
    have hbr := hI.ch.blk
    have hcl : wr.cell? ⟨b, o, none⟩ = some (.slice ao ak.length cap) := by rw [cell_at hbr]; simp [ho]
    have hfz : wr.frozen? ⟨b, o, none⟩ = false := frozen_at hbr o
    have hm : lenAt wr b o = ak.length := by unfold lenAt; rw [hcl]
    by_cases hlt : ak.length ≤ n
    · have hsz := hI.ch.kb.size
      have hne : (Value.slice ao ak.length cap).ownBlock ≠ some b := hI.own.ne hbr hT
      have HI := hide hI
      have HM := hide hm
      have HN := hide hne
      have HB := hide hbr
      have HO : Hid (∀ W : World, W.heap = (wr.alloc (.cells #[.int .u64 (ak.length : Int)] 144)).heap → W.ownsRow B 144 1 (.slice ao ak.length cap) ak.length (u64s ak)) := hide (fun W hW => by have := (hI.own.alloc (.cells #[.int .u64 (ak.length : Int)] 144)).1; unfold World.ownsRow at this ⊢; rw [hW]; exact this)
      have HCN : Hid (∀ W : World, W.heap = (wr.alloc (.cells #[.int .u64 (ak.length : Int)] 144)).heap → ∀ j u, [Value.int .u64 (ak.length : Int)][j]? = some u → W.cell? ((⟨wr.heap.size, 0, none⟩ : Addr).add j) = some u) := hide (fun W hW j u hu => by
        have := cells_new' wr #[.int .u64 (ak.length : Int)] 144 _ rfl j u hu
        unfold World.cell? at this ⊢
        rw [hW]
        exact this)
      have HS1 : Hid (∀ W : World, W.heap = (wr.alloc (.cells #[.int .u64 (ak.length : Int)] 144)).heap → B ≤ W.heap.size) := hide (fun W hW => by rw [hW, World.size_alloc]; omega)
      have HSZ : Hid (∀ W : World, W.heap = (wr.alloc (.cells #[.int .u64 (ak.length : Int)] 144)).heap → W.heap.size = wr.heap.size + 1) := hide (fun W hW => by rw [hW, World.size_alloc])
      have HBk : Hid (∀ W : World, W.heap = (wr.alloc (.cells #[.int .u64 (ak.length : Int)] 144)).heap → W.heap[b]? = some (.cells (cs.setIfInBounds o (.slice ao ak.length cap)) T (0, 0))) := hide (fun W hW => by rw [hW]; exact heap_old hbr _)
      have HBL : Hid (∀ W : World, W.heap = (wr.alloc (.cells #[.int .u64 (ak.length : Int)] 144)).heap → b < W.heap.size) := hide (fun W hW => by rw [hW, World.size_alloc]; exact Nat.lt_succ_of_lt (lt_of_heap hbr))
      have hcla : (wr.alloc (.cells #[.int .u64 (ak.length : Int)] 144)).cell? ⟨b, o, none⟩ = some (.slice ao ak.length cap) := by rw [cell_at (heap_old hbr _)]; simp [ho]
      have HS2 : Hid (b < wr.heap.size) := hide (lt_of_heap hbr)
      have HS3 : Hid ((cs.setIfInBounds o (.slice ao ak.length cap))[o]? = some (.slice ao ak.length cap)) := hide (by simp [ho])
      have HL2 : Hid (ak.length < 128) := hide (by omega)
      have HKB : Hid (∀ W : World, W.heap = (wr.alloc (.cells #[.int .u64 (ak.length : Int)] 144)).heap → W.os = wr.os → W.tape = wr.tape → W.output = wr.output → Kb (b :: (Value.slice ao ak.length cap).ownBlock.toList) wr W) := hide (fun W hW h1 h2 h3 => ⟨h1, h2, h3, by rw [hW, World.size_alloc]; omega, fun k hk _ => by rw [hW]; exact Below.heap_alloc _ _ _ hk⟩)
      have hwr : IntKind.u64.wrap ((ak.length : Nat) : Int) = ((ak.length : Nat) : Int) := by rw [IntKind.wrap_u64]; omega
      clear hI hm hne hbr
      go_wp2
      go_region_law (go_loud (refine step_append_lies _ rfl (.tmp 16) (.tmp 23) 106 rfl B 144 i0 (.int .u64 0) 1 8 Tryz.underlying106 hi hz0 hz1 hz2 rfl (by decide) (.slice ao ak.length cap) ak.length (u64s ak) (by simp [Act.eval]) (HO.out _ rfl) ⟨wr.heap.size, 0, none⟩ 1 1 [.int .u64 (ak.length : Int)] (by simp [Act.eval]) rfl (HCN.out _ rfl) (by intro u hu; rw [List.mem_singleton.1 hu]; rfl) (by decide) (by unfold maxLen; omega) (by omega) (HS1.out _ rfl) _ rfl ?_; intro g cp w2 hw2 hg hbk hgl; have hcb : w2.heap[b]? = some (.cells (cs.setIfInBounds o (.slice ao ak.length cap)) T (0, 0)) := (hg.block b (HBL.out _ rfl) (fun e => HN.out e.symm)).trans (HBk.out _ rfl); have hc2 : w2.cell? ⟨b, o, none⟩ = some (.slice ao ak.length cap) := (cell_at hcb o).trans HS3.out; have hf2 : w2.frozen? ⟨b, o, none⟩ = false := frozen_at hcb o; have hK := HKB.out _ rfl rfl rfl rfl))
      all_goals
        have HX := hide (appCh (o := o) HI.out.own HB.out hT (W := (wr.alloc (.cells #[.int .u64 (ak.length : Int)] 144)).drew) ((Kb.refl [] wr).alloc _).drew hg hbk hw2 (by omega))
        have HL : Hid (lenAt (w2.setCell ⟨b, o, none⟩ (.slice (some ⟨g, 0, none⟩) (ak.length + 1) cp)) b o = ak.length + 1) := by
          refine hide ?_
          unfold lenAt
          rw [cell_at (heap_set hcb o _)]
          simp [ho]
        clear hw2 hg hbk hgl hcb hK HO HCN HS1 HSZ HBk HBL HKB
        go_wp2
        go_roundw
        case rel => exact ⟨ak ++ [ak.length], _, by rw [List.length_append]; have := hML.out; omega, HI.out.cls.snoc HL2.out, HX.out.1, HI.out.ch.trans HX.out.2⟩
        case measure => rw [HL.out, HM.out]; omega
    · have HI := hide hI
      clear hI
      go_wp2
      go_end0
      exact ⟨rfl, _, _, by omega, hML.out, HI.out⟩

end Go.Proofs.YtiamlbhkiehilaaGreatDoor

namespace Go.Proofs.YtiamlbhkiehilaaGreatDoor
open Go.RowKit

theorem ClsR.next {ab : List Nat} {rep : Nat → Nat} (h : ClsR ab rep) {m : Nat} (hm : rep m ≠ m) : ∃ x, ab[m]? = some x ∧ x < m ∧ rep x = rep m := by
  cases hx : ab[m]? with
  | none =>
    have := topOf_none hx
    rw [h.top] at this
    exact absurd this hm
  | some x =>
    have h1 := topOf_step h.down hx
    rw [h.top] at h1
    have h2 := h.down m x hx
    by_cases e : x = m
    · rw [if_pos e] at h1
      exact absurd h1 hm
    · rw [if_neg e, h.top] at h1
      exact ⟨x, rfl, by omega, h1.symm⟩
theorem ClsR.set {ab : List Nat} {rep : Nat → Nat} (h : ClsR ab rep) {m : Nat} (hm : m < ab.length) : ClsR (ab.set m (rep m)) rep := by
  have ht : topOf ab (rep m) = rep m := by rw [← h.top]; exact topOf_top h.down m
  obtain ⟨d1, d2, _⟩ := topOf_set h.down hm ht (by rw [← h.top]; exact topOf_le h.down m)
  exact ⟨d1, fun j => (d2 j (h.top m)).trans (h.top j), by rw [List.length_set]; exact h.small⟩

theorem SrInv.set {w wr : World} {B b o g L cap : Nat} {cs : Array Value} {T : TypeId} {v vk : Value} {rep rep' : Nat → Nat} {ab : List Nat} (h : SrInv w wr B b o cs T v rep ab vk) (hvk : vk = .slice (some ⟨g, 0, none⟩) L cap) (hT : T ≠ TN) {m x : Nat} (hx : x < 18446744073709551616) (hc : ClsR (ab.set m x) rep') : SrInv w (wr.setCell ⟨g, m, none⟩ (.int .u64 (x : Int))) B b o cs T v rep' (ab.set m x) vk := by
  have hbr := h.ch.blk
  have hgb : g ≠ b := fun e => h.own.ne hbr hT (by rw [hvk, e]; rfl)
  have hO := h.own
  rw [hvk] at hO
  refine ⟨hc, by rw [hvk]; exact hO.set _ _ hx, h.ch.trans ⟨?_, (Kb.refl _ _).setCell (p := ⟨g, m, none⟩) (.inl (by rw [hvk]; simp [Value.ownBlock])) _, .inl rfl⟩⟩
  have e2 : (wr.setCell ⟨g, m, none⟩ (.int .u64 (x : Int))).heap[b]? = wr.heap[b]? := Below.heap_setCell _ _ _ _ (fun e => hgb e.symm)
  rw [e2, hbr, set_set']

theorem ClsR.le {ab : List Nat} {rep : Nat → Nat} (h : ClsR ab rep) (m : Nat) : rep m ≤ m := by rw [← h.top]; exact topOf_le h.down m
theorem ClsR.idem {ab : List Nat} {rep : Nat → Nat} (h : ClsR ab rep) (m : Nat) : rep (rep m) = rep m := by rw [← h.top, ← h.top]; exact topOf_top h.down m

set_option maxRecDepth 100000 in
theorem shorten_any (B b o : Nat) (cs : Array Value) (T : TypeId) (v0 v : Value) (ab : List Nat) (rep : Nat → Nat) (n : Nat) (w0 w : World) (hT : T ≠ TN) (ho : o < cs.size) (h : SrInv w0 w B b o cs T v0 rep ab v) (hn : n < 128) :
    Calls Tryz.prog 125 #[.pointer (some ⟨b, o, none⟩), .int .u64 n, .int .u64 (rep n)] w fun e w' => e = .returned (.tuple #[]) ∧ ∃ ab', SrInv w0 w' B b o cs T v0 rep ab' v := by
  have H0 := hide h
  obtain ⟨ao, cap, rfl, _⟩ := h.own.form
  obtain ⟨t, ht⟩ : ∃ t, t = rep n := ⟨_, rfl⟩
  have htl : t ≤ n := by rw [ht]; exact h.cls.le n
  rw [← ht]
  generalize ab.length = L at *
  clear h
  go_enter Tryz.func125, Tryz.ntmps125
  go_wp2
  have HT := hide ht
  clear ht
  go_loopw [1] (fun mv wr => ∃ (m : Nat) (ak : List Nat), mv = .int .u64 m ∧ m ≤ n ∧ Hid (rep m = t ∧ SrInv w0 wr B b o cs T v0 rep ak (.slice ao L cap))) (fun mv _ => (intOf mv).toNat)
  case atStart => exact ⟨n, ab, rfl, Nat.le_refl _, hide ⟨HT.out.symm, H0.out⟩⟩
  case round =>
    obtain ⟨m, ak, rfl, hmn, HI⟩ := hrel
    by_cases hmt : m = t
    · subst hmt
      go_wp2
      go_end0
      exact ⟨rfl, _, HI.out.2⟩
    · obtain ⟨x, hx, hxm, hxr⟩ := HI.out.2.cls.next (m := m) (fun e => hmt (by rw [← e]; exact HI.out.1))
      have hml : m < ak.length := (List.getElem?_eq_some_iff.1 hx).1
      obtain ⟨ao', cap', e, hw⟩ := HI.out.2.own.form
      injection e with e1 e2 e3
      subst e1 e3
      obtain ⟨g, rfl, hg, hgf⟩ := hw m x hx
      have hbr := HI.out.2.ch.blk
      have hcl : wr.cell? ⟨b, o, none⟩ = some (.slice (some ⟨g, 0, none⟩) L cap) := by rw [cell_at hbr]; simp [ho]
      have hmL : m < L := by omega
      have HN : Hid (rep x = t ∧ SrInv w0 (wr.setCell ⟨g, m, none⟩ (.int .u64 (t : Int))) B b o cs T v0 rep (ak.set m t) (.slice (some ⟨g, 0, none⟩) L cap)) := by
        refine hide ⟨by rw [hxr]; exact HI.out.1, HI.out.2.set rfl hT (by omega) ?_⟩
        have := HI.out.2.cls.set hml
        rw [HI.out.1] at this
        exact this
      clear HI hw hbr hx e2 hxr hml
      go_wp2
      go_roundw
      case rel => exact ⟨x, _, rfl, by omega, HN⟩
      case measure => simp [intOf]; omega

set_option maxRecDepth 100000 in
theorem of_any (B b o : Nat) (cs : Array Value) (T : TypeId) (v : Value) (ab : List Nat) (rep : Nat → Nat) (n : Nat) (w : World) (hB : B ≤ w.heap.size) (hT : T ≠ TN) (hb : w.heap[b]? = some (.cells cs T (0, 0))) (hv : cs[o]? = some v) (h : OwnN w B v ab) (hc : ClsR ab rep) (hn : n < 128) :
    Calls Tryz.prog 93 #[.pointer (some ⟨b, o, none⟩), .int .u64 n] w fun e w' => e = .returned (.int .u64 (rep n)) ∧ ∃ v' ab', n < ab'.length ∧ ab.length ≤ ab'.length ∧ SrInv w w' B b o cs T v rep ab' v' := by
  have ho : o < cs.size := (Array.getElem?_eq_some_iff.1 hv).1
  have HR := sreach_any B b o cs T v ab rep n w hB hT hb hv h hc hn
  clear h hc hb hv
  go_enter Tryz.func93, Tryz.ntmps93
  go_wp2_with fail
  refine HR.mono ?_
  clear HR
  rintro e w1 ⟨rfl, v1, ab1, hlt, hml, hI⟩
  have hML := hide hml
  clear hml
  obtain ⟨t, ht⟩ : ∃ t, t = rep n := ⟨_, rfl⟩
  have HS := shorten_any B b o cs T v v1 ab1 rep n w w1 hT ho hI hn
  rw [← ht] at HS
  have HT := hide ht
  have htl : t ≤ n := by rw [ht]; exact hI.cls.le n
  have hsm := hI.cls.small
  clear ht
  obtain ⟨ao, cap, rfl, hw⟩ := hI.own.form
  have hbr := hI.ch.blk
  have hcl : w1.cell? ⟨b, o, none⟩ = some (.slice ao ab1.length cap) := by rw [cell_at hbr]; simp [ho]
  have HI := hide hI
  have HW := hide hw
  clear hI hw hbr
  go_wp2
  go_loopw [5] (fun mv wr => ∃ (m : Nat), mv = .int .u64 m ∧ m ≤ n ∧ wr = w1 ∧ Hid (rep m = t)) (fun mv _ => (intOf mv).toNat)
  case atStart => exact ⟨n, rfl, Nat.le_refl _, rfl, hide HT.out.symm⟩
  case round =>
    obtain ⟨m, rfl, hmn, rfl, HM⟩ := hrel
    by_cases hmt : m = t
    · subst hmt
      obtain ⟨x, hx⟩ : ∃ x, ab1[m]? = some x := ⟨_, List.getElem?_eq_getElem (by omega)⟩
      have hxm : x = m := by
        have h1 := topOf_at HI.out.cls.down (n := n) (x := x)
        rw [HI.out.cls.top, ← HT.out] at h1
        exact h1 hx
      subst hxm
      obtain ⟨g, rfl, hg, _⟩ := HW.out _ _ hx
      clear hx
      go_wp2_with fail
      refine HS.mono ?_
      clear HS
      rintro e w2 ⟨rfl, ab2, hI2⟩
      have hl2 : ab2.length = ab1.length := by
        obtain ⟨_, _, e, _⟩ := hI2.own.form
        injection e with _ e _
        exact e.symm
      have H2 := hide hI2
      clear hI2
      go_wp2
      go_ret
      exact ⟨by rw [← HT.out]; rfl, _, ab2, by omega, by rw [hl2]; exact hML.out, H2.out⟩
    · obtain ⟨x, hx, hxm, hxr⟩ := HI.out.cls.next (m := m) (fun e => hmt (by rw [← e]; exact HM.out))
      obtain ⟨g, rfl, hg, _⟩ := HW.out _ _ hx
      have HN : Hid (rep x = t) := hide (by rw [hxr]; exact HM.out)
      clear hx hxr
      go_wp2
      go_roundw
      case rel => exact ⟨x, rfl, by omega, (by first | rfl | trivial), HN⟩
      case measure => simp [intOf]; omega

end Go.Proofs.YtiamlbhkiehilaaGreatDoor

namespace Go.Proofs.YtiamlbhkiehilaaGreatDoor
open Go.RowKit

/-- Is it that number? -/
theorem isn_any (m n bn : Nat) (w : World) (hb : w.cell? ⟨bn, 0, none⟩ = some (.int .u64 n)) :
    Calls Tryz.prog 181 #[.int .u64 m, .pointer (some ⟨bn, 0, none⟩)] w fun e w' => e = .returned (.bool (m == n)) ∧ w' = w := by
  have HE : Hid ((((m : Nat) : Int) == ((n : Nat) : Int)) = (m == n)) := hide (by rw [Bool.eq_iff_iff]; simp; omega)
  go_enter Tryz.func181, Tryz.ntmps181
  go_wp2
  go_ret
  exact ⟨by rw [← HE.out]; rfl, rfl⟩

set_option maxRecDepth 100000 in
theorem indexFunc_any (B bn n : Nat) (v : Value) (xs : List Nat) (w : World) (h : OwnN w B v xs) (hl : xs.length ≤ 1000) (hb : w.cell? ⟨bn, 0, none⟩ = some (.int .u64 n)) :
    Calls Tryz.prog 202 #[v, .func (.func 181) #[] #[.pointer (some ⟨bn, 0, none⟩)]] w fun e w' => (∃ i : Nat, i < xs.length ∧ xs[i]? = some n ∧ (∀ j, j < i → xs[j]? ≠ some n) ∧ e = .returned (.int .i64 i) ∧ w' = w) ∨ (n ∉ xs ∧ e = .returned (.int .i64 (-1)) ∧ w' = w) := by
  obtain ⟨ao, cap, rfl, hw⟩ := h.form
  have HC : Hid (∀ m : Nat, Calls Tryz.prog 181 #[.int .u64 m, .pointer (some ⟨bn, 0, none⟩)] w fun e w' => e = .returned (.bool (m == n)) ∧ w' = w) := hide (fun m => isn_any m n bn w hb)
  have HW := hide hw
  clear h hb hw
  go_enter Tryz.func202, Tryz.ntmps202
  go_wp2
  go_loopw [8] (fun iv wr => ∃ (i : Nat), iv = .int .i64 i ∧ i ≤ xs.length ∧ wr = w ∧ Hid (∀ j, j < i → xs[j]? ≠ some n)) (fun iv _ => xs.length - (intOf iv).toNat)
  case atStart => exact ⟨0, rfl, Nat.zero_le _, rfl, hide (fun j hj => by omega)⟩
  case round =>
    obtain ⟨i, rfl, hle, rfl, HI⟩ := hrel
    by_cases hlt : i < xs.length
    · obtain ⟨x, hx⟩ : ∃ x, xs[i]? = some x := ⟨_, List.getElem?_eq_getElem hlt⟩
      obtain ⟨g, rfl, hg, _⟩ := HW.out i x hx
      have hc := HC.out x
      have HX := hide hx
      clear hx
      go_wp2_with fail
      refine hc.mono ?_
      clear hc
      rintro e w2 ⟨rfl, rfl⟩
      by_cases hxn : x = n
      · subst hxn
        rw [beq_self_eq_true]
        go_wp2
        go_ret
        exact .inl ⟨i, hlt, HX.out, HI.out, rfl, rfl⟩
      · have hb : (x == n) = false := by simpa using hxn
        rw [hb]
        go_wp2
        go_roundw
        case rel =>
          refine ⟨i + 1, by go_num, by omega, (by first | rfl | trivial), hide (fun j hj => ?_)⟩
          by_cases e : j = i
          · subst e
            rw [HX.out]
            intro e
            injection e with e
            exact hxn e
          · exact HI.out j (by omega)
        case measure => simp [intOf]; omega
    · go_wp2
      go_ret
      refine .inr ⟨fun hm => ?_, rfl, rfl⟩
      obtain ⟨j, hj⟩ := List.mem_iff_getElem?.1 hm
      have := (List.getElem?_eq_some_iff.1 hj).1
      exact HI.out j (by omega) hj

theorem setCells_heap (g : Nat) : ∀ (vs : List Value) (o : Nat) (w : World) (cur : Array Value) (T : TypeId), w.heap[g]? = some (.cells cur T (0, 0)) → ∃ cur', (w.setCells g o vs).heap[g]? = some (.cells cur' T (0, 0)) ∧ cur'.size = cur.size ∧ (∀ j, j < o → cur'[j]? = cur[j]?) ∧ Kb [g] w (w.setCells g o vs) := by
  intro vs
  induction vs with
  | nil => exact fun o w cur T h => ⟨cur, h, rfl, fun _ _ => rfl, Kb.refl _ _⟩
  | cons v r ih =>
    intro o w cur T h
    obtain ⟨cur', h1, h2, h3, h4⟩ := ih (o + 1) (w.setCell ⟨g, o, none⟩ v) _ T (heap_set h o v)
    refine ⟨cur', h1, by simpa using h2, fun j hj => ?_, ((Kb.refl [g] w).setCell (p := ⟨g, o, none⟩) (.inl (by simp)) v).trans h4⟩
    rw [h3 j (by omega), Array.getElem?_setIfInBounds, if_neg (by omega)]

/-- A shorter slice of the same numbers, what lies behind being cleared. -/
theorem OwnN.cut {w : World} {B g L cap i : Nat} {ys : List Nat} (h : OwnN w B (.slice (some ⟨g, 0, none⟩) L cap) ys) (hi : i ≤ ys.length) (vs : List Value) : OwnN (w.setCells g i vs) B (.slice (some ⟨g, 0, none⟩) i cap) (ys.take i) ∧ Kb [g] w (w.setCells g i vs) := by
  rcases h.1.2 with ⟨e, _⟩ | ⟨g', cap', cur, e, hb, hh, h1, h2, h3, h4⟩
  · cases e
  · injection e with e1 e2 e3
    injection e1 with e1
    injection e1 with e1
    subst e1 e2 e3
    obtain ⟨cur', k1, k2, k3, k4⟩ := setCells_heap g vs i w cur _ hh
    have hl : (ys.take i).length = i := by rw [List.length_take]; omega
    refine ⟨⟨?_, fun x hx => h.2 x (List.mem_of_mem_take hx)⟩, k4⟩
    rw [hl]
    refine ⟨by rw [u64s_len, hl]; omega, .inr ⟨g, cap, cur', rfl, hb, k1, by omega, h2, by omega, ?_⟩⟩
    have e4 : u64s (ys.take i) = (u64s ys).take i := by simp [u64s, List.map_take]
    rw [e4, ← h4, List.take_take, Nat.mul_one, Nat.mul_one, Nat.min_eq_left hi]
    apply List.ext_getElem?
    intro j
    by_cases hj : j < i
    · rw [List.getElem?_take_of_lt hj, List.getElem?_take_of_lt hj, Array.getElem?_toList, Array.getElem?_toList, k3 j hj]
    · rw [List.getElem?_take_eq_none (by omega), List.getElem?_take_eq_none (by omega)]

theorem filter_take_succ {xs : List Nat} {j x : Nat} (p : Nat → Bool) (hx : xs[j]? = some x) : (xs.take (j + 1)).filter p = (xs.take j).filter p ++ (if p x then [x] else []) := by
  rw [List.take_add_one, hx, List.filter_append]
  congr 1
  simp [List.filter_cons]

/-- What holds at the head of each round of DeleteFunc. -/
structure DfInv (w wr : World) (B g L cap n : Nat) (xs ys : List Nat) (i j : Nat) : Prop where
  ij : i < j
  jl : j ≤ xs.length
  len : ys.length = xs.length
  own : OwnN wr B (.slice (some ⟨g, 0, none⟩) L cap) ys
  hd : ys.take i = (xs.take j).filter (· != n)
  tl : ∀ k, j ≤ k → ys[k]? = xs[k]?
  kb : Kb [g] w wr

theorem DfInv.skip {w wr : World} {B g L cap n : Nat} {xs ys : List Nat} {i j : Nat} (h : DfInv w wr B g L cap n xs ys i j) (hj : xs[j]? = some n) : DfInv w wr B g L cap n xs ys i (j + 1) := by
  refine ⟨by have := h.ij; omega, (List.getElem?_eq_some_iff.1 hj).1, h.len, h.own, ?_, fun k hk => h.tl k (by omega), h.kb⟩
  rw [filter_take_succ _ hj, h.hd]
  simp
theorem DfInv.keep {w wr : World} {B g L cap n : Nat} {xs ys : List Nat} {i j x : Nat} (h : DfInv w wr B g L cap n xs ys i j) (hj : xs[j]? = some x) (hx : x ≠ n) (h64 : x < 18446744073709551616) : DfInv w (wr.setCell ⟨g, i, none⟩ (.int .u64 (x : Int))) B g L cap n xs (ys.set i x) (i + 1) (j + 1) := by
  have h1 := h.ij
  have h2 := (List.getElem?_eq_some_iff.1 hj).1
  have h3 := h.len
  refine ⟨by omega, h2, by rw [List.length_set]; exact h.len, h.own.set _ _ h64, ?_, fun k hk => ?_, h.kb.setCell (p := ⟨g, i, none⟩) (.inl (by simp)) _⟩
  · rw [filter_take_succ _ hj, ← h.hd]
    have e : (x != n) = true := by simpa using hx
    rw [e, if_pos rfl, List.take_add_one, List.getElem?_set_self (by omega), List.take_set_of_le (Nat.le_refl _)]
    rfl
  · rw [List.getElem?_set_ne (by omega)]
    exact h.tl k (by omega)

set_option maxRecDepth 100000 in
theorem deleteFunc_any (B bn n : Nat) (v : Value) (xs : List Nat) (w : World) (h : OwnN w B v xs) (hl : xs.length ≤ 1000) (hb : w.heap[bn]? = some (.cells #[.int .u64 n] 144 (0, 0))) (hbn : v.ownBlock ≠ some bn) :
    Calls Tryz.prog 180 #[v, .func (.func 181) #[] #[.pointer (some ⟨bn, 0, none⟩)]] w fun e w' => ∃ v', e = .returned v' ∧ OwnN w' B v' (xs.filter (· != n)) ∧ Kb v.ownBlock.toList w w' ∧ (v'.ownBlock = v.ownBlock) := by
  have hcb : w.cell? ⟨bn, 0, none⟩ = some (.int .u64 n) := by rw [cell_at hb]; rfl
  have HX := indexFunc_any B bn n v xs w h hl hcb
  have H0 := hide h
  obtain ⟨ao, cap, rfl, hw⟩ := h.form
  have h64 := h.2
  have HB := hide hb
  clear h hw hb hcb
  go_enter Tryz.func180, Tryz.ntmps180
  go_wp2_with fail
  refine HX.mono ?_
  clear HX
  rintro e w1 (⟨i, hil, hix, hif, rfl, rfl⟩ | ⟨hnot, rfl, rfl⟩)
  · obtain ⟨g, e, _, _⟩ : ∃ g, ao = some ⟨g, 0, none⟩ ∧ True ∧ True := by
      obtain ⟨_, _, e, hw⟩ := H0.out.form
      injection e with e _ _
      obtain ⟨g, e2, _⟩ := hw i n hix
      exact ⟨g, e.trans e2, trivial, trivial⟩
    subst e
    have hgb : g ≠ bn := fun e => hbn (by rw [e]; rfl)
    have H1 : Hid (DfInv w1 w1 B g xs.length cap n xs xs i (i + 1)) := by
      refine hide ⟨by omega, hil, rfl, H0.out, ?_, fun _ _ => rfl, Kb.refl _ _⟩
      rw [filter_take_succ _ hix]
      have e1 : (xs.take i).filter (· != n) = xs.take i := by
        rw [List.filter_eq_self]
        intro y hy
        obtain ⟨j, hj⟩ := List.mem_iff_getElem?.1 hy
        have hjl := (List.getElem?_eq_some_iff.1 hj).1
        rw [List.length_take] at hjl
        rw [List.getElem?_take_of_lt (by omega)] at hj
        have := hif j (by omega)
        rw [hj] at this
        simpa using this
      rw [e1]
      simp
    clear hix hif
    go_wp2
    go_loopw [5, 6] (fun iv jv wr => ∃ (k j : Nat) (ys : List Nat), iv = .int .i64 k ∧ jv = .int .i64 j ∧ k < j ∧ j ≤ xs.length ∧ Hid (DfInv w1 wr B g xs.length cap n xs ys k j)) (fun _ jv _ => xs.length - (intOf jv).toNat)
    case atStart => exact ⟨i, i + 1, xs, rfl, by go_num, by omega, hil, H1⟩
    case round =>
      clear H1
      obtain ⟨k, j, ys, rfl, rfl, hkj, hjl, HI⟩ := hrel
      have hbr : wr.heap[bn]? = some (.cells #[.int .u64 n] 144 (0, 0)) := HI.out.kb.heap HB.out (by simp; exact fun e => hgb e.symm)
      have hcb : wr.cell? ⟨bn, 0, none⟩ = some (.int .u64 n) := by rw [cell_at hbr]; rfl
      obtain ⟨ao', cap', e, hw⟩ := HI.out.own.form
      injection e with e1 e2 e3
      subst e1 e3
      have hyl := HI.out.len
      by_cases hlt : j < xs.length
      · obtain ⟨x, hx⟩ : ∃ x, xs[j]? = some x := ⟨_, List.getElem?_eq_getElem hlt⟩
        obtain ⟨g', e, hgx, _⟩ := hw j x (by rw [HI.out.tl j (Nat.le_refl _)]; exact hx)
        cases e
        obtain ⟨y, hy⟩ : ∃ y, ys[k]? = some y := ⟨_, List.getElem?_eq_getElem (by omega)⟩
        obtain ⟨g', e, hgy, hgf⟩ := hw k y hy
        cases e
        have hx64 := h64 x (List.mem_of_getElem? hx)
        have hc := isn_any x n bn wr hcb
        have HS : Hid (x = n → DfInv w1 wr B g xs.length cap n xs ys k (j + 1)) := hide (fun e => HI.out.skip (by rw [hx, e]))
        have HK : Hid (x ≠ n → DfInv w1 (wr.setCell ⟨g, k, none⟩ (.int .u64 (x : Int))) B g xs.length cap n xs (ys.set k x) (k + 1) (j + 1)) := hide (fun e => HI.out.keep hx e hx64)
        clear HI hw hbr hcb e2 hx hy hyl
        go_wp2_with fail
        refine hc.mono ?_
        clear hc
        rintro e w2 ⟨rfl, rfl⟩
        by_cases hxn : x = n
        · have hb : (x == n) = true := by simpa using hxn
          rw [hb]
          go_wp2
          go_roundw
          case rel =>
            refine ⟨_, _, _, _, _, _, _, _, _, _, _, _, _, _, _, _, _, _, _, _, _, _, _, ?_, rfl⟩
            exact ⟨k, j + 1, ys, rfl, by go_num, by omega, by omega, hide (HS.out hxn)⟩
          case measure => simp [intOf]; omega
        · have hb : (x == n) = false := by simpa using hxn
          rw [hb]
          go_wp2
          go_roundw
          case rel =>
            refine ⟨_, _, _, _, _, _, _, _, _, _, _, _, _, _, _, _, _, _, _, _, _, _, _, ?_, rfl⟩
            exact ⟨k + 1, j + 1, _, by go_num, by go_num, by omega, by omega, hide (HK.out hxn)⟩
          case measure => simp [intOf]; omega
      · have hjx : j = xs.length := by omega
        subst hjx
        have hcl : ∀ ty, (Builtin.clear_ #[106] ty #[.slice (some ⟨g, k, none⟩) (xs.length - k) (cap - k)]).run Tryz.prog wr = .ok (.tuple #[]) (wr.setCells g k (List.replicate (xs.length - k) (.int .u64 0))) := by
          intro ty
          refine Lib.run_clear_slice wr _ _ ty _ Tryz.underlying106 (fun w => Tryz.zeroValue144 w) rfl rfl g k _ _ (by omega) (fun t ht => ?_) (fun t ht => ?_)
          · obtain ⟨y, hy⟩ : ∃ y, ys[k + t]? = some y := ⟨_, List.getElem?_eq_getElem (by omega)⟩
            obtain ⟨g', e, hg', _⟩ := hw _ y hy
            cases e
            rw [hg']
            rfl
          · obtain ⟨y, hy⟩ : ∃ y, ys[k + t]? = some y := ⟨_, List.getElem?_eq_getElem (by omega)⟩
            obtain ⟨g', e, _, hg'⟩ := hw _ y hy
            cases e
            exact hg'
        have HF : Hid (OwnN (wr.setCells g k (List.replicate (xs.length - k) (.int .u64 0))) B (.slice (some ⟨g, 0, none⟩) k cap) (xs.filter (· != n)) ∧ Kb [g] w1 (wr.setCells g k (List.replicate (xs.length - k) (.int .u64 0)))) := by
          obtain ⟨c1, c2⟩ := HI.out.own.cut (i := k) (by omega) (List.replicate (xs.length - k) (.int .u64 0))
          rw [HI.out.hd, List.take_of_length_le (Nat.le_refl _)] at c1
          exact hide ⟨c1, HI.out.kb.trans c2⟩
        have hcap : xs.length ≤ cap := by
          rcases HI.out.own.1.2 with ⟨e, _⟩ | ⟨g', cap', cur, e, _, _, h1, _⟩
          · cases e
          · injection e with _ e5 e6
            omega
        clear HI hw hbr hcb e2
        go_wp2
        go_ret
        exact ⟨_, rfl, HF.out.1, HF.out.2, rfl⟩
  · clear HB
    go_wp2
    go_ret
    refine ⟨_, rfl, ?_, Kb.refl _ _, rfl⟩
    have e1 : xs.filter (· != n) = xs := by
      rw [List.filter_eq_self]
      intro y hy
      simp
      exact fun e => hnot (e ▸ hy)
    rw [e1]
    exact H0.out

end Go.Proofs.YtiamlbhkiehilaaGreatDoor

namespace Go.Proofs.YtiamlbhkiehilaaGreatDoor
open Go.RowKit

def andN (x y : Nat) : Nat := x &&& (18446744073709551615 - y)
theorem andN_bit {x y : Nat} (hx : x < 18446744073709551616) (hy : y < 18446744073709551616) (i : Nat) : (andN x y).testBit i = (x.testBit i && !y.testBit i) := by
  unfold andN
  have e : 18446744073709551615 - y = 2 ^ 64 - (y + 1) := by omega
  rw [Nat.testBit_and, e, Nat.testBit_two_pow_sub_succ (by simpa using hy)]
  by_cases h : i < 64
  · simp [h]
  · have : x.testBit i = false := Nat.testBit_lt_two_pow (Nat.lt_of_lt_of_le hx (by have : 2 ^ 64 ≤ 2 ^ i := Nat.pow_le_pow_right (by omega) (by omega); simpa using this))
    simp [this]
theorem andN_lt {x y : Nat} (hx : x < 18446744073709551616) : andN x y < 18446744073709551616 := Nat.lt_of_le_of_lt Nat.and_le_left hx
theorem andN_zero {x y : Nat} (hx : x < 18446744073709551616) (hy : y < 18446744073709551616) : andN x y = 0 ↔ ∀ i, x.testBit i = true → y.testBit i = true := by
  constructor
  · intro h i hi
    have := andN_bit hx hy i
    rw [h, Nat.zero_testBit, hi] at this
    simpa using this.symm
  · intro h
    apply Nat.eq_of_testBit_eq
    intro i
    rw [andN_bit hx hy, Nat.zero_testBit]
    cases hxi : x.testBit i
    · rfl
    · simp [h i hxi]

theorem getD_lt {ws : List Nat} (h : ∀ x ∈ ws, x < 18446744073709551616) (q : Nat) : ws.getD q 0 < 18446744073709551616 := by
  rw [List.getD_eq_getElem?_getD]
  cases hx : ws[q]? with
  | none => simp
  | some x => simpa using h x (List.mem_of_getElem? hx)

theorem hasW_del {ws : List Nat} {n q bt x : Nat} (hq : q = n / 64) (hbt : bt = 2 ^ (n % 64)) (hx : ws[q]? = some x) (hxl : x < 18446744073709551616) (k : Nat) : hasW (ws.set q (andN x bt)) k = (k != n && hasW ws k) := by
  have hp : bt < 18446744073709551616 := by rw [hbt]; exact pow64 n
  have hn := (List.getElem?_eq_some_iff.1 hx).1
  have e1 : ws.getD q 0 = x := by simp [hx]
  unfold hasW
  rw [set_getD _ _ _ _ hn]
  by_cases h : k / 64 = q
  · rw [if_pos h, andN_bit hxl hp, h, e1, hbt, Nat.testBit_two_pow]
    by_cases e : n % 64 = k % 64
    · have : k = n := by omega
      simp [e, this]
    · have : k ≠ n := fun e2 => e (by rw [e2])
      simp [e, this]
  · rw [if_neg h]
    have : k ≠ n := fun e2 => h (by rw [e2]; exact hq.symm)
    simp [this]

set_option maxRecDepth 100000 in
theorem remove_any (B b o : Nat) (cs : Array Value) (T : TypeId) (v : Value) (s : List Nat) (n : Nat) (w : World) (hT : T ≠ T64) (hb : w.heap[b]? = some (.cells cs T (0, 0))) (hv : cs[o]? = some v) (h : SetV w B v s) (hn : n < 128) :
    Calls Tryz.prog 121 #[.pointer (some ⟨b, o, none⟩), .int .u64 n] w fun e w' => e = .returned (.tuple #[]) ∧ ∃ v', SetV w' B v' (delS n s) ∧ SetCh w w' b o cs T v v' := by
  obtain ⟨ws, hl, hO, rfl⟩ := h
  have ho : o < cs.size := (Array.getElem?_eq_some_iff.1 hv).1
  obtain ⟨q, hq⟩ : ∃ q, q = n / 64 := ⟨_, rfl⟩
  obtain ⟨bt, hbt⟩ : ∃ bt, bt = 2 ^ (n % 64) := ⟨_, rfl⟩
  have hp : bt < 18446744073709551616 := by rw [hbt]; exact pow64 n
  have HP := splace_any n q bt hn hq hbt w
  have HQ := hide (And.intro hq hbt)
  clear hq hbt
  have hc : w.cell? ⟨b, o, none⟩ = some v := by rw [cell_at hb]; exact hv
  have HC := hide (SetCh.refl hb hv)
  obtain ⟨ao, cap, rfl, hw⟩ := hO.form
  go_enter Tryz.func121, Tryz.ntmps121
  go_wp2_with fail
  refine HP.mono ?_
  clear HP
  rintro e w' ⟨rfl, rfl⟩
  by_cases hlt : q < ws.length
  · obtain ⟨x, hx⟩ : ∃ x, ws[q]? = some x := ⟨_, List.getElem?_eq_getElem hlt⟩
    obtain ⟨g, rfl, hg, hgf⟩ := hw _ x hx
    have hxl : x < 18446744073709551616 := hO.2 x (List.mem_of_getElem? hx)
    have hgb : g ≠ b := fun e => hO.ne hb hT (by rw [e]; rfl)
    have hbit := u64_andNot_nat x bt hxl hp
    have HF : Hid (SetV (w'.setCell ⟨g, q, none⟩ (.int .u64 ((andN x bt : Nat) : Int))) B (.slice (some ⟨g, 0, none⟩) ws.length cap) (delS n (mkS (hasW ws))) ∧ SetCh w' (w'.setCell ⟨g, q, none⟩ (.int .u64 ((andN x bt : Nat) : Int))) b o cs T (.slice (some ⟨g, 0, none⟩) ws.length cap) (.slice (some ⟨g, 0, none⟩) ws.length cap)) := by
      refine hide ⟨⟨ws.set q (andN x bt), by rw [List.length_set]; omega, hO.set _ _ (andN_lt hxl), ?_⟩, HC.out.trans ⟨?_, (Kb.refl _ _).setCell (p := ⟨g, q, none⟩) (.inl (by simp [Value.ownBlock])) _, .inl rfl⟩⟩
      · unfold delS
        refine mkS_congr fun k hk => ?_
        rw [hasW_del HQ.out.1 HQ.out.2 hx hxl, mkS_contains hk]
      · have e2 : (w'.setCell ⟨g, q, none⟩ (.int .u64 ((andN x bt : Nat) : Int))).heap[b]? = w'.heap[b]? := Below.heap_setCell _ _ _ _ (fun e => hgb e.symm)
        rw [e2, HC.out.blk, set_set']
    unfold andN at HF
    clear hO hw hx HC
    go_wp2
    go_end0
    exact ⟨rfl, _, HF.out⟩
  · have HO := hide hO
    clear hO hw
    go_wp2
    go_end0
    refine ⟨rfl, _, ⟨ws, hl, HO.out, ?_⟩, HC.out⟩
    unfold delS
    refine mkS_congr fun k hk => ?_
    rw [mkS_contains hk]
    by_cases e : k = n
    · subst e
      have : hasW ws k = false := by
        unfold hasW
        rw [← HQ.out.1, List.getD_eq_getElem?_getD, List.getElem?_eq_none (Nat.le_of_not_lt hlt)]
        simp
      simp [this]
    · simp [e]

/-- What holds at the head of each round of Unite. -/
structure UnInv (w wr : World) (B b o : Nat) (cs : Array Value) (T : TypeId) (v vk : Value) (wp wo : List Nat) (i : Nat) (gr : Bool) : Prop where
  le : i ≤ wo.length
  ws : ∃ wi, wi.length = wp.length ∧ OwnW wr B vk wi ∧ ∀ j, wi.getD j 0 = if j < i then wp.getD j 0 ||| wo.getD j 0 else wp.getD j 0
  gr : gr = (List.range i).any fun j => !decide (andN (wo.getD j 0) (wp.getD j 0) = 0)
  ch : SetCh w wr b o cs T v vk

theorem UnInv.step {w wr : World} {B b o : Nat} {cs : Array Value} {T : TypeId} {v vk : Value} {wp wo : List Nat} {i g L cap : Nat} {gr : Bool} (h : UnInv w wr B b o cs T v vk wp wo i gr) (hvk : vk = .slice (some ⟨g, 0, none⟩) L cap) (hT : T ≠ T64) (hlt : i < wo.length) (hpl : wo.length ≤ wp.length) (hx : wp.getD i 0 < 18446744073709551616) (hy : wo.getD i 0 < 18446744073709551616) :
    UnInv w (wr.setCell ⟨g, i, none⟩ (.int .u64 ((wp.getD i 0 ||| wo.getD i 0 : Nat) : Int))) B b o cs T v vk wp wo (i + 1) (gr || !decide (andN (wo.getD i 0) (wp.getD i 0) = 0)) := by
  obtain ⟨wi, e1, e2, e3⟩ := h.ws
  have hbr := h.ch.blk
  have hgb : g ≠ b := fun e => e2.ne hbr hT (by rw [hvk, e]; rfl)
  refine ⟨hlt, ⟨wi.set i (wp.getD i 0 ||| wo.getD i 0), by rw [List.length_set]; exact e1, ?_, fun j => ?_⟩, ?_, h.ch.trans ⟨?_, (Kb.refl _ _).setCell (p := ⟨g, i, none⟩) (.inl (by rw [hvk]; simp [Value.ownBlock])) _, .inl rfl⟩⟩
  · rw [hvk] at e2 ⊢
    exact e2.set _ _ (or_lt64 hx hy)
  · rw [set_getD _ _ _ _ (by omega)]
    by_cases e : j = i
    · subst e
      rw [if_pos rfl, if_pos (by omega)]
    · rw [if_neg e, e3]
      by_cases e4 : j < i
      · rw [if_pos e4, if_pos (by omega)]
      · rw [if_neg e4, if_neg (by omega)]
  · rw [List.range_succ, List.any_append, ← h.gr]
    simp
  · have e4 : (wr.setCell ⟨g, i, none⟩ (.int .u64 ((wp.getD i 0 ||| wo.getD i 0 : Nat) : Int))).heap[b]? = wr.heap[b]? := Below.heap_setCell _ _ _ _ (fun e => hgb e.symm)
    rw [e4, hbr, set_set']

theorem newS_words {wp wo : List Nat} (h1 : ∀ x ∈ wp, x < 18446744073709551616) (h2 : ∀ x ∈ wo, x < 18446744073709551616) (hl : wo.length ≤ 2) : newS (mkS (hasW wp)) (mkS (hasW wo)) = (List.range wo.length).any fun j => !decide (andN (wo.getD j 0) (wp.getD j 0) = 0) := by
  rw [Bool.eq_iff_iff, newS_iff]
  simp only [List.any_eq_true, List.mem_range, Bool.not_eq_true', decide_eq_false_iff_not]
  constructor
  · rintro ⟨k, hk, hk'⟩
    obtain ⟨k1, k2⟩ := mem_mkS.1 hk
    have k3 : hasW wp k = false := by
      cases e : hasW wp k
      · rfl
      · exact absurd (mem_mkS.2 ⟨k1, e⟩) hk'
    unfold hasW at k2 k3
    refine ⟨k / 64, ?_, fun e => ?_⟩
    · rcases Nat.lt_or_ge (k / 64) wo.length with h | h
      · exact h
      · rw [List.getD_eq_getElem?_getD, List.getElem?_eq_none h] at k2
        simp at k2
    · have := (andN_zero (getD_lt h2 _) (getD_lt h1 _)).1 e _ k2
      rw [k3] at this
      cases this
  · rintro ⟨j, hj, hne⟩
    rw [andN_zero (getD_lt h2 _) (getD_lt h1 _)] at hne
    simp only [Classical.not_forall] at hne
    obtain ⟨i, hi, hi'⟩ := hne
    have hi64 : i < 64 := by
      rcases Nat.lt_or_ge i 64 with h | h
      · exact h
      · have := Nat.testBit_lt_two_pow (Nat.lt_of_lt_of_le (getD_lt h2 j) (by have : 2 ^ 64 ≤ 2 ^ i := Nat.pow_le_pow_right (by omega) h; simpa using this))
        rw [this] at hi
        cases hi
    have e1 : (64 * j + i) / 64 = j := by omega
    have e2 : (64 * j + i) % 64 = i := by omega
    refine ⟨64 * j + i, mem_mkS.2 ⟨by omega, ?_⟩, fun hm => ?_⟩
    · unfold hasW; rw [e1, e2]; exact hi
    · have := (mem_mkS.1 hm).2
      unfold hasW at this
      rw [e1, e2] at this
      exact hi' this

set_option maxRecDepth 100000 in
theorem unite_any (B b o b2 o2 : Nat) (cs cs2 : Array Value) (T T2 : TypeId) (v v2 : Value) (s s2 : List Nat) (w : World) (hB : B ≤ w.heap.size) (hT : T ≠ T64) (hT2 : T2 ≠ T64) (hb : w.heap[b]? = some (.cells cs T (0, 0))) (hv : cs[o]? = some v) (hb2 : w.heap[b2]? = some (.cells cs2 T2 (0, 0))) (hv2 : cs2[o2]? = some v2) (hne : b2 ≠ b ∨ o2 ≠ o) (h : SetV w B v s) (h2 : SetV w B v2 s2) (ha : Apart v v2) :
    Calls Tryz.prog 120 #[.pointer (some ⟨b, o, none⟩), .pointer (some ⟨b2, o2, none⟩)] w fun e w' => e = .returned (.bool (newS s s2)) ∧ ∃ v', SetV w' B v' (uniS s s2) ∧ SetCh w w' b o cs T v v' := by
  obtain ⟨ws, hl, hO, rfl⟩ := h
  obtain ⟨wo, hl2, hO2, rfl⟩ := h2
  have ho : o < cs.size := (Array.getElem?_eq_some_iff.1 hv).1
  obtain ⟨ao2, cap2, rfl, hw2⟩ := hO2.form
  have hc2 : w.cell? ⟨b2, o2, none⟩ = some (.slice ao2 wo.length cap2) := by rw [cell_at hb2]; exact hv2
  have HR := reach_any B b o cs T v ws wo.length w hB hT hb hv hO (by omega)
  go_enter Tryz.func120, Tryz.ntmps120
  go_wp2_with fail
  refine HR.mono ?_
  clear HR
  rintro e w1 ⟨rfl, v1, hO1, hC1⟩
  obtain ⟨cs2', hb2', hv2'⟩ := hC1.other hb hO hb2 hv2 hT2 hne
  obtain ⟨hO2', ha'⟩ := hC1.apart hb hT hO2 ha
  have hc2' : w1.cell? ⟨b2, o2, none⟩ = some (.slice ao2 wo.length cap2) := by rw [cell_at hb2']; exact hv2'
  have hpl := padW_len ws wo.length
  have HH : Hid (∀ k, hasW (padW ws wo.length) k = hasW ws k) := padW_has ws wo.length
  have hL2 : (padW ws wo.length).length ≤ 2 := by omega
  have hlt2 : wo.length ≤ (padW ws wo.length).length := by omega
  generalize padW ws wo.length = wp at *
  clear hpl hO hc2 hw2
  have h64 := hO1.2
  have h64o := hO2'.2
  have H0 : Hid (UnInv w w1 B b o cs T v v1 wp wo 0 false) := hide ⟨Nat.zero_le _, ⟨wp, rfl, hO1, fun j => by simp⟩, by simp, hC1⟩
  obtain ⟨ao1, cap1, rfl, hw1⟩ := hO1.form
  have HA := hide ha'
  have HO2 := hide hO2'
  have HB1 := hide hC1.blk
  clear ha' hO1 hC1 hO2' hb2' hv2' hb2 hv2 hO2
  go_wp2
  go_loopw [5, 20] (fun gv iv wr => ∃ (i : Nat) (gr : Bool), gv = .bool gr ∧ iv = .int .i64 i ∧ UnInv w wr B b o cs T v (.slice ao1 wp.length cap1) wp wo i gr ∧ Kb (b :: (Value.slice ao1 wp.length cap1).ownBlock.toList) w1 wr) (fun _ iv _ => wo.length - (intOf iv).toNat)
  case atStart => exact ⟨0, false, rfl, rfl, H0.out, Kb.refl _ _⟩
  case round =>
    clear H0
    obtain ⟨i, gr, rfl, rfl, hI, hK⟩ := hrel
    have hle := hI.le
    have hbr := hI.ch.blk
    have hc : wr.cell? ⟨b, o, none⟩ = some (.slice ao1 wp.length cap1) := by rw [cell_at hbr]; simp [ho]
    by_cases hlt : i < wo.length
    · have hOr : OwnW wr B (.slice ao2 wo.length cap2) wo := HO2.out.kb hK (by
        intro g hg
        rcases List.mem_cons.1 hg with rfl | hg
        · exact HO2.out.ne HB1.out hT
        · simp at hg
          exact HA.out g hg)
      obtain ⟨y, hy⟩ : ∃ y, wo[i]? = some y := ⟨_, List.getElem?_eq_getElem hlt⟩
      obtain ⟨ao3, cap3, e3, hw3⟩ := hOr.form
      injection e3 with e3 _ e4
      subst e3 e4
      obtain ⟨g2, rfl, hg2, _⟩ := hw3 i y hy
      obtain ⟨wi, q1, q2, q3⟩ := hI.ws
      obtain ⟨x, hx⟩ : ∃ x, wi[i]? = some x := ⟨_, List.getElem?_eq_getElem (by omega)⟩
      obtain ⟨ao4, cap4, e5, hw4⟩ := q2.form
      injection e5 with e5 _ e6
      subst e5 e6
      obtain ⟨g, rfl, hg, hgf⟩ := hw4 i x hx
      have ey : wo.getD i 0 = y := by simp [hy]
      have ex : wp.getD i 0 = x := by
        have := q3 i
        rw [if_neg (by omega)] at this
        rw [← this]
        simp [hx]
      have hxl : x < 18446744073709551616 := by rw [← ex]; exact getD_lt h64 i
      have hyl : y < 18446744073709551616 := by rw [← ey]; exact getD_lt h64o i
      have HI := hI.step rfl hT hlt hlt2 (by rw [ex]; exact hxl) (by rw [ey]; exact hyl)
      rw [ex, ey] at HI
      have HI2 := hide (And.intro HI (hK.setCell (p := ⟨g, i, none⟩) (.inl (by simp [Value.ownBlock])) (.int .u64 ((x ||| y : Nat) : Int))))
      have hand := u64_andNot_nat y x hyl hxl
      have hor := u64_or_nat x y hxl hyl
      have hgz : (andN y x = 0) = (y &&& (18446744073709551615 - x) = 0) := rfl
      have HZ := hide hgz
      clear HI hI hK hbr hOr q1 q2 q3 hw3 hw4 hgz hy hx ex ey
      cases gr
      · by_cases hz : andN y x = 0
        · have hz' : y &&& (18446744073709551615 - x) = 0 := hz
          have HY : Hid ((false || !decide (andN y x = 0)) = false) := hide (by simp [hz])
          clear hz
          rw [hz'] at hand
          go_wp2
          go_roundw
          case rel => exact ⟨i + 1, false, rfl, by go_num, by rw [← HY.out]; exact HI2.out.1, HI2.out.2⟩
          case measure => simp [intOf]; omega
        · have HY : Hid ((false || !decide (andN y x = 0)) = true) := hide (by simp [hz])
          have hz' : ¬ (((y &&& (18446744073709551615 - x) : Nat) : Int) = 0) := fun e => hz (by unfold andN; omega)
          have HZ2 : Hid ((((y &&& (18446744073709551615 - x) : Nat) : Int) != 0) = true) := hide (bne_iff_ne.2 hz')
          clear hz
          go_wp2
          go_roundw
          case rel => exact ⟨i + 1, true, by rw [HZ2.out], by go_num, by rw [← HY.out]; exact HI2.out.1, HI2.out.2⟩
          case measure => simp [intOf]; omega
      · go_wp2
        go_roundw
        case rel => exact ⟨i + 1, true, rfl, by go_num, HI2.out.1, HI2.out.2⟩
        case measure => simp [intOf]; omega
    · have hin : i = wo.length := by omega
      subst hin
      have HI := hide hI
      clear hI hK hbr
      go_wp2
      go_ret
      obtain ⟨wi, q1, q2, q3⟩ := HI.out.ws
      have eH : mkS (hasW wp) = mkS (hasW ws) := mkS_congr fun k _ => HH.out k
      refine ⟨?_, _, ⟨wi, by omega, q2, ?_⟩, HI.out.ch⟩
      · rw [← eH, newS_words h64 h64o hl2, ← HI.out.gr]
        rfl
      · unfold uniS
        refine mkS_congr fun k hk => ?_
        rw [mkS_contains hk, mkS_contains hk, ← HH.out]
        unfold hasW
        rw [q3]
        by_cases e : k / 64 < wo.length
        · rw [if_pos e, Nat.testBit_or]
        · rw [if_neg e]
          have : wo.getD (k / 64) 0 = 0 := by rw [List.getD_eq_getElem?_getD, List.getElem?_eq_none (Nat.le_of_not_lt e)]; rfl
          rw [this]
          simp

end Go.Proofs.YtiamlbhkiehilaaGreatDoor

namespace Go.Proofs.YtiamlbhkiehilaaGreatDoor
open Go.RowKit

/-- What holds at the head of each round of Meet. -/
structure MtInv (w wr : World) (B b o : Nat) (cs : Array Value) (T : TypeId) (v : Value) (ws wo : List Nat) (i : Nat) : Prop where
  le : i ≤ ws.length
  ws : ∃ wi, wi.length = ws.length ∧ OwnW wr B v wi ∧ ∀ j, wi.getD j 0 = if j < i then ws.getD j 0 &&& wo.getD j 0 else ws.getD j 0
  ch : SetCh w wr b o cs T v v

theorem MtInv.step {w wr : World} {B b o : Nat} {cs : Array Value} {T : TypeId} {v : Value} {ws wo : List Nat} {i g L cap : Nat} (h : MtInv w wr B b o cs T v ws wo i) (hv : v = .slice (some ⟨g, 0, none⟩) L cap) (hT : T ≠ T64) (hlt : i < ws.length) (hx : ws.getD i 0 < 18446744073709551616) :
    MtInv w (wr.setCell ⟨g, i, none⟩ (.int .u64 ((ws.getD i 0 &&& wo.getD i 0 : Nat) : Int))) B b o cs T v ws wo (i + 1) := by
  obtain ⟨wi, e1, e2, e3⟩ := h.ws
  have hbr := h.ch.blk
  have hgb : g ≠ b := fun e => e2.ne hbr hT (by rw [hv, e]; rfl)
  refine ⟨hlt, ⟨wi.set i (ws.getD i 0 &&& wo.getD i 0), by rw [List.length_set]; exact e1, ?_, fun j => ?_⟩, h.ch.trans ⟨?_, (Kb.refl _ _).setCell (p := ⟨g, i, none⟩) (.inl (by rw [hv]; simp [Value.ownBlock])) _, .inl rfl⟩⟩
  · rw [hv] at e2 ⊢
    exact e2.set _ _ (Nat.lt_of_le_of_lt Nat.and_le_left hx)
  · rw [set_getD _ _ _ _ (by omega)]
    by_cases e : j = i
    · subst e
      rw [if_pos rfl, if_pos (by omega)]
    · rw [if_neg e, e3]
      by_cases e4 : j < i
      · rw [if_pos e4, if_pos (by omega)]
      · rw [if_neg e4, if_neg (by omega)]
  · have e4 : (wr.setCell ⟨g, i, none⟩ (.int .u64 ((ws.getD i 0 &&& wo.getD i 0 : Nat) : Int))).heap[b]? = wr.heap[b]? := Below.heap_setCell _ _ _ _ (fun e => hgb e.symm)
    rw [e4, hbr, set_set']

theorem SetCh.drew {w w' : World} {b o : Nat} {cs : Array Value} {T : TypeId} {v v' : Value} (h : SetCh w w' b o cs T v v') (n : Nat) : SetCh w (w'.drewN n) b o cs T v v' := ⟨h.blk, h.kb.drewN n, h.lies⟩

theorem MtInv.drew {w wr : World} {B b o : Nat} {cs : Array Value} {T : TypeId} {v : Value} {ws wo : List Nat} {i : Nat} (h : MtInv w wr B b o cs T v ws wo i) (n : Nat) : MtInv w (wr.drewN n) B b o cs T v ws wo i := ⟨h.le, h.ws, h.ch.drew n⟩

set_option maxRecDepth 100000 in
theorem meet_any (B b o b2 o2 : Nat) (cs cs2 : Array Value) (T T2 : TypeId) (v v2 : Value) (s s2 : List Nat) (w : World) (hT : T ≠ T64) (hT2 : T2 ≠ T64) (hb : w.heap[b]? = some (.cells cs T (0, 0))) (hv : cs[o]? = some v) (hb2 : w.heap[b2]? = some (.cells cs2 T2 (0, 0))) (hv2 : cs2[o2]? = some v2) (hne : b2 ≠ b ∨ o2 ≠ o) (h : SetV w B v s) (h2 : SetV w B v2 s2) (ha : Apart v v2) :
    Calls Tryz.prog 163 #[.pointer (some ⟨b, o, none⟩), .pointer (some ⟨b2, o2, none⟩)] w fun e w' => e = .returned (.tuple #[]) ∧ ∃ v', SetV w' B v' (meetS s s2) ∧ SetCh w w' b o cs T v v' := by
  obtain ⟨ws, hl, hO, rfl⟩ := h
  obtain ⟨wo, hl2, hO2, rfl⟩ := h2
  have ho : o < cs.size := (Array.getElem?_eq_some_iff.1 hv).1
  have hc : w.cell? ⟨b, o, none⟩ = some v := by rw [cell_at hb]; exact hv
  have H0 : Hid (MtInv w w B b o cs T v ws wo 0) := hide ⟨Nat.zero_le _, ⟨ws, rfl, hO, fun j => by simp⟩, SetCh.refl hb hv⟩
  have h64 := hO.2
  have h64o := hO2.2
  obtain ⟨ao, cap, rfl, _⟩ := hO.form
  have HA := hide (And.intro ha (And.intro hO hO2))
  have HB := hide (And.intro hb (And.intro hb2 hv2))
  clear ha hO hO2 hb hb2 hv2
  go_enter Tryz.func163, Tryz.ntmps163
  go_wp2
  go_loopw [10] (fun iv wr => ∃ (i : Nat), iv = .int .i64 i ∧ MtInv w wr B b o cs T (.slice ao ws.length cap) ws wo i) (fun iv _ => ws.length - (intOf iv).toNat)
  case atStart => exact ⟨0, rfl, H0.out⟩
  case round =>
    clear H0
    obtain ⟨i, rfl, hI⟩ := hrel
    have hle := hI.le
    have hbr := hI.ch.blk
    have hcr : wr.cell? ⟨b, o, none⟩ = some (.slice ao ws.length cap) := by rw [cell_at hbr]; simp [ho]
    by_cases hlt : i < ws.length
    · obtain ⟨cs2', hb2', hv2'⟩ := hI.ch.other HB.out.1 HA.out.2.1 HB.out.2.1 HB.out.2.2 hT2 hne
      obtain ⟨hO2', _⟩ := hI.ch.apart HB.out.1 hT HA.out.2.2 HA.out.1
      have HW := fun n => word_any B b2 o2 cs2' T2 v2 wo i (wr.drewN n) hb2' hv2' hO2'
      obtain ⟨wi, q1, q2, q3⟩ := hI.ws
      obtain ⟨x, hx⟩ : ∃ x, wi[i]? = some x := ⟨_, List.getElem?_eq_getElem (by omega)⟩
      obtain ⟨ao4, cap4, e5, hw4⟩ := q2.form
      injection e5 with e5 e7 e6
      subst e5 e6
      clear e7
      obtain ⟨g, rfl, hg, hgf⟩ := hw4 i x hx
      have ex : ws.getD i 0 = x := by
        have := q3 i
        rw [if_neg (by omega)] at this
        rw [← this]
        simp [hx]
      have hxl : x < 18446744073709551616 := by rw [← ex]; exact getD_lt h64 i
      have hyl := getD_lt h64o i
      have HI2 : Hid (∀ n, MtInv w ((wr.drewN n).setCell ⟨g, i, none⟩ (.int .u64 ((x &&& wo.getD i 0 : Nat) : Int))) B b o cs T (.slice (some ⟨g, 0, none⟩) ws.length cap) ws wo (i + 1)) := by
        refine hide (fun n => ?_)
        have HI := (hI.drew n).step rfl hT hlt (by rw [ex]; exact hxl)
        rw [ex] at HI
        exact HI
      generalize wo.getD i 0 = y at *
      have hand := u64_and_nat x y hxl hyl
      clear hI hbr q1 q2 q3 hw4 hx ex hb2' hv2' hO2'
      go_wp2
      go_region_with (go_at_call 150; refine (HW _).mono ?_; rintro e w1 ⟨rfl, rfl⟩)
      all_goals
        go_wp2
        go_roundw
        case rel => exact ⟨i + 1, by go_num, HI2.out _⟩
        case measure => simp [intOf]; omega
    · have hin : i = ws.length := by omega
      subst hin
      have HI := hide hI
      clear hI hbr
      go_wp2
      go_end0
      obtain ⟨wi, q1, q2, q3⟩ := HI.out.ws
      refine ⟨rfl, _, ⟨wi, by omega, q2, ?_⟩, HI.out.ch⟩
      unfold meetS
      refine mkS_congr fun k hk => ?_
      rw [mkS_contains hk, mkS_contains hk]
      unfold hasW
      rw [q3]
      by_cases e : k / 64 < ws.length
      · rw [if_pos e, Nat.testBit_and]
      · rw [if_neg e]
        have : ws.getD (k / 64) 0 = 0 := by rw [List.getD_eq_getElem?_getD, List.getElem?_eq_none (Nat.le_of_not_lt e)]; rfl
        rw [this]
        simp

/-- Are all words of two sets the same? -/
theorem words_eq {ws wo : List Nat} (h1 : ∀ x ∈ ws, x < 18446744073709551616) (h2 : ∀ x ∈ wo, x < 18446744073709551616) (hl1 : ws.length ≤ 2) (hl2 : wo.length ≤ 2) : (∀ j, j < max ws.length wo.length → ws.getD j 0 = wo.getD j 0) ↔ mkS (hasW ws) = mkS (hasW wo) := by
  constructor
  · intro h
    refine mkS_congr fun k _ => ?_
    unfold hasW
    by_cases e : k / 64 < max ws.length wo.length
    · rw [h _ e]
    · have e1 : ws.getD (k / 64) 0 = 0 := by rw [List.getD_eq_getElem?_getD, List.getElem?_eq_none (by omega)]; rfl
      have e2 : wo.getD (k / 64) 0 = 0 := by rw [List.getD_eq_getElem?_getD, List.getElem?_eq_none (by omega)]; rfl
      rw [e1, e2]
  · intro h j hj
    apply Nat.eq_of_testBit_eq
    intro i
    by_cases e : i < 64
    · have hk : 64 * j + i < 128 := by omega
      have e1 : (64 * j + i) / 64 = j := by omega
      have e2 : (64 * j + i) % 64 = i := by omega
      have k1 := mkS_contains (p := hasW ws) hk
      rw [h, mkS_contains hk] at k1
      unfold hasW at k1
      rw [e1, e2] at k1
      exact k1.symm
    · have p64 : 2 ^ 64 ≤ 2 ^ i := Nat.pow_le_pow_right (by omega) (by omega)
      rw [Nat.testBit_lt_two_pow (Nat.lt_of_lt_of_le (getD_lt h1 j) (by simpa using p64)), Nat.testBit_lt_two_pow (Nat.lt_of_lt_of_le (getD_lt h2 j) (by simpa using p64))]

set_option maxRecDepth 100000 in
theorem equal_any (B B2 b o b2 o2 : Nat) (cs cs2 : Array Value) (T T2 : TypeId) (v v2 : Value) (s s2 : List Nat) (w : World) (hb : w.heap[b]? = some (.cells cs T (0, 0))) (hv : cs[o]? = some v) (hb2 : w.heap[b2]? = some (.cells cs2 T2 (0, 0))) (hv2 : cs2[o2]? = some v2) (h : SetV w B v s) (h2 : SetV w B2 v2 s2) :
    Calls Tryz.prog 110 #[.pointer (some ⟨b, o, none⟩), .pointer (some ⟨b2, o2, none⟩)] w fun e w' => e = .returned (.bool (s == s2)) ∧ ∃ n, w' = w.drewN n := by
  obtain ⟨ws, hl, hO, rfl⟩ := h
  obtain ⟨wo, hl2, hO2, rfl⟩ := h2
  have hc : w.cell? ⟨b, o, none⟩ = some v := by rw [cell_at hb]; exact hv
  have hc2 : w.cell? ⟨b2, o2, none⟩ = some v2 := by rw [cell_at hb2]; exact hv2
  have HW := fun n at_ => word_any B b o cs T v ws at_ (w.drewN n) hb hv hO
  have HW2 := fun n at_ => word_any B2 b2 o2 cs2 T2 v2 wo at_ (w.drewN n) hb2 hv2 hO2
  have HE := hide (words_eq hO.2 hO2.2 hl hl2)
  obtain ⟨ao, cap, rfl, _⟩ := hO.form
  obtain ⟨ao2, cap2, rfl, _⟩ := hO2.form
  have h64 := hO.2
  have h64o := hO2.2
  clear hO hO2 hb hb2 hv hv2
  go_enter Tryz.func110, Tryz.ntmps110
  go_wp2
  go_region
  have hmx : (if ws.length < wo.length then ((wo.length : Nat) : Int) else ((ws.length : Nat) : Int)) = ((max ws.length wo.length : Nat) : Int) := by split <;> omega
  rw [hmx]
  have hm2 : max ws.length wo.length ≤ 2 := by omega
  generalize max ws.length wo.length = m at *
  clear hmx
  obtain ⟨w1, hw1⟩ : ∃ w1, w1 = w.drew := ⟨_, rfl⟩
  have HW1 := hide hw1
  have HWa : ∀ at_ : Nat, Calls Tryz.prog 150 #[.pointer (some ⟨b, o, none⟩), .int .i64 at_] w1 fun e w' => e = .returned (.int .u64 ((ws.getD at_ 0 : Nat) : Int)) ∧ w' = w1 := by rw [hw1]; exact HW 1
  have HWb : ∀ at_ : Nat, Calls Tryz.prog 150 #[.pointer (some ⟨b2, o2, none⟩), .int .i64 at_] w1 fun e w' => e = .returned (.int .u64 ((wo.getD at_ 0 : Nat) : Int)) ∧ w' = w1 := by rw [hw1]; exact HW2 1
  rw [← hw1]
  clear HW HW2 hw1 hc hc2
  go_wp2
  go_loopw [17] (fun iv wr => ∃ (i : Nat), iv = .int .i64 i ∧ i ≤ m ∧ wr = w1 ∧ Hid (∀ j, j < i → ws.getD j 0 = wo.getD j 0)) (fun iv _ => m - (intOf iv).toNat)
  case atStart => exact ⟨0, rfl, Nat.zero_le _, rfl, hide (fun j hj => by omega)⟩
  case round =>
    obtain ⟨i, rfl, hle, rfl, HI⟩ := hrel
    by_cases hlt : i < m
    · have ha := HWa i
      have hb := HWb i
      have hxl := getD_lt h64 i
      have hyl := getD_lt h64o i
      clear HWa HWb
      generalize hgx : ws.getD i 0 = x at ha hxl
      generalize hgy : wo.getD i 0 = y at hb hyl
      have HX0 := hide (And.intro hgx hgy)
      clear hgx hgy
      go_wp2_with fail
      refine ha.mono ?_
      clear ha
      rintro e w2 ⟨rfl, rfl⟩
      go_wp2_with fail
      refine hb.mono ?_
      clear hb
      rintro e w2 ⟨rfl, rfl⟩
      by_cases hxy : x = y
      · have HX : Hid (ws.getD i 0 = wo.getD i 0) := hide (by rw [HX0.out.1, HX0.out.2]; exact hxy)
        subst hxy
        go_wp2
        go_roundw
        case rel =>
          refine ⟨i + 1, by go_num, by omega, (by first | rfl | trivial), hide (fun j hj => ?_)⟩
          by_cases e : j = i
          · subst e; exact HX.out
          · exact HI.out j (by omega)
        case measure => simp [intOf]; omega
      · have HX : Hid ((mkS (hasW ws) == mkS (hasW wo)) = false) := by
          refine hide ?_
          rw [beq_eq_false_iff_ne]
          exact fun e => hxy (by rw [← HX0.out.1, ← HX0.out.2]; exact HE.out.2 e i hlt)
        go_wp2
        go_ret
        exact ⟨by rw [HX.out]; rfl, 1, HW1.out⟩
    · have HX : Hid ((mkS (hasW ws) == mkS (hasW wo)) = true) := by
        refine hide ?_
        rw [beq_iff_eq]
        exact HE.out.1 (fun j hj => HI.out j (by omega))
      clear HWa HWb
      go_wp2
      go_ret
      exact ⟨by rw [HX.out]; rfl, 1, HW1.out⟩

set_option maxRecDepth 100000 in
theorem empty_any (B b o : Nat) (cs : Array Value) (T : TypeId) (v : Value) (s : List Nat) (w : World) (hb : w.heap[b]? = some (.cells cs T (0, 0))) (hv : cs[o]? = some v) (h : SetV w B v s) :
    Calls Tryz.prog 87 #[.pointer (some ⟨b, o, none⟩)] w fun e w' => e = .returned (.bool s.isEmpty) ∧ Kb [] w w' := by
  have HC := equal_any B 0 b o w.heap.size 0 cs #[.slice none 0 0] T 112 v (.slice none 0 0) s [] (w.alloc (.cells #[.slice none 0 0] 112)) (heap_old hb _) hv (heap_new _ _) rfl (h.kb ((Kb.refl [] w).alloc _) (by simp)) (SetV.nil _ _)
  have HE : Hid ((s == []) = s.isEmpty) := hide (by cases s <;> rfl)
  clear hb hv h
  go_enter Tryz.func87, Tryz.ntmps87
  go_wp2_with fail
  refine HC.mono ?_
  clear HC
  rintro e w1 ⟨rfl, n, rfl⟩
  go_wp2
  go_ret
  exact ⟨by rw [← HE.out]; rfl, ((Kb.refl [] w).alloc _).drewN n⟩

end Go.Proofs.YtiamlbhkiehilaaGreatDoor

namespace Go.Proofs.YtiamlbhkiehilaaGreatDoor
open Go.RowKit

theorem odd_part : ∀ (x : Nat), x ≠ 0 → ∃ k m, x = 2 ^ k * (2 * m + 1) := by
  intro x
  induction x using Nat.strongRecOn with
  | _ x ih =>
    intro hx
    by_cases h : x % 2 = 1
    · exact ⟨0, x / 2, by omega⟩
    · obtain ⟨k, m, e⟩ := ih (x / 2) (by omega) (by omega)
      refine ⟨k + 1, m, ?_⟩
      rw [Nat.pow_succ, Nat.mul_comm (2 ^ k) 2, Nat.mul_assoc, ← e]
      omega

theorem bit_x (k m j : Nat) : (2 ^ k * (2 * m + 1)).testBit j = if j < k then false else (2 * m + 1).testBit (j - k) := by
  have := Nat.testBit_two_pow_mul_add (i := k) (2 * m + 1) (b := 0) (Nat.two_pow_pos k) j
  rw [Nat.add_zero] at this
  rw [this]
  split <;> simp
theorem bit_pred (k m j : Nat) : (2 ^ k * (2 * m + 1) - 1).testBit j = if j < k then true else (2 * m).testBit (j - k) := by
  have hp := Nat.two_pow_pos k
  have e : 2 ^ k * (2 * m + 1) - 1 = 2 ^ k * (2 * m) + (2 ^ k - 1) := by
    rw [Nat.mul_add, Nat.mul_one]
    omega
  rw [e, Nat.testBit_two_pow_mul_add (2 * m) (by omega)]
  split
  · rename_i h
    rw [Nat.testBit_two_pow_sub_one]
    simp [h]
  · rfl
theorem bit_odd (m j : Nat) : (2 * m + 1).testBit (j + 1) = (2 * m).testBit (j + 1) := by
  rw [Nat.testBit_succ, Nat.testBit_succ]
  congr 1
  omega

/-- The lowest bit is cleared. -/
theorem bit_clear (k m j : Nat) : ((2 ^ k * (2 * m + 1)) &&& (2 ^ k * (2 * m + 1) - 1)).testBit j = (j != k && (2 ^ k * (2 * m + 1)).testBit j) := by
  rw [Nat.testBit_and, bit_x, bit_pred]
  by_cases h : j < k
  · simp [h]
  · simp only [h, if_false]
    by_cases e : j = k
    · subst e
      simp
    · obtain ⟨d, rfl⟩ : ∃ d, j = k + (d + 1) := ⟨j - k - 1, by omega⟩
      rw [show k + (d + 1) - k = d + 1 by omega, bit_odd]
      have : (k + (d + 1) != k) = true := by simp
      rw [this]
      cases (2 * m).testBit (d + 1) <;> rfl
/-- The lowest bit alone. -/
theorem bit_low (k m : Nat) (h : 2 ^ k * (2 * m + 1) < 18446744073709551616) : (2 ^ k * (2 * m + 1)) &&& (18446744073709551616 - 2 ^ k * (2 * m + 1)) = 2 ^ k := by
  have hp := Nat.two_pow_pos k
  have hpos : 0 < 2 ^ k * (2 * m + 1) := Nat.mul_pos hp (by omega)
  have e : 18446744073709551616 - 2 ^ k * (2 * m + 1) = 2 ^ 64 - ((2 ^ k * (2 * m + 1) - 1) + 1) := by
    rw [Nat.sub_add_cancel hpos]
  rw [e]
  apply Nat.eq_of_testBit_eq
  intro j
  rw [Nat.testBit_and, Nat.testBit_two_pow_sub_succ (by omega), Nat.testBit_two_pow]
  by_cases hj : j < 64
  · simp only [hj, decide_true, Bool.true_and]
    rw [bit_x, bit_pred]
    by_cases h2 : j < k
    · have : k ≠ j := by omega
      simp [h2, this]
    · simp only [h2, if_false]
      by_cases e2 : j = k
      · subst e2
        simp
      · obtain ⟨d, rfl⟩ : ∃ d, j = k + (d + 1) := ⟨j - k - 1, by omega⟩
        rw [show k + (d + 1) - k = d + 1 by omega, bit_odd]
        simp
  · have hk : k < 64 := by
      rcases Nat.lt_or_ge k 64 with h2 | h2
      · exact h2
      · have h3 : 2 ^ 64 ≤ 2 ^ k := Nat.pow_le_pow_right (by omega) h2
        have h4 : 2 ^ k ≤ 2 ^ k * (2 * m + 1) := Nat.le_mul_of_pos_right _ (by omega)
        have h5 : (2 : Nat) ^ 64 = 18446744073709551616 := by decide
        omega
    have : ¬ k = j := by omega
    simp [hj, this]
theorem bit_k {k m : Nat} (h : 2 ^ k * (2 * m + 1) < 18446744073709551616) : k < 64 := by
  rcases Nat.lt_or_ge k 64 with h2 | h2
  · exact h2
  · have h3 : 2 ^ 64 ≤ 2 ^ k := Nat.pow_le_pow_right (by omega) h2
    have h4 : 2 ^ k ≤ 2 ^ k * (2 * m + 1) := Nat.le_mul_of_pos_right _ (by omega)
    have h5 : (2 : Nat) ^ 64 = 18446744073709551616 := by decide
    omega

/-- The first that holds, and the rest. -/
theorem filter_first {p : Nat → Bool} {n k : Nat} (hk : k < n) (hp : p k = true) (hl : ∀ j, j < k → p j = false) : (List.range n).filter p = k :: (List.range n).filter (fun j => j != k && p j) := by
  obtain ⟨r, rfl⟩ : ∃ r, n = k + (r + 1) := ⟨n - k - 1, by omega⟩
  rw [List.range_add, List.filter_append, List.filter_append]
  have e1 : (List.range k).filter p = [] := List.filter_eq_nil_iff.2 (fun j hj => by rw [hl j (by simpa using hj)]; simp)
  have e2 : (List.range k).filter (fun j => j != k && p j) = [] := List.filter_eq_nil_iff.2 (fun j hj => by rw [hl j (by simpa using hj)]; simp)
  rw [e1, e2, List.range_succ_eq_map]
  simp only [List.map_cons, Nat.add_zero, List.nil_append, List.filter_cons, hp, if_true, bne_self_eq_false, Bool.false_and, Bool.false_eq_true, if_false]
  congr 1
  refine List.filter_congr fun j hj => ?_
  obtain ⟨a, ha, rfl⟩ := List.mem_map.1 hj
  obtain ⟨c, _, rfl⟩ := List.mem_map.1 ha
  have : (k + (c + 1) != k) = true := by simp
  rw [this, Bool.true_and]

def bitsL (x : Nat) : List Nat := (List.range 64).filter x.testBit
theorem bitsL_zero : bitsL 0 = [] := by
  unfold bitsL
  rw [List.filter_eq_nil_iff]
  intro j _
  simp
theorem bitsL_step {k m : Nat} (h : 2 ^ k * (2 * m + 1) < 18446744073709551616) : bitsL (2 ^ k * (2 * m + 1)) = k :: bitsL ((2 ^ k * (2 * m + 1)) &&& (2 ^ k * (2 * m + 1) - 1)) := by
  unfold bitsL
  rw [filter_first (bit_k h) (by rw [bit_x]; simp) (fun j hj => by rw [bit_x, if_pos hj])]
  congr 1
  refine List.filter_congr fun j _ => ?_
  rw [bit_clear]

/-- All numbers of words, in order. -/
def allW (ws : List Nat) : List Nat := (List.range ws.length).flatMap fun a => (bitsL (ws.getD a 0)).map (64 * a + ·)
theorem allW_eq {ws : List Nat} (h : ws.length ≤ 2) : allW ws = mkS (hasW ws) := by
  have e : ∀ (a : Nat), ((List.range 64).map (64 * a + ·)).filter (hasW ws) = (bitsL (ws.getD a 0)).map (64 * a + ·) := by
    intro a
    unfold bitsL
    rw [List.filter_map]
    congr 1
    refine List.filter_congr fun j hj => ?_
    have hj : j < 64 := by simpa using hj
    simp only [Function.comp, hasW]
    rw [show (64 * a + j) / 64 = a by omega, show (64 * a + j) % 64 = j by omega]
  have e128 : mkS (hasW ws) = (bitsL (ws.getD 0 0)).map (64 * 0 + ·) ++ (bitsL (ws.getD 1 0)).map (64 * 1 + ·) := by
    unfold mkS
    rw [show (128 : Nat) = 64 + 64 from rfl, List.range_add, List.filter_append, ← e 0, ← e 1]
    congr 2
  rw [e128]
  unfold allW
  match ws, h with
  | [], _ => simp [bitsL_zero]
  | [a], _ => simp [bitsL_zero, List.range_succ]
  | [a, b], _ => simp [List.range_succ]

end Go.Proofs.YtiamlbhkiehilaaGreatDoor
