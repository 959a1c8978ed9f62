import Derived.Test.YtiamlbhkiehilaaGreatDoorBk29
import Derived.Deep.RegionWith
namespace Go.Proofs.YtiamlbhkiehilaaGreatDoor
open Go.RowKit

variable {B : Nat} {c : Way} {n : Nat} {s : St}

theorem GM.get {w : World} {G : GV} (h : GM w B c n G s) {k : Nat} (hk : k < 7 * n) : ∃ v, G.nv[k]? = some v ∧ G.nv.toArray[k]? = some v ∧ SetV w B v (s.ss.getD k []) := by
  obtain ⟨v, hv⟩ : ∃ v, G.nv[k]? = some v := ⟨_, List.getElem?_eq_getElem (by rw [h.lnv]; exact hk)⟩
  obtain ⟨t, ht⟩ : ∃ t, s.ss[k]? = some t := ⟨_, List.getElem?_eq_getElem (by rw [h.lss]; exact hk)⟩
  refine ⟨v, hv, by simpa using hv, ?_⟩
  have e : s.ss.getD k [] = t := by simp [ht]
  rw [e]
  exact h.sN k v t hv ht

/-- What the walk reads of a graph. -/
theorem GM.reads {w : World} {G : GV} (h : GM w B c n G s) : w.cell? ⟨G.bg, 0, none⟩ = some (.int .i64 c.order) ∧ w.cell? ⟨G.bg, 1, none⟩ = some (.bool c.cycles) ∧ w.cell? ⟨G.bg, 2, none⟩ = some (.bool c.collapse) ∧ w.cell? ⟨G.bg, 3, none⟩ = some (.bool c.subst) ∧ w.cell? ⟨G.bg, 4, none⟩ = some (.bool c.deltas) ∧ w.cell? ⟨G.bg, 5, none⟩ = some (.slice (some ⟨G.bn, 0, none⟩) n G.cap) ∧ w.cell? ⟨G.bg, 7, none⟩ = some (.pointer (some ⟨G.bl, 0, none⟩)) ∧ w.cell? ⟨G.bg, 9, none⟩ = some (.int .i64 s.un) ∧ w.frozen? ⟨G.bg, 9, none⟩ = false := by
  refine ⟨?_, ?_, ?_, ?_, ?_, ?_, ?_, ?_, frozen_at h.hbg 9⟩ <;> (rw [cell_at h.hbg]; rfl)

/-- The same but for what was drawn. -/
def SameW (w W : World) : Prop := W.heap = w.heap ∧ W.os = w.os ∧ W.tape = w.tape ∧ W.output = w.output
theorem SameW.kb {w W : World} (h : SameW w W) (L : List Nat) : Kb L w W := ⟨h.2.1, h.2.2.1, h.2.2.2, by rw [h.1]; exact Nat.le_refl _, fun _ _ _ => by rw [h.1]⟩
theorem GM.same {w W : World} {G : GV} (h : GM w B c n G s) (hs : SameW w W) : GM W B c n G s := h.fresh (hs.kb [])
theorem GCh.same {w W : World} (hs : SameW w W) (G : GV) : GCh w W G G := ⟨hs.kb _, fun _ h => .inl h, rfl, rfl, rfl⟩

/-- Adds to a set of a name. -/
theorem gadd_any (k m : Nat) (w : World) (G : GV) (h : GM w B c n G s) (hk : k < 7 * n) (hm : m < 128) :
    Calls Tryz.prog 108 #[.pointer (some ⟨G.bn, k, none⟩), .int .u64 m] w fun e w' => e = .returned (.bool (!(s.ss.getD k []).contains m)) ∧ ∃ G', GM w' B c n G' (s.addAt k m) ∧ GCh w w' G G' := by
  obtain ⟨v, q, q', qs⟩ := h.get hk
  refine (sadd_any B G.bn k _ TNd v _ m w h.hB (by decide) h.hbn q' qs hm).mono ?_
  rintro e w' ⟨rfl, v', hS, hC⟩
  obtain ⟨p1, p2⟩ := h.putN q hC hS
  exact ⟨rfl, _, p1, p2⟩
theorem gsadd_any (m : Nat) (w : World) (G : GV) (h : GM w B c n G s) (hm : m < 128) :
    Calls Tryz.prog 108 #[.pointer (some ⟨G.bg, 8, none⟩), .int .u64 m] w fun e w' => e = .returned (.bool (!s.susp.contains m)) ∧ ∃ G', GM w' B c n G' { s with susp := addS m s.susp } ∧ GCh w w' G G' := by
  refine (sadd_any B G.bg 8 _ TG G.vs _ m w h.hB (by decide) h.hbg rfl h.sS hm).mono ?_
  rintro e w' ⟨rfl, v', hS, hC⟩
  obtain ⟨p1, p2⟩ := h.putS hC hS
  exact ⟨rfl, _, p1, p2⟩
theorem gequal_any (k k2 : Nat) (w : World) (G : GV) (h : GM w B c n G s) (hk : k < 7 * n) (hk2 : k2 < 7 * n) :
    Calls Tryz.prog 110 #[.pointer (some ⟨G.bn, k, none⟩), .pointer (some ⟨G.bn, k2, none⟩)] w fun e w' => e = .returned (.bool (s.ss.getD k [] == s.ss.getD k2 [])) ∧ ∃ m, w' = w.drewN m := by
  obtain ⟨v, q, q', qs⟩ := h.get hk
  obtain ⟨v2, q2, q2', qs2⟩ := h.get hk2
  exact equal_any B B G.bn k G.bn k2 _ _ TNd TNd v v2 _ _ w h.hbn q' h.hbn q2' qs qs2

/-- suspect keeps its word. -/
def SusOK (B : Nat) (c : Way) (n : Nat) : Prop := ∀ (s : St) (f j : Nat) (w : World) (G : GV), GM w B c n G s → f < n → j < n →
    Calls Tryz.prog 158 #[.pointer (some ⟨G.bg, 0, none⟩), .int .u64 f, .int .u64 j] w fun e w' => e = .returned (.tuple #[]) ∧ ∃ G', GM w' B c n G' (s.suspect f j) ∧ GCh w w' G G'

/-- A set that is handed over: one of the graph's own, or one beside it. -/
structure ArgS (w : World) (B : Nat) (G : GV) (k b2 o2 : Nat) (T : List Nat) : Prop where
  ex : ∃ cs2 T2 v2, w.heap[b2]? = some (.cells cs2 T2 (0, 0)) ∧ cs2[o2]? = some v2 ∧ T2 ≠ T64 ∧ T2 ≠ TG ∧ T2 ≠ TL ∧ (b2 ≠ G.bn ∨ o2 ≠ k) ∧ SetV w B v2 T ∧ ∀ v, G.nv[k]? = some v → Apart v v2

theorem ArgS.own {w : World} {G : GV} (h : GM w B c n G s) {k k2 : Nat} (hk2 : k2 < 7 * n) (hne : k2 ≠ k) : ArgS w B G k G.bn k2 (s.ss.getD k2 []) := by
  obtain ⟨v2, q, q', qs⟩ := h.get hk2
  exact ⟨_, TNd, v2, h.hbn, q', by decide, by decide, by decide, .inr hne, qs, fun v hv => h.aNN k k2 v v2 (Ne.symm hne) hv q⟩

set_option maxRecDepth 100000 in
theorem ghand_any (hS : c.cycles = true → SusOK B c n) (b2 o2 f j : Nat) (T : List Nat) (w : World) (G : GV) (h : GM w B c n G s) (hw : WF n s) (hf : f < n) (hj : j < n) (hT : ∀ x, x ∈ T → x < n) (ha : ArgS w B G (7 * j) b2 o2 T) (hu : s.un + 1 < 4611686018427387904) :
    Calls Tryz.prog 119 #[.pointer (some ⟨G.bg, 0, none⟩), .pointer (some ⟨b2, o2, none⟩), .int .u64 f, .int .u64 j] w fun e w' => e = .returned (.tuple #[]) ∧ ∃ G', GM w' B c n G' (s.hand c T f j) ∧ GCh w w' G G' := by
  have hn := h.n40
  obtain ⟨r0, r1, r2, r3, r4, r5, r7, r9, r9f⟩ := h.reads
  obtain ⟨g1, g1c⟩ := h.putU hu
  obtain ⟨v1, q1, q1', q1s⟩ := g1.get (k := 7 * j) (by omega)
  obtain ⟨cs2, T2, v2, a1, a2, a3, a4, a5, a6, a7, a8⟩ := ha.ex
  have hu2 : s.un < 4611686018427387904 := by omega
  have hkU : Kb [G.bg] w (w.setCell ⟨G.bg, 9, none⟩ (.int .i64 ((s.un : Int) + 1))) := (Kb.refl _ _).setCell (p := ⟨G.bg, 9, none⟩) (.inl (by simp)) _
  have HU := unite_any B G.bn (7 * j) b2 o2 G.nv.toArray cs2 TNd T2 v1 v2 _ T _ g1.hB (by decide) a3 g1.hbn q1' (hkU.heap a1 (by simp; exact ne_types a1 h.hbg a4)) a2 a6 q1s (a7.kb hkU (by intro g hg; rw [List.mem_singleton.1 hg]; exact a7.ne h.hbg (by decide))) (a8 v1 q1)
  have et : ({ s with un := s.un + 1 } : St).ss.getD (7 * j) [] = s.tg j := rfl
  rw [et] at HU
  obtain ⟨b, hb⟩ : ∃ b, b = newS (s.tg j) T := ⟨_, rfl⟩
  rw [← hb, show 7 * j = j * 7 from Nat.mul_comm _ _] at HU
  have HB := hide hb
  have hG1 := hide g1
  have hC1 := hide g1c
  have hQ := hide q1
  have r5' := g1.reads.2.2.2.2.2.1
  clear h hb g1 g1c q1 q1' q1s a1 a2 a3 a4 a5 a6 a7 a8 ha et r0 r2 r3 r4 r7
  go_enter Tryz.func119, Tryz.ntmps119
  go_wp2_with fail
  refine HU.mono ?_
  clear HU
  rintro e w1 ⟨rfl, v', hS1, hCh⟩
  rw [show j * 7 = 7 * j from Nat.mul_comm _ _] at hCh
  obtain ⟨p1, p2⟩ := hG1.out.putN hQ.out hCh hS1
  have wf1 : WF n (({ s with un := s.un + 1 } : St).put (7 * j) (uniS (s.tg j) T)) := by
    refine (hw.un _).put (by omega) ?_
    intro x hx
    rcases (mem_uniS.1 hx).2 with hx | hx
    · exact hw.bd _ x hx
    · exact hT x hx
  have hch := hC1.out.trans p2
  clear hS1 hCh
  obtain ⟨r0, r1', r2, r3, r4, r5'', r7, r9', _⟩ := p1.reads
  generalize hG' : ({ G with nv := G.nv.set (7 * j) v' } : GV) = G1 at *
  have e1 : G1.bg = G.bg := hch.e1
  have e2 : G1.bl = G.bl := hch.e3
  rw [e1] at r1' r7
  rw [e2] at r7
  have HP := hide p1
  have HC := hide hch
  have hst : s.hand c T f j = if b then (({ s with un := s.un + 1 } : St).put (7 * j) (uniS (s.tg j) T)).wait j else if c.cycles then (({ s with un := s.un + 1 } : St).put (7 * j) (uniS (s.tg j) T)).suspect f j else ({ s with un := s.un + 1 } : St).put (7 * j) (uniS (s.tg j) T) := by rw [HB.out]; rfl
  have HST := hide hst
  clear hst p1 p2 hG1 hC1 hQ hG' hch r0 r2 r3 r4 r5'' r9' r1 r9 r9f r5 r5' hkU
  cases b
  · have hcy : c.cycles = true ∨ c.cycles = false := by cases c.cycles <;> simp
    rcases hcy with hcy | hcy
    · have HSu := hS hcy _ f j w1 G1 HP.out hf hj
      rw [e1] at HSu
      rw [hcy] at r1'
      have HST2 : Hid (s.hand c T f j = (({ s with un := s.un + 1 } : St).put (7 * j) (uniS (s.tg j) T)).suspect f j) := hide (by rw [HST.out, hcy]; rfl)
      go_wp2_with fail
      refine HSu.mono ?_
      clear HSu
      rintro e w2 ⟨rfl, G2, hG2, hC2⟩
      have HF : Hid (GM w2 B c n G2 (s.hand c T f j) ∧ GCh w w2 G G2) := hide ⟨by rw [HST2.out]; exact hG2, HC.out.trans hC2⟩
      clear hG2 hC2
      go_wp2
      go_end0
      exact ⟨rfl, _, HF.out⟩
    · rw [hcy] at r1'
      have HF : Hid (GM w1 B c n G1 (s.hand c T f j) ∧ GCh w w1 G G1) := hide ⟨by rw [HST.out, hcy]; exact HP.out, HC.out⟩
      go_wp2
      go_end0
      exact ⟨rfl, _, HF.out⟩
  · have HWa := gwait_any j w1 G1 HP.out wf1 hj
    rw [e2] at HWa
    go_wp2_with fail
    refine HWa.mono ?_
    clear HWa
    rintro e w2 ⟨rfl, G2, hG2, hC2⟩
    have HF : Hid (GM w2 B c n G2 (s.hand c T f j) ∧ GCh w w2 G G2) := hide ⟨by rw [HST.out]; exact hG2, HC.out.trans hC2⟩
    clear hG2 hC2
    go_wp2
    go_end0
    exact ⟨rfl, _, HF.out⟩

end Go.Proofs.YtiamlbhkiehilaaGreatDoor
