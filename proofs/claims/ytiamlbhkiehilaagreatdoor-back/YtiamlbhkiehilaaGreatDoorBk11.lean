import Derived.Test.YtiamlbhkiehilaaGreatDoorBk10
import Derived.Test.YtiamlbhkiehilaaGreatDoorBk03
import Derived.ArgAppend
import Derived.Laws.AppendOwn
import Derived.Test.YtiamlbhkiehilaaGreatDoorBk01
import Derived.Test.YtiamlbhkiehilaaGreatDoorBk05
namespace Go.Proofs.YtiamlbhkiehilaaGreatDoor
open Go.RowKit Go.Maps

/-- A number as a text, by the law's own book. -/
def markB (n : Nat) : ByteArray := ⟨#[109, 97, 114, 107]⟩ ++ ⟨#[UInt8.ofNat (n % 256), UInt8.ofNat (n / 256 % 256), UInt8.ofNat (n / 65536 % 256)]⟩

set_option maxRecDepth 100000 in
set_option maxHeartbeats 1000000 in
theorem mark_any (n : Nat) (w : World) (hn : n ≤ 1000000000000) :
    Calls Tryz.prog 49 #[.int .i64 n] w fun e w' => e = .returned (.string (markB n)) ∧ Below w.heap.size w w' := by
  have e1 : ∀ m : Nat, ((UInt8.ofNat (m % 256)).toNat : Int) = (m : Int) % 256 := by
    intro m
    rw [UInt8.toNat_ofNat']
    omega
  have ho : (w.alloc (.cells #[.int .u8 ((n : Int) % 256), .int .u8 ((n : Int) / 256 % 256), .int .u8 ((n : Int) / 65536 % 256)] 5)).ownsRow w.heap.size 5 1 (.slice (some ⟨w.heap.size, 0, none⟩) 3 3) ([UInt8.ofNat (n % 256), UInt8.ofNat (n / 256 % 256), UInt8.ofNat (n / 65536 % 256)] : List UInt8).length (cellsB [UInt8.ofNat (n % 256), UInt8.ofNat (n / 256 % 256), UInt8.ofNat (n / 65536 % 256)]) := by
    refine ⟨by simp [cellsB], .inr ⟨w.heap.size, 3, _, rfl, Nat.le_refl _, heap_new _ _, by simp, by unfold maxLen; omega, by simp, ?_⟩⟩
    simp only [cellsB, List.map_cons, List.map_nil, e1]
    simp
  have hss := shape_string ho
  clear ho e1
  go_enter Tryz.func49, Tryz.ntmps49
  go_wp2
  go_ret
  exact ⟨rfl, (Below.refl _ _).alloc (Nat.le_refl _) _⟩

end Go.Proofs.YtiamlbhkiehilaaGreatDoor

namespace Go.Proofs.YtiamlbhkiehilaaGreatDoor
open Go.RowKit Go.Maps

/-- The fact that the book's owner writes into its i-th list. -/
def markF (i : Nat) : Fct := ⟨0, markB (i / 4 * 4), noB⟩

/-- A book of lists of facts: where it lies, and that each list reads as its owner left it. -/
structure BookAt (kb : Nat) (ls : List Value) (V : Value) (w : World) : Prop where
  head : w.heap[kb]? = some (.cells #[V, .slice none 0 0, .slice none 0 0] 75 (0, 0))
  row : ∃ ao cap, V = .slice ao ls.length cap ∧ (ls ≠ [] → ∃ g, ao = some ⟨g, 0, none⟩ ∧ g < w.heap.size ∧ ∀ (i : Nat) v, ls[i]? = some v → w.cell? ⟨g, i, none⟩ = some v)
  lists : ∀ (i : Nat) v, ls[i]? = some v → ∃ n, n ≤ 1000 ∧ IsFacts v (List.replicate n (markF i)) w

theorem BookAt.below {kb : Nat} {ls : List Value} {V : Value} {w w' : World} (h : BookAt kb ls V w) (hb : Below w.heap.size w w') : BookAt kb ls V w' := by
  refine ⟨Below.heapAt hb h.head (lt_of_heap h.head), ?_, fun i v hv => ?_⟩
  · obtain ⟨ao, cap, hV, hr⟩ := h.row
    refine ⟨ao, cap, hV, fun hne => ?_⟩
    obtain ⟨g, h1, h2, h3⟩ := hr hne
    exact ⟨g, h1, Nat.lt_of_lt_of_le h2 hb.size, fun i v hv => (hb.cell (p := ⟨g, i, none⟩) h2).trans (h3 i v hv)⟩
  · obtain ⟨n, hn, hf⟩ := h.lists i v hv
    exact ⟨n, hn, hf.below hb⟩

set_option maxRecDepth 100000 in
set_option maxHeartbeats 1000000 in
theorem stays_any (kb : Nat) (ls : List Value) (V : Value) (w : World) (hlen : ls.length ≤ 1000000000) (h : BookAt kb ls V w) :
    Calls Tryz.prog 29 #[.pointer (some ⟨kb, 0, none⟩)] w fun e w' => e = .returned (.bool true) ∧ Below w.heap.size w w' := by
  obtain ⟨ao, cap, rfl, _⟩ := h.row
  have hkl := lt_of_heap h.head
  go_enter Tryz.func29, Tryz.ntmps29
  go_wp2
  go_loopw [3] (fun iv wr => ∃ i : Nat, iv = .int .i64 i ∧ i ≤ ls.length ∧ Below w.heap.size w wr) (fun iv _ => ls.length - (intOf iv).toNat)
  case atStart => exact ⟨0, rfl, Nat.zero_le _, Below.refl _ _⟩
  case round =>
    obtain ⟨i, rfl, hi, hbx⟩ := hrel
    have hk := h.below hbx
    obtain ⟨c0, c1, c2, _, _, _⟩ := res_cells hk.head
    by_cases hlt : i < ls.length
    · obtain ⟨v, hv⟩ : ∃ v, ls[i]? = some v := ⟨_, List.getElem?_eq_getElem hlt⟩
      have hne : ls ≠ [] := by intro e; rw [e] at hlt; simp at hlt
      obtain ⟨n, hn, hf⟩ := hk.lists i v hv
      obtain ⟨ao2, cap2, rfl, _, _, hfa⟩ := hf
      rw [List.length_replicate] at hv
      have HV := hide hv
      obtain ⟨ao', cap', hV', hrow⟩ := hk.row
      obtain ⟨g, hg1, hg2, hg3⟩ := hrow hne
      have hao : ao = some ⟨g, 0, none⟩ := by injection hV' with h1 _ _; rw [h1, hg1]
      subst hao
      have HA := hide hfa
      have hmk := mark_any (i / 4 * 4) wr (by omega)
      rw [show (((i / 4 * 4 : Nat)) : Int) = (i : Int) / 4 * 4 by omega] at hmk
      have HG := hide hg3
      clear hfa hrow hV' hv hg3 hne hg1
      go_wp2_with fail
      refine hmk.mono ?_
      rintro e w2 ⟨rfl, hb2⟩
      have hk2 := hk.below hb2
      clear hmk
      go_wp2_with fail
      have g4 := heap_new w2 (.cells #[.int .i64 0, .string (markB (i / 4 * 4)), .string ⟨#[]⟩] 48)
      have hb3 : Below wr.heap.size wr (w2.alloc (.cells #[.int .i64 0, .string (markB (i / 4 * 4)), .string ⟨#[]⟩] 48)) := hb2.alloc hb2.size _
      have hB3 : Below w.heap.size w (w2.alloc (.cells #[.int .i64 0, .string (markB (i / 4 * 4)), .string ⟨#[]⟩] 48)) := hbx.trans (hb3.mono hbx.size)
      generalize hbx2 : w2.heap.size = bx at *
      generalize w2.alloc (.cells #[.int .i64 0, .string (markB (i / 4 * 4)), .string ⟨#[]⟩] 48) = w3 at g4 hb3 hB3 ⊢
      have hbl := lt_of_heap g4
      have hwl : wr.heap.size ≤ w3.heap.size := hb3.size
      have hk3 := hk.below hb3
      have HA3 := hide (fun (j : Nat) (hj : j < n) => show ∃ b off, ao2 = some ⟨b, off, none⟩ ∧ b < w3.heap.size ∧ FactsAt b off (List.replicate n (markF i)) w3 from by
        have hne : List.replicate n (markF i) ≠ [] := by intro e; have := congrArg List.length e; simp at this; omega
        obtain ⟨b, off, h1, h2, h3⟩ := HA.out hne
        exact ⟨b, off, h1, Nat.lt_of_lt_of_le h2 hwl, h3.below hb3 h2⟩)
      have HG3 := hide ((hb3.cell (p := ⟨g, i, none⟩) hg2).trans (HG.out i _ HV.out))
      have hg3' : g < w3.heap.size := Nat.lt_of_lt_of_le hg2 hwl
      have HK := hide hk3.head
      clear hk hk2 hb2 c0 c1 c2 hk3 HA HG hb3 hbx hbx2
      go_loopw [5] (fun jv wr => ∃ j : Nat, jv = .int .i64 j ∧ j ≤ n ∧ Below w3.heap.size w3 wr) (fun jv _ => n - (intOf jv).toNat)
      case atStart => exact ⟨0, rfl, Nat.zero_le _, Below.refl _ _⟩
      case round =>
        obtain ⟨j, rfl, hj, hby⟩ := hrel
        have gk := Below.heapAt hby HK.out (lt_of_heap HK.out)
        obtain ⟨c0, c1, c2, _, _, _⟩ := res_cells gk
        have gb := Below.heapAt hby g4 hbl
        obtain ⟨d0, d1, d2, _, _, _⟩ := res_cells gb
        have cg : wr.cell? ⟨g, i, none⟩ = some (.slice ao2 n cap2) := (hby.cell (p := ⟨g, i, none⟩) hg3').trans HG3.out
        by_cases hjn : j < n
        · obtain ⟨b, off, ha, hbw, hfs⟩ := HA3.out j hjn
          obtain ⟨a0, a1, a2⟩ := (hfs.below hby hbw) j 0 (markB (i / 4 * 4)) noB (by rw [List.getElem?_replicate, if_pos hjn]; rfl)
          rw [ha] at cg
          have hneq := neq_fact 0 (markB (i / 4 * 4)) ⟨#[]⟩
          have hgf := guardFact
          unfold noB at a2
          clear hfs gk gb
          go_wp2
          go_quiet (fail)
          go_wp2
          go_roundw
          case rel => exact ⟨j + 1, by go_num, hjn, below_drewN hby _⟩
          case measure => simp [intOf]; omega
        · go_wp2
          go_round
          case rel => exact ⟨i + 1, by go_num, hlt, hB3.trans (hby.mono hB3.size)⟩
          case measure => simp [intOf]; omega
    · go_wp2_with fail
      go_loop [6] (fun iv => iv = .int .i64 0) (fun _ => 0)
      case atStart => rfl
      case round =>
        subst hrel
        go_wp2
        go_loop [9] (fun iv => iv = .int .i64 0) (fun _ => 0)
        case atStart => rfl
        case round =>
          subst hrel
          go_wp2
          go_ret
          exact ⟨rfl, hbx⟩

end Go.Proofs.YtiamlbhkiehilaaGreatDoor

namespace Go.Proofs.YtiamlbhkiehilaaGreatDoor
open Go

/-- The cells of one thing, n times. -/
def repC (n : Nat) (xs : List Value) : List Value := (List.replicate n xs).flatten

theorem repC_succ (n : Nat) (xs : List Value) : repC (n + 1) xs = xs ++ repC n xs := by
  simp [repC, List.replicate_succ]

theorem repC_length (n : Nat) (xs : List Value) : (repC n xs).length = n * xs.length := by
  induction n with
  | zero => simp [repC]
  | succ n ih => rw [repC_succ, List.length_append, ih, Nat.succ_mul]; omega

theorem repC_add (n m : Nat) (xs : List Value) : repC n xs ++ repC m xs = repC (n + m) xs := by
  simp [repC, ← List.flatten_append, List.replicate_append_replicate]

theorem repC_get (n : Nat) (xs : List Value) : ∀ j, j < n * xs.length → (repC n xs)[j]? = xs[j % xs.length]? := by
  induction n with
  | zero => intro j h; simp at h
  | succ n ih =>
    intro j h
    rw [repC_succ]
    by_cases hj : j < xs.length
    · rw [List.getElem?_append_left hj, Nat.mod_eq_of_lt hj]
    · rw [Nat.succ_mul] at h
      rw [List.getElem?_append_right (by omega), ih (j - xs.length) (by omega)]
      congr 1
      exact (Nat.mod_eq_sub_mod (by omega)).symm

theorem repC_mem {n : Nat} {xs : List Value} {u : Value} (h : u ∈ repC n xs) : u ∈ xs := by
  simp only [repC, List.mem_flatten] at h
  obtain ⟨l, hl, hu⟩ := h
  rw [(List.mem_replicate.1 hl).2] at hu
  exact hu

section
variable {P : Program} (w : World)

/-- Things of one kind put behind a list of such things, whose owner has it still: where there is room, what was written there reads as all the rest. -/
theorem run_append_marks (base : Nat) (t ty e : TypeId) (i : TypeInfo) (z : Value) (size bytes : Nat) (ht : P.underlying t = some (.slice e)) (hi : P.info? e = some i) (hz : i.zero = some z)
    (hsize : i.size = size) (hby : i.bytes = bytes) (hzs : z.cells.size = size) (hsz : 0 < size)
    (v : Value) (n : Nat) (xs : List Value) (hxl : xs.length = size) (hown : w.ownsRow base e size v n (repC n xs))
    (a : Addr) (m c : Nat) (hm0 : 0 < m) (hnews : ∀ j u, (repC m xs)[j]? = some u → w.cell? (a.add j) = some u) (h1 : ∀ u ∈ xs, u.oneCell' = true)
    (h63 : n + m ≤ maxLen) (hbytes : (n + m) * bytes ≤ 140737488355328) (hbase : base ≤ w.heap.size) :
    ∃ v' w', (Builtin.append_ #[t, t] ty #[v, .slice (some a) m c]).run P w = .ok v' w' ∧ w'.ownsRow base e size v' (n + m) (repC (n + m) xs) ∧ w.grownBy w' v.ownBlock ∧
      (∀ B u k, w.ownsRow B e size u k (repC k xs) → w'.ownsRow B e size u k (repC k xs)) ∧ (v'.ownBlock = v.ownBlock ∨ ∃ g, v'.ownBlock = some g ∧ w.heap.size ≤ g) := by
  subst hsize
  subst hby
  have h1' : ∀ u ∈ repC m xs, u.oneCell' = true := fun u hu => h1 u (repC_mem hu)
  have hl : (repC m xs).length = m * i.size := by rw [repC_length, hxl]
  have hsmall : n + m ≤ 9223372036854775807 := by simp only [maxLen] at h63; omega
  have hlen : (repC n xs ++ repC m xs).length = (n + m) * i.size := by rw [List.length_append, hown.1, hl, Nat.add_mul]
  have grown : ∀ (old : Nat), old < n + m → ∀ (row : Option Nat),
      (w.drew.alloc (.cells ((repC n xs).toArray ++ (repC m xs).toArray ++ Builtin.zeroCells z.cells (grownCap w (n + m) old e - (n + m))) e)).ownsRow base e i.size
        (.slice (some ⟨w.heap.size, 0, none⟩) (n + m) (grownCap w (n + m) old e)) (n + m) (repC (n + m) xs) ∧
      w.grownBy (w.drew.alloc (.cells ((repC n xs).toArray ++ (repC m xs).toArray ++ Builtin.zeroCells z.cells (grownCap w (n + m) old e - (n + m))) e)) row := by
    intro old ho row
    have hge := grownCap_ge w (n + m) old e
    have hcm : grownCap w (n + m) old e ≤ maxLen := grownCap_le_maxLen w (n + m) old e h63
    refine ⟨⟨by rw [repC_length, hxl], .inr ⟨w.heap.size, _, _, rfl, hbase, heap_alloc_new w.drew _, hge, hcm, ?_, ?_⟩⟩, ⟨rfl, rfl, rfl, by simp, fun k hk _ => by first | exact heap_alloc_old w.drew _ k hk | exact heap_alloc_old w.drew _ hk⟩⟩
    · simp only [Array.size_append, List.size_toArray, size_zeroCells, hzs, hown.1, hl, ← Nat.add_mul]
      congr 1
      omega
    · simp only [Array.toList_append]
      rw [← hlen, repC_add]
      exact List.take_left
  rcases hown.2 with ⟨rfl, rfl⟩ | ⟨g, cap, cur, rfl, hbg, hg, hnc, hcm, hcs, htake⟩
  · have hr := run_append_nil (P := P) w t ty e i z ht hi hz a m c (repC m xs) hl hnews (by omega) (by omega) (by have hb := hbytes; simp only [Nat.zero_add] at hb; omega)
    have hgr := grown 0 (by omega) (Value.ownBlock (.slice none 0 0))
    have h0 : repC 0 xs = [] := rfl
    rw [h0] at hgr
    simp only [Nat.zero_add, Array.empty_append] at hgr ⊢
    exact ⟨_, _, hr, hgr.1, hgr.2, fun B u k hu => hu.kept hgr.2 (by cases hv : u.ownBlock <;> simp [Value.ownBlock]), .inr ⟨w.heap.size, rfl, Nat.le_refl _⟩⟩
  · by_cases hroom : n + m ≤ cap
    · have hfit : n * i.size + (repC m xs).length ≤ cur.size := by rw [hl, hcs, ← Nat.add_mul]; exact Nat.mul_le_mul_right _ hroom
      have hr := run_append_room (P := P) w t ty e i ht hi g n cap cur hg a m c (repC m xs) hl hnews h1' hroom hfit
      have hsz' : (cur.toList.take (n * i.size) ++ repC m xs ++ cur.toList.drop (n * i.size + (repC m xs).length)).toArray.size = cap * i.size := by
        simp only [List.size_toArray, List.length_append, List.length_take, List.length_drop, Array.length_toList (xs := cur)]
        omega
      have hgb : w.grownBy (w.setRow g (cur.toList.take (n * i.size) ++ repC m xs ++ cur.toList.drop (n * i.size + (repC m xs).length)).toArray) (some g) :=
        ⟨rfl, rfl, rfl, by simp, fun k _ hk => setRow_other w g k _ (fun e => hk (by rw [e]))⟩
      refine ⟨_, _, hr, ⟨by rw [repC_length, hxl], .inr ⟨g, cap, _, rfl, hbg, setRow_heap w g cur _ e _ hg, hroom, hcm, hsz', ?_⟩⟩, hgb, ?_, .inl rfl⟩
      · rw [htake, ← repC_add, ← hlen]
        exact List.take_left
      · intro B u k hu
        by_cases hub : u.ownBlock = some g
        · refine ⟨hu.1, ?_⟩
          rcases hu.2 with ⟨rfl, _⟩ | ⟨g', cap', cur', rfl, hb', hg', hk', hm', hs', ht'⟩
          · cases hub
          · simp only [Value.ownBlock, Option.some.injEq] at hub
            subst hub
            rw [hg] at hg'
            injection hg' with hg'
            injection hg' with hg'
            subst hg'
            refine .inr ⟨g', cap', _, rfl, hb', setRow_heap w g' cur _ e _ hg, hk', hm', by rw [hsz', ← hcs, hs'], ?_⟩
            have hmul : k * i.size ≤ cap' * i.size := Nat.mul_le_mul_right _ hk'
            refine List.ext_getElem? fun j => ?_
            rw [List.getElem?_take]
            split
            · rename_i hj
              have hR : (repC k xs)[j]? = xs[j % i.size]? := by rw [repC_get k xs j (by rw [hxl]; exact hj), hxl]
              rw [hR]
              by_cases hjn : j < n * i.size
              · rw [List.append_assoc, List.getElem?_append_left (by rw [List.length_take, Array.length_toList (xs := cur)]; omega), htake, repC_get n xs j (by rw [hxl]; exact hjn), hxl]
              · by_cases hjm : j < n * i.size + m * i.size
                · rw [List.getElem?_append_left (by rw [List.length_append, List.length_take, Array.length_toList (xs := cur), hl]; omega), List.getElem?_append_right (by rw [List.length_take, Array.length_toList (xs := cur)]; omega), List.length_take, Array.length_toList (xs := cur), Nat.min_eq_left (by omega), repC_get m xs _ (by rw [hxl]; omega), hxl]
                  congr 1
                  have hjj : (j - n * i.size + n * i.size) % i.size = (j - n * i.size) % i.size := Nat.add_mul_mod_self_right _ _ _
                  rw [Nat.sub_add_cancel (by omega)] at hjj
                  exact hjj.symm
                · rw [List.getElem?_append_right (by rw [List.length_append, List.length_take, Array.length_toList (xs := cur), hl]; omega), List.length_append, List.length_take, Array.length_toList (xs := cur), hl, List.getElem?_drop, ← hR, ← ht', List.getElem?_take, if_pos hj]
                  congr 1
                  omega
            · rename_i hj
              rw [List.getElem?_eq_none]
              rw [repC_length, hxl]; omega
        · exact hu.kept hgb (.inr hub)
    · have holds : ∀ j u, (repC n xs)[j]? = some u → w.cell? ((⟨g, 0, none⟩ : Addr).add j) = some u := hown.cells (g := g) rfl
      have hr := run_append_grow (P := P) w t ty e i z ht hi hz ⟨g, 0, none⟩ n cap (repC n xs) hown.1 holds a m c (repC m xs) hl hnews (by omega) (by omega) (growslice_fits (by omega) hbytes)
      have hgr := grown cap (by omega) (Value.ownBlock (.slice (some ⟨g, 0, none⟩) n cap))
      have hgn := (grown cap (by omega) none).2
      exact ⟨_, _, hr, hgr.1, hgr.2, fun B u k hu => hu.kept hgn (by cases hv : u.ownBlock <;> simp), .inr ⟨w.heap.size, rfl, Nat.le_refl _⟩⟩

theorem wpList_append_marks {ops : Array Oper} {rest : List Oper} {o : Oper} {a : Act} {Q : Exit → Act → World → Prop} (hgd : o.guard = none) (s x : Operand) (t : TypeId)
    (ho : o.op = .call { callee := .builtin .append, args := #[s, x], argTypes := #[t, t] })
    (base : Nat) (e : TypeId) (i : TypeInfo) (z : Value) (size bytes : Nat) (ht : P.underlying t = some (.slice e)) (hi : P.info? e = some i) (hz : i.zero = some z)
    (hsize : i.size = size) (hby : i.bytes = bytes) (hzs : z.cells.size = size) (hsz : 0 < size)
    (v : Value) (n : Nat) (xs : List Value) (hxl : xs.length = size) (hs : a.eval s = v) (hown : w.ownsRow base e size v n (repC n xs))
    (ad : Addr) (m c : Nat) (hm0 : 0 < m) (hx : a.eval x = .slice (some ad) m c) (hnews : ∀ j u, (repC m xs)[j]? = some u → w.cell? (ad.add j) = some u) (h1 : ∀ u ∈ xs, u.oneCell' = true)
    (h63 : n + m ≤ maxLen) (hbytes : (n + m) * bytes ≤ 140737488355328) (hbase : base ≤ w.heap.size)
    (h : ∀ v' w', w'.ownsRow base e size v' (n + m) (repC (n + m) xs) → w.grownBy w' v.ownBlock → (∀ B u k, w.ownsRow B e size u k (repC k xs) → w'.ownsRow B e size u k (repC k xs)) → (v'.ownBlock = v.ownBlock ∨ ∃ g, v'.ownBlock = some g ∧ w.heap.size ≤ g) → wpList P ops Q rest (a.put o.dst v') w') : wpList P ops Q (o :: rest) a w :=
  wpList_plain hgd fun _ hK => by
    obtain ⟨v', w', hr, h2, h3, h4, h5⟩ := run_append_marks (P := P) w base t o.type e i z size bytes ht hi hz hsize hby hzs hsz v n xs hxl hown ad m c hm0 hnews h1 h63 hbytes hbase
    unfold Oper.wp execOp
    simp only [ho, resolve, invoke, builtin, Sem.run_bind, Sem.run_pure, Result.andThen_ok, List.map_toArray, List.map_cons, List.map_nil, hs, hx, hr]
    exact hK _ _ (h v' w' h2 h3 h4 h5)

end

end Go.Proofs.YtiamlbhkiehilaaGreatDoor

namespace Go.Proofs.YtiamlbhkiehilaaGreatDoor
open Go.RowKit Go.Maps

theorem infoFacts : (Tryz.prog.info? 36).map (fun i => (i.zero, i.size, i.bytes)) = some (some (.slice none 0 0), 1, 24) := by kernel_rfl

/-- The cells of the fact that the book's owner writes into its i-th list. -/
def markC (i : Nat) : List Value := [.int .i64 0, .string (markB (i / 4 * 4)), .string noB]

theorem cellsF_rep (n i : Nat) : cellsF (List.replicate n (markF i)) = repC n (markC i) := by
  induction n with
  | zero => rfl
  | succ n ih => rw [List.replicate_succ, repC_succ, ← ih]; simp [cellsF, markF, markC]

/-- The law's book of lists of facts. -/
structure BookO (B kb : Nat) (ls : List Value) (V : Value) (w : World) : Prop where
  le : B ≤ kb
  head : w.heap[kb]? = some (.cells #[V, .slice none 0 0, .slice none 0 0] 75 (0, 0))
  row : w.ownsRow B 36 1 V ls.length ls
  lists : ∀ (i : Nat) v, ls[i]? = some v → ∃ n, n ≤ 1000 ∧ w.ownsRow B 48 3 v n (repC n (markC i))

theorem BookO.at {B kb : Nat} {ls : List Value} {V : Value} {w : World} (h : BookO B kb ls V w) : BookAt kb ls V w := by
  refine ⟨h.head, ?_, fun i v hv => ?_⟩
  · rcases h.row.2 with ⟨rfl, h0⟩ | ⟨g, cap, cur, rfl, _, hg, _, _, _, htk⟩
    · exact ⟨none, 0, by rw [h0], fun hne => absurd (List.length_eq_zero_iff.1 h0) hne⟩
    · refine ⟨_, cap, rfl, fun _ => ⟨g, rfl, lt_of_heap hg, fun i v hv => ?_⟩⟩
      have hl := lt_of_getElem? hv
      rw [cell_at hg]
      rw [← htk, List.getElem?_take, if_pos (by omega)] at hv
      simpa using hv
  · obtain ⟨n, hn, ho⟩ := h.lists i v hv
    refine ⟨n, hn, ?_⟩
    rw [← cellsF_rep] at ho
    exact facts_of_owns (fs := List.replicate n (markF i)) (by rw [List.length_replicate]; exact ho)

theorem own_set {w : World} {B : Nat} {e : TypeId} {size g n cap : Nat} {xs : List Value} (h : w.ownsRow B e size (.slice (some ⟨g, 0, none⟩) n cap) n xs) (j : Nat) (v : Value) :
    (w.setCell ⟨g, j, none⟩ v).ownsRow B e size (.slice (some ⟨g, 0, none⟩) n cap) n (xs.set j v) := by
  refine ⟨by rw [List.length_set]; exact h.1, ?_⟩
  rcases h.2 with ⟨h1, _⟩ | ⟨g', cap', cur, h1, hB, hg, hnc, hcm, hcs, htk⟩
  · cases h1
  · injection h1 with e1 _ e3
    injection e1 with e1
    injection e1 with e1
    subst e1 e3
    refine .inr ⟨g, cap, _, rfl, hB, heap_set hg j v, hnc, hcm, by simpa using hcs, ?_⟩
    rw [Array.toList_setIfInBounds, List.take_set, htk]

theorem own_cell {w : World} {B : Nat} {e : TypeId} {size g n cap : Nat} {xs : List Value} (h : w.ownsRow B e size (.slice (some ⟨g, 0, none⟩) n cap) n xs) :
    (∀ (j : Nat) u, xs[j]? = some u → w.cell? ⟨g, j, none⟩ = some u) ∧ (∀ o, w.frozen? ⟨g, o, none⟩ = false) := by
  rcases h.2 with ⟨h1, _⟩ | ⟨g', cap', cur, h1, hB, hg, hnc, hcm, hcs, htk⟩
  · cases h1
  · injection h1 with e1 _ e3
    injection e1 with e1
    injection e1 with e1
    subst e1 e3
    refine ⟨fun j u hu => ?_, fun o => frozen_at hg o⟩
    have hl := lt_of_getElem? hu
    rw [h.1] at hl
    rw [cell_at hg]
    rw [← htk, List.getElem?_take, if_pos hl] at hu
    simpa using hu

/-- Whatever lies in an owned row: nothing, or a block. -/
theorem own_form {w : World} {B : Nat} {e : TypeId} {size n : Nat} {v : Value} {xs : List Value} (h : w.ownsRow B e size v n xs) :
    ∃ ao cap, v = .slice ao n cap ∧ (0 < n → ∃ g, ao = some ⟨g, 0, none⟩) := by
  rcases h.2 with ⟨rfl, rfl⟩ | ⟨g, cap, cur, rfl, _⟩
  · exact ⟨none, 0, rfl, fun h => absurd h (Nat.lt_irrefl _)⟩
  · exact ⟨_, cap, rfl, fun _ => ⟨g, rfl⟩⟩

theorem set3L (cs : List Value) (x y z a b c : Value) (r : List Value) : (((cs ++ x :: y :: z :: r).set cs.length a).set (cs.length + 1) b).set (cs.length + 2) c = cs ++ a :: b :: c :: r := by
  simp

theorem set3F (A B : List Fct) (f : Fct) (k : Int) (p q : ByteArray) : (((cellsF (A ++ f :: B)).set (A.length * 3) (.int .i64 k)).set (A.length * 3 + 1) (.string p)).set (A.length * 3 + 2) (.string q) = cellsF (A ++ ⟨k, p, q⟩ :: B) := by
  have e : ∀ f : Fct, cellsF (A ++ f :: B) = cellsF A ++ .int .i64 f.k :: .string f.p :: .string f.q :: cellsF B := fun f => by simp [cellsF]
  have h := set3L (cellsF A) (.int .i64 f.k) (.string f.p) (.string f.q) (.int .i64 k) (.string p) (.string q) (cellsF B)
  rw [cellsF_length] at h
  rw [e, e]
  exact h

/-- An owned row stays while other blocks are written. -/
theorem own_kbL {w w' : World} {B : Nat} {e : TypeId} {size n : Nat} {v : Value} {xs : List Value} {L : List Nat} (h : w.ownsRow B e size v n xs) (hk : Kb L w w') (hne : ∀ g ∈ L, v.ownBlock ≠ some g) : w'.ownsRow B e size v n xs := by
  refine ⟨h.1, ?_⟩
  rcases h.2 with h | ⟨g, cap, cur, rfl, h2, h3, h4⟩
  · exact .inl h
  · exact .inr ⟨g, cap, cur, rfl, h2, hk.heap h3 (fun hm => hne g hm rfl), h4⟩

theorem cells_new (w : World) (cs : Array Value) (T : TypeId) (xs : List Value) (h : cs.toList = xs) : ∀ j u, xs[j]? = some u → (w.alloc (.cells cs T)).cell? ((⟨w.heap.size, 0, none⟩ : Addr).add j) = some u := by
  intro j u hu
  rw [Addr.add_lit, cell_at (heap_new w (.cells cs T)), Nat.zero_add]
  rw [← h] at hu
  simpa using hu

/-- Blocks of an owned row of another kind are others. -/
theorem own_ne {w : World} {B B' : Nat} {e e' : TypeId} {size size' : Nat} {v v' : Value} {n n' : Nat} {xs xs' : List Value} (h : w.ownsRow B e size v n xs) (h' : w.ownsRow B' e' size' v' n' xs') (hne : e ≠ e') : v.ownBlock = none ∨ v.ownBlock ≠ v'.ownBlock := by
  rcases h.2 with ⟨rfl, _⟩ | ⟨g, cap, cur, rfl, _, hg, _⟩
  · exact .inl rfl
  · refine .inr fun heq => ?_
    rcases h'.2 with ⟨rfl, _⟩ | ⟨g', cap', cur', rfl, _, hg', _⟩
    · cases heq
    · simp only [Value.ownBlock, Option.some.injEq] at heq
      rw [heq, hg'] at hg
      injection hg with h1
      injection h1 with h2 h3
      exact hne h3.symm

theorem own_head {w : World} {B : Nat} {e T : TypeId} {size : Nat} {v : Value} {n kb : Nat} {xs : List Value} {c : Array Value} {fz : Nat × Nat} (h : w.ownsRow B e size v n xs) (hk : w.heap[kb]? = some (.cells c T fz)) (hne : e ≠ T) : some kb ≠ v.ownBlock := by
  intro heq
  rcases h.2 with ⟨rfl, _⟩ | ⟨g, cap, cur, rfl, _, hg, _⟩
  · cases heq
  · simp only [Value.ownBlock, Option.some.injEq] at heq
    rw [← heq, hk] at hg
    injection hg with h1
    injection h1 with h2 h3
    exact hne h3.symm

/-- What a call may write into: the book, its row and the list that it is handed. -/
def may (kb : Nat) (V l : Value) : List Nat := kb :: (V.ownBlock.toList ++ l.ownBlock.toList)

/-- What holds at the head of each round: the list's first things are written over. -/
structure KInv (B : Nat) (w1 wr : World) (l : Value) (fs : List Fct) (m : Fct) (i : Nat) : Prop where
  le : i ≤ fs.length
  own : wr.ownsRow B 48 3 l fs.length (cellsF (List.replicate i m ++ fs.drop i))
  kb : Kb l.ownBlock.toList w1 wr

set_option maxRecDepth 100000 in
set_option maxHeartbeats 1000000 in
theorem keepFacts_any (B kb : Nat) (ls : List Value) (V l : Value) (fs : List Fct) (w : World) (hmod : ls.length % 4 = 0) (hls : ls.length ≤ 1000000000) (hfn : fs.length ≤ 120) (hB : BookO B kb ls V w)
    (hl : w.ownsRow B 48 3 l fs.length (cellsF fs)) (hap : ∀ v ∈ ls, v.ownBlock = none ∨ v.ownBlock ≠ l.ownBlock) :
    Calls Tryz.prog 41 #[.pointer (some ⟨kb, 0, none⟩), l] w fun e w' =>
      e = .returned (.tuple #[]) ∧ ∃ V' l1 l2 l3, BookO B kb (ls ++ [l, l1, l2, l3]) V' w' ∧ (∀ u ∈ [l1, l2, l3], u.ownBlock = l.ownBlock ∨ ∃ g, u.ownBlock = some g ∧ w.heap.size ≤ g) ∧ Kb (may kb V l) w w' := by
  obtain ⟨i0, hi0, hz0, hz1, hz2⟩ := info_parts infoFact
  obtain ⟨j0, hj0, hy0, hy1, hy2⟩ := info_parts infoFacts
  obtain ⟨Va, Vc, rfl, _⟩ := own_form hB.row
  obtain ⟨ao, cap, rfl, hao⟩ := own_form hl
  obtain ⟨c0, c1, c2, d0, d1, d2⟩ := res_cells hB.head
  have hkl := lt_of_heap hB.head
  have hBk := hB.le
  go_enter Tryz.func41, Tryz.ntmps41
  go_wp2_with fail
  refine (mark_any ls.length w (by omega)).mono ?_
  rintro e w2 ⟨rfl, hb2⟩
  have hmk : markC ls.length = [.int .i64 0, .string (markB ls.length), .string ⟨#[]⟩] := by unfold markC noB; rw [show ls.length / 4 * 4 = ls.length by omega]
  have hmf : markF ls.length = ⟨0, markB ls.length, ⟨#[]⟩⟩ := by unfold markF noB; rw [show ls.length / 4 * 4 = ls.length by omega]
  go_wp2_with fail
  have gx := heap_new w2 (.cells #[.int .i64 0, .string (markB ls.length), .string ⟨#[]⟩] 48)
  have hk3 : Kb ((Value.slice ao fs.length cap).ownBlock.toList) w (w2.alloc (.cells #[.int .i64 0, .string (markB ls.length), .string ⟨#[]⟩] 48)) := (Kb.of_below hb2 _).alloc _
  have hl3 : (w2.alloc (.cells #[.int .i64 0, .string (markB ls.length), .string ⟨#[]⟩] 48)).ownsRow B 48 3 (.slice ao fs.length cap) fs.length (cellsF fs) := (own_below hl hb2).alloc _
  have hbx : ∀ g, ao = some ⟨g, 0, none⟩ → g < w2.heap.size := fun g hg => ((own_below hl hb2).lt g (by rw [hg]; rfl)).2
  have HX := hide hbx
  have hxn : some w2.heap.size ≠ (Value.slice ao fs.length cap).ownBlock := fun h => Nat.lt_irrefl _ ((own_below hl hb2).lt _ h.symm).2
  have HXN := hide hxn
  have hx0 : w.heap.size ≤ w2.heap.size := hb2.size
  generalize w2.heap.size = bx at *
  generalize w2.alloc (.cells #[.int .i64 0, .string (markB ls.length), .string ⟨#[]⟩] 48) = w3 at gx hk3 hl3 ⊢
  have hxl := lt_of_heap gx
  have HB := hide hB
  have HAP := hide hap
  have HL := hide hl
  clear hB hap hl hb2 c0 c1 c2 d0 d1 d2 hbx hxn
  go_loopw [5] (fun iv wr => ∃ i : Nat, iv = .int .i64 i ∧ KInv B w3 wr (.slice ao fs.length cap) fs (markF ls.length) i ∧ wr.heap[bx]? = some (.cells #[.int .i64 0, .string (markB ls.length), .string ⟨#[]⟩] 48 (0, 0))) (fun iv _ => fs.length - (intOf iv).toNat)
  case atStart => exact ⟨0, rfl, ⟨Nat.zero_le _, by simpa using hl3, Kb.refl _ _⟩, gx⟩
  case round =>
    obtain ⟨i, rfl, hi, gy⟩ := hrel
    obtain ⟨x0, x1, x2, _, _, _⟩ := res_cells gy
    by_cases hlt : i < fs.length
    · obtain ⟨g, rfl⟩ := hao (by omega)
      have hgx := HX.out g rfl
      have hko := hi.kb
      obtain ⟨f, hf⟩ : ∃ f, fs[i]? = some f := ⟨_, List.getElem?_eq_getElem hlt⟩
      have hdr : fs.drop i = f :: fs.drop (i + 1) := by
        rw [List.drop_eq_getElem_cons hlt]
        rw [List.getElem?_eq_getElem hlt] at hf
        injection hf with hf
        rw [hf]
      have hown := hi.own
      rw [hdr] at hown
      have hA : (List.replicate i (markF ls.length)).length = i := List.length_replicate
      obtain ⟨hc, hz⟩ := own_cell hown
      have e3 := cellsF_get (List.replicate i (markF ls.length) ++ f :: fs.drop (i + 1)) i f.k f.p f.q (by rw [List.getElem?_append_right (by rw [hA]; omega), hA, Nat.sub_self]; rfl)
      have a0 := hc _ _ e3.1
      have a1 := hc _ _ e3.2.1
      have a2 := hc _ _ e3.2.2
      have z0 := hz (i * 3)
      have z1 := hz (i * 3 + 1)
      have z2 := hz (i * 3 + 2)
      have ho' := own_set (own_set (own_set hown (i * 3) (.int .i64 0)) (i * 3 + 1) (.string (markB ls.length))) (i * 3 + 2) (.string ⟨#[]⟩)
      have e4 := set3F (List.replicate i (markF ls.length)) (fs.drop (i + 1)) f 0 (markB ls.length) ⟨#[]⟩
      rw [hA] at e4
      rw [e4, ← hmf] at ho'
      have HO := hide ho'
      clear ho' e4 hc hz e3 hown hdr hf
      go_wp2
      go_roundw
      case rel =>
        refine ⟨i + 1, by go_num, ⟨hlt, ?_, ((hko.setCell (p := ⟨g, _, none⟩) (.inl (by simp [Value.ownBlock])) _).setCell (p := ⟨g, _, none⟩) (.inl (by simp [Value.ownBlock])) _).setCell (p := ⟨g, _, none⟩) (.inl (by simp [Value.ownBlock])) _⟩, ?_⟩
        · rw [List.replicate_succ', List.append_assoc]
          exact HO.out
        · rw [Below.heap_setCell _ _ _ _ (by show bx ≠ g; omega), Below.heap_setCell _ _ _ _ (by show bx ≠ g; omega), Below.heap_setCell _ _ _ _ (by show bx ≠ g; omega)]
          exact gy
      case measure => simp [intOf]; omega
    · have hin : i = fs.length := by have := hi.le; omega
      subst hin
      have ho0 := hi.own
      rw [List.drop_length, List.append_nil, cellsF_rep, hmk] at ho0
      have hkw : Kb ((Value.slice ao fs.length cap).ownBlock.toList) w wr := hk3.trans (hi.kb.mono (fun _ _ h => h))
      have hk0 := hkw
      have gx0 := gy
      clear hi hk3 hl3 gx gy hkw
      go_wp2_with (first | (at_builtin; refine wpList_append_marks _ rfl _ _ 36 rfl B 48 i0 (.agg #[.int .i64 0, .string ⟨#[]⟩, .string ⟨#[]⟩]) 3 40 Tryz.underlying36 hi0 hz0 hz1 hz2 rfl (by decide) (.slice ao fs.length cap) fs.length [.int .i64 0, .string (markB ls.length), .string ⟨#[]⟩] rfl rfl (ho0.alloc _) ⟨wr.heap.size, 0, none⟩ 1 1 (by decide) rfl (cells_new _ _ _ _ rfl) ?c1 ?c2 ?c3 ?c4 ?_) | go_in)
      case c1 => intro u hu; simp at hu; rcases hu with rfl | rfl | rfl <;> rfl
      case c2 => unfold maxLen; omega
      case c3 => omega
      case c4 => have := hk0.size; simp; omega
      intro v1 w4 ho1 hg1 hk1 hn1
      obtain ⟨a1, p1, rfl, _⟩ := own_form ho1
      have hL1 := hk1 _ _ _ (ho0.alloc _)
      have hK1 : Kb ((Value.slice ao fs.length cap).ownBlock.toList) w w4 := (hk0.alloc _).grown hg1 (fun k hk => .inl (by rw [hk]; simp))
      have gx1 : w4.heap[bx]? = some (.cells #[.int .i64 0, .string (markB ls.length), .string ⟨#[]⟩] 48 (0, 0)) := (hg1.block bx (by have := lt_of_heap gx0; simp; omega) HXN.out).trans (heap_old gx0 _)
      have hn1' : (Value.slice a1 (fs.length + 1) p1).ownBlock = (Value.slice ao fs.length cap).ownBlock ∨ ∃ g, (Value.slice a1 (fs.length + 1) p1).ownBlock = some g ∧ w.heap.size ≤ g := by
        rcases hn1 with h | ⟨g, h, hle⟩
        · exact .inl h
        · exact .inr ⟨g, h, by have := hk0.size; omega⟩
      obtain ⟨y0, y1, y2, _, _, _⟩ := res_cells gx1
      have HL1 := hide hL1
      have HO1 := hide ho1
      have HN1 := hide hn1'
      clear ho1 hg1 hk1 hn1 hn1' x0 x1 x2 ho0
      go_wp2_with (first | (at_builtin; refine wpList_append_marks _ rfl _ _ 36 rfl B 48 i0 (.agg #[.int .i64 0, .string ⟨#[]⟩, .string ⟨#[]⟩]) 3 40 Tryz.underlying36 hi0 hz0 hz1 hz2 rfl (by decide) (.slice ao fs.length cap) fs.length [.int .i64 0, .string (markB ls.length), .string ⟨#[]⟩] rfl rfl (HL1.out.alloc _) ⟨w4.heap.size, 0, none⟩ 2 2 (by decide) rfl (cells_new _ _ _ _ rfl) ?c1 ?c2 ?c3 ?c4 ?_) | go_in)
      case c1 => intro u hu; simp at hu; rcases hu with rfl | rfl | rfl <;> rfl
      case c2 => unfold maxLen; omega
      case c3 => omega
      case c4 => have := hK1.size; simp; omega
      intro v2 w5 ho2 hg2 hk2 hn2
      obtain ⟨a2, p2, rfl, _⟩ := own_form ho2
      have hL2 := hk2 _ _ _ (HL1.out.alloc _)
      have hM2 := hk2 _ _ _ (HO1.out.alloc _)
      have hK2 : Kb ((Value.slice ao fs.length cap).ownBlock.toList) w w5 := (hK1.alloc _).grown hg2 (fun k hk => .inl (by rw [hk]; simp))
      have gx2 : w5.heap[bx]? = some (.cells #[.int .i64 0, .string (markB ls.length), .string ⟨#[]⟩] 48 (0, 0)) := (hg2.block bx (by have := lt_of_heap gx1; simp; omega) HXN.out).trans (heap_old gx1 _)
      have hn2' : (Value.slice a2 (fs.length + 2) p2).ownBlock = (Value.slice ao fs.length cap).ownBlock ∨ ∃ g, (Value.slice a2 (fs.length + 2) p2).ownBlock = some g ∧ w.heap.size ≤ g := by
        rcases hn2 with h | ⟨g, h, hle⟩
        · exact .inl h
        · exact .inr ⟨g, h, by have := hK1.size; omega⟩
      obtain ⟨x0, x1, x2, _, _, _⟩ := res_cells gx2
      have HL2 := hide hL2
      have HM2 := hide hM2
      have HO2 := hide ho2
      have HN2 := hide hn2'
      clear ho2 hg2 hk2 hn2 hn2' y0 y1 y2 hL1 hL2 hM2 HO1 HL1
      go_wp2_with (first | (at_builtin; refine wpList_append_marks _ rfl _ _ 36 rfl B 48 i0 (.agg #[.int .i64 0, .string ⟨#[]⟩, .string ⟨#[]⟩]) 3 40 Tryz.underlying36 hi0 hz0 hz1 hz2 rfl (by decide) (.slice ao fs.length cap) fs.length [.int .i64 0, .string (markB ls.length), .string ⟨#[]⟩] rfl rfl (HL2.out.alloc _) ⟨w5.heap.size, 0, none⟩ 3 3 (by decide) rfl (cells_new _ _ _ _ rfl) ?c1 ?c2 ?c3 ?c4 ?_) | go_in)
      case c1 => intro u hu; simp at hu; rcases hu with rfl | rfl | rfl <;> rfl
      case c2 => unfold maxLen; omega
      case c3 => omega
      case c4 => have := hK2.size; simp; omega
      intro v3 w6 ho3 hg3 hk3 hn3
      obtain ⟨a3, p3, rfl, _⟩ := own_form ho3
      have hL3 := hk3 _ _ _ (HL2.out.alloc _)
      have hM3 := hk3 _ _ _ (HM2.out.alloc _)
      have hN3 := hk3 _ _ _ (HO2.out.alloc _)
      have hK3 : Kb ((Value.slice ao fs.length cap).ownBlock.toList) w w6 := (hK2.alloc _).grown hg3 (fun k hk => .inl (by rw [hk]; simp))
      have hn3' : (Value.slice a3 (fs.length + 3) p3).ownBlock = (Value.slice ao fs.length cap).ownBlock ∨ ∃ g, (Value.slice a3 (fs.length + 3) p3).ownBlock = some g ∧ w.heap.size ≤ g := by
        rcases hn3 with h | ⟨g, h, hle⟩
        · exact .inl h
        · exact .inr ⟨g, h, by have := hK2.size; omega⟩
      have HL3 := hide hL3
      have HM3 := hide hM3
      have HR3 := hide hN3
      have HO3 := hide ho3
      have HN3 := hide hn3'
      have hnk : ∀ g ∈ (Value.slice ao fs.length cap).ownBlock.toList, kb ≠ g := by
        intro g hg he
        exact own_head HL.out HB.out.head (by decide) (by rw [he]; simpa using (Option.mem_toList.1 hg).symm)
      have hV : w6.ownsRow B 36 1 (.slice Va ls.length Vc) ls.length ls := own_kbL HB.out.row hK3 (fun g hg heq => by
        rcases own_ne HB.out.row HL.out (by decide) with h | h
        · rw [h] at heq; cases heq
        · exact h (heq.trans (Option.mem_toList.1 hg).symm))
      have hH : w6.heap[kb]? = some (.cells #[.slice Va ls.length Vc, .slice none 0 0, .slice none 0 0] 75 (0, 0)) := hK3.heap HB.out.head (fun hm => hnk kb hm rfl)
      have hLs : Hid (∀ (i : Nat) v, ls[i]? = some v → ∃ n, n ≤ 1000 ∧ w6.ownsRow B 48 3 v n (repC n (markC i))) := by
        intro i v hv
        obtain ⟨n, hn, ho⟩ := HB.out.lists i v hv
        refine ⟨n, hn, own_kbL ho hK3 (fun g hg heq => ?_)⟩
        rcases HAP.out v (List.mem_of_getElem? hv) with h | h
        · rw [h] at heq; cases heq
        · exact h (heq.trans (Option.mem_toList.1 hg).symm)
      have HV := hide hV
      have hkn := own_head HV.out hH (by decide)
      have HKN := hide hkn
      obtain ⟨c0, c1, c2, d0, d1, d2⟩ := res_cells hH
      clear ho3 hg3 hk3 hn3 hn3' hL3 hM3 hN3 x0 x1 x2 HL2 HM2 HO2 hV hkn hnk gx0 gx1 gx2 HX HXN
      go_wp2_with (first | (at_builtin; refine wpList_append_own _ rfl _ _ 72 rfl B 36 j0 (.slice none 0 0) 1 24 Tryz.underlying72 hj0 hy0 hy1 hy2 rfl (by decide) (.slice Va ls.length Vc) ls.length ls rfl (HV.out.alloc _) ⟨w6.heap.size, 0, none⟩ 4 4 [.slice ao fs.length cap, .slice a1 (fs.length + 1) p1, .slice a2 (fs.length + 2) p2, .slice a3 (fs.length + 3) p3] rfl rfl (cells_new _ _ _ _ rfl) ?c1 ?c2 ?c3 ?c4 ?_) | go_in)
      case c1 => intro u hu; simp at hu; rcases hu with rfl | rfl | rfl | rfl <;> rfl
      case c2 => unfold maxLen; omega
      case c3 => omega
      case c4 => have := hK3.size; simp; omega
      intro V' w7 hoV hgV _
      have hH7 : w7.heap[kb]? = some (.cells #[.slice Va ls.length Vc, .slice none 0 0, .slice none 0 0] 75 (0, 0)) := (hgV.block kb (by have := lt_of_heap hH; simp; omega) HKN.out).trans (heap_old hH _)
      clear c0 c1 c2 d0 d1 d2
      obtain ⟨c0, c1, c2, d0, d1, d2⟩ := res_cells hH7
      obtain ⟨aV, pV, rfl, _⟩ := own_form hoV
      have HOV := hide hoV
      have HGV := hide hgV
      clear hoV hgV
      go_wp2_with fail
      have hk7 : Kb [kb] w7 (w7.setCell ⟨kb, 0, none⟩ (.slice aV (ls.length + 4) pV)) := (Kb.refl _ _).setCell (.inl (by simp)) _
      have carry : ∀ v n xs, w6.ownsRow B 48 3 v n xs → (w7.setCell ⟨kb, 0, none⟩ (.slice aV (ls.length + 4) pV)).ownsRow B 48 3 v n xs := by
        intro v n xs h
        have h7 := (h.alloc _).kept HGV.out (own_ne h HV.out (by decide))
        refine own_kbL h7 hk7 (fun g hg heq => ?_)
        rw [List.mem_singleton.1 hg] at heq
        exact own_head h7 hH7 (by decide) heq.symm
      have hpos : ∀ r, r < 4 → markC (ls.length + r) = [.int .i64 0, .string (markB ls.length), .string ⟨#[]⟩] := by
        intro r hr
        rw [← hmk]
        unfold markC
        rw [show (ls.length + r) / 4 * 4 = ls.length / 4 * 4 by omega]
      refine bodyPost_end (v := .tuple #[]) (by simp [results, Tryz.results41, go_sem]) rfl ?_
      refine ⟨rfl, .slice aV (ls.length + 4) pV, .slice a1 (fs.length + 1) p1, .slice a2 (fs.length + 2) p2, .slice a3 (fs.length + 3) p3, ⟨hBk, ?_, ?_, ?_⟩, ?_, ?_⟩
      · rw [heap_set hH7]
        rfl
      · rw [List.length_append]
        refine own_kbL HOV.out hk7 (fun g hg heq => ?_)
        rw [List.mem_singleton.1 hg] at heq
        exact own_head HOV.out hH7 (by decide) heq.symm
      · intro i v hv
        by_cases hil : i < ls.length
        · rw [List.getElem?_append_left hil] at hv
          obtain ⟨n, hn, ho⟩ := hLs.out i v hv
          exact ⟨n, hn, carry _ _ _ ho⟩
        · rw [List.getElem?_append_right (by omega)] at hv
          obtain ⟨r, rfl⟩ : ∃ r, i = ls.length + r := ⟨i - ls.length, by omega⟩
          rw [Nat.add_sub_cancel_left] at hv
          match r, hv with
          | 0, hv => injection hv with hv; subst hv; exact ⟨fs.length, by omega, by rw [hpos 0 (by decide)]; exact carry _ _ _ HL3.out⟩
          | 1, hv => injection hv with hv; subst hv; exact ⟨(fs.length + 1), by omega, by rw [hpos 1 (by decide)]; exact carry _ _ _ HM3.out⟩
          | 2, hv => injection hv with hv; subst hv; exact ⟨(fs.length + 2), by omega, by rw [hpos 2 (by decide)]; exact carry _ _ _ HR3.out⟩
          | 3, hv => injection hv with hv; subst hv; exact ⟨(fs.length + 3), by omega, by rw [hpos 3 (by decide)]; exact carry _ _ _ HO3.out⟩
          | r + 4, hv => simp at hv
      · intro u hu
        simp at hu
        rcases hu with rfl | rfl | rfl
        · exact HN1.out
        · exact HN2.out
        · exact HN3.out
      · refine Kb.setCell ?_ (.inl (by simp [may])) _
        refine Kb.grown ((hK3.mono (fun k _ hk => ?_)).alloc _) HGV.out (fun k hk => .inl ?_)
        · simp only [may, List.mem_cons, List.mem_append]; exact .inr (.inr hk)
        · simp only [may, List.mem_cons, List.mem_append]; exact .inr (.inl (Option.mem_toList.2 hk))

theorem may_below {B kb : Nat} {ls : List Value} {V l : Value} {w w' : World} {n : Nat} {xs : List Value} (hk : Kb (may kb V l) w w') (hB : BookO B kb ls V w) (hl : w.ownsRow B 48 3 l n xs) : Below B w w' := by
  refine hk.below (Nat.le_trans hB.le (Nat.le_of_lt (lt_of_heap hB.head))) (fun k hm => ?_)
  simp only [may, List.mem_cons, List.mem_append, Option.mem_toList] at hm
  rcases hm with rfl | h | h
  · exact hB.le
  · exact (hB.row.lt k h).1
  · exact (hl.lt k h).1

/-- A block of another kind is none of those. -/
theorem may_not {B kb b : Nat} {ls : List Value} {V l : Value} {w : World} {n : Nat} {xs : List Value} {c : Array Value} {T : TypeId} {fz : Nat × Nat} (hB : BookO B kb ls V w) (hl : w.ownsRow B 48 3 l n xs)
    (hb : w.heap[b]? = some (.cells c T fz)) (h1 : 75 ≠ T) (h2 : 36 ≠ T) (h3 : 48 ≠ T) : b ∉ may kb V l := by
  intro hm
  simp only [may, List.mem_cons, List.mem_append, Option.mem_toList] at hm
  rcases hm with rfl | h | h
  · have := hB.head
    rw [hb] at this
    injection this with this
    injection this with _ this
    exact h1 this.symm
  · exact own_head hB.row hb h2 h.symm
  · exact own_head hl hb h3 h.symm

theorem BookO.below {B kb : Nat} {ls : List Value} {V : Value} {w w' : World} (h : BookO B kb ls V w) (hb : Below w.heap.size w w') : BookO B kb ls V w' :=
  ⟨h.le, Below.heapAt hb h.head (lt_of_heap h.head), own_below h.row hb, fun i v hv => by
    obtain ⟨n, hn, ho⟩ := h.lists i v hv
    exact ⟨n, hn, own_below ho hb⟩⟩

end Go.Proofs.YtiamlbhkiehilaaGreatDoor

namespace Go.Proofs.YtiamlbhkiehilaaGreatDoor
open Go.RowKit Go.Maps

/-- The first place from k on where c stands, or the end. -/
def stopN (s : ByteArray) (c : Int) : Nat → Nat → Nat
  | 0, k => k
  | f + 1, k => if byteAt s k = c then k else stopN s c f (k + 1)
def stop (s : ByteArray) (c : Int) (k : Nat) : Nat := stopN s c (s.size - k) k

theorem stop_end {s : ByteArray} {c : Int} {k : Nat} (h : s.size ≤ k) : stop s c k = k := by
  unfold stop
  rw [Nat.sub_eq_zero_of_le h]
  rfl
theorem stop_yes {s : ByteArray} {c : Int} {k : Nat} (h : k < s.size) (hp : (s[k].toNat : Int) = c) : stop s c k = k := by
  unfold stop
  obtain ⟨f, hf⟩ : ∃ f, s.size - k = f + 1 := ⟨s.size - k - 1, by omega⟩
  rw [hf]
  simp [stopN, byteAt_lt h, hp]
theorem stop_no {s : ByteArray} {c : Int} {k : Nat} (h : k < s.size) (hp : (s[k].toNat : Int) ≠ c) : stop s c k = stop s c (k + 1) := by
  unfold stop
  obtain ⟨f, hf⟩ : ∃ f, s.size - k = f + 1 := ⟨s.size - k - 1, by omega⟩
  have hf2 : s.size - (k + 1) = f := by omega
  rw [hf, hf2]
  simp [stopN, byteAt_lt h, hp]
theorem stopN_ge (s : ByteArray) (c : Int) (f k : Nat) : k ≤ stopN s c f k := by
  induction f generalizing k with
  | zero => exact Nat.le_refl _
  | succ f ih =>
    unfold stopN
    split
    · exact Nat.le_refl _
    · have := ih (k + 1); omega
theorem stop_ge (s : ByteArray) (c : Int) (k : Nat) : k ≤ stop s c k := stopN_ge _ _ _ _
theorem stopN_le (s : ByteArray) (c : Int) (f k : Nat) : stopN s c f k ≤ k + f := by
  induction f generalizing k with
  | zero => exact Nat.le_refl _
  | succ f ih =>
    unfold stopN
    split
    · omega
    · have := ih (k + 1); omega
theorem stop_le {s : ByteArray} {c : Int} {k : Nat} (h : k ≤ s.size) : stop s c k ≤ s.size := by
  have := stopN_le s c (s.size - k) k
  unfold stop
  omega
theorem stopN_before (s : ByteArray) (c : Int) (f k : Nat) : ∀ j, k ≤ j → j < stopN s c f k → byteAt s j ≠ c := by
  induction f generalizing k with
  | zero => intro j h1 h2; simp only [stopN] at h2; omega
  | succ f ih =>
    intro j h1 h2
    unfold stopN at h2
    split at h2
    · omega
    · rename_i hne
      by_cases e : j = k
      · subst e; exact hne
      · exact ih (k + 1) j (by omega) h2
theorem stop_before {s : ByteArray} {c : Int} {k j : Nat} (h1 : k ≤ j) (h2 : j < stop s c k) : byteAt s j ≠ c := stopN_before _ _ _ _ j h1 h2
theorem stopN_at (s : ByteArray) (c : Int) (f k : Nat) (h : stopN s c f k < k + f) : byteAt s (stopN s c f k) = c := by
  induction f generalizing k with
  | zero => simp only [stopN] at h; omega
  | succ f ih =>
    unfold stopN at h ⊢
    split
    · assumption
    · rename_i hne
      rw [if_neg hne] at h
      exact ih (k + 1) (by omega)
theorem stop_at {s : ByteArray} {c : Int} {k : Nat} (hk : k ≤ s.size) (h : stop s c k < s.size) : byteAt s (stop s c k) = c := by
  unfold stop at h ⊢
  exact stopN_at _ _ _ _ (by omega)

/-- What stands behind blanks. -/
def tosN (s : ByteArray) : Nat → Nat → List ByteArray
  | 0, _ => []
  | f + 1, i => if s.size ≤ i then [] else s.extract (i + 1) (stop s 32 (i + 1)) :: tosN s f (stop s 32 (i + 1))
def tosR (s : ByteArray) (i : Nat) : List ByteArray := tosN s (s.size - i) i

theorem tosN_end (s : ByteArray) (f i : Nat) (h : s.size ≤ i) : tosN s f i = [] := by
  cases f with
  | zero => rfl
  | succ f => simp only [tosN, if_pos h]
theorem tosN_fuel (s : ByteArray) (f g i : Nat) (hf : s.size - i ≤ f) (hg : s.size - i ≤ g) : tosN s f i = tosN s g i := by
  induction f generalizing g i with
  | zero => rw [tosN_end s 0 i (by omega), tosN_end s g i (by omega)]
  | succ f ih =>
    by_cases h : s.size ≤ i
    · rw [tosN_end s _ i h, tosN_end s _ i h]
    · obtain ⟨g, rfl⟩ : ∃ g', g = g' + 1 := ⟨g - 1, by omega⟩
      have hn := stop_ge s 32 (i + 1)
      unfold tosN
      rw [ih g (stop s 32 (i + 1)) (by omega) (by omega)]
theorem tosR_end {s : ByteArray} {i : Nat} (h : s.size ≤ i) : tosR s i = [] := tosN_end _ _ _ h
theorem tosR_step {s : ByteArray} {i : Nat} (h : i < s.size) : tosR s i = s.extract (i + 1) (stop s 32 (i + 1)) :: tosR s (stop s 32 (i + 1)) := by
  obtain ⟨f, hf⟩ : ∃ f, s.size - i = f + 1 := ⟨s.size - i - 1, by omega⟩
  have hn := stop_ge s 32 (i + 1)
  have e1 : tosR s (stop s 32 (i + 1)) = tosN s f (stop s 32 (i + 1)) := tosN_fuel _ _ _ _ (by omega) (by omega)
  rw [e1]
  unfold tosR
  rw [hf]
  simp only [tosN]
  rw [if_neg (by omega)]

/-- A line as a row, by the document's cut at the first colon and at blanks. -/
def refRow (s : ByteArray) : Option RowD :=
  if s.size ≤ stop s 58 0 then none
  else if s.size ≤ stop s 58 0 + 1 ∨ byteAt s (stop s 58 0 + 1) = 32 then some ⟨s.extract 0 (stop s 58 0), tosR s (stop s 58 0 + 1)⟩
  else none

/-- A line as a row of names. -/
def lineRow (s : ByteArray) : Option RowD :=
  match refRow s with
  | some r => if rowNames r = true then some r else none
  | none => none

/-- What stands behind blanks, by the machine: names alone. -/
def gapN (s : ByteArray) : Nat → Nat → List ByteArray → Option (List ByteArray)
  | 0, _, out => some out
  | f + 1, i, out =>
    if s.size ≤ i then some out
    else if byteAt s i = 32 ∧ startB (byteAt s (i + 1)) = true then gapN s f (nEnd s (i + 2)) (out ++ [s.extract (i + 1) (nEnd s (i + 2))])
    else none
def gapR (s : ByteArray) (i : Nat) (out : List ByteArray) : Option (List ByteArray) := gapN s (s.size - i) i out

theorem gapN_end (s : ByteArray) (f i : Nat) (out : List ByteArray) (h : s.size ≤ i) : gapN s f i out = some out := by
  cases f with
  | zero => rfl
  | succ f => simp only [gapN, if_pos h]
theorem gapN_fuel (s : ByteArray) (f g i : Nat) (out : List ByteArray) (hf : s.size - i ≤ f) (hg : s.size - i ≤ g) : gapN s f i out = gapN s g i out := by
  induction f generalizing g i out with
  | zero => rw [gapN_end s 0 i out (by omega), gapN_end s g i out (by omega)]
  | succ f ih =>
    by_cases h : s.size ≤ i
    · rw [gapN_end s _ i out h, gapN_end s _ i out h]
    · obtain ⟨g, rfl⟩ : ∃ g', g = g' + 1 := ⟨g - 1, by omega⟩
      have hn := nEnd_ge s (i + 2)
      unfold gapN
      rw [ih g (nEnd s (i + 2)) _ (by omega) (by omega)]
theorem gapR_end {s : ByteArray} {i : Nat} {out : List ByteArray} (h : s.size ≤ i) : gapR s i out = some out := gapN_end _ _ _ _ h
theorem gapR_step {s : ByteArray} {i : Nat} {out : List ByteArray} (h : i < s.size) : gapR s i out =
    if byteAt s i = 32 ∧ startB (byteAt s (i + 1)) = true then gapR s (nEnd s (i + 2)) (out ++ [s.extract (i + 1) (nEnd s (i + 2))]) else none := by
  obtain ⟨f, hf⟩ : ∃ f, s.size - i = f + 1 := ⟨s.size - i - 1, by omega⟩
  have hn := nEnd_ge s (i + 2)
  have e1 : ∀ o, gapR s (nEnd s (i + 2)) o = gapN s f (nEnd s (i + 2)) o := fun o => gapN_fuel _ _ _ _ _ (by omega) (by omega)
  rw [e1]
  unfold gapR
  rw [hf]
  simp only [gapN]
  rw [if_neg (by omega)]

/-- A line as a row of names, by the machine. -/
def macRow (s : ByteArray) : Option RowD :=
  if startB (byteAt s 0) = true ∧ byteAt s (nEnd s 1) = 58 then (gapR s (nEnd s 1 + 1) []).map (fun t => ⟨s.extract 0 (nEnd s 1), t⟩) else none

theorem byteAt_ge {s : ByteArray} {k : Nat} (h : s.size ≤ k) : byteAt s k = 0 := by
  unfold byteAt
  rw [dif_neg (by omega)]

theorem lt_of_byte {s : ByteArray} {k : Nat} {p : Int → Prop} (h : p (byteAt s k)) (h0 : ¬ p 0) : k < s.size := by
  by_cases hk : k < s.size
  · exact hk
  · rw [byteAt_ge (by omega)] at h
    exact absurd h h0

theorem start_lt {s : ByteArray} {k : Nat} (h : startB (byteAt s k) = true) : k < s.size := lt_of_byte (p := fun c => startB c = true) h (by decide)

/-- When a piece is a name. -/
theorem isN_extract (s : ByteArray) (a k : Nat) (hk : k ≤ s.size) : isN (s.extract a k) = true ↔ a < k ∧ startB (byteAt s a) = true ∧ ∀ j, a < j → j < k → partB (byteAt s j) = true := by
  by_cases hak : a < k
  · have e : (s.extract a k).data.toList = s[a] :: (s.data.toList.drop (a + 1)).take (k - (a + 1)) := by
      rw [ByteArray.data_extract, Array.toList_extract, List.extract_eq_take_drop, List.drop_eq_getElem_cons (by simp; omega)]
      have e2 : k - a = (k - (a + 1)) + 1 := by omega
      rw [e2, List.take_succ_cons]
      rfl
    unfold isN
    rw [e]
    simp only [nameB, Bool.and_eq_true, partsB, List.all_eq_true]
    rw [byteAt_lt (show a < s.size by omega)]
    constructor
    · rintro ⟨h1, h2⟩
      refine ⟨hak, h1, fun j hj1 hj2 => ?_⟩
      rw [byteAt_lt (show j < s.size by omega)]
      refine h2 s[j] ?_
      refine List.mem_iff_getElem.2 ⟨j - (a + 1), by simp; omega, ?_⟩
      simp only [List.getElem_take, List.getElem_drop, Array.getElem_toList]
      have : a + 1 + (j - (a + 1)) = j := by omega
      simp only [this]
      rfl
    · rintro ⟨_, h1, h2⟩
      refine ⟨h1, fun c hc => ?_⟩
      obtain ⟨j, hj, hje⟩ := List.mem_iff_getElem.1 hc
      simp at hj
      have := h2 (a + 1 + j) (by omega) (by omega)
      rw [byteAt_lt (show a + 1 + j < s.size by omega)] at this
      have e3 : c = s[a + 1 + j] := by
        rw [← hje]
        simp
        rfl
      rw [e3]
      exact this
  · constructor
    · intro h
      exfalso
      have hz : (s.extract a k).size = 0 := by rw [ByteArray.size_extract]; omega
      have := nameB_empty _ hz
      unfold isN at h
      rw [this] at h
      cases h
    · rintro ⟨h, _⟩
      exact absurd h hak

theorem nEnd_part {s : ByteArray} {k j : Nat} (hk : k ≤ s.size) (h1 : k ≤ j) (h2 : j < nEnd s k) : partB (byteAt s j) = true := nEnd_parts s (s.size - k) k (by omega) j h1 h2

theorem nEnd_eq {s : ByteArray} {a k : Nat} (hak : a ≤ k) (hk : k ≤ s.size) (hp : ∀ j, a ≤ j → j < k → partB (byteAt s j) = true) (he : partB (byteAt s k) = false) : nEnd s a = k := by
  induction hd : k - a generalizing a with
  | zero =>
    have : a = k := by omega
    subst this
    by_cases hlt : a < s.size
    · exact nEnd_no hlt (by rw [← byteAt_lt hlt]; exact he)
    · exact nEnd_end (by omega)
  | succ d ih =>
    have h1 := hp a (Nat.le_refl _) (by omega)
    rw [byteAt_lt (show a < s.size by omega)] at h1
    rw [nEnd_yes (by omega) h1]
    exact ih (by omega) (fun j h1 h2 => hp j (by omega) h2) (by omega)

theorem nEnd_stop {s : ByteArray} {a : Nat} (h : a ≤ s.size) : partB (byteAt s (nEnd s a)) = false := by
  induction hd : s.size - a generalizing a with
  | zero => rw [nEnd_end (by omega), byteAt_ge (by omega)]; decide
  | succ d ih =>
    cases hp : partB (s[a].toNat : Int)
    · rw [nEnd_no (by omega) hp, byteAt_lt (by omega)]; exact hp
    · rw [nEnd_yes (by omega) hp]
      exact ih (by omega) (by omega)

/-- A piece up to a sign that no name holds is a name just where the machine finds its end there. -/
theorem piece_name {s : ByteArray} {c : Int} (hc : partB c = false) {a : Nat} (ha : a ≤ s.size) : isN (s.extract a (stop s c a)) = true ↔ startB (byteAt s a) = true ∧ nEnd s (a + 1) = stop s c a := by
  have hge := stop_ge s c a
  have hle := stop_le (c := c) ha
  have hend : partB (byteAt s (stop s c a)) = false := by
    by_cases h : stop s c a < s.size
    · rw [stop_at ha h]; exact hc
    · rw [byteAt_ge (by omega)]; decide
  rw [isN_extract _ _ _ hle]
  constructor
  · rintro ⟨h1, h2, h3⟩
    exact ⟨h2, nEnd_eq (by omega) hle (fun j hj1 hj2 => h3 j (by omega) hj2) hend⟩
  · rintro ⟨h1, h2⟩
    have hlt := start_lt h1
    have h3 := nEnd_ge s (a + 1)
    exact ⟨by omega, h1, fun j hj1 hj2 => nEnd_part (k := a + 1) (by omega) (by omega) (by omega)⟩

/-- Where the machine's end falls short of the sign, no sign stands there. -/
theorem piece_short {s : ByteArray} {c : Int} (hc : partB c = false) {a : Nat} (ha : a < s.size) (hs : startB (byteAt s a) = true) (hne : nEnd s (a + 1) ≠ stop s c a) : nEnd s (a + 1) < stop s c a ∧ byteAt s (nEnd s (a + 1)) ≠ c := by
  have hge := stop_ge s c a
  have hle := stop_le (c := c) (k := a) (by omega : a ≤ s.size)
  have h3 := nEnd_ge s (a + 1)
  have h4 := nEnd_le (s := s) (k := a + 1) ha
  have hlt : nEnd s (a + 1) < stop s c a := by
    rcases Nat.lt_or_ge (nEnd s (a + 1)) (stop s c a) with h | h
    · exact h
    · exfalso
      have h5 : stop s c a < nEnd s (a + 1) := by omega
      have h6 := stop_at (c := c) (k := a) (s := s) (by omega) (by omega)
      by_cases e : stop s c a = a
      · rw [e] at h6
        rw [h6] at hs
        rw [part_of_start hs] at hc
        cases hc
      · have := nEnd_part (s := s) (k := a + 1) (by omega) (by omega) h5
        rw [h6, hc] at this
        cases this
  exact ⟨hlt, stop_before (by omega) hlt⟩

theorem gap_tos (s : ByteArray) : ∀ (d i : Nat) (out : List ByteArray), s.size - i = d → i ≤ s.size → (i < s.size → byteAt s i = 32) →
    gapR s i out = if (tosR s i).all isN = true then some (out ++ tosR s i) else none := by
  intro d
  induction d using Nat.strongRecOn with
  | _ d ih =>
    intro i out hd hi hb
    by_cases hlt : i < s.size
    · rw [gapR_step hlt, tosR_step hlt]
      have hb := hb hlt
      have hge := stop_ge s 32 (i + 1)
      have hle := stop_le (s := s) (c := 32) (k := i + 1) hlt
      have hpn := piece_name (s := s) (c := 32) (by decide) (a := i + 1) hlt
      by_cases hs : startB (byteAt s (i + 1)) = true
      · rw [if_pos ⟨hb, hs⟩]
        have hlt1 := start_lt hs
        by_cases he : nEnd s (i + 1 + 1) = stop s 32 (i + 1)
        · have hn := hpn.2 ⟨hs, he⟩
          rw [show i + 2 = i + 1 + 1 from rfl, he, ih (s.size - stop s 32 (i + 1)) (by omega) _ _ rfl hle (fun h => stop_at hlt h)]
          simp only [List.all_cons, hn, Bool.true_and, List.append_assoc, List.cons_append, List.nil_append]
        · have hn : isN (s.extract (i + 1) (stop s 32 (i + 1))) = false := by
            rw [Bool.eq_false_iff]
            intro h
            exact he (hpn.1 h).2
          obtain ⟨h1, h2⟩ := piece_short (c := 32) (by decide) hlt1 hs he
          rw [show i + 2 = i + 1 + 1 from rfl, gapR_step (by omega), if_neg (fun h => h2 h.1)]
          simp [hn]
      · rw [if_neg (fun h => hs h.2)]
        have hn : isN (s.extract (i + 1) (stop s 32 (i + 1))) = false := by
          rw [Bool.eq_false_iff]
          intro h
          exact hs (hpn.1 h).1
        simp [hn]
    · rw [gapR_end (by omega), tosR_end (by omega)]
      simp

theorem mac_line (s : ByteArray) : macRow s = lineRow s := by
  unfold macRow lineRow refRow
  have hge := stop_ge s 58 0
  have hle := stop_le (s := s) (c := 58) (k := 0) (Nat.zero_le _)
  have hpn := piece_name (s := s) (c := 58) (by decide) (a := 0) (Nat.zero_le _)
  by_cases hs : startB (byteAt s 0) = true
  · have hlt := start_lt hs
    by_cases he : nEnd s (0 + 1) = stop s 58 0
    · have hn := hpn.2 ⟨hs, he⟩
      have he' : nEnd s 1 = stop s 58 0 := he
      rw [he']
      by_cases hend : s.size ≤ stop s 58 0
      · rw [if_neg (fun h => by rw [byteAt_ge hend] at h; exact absurd h.2 (by decide)), if_pos hend]
      · rw [if_neg hend, if_pos ⟨hs, stop_at (Nat.zero_le _) (by omega)⟩]
        by_cases hb : s.size ≤ stop s 58 0 + 1 ∨ byteAt s (stop s 58 0 + 1) = 32
        · rw [if_pos hb, gap_tos s _ (stop s 58 0 + 1) [] rfl (by omega) (fun h => by
            rcases hb with hb | hb
            · omega
            · exact hb)]
          simp only [rowNames, hn, Bool.true_and, List.nil_append]
          split <;> rfl
        · rw [if_neg hb]
          obtain ⟨hb1, hb2⟩ := not_or.1 hb
          rw [gapR_step (by omega), if_neg (fun h => hb2 h.1)]
          rfl
    · obtain ⟨h1, h2⟩ := piece_short (c := 58) (by decide) hlt hs he
      have hn : isN (s.extract 0 (stop s 58 0)) = false := by
        rw [Bool.eq_false_iff]
        intro h
        exact he (hpn.1 h).2
      rw [if_neg (fun h => h2 h.2)]
      split
      · rename_i r hr
        split at hr
        · cases hr
        · split at hr
          · injection hr with hr
            rw [← hr]
            simp [rowNames, hn]
          · cases hr
      · rfl
  · have hn : isN (s.extract 0 (stop s 58 0)) = false := by
      rw [Bool.eq_false_iff]
      intro h
      exact hs (hpn.1 h).1
    rw [if_neg (fun h => hs h.1)]
    split
    · rename_i r hr
      split at hr
      · cases hr
      · split at hr
        · injection hr with hr
          rw [← hr]
          simp [rowNames, hn]
        · cases hr
    · rfl

/-- The error of a line behind a name. -/
def lineErr (s ahead : ByteArray) : Int :=
  match lineRow s with
  | some r => chk true r ahead
  | none => 4

/-- What Read answers of the rest of the lines, behind n of them and the rows that they are; nothing stands in the last. -/
def readGo : List RowD → ByteArray → Nat → List ByteArray → List RowD × Int × Int
  | pre, _, _, [] => (pre, 0, 0)
  | pre, _, n, [l] => if l.size = 0 then (pre, 0, 0) else ([], 4, (n : Int) + 1)
  | pre, last, n, l :: l' :: r =>
    match lineRow l with
    | none => ([], 4, (n : Int) + 1)
    | some x => if chk true x last = 0 then readGo (pre ++ [x]) x.name (n + 1) (l' :: r) else ([], chk true x last, (n : Int) + 1)

def readB (s : ByteArray) : List RowD × Int × Int := if 25000 < s.size then ([], 2, 0) else readGo [] noB 0 (linesB s)

end Go.Proofs.YtiamlbhkiehilaaGreatDoor
