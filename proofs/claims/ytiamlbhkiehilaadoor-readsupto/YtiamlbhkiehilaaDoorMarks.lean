import Derived.ArgAppend
import Derived.Laws.AppendOwn
namespace Go.Proofs.YtiamlbhkiehilaaDoor
open Go

/-- The cells of one thing, n times. -/
def repC (n : Nat) (xs : List Value) : List Value := (List.replicate n xs).flatten

theorem repC_succ (n : Nat) (xs : List Value) : repC (n + 1) xs = xs ++ repC n xs := by
  simp [repC, List.replicate_succ]

theorem repC_length (n : Nat) (xs : List Value) : (repC n xs).length = n * xs.length := by
  induction n with
  | zero => simp [repC]
  | succ n ih => rw [repC_succ, List.length_append, ih, Nat.succ_mul]; omega

theorem repC_add (n m : Nat) (xs : List Value) : repC n xs ++ repC m xs = repC (n + m) xs := by
  simp [repC, ← List.flatten_append, List.replicate_append_replicate]

theorem repC_get (n : Nat) (xs : List Value) : ∀ j, j < n * xs.length → (repC n xs)[j]? = xs[j % xs.length]? := by
  induction n with
  | zero => intro j h; simp at h
  | succ n ih =>
    intro j h
    rw [repC_succ]
    by_cases hj : j < xs.length
    · rw [List.getElem?_append_left hj, Nat.mod_eq_of_lt hj]
    · rw [Nat.succ_mul] at h
      rw [List.getElem?_append_right (by omega), ih (j - xs.length) (by omega)]
      congr 1
      exact (Nat.mod_eq_sub_mod (by omega)).symm

theorem repC_mem {n : Nat} {xs : List Value} {u : Value} (h : u ∈ repC n xs) : u ∈ xs := by
  simp only [repC, List.mem_flatten] at h
  obtain ⟨l, hl, hu⟩ := h
  rw [(List.mem_replicate.1 hl).2] at hu
  exact hu

section
variable {P : Program} (w : World)

/-- Things of one kind put behind a list of such things, whose owner has it still: where there is room, what was written there reads as all the rest. -/
theorem run_append_marks (base : Nat) (t ty e : TypeId) (i : TypeInfo) (z : Value) (size bytes : Nat) (ht : P.underlying t = some (.slice e)) (hi : P.info? e = some i) (hz : i.zero = some z)
    (hsize : i.size = size) (hby : i.bytes = bytes) (hzs : z.cells.size = size) (hsz : 0 < size)
    (v : Value) (n : Nat) (xs : List Value) (hxl : xs.length = size) (hown : w.ownsRow base e size v n (repC n xs))
    (a : Addr) (m c : Nat) (hm0 : 0 < m) (hnews : ∀ j u, (repC m xs)[j]? = some u → w.cell? (a.add j) = some u) (h1 : ∀ u ∈ xs, u.oneCell' = true)
    (h63 : n + m ≤ maxLen) (hbytes : (n + m) * bytes ≤ 140737488355328) (hbase : base ≤ w.heap.size) :
    ∃ v' w', (Builtin.append_ #[t, t] ty #[v, .slice (some a) m c]).run P w = .ok v' w' ∧ w'.ownsRow base e size v' (n + m) (repC (n + m) xs) ∧ w.grownBy w' v.ownBlock ∧
      (∀ B u k, w.ownsRow B e size u k (repC k xs) → w'.ownsRow B e size u k (repC k xs)) ∧ (v'.ownBlock = v.ownBlock ∨ ∃ g, v'.ownBlock = some g ∧ w.heap.size ≤ g) := by
  subst hsize
  subst hby
  have h1' : ∀ u ∈ repC m xs, u.oneCell' = true := fun u hu => h1 u (repC_mem hu)
  have hl : (repC m xs).length = m * i.size := by rw [repC_length, hxl]
  have hsmall : n + m ≤ 9223372036854775807 := by simp only [maxLen] at h63; omega
  have hlen : (repC n xs ++ repC m xs).length = (n + m) * i.size := by rw [List.length_append, hown.1, hl, Nat.add_mul]
  have grown : ∀ (old : Nat), old < n + m → ∀ (row : Option Nat),
      (w.drew.alloc (.cells ((repC n xs).toArray ++ (repC m xs).toArray ++ Builtin.zeroCells z.cells (grownCap w (n + m) old e - (n + m))) e)).ownsRow base e i.size
        (.slice (some ⟨w.heap.size, 0, none⟩) (n + m) (grownCap w (n + m) old e)) (n + m) (repC (n + m) xs) ∧
      w.grownBy (w.drew.alloc (.cells ((repC n xs).toArray ++ (repC m xs).toArray ++ Builtin.zeroCells z.cells (grownCap w (n + m) old e - (n + m))) e)) row := by
    intro old ho row
    have hge := grownCap_ge w (n + m) old e
    have hcm : grownCap w (n + m) old e ≤ maxLen := grownCap_le_maxLen w (n + m) old e h63
    refine ⟨⟨by rw [repC_length, hxl], .inr ⟨w.heap.size, _, _, rfl, hbase, heap_alloc_new w.drew _, hge, hcm, ?_, ?_⟩⟩, ⟨rfl, rfl, rfl, by simp, fun k hk _ => heap_alloc_old w.drew _ k hk⟩⟩
    · simp only [Array.size_append, List.size_toArray, size_zeroCells, hzs, hown.1, hl, ← Nat.add_mul]
      congr 1
      omega
    · simp only [Array.toList_append]
      rw [← hlen, repC_add]
      exact List.take_left
  rcases hown.2 with ⟨rfl, rfl⟩ | ⟨g, cap, cur, rfl, hbg, hg, hnc, hcm, hcs, htake⟩
  · have hr := run_append_nil (P := P) w t ty e i z ht hi hz a m c (repC m xs) hl hnews (by omega) (by omega) (by have hb := hbytes; simp only [Nat.zero_add] at hb; omega)
    have hgr := grown 0 (by omega) (Value.ownBlock (.slice none 0 0))
    have h0 : repC 0 xs = [] := rfl
    rw [h0] at hgr
    simp only [Nat.zero_add, Array.empty_append] at hgr ⊢
    exact ⟨_, _, hr, hgr.1, hgr.2, fun B u k hu => hu.kept hgr.2 (by cases hv : u.ownBlock <;> simp [Value.ownBlock]), .inr ⟨w.heap.size, rfl, Nat.le_refl _⟩⟩
  · by_cases hroom : n + m ≤ cap
    · have hfit : n * i.size + (repC m xs).length ≤ cur.size := by rw [hl, hcs, ← Nat.add_mul]; exact Nat.mul_le_mul_right _ hroom
      have hr := run_append_room (P := P) w t ty e i ht hi g n cap cur hg a m c (repC m xs) hl hnews h1' hroom hfit
      have hsz' : (cur.toList.take (n * i.size) ++ repC m xs ++ cur.toList.drop (n * i.size + (repC m xs).length)).toArray.size = cap * i.size := by
        simp only [List.size_toArray, List.length_append, List.length_take, List.length_drop, Array.length_toList (xs := cur)]
        omega
      have hgb : w.grownBy (w.setRow g (cur.toList.take (n * i.size) ++ repC m xs ++ cur.toList.drop (n * i.size + (repC m xs).length)).toArray) (some g) :=
        ⟨rfl, rfl, rfl, by simp, fun k _ hk => setRow_other w g k _ (fun e => hk (by rw [e]))⟩
      refine ⟨_, _, hr, ⟨by rw [repC_length, hxl], .inr ⟨g, cap, _, rfl, hbg, setRow_heap w g cur _ e _ hg, hroom, hcm, hsz', ?_⟩⟩, hgb, ?_, .inl rfl⟩
      · rw [htake, ← repC_add, ← hlen]
        exact List.take_left
      · intro B u k hu
        by_cases hub : u.ownBlock = some g
        · refine ⟨hu.1, ?_⟩
          rcases hu.2 with ⟨rfl, _⟩ | ⟨g', cap', cur', rfl, hb', hg', hk', hm', hs', ht'⟩
          · cases hub
          · simp only [Value.ownBlock, Option.some.injEq] at hub
            subst hub
            rw [hg] at hg'
            injection hg' with hg'
            injection hg' with hg'
            subst hg'
            refine .inr ⟨g', cap', _, rfl, hb', setRow_heap w g' cur _ e _ hg, hk', hm', by rw [hsz', ← hcs, hs'], ?_⟩
            have hmul : k * i.size ≤ cap' * i.size := Nat.mul_le_mul_right _ hk'
            refine List.ext_getElem? fun j => ?_
            rw [List.getElem?_take]
            split
            · rename_i hj
              have hR : (repC k xs)[j]? = xs[j % i.size]? := by rw [repC_get k xs j (by rw [hxl]; exact hj), hxl]
              rw [hR]
              by_cases hjn : j < n * i.size
              · rw [List.append_assoc, List.getElem?_append_left (by rw [List.length_take, Array.length_toList (xs := cur)]; omega), htake, repC_get n xs j (by rw [hxl]; exact hjn), hxl]
              · by_cases hjm : j < n * i.size + m * i.size
                · rw [List.getElem?_append_left (by rw [List.length_append, List.length_take, Array.length_toList (xs := cur), hl]; omega), List.getElem?_append_right (by rw [List.length_take, Array.length_toList (xs := cur)]; omega), List.length_take, Array.length_toList (xs := cur), Nat.min_eq_left (by omega), repC_get m xs _ (by rw [hxl]; omega), hxl]
                  congr 1
                  have hjj : (j - n * i.size + n * i.size) % i.size = (j - n * i.size) % i.size := Nat.add_mul_mod_self_right _ _ _
                  rw [Nat.sub_add_cancel (by omega)] at hjj
                  exact hjj.symm
                · rw [List.getElem?_append_right (by rw [List.length_append, List.length_take, Array.length_toList (xs := cur), hl]; omega), List.length_append, List.length_take, Array.length_toList (xs := cur), hl, List.getElem?_drop, ← hR, ← ht', List.getElem?_take, if_pos hj]
                  congr 1
                  omega
            · rename_i hj
              rw [List.getElem?_eq_none]
              rw [repC_length, hxl]; omega
        · exact hu.kept hgb (.inr hub)
    · have holds : ∀ j u, (repC n xs)[j]? = some u → w.cell? ((⟨g, 0, none⟩ : Addr).add j) = some u := hown.cells (g := g) rfl
      have hr := run_append_grow (P := P) w t ty e i z ht hi hz ⟨g, 0, none⟩ n cap (repC n xs) hown.1 holds a m c (repC m xs) hl hnews (by omega) (by omega) (growslice_fits (by omega) hbytes)
      have hgr := grown cap (by omega) (Value.ownBlock (.slice (some ⟨g, 0, none⟩) n cap))
      have hgn := (grown cap (by omega) none).2
      exact ⟨_, _, hr, hgr.1, hgr.2, fun B u k hu => hu.kept hgn (by cases hv : u.ownBlock <;> simp), .inr ⟨w.heap.size, rfl, Nat.le_refl _⟩⟩

theorem wpList_append_marks {ops : Array Oper} {rest : List Oper} {o : Oper} {a : Act} {Q : Exit → Act → World → Prop} (hgd : o.guard = none) (s x : Operand) (t : TypeId)
    (ho : o.op = .call { callee := .builtin .append, args := #[s, x], argTypes := #[t, t] })
    (base : Nat) (e : TypeId) (i : TypeInfo) (z : Value) (size bytes : Nat) (ht : P.underlying t = some (.slice e)) (hi : P.info? e = some i) (hz : i.zero = some z)
    (hsize : i.size = size) (hby : i.bytes = bytes) (hzs : z.cells.size = size) (hsz : 0 < size)
    (v : Value) (n : Nat) (xs : List Value) (hxl : xs.length = size) (hs : a.eval s = v) (hown : w.ownsRow base e size v n (repC n xs))
    (ad : Addr) (m c : Nat) (hm0 : 0 < m) (hx : a.eval x = .slice (some ad) m c) (hnews : ∀ j u, (repC m xs)[j]? = some u → w.cell? (ad.add j) = some u) (h1 : ∀ u ∈ xs, u.oneCell' = true)
    (h63 : n + m ≤ maxLen) (hbytes : (n + m) * bytes ≤ 140737488355328) (hbase : base ≤ w.heap.size)
    (h : ∀ v' w', w'.ownsRow base e size v' (n + m) (repC (n + m) xs) → w.grownBy w' v.ownBlock → (∀ B u k, w.ownsRow B e size u k (repC k xs) → w'.ownsRow B e size u k (repC k xs)) → (v'.ownBlock = v.ownBlock ∨ ∃ g, v'.ownBlock = some g ∧ w.heap.size ≤ g) → wpList P ops Q rest (a.put o.dst v') w') : wpList P ops Q (o :: rest) a w :=
  wpList_plain hgd fun _ hK => by
    obtain ⟨v', w', hr, h2, h3, h4, h5⟩ := run_append_marks (P := P) w base t o.type e i z size bytes ht hi hz hsize hby hzs hsz v n xs hxl hown ad m c hm0 hnews h1 h63 hbytes hbase
    unfold Oper.wp execOp
    simp only [ho, resolve, invoke, builtin, Sem.run_bind, Sem.run_pure, Result.andThen_ok, List.map_toArray, List.map_cons, List.map_nil, hs, hx, hr]
    exact hK _ _ (h v' w' h2 h3 h4 h5)

end

end Go.Proofs.YtiamlbhkiehilaaDoor
