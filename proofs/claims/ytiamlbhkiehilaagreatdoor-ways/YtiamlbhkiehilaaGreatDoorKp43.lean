import Derived.Test.YtiamlbhkiehilaaGreatDoorKp20
namespace Go.Proofs.YtiamlbhkiehilaaGreatDoor
section
open Go.RowKit Go.Shelf
attribute [local go_sem] Oper.semAt_some
set_option maxRecDepth 100000 in
set_option maxHeartbeats 1000000 in
theorem few_any (u m n:Nat) (c:Way) (w:World) (hm:m≤1000) (hn:n≤40) (hu:u≤n * n * n+4 * (n * n)+n) :
  Calls Tryz.prog 27 #[.int .i64 (u:Int),.int .i64 (m:Int),.int .i64 (n:Int),wayV c] w fun e w'=>e=.returned (.bool true)∧Below w.heap.size w w':=by
 obtain ⟨a,ha⟩:∃ a,a=m+1:=⟨_,rfl⟩
 obtain ⟨b,hb⟩:∃ b,b=n+1:=⟨_,rfl⟩
 obtain ⟨p1,hp1⟩:∃ p,p=16 * a:=⟨_,rfl⟩
 obtain ⟨p2,hp2⟩:∃ p,p=p1 * b:=⟨_,rfl⟩
 obtain ⟨p3,hp3⟩:∃ p,p=p2 * b:=⟨_,rfl⟩
 obtain ⟨q1,hq1⟩:∃ p,p=16 * b:=⟨_,rfl⟩
 obtain ⟨q2,hq2⟩:∃ p,p=q1 * b:=⟨_,rfl⟩
 obtain ⟨q3,hq3⟩:∃ p,p=q2 * b:=⟨_,rfl⟩
 have l1:p1≤20000:=by omega
 have l2:p2≤20000 * 41:=by rw [hp2]; exact Nat.mul_le_mul l1 (by omega)
 have l3:p3≤20000 * 41 * 41:=by rw [hp3]; exact Nat.mul_le_mul l2 (by omega)
 have l4:q1≤656:=by omega
 have l5:q2≤656 * 41:=by rw [hq2]; exact Nat.mul_le_mul l4 (by omega)
 have l6:q3≤656 * 41 * 41:=by rw [hq3]; exact Nat.mul_le_mul l5 (by omega)
 have wm:IntKind.i64.wrap ((m:Int)+1)=(a:Int):=by rw [IntKind.wrap_i64]; omega
 have wn:IntKind.i64.wrap ((n:Int)+1)=(b:Int):=by rw [IntKind.wrap_i64]; omega
 have w1:IntKind.i64.wrap (16 * (a:Int))=(p1:Int):=by rw [IntKind.wrap_i64]; omega
 have e2:(p1:Int) * (b:Int)=(p2:Int):=by rw [hp2]; exact (Int.natCast_mul _ _).symm
 have e3:(p2:Int) * (b:Int)=(p3:Int):=by rw [hp3]; exact (Int.natCast_mul _ _).symm
 have e5:(q1:Int) * (b:Int)=(q2:Int):=by rw [hq2]; exact (Int.natCast_mul _ _).symm
 have e6:(q2:Int) * (b:Int)=(q3:Int):=by rw [hq3]; exact (Int.natCast_mul _ _).symm
 have w2:IntKind.i64.wrap ((p1:Int) * (b:Int))=(p2:Int):=by rw [e2,IntKind.wrap_i64]; omega
 have w3:IntKind.i64.wrap ((p2:Int) * (b:Int))=(p3:Int):=by rw [e3,IntKind.wrap_i64]; omega
 have w4:IntKind.i64.wrap (16 * (b:Int))=(q1:Int):=by rw [IntKind.wrap_i64]; omega
 have w5:IntKind.i64.wrap ((q1:Int) * (b:Int))=(q2:Int):=by rw [e5,IntKind.wrap_i64]; omega
 have w6:IntKind.i64.wrap ((q2:Int) * (b:Int))=(q3:Int):=by rw [e6,IntKind.wrap_i64]; omega
 obtain ⟨t1,ht1⟩:∃ t,t=p3+q3:=⟨_,rfl⟩
 obtain ⟨t2,ht2⟩:∃ t,t=q3+p2:=⟨_,rfl⟩
 have w7:IntKind.i64.wrap ((p3:Int)+(q3:Int))=(t1:Int):=by rw [IntKind.wrap_i64]; omega
 have w8:IntKind.i64.wrap ((q3:Int)+(p2:Int))=(t2:Int):=by rw [IntKind.wrap_i64]; omega
 have hu3:u≤q3:=by
  rw [hq3,hq2,hq1,hb]
  have h1:n * n * n≤(n+1) * (n+1) * (n+1):=Nat.mul_le_mul (Nat.mul_le_mul (by omega) (by omega)) (by omega)
  have h2:n * n≤(n+1) * (n+1) * (n+1):=Nat.le_trans (Nat.mul_le_mul (by omega) (by omega)) (Nat.le_mul_of_pos_right _ (by omega))
  have h3:n≤(n+1) * (n+1) * (n+1):=Nat.le_trans (Nat.le_succ n) (Nat.le_trans (Nat.le_mul_of_pos_right (n+1) (by omega)) (Nat.le_mul_of_pos_right _ (by omega)))
  have h4:16 * (n+1) * (n+1) * (n+1)=16 * ((n+1) * (n+1) * (n+1)):=by rw [Nat.mul_assoc 16,Nat.mul_assoc 16]
  omega
 have g1:(u:Int)≤(t1:Int):=by omega
 have g2:(u:Int)≤(t2:Int):=by omega
 have g0:(0:Int)≤(u:Int):=by omega
 have gc:=heap_new w (.cells #[.int .i64 c.order,.bool c.cycles,.bool c.collapse,.bool c.subst,.bool c.deltas] 24)
 have hbl:Below w.heap.size w (w.alloc (.cells #[.int .i64 c.order,.bool c.cycles,.bool c.collapse,.bool c.subst,.bool c.deltas] 24)):=(Below.refl _ _).alloc (Nat.le_refl _) _
 clear e2 e3 e5 e6 hp1 hp2 hp3 hq1 hq2 hq3 ht1 ht2 l1 l2 l3 l4 l5 l6 hu hu3 ha hb
 cases hd:c.deltas
 ·rw [hd] at hbl
  go_enter Tryz.func27,Tryz.ntmps27
  go_wp2
  exact bodyPost_ret (v:=.bool true) (by simp [results,Tryz.results27,go_sem]) rfl ⟨rfl,hbl⟩
 ·rw [hd] at hbl
  go_enter Tryz.func27,Tryz.ntmps27
  go_wp2
  exact bodyPost_ret (v:=.bool true) (by simp [results,Tryz.results27,go_sem]) rfl ⟨rfl,hbl⟩
end
end Go.Proofs.YtiamlbhkiehilaaGreatDoor
