import Derived.Test.YtiamlbhkiehilaaDoorPieces
namespace Go.Proofs.YtiamlbhkiehilaaDoor
open Go.RowKit Go.Maps

/-- A number as a text, by the law's own book. -/
def markB (n : Nat) : ByteArray := ⟨#[109, 97, 114, 107]⟩ ++ ⟨#[UInt8.ofNat (n % 256), UInt8.ofNat (n / 256 % 256), UInt8.ofNat (n / 65536 % 256)]⟩

set_option maxRecDepth 100000 in
set_option maxHeartbeats 1000000 in
theorem mark_any (n : Nat) (w : World) (hn : n ≤ 1000000000000) :
    Calls Tryd.prog 20 #[.int .i64 n] w fun e w' => e = .returned (.string (markB n)) ∧ Below w.heap.size w w' := by
  have e1 : ∀ m : Nat, ((UInt8.ofNat (m % 256)).toNat : Int) = (m : Int) % 256 := by
    intro m
    rw [UInt8.toNat_ofNat']
    omega
  have ho : (w.alloc (.cells #[.int .u8 ((n : Int) % 256), .int .u8 ((n : Int) / 256 % 256), .int .u8 ((n : Int) / 65536 % 256)] 5)).ownsRow w.heap.size 5 1 (.slice (some ⟨w.heap.size, 0, none⟩) 3 3) ([UInt8.ofNat (n % 256), UInt8.ofNat (n / 256 % 256), UInt8.ofNat (n / 65536 % 256)] : List UInt8).length (cellsB [UInt8.ofNat (n % 256), UInt8.ofNat (n / 256 % 256), UInt8.ofNat (n / 65536 % 256)]) := by
    refine ⟨by simp [cellsB], .inr ⟨w.heap.size, 3, _, rfl, Nat.le_refl _, heap_new _ _, by simp, by unfold maxLen; omega, by simp, ?_⟩⟩
    simp only [cellsB, List.map_cons, List.map_nil, e1]
    simp
  have hss := shape_string ho
  clear ho e1
  go_enter Tryd.func20, Tryd.ntmps20
  go_wp2
  go_ret
  exact ⟨rfl, (Below.refl _ _).alloc (Nat.le_refl _) _⟩

end Go.Proofs.YtiamlbhkiehilaaDoor
