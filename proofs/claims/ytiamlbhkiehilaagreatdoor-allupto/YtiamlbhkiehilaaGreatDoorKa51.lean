import Derived.Test.YtiamlbhkiehilaaGreatDoorKa50
open Go.DataW renaming TrodAll→Nq
open Go.Proofs.Tryz renaming prog→hE
open List renaming mem_cons_self→Bx
namespace Go.Proofs.YtiamlbhkiehilaaGreatDoor
section
end
section
open Go.RowKit Go.Shelf
attribute [local go_sem] Oper.semAt_some
end
section
open Go.RowKit Go.Maps
end
section
open Go.RowKit Go.Shelf Go.Maps
attribute [local go_sem] Oper.semAt_some
end
section
open Go.ChangeShapes Go.WideShapes Go.ChangeAt Go.RowKit Go.Deep Go.ChangeMaps
theorem Ge:laidOutB hE=true:=by kernel_rfl
section
variable {H:Type} {enc:TypeId × Value→H} {w W W':World} {spare:Nat→Bool} {held:Bool}
theorem vZ{c:List TypeId}:∀ {vs:List Value} {a:List (DataW H)} {ps:List MemPlace},(∀t∈c,hE.readableRec t=true∧t<hE.types.size)→Nq enc hE W 0 (fun _=>true) true c vs a ps→Below W.heap.size W W'→(∀x∈ps,x.block<W.heap.size) →
  Nq enc hE W' 0 (fun b=>decide (b<W.heap.size)) true c vs a ps:=by
 induction c with
 |nil=>intro vs a ps _ h _ _;cases vs<;>cases a<;>exact h
 |cons t c i=>
  intro vs a ps hr h f g;cases vs with
  |nil=>cases a<;>exact h.elim
  |cons v vs=>
   cases a with
   |nil=>exact h.elim
   |cons d a=>obtain⟨p,q,j,k,rfl⟩:=h;exact⟨p,q,Below.trod Ge (hr t Bx).1 (hr t Bx).2 j f (fun x e=>g x (List.mem_append_left _ e)),i (fun l m=>hr l (List.mem_cons_of_mem _ m)) k f (fun x e=>g x (List.mem_append_right _ e)),rfl⟩
end
end
end Go.Proofs.YtiamlbhkiehilaaGreatDoor
