import Derived.Test.YtiamlbhkiehilaaGreatDoorKpMiss
import Derived.Test.YtiamlbhkiehilaaGreatDoorKtA
namespace Go.Proofs.YtiamlbhkiehilaaGreatDoor
open Go.RowKit Go.Shelf Go.Maps
attribute [local go_sem] Oper.semAt_some
attribute [-go_sem] Builtin.append_
theorem IsRaws.below {v:Value} {rs:List RawD} {w w':World} (h:IsRaws v rs w) (hb:Below w.heap.size w w'):IsRaws v rs w':=by
 obtain ⟨ao,cap,h1,h2,h3⟩:=h
 refine ⟨ao,cap,h1,h2,fun hne=>?_⟩
 obtain ⟨b,off,q1,q2,q3⟩:=h3 hne
 refine ⟨b,off,q1,Nat.lt_of_lt_of_le q2 hb.size,fun i r hr=>?_⟩
 obtain ⟨p1,p2,p3⟩:=q3 i r hr
 exact ⟨(hb.cell (p:=⟨b,_,none⟩) q2).trans p1,(hb.cell (p:=⟨b,_,none⟩) q2).trans p2,(hb.cell (p:=⟨b,_,none⟩) q2).trans p3⟩
theorem cellsF_app (A B:List Fct):cellsF (A ++ B)=cellsF A ++ cellsF B:=by simp [cellsF]
end Go.Proofs.YtiamlbhkiehilaaGreatDoor
