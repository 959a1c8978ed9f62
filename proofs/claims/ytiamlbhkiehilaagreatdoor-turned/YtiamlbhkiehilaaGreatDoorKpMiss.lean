import Derived.Test.YtiamlbhkiehilaaGreatDoorKp07
import Derived.Laws.AppendOwnNone
import Derived.Test.YtiamlbhkiehilaaGreatDoorKp10
namespace Go.Proofs.YtiamlbhkiehilaaGreatDoor
section
open Go.RowKit Go.Maps
theorem cellsF_length (fs:List Fct):(cellsF fs).length=fs.length * 3:=by
 induction fs with
 | nil=>rfl
 | cons f r ih=>
  have:cellsF (f :: r)=.int .i64 f.k :: .string f.p :: .string f.q :: cellsF r:=by simp [cellsF]
  rw [this]
  simp [ih]
  omega
theorem cellsF_one (fs:List Fct):∀ u∈cellsF fs,u.oneCell'=true:=by
 intro u hu
 obtain ⟨f,_,hf⟩:=List.mem_flatMap.1 hu
 simp at hf
 rcases hf with rfl | rfl | rfl <;> rfl
end
section
open Go.RowKit Go.Maps
theorem own_cell {w:World} {B:Nat} {e:TypeId} {size g n cap:Nat} {xs:List Value} (h:w.ownsRow B e size (.slice (some ⟨g,0,none⟩) n cap) n xs) :
  (∀ (j:Nat) u,xs[j]?=some u→w.cell? ⟨g,j,none⟩=some u)∧(∀ o,w.frozen? ⟨g,o,none⟩=false):=by
 rcases h.2 with ⟨h1,_⟩ | ⟨g',cap',cur,h1,hB,hg,hnc,hcm,hcs,htk⟩
 ·cases h1
 ·injection h1 with e1 _ e3
  injection e1 with e1
  injection e1 with e1
  subst e1 e3
  refine ⟨fun j u hu=>?_,fun o=>frozen_at hg o⟩
  have hl:=lt_of_getElem? hu
  rw [h.1] at hl
  rw [cell_at hg]
  rw [← htk,List.getElem?_take,if_pos hl] at hu
  simpa using hu
end
end Go.Proofs.YtiamlbhkiehilaaGreatDoor
