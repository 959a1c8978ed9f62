import Derived.Test.YtiamlbhkiehilaaGreatDoorAn15
import Derived.Test.YtiamlbhkiehilaaGreatDoorAn08
import Derived.ArgAppend
import Derived.Laws.AppendOwn
import Derived.Test.YtiamlbhkiehilaaGreatDoorAn10
namespace Go.Proofs.YtiamlbhkiehilaaGreatDoor
section
open Go.RowKit Go.Maps
end
section
open Go.RowKit Go.Maps
end
section
open Go
section
variable {P:Program} (w:World)
end
end
section
open Go.RowKit Go.Maps
theorem own_set {w:World} {B:Nat} {e:TypeId} {size g n cap:Nat} {xs:List Value} (h:w.ownsRow B e size (.slice (some ⟨g,0,none⟩) n cap) n xs) (j:Nat) (v:Value) :
  (w.setCell ⟨g,j,none⟩ v).ownsRow B e size (.slice (some ⟨g,0,none⟩) n cap) n (xs.set j v):=by
 refine ⟨by rw [List.length_set]; exact h.1,?_⟩
 rcases h.2 with ⟨h1,_⟩ | ⟨g',cap',cur,h1,hB,hg,hnc,hcm,hcs,htk⟩
 ·cases h1
 ·injection h1 with e1 _ e3
  injection e1 with e1
  injection e1 with e1
  subst e1 e3
  refine .inr ⟨g,cap,_,rfl,hB,heap_set hg j v,hnc,hcm,by simpa using hcs,?_⟩
  rw [Array.toList_setIfInBounds,List.take_set,htk]
theorem own_cell {w:World} {B:Nat} {e:TypeId} {size g n cap:Nat} {xs:List Value} (h:w.ownsRow B e size (.slice (some ⟨g,0,none⟩) n cap) n xs) :
  (∀ (j:Nat) u,xs[j]?=some u→w.cell? ⟨g,j,none⟩=some u)∧(∀ o,w.frozen? ⟨g,o,none⟩=false):=by
 rcases h.2 with ⟨h1,_⟩ | ⟨g',cap',cur,h1,hB,hg,hnc,hcm,hcs,htk⟩
 ·cases h1
 ·injection h1 with e1 _ e3
  injection e1 with e1
  injection e1 with e1
  subst e1 e3
  refine ⟨fun j u hu=>?_,fun o=>frozen_at hg o⟩
  have hl:=lt_of_getElem? hu
  rw [h.1] at hl
  rw [cell_at hg]
  rw [← htk,List.getElem?_take,if_pos hl] at hu
  simpa using hu
theorem own_form {w:World} {B:Nat} {e:TypeId} {size n:Nat} {v:Value} {xs:List Value} (h:w.ownsRow B e size v n xs) :
  ∃ ao cap,v=.slice ao n cap∧(0 < n→∃ g,ao=some ⟨g,0,none⟩):=by
 rcases h.2 with ⟨rfl,rfl⟩ | ⟨g,cap,cur,rfl,_⟩
 ·exact ⟨none,0,rfl,fun h=>absurd h (Nat.lt_irrefl _)⟩
 ·exact ⟨_,cap,rfl,fun _=>⟨g,rfl⟩⟩
theorem own_kbL {w w':World} {B:Nat} {e:TypeId} {size n:Nat} {v:Value} {xs:List Value} {L:List Nat} (h:w.ownsRow B e size v n xs) (hk:Kb L w w') (hne:∀ g∈L,v.ownBlock≠some g):w'.ownsRow B e size v n xs:=by
 refine ⟨h.1,?_⟩
 rcases h.2 with h | ⟨g,cap,cur,rfl,h2,h3,h4⟩
 ·exact .inl h
 ·exact .inr ⟨g,cap,cur,rfl,h2,hk.heap h3 (fun hm=>hne g hm rfl),h4⟩
theorem cells_new (w:World) (cs:Array Value) (T:TypeId) (xs:List Value) (h:cs.toList=xs):∀ j u,xs[j]?=some u→(w.alloc (.cells cs T)).cell? ((⟨w.heap.size,0,none⟩:Addr).add j)=some u:=by
 intro j u hu
 rw [Addr.add_lit,cell_at (heap_new w (.cells cs T)),Nat.zero_add]
 rw [← h] at hu
 simpa using hu
theorem own_ne {w:World} {B B':Nat} {e e':TypeId} {size size':Nat} {v v':Value} {n n':Nat} {xs xs':List Value} (h:w.ownsRow B e size v n xs) (h':w.ownsRow B' e' size' v' n' xs') (hne:e≠e'):v.ownBlock=none∨v.ownBlock≠v'.ownBlock:=by
 rcases h.2 with ⟨rfl,_⟩ | ⟨g,cap,cur,rfl,_,hg,_⟩
 ·exact .inl rfl
 ·refine .inr fun heq=>?_
  rcases h'.2 with ⟨rfl,_⟩ | ⟨g',cap',cur',rfl,_,hg',_⟩
  ·cases heq
  ·simp only [Value.ownBlock,Option.some.injEq] at heq
   rw [heq,hg'] at hg
   injection hg with h1
   injection h1 with h2 h3
   exact hne h3.symm
def may (kb:Nat) (V l:Value):List Nat:=kb :: (V.ownBlock.toList ++ l.ownBlock.toList)
end
section
open Go.RowKit Go.Maps
def stopN (s:ByteArray) (c:Int):Nat→Nat→Nat
 | 0,k=>k
 | f+1,k=>if byteAt s k=c then k else stopN s c f (k+1)
def stop (s:ByteArray) (c:Int) (k:Nat):Nat:=stopN s c (s.size - k) k
end
end Go.Proofs.YtiamlbhkiehilaaGreatDoor
