import Derived.Test.YtiamlbhkiehilaaGreatDoorAn18
namespace Go.Proofs.YtiamlbhkiehilaaGreatDoor
section
open Go.RowKit Go.Maps
def cellsP (ps:List (RowD × Value)):List Value:=ps.flatMap fun x=>[.string x.1.name,x.2]
theorem cellsP_get (ps:List (RowD × Value)) (i:Nat) (r:RowD) (tv:Value) (h:ps[i]?=some (r,tv)):(cellsP ps)[i * 2]?=some (.string r.name)∧(cellsP ps)[i * 2+1]?=some tv:=by
 induction ps generalizing i with
 | nil=>simp at h
 | cons f q ih=>
  have e:cellsP (f :: q)=.string f.1.name :: f.2 :: cellsP q:=by simp [cellsP]
  rw [e]
  cases i with
  | zero=>
   simp at h
   subst h
   exact ⟨rfl,rfl⟩
  | succ i=>
   rw [List.getElem?_cons_succ] at h
   have:=ih i h
   rw [show (i+1) * 2=i * 2+1+1 by omega,show i * 2+1+1+1=(i * 2+1)+1+1 by omega]
   simpa using this
structure OwnR (w:World) (lo hi:Nat) (v:Value) (ps:List (RowD × Value)):Prop where
 row:w.ownsRow lo 51 2 v ps.length (cellsP ps)
 top:∀ g,v.ownBlock=some g→g < hi
 tos:∀ (i:Nat) r tv,ps[i]?=some (r,tv)→w.ownsRow lo 9 1 tv r.to.length (r.to.map Value.string)
 ttop:∀ (i:Nat) r tv,ps[i]?=some (r,tv)→∀ g,tv.ownBlock=some g→g < hi
 sep:∀ (i j:Nat) x y,i < j→ps[i]?=some x→ps[j]?=some y→x.2.ownBlock=none∨x.2.ownBlock≠y.2.ownBlock
end
end Go.Proofs.YtiamlbhkiehilaaGreatDoor
