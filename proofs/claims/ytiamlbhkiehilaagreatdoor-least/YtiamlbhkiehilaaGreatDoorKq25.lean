import Derived.Test.YtiamlbhkiehilaaGreatDoorKq24
namespace Go.Proofs.YtiamlbhkiehilaaGreatDoor
section
open Go.RowKit
def noDef(o:Oper):Bool:=match o.op with
 | .defer _=>false
 |_=>true
theorem wpOpIn_round{l m:Nat}{P:Program}{ops:Array Oper}{Q:Exit→Act→World→Prop}{i:Nat}{K:Act→World→Prop}{a:Act}{w:World}(hd:ops.all noDef=true)(h:wpOpIn Fence.wide m P ops Q i K a w):wpOpIn (Fence.wide.inRound l) m P ops Q i K a w:=by
 unfold wpOpIn at *;cases e:ops[i]? with
 |none=>rw[e]at h;exact h
 |some o=>
  rw[e]at h;dsimp only at h ⊢;have ho:noDef o=true:=by
   have h1:=Array.all_eq_true.1 hd i (Array.getElem?_eq_some_iff.1 e).1;rw[(Array.getElem?_eq_some_iff.1 e).2]at h1;exact h1
  have hs:∀ρ,Oper.semAt (some l) ρ o=Oper.semAt none ρ o:=fun ρ=>by
   rw[Oper.semAt_none];refine Oper.semAt_eq _ _ _ (fun c hc=>?_);unfold noDef at ho;rw[hc]at ho;cases ho
  split
  ·rename_i hw;rw[if_pos hw]at h;unfold Oper.wpIn at *;refine⟨h.1,?_⟩;have h2:=h.2;have e1:(Fence.wide.inRound l).round=some l:=rfl;have e2:Fence.wide.round=none:=rfl;rw[e2]at h2;rw[e1,hs];generalize (Oper.semAt none a.eval o).run P w=r at *;cases r with
   |ok x w'=>cases x<;>exact h2
   |halt x w'=>cases x<;>exact h2
  ·rename_i hw;rw[if_neg hw]at h;exact h
theorem wpAnyIn_round{l m:Nat}{P:Program}{md:Region.Mode}{ops:Array Oper}{Q:Exit→Act→World→Prop}(hd:ops.all noDef=true):∀(fuel:Nat) (listed:Array Bool) (a:Act) (w:World),wpAnyIn Fence.wide m P md ops Q fuel listed a w→wpAnyIn (Fence.wide.inRound l) m P md ops Q fuel listed a w:=by
 intro fuel;induction fuel with
 |zero=>intro listed a w h;exact h
 |succ fuel ih=>
  intro listed a w h;exact⟨h.1,fun i hi=>wpOpIn_round hd (wpOpIn_mono (fun a w=>ih _ a w) (h.2 i hi))⟩
end
end Go.Proofs.YtiamlbhkiehilaaGreatDoor
