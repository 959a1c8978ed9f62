import Derived.Test.YtiamlbhkiehilaaGreatDoorKa26
open Array renaming getElem?_eq_some_iff→Jm
open Go.Fence renaming wide→Kt
open Go.Oper renaming semAt→N8
namespace Go.Proofs.YtiamlbhkiehilaaGreatDoor
section
open Go.RowKit
def CY(o:Oper):Bool:=match o.op with
 | .defer _=>false
 |_=>true
theorem yC{l m:Nat}{P:Program}{b:Array Oper}{Q:Exit→Act→World→Prop}{i:Nat}{K:Act→World→Prop}{a:Act}{w:World}(hd:b.all CY=true)(h:wpOpIn Kt m P b Q i K a w):wpOpIn (Kt.inRound l) m P b Q i K a w:=by
 unfold wpOpIn at *;cases e:b[i]? with
 |none=>rw[e]at h;exact h
 |some o=>
  rw[e]at h;dsimp only at h ⊢;have d:CY o=true:=by have k:=Array.all_eq_true.1 hd i (Jm.1 e).1;rw[(Jm.1 e).2]at k;exact k
  have n:∀f,N8 (some l) f o=N8 none f o:=fun f=>by
   rw[Oper.semAt_none];refine Oper.semAt_eq _ _ _ (fun c p=>?_);unfold CY at d;rw[p]at d;cases d
  split
  ·rename_i g;rw[if_pos g]at h;unfold Oper.wpIn at *;refine⟨h.1,?_⟩;have j:=h.2;have q:(Kt.inRound l).round=some l:=rfl;have s:Kt.round=none:=rfl;rw[s]at j;rw[q,n];generalize (N8 none a.eval o).run P w=r at *;cases r with
   |ok x t=>cases x<;>exact j
   |halt x t=>cases x<;>exact j
  ·rename_i g;rw[if_neg g]at h;exact h
theorem dZ{l m:Nat}{P:Program}{e:Region.Mode}{d:Array Oper}{Q:Exit→Act→World→Prop}(hd:d.all CY=true):∀(b:Nat) (c:Array Bool) (a:Act) (w:World),wpAnyIn Kt m P e d Q b c a w→wpAnyIn (Kt.inRound l) m P e d Q b c a w:=by
 intro b;induction b with
 |zero=>intro c a w h;exact h
 |succ b f=>intro c a w h;exact⟨h.1,fun i g=>yC hd (wpOpIn_mono (fun a w=>f _ a w) (h.2 i g))⟩
end
end Go.Proofs.YtiamlbhkiehilaaGreatDoor
