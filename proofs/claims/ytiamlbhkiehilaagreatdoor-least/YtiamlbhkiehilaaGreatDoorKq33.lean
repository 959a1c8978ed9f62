import Derived.Test.YtiamlbhkiehilaaGreatDoorKq09
import Derived.Deep.RegionLaw
namespace Go.Proofs.YtiamlbhkiehilaaGreatDoor
section
open Go.RowKit Go.Maps
set_option maxRecDepth 100000 in
theorem step_clone{ops:Array Oper}{o:Oper}{a:Act}{w:World}{K:Act→World→Prop}{Q:Exit→Act→World→Prop}{E:Prop}(hgd:o.guard=none)(t:Nat)
  (ho:o.op=Op.call { callee:=Callee.value (Operand.func 101),args:=#[.tmp t],argTypes:=#[9] }) (s:ByteArray) (hs:s.size≤1000000) (hx:a.eval (.tmp t)=.string s)
  (hK:∀w',Below w.heap.size w w'→K (a.put o.dst (.string s)) w'):if Region.wanted o (yielded ops a.tmps)=true then Oper.wp Tryz.prog o a w K Q else E:=by
 have hw:Region.wanted o (yielded ops a.tmps)=true:=by simp[Region.wanted,hgd]
 rw[if_pos hw];unfold Oper.wp execOp;simp only[ho];go_simp
 have hx2:a.tmps[t]?.getD undef=.string s:=by simpa[Act.eval]using hx
 rw[hx2];refine(clone_any s w hs).mono ?_
 rintro e w' ⟨rfl,hb⟩;exact hK w' hb
end
end Go.Proofs.YtiamlbhkiehilaaGreatDoor
