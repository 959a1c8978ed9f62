import Derived.Test.YtiamlbhkiehilaaGreatDoorKa11
open Go.Region renaming wanted→Ll
namespace Go.Proofs.YtiamlbhkiehilaaGreatDoor
section
open Go.RowKit Go.Maps
set_option maxRecDepth 100000 in
theorem BN{b:Array Oper}{o:Oper}{a:Act}{w:World}{K:Act→World→Prop}{Q:Exit→Act→World→Prop}{E:Prop}(c:o.guard=none)(t:Nat)
  (d:o.op=Op.call { callee:=Callee.value (Operand.func 101),args:=#[.tmp t],argTypes:=#[9] }) (s:ByteArray) (f:s.size≤1000000) (g:a.eval (.tmp t)=.string s)
  (h:∀w',Below w.heap.size w w'→K (a.put o.dst (.string s)) w'):if Ll o (yielded b a.tmps)=true then Oper.wp Tryz.prog o a w K Q else E:=by
 have i:Ll o (yielded b a.tmps)=true:=by simp[Ll,c]
 rw[if_pos i];unfold Oper.wp execOp;simp only[d];go_simp
 have j:a.tmps[t]?.getD undef=.string s:=by simpa[Act.eval]using g
 rw[j];refine(lQ s w f).mono ?_
 rintro e w' ⟨rfl,k⟩;exact h w' k
end
end Go.Proofs.YtiamlbhkiehilaaGreatDoor
