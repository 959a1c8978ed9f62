import Derived.Test.YtiamlbhkiehilaaGreatDoorAn08
namespace Go.Proofs.YtiamlbhkiehilaaGreatDoor
section
open Go.RowKit
def toWidth:List ByteArray→Nat
 | []=>0
 | s :: r=>1+s.size+toWidth r
theorem toWidth_text (l:List ByteArray):(toText l).length=toWidth l:=by
 induction l with
 | nil=>rfl
 | cons s r ih=>
  have:s.data.toList.length=s.size:=Array.length_toList
  simp only [toText,toWidth,List.cons_append,List.length_cons,List.length_append,ih,this]
  omega
theorem toWidth_snoc (l:List ByteArray) (s:ByteArray):toWidth (l ++ [s])=toWidth l+1+s.size:=by
 induction l with
 | nil=>simp [toWidth]
 | cons x r ih=>simp [toWidth,ih]; omega
theorem toWidth_take (l:List ByteArray) (k:Nat):toWidth (l.take k)≤toWidth l:=by
 induction l generalizing k with
 | nil=>simp
 | cons x r ih=>
  cases k with
  | zero=>simp [toWidth]
  | succ k=>simp only [List.take_succ_cons,toWidth]; have:=ih k; omega
theorem rowText_length (r:RowD):(rowText r).length=r.name.size+2+toWidth r.to:=by
 have:r.name.data.toList.length=r.name.size:=Array.length_toList
 simp only [rowText,List.length_append,List.length_cons,List.length_nil,toWidth_text,this]
 omega
end
section
open Go.RowKit
def chk (formed:Bool) (r:RowD) (ahead:ByteArray):Int:=if formed && ascB r.to then (if rowLong r then 5 else if leqS r.name ahead then 4 else 0) else 4
def RowsAt (b off:Nat) (rs:List RowD) (w:World):Prop:=
 ∀ i n to,rs[i]?=some ⟨n,to⟩→w.cell? ⟨b,off+i * 2,none⟩=some (.string n)∧∃ tv,w.cell? ⟨b,off+i * 2+1,none⟩=some tv∧IsStrs tv to w
def IsRows (v:Value) (rs:List RowD) (w:World):Prop:=
 ∃ ao cap,v=.slice ao rs.length cap∧rs.length≤cap∧(ao=none→cap=0)∧(rs≠[]→∃ b off,ao=some ⟨b,off,none⟩∧b < w.heap.size∧RowsAt b off rs w)
def fitsR (rs:List RowD):Prop:=∀ r∈rs,r.name.size≤maxLen∧r.to.length≤maxLen∧fitsS r.to
end
end Go.Proofs.YtiamlbhkiehilaaGreatDoor
