import Derived.Test.YtiamlbhkiehilaaGreatDoorKpMiss
import Derived.Test.YtiamlbhkiehilaaGreatDoorKtTurnW
import Derived.Test.YtiamlbhkiehilaaGreatDoorKtRawO
namespace Go.Proofs.YtiamlbhkiehilaaGreatDoor
open Go.ChangeShapes Go.WideShapes Go.ChangeAt Go.RowKit Go.Deep Go.ChangeMaps
section
variable {H:Type} {enc:TypeId × Value→H} {w:World} {held:Bool}
set_option maxRecDepth 100000 in
theorem open_ints {r:Reach} {b0:Nat} {v:Value} {d:DataW H} {p:List MemPlace} (hv:Value.okWide Tryz.prog w r b0 59 v) (h:DataW.Trod enc Tryz.prog w 0 (fun _=>true) held 59 v d p) :
  ∃ os:List Int,IsInts v os w∧os.length≤maxLen∧∀ o∈os,inI o:=by
 obtain ⟨a0,len,cap,rfl⟩:=okWide_slice Tryz.underlying59 hv
 obtain ⟨fuel,hf⟩:=h
 rcases open_slice Tryz.underlying59 hf with ⟨hcs,_⟩ | ⟨a,len',cap',m,n,D,Pl,hcs,_,hl,hm,hmm,hx,hel⟩
 ·simp [Value.cells] at hcs
  obtain ⟨rfl,rfl,rfl⟩:=hcs
  exact ⟨[],⟨none,0,rfl,Nat.le_refl _,fun h=>absurd rfl h⟩,by simp,by simp⟩
 ·simp [Value.cells] at hcs
  obtain ⟨rfl,rfl,rfl⟩:=hcs
  rw [cellsInt] at hel
  simp only [if_true] at hmm
  subst hmm
  obtain ⟨os,hfl,hfs⟩:=raws_list (n:=len) (p:=fun i (o:Int)=>(w.cells? 0 (a.add (i * 1)) 1=some [.int .i64 o])∧inI o) (fun i hi=>by
   obtain ⟨cs',h1,h2⟩:=hel i (by omega)
   obtain ⟨o,e,_,ho⟩:=DataW.trod_int Tryz.underlying3 h2
   subst e
   exact ⟨o,h1,wf_inI ho⟩)
  subst hfl
  refine ⟨os,⟨some a,_,rfl,hl,fun hne=>?_⟩,by omega,fun o ho=>?_⟩
  ·have hpos:0 < os.length:=by
    cases os with
    | nil=>exact absurd rfl hne
    | cons f r=>simp
   have hcell:∀ i (o:Int),os[i]?=some o→w.cell? ((a.add (i * 1)).add 0)=some (.int .i64 o):=by
    intro i o hi
    obtain ⟨_,_,hc⟩:=World.cells?_some (hfs i _ hi).1
    exact hc 0 (by omega)
   obtain ⟨f0,hf0⟩:∃ f,os[0]?=some f:=⟨_,List.getElem?_eq_getElem hpos⟩
   have hc0:=hcell 0 f0 hf0
   obtain ⟨b,off,spot⟩:=a
   have hspot:spot=none:=by simpa [Addr.add] using World.cell?_spot hc0
   subst hspot
   have hbl:b < w.heap.size:=by
    have:=World.cells?_block (hfs 0 _ hf0).1 (by omega)
    simpa [Addr.add] using this
   refine ⟨b,off,rfl,hbl,fun i o hi=>?_⟩
   have hc:=hcell i o hi
   simp only [Addr.add_lit] at hc
   simpa using hc
  ·obtain ⟨i,hi⟩:=List.getElem?_of_mem ho
   exact (hfs i o hi).2
end
end Go.Proofs.YtiamlbhkiehilaaGreatDoor
