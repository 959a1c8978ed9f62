import Derived.Test.YtiamlbhkiehilaaGreatDoorKq39
import Derived.Test.YtiamlbhkiehilaaGreatDoorRows
import Derived.ProofKit
import Derived.SizedLaws
import Derived.Deep.Slices
import Derived.Deep.Strs
import Derived.JoinedCond
import Derived.ChangeMaps5
import Derived.Deep.DeepHandedRow
import Derived.Lib.LaidTab
import Derived.Test.YtiamlbhkiehilaaGreatDoorKq46
import Derived.Carry
namespace Go.Proofs.YtiamlbhkiehilaaGreatDoor
section
open Go.ChangeShapes Go.WideShapes Go.ChangeAt Go.RowKit Go.Deep Go.ChangeMaps
theorem ownZ:ownKnob Tryz.prog.godebug=none:=by kernel_rfl
def layF:Obj→Obj
 | .cells _ t frozen=>.cells (Go.Pinned.utf8FirstZ.map fun(n:Nat)=>Value.int .u8 n).toArray t frozen
 |o=>o
def layR:Obj→Obj
 | .cells _ t frozen=>.cells (([128,191,160,191,128,159,144,191,128,143]++List.replicate 22 0).map fun(n:Nat)=>Value.int .u8 n).toArray t frozen
 |o=>o
def layD:Obj→Obj
 | .cells _ t frozen=>.cells (dbTab.map fun(n:Nat)=>Value.int .u8 n).toArray t frozen
 |o=>o
theorem maxlen_cell(W:World)(hsh:W.ShapedOpen Tryz.prog):∃m,W.cell? ⟨1,0,none⟩=some (.int .i64 m):=
 Go.Proofs.cell_of_shapedOpen_int (zero:=#[.int .i64 0]) (t:=3) hsh (of_decide_eq_true (by kernel_rfl)) (by kernel_rfl) rfl (by kernel_rfl) (by kernel_rfl) Tryz.underlying3
theorem tab_of_laid {W : World} {rest : List (String × DataW Unit)} (h : laidMet Tryz.prog (("math/bits.deBruijn64tab", Rows.laid_math_bits_deBruijn64tab) :: rest) W) : TabAt W ∧ 0 < W.heap.size := by
 have ht : Lib.TabIs Tryz.prog W "math/bits.deBruijn64tab" .u8 (dbTab.map fun (n : Nat) => (n : Int)) := Lib.tabIs_of_head (g := 0) (t := 219) (e := 5) (n := 64) (by kernel_rfl) (by kernel_rfl) (by kernel_rfl) (by kernel_rfl) (by kernel_rfl) (by kernel_rfl) h
 have hc:∀i,i<64→W.cell? ⟨0,i,none⟩=some (.int .u8 ((dbTab.map fun(n:Nat)=>(n:Int)).getD i 0)):=fun i hi=>ht.cell (by kernel_rfl) i hi
 refine⟨fun j x hj=>?_,World.block_lt_of_cell? _ _ (hc 0 (by decide))⟩;have hl:j<64:=(List.getElem?_eq_some_iff.1 hj).1;rw[hc j hl,List.getD_eq_getElem?_getD,List.getElem?_map,hj];rfl
section
variable {H:Type} {enc:TypeId × Value→H} {w:World} {base:Nat} {sp:Nat→Bool} {held:Bool}
end
end
section
open Go.ChangeShapes Go.WideShapes Go.ChangeAt Go.RowKit Go.Deep Go.ChangeMaps
theorem laidOutZ:laidOutB Tryz.prog=true:=by kernel_rfl
theorem cellsRaw:Tryz.prog.cellsOf 83=3:=by kernel_rfl
theorem cellsInt:Tryz.prog.cellsOf 3=1:=by kernel_rfl
theorem wf_inI{n:Int}(h:(Lit.int .i64 n).wf=true):inI n:=by
 simp only[Lit.wf,Bool.and_eq_true,decide_eq_true_eq]at h;unfold inI;have e1:IntKind.i64.min=-9223372036854775808:=by decide
 have e2:IntKind.i64.max=9223372036854775807:=by decide
 omega
section
variable {H:Type} {enc:TypeId × Value→H} {w W W':World} {spare:Nat→Bool} {held:Bool}
theorem below_trodAll{ts:List TypeId}:∀ {vs:List Value} {ds:List (DataW H)} {ps:List MemPlace},(∀t∈ts,Tryz.prog.readableRec t=true∧t<Tryz.prog.types.size)→DataW.TrodAll enc Tryz.prog W 0 (fun _=>true) true ts vs ds ps→Below W.heap.size W W'→(∀x∈ps,x.block<W.heap.size) →
  DataW.TrodAll enc Tryz.prog W' 0 (fun b=>decide (b<W.heap.size)) true ts vs ds ps:=by
 induction ts with
 |nil=>
  intro vs ds ps _ h _ _;cases vs<;>cases ds<;>exact h
 |cons t ts ih=>
  intro vs ds ps hr h hb hlt;cases vs with
  |nil=>cases ds<;>exact h.elim
  |cons v vs=>
   cases ds with
   |nil=>exact h.elim
   |cons d ds=>
    obtain⟨p,q,h1,h2,rfl⟩:=h;exact⟨p,q,Below.trod laidOutZ (hr t List.mem_cons_self).1 (hr t List.mem_cons_self).2 h1 hb (fun x hx=>hlt x (List.mem_append_left _ hx)),ih (fun t' ht=>hr t' (List.mem_cons_of_mem _ ht)) h2 hb (fun x hx=>hlt x (List.mem_append_right _ hx)),rfl⟩
theorem open_raw{fuel:Nat}{cs:List Value}{x:DataW H × List MemPlace}(h:DataW.trod enc Tryz.prog w 0 spare held fuel 83 cs=some x) :
  ∃r:RawD,cs=[.int .i64 r.k,.int .i64 r.p,.int .i64 r.q]∧r.ok:=by
 obtain⟨y0,y1,y2,n,_,hl,h0,h1,h2⟩:=trod_struct3 Tryz.underlying83 h;rw[cellsRaw]at hl;simp only[cellsInt]at h0 h1 h2;obtain⟨k,e0,_,hk⟩:=DataW.trod_int Tryz.underlying3 h0;obtain⟨p,e1,_,hp⟩:=DataW.trod_int Tryz.underlying3 h1;obtain⟨q,e2,_,hq⟩:=DataW.trod_int Tryz.underlying3 h2;match cs,hl with
 | [a,b,c],_=>
  simp at e0 e1 e2;subst e0 e1 e2;exact⟨⟨k,p,q⟩,rfl,wf_inI hk,wf_inI hp,wf_inI hq⟩
theorem raws_list{α:Type}{n:Nat}{p:Nat→α→Prop}(h:∀i,i<n→∃x,p i x):∃l:List α,l.length=n∧∀i x,l[i]?=some x→p i x:=by
 induction n with
 |zero=>exact⟨[],rfl,fun i x hx=>by simp at hx⟩
 |succ n ih=>
  obtain⟨l,hl,hp⟩:=ih (fun i hi=>h i (by omega));obtain⟨x,hx⟩:=h n (by omega);refine⟨l++[x],by simp[hl],fun i y hy=>?_⟩;rw[List.getElem?_append]at hy;split at hy
  ·exact hp i y hy
  ·rename_i hi;have hz:i-l.length=0:=by
    have:=(List.getElem?_eq_some_iff.1 hy).1;simp at this;omega
   rw[hz]at hy;simp at hy;have:i=n:=by omega
   subst this;exact hy ▸ hx
set_option maxRecDepth 100000 in
theorem open_raws{r:Reach}{b0:Nat}{v:Value}{d:DataW H}{p:List MemPlace}(hv:Value.okWide Tryz.prog w r b0 35 v)(h:DataW.Trod enc Tryz.prog w 0 (fun _=>true) held 35 v d p) :
  ∃rs:List RawD,IsRaws v rs w∧rs.length≤maxLen∧∀r∈rs,r.ok:=by
 obtain⟨a0,len,cap,rfl⟩:=okWide_slice Tryz.underlying35 hv;obtain⟨fuel,hf⟩:=h;rcases open_slice Tryz.underlying35 hf with⟨hcs,_⟩|⟨a,len',cap',m,n,D,Pl,hcs,_,hl,hm,hmm,hx,hel⟩
 ·simp[Value.cells]at hcs;obtain⟨rfl,rfl,rfl⟩:=hcs;exact⟨[],⟨none,0,rfl,Nat.le_refl _,fun h=>absurd rfl h⟩,by simp,by simp⟩
 ·simp[Value.cells]at hcs;obtain⟨rfl,rfl,rfl⟩:=hcs;rw[cellsRaw]at hel;simp only[if_true]at hmm;subst hmm;obtain⟨rs,hfl,hfs⟩:=raws_list (n:=len) (p:=fun i (f:RawD)=>(w.cells? 0 (a.add (i*3)) 3=some [.int .i64 f.k,.int .i64 f.p,.int .i64 f.q])∧f.ok) (fun i hi=>by
   obtain⟨cs',h1,h2⟩:=hel i (by omega);obtain⟨r,rfl,hr⟩:=open_raw h2;exact⟨r,h1,hr⟩)
  subst hfl;refine⟨rs,⟨some a,_,rfl,hl,fun hne=>?_⟩,by omega,fun r hr=>?_⟩
  ·have hpos:0<rs.length:=by
    cases rs with
    |nil=>exact absurd rfl hne
    |cons f r=>simp
   have hcell:∀i (f:RawD),rs[i]?=some f→∀j,j<3→w.cell? ((a.add (i*3)).add j)=[Value.int .i64 f.k,.int .i64 f.p,.int .i64 f.q][j]?:=by
    intro i f hi j hj;obtain⟨_,_,hc⟩:=World.cells?_some (hfs i _ hi).1;exact hc j hj
   obtain⟨f0,hf0⟩:∃f,rs[0]?=some f:=⟨_,List.getElem?_eq_getElem hpos⟩;have hc0:=hcell 0 f0 hf0 0 (by omega);obtain⟨b,off,spot⟩:=a;have hspot:spot=none:=by simpa[Addr.add]using World.cell?_spot hc0
   subst hspot;have hbl:b<w.heap.size:=by
    have:=World.cells?_block (hfs 0 _ hf0).1 (by omega);simpa[Addr.add]using this
   refine⟨b,off,rfl,hbl,fun i f hi=>?_⟩;have hc:=hcell i f hi;simp only[Addr.add_lit]at hc;exact⟨hc 0 (by omega),hc 1 (by omega),hc 2 (by omega)⟩
  ·obtain⟨i,hi⟩:=List.getElem?_of_mem hr;exact(hfs i r hi).2
end
end
end Go.Proofs.YtiamlbhkiehilaaGreatDoor
