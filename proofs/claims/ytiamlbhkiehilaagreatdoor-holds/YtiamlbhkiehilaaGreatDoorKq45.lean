import Derived.Test.YtiamlbhkiehilaaGreatDoorKq43
import Derived.Test.YtiamlbhkiehilaaGreatDoorKq32
import Derived.Test.YtiamlbhkiehilaaGreatDoorKq16
import Derived.Test.YtiamlbhkiehilaaGreatDoorKq22
import Derived.Test.YtiamlbhkiehilaaGreatDoorKq44
namespace Go.Proofs.YtiamlbhkiehilaaGreatDoor
section
open Go.RowKit Go.Shelf Go.Maps
theorem pnames_le{fs:List Fct}(h:okGo [] fs):(nsOf fs).length≤40:=by
 unfold nsOf;rw[names_length];rcases okGo_dcount h with rfl|h
 ·decide
 ·simpa using h
theorem cube_le{n:Nat}(hn:n≤40):n*n*n+4*(n*n)+n≤80000:=by
 have h1:n*n≤40*40:=Nat.mul_le_mul hn hn;have h2:n*n*n≤40*40*40:=Nat.mul_le_mul h1 hn;omega
theorem sol_fits[DP]{fs:List Fct}(h:okGo [] fs):(solR fs).length≤1000∧fitsR (solR fs):=by
 have hsm:=(okGo_small h).1;have hn:=pnames_le h;have hns:∀a∈nsOf fs,a.size≤12:=by
  intro a ha;obtain⟨f,hf,he⟩:=mem_ns.1 ha;have h2:=hsm f hf;rcases he with rfl|rfl
  ·exact h2.1
  ·exact h2.2
 refine⟨by unfold solR;rw[List.length_map];omega,fun r hr=>?_⟩;unfold solR at hr;obtain⟨a,ha,rfl⟩:=List.mem_map.1 hr;refine⟨by have:=hns a ha;unfold maxLen;simp only;omega,?_,fun b hb=>?_⟩
 ·have:=List.length_filter_le (fun b=>decide (Pts fs a b)) (nsOf fs);unfold maxLen;simp only;omega
 ·have:=hns b (List.mem_filter.1 hb).1;unfold maxLen;omega
theorem foldO_un{α:Type}{f:St→α→Option St}(hf:∀s x s',f s x=some s'→s'.un=s.un):∀(l:List α) (s s':St),St.foldO f s l=some s'→s'.un=s.un:=by
 intro l;induction l with
 |nil=>intro s s' e;cases e;rfl
 |cons x r ih=>
  intro s s' e;unfold St.foldO at e;cases e1:f s x with
  |none=>rw[e1]at e;cases e
  |some s1=>
   rw[e1]at e;exact(ih s1 s' e).trans (hf s x s1 e1)
theorem twins_un{k n:Nat}{s s':St}(h:s.findTwins k n=some s'):s.un≤s'.un:=by
 unfold St.findTwins at h;refine Nat.le_of_eq (foldO_un (fun s x s1 e=>?_) _ s s' h).symm;cases e1:s.twinsOf k n x with
 |none=>rw[e1]at e;cases e
 |some t=>rw[e1]at e;cases e;rfl
theorem run_sol[DP]{fs:List Fct}(h:okGo [] fs)(c:Way):∃sA sF,(St.start (nsOf fs).length (fs.map (numF (nsOf fs)))).lookAhead 5000 c (nsOf fs).length=some sA∧St.solveL 5000 c 5000 sA=some sF∧sF.un=unS fs c∧sF.un≤(nsOf fs).length*(nsOf fs).length*(nsOf fs).length+4*((nsOf fs).length*(nsOf fs).length)+(nsOf fs).length ∧
  ((∀m,sF.ss.getD m []=mkS ((sF.ss.getD m []).contains ·))→rowsS sF (nsOf fs)=solR fs):=by
 have hn:=pnames_le h;have hkd:=okGo_kinds h;have hasc:Asc (nsOf fs):=asc_names _;have hin:∀f∈fs,f.p∈nsOf fs∧f.q∈nsOf fs:=fun f hf=>⟨mem_ns.2 ⟨f,hf,.inl rfl⟩,mem_ns.2 ⟨f,hf,.inr rfl⟩⟩
 have h1:∀k p q,(k,p,q)∈fs.map (numF (nsOf fs))→p<(nsOf fs).length∧q<(nsOf fs).length:=by
  intro k p q hm;obtain⟨f,hf,e⟩:=List.mem_map.1 hm;unfold numF at e;injection e with _ e;injection e with e1 e2;rw[← e1,← e2];exact⟨(List.getElem?_eq_some_iff.1 (asc_mem hasc (hin f hf).1)).1,(List.getElem?_eq_some_iff.1 (asc_mem hasc (hin f hf).2)).1⟩
 have h2:∀k p q,(k,p,q)∈fs.map (numF (nsOf fs))→1≤k∧k≤4:=by
  intro k p q hm;obtain⟨f,hf,e⟩:=List.mem_map.1 hm;unfold numF at e;injection e with e _;rw[← e];exact hkd f hf
 obtain⟨sF,e,q1,q2,q3⟩:=run_ok (c:=c) hn h1 h2 (k:=5000) (Nat.le_refl _);have hu:sF.un=unS fs c:=by unfold unS;rw[e];rfl
 unfold St.solve at e;cases eA:(St.start (nsOf fs).length (fs.map (numF (nsOf fs)))).lookAhead 5000 c (nsOf fs).length with
 |none=>rw[eA]at e;cases e
 |some sA=>
  rw[eA]at e;exact⟨sA,sF,rfl,e,hu,q2,rows_sol hin hn q1 q3.bd⟩
set_option maxRecDepth 100000 in
theorem panalyze_sol[DP](file:ByteArray)(c:Way)(fs:List Fct)(w:World)(m:Int)(hs:file.size≤maxLen)(hm:w.cell? ⟨1,0,none⟩=some (.int .i64 m))(hml:1<w.heap.size)(hT:TabAt w)(hTl:0<w.heap.size)
  (ho:0≤c.order∧c.order≤2) (hp:parseB file=(fs,0,0)) :
  Calls Tryz.prog 32 #[.string file,wayV c] w fun e w'=>e=.returned (.tuple #[.agg #[.string ⟨(rowsText (solR fs)).toArray⟩,.int .i64 (unS fs c:Int)],.agg #[.int .i64 0,.int .i64 0]])∧Below w.heap.size w w':=by
 have hok:=parse_ok hp;obtain⟨sA,sF,eA,eF,hu,hub,hrows⟩:=run_sol hok c;obtain⟨so1,so2⟩:=sol_ok hok;obtain⟨f1,f2⟩:=sol_fits hok;have hw0:WF (nsOf fs).length (St.start (nsOf fs).length (fs.map (numF (nsOf fs)))):=by
  refine start_wf (pnames_le hok) (fun k p q hm=>?_);obtain⟨f,hf,e⟩:=List.mem_map.1 hm;have hasc:Asc (nsOf fs):=asc_names _;unfold numF at e;injection e with _ e;injection e with e1 e2;rw[← e1,← e2];exact⟨(List.getElem?_eq_some_iff.1 (asc_mem hasc (mem_ns.2 ⟨f,hf,.inl rfl⟩))).1,(List.getElem?_eq_some_iff.1 (asc_mem hasc (mem_ns.2 ⟨f,hf,.inr rfl⟩))).1⟩
 have hcb:=cube_le (pnames_le hok);rw[← hu];exact panalyze_ok file c fs (nsOf fs) 5000 _ sA sF w m hs hm hml hT hTl ho hp rfl rfl (fun _ B=>sort_ok B)
  (fun _ B hB=>⟨sus_ok,merge_ok B c _,look_ok hB 5000 (by omega),fun _=>subst_of hB 5000 (parts_ok hB 5000),fun _=>twins_ok hB 5000 (by omega)⟩)
  eA (ahead_wu (by omega) hw0 eA) eF (by omega) (fun s1 _ h=>subst_wu 5000 hw0 h) (fun s1 _ h=>twins_un h) (solR fs) hrows f1 f2 (by omega)
end
end Go.Proofs.YtiamlbhkiehilaaGreatDoor
