import Derived.Test.YtiamlbhkiehilaaGreatDoorAn33
import Derived.Test.YtiamlbhkiehilaaGreatDoorAn47
import Derived.Test.YtiamlbhkiehilaaGreatDoorAn48
import Derived.Test.YtiamlbhkiehilaaGreatDoorAn49
import Derived.Test.YtiamlbhkiehilaaGreatDoorAn37
import Derived.Test.YtiamlbhkiehilaaGreatDoorAn38
import Derived.Test.YtiamlbhkiehilaaGreatDoorAn06
import Derived.Test.YtiamlbhkiehilaaGreatDoorAn30
import Derived.Test.YtiamlbhkiehilaaGreatDoorRows
import Derived.ProofKit
import Derived.SizedLaws
import Derived.Deep.Slices
import Derived.Deep.Strs
import Derived.JoinedCond
import Derived.ChangeMaps5
import Derived.Deep.DeepHandedRow
import Derived.Lib.LaidTab
namespace Go.Proofs.YtiamlbhkiehilaaGreatDoor
section
open Go.RowKit Go.Shelf Go.Maps
theorem parseGo_zero {ls:List ByteArray}:∀ {pre:List Fct} {n:Nat} {fs:List Fct} {m:Int},parseGo pre n ls=(fs,0,m)→m=0:=by
 induction ls with
 | nil=>intro pre n fs m h; injection h with _ h; injection h with _ h; exact h.symm
 | cons l r ih=>
  intro pre n fs m h
  unfold parseGo at h
  split at h
  ·injection h with _ h; injection h with h _; cases h
  ·split at h
   ·rename_i h1
    injection h with _ h; injection h with h _; exact absurd h h1
   ·split at h
    ·exact ih h
    ·split at h
     ·exact ih h
     ·rename_i h1
      injection h with _ h; injection h with h _; exact absurd h h1
theorem parseB_zero {s:ByteArray} {fs:List Fct} {m:Int} (h:parseB s=(fs,0,m)):m=0:=by
 unfold parseB at h
 split at h
 ·injection h with _ h; injection h with h _; cases h
 ·exact parseGo_zero h
theorem pnames_le {fs:List Fct} (h:okGo [] fs):(nsOf fs).length≤40:=by
 unfold nsOf
 rw [names_length]
 rcases okGo_dcount h with rfl | h
 ·decide
 ·simpa using h
theorem cube_le {n:Nat} (hn:n≤40):n * n * n+4 * (n * n)+n≤80000:=by
 have h1:n * n≤40 * 40:=Nat.mul_le_mul hn hn
 have h2:n * n * n≤40 * 40 * 40:=Nat.mul_le_mul h1 hn
 omega
theorem sol_fits [DP] {fs:List Fct} (h:okGo [] fs):(solR fs).length≤1000∧fitsR (solR fs):=by
 have hsm:=(okGo_small h).1
 have hn:=pnames_le h
 have hns:∀ a∈nsOf fs,a.size≤12:=by
  intro a ha
  obtain ⟨f,hf,he⟩:=mem_ns.1 ha
  have h2:=hsm f hf
  rcases he with rfl | rfl
  ·exact h2.1
  ·exact h2.2
 refine ⟨by unfold solR; rw [List.length_map]; omega,fun r hr=>?_⟩
 unfold solR at hr
 obtain ⟨a,ha,rfl⟩:=List.mem_map.1 hr
 refine ⟨by have:=hns a ha; unfold maxLen; simp only; omega,?_,fun b hb=>?_⟩
 ·have:=List.length_filter_le (fun b=>decide (Pts fs a b)) (nsOf fs)
  unfold maxLen
  simp only
  omega
 ·have:=hns b (List.mem_filter.1 hb).1
  unfold maxLen
  omega
theorem foldO_un {α:Type} {f:St→α→Option St} (hf:∀ s x s',f s x=some s'→s'.un=s.un):∀ (l:List α) (s s':St),St.foldO f s l=some s'→s'.un=s.un:=by
 intro l
 induction l with
 | nil=>intro s s' e; cases e; rfl
 | cons x r ih=>
  intro s s' e
  unfold St.foldO at e
  cases e1:f s x with
  | none=>rw [e1] at e; cases e
  | some s1=>
   rw [e1] at e
   exact (ih s1 s' e).trans (hf s x s1 e1)
theorem twins_un {k n:Nat} {s s':St} (h:s.findTwins k n=some s'):s.un≤s'.un:=by
 unfold St.findTwins at h
 refine Nat.le_of_eq (foldO_un (fun s x s1 e=>?_) _ s s' h).symm
 cases e1:s.twinsOf k n x with
 | none=>rw [e1] at e; cases e
 | some t=>rw [e1] at e; cases e; rfl
theorem run_sol [DP] {fs:List Fct} (h:okGo [] fs) (c:Way):∃ sA sF,(St.start (nsOf fs).length (fs.map (numF (nsOf fs)))).lookAhead 5000 c (nsOf fs).length=some sA∧St.solveL 5000 c 5000 sA=some sF∧sF.un=unS fs c∧sF.un≤(nsOf fs).length * (nsOf fs).length * (nsOf fs).length+4 * ((nsOf fs).length * (nsOf fs).length)+(nsOf fs).length ∧
  ((∀ m,sF.ss.getD m []=mkS ((sF.ss.getD m []).contains ·))→rowsS sF (nsOf fs)=solR fs):=by
 have hn:=pnames_le h
 have hkd:=okGo_kinds h
 have hasc:Asc (nsOf fs):=asc_names _
 have hin:∀ f∈fs,f.p∈nsOf fs∧f.q∈nsOf fs:=fun f hf=>⟨mem_ns.2 ⟨f,hf,.inl rfl⟩,mem_ns.2 ⟨f,hf,.inr rfl⟩⟩
 have h1:∀ k p q,(k,p,q)∈fs.map (numF (nsOf fs))→p < (nsOf fs).length∧q < (nsOf fs).length:=by
  intro k p q hm
  obtain ⟨f,hf,e⟩:=List.mem_map.1 hm
  unfold numF at e
  injection e with _ e
  injection e with e1 e2
  rw [← e1,← e2]
  exact ⟨(List.getElem?_eq_some_iff.1 (asc_mem hasc (hin f hf).1)).1,(List.getElem?_eq_some_iff.1 (asc_mem hasc (hin f hf).2)).1⟩
 have h2:∀ k p q,(k,p,q)∈fs.map (numF (nsOf fs))→1≤k∧k≤4:=by
  intro k p q hm
  obtain ⟨f,hf,e⟩:=List.mem_map.1 hm
  unfold numF at e
  injection e with e _
  rw [← e]
  exact hkd f hf
 obtain ⟨sF,e,q1,q2,q3⟩:=run_ok (c:=c) hn h1 h2 (k:=5000) (Nat.le_refl _)
 have hu:sF.un=unS fs c:=by unfold unS; rw [e]; rfl
 unfold St.solve at e
 cases eA:(St.start (nsOf fs).length (fs.map (numF (nsOf fs)))).lookAhead 5000 c (nsOf fs).length with
 | none=>rw [eA] at e; cases e
 | some sA=>
  rw [eA] at e
  exact ⟨sA,sF,rfl,e,hu,q2,rows_sol hin hn q1 q3.bd⟩
set_option maxRecDepth 100000 in
theorem panalyze_sol [DP] (file:ByteArray) (c:Way) (fs:List Fct) (w:World) (m:Int) (hs:file.size≤maxLen) (hm:w.cell? ⟨1,0,none⟩=some (.int .i64 m)) (hml:1 < w.heap.size) (hT:TabAt w) (hTl:0 < w.heap.size)
  (ho:0≤c.order∧c.order≤2) (hp:parseB file=(fs,0,0)) :
  Calls Tryz.prog 32 #[.string file,wayV c] w fun e w'=>e=.returned (.tuple #[.agg #[.string ⟨(rowsText (solR fs)).toArray⟩,.int .i64 (unS fs c:Int)],.agg #[.int .i64 0,.int .i64 0]])∧Below w.heap.size w w':=by
 have hok:=parse_ok hp
 obtain ⟨sA,sF,eA,eF,hu,hub,hrows⟩:=run_sol hok c
 obtain ⟨so1,so2⟩:=sol_ok hok
 obtain ⟨f1,f2⟩:=sol_fits hok
 have hw0:WF (nsOf fs).length (St.start (nsOf fs).length (fs.map (numF (nsOf fs)))):=by
  refine start_wf (pnames_le hok) (fun k p q hm=>?_)
  obtain ⟨f,hf,e⟩:=List.mem_map.1 hm
  have hasc:Asc (nsOf fs):=asc_names _
  unfold numF at e
  injection e with _ e
  injection e with e1 e2
  rw [← e1,← e2]
  exact ⟨(List.getElem?_eq_some_iff.1 (asc_mem hasc (mem_ns.2 ⟨f,hf,.inl rfl⟩))).1,(List.getElem?_eq_some_iff.1 (asc_mem hasc (mem_ns.2 ⟨f,hf,.inr rfl⟩))).1⟩
 have hcb:=cube_le (pnames_le hok)
 rw [← hu]
 exact panalyze_ok file c fs (nsOf fs) 5000 _ sA sF w m hs hm hml hT hTl ho hp rfl rfl (fun _ B=>sort_ok B)
  (fun _ B hB=>⟨sus_ok,merge_ok B c _,look_ok hB 5000 (by omega),fun _=>subst_of hB 5000 (parts_ok hB 5000),fun _=>twins_ok hB 5000 (by omega)⟩)
  eA (ahead_wu (by omega) hw0 eA) eF (by omega) (fun s1 _ h=>subst_wu 5000 hw0 h) (fun s1 _ h=>twins_un h) (solR fs) hrows f1 f2 (by omega)
def anU (file:ByteArray) (c:Way):Int:=if c.order < 0∨2 < c.order then 0 else if (parseB file).2.1≠0 then 0 else (unS (parseB file).1 c:Int)
theorem analyze_any [DP] (file:ByteArray) (c:Way) (w:World) (m:Int) (hs:file.size≤maxLen) (hm:w.cell? ⟨1,0,none⟩=some (.int .i64 m)) (hml:1 < w.heap.size) (hT:TabAt w) (hTl:0 < w.heap.size) :
  Calls Tryz.prog 12 #[.string file,wayV c] w fun e w'=>e=.returned (.tuple #[.agg #[.string (analyzeB file c.order).1,.int .i64 (anU file c)],.agg #[.int .i64 (analyzeB file c.order).2.1,.int .i64 (analyzeB file c.order).2.2]])∧Below w.heap.size w w':=by
 refine qanalyze_of file c _ _ _ _ w (fun W hb=>?_)
 have hm':W.cell? ⟨1,0,none⟩=some (.int .i64 m):=(hb.cell (p:=⟨1,0,none⟩) hml).trans hm
 have hml':=Nat.lt_of_lt_of_le hml hb.size
 have hT':TabAt W:=hT.kb (Kb.of_below hb []) (by simp)
 have hTl':=Nat.lt_of_lt_of_le hTl hb.size
 unfold analyzeB anU
 by_cases ho:c.order < 0∨2 < c.order
 ·rw [if_pos ho,if_pos ho]
  exact panalyze_bad file c W ho
 ·rw [if_neg ho,if_neg ho]
  by_cases hp:(parseB file).2.1≠0
  ·rw [if_pos hp,if_pos hp]
   exact panalyze_err file c W m hs hm' hml' (by omega) hp
  ·rw [if_neg hp,if_neg hp]
   have hp0:(parseB file).2.1=0:=Decidable.of_not_not hp
   obtain ⟨fs,k,n,e⟩:∃ fs k n,parseB file=(fs,k,n):=⟨_,_,_,rfl⟩
   rw [e] at hp0 ⊢
   simp only at hp0
   subst hp0
   have:=parseB_zero e
   subst this
   exact panalyze_sol file c fs W m hs hm' hml' hT' hTl' (by omega) e
end
section
open Go.RowKit Go.Shelf
attribute [local go_sem] Oper.semAt_some
def e2A:ByteArray:=⟨#[97]⟩
def e2B:ByteArray:=⟨#[98]⟩
def e2P:ByteArray:=⟨#[112]⟩
def e2Q:ByteArray:=⟨#[113]⟩
def e2F:List Fct:=[⟨1,e2P,e2A⟩,⟨1,e2A,e2B⟩,⟨3,e2Q,e2P⟩]
def e2N:List ByteArray:=[e2A,e2B,e2P,e2Q]
def e2W:Way:=⟨0,false,false,false,false⟩
def e2File:ByteArray:=⟨#[112,32,61,32,38,97,10,97,32,61,32,38,98,10,113,32,61,32,42,112]⟩
def e2Text:ByteArray:=⟨#[97,58,32,98,10,98,58,10,112,58,32,97,10,113,58,32,98,10]⟩
theorem e2_names:namesS (strsOf e2F)=e2N:=by decide +kernel
theorem e2_nums:e2F.map (fun f=>(f.k,insAt e2N f.p,insAt e2N f.q))=[(1,2,0),(1,0,1),(3,3,2)]:=by decide +kernel
theorem e2_run:∃ sF,St.solveL 30 e2W 30 (St.start 4 [(1,2,0),(1,0,1),(3,3,2)])=some sF∧sF.un < 100∧(List.range 4).map (fun i=>sF.tg (sF.rep i))=[[1],[],[0],[1]]:=⟨_,rfl,by decide,by decide⟩
theorem e2_ahead:(St.start 4 [(1,2,0),(1,0,1),(3,3,2)]).lookAhead 30 e2W 4=some (St.start 4 [(1,2,0),(1,0,1),(3,3,2)]):=rfl
theorem e2_parse:parseB e2File=(e2F,0,0):=by kernel_rfl
set_option maxRecDepth 100000 in
theorem e2_sol:∃ sF,St.solveL 30 e2W 30 (St.start 4 [(1,2,0),(1,0,1),(3,3,2)])=some sF∧sF.un < 100∧rowsS sF e2N=[⟨e2A,[e2B]⟩,⟨e2B,[]⟩,⟨e2P,[e2A]⟩,⟨e2Q,[e2B]⟩]:=by
 obtain ⟨sF,h1,h2,h3⟩:=e2_run
 refine ⟨sF,h1,h2,?_⟩
 unfold rowsS
 have e:(List.range e2N.length).map (fun i=>(⟨e2N.getD i ⟨#[]⟩,(sF.tg (sF.rep i)).map (fun t=>e2N.getD t ⟨#[]⟩)⟩:RowD))=((List.range 4).map (fun i=>(i,sF.tg (sF.rep i)))).map (fun p=>(⟨e2N.getD p.1 ⟨#[]⟩,p.2.map (fun t=>e2N.getD t ⟨#[]⟩)⟩:RowD)):=by
  rw [List.map_map]
  rfl
 rw [e]
 have e2:(List.range 4).map (fun i=>(i,sF.tg (sF.rep i)))=[(0,[1]),(1,[]),(2,[0]),(3,[1])]:=by
  simp only [show List.range 4=[0,1,2,3] from rfl,List.map_cons,List.map_nil,List.cons.injEq,and_true] at h3 ⊢
  obtain ⟨a0,a1,a2,a3⟩:=h3
  rw [a0,a1,a2,a3]
  simp
 rw [e2]
 rfl
set_option maxRecDepth 100000 in
theorem e2_analyze (w:World) (m:Int) (hm:w.cell? ⟨1,0,none⟩=some (.int .i64 m)) (hml:1 < w.heap.size) (hT:TabAt w) (hTl:0 < w.heap.size) :
  ∃ u:Int,Calls Tryz.prog 12 #[.string e2File,wayV e2W] w fun e w'=>e=.returned (.tuple #[.agg #[.string e2Text,.int .i64 u],.agg #[.int .i64 0,.int .i64 0]])∧Below w.heap.size w w':=by
 obtain ⟨sF,h1,h2,hr⟩:=e2_sol
 have ht:(⟨(rowsText (rowsS sF e2N)).toArray⟩:ByteArray)=e2Text:=by rw [hr]; decide +kernel
 have hs0:St.start 4 [(1,2,0),(1,0,1),(3,3,2)]=St.start e2N.length (e2F.map (numF e2N)):=by
  have:e2F.map (numF e2N)=[(1,2,0),(1,0,1),(3,3,2)]:=e2_nums
  rw [this]
  rfl
 have hp:pw e2W:=⟨rfl,rfl,rfl⟩
 have hw:WF 4 (St.start 4 [(1,2,0),(1,0,1),(3,3,2)]):=start_wf (by omega) (by
  intro k p q hm
  simp at hm
  omega)
 refine ⟨sF.un,qanalyze_of e2File e2W e2Text sF.un 0 0 w (fun W hb=>?_)⟩
 have:=panalyze_ok e2File e2W e2F e2N 30 _ _ sF W m (by decide) ((hb.cell (p:=⟨1,0,none⟩) hml).trans hm) (Nat.lt_of_lt_of_le hml hb.size) (hT.kb (Kb.of_below hb []) (by simp)) (Nat.lt_of_lt_of_le hTl hb.size) (by decide) e2_parse e2_names.symm hs0 (by intro h; exact absurd h (by decide)) (fun h=>absurd hp h) e2_ahead (WU.refl hw) h1 (by omega) (by intro s1 h; exact absurd h (by decide)) (by intro s1 h; exact absurd h (by decide)) (rowsS sF e2N) (fun _=>rfl) (by rw [hr]; decide) (by
  rw [hr]
  unfold fitsR fitsS maxLen
  decide) (by rw [hr]; decide +kernel)
 rw [ht] at this
 exact this
theorem stoodRes:Tryz.prog.stoodInHeld 31=false:=by kernel_rfl
theorem fieldsRes:Tryz.prog.underlying 31=some (.struct (Tryz.prog.fieldsOf 31)):=by kernel_rfl
theorem eql_res (t:ByteArray) (u:Int) (w:World):(binOp .eql 31 (.agg #[.string t,.int .i64 u]) (.agg #[.string t,.int .i64 u])).run Tryz.prog w=.ok (.bool true) w:=by
 rw [run_eql_struct,run_equalIn_struct w 9999 _ _ _ fieldsRes stoodRes]
 simp [go_sem,Tryz.underlying31]
theorem cfg_cells {w:World} {b:Nat} {c:Way} (h:w.heap[b]?=some (.cells #[.int .i64 c.order,.bool c.cycles,.bool c.collapse,.bool c.subst,.bool c.deltas] 24 (0,0))) :
  w.cell? ⟨b,0,none⟩=some (.int .i64 c.order)∧w.cell? ⟨b,1,none⟩=some (.bool c.cycles)∧w.cell? ⟨b,2,none⟩=some (.bool c.collapse)∧w.cell? ⟨b,3,none⟩=some (.bool c.subst)∧w.cell? ⟨b,4,none⟩=some (.bool c.deltas):=by
 refine ⟨?_,?_,?_,?_,?_⟩ <;> (rw [cell_at h]; rfl)
set_option maxRecDepth 100000 in
set_option maxHeartbeats 4000000 in
theorem analyses_walk [DP] (s:ByteArray) (c:Way) (w:World) (m:Int) (hs:s.size≤maxLen) (hm:w.cell? ⟨1,0,none⟩=some (.int .i64 m)) (hml:1 < w.heap.size) (hT:TabAt w) (hTl:0 < w.heap.size) :
  Calls Tryz.prog 3 #[.string s,wayV c] w fun e w'=>e=.returned (.bool true)∧Below w.heap.size w w':=by
 have HR:=hide (fun W=>ranalyze_any s c.order c.cycles c.collapse c.subst c.deltas W hs)
 have HA:=hide (fun (W:World) (hb:Below w.heap.size w W)=>analyze_any s c W m hs ((hb.cell (p:=⟨1,0,none⟩) hml).trans hm) (Nat.lt_of_lt_of_le hml hb.size) (hT.kb (Kb.of_below hb []) (by simp)) (Nat.lt_of_lt_of_le hTl hb.size))
 have HX:=hide (fun (W:World) (hb:Below w.heap.size w W)=>e2_analyze W m ((hb.cell (p:=⟨1,0,none⟩) hml).trans hm) (Nat.lt_of_lt_of_le hml hb.size) (hT.kb (Kb.of_below hb []) (by simp)) (Nat.lt_of_lt_of_le hTl hb.size))
 have HU:Hid ((analyzeB s c.order).2.1=0∨anU s c=0):=by
  unfold Hid analyzeB anU
  by_cases ho:c.order < 0∨2 < c.order
  ·rw [if_pos ho,if_pos ho]; exact .inr rfl
  ·rw [if_neg ho,if_neg ho]
   by_cases hp:(parseB s).2.1≠0
   ·rw [if_pos hp,if_pos hp]; exact .inr rfl
   ·rw [if_neg hp,if_neg hp]; exact .inl rfl
 generalize analyzeB s c.order=r at *
 obtain ⟨t,k,n⟩:=r
 generalize anU s c=u at *
 dsimp only at HR HA HU
 clear hs hm hml hT hTl
 have b0:Below w.heap.size w (w.alloc (.cells #[.int .i64 c.order,.bool c.cycles,.bool c.collapse,.bool c.subst,.bool c.deltas] 24)):=(Below.refl _ _).alloc (Nat.le_refl _) _
 have g0:=heap_new w (.cells #[.int .i64 c.order,.bool c.cycles,.bool c.collapse,.bool c.subst,.bool c.deltas] 24)
 go_enter Tryz.func3,Tryz.ntmps3
 go_wp2_with fail
 generalize w.alloc (.cells #[.int .i64 c.order,.bool c.cycles,.bool c.collapse,.bool c.subst,.bool c.deltas] 24)=W0 at b0 g0 ⊢
 refine (HR.out W0).mono ?_
 clear HR
 rintro e W1 ⟨rfl,hb1⟩
 have g1:=heap_old (Below.heapAt hb1 g0 (lt_of_heap g0)) (.cells #[.int .i64 k,.int .i64 n] 27)
 have f1:=heap_new W1 (.cells #[.int .i64 k,.int .i64 n] 27)
 have b1:Below w.heap.size w (W1.alloc (.cells #[.int .i64 k,.int .i64 n] 27)):=(b0.trans (hb1.mono b0.size)).alloc (Nat.le_trans b0.size hb1.size) _
 obtain ⟨x0,x1,x2,x3,x4⟩:=cfg_cells g1
 clear g0 b0 hb1
 go_wp2_with fail
 clear x0 x1 x2 x3 x4
 generalize hV1:W1.heap.size=V1 at f1 ⊢
 generalize W1.alloc (.cells #[.int .i64 k,.int .i64 n] 27)=W2 at b1 g1 f1 ⊢
 clear hV1
 refine (HA.out W2 b1).mono ?_
 rintro e W3 ⟨rfl,hb3⟩
 have b3:Below w.heap.size w W3:=b1.trans (hb3.mono b1.size)
 have g1':=heap_old (heap_old (Below.heapAt hb3 g1 (lt_of_heap g1)) (.cells #[.string t,.int .i64 u] 31)) (.cells #[.int .i64 k,.int .i64 n] 27)
 have f1':=heap_old (heap_old (Below.heapAt hb3 f1 (lt_of_heap f1)) (.cells #[.string t,.int .i64 u] 31)) (.cells #[.int .i64 k,.int .i64 n] 27)
 have b3':Below w.heap.size w ((W3.alloc (.cells #[.string t,.int .i64 u] 31)).alloc (.cells #[.int .i64 k,.int .i64 n] 27)):=(b3.alloc b3.size _).alloc (Nat.le_trans b3.size (by simp)) _
 have r3:=heap_old (heap_new W3 (.cells #[.string t,.int .i64 u] 31)) (.cells #[.int .i64 k,.int .i64 n] 27)
 have q3:=heap_new (W3.alloc (.cells #[.string t,.int .i64 u] 31)) (.cells #[.int .i64 k,.int .i64 n] 27)
 rw [show (W3.alloc (.cells #[.string t,.int .i64 u] 31)).heap.size=W3.heap.size+1 by simp] at q3
 clear hb3 b3 g1 f1 b1
 obtain ⟨x0,x1,x2,x3,x4⟩:=cfg_cells g1'
 go_wp2_with fail
 clear x0 x1 x2 x3 x4
 generalize W3.heap.size=V3 at r3 q3 ⊢
 generalize (W3.alloc (.cells #[.string t,.int .i64 u] 31)).alloc (.cells #[.int .i64 k,.int .i64 n] 27)=W4 at b3' g1' f1' r3 q3 ⊢
 refine (HA.out W4 b3').mono ?_
 clear HA
 rintro e W5 ⟨rfl,hb5⟩
 have b5:Below w.heap.size w W5:=b3'.trans (hb5.mono b3'.size)
 have g1'':=heap_old (heap_old (Below.heapAt hb5 g1' (lt_of_heap g1')) (.cells #[.string t,.int .i64 u] 31)) (.cells #[.int .i64 k,.int .i64 n] 27)
 have f1'':=heap_old (heap_old (Below.heapAt hb5 f1' (lt_of_heap f1')) (.cells #[.string t,.int .i64 u] 31)) (.cells #[.int .i64 k,.int .i64 n] 27)
 have r3':=heap_old (heap_old (Below.heapAt hb5 r3 (lt_of_heap r3)) (.cells #[.string t,.int .i64 u] 31)) (.cells #[.int .i64 k,.int .i64 n] 27)
 have q3':=heap_old (heap_old (Below.heapAt hb5 q3 (lt_of_heap q3)) (.cells #[.string t,.int .i64 u] 31)) (.cells #[.int .i64 k,.int .i64 n] 27)
 have b5':Below w.heap.size w ((W5.alloc (.cells #[.string t,.int .i64 u] 31)).alloc (.cells #[.int .i64 k,.int .i64 n] 27)):=(b5.alloc b5.size _).alloc (Nat.le_trans b5.size (by simp)) _
 have r5:=heap_old (heap_new W5 (.cells #[.string t,.int .i64 u] 31)) (.cells #[.int .i64 k,.int .i64 n] 27)
 have q5:=heap_new (W5.alloc (.cells #[.string t,.int .i64 u] 31)) (.cells #[.int .i64 k,.int .i64 n] 27)
 rw [show (W5.alloc (.cells #[.string t,.int .i64 u] 31)).heap.size=W5.heap.size+1 by simp] at q5
 clear hb5 b5 g1' f1' r3 q3 b3'
 go_wp2_with fail
 generalize W5.heap.size=V5 at r5 q5 ⊢
 generalize (W5.alloc (.cells #[.string t,.int .i64 u] 31)).alloc (.cells #[.int .i64 k,.int .i64 n] 27)=W6 at b5' g1'' f1'' r3' q3' r5 q5 ⊢
 obtain ⟨u2,HX2⟩:=HX.out W6 b5'
 clear HX
 refine HX2.mono ?_
 clear HX2
 rintro e W7 ⟨rfl,hb7⟩
 have b7:Below w.heap.size w W7:=b5'.trans (hb7.mono b5'.size)
 have f1''':=heap_old (heap_old (Below.heapAt hb7 f1'' (lt_of_heap f1'')) (.cells #[.string e2Text,.int .i64 u2] 31)) (.cells #[.int .i64 0,.int .i64 0] 27)
 have r3'':=heap_old (heap_old (Below.heapAt hb7 r3' (lt_of_heap r3')) (.cells #[.string e2Text,.int .i64 u2] 31)) (.cells #[.int .i64 0,.int .i64 0] 27)
 have q3'':=heap_old (heap_old (Below.heapAt hb7 q3' (lt_of_heap q3')) (.cells #[.string e2Text,.int .i64 u2] 31)) (.cells #[.int .i64 0,.int .i64 0] 27)
 have r5':=heap_old (heap_old (Below.heapAt hb7 r5 (lt_of_heap r5)) (.cells #[.string e2Text,.int .i64 u2] 31)) (.cells #[.int .i64 0,.int .i64 0] 27)
 have q5':=heap_old (heap_old (Below.heapAt hb7 q5 (lt_of_heap q5)) (.cells #[.string e2Text,.int .i64 u2] 31)) (.cells #[.int .i64 0,.int .i64 0] 27)
 have b7':Below w.heap.size w ((W7.alloc (.cells #[.string e2Text,.int .i64 u2] 31)).alloc (.cells #[.int .i64 0,.int .i64 0] 27)):=(b7.alloc b7.size _).alloc (Nat.le_trans b7.size (by simp)) _
 have r7:=heap_old (heap_new W7 (.cells #[.string e2Text,.int .i64 u2] 31)) (.cells #[.int .i64 0,.int .i64 0] 27)
 have q7:=heap_new (W7.alloc (.cells #[.string e2Text,.int .i64 u2] 31)) (.cells #[.int .i64 0,.int .i64 0] 27)
 rw [show (W7.alloc (.cells #[.string e2Text,.int .i64 u2] 31)).heap.size=W7.heap.size+1 by simp] at q7
 clear hb7 b7 f1'' r3' q3' r5 q5 b5'
 obtain ⟨a0,a1,_,_⟩:=err_cells f1'''
 obtain ⟨c0,c1,_,_⟩:=err_cells r3''
 obtain ⟨d0,d1,_,_⟩:=err_cells q3''
 obtain ⟨e0,e1,_,_⟩:=err_cells r5'
 obtain ⟨f0,f1,_,_⟩:=err_cells q5'
 obtain ⟨h0,h1,_,_⟩:=err_cells r7
 obtain ⟨i0,i1,_,_⟩:=err_cells q7
 have Q1:=eql_err k n
 have Q2:=eql_res t u
 have hx:(e2Text.toList == [97,58,32,98,10,98,58,10,112,58,32,97,10,113,58,32,98,10])=true:=by decide +kernel
 clear f1''' r3'' q3'' r5' q5' r7 q7
 have HU':=HU.out
 by_cases hk:k=0
 ·subst hk
  go_wp2
  exact bodyPost_ret (v:=.bool true) (by simp [results,Tryz.results3,go_sem]) rfl ⟨rfl,b7'⟩
 ·have hu:u=0:=HU'.resolve_left hk
  subst hu
  go_wp2
  exact bodyPost_ret (v:=.bool true) (by simp [results,Tryz.results3,go_sem]) rfl ⟨rfl,b7'⟩
end
section
open Go.ChangeShapes Go.WideShapes Go.ChangeAt Go.RowKit Go.Deep Go.ChangeMaps
theorem ownZ:ownKnob Tryz.prog.godebug=none:=by kernel_rfl
def layF:Obj→Obj
 | .cells _ t frozen=>.cells (Go.Pinned.utf8FirstZ.map fun (n:Nat)=>Value.int .u8 n).toArray t frozen
 | o=>o
def layR:Obj→Obj
 | .cells _ t frozen=>.cells (([128,191,160,191,128,159,144,191,128,143] ++ List.replicate 22 0).map fun (n:Nat)=>Value.int .u8 n).toArray t frozen
 | o=>o
def layD:Obj→Obj
 | .cells _ t frozen=>.cells (dbTab.map fun (n:Nat)=>Value.int .u8 n).toArray t frozen
 | o=>o
theorem maxlen_cell (W:World) (hsh:W.ShapedOpen Tryz.prog):∃ m,W.cell? ⟨1,0,none⟩=some (.int .i64 m):=
 Go.Proofs.cell_of_shapedOpen_int (zero:=#[.int .i64 0]) (t:=3) hsh (of_decide_eq_true (by kernel_rfl)) (by kernel_rfl) rfl (by kernel_rfl) (by kernel_rfl) Tryz.underlying3
theorem tab_of_laid {W : World} {rest : List (String × DataW Unit)} (h : laidMet Tryz.prog (("math/bits.deBruijn64tab", Rows.laid_math_bits_deBruijn64tab) :: rest) W) : TabAt W ∧ 0 < W.heap.size := by
 have ht : Lib.TabIs Tryz.prog W "math/bits.deBruijn64tab" .u8 (dbTab.map fun (n : Nat) => (n : Int)) := Lib.tabIs_of_head (g := 0) (t := 219) (e := 5) (n := 64) (by kernel_rfl) (by kernel_rfl) (by kernel_rfl) (by kernel_rfl) (by kernel_rfl) (by kernel_rfl) h
 have hc:∀ i,i < 64→W.cell? ⟨0,i,none⟩=some (.int .u8 ((dbTab.map fun (n:Nat)=>(n:Int)).getD i 0)):=fun i hi=>ht.cell (by kernel_rfl) i hi
 refine ⟨fun j x hj=>?_,World.block_lt_of_cell? _ _ (hc 0 (by decide))⟩
 have hl:j < 64:=(List.getElem?_eq_some_iff.1 hj).1
 rw [hc j hl,List.getD_eq_getElem?_getD,List.getElem?_map,hj]
 rfl
theorem cellsCfg:Tryz.prog.cellsOf 24=5:=by kernel_rfl
theorem cellsOrd:Tryz.prog.cellsOf 22=1:=by kernel_rfl
theorem cellsBool:Tryz.prog.cellsOf 4=1:=by kernel_rfl
section
variable {H:Type} {enc:TypeId × Value→H} {w:World} {base:Nat} {sp:Nat→Bool} {held:Bool}
def cfgD (c:Way):DataW H:=.agg [.lit (.int .i64 c.order),.lit (.bool c.cycles),.lit (.bool c.collapse),.lit (.bool c.subst),.lit (.bool c.deltas)]
set_option maxRecDepth 100000 in
theorem open_cfg {r:Reach} {b0:Nat} {v:Value} {d:DataW H} {p:List MemPlace} (hv:Value.okWide Tryz.prog w r b0 24 v) (h:DataW.Trod enc Tryz.prog w base sp held 24 v d p):∃ c:Way,v=wayV c∧d=cfgD c∧p=[]∧(Lit.int .i64 c.order).wf=true:=by
 obtain ⟨cs,rfl,hl⟩:=okWide_struct Tryz.underlying24 hv
 obtain ⟨fuel,hf⟩:=h
 obtain ⟨xs,n,_,hx,hl2,hlen,hg⟩:=DataW.trod_struct Tryz.underlying24 hf
 rw [cellsCfg] at hl
 obtain ⟨cs⟩:=cs
 match cs,hl with
 | [c0,c1,c2,c3,c4],_=>
  match xs,hlen with
  | [y0,y1,y2,y3,y4],_=>
   have g0:DataW.trod enc Tryz.prog w base sp held n 22 (((Value.agg ⟨[c0,c1,c2,c3,c4]⟩).cells.toList.drop 0).take (Tryz.prog.cellsOf 22))=some y0:=hg 0 _ rfl
   have g1:DataW.trod enc Tryz.prog w base sp held n 4 (((Value.agg ⟨[c0,c1,c2,c3,c4]⟩).cells.toList.drop 1).take (Tryz.prog.cellsOf 4))=some y1:=hg 1 _ rfl
   have g2:DataW.trod enc Tryz.prog w base sp held n 4 (((Value.agg ⟨[c0,c1,c2,c3,c4]⟩).cells.toList.drop 2).take (Tryz.prog.cellsOf 4))=some y2:=hg 2 _ rfl
   have g3:DataW.trod enc Tryz.prog w base sp held n 4 (((Value.agg ⟨[c0,c1,c2,c3,c4]⟩).cells.toList.drop 3).take (Tryz.prog.cellsOf 4))=some y3:=hg 3 _ rfl
   have g4:DataW.trod enc Tryz.prog w base sp held n 4 (((Value.agg ⟨[c0,c1,c2,c3,c4]⟩).cells.toList.drop 4).take (Tryz.prog.cellsOf 4))=some y4:=hg 4 _ rfl
   rw [cellsOrd] at g0
   rw [cellsBool] at g1 g2 g3 g4
   obtain ⟨o,e0,f0,hw⟩:=DataW.trod_int Tryz.underlying22 g0
   obtain ⟨x1,e1,f1⟩:=DataW.trod_bool Tryz.underlying4 g1
   obtain ⟨x2,e2,f2⟩:=DataW.trod_bool Tryz.underlying4 g2
   obtain ⟨x3,e3,f3⟩:=DataW.trod_bool Tryz.underlying4 g3
   obtain ⟨x4,e4,f4⟩:=DataW.trod_bool Tryz.underlying4 g4
   simp [Value.cells] at e0 e1 e2 e3 e4
   subst e0 e1 e2 e3 e4 f0 f1 f2 f3 f4
   simp at hx
   exact ⟨⟨o,x1,x2,x3,x4⟩,rfl,hx.1,hx.2,hw⟩
set_option maxRecDepth 100000 in
theorem shut_cfg {c:Way} (hw:(Lit.int .i64 c.order).wf=true):DataW.Trod enc Tryz.prog w base sp held 24 (wayV c) (cfgD c) []:=by
 refine ⟨2,?_⟩
 have:=trod_struct_mk (enc:=enc) (P:=Tryz.prog) (w:=w) (base:=base) (spare:=sp) (held:=held) (n:=1) (cs:=[.int .i64 c.order,.bool c.cycles,.bool c.collapse,.bool c.subst,.bool c.deltas]) (xs:=[(.lit (.int .i64 c.order),[]),(.lit (.bool c.cycles),[]),(.lit (.bool c.collapse),[]),(.lit (.bool c.subst),[]),(.lit (.bool c.deltas),[])]) Tryz.underlying24 (by rw [cellsCfg]; rfl) (by simp [DataW.trod,cellsOrd,cellsBool,Tryz.underlying22,Tryz.underlying4,hw])
 simpa [cfgD,Value.cells,wayV] using this
end
end
end Go.Proofs.YtiamlbhkiehilaaGreatDoor
