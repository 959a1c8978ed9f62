import Derived.Test.YtiamlbhkiehilaaGreatDoorKp21
import Derived.Test.YtiamlbhkiehilaaGreatDoorKp36
import Derived.Test.YtiamlbhkiehilaaGreatDoorKp37
import Derived.Test.YtiamlbhkiehilaaGreatDoorKp38
import Derived.Test.YtiamlbhkiehilaaGreatDoorKp26
import Derived.Test.YtiamlbhkiehilaaGreatDoorKp27
import Derived.Test.YtiamlbhkiehilaaGreatDoorKp10
import Derived.Test.YtiamlbhkiehilaaGreatDoorKp19
import Derived.Test.YtiamlbhkiehilaaGreatDoorKp07
import Derived.Test.YtiamlbhkiehilaaGreatDoorKp20
import Derived.Test.YtiamlbhkiehilaaGreatDoorKp08
import Derived.Deep.RegionLaw
namespace Go.Proofs.YtiamlbhkiehilaaGreatDoor
section
open Go.RowKit Go.Shelf Go.Maps
theorem pnames_le {fs:List Fct} (h:okGo [] fs):(nsOf fs).length≤40:=by
 unfold nsOf
 rw [names_length]
 rcases okGo_dcount h with rfl | h
 ·decide
 ·simpa using h
theorem cube_le {n:Nat} (hn:n≤40):n * n * n+4 * (n * n)+n≤80000:=by
 have h1:n * n≤40 * 40:=Nat.mul_le_mul hn hn
 have h2:n * n * n≤40 * 40 * 40:=Nat.mul_le_mul h1 hn
 omega
theorem sol_fits [DP] {fs:List Fct} (h:okGo [] fs):(solR fs).length≤1000∧fitsR (solR fs):=by
 have hsm:=(okGo_small h).1
 have hn:=pnames_le h
 have hns:∀ a∈nsOf fs,a.size≤12:=by
  intro a ha
  obtain ⟨f,hf,he⟩:=mem_ns.1 ha
  have h2:=hsm f hf
  rcases he with rfl | rfl
  ·exact h2.1
  ·exact h2.2
 refine ⟨by unfold solR; rw [List.length_map]; omega,fun r hr=>?_⟩
 unfold solR at hr
 obtain ⟨a,ha,rfl⟩:=List.mem_map.1 hr
 refine ⟨by have:=hns a ha; unfold maxLen; simp only; omega,?_,fun b hb=>?_⟩
 ·have:=List.length_filter_le (fun b=>decide (Pts fs a b)) (nsOf fs)
  unfold maxLen
  simp only
  omega
 ·have:=hns b (List.mem_filter.1 hb).1
  unfold maxLen
  omega
theorem foldO_un {α:Type} {f:St→α→Option St} (hf:∀ s x s',f s x=some s'→s'.un=s.un):∀ (l:List α) (s s':St),St.foldO f s l=some s'→s'.un=s.un:=by
 intro l
 induction l with
 | nil=>intro s s' e; cases e; rfl
 | cons x r ih=>
  intro s s' e
  unfold St.foldO at e
  cases e1:f s x with
  | none=>rw [e1] at e; cases e
  | some s1=>
   rw [e1] at e
   exact (ih s1 s' e).trans (hf s x s1 e1)
theorem twins_un {k n:Nat} {s s':St} (h:s.findTwins k n=some s'):s.un≤s'.un:=by
 unfold St.findTwins at h
 refine Nat.le_of_eq (foldO_un (fun s x s1 e=>?_) _ s s' h).symm
 cases e1:s.twinsOf k n x with
 | none=>rw [e1] at e; cases e
 | some t=>rw [e1] at e; cases e; rfl
theorem run_sol [DP] {fs:List Fct} (h:okGo [] fs) (c:Way):∃ sA sF,(St.start (nsOf fs).length (fs.map (numF (nsOf fs)))).lookAhead 5000 c (nsOf fs).length=some sA∧St.solveL 5000 c 5000 sA=some sF∧sF.un=unS fs c∧sF.un≤(nsOf fs).length * (nsOf fs).length * (nsOf fs).length+4 * ((nsOf fs).length * (nsOf fs).length)+(nsOf fs).length ∧
  ((∀ m,sF.ss.getD m []=mkS ((sF.ss.getD m []).contains ·))→rowsS sF (nsOf fs)=solR fs):=by
 have hn:=pnames_le h
 have hkd:=okGo_kinds h
 have hasc:Asc (nsOf fs):=asc_names _
 have hin:∀ f∈fs,f.p∈nsOf fs∧f.q∈nsOf fs:=fun f hf=>⟨mem_ns.2 ⟨f,hf,.inl rfl⟩,mem_ns.2 ⟨f,hf,.inr rfl⟩⟩
 have h1:∀ k p q,(k,p,q)∈fs.map (numF (nsOf fs))→p < (nsOf fs).length∧q < (nsOf fs).length:=by
  intro k p q hm
  obtain ⟨f,hf,e⟩:=List.mem_map.1 hm
  unfold numF at e
  injection e with _ e
  injection e with e1 e2
  rw [← e1,← e2]
  exact ⟨(List.getElem?_eq_some_iff.1 (asc_mem hasc (hin f hf).1)).1,(List.getElem?_eq_some_iff.1 (asc_mem hasc (hin f hf).2)).1⟩
 have h2:∀ k p q,(k,p,q)∈fs.map (numF (nsOf fs))→1≤k∧k≤4:=by
  intro k p q hm
  obtain ⟨f,hf,e⟩:=List.mem_map.1 hm
  unfold numF at e
  injection e with e _
  rw [← e]
  exact hkd f hf
 obtain ⟨sF,e,q1,q2,q3⟩:=run_ok (c:=c) hn h1 h2 (k:=5000) (Nat.le_refl _)
 have hu:sF.un=unS fs c:=by unfold unS; rw [e]; rfl
 unfold St.solve at e
 cases eA:(St.start (nsOf fs).length (fs.map (numF (nsOf fs)))).lookAhead 5000 c (nsOf fs).length with
 | none=>rw [eA] at e; cases e
 | some sA=>
  rw [eA] at e
  exact ⟨sA,sF,rfl,e,hu,q2,rows_sol hin hn q1 q3.bd⟩
set_option maxRecDepth 100000 in
theorem panalyze_sol [DP] (file:ByteArray) (c:Way) (fs:List Fct) (w:World) (m:Int) (hs:file.size≤maxLen) (hm:w.cell? ⟨1,0,none⟩=some (.int .i64 m)) (hml:1 < w.heap.size) (hT:TabAt w) (hTl:0 < w.heap.size)
  (ho:0≤c.order∧c.order≤2) (hp:parseB file=(fs,0,0)) :
  Calls Tryz.prog 32 #[.string file,wayV c] w fun e w'=>e=.returned (.tuple #[.agg #[.string ⟨(rowsText (solR fs)).toArray⟩,.int .i64 (unS fs c:Int)],.agg #[.int .i64 0,.int .i64 0]])∧Below w.heap.size w w':=by
 have hok:=parse_ok hp
 obtain ⟨sA,sF,eA,eF,hu,hub,hrows⟩:=run_sol hok c
 obtain ⟨so1,so2⟩:=sol_ok hok
 obtain ⟨f1,f2⟩:=sol_fits hok
 have hw0:WF (nsOf fs).length (St.start (nsOf fs).length (fs.map (numF (nsOf fs)))):=by
  refine start_wf (pnames_le hok) (fun k p q hm=>?_)
  obtain ⟨f,hf,e⟩:=List.mem_map.1 hm
  have hasc:Asc (nsOf fs):=asc_names _
  unfold numF at e
  injection e with _ e
  injection e with e1 e2
  rw [← e1,← e2]
  exact ⟨(List.getElem?_eq_some_iff.1 (asc_mem hasc (mem_ns.2 ⟨f,hf,.inl rfl⟩))).1,(List.getElem?_eq_some_iff.1 (asc_mem hasc (mem_ns.2 ⟨f,hf,.inr rfl⟩))).1⟩
 have hcb:=cube_le (pnames_le hok)
 rw [← hu]
 exact panalyze_ok file c fs (nsOf fs) 5000 _ sA sF w m hs hm hml hT hTl ho hp rfl rfl (fun _ B=>sort_ok B)
  (fun _ B hB=>⟨sus_ok,merge_ok B c _,look_ok hB 5000 (by omega),fun _=>subst_of hB 5000 (parts_ok hB 5000),fun _=>twins_ok hB 5000 (by omega)⟩)
  eA (ahead_wu (by omega) hw0 eA) eF (by omega) (fun s1 _ h=>subst_wu 5000 hw0 h) (fun s1 _ h=>twins_un h) (solR fs) hrows f1 f2 (by omega)
end
section
def exA:ByteArray:=⟨#[97]⟩
def exB:ByteArray:=⟨#[98]⟩
def exP:ByteArray:=⟨#[112]⟩
def exQ:ByteArray:=⟨#[113]⟩
def exF:List Fct:=[⟨1,exP,exA⟩,⟨1,exQ,exB⟩,⟨4,exP,exQ⟩]
def exN:List ByteArray:=[exA,exB,exP,exQ]
def exW:Way:=⟨0,false,false,false,true⟩
theorem ex_ok:okGo [] exF:=by
 refine ⟨by decide,by decide,by decide,by decide,by decide,by decide,trivial⟩
theorem ex_names:namesS (strsOf exF)=exN:=by decide +kernel
theorem ex_nums:exF.map (fun f=>(f.k,insAt exN f.p,insAt exN f.q))=[(1,2,0),(1,3,1),(4,2,3)]:=by decide +kernel
theorem ex_run:∃ sF,St.solveL 30 exW 30 (St.start 4 [(1,2,0),(1,3,1),(4,2,3)])=some sF∧sF.un < 100∧(List.range 4).map (fun i=>sF.tg (sF.rep i))=[[1],[],[0],[1]]:=⟨_,rfl,by decide,by decide⟩
theorem ex_ahead:(St.start 4 [(1,2,0),(1,3,1),(4,2,3)]).lookAhead 30 exW 4=some (St.start 4 [(1,2,0),(1,3,1),(4,2,3)]):=rfl
end
section
open Go.RowKit Go.Shelf
attribute [local go_sem] Oper.semAt_some
def exFile:ByteArray:=⟨#[112,32,61,32,38,97,10,113,32,61,32,38,98,10,42,112,32,61,32,113,10]⟩
def exText:ByteArray:=⟨#[97,58,32,98,10,98,58,10,112,58,32,97,10,113,58,32,98,10]⟩
theorem ex_parse:parseB exFile=(exF,0,0):=by
 have h:=print_parse ex_ok
 have e:(⟨(textL exF).toArray⟩:ByteArray)=exFile:=by decide +kernel
 rw [e] at h
 exact h
set_option maxRecDepth 100000 in
theorem ex_sol:∃ sF,St.solveL 30 exW 30 (St.start 4 [(1,2,0),(1,3,1),(4,2,3)])=some sF∧sF.un < 100∧rowsS sF exN=[⟨exA,[exB]⟩,⟨exB,[]⟩,⟨exP,[exA]⟩,⟨exQ,[exB]⟩]:=by
 obtain ⟨sF,h1,h2,h3⟩:=ex_run
 refine ⟨sF,h1,h2,?_⟩
 unfold rowsS
 have e:(List.range exN.length).map (fun i=>(⟨exN.getD i ⟨#[]⟩,(sF.tg (sF.rep i)).map (fun t=>exN.getD t ⟨#[]⟩)⟩:RowD))=((List.range 4).map (fun i=>(i,sF.tg (sF.rep i)))).map (fun p=>(⟨exN.getD p.1 ⟨#[]⟩,p.2.map (fun t=>exN.getD t ⟨#[]⟩)⟩:RowD)):=by
  rw [List.map_map]
  rfl
 rw [e]
 have e2:(List.range 4).map (fun i=>(i,sF.tg (sF.rep i)))=[(0,[1]),(1,[]),(2,[0]),(3,[1])]:=by
  simp only [show List.range 4=[0,1,2,3] from rfl,List.map_cons,List.map_nil,List.cons.injEq,and_true] at h3 ⊢
  obtain ⟨a0,a1,a2,a3⟩:=h3
  rw [a0,a1,a2,a3]
  simp
 rw [e2]
 rfl
set_option maxRecDepth 100000 in
theorem exanalyze (sF:St) (h1:St.solveL 30 exW 30 (St.start 4 [(1,2,0),(1,3,1),(4,2,3)])=some sF) (h2:sF.un < 100∧rowsS sF exN=[⟨exA,[exB]⟩,⟨exB,[]⟩,⟨exP,[exA]⟩,⟨exQ,[exB]⟩]) (w:World) (m:Int) (hm:w.cell? ⟨1,0,none⟩=some (.int .i64 m)) (hml:1 < w.heap.size) (hT:TabAt w) (hTl:0 < w.heap.size) :
  Calls Tryz.prog 32 #[.string exFile,wayV exW] w fun e w'=>e=.returned (.tuple #[.agg #[.string exText,.int .i64 (sF.un:Int)],.agg #[.int .i64 0,.int .i64 0]])∧Below w.heap.size w w':=by
 obtain ⟨h2,hr⟩:=h2
 have ht:(⟨(rowsText (rowsS sF exN)).toArray⟩:ByteArray)=exText:=by rw [hr]; decide +kernel
 have hs0:St.start 4 [(1,2,0),(1,3,1),(4,2,3)]=St.start exN.length (exF.map (numF exN)):=by
  have:exF.map (numF exN)=[(1,2,0),(1,3,1),(4,2,3)]:=ex_nums
  rw [this]
  rfl
 have hp:pw exW:=⟨rfl,rfl,rfl⟩
 have hw:WF 4 (St.start 4 [(1,2,0),(1,3,1),(4,2,3)]):=start_wf (by omega) (by
  intro k p q hm
  simp at hm
  omega)
 have:=panalyze_ok exFile exW exF exN 30 _ _ sF w m (by decide) hm hml hT hTl (by decide) ex_parse ex_names.symm hs0 (by intro h; exact absurd h (by decide)) (fun h=>absurd hp h) ex_ahead (WU.refl hw) h1 (by omega) (by intro s1 h; exact absurd h (by decide)) (by intro s1 h; exact absurd h (by decide)) (rowsS sF exN) (fun _=>rfl) (by rw [hr]; decide) (by
  rw [hr]
  unfold fitsR fitsS maxLen
  decide) (by rw [hr]; decide +kernel)
 rw [ht] at this
 exact this
set_option maxRecDepth 100000 in
theorem works_any (w:World) (m:Int) (hm:w.cell? ⟨1,0,none⟩=some (.int .i64 m)) (hml:1 < w.heap.size) (hT:TabAt w) (hTl:0 < w.heap.size) :
  Calls Tryz.prog 15 #[] w fun e w'=>e=.returned (.bool true)∧Below w.heap.size w w':=by
 have HQ:Hid (∃ u:Nat,Calls Tryz.prog 12 #[.string exFile,wayV exW] w fun e w'=>e=.returned (.tuple #[.agg #[.string exText,.int .i64 (u:Int)],.agg #[.int .i64 0,.int .i64 0]])∧Below w.heap.size w w'):=by
  refine hide ?_
  obtain ⟨sF,h1,h2⟩:=ex_sol
  refine ⟨sF.un,qanalyze_of exFile exW exText sF.un 0 0 w (fun W hb=>?_)⟩
  exact exanalyze sF h1 h2 W m ((hb.cell (p:=⟨1,0,none⟩) hml).trans hm) (Nat.lt_of_lt_of_le hml hb.size) (hT.kb (Kb.of_below hb []) (by simp)) (Nat.lt_of_lt_of_le hTl hb.size)
 clear hm hml hT hTl
 obtain ⟨u,HQ⟩:=HQ.out
 go_enter Tryz.func15,Tryz.ntmps15
 go_wp2_with fail
 refine HQ.mono ?_
 rintro e W1 ⟨rfl,hb⟩
 clear HQ
 have hb2:=hb.alloc hb.size (.cells #[.string exText,.int .i64 (u:Int)] 31)
 have hb3:=hb2.alloc hb2.size (.cells #[.int .i64 0,.int .i64 0] 27)
 go_wp2_with fail
 have hx:(exText.toList == [97,58,32,98,10,98,58,10,112,58,32,97,10,113,58,32,98,10])=true:=by decide +kernel
 rw [hx]
 exact bodyPost_ret (v:=.bool true) (by simp [results,Tryz.results15,go_sem]) rfl ⟨rfl,hb3⟩
end
section
open Go.RowKit Go.Maps
def pickB (c:Int) (n:Nat):Nat:=((if c < 0 then -(c+1) else c) % (n:Int)).toNat
theorem pickB_lt (c:Int) {n:Nat} (h:0 < n):pickB c n < n:=by
 unfold pickB
 have h1:=Int.emod_nonneg (if c < 0 then -(c+1) else c) (show (n:Int)≠0 by omega)
 have h2:=Int.emod_lt_of_pos (if c < 0 then -(c+1) else c) (show (0:Int) < n by omega)
 omega
set_option maxRecDepth 100000 in
set_option maxHeartbeats 1000000 in
theorem pick_any (c:Int) (n:Nat) (w:World) (hc1:-9223372036854775808≤c) (hc2:c≤9223372036854775807) (hn:0 < n) (hn2:n≤1000) :
  Calls Tryz.prog 23 #[.int .i64 c,.int .i64 n] w fun e w'=>e=.returned (.int .i64 (pickB c n))∧w'=w:=by
 have hlt:=pickB_lt c hn
 by_cases h:c < 0
 ·have hE:((pickB c n:Nat):Int)=(-(c+1)) % (n:Int):=by
   unfold pickB
   rw [if_pos h]
   have h1:=Int.emod_nonneg (-(c+1)) (show (n:Int)≠0 by omega)
   omega
  have hm:(-(c+1)).tmod (n:Int)=(-(c+1)) % (n:Int):=Int.tmod_eq_emod_of_nonneg (by omega)
  have HE:=hide hE
  clear hE
  go_enter Tryz.func23,Tryz.ntmps23
  go_wp2
  go_ret
  exact ⟨by rw [HE.out]; rfl,rfl⟩
 ·have hE:((pickB c n:Nat):Int)=c % (n:Int):=by
   unfold pickB
   rw [if_neg h]
   have h1:=Int.emod_nonneg c (show (n:Int)≠0 by omega)
   omega
  have hm:c.tmod (n:Int)=c % (n:Int):=Int.tmod_eq_emod_of_nonneg (by omega)
  have HE:=hide hE
  clear hE
  go_enter Tryz.func23,Tryz.ntmps23
  go_wp2
  go_ret
  exact ⟨by rw [HE.out]; rfl,rfl⟩
def nmQ (k:Nat):ByteArray:=(if k < 10 then ⟨#[118]⟩ else ⟨#[119]⟩) ++ ⟨#[UInt8.ofNat (48+k % 10)]⟩
theorem byte_text {W:World} {b x:Nat} (hb:W.heap[b]?=some (.cells #[.int .u8 (x:Int)] 5 (0,0))) (hx:x < 256):(convert 116 9 (.slice (some ⟨b,0,none⟩) 1 1)).run Tryz.prog W=.ok (.string ⟨#[UInt8.ofNat x]⟩) W:=by
 have ho:W.ownsRow 0 5 1 (.slice (some ⟨b,0,none⟩) 1 1) ([UInt8.ofNat x]:List UInt8).length (cellsB [UInt8.ofNat x]):=by
  refine ⟨by simp [cellsB],.inr ⟨b,1,_,rfl,Nat.zero_le _,hb,by simp,by unfold maxLen; omega,by simp,?_⟩⟩
  simp [cellsB]
  omega
 exact shape_string ho
set_option maxRecDepth 100000 in
set_option maxHeartbeats 1000000 in
theorem qname_any (c:Int) (w:World) (hc1:-9223372036854775808≤c) (hc2:c≤9223372036854775807) :
  Calls Tryz.prog 61 #[.int .i64 c] w fun e w'=>e=.returned (.string (nmQ (pickB c 20)))∧Below w.heap.size w w':=by
 have hlt:=pickB_lt c (n:=20) (by decide)
 have hp:=pick_any c 20 w hc1 hc2 (by decide) (by decide)
 go_enter Tryz.func61,Tryz.ntmps61
 go_wp2_with fail
 refine hp.mono ?_
 rintro e w' ⟨rfl,rfl⟩
 clear hp
 generalize hk:pickB c 20=k at *
 have HK:=hide hk
 clear hk
 have hx:48+k % 10 < 256:=by omega
 have t1:=byte_text (W:=(((w'.alloc (.cells #[.string ⟨#[118]⟩,.string ⟨#[119]⟩] 9)).alloc (.cells #[.int .u8 ((48+k % 10:Nat):Int)] 5)).drew)) (b:=w'.heap.size+1) (x:=48+k % 10) (by
  have:=heap_new (w'.alloc (.cells #[.string ⟨#[118]⟩,.string ⟨#[119]⟩] 9)) (.cells #[.int .u8 ((48+k % 10:Nat):Int)] 5)
  rw [show (w'.alloc (.cells #[.string ⟨#[118]⟩,.string ⟨#[119]⟩] 9)).heap.size=w'.heap.size+1 by simp] at this
  exact this) hx
 have t2:=byte_text (W:=((w'.alloc (.cells #[.int .u8 ((48+k % 10:Nat):Int)] 5)).drew)) (b:=w'.heap.size) (x:=48+k % 10) (heap_new w' (.cells #[.int .u8 ((48+k % 10:Nat):Int)] 5)) hx
 have t3:=byte_text (W:=(((w'.alloc (.cells #[.int .u8 ((48+k % 10:Nat):Int)] 5)).alloc (.cells #[.string ⟨#[118]⟩,.string ⟨#[119]⟩] 9)).drew)) (b:=w'.heap.size) (x:=48+k % 10) (heap_old (heap_new w' (.cells #[.int .u8 ((48+k % 10:Nat):Int)] 5)) _) hx
 have hbl:∀ o1 o2:Obj,Below w'.heap.size w' ((w'.alloc o1).alloc o2).drew:=fun o1 o2=>(((Below.refl _ _).alloc (Nat.le_refl _) o1).alloc (by simp) o2).drew
 have HBL:=hide hbl
 clear hbl
 push_cast at t1 t2 t3
 by_cases h10:k < 10
 ·have e1:(k:Int) / 10=0:=by omega
  have HN:Hid (nmQ k=⟨#[118]⟩ ++ ⟨#[48+UInt8.ofNat (k % 10)]⟩):=by unfold Hid nmQ; rw [if_pos h10,UInt8.ofNat_add]; rfl
  go_wp2_with fail
  go_region
  all_goals
   go_wp2
   go_ret
   exact ⟨by rw [HK.out,HN.out]; rfl,HBL.out _ _⟩
 ·have e1:(k:Int) / 10=1:=by omega
  have HN:Hid (nmQ k=⟨#[119]⟩ ++ ⟨#[48+UInt8.ofNat (k % 10)]⟩):=by unfold Hid nmQ; rw [if_neg h10,UInt8.ofNat_add]; rfl
  go_wp2_with fail
  go_region
  all_goals
   go_wp2
   go_ret
   exact ⟨by rw [HK.out,HN.out]; rfl,HBL.out _ _⟩
def rawF (k p q:Int):Fct:=⟨1+pickB k 4,nmQ (pickB p 20),nmQ (pickB q 20)⟩
theorem nmQ_name {k:Nat} (h:k < 20):nameB (nmQ k).data.toList=true∧(nmQ k).size=2:=by
 have:∀ k:Fin 20,nameB (nmQ k.val).data.toList=true∧(nmQ k.val).size=2:=by decide
 exact this ⟨k,h⟩
theorem rawF_ok (k p q:Int):factB (rawF k p q).k (rawF k p q).p (rawF k p q).q=true:=by
 have h1:=pickB_lt k (n:=4) (by decide)
 have h2:=nmQ_name (pickB_lt p (n:=20) (by decide))
 have h3:=nmQ_name (pickB_lt q (n:=20) (by decide))
 simp only [factB,rawF,Bool.and_eq_true]
 exact ⟨decide_eq_true ⟨by omega,by omega⟩,h2.1,h3.1⟩
end
section
open Go.RowKit Go.Maps
def cfgV (k:Nat):Value:=.agg #[.int .i64 ((k:Int) % 3),.bool ((k:Int) / 3 % 2 == 1),.bool ((k:Int) / 6 % 2 == 1),.bool ((k:Int) / 12 % 2 == 1),.bool ((k:Int) / 24 % 2 == 1)]
set_option maxRecDepth 100000 in
set_option maxHeartbeats 1000000 in
theorem config_any (c:Int) (w:World) (hc1:-9223372036854775808≤c) (hc2:c≤9223372036854775807) :
  Calls Tryz.prog 17 #[.int .i64 c] w fun e w'=>e=.returned (cfgV (pickB c 48))∧Below w.heap.size w w':=by
 have hlt:=pickB_lt c (n:=48) (by decide)
 have hp:=pick_any c 48 (w.alloc (.cells #[.int .i64 0,.bool false,.bool false,.bool false,.bool false] 24)) hc1 hc2 (by decide) (by decide)
 have hb0:Below w.heap.size w (w.alloc (.cells #[.int .i64 0,.bool false,.bool false,.bool false,.bool false] 24)):=(Below.refl _ _).alloc (Nat.le_refl _) _
 go_enter Tryz.func17,Tryz.ntmps17
 go_wp2_with fail
 refine hp.mono ?_
 rintro e w' ⟨rfl,rfl⟩
 clear hp
 generalize hk:pickB c 48=k at *
 have HK:=hide hk
 clear hk
 go_wp2_with fail
 refine bodyPost_ret (v:=.agg #[.int .i64 ((k:Int) % 3),.bool ((k:Int) / 3 % 2 == 1),.bool ((k:Int) / 6 % 2 == 1),.bool ((k:Int) / 12 % 2 == 1),.bool ((k:Int) / 24 % 2 == 1)]) (by simp [results,Tryz.results17,go_sem]) rfl ⟨by rw [HK.out]; rfl,?_⟩
 exact (Below.refl _ _).alloc (Nat.le_refl _) _
end
section
open Go.RowKit Go.Maps
def inI (c:Int):Prop:=-9223372036854775808≤c∧c≤9223372036854775807
set_option maxRecDepth 100000 in
set_option maxHeartbeats 20000000 in
theorem kfact_any (k p q:Int) (w:World) (hk:inI k) (hp:inI p) (hq:inI q) :
  Calls Tryz.prog 33 #[.agg #[.int .i64 k,.int .i64 p,.int .i64 q]] w fun e w'=>e=.returned (.agg #[.int .i64 (rawF k p q).k,.string (rawF k p q).p,.string (rawF k p q).q])∧Below w.heap.size w w':=by
 have g0:=heap_old (heap_new w (.cells #[.int .i64 k,.int .i64 p,.int .i64 q] 83)) (.cells #[.int .i64 0,.string ⟨#[]⟩,.string ⟨#[]⟩] 48)
 have g1:=heap_new (w.alloc (.cells #[.int .i64 k,.int .i64 p,.int .i64 q] 83)) (.cells #[.int .i64 0,.string ⟨#[]⟩,.string ⟨#[]⟩] 48)
 rw [show (w.alloc (.cells #[.int .i64 k,.int .i64 p,.int .i64 q] 83)).heap.size=w.heap.size+1 by simp] at g1
 have hb0:Below w.heap.size w ((w.alloc (.cells #[.int .i64 k,.int .i64 p,.int .i64 q] 83)).alloc (.cells #[.int .i64 0,.string ⟨#[]⟩,.string ⟨#[]⟩] 48)):=((Below.refl _ _).alloc (Nat.le_refl _) _).alloc (by simp) _
 go_enter Tryz.func33,Tryz.ntmps33
 go_wp2_with fail
 generalize (w.alloc (.cells #[.int .i64 k,.int .i64 p,.int .i64 q] 83)).alloc (.cells #[.int .i64 0,.string ⟨#[]⟩,.string ⟨#[]⟩] 48)=w0 at g0 g1 hb0 ⊢
 have hsz:w.heap.size+1 < w0.heap.size:=lt_of_heap g1
 obtain ⟨c0,c1,c2,_,_,_⟩:=res_cells g0
 obtain ⟨d0,d1,d2,f0,f1,f2⟩:=res_cells g1
 have HG:=hide (And.intro g0 (And.intro g1 hb0))
 have hl4:=pickB_lt k (n:=4) (by decide)
 have HPK:Hid (∀ w',Calls Tryz.prog 23 #[.int .i64 k,.int .i64 4] w' fun e w''=>e=.returned (.int .i64 (pickB k 4))∧w''=w'):=fun w'=>pick_any k 4 w' hk.1 hk.2 (by decide) (by decide)
 have HNP:Hid (∀ w',Calls Tryz.prog 61 #[.int .i64 p] w' fun e w''=>e=.returned (.string (rawF k p q).p)∧Below w'.heap.size w' w''):=fun w'=>qname_any p w' hp.1 hp.2
 have HNQ:Hid (∀ w',Calls Tryz.prog 61 #[.int .i64 q] w' fun e w''=>e=.returned (.string (rawF k p q).q)∧Below w'.heap.size w' w''):=fun w'=>qname_any q w' hq.1 hq.2
 have HRK:Hid ((rawF k p q).k=1+(pickB k 4:Int)):=rfl
 have HFI:Hid (∀ w3,Below w0.heap.size w0 w3→Below w.heap.size w (((w3.setCell ⟨w.heap.size+1,0,none⟩ (.int .i64 (1+(pickB k 4:Int)))).setCell ⟨w.heap.size+1,1,none⟩ (.string (rawF k p q).p)).setCell ⟨w.heap.size+1,2,none⟩ (.string (rawF k p q).q))):=by
  intro w3 h3
  have h4:Below w.heap.size w w3:=HG.out.2.2.trans (h3.mono HG.out.2.2.size)
  exact ((h4.setCell (p:=⟨w.heap.size+1,0,none⟩) (by show w.heap.size≤w.heap.size+1; omega) _).setCell (p:=⟨w.heap.size+1,1,none⟩) (by show w.heap.size≤w.heap.size+1; omega) _).setCell (p:=⟨w.heap.size+1,2,none⟩) (by show w.heap.size≤w.heap.size+1; omega) _
 generalize hR:rawF k p q=R at *
 obtain ⟨Rk,Rp,Rq⟩:=R
 have HR:=hide hR
 clear hR
 simp only at HRK HNP HNQ HFI
 clear g0 g1 hb0 hk hp hq
 generalize pickB k 4=kk at *
 have hwr:IntKind.i64.wrap (1+(kk:Int))=1+(kk:Int):=by rw [wrap_i64 _ (by omega) (by omega)]
 go_region_with (first
  | (go_at_call 23; refine (HPK.out _).mono ?_; rintro e w' ⟨rfl,rfl⟩)
  | (go_at_call_of 61 (Value.int IntKind.i64 p); refine (HNP.out _).mono ?_; rintro e w2 ⟨rfl,hb2⟩; have HB2:Hid (Below w0.heap.size w0 w2):=⟨hb2.os,hb2.tape,hb2.output,hb2.size,hb2.block⟩; have x0:=res_cells (Below.heapAt HB2.out HG.out.1 (lt_of_heap HG.out.1)); have x1:=res_cells (Below.heapAt HB2.out HG.out.2.1 (lt_of_heap HG.out.2.1)); obtain ⟨y0,y1,y2,_,_,_⟩:=x0; obtain ⟨z0,z1,z2,z3,z4,z5⟩:=x1; clear hb2)
  | (go_at_call_of 61 (Value.int IntKind.i64 q); refine (HNQ.out _).mono ?_; rintro e w3 ⟨rfl,hb3⟩; have HB3:Hid (Below w0.heap.size w0 w3):=HB2.out.trans (Below.mono ⟨hb3.os,hb3.tape,hb3.output,hb3.size,hb3.block⟩ HB2.out.size); have x2:=res_cells (Below.heapAt HB3.out HG.out.2.1 (lt_of_heap HG.out.2.1)); obtain ⟨v0,v1,v2,v3,v4,v5⟩:=x2; clear hb3))
 all_goals
  go_wp2
  refine bodyPost_ret (v:=.agg #[.int .i64 (1+(kk:Int)),.string Rp,.string Rq]) (by simp [results,Tryz.results33,go_sem,v0,v1,v2]) rfl ⟨by rw [HR.out,← HRK.out],HFI.out w3 HB3.out⟩
end
section
open Go.RowKit Go.Maps
structure RawD where
 k:Int
 p:Int
 q:Int
def RawD.fct (r:RawD):Fct:=rawF r.k r.p r.q
def RawD.ok (r:RawD):Prop:=inI r.k∧inI r.p∧inI r.q
def IsRaws (v:Value) (rs:List RawD) (w:World):Prop:=
 ∃ ao cap,v=.slice ao rs.length cap∧rs.length≤cap∧(rs≠[]→∃ b off,ao=some ⟨b,off,none⟩∧b < w.heap.size∧∀ (i:Nat) r,rs[i]?=some r→w.cell? ⟨b,off+i * 3,none⟩=some (.int .i64 r.k)∧w.cell? ⟨b,off+i * 3+1,none⟩=some (.int .i64 r.p)∧w.cell? ⟨b,off+i * 3+2,none⟩=some (.int .i64 r.q))
structure FaInv (w wr:World) (rs:List RawD) (i:Nat) (v:Value):Prop where
 own:wr.ownsRow w.heap.size 48 3 v i (cellsF ((rs.take i).map RawD.fct))
 blw:Below w.heap.size w wr
set_option maxRecDepth 100000 in
set_option maxHeartbeats 2000000 in
theorem kfacts_any (v:Value) (rs:List RawD) (most:Nat) (w:World) (hlen:rs.length≤maxLen) (hm:most≤1000) (hv:IsRaws v rs w) (hok:∀ r∈rs,r.ok) :
  Calls Tryz.prog 13 #[v,.int .i64 most] w fun e w'=>∃ v,e=.returned v∧w'.ownsRow w.heap.size 48 3 v ((rs.take most).map RawD.fct).length (cellsF ((rs.take most).map RawD.fct))∧Below w.heap.size w w':=by
 obtain ⟨i0,hi0,hz0,hz1,hz2⟩:=info_parts infoFact
 obtain ⟨ao,cap,rfl,hcap,hne⟩:=hv
 have HNE:=hide hne
 have HOK:=hide hok
 clear hne hok
 unfold maxLen at hlen
 go_enter Tryz.func13,Tryz.ntmps13
 go_wp2
 go_loopw [5,6] (fun v iv wr=>∃ i:Nat,iv=.int .i64 i∧i≤rs.length∧i≤most∧FaInv w wr rs i v) (fun _ iv _=>most - (intOf iv).toNat)
 case atStart=>exact ⟨0,rfl,Nat.zero_le _,Nat.zero_le _,World.ownsRow_nil _ _ _ _,Below.refl _ _⟩
 case round=>
  obtain ⟨i,rfl,hi1,hi2,hI⟩:=hrel
  have HI:=hide hI
  have hbx:=hI.blw
  by_cases h1:i < rs.length
  ·by_cases h2:i < most
   ·obtain ⟨r,hr⟩:∃ r,rs[i]?=some r:=⟨_,List.getElem?_eq_getElem h1⟩
    have hnil:rs≠[]:=by intro e; rw [e] at h1; simp at h1
    obtain ⟨b,off,rfl,hb,hc⟩:=HNE.out hnil
    obtain ⟨a0,a1,a2⟩:=hc i r hr
    have c0:=(hbx.cell (p:=⟨b,_,none⟩) hb).trans a0
    have c1:=(hbx.cell (p:=⟨b,_,none⟩) hb).trans a1
    have c2:=(hbx.cell (p:=⟨b,_,none⟩) hb).trans a2
    obtain ⟨o1,o2,o3⟩:=HOK.out r (List.mem_of_getElem? hr)
    have hfa:=kfact_any r.k r.p r.q wr o1 o2 o3
    have HST:Hid (∀ (w3:World) v',w3.ownsRow w.heap.size 48 3 v' (i+1) (cellsF ((rs.take i).map RawD.fct) ++ [.int .i64 r.fct.k,.string r.fct.p,.string r.fct.q])→Below w.heap.size w w3→FaInv w w3 rs (i+1) v'):=by
     intro w3 v' h3 h4
     refine ⟨?_,h4⟩
     rw [take_next hr,List.map_append,List.map_singleton,cellsF_snoc]
     exact h3
    obtain ⟨va,vc,rfl,_⟩:=own_form hI.own
    clear hI a0 a1 a2 hc hr o1 o2 o3
    go_wp2_with fail
    refine hfa.mono ?_
    rintro e w2 ⟨rfl,hb2⟩
    have ho2:=own_below HI.out.own hb2
    have hB2:Below w.heap.size w w2:=hbx.trans (hb2.mono hbx.size)
    have HO2:=hide ho2
    clear hfa ho2 hb2 c0 c1 c2
    go_wp2_with (first | (at_builtin; refine wpList_append_own _ rfl _ _ 36 rfl w.heap.size 48 i0 (.agg #[.int .i64 0,.string ⟨#[]⟩,.string ⟨#[]⟩]) 3 40 Tryz.underlying36 hi0 hz0 hz1 hz2 rfl (by decide) _ _ _ rfl (HO2.out.alloc _) ⟨w2.heap.size,0,none⟩ 1 1 [.int .i64 (rawF r.k r.p r.q).k,.string (rawF r.k r.p r.q).p,.string (rawF r.k r.p r.q).q] rfl rfl (cell_three_new _ _ _ _ _) ?x6 ?x7 ?x8 ?x9 ?_) | go_in)
    case x6=>intro u hu; simp at hu; rcases hu with rfl | rfl | rfl <;> rfl
    case x7=>unfold maxLen; omega
    case x8=>omega
    case x9=>have:=hB2.size; simp; omega
    intro v' w3 ho3 hg3 _
    have hB3:Below w.heap.size w w3:=(hB2.alloc hB2.size _).grown hg3 (by have:=hB2.size; simp; omega) (fun j hj=>(HO2.out.lt j hj).1)
    have hnx:=HST.out w3 v' (by rw [List.map_take]; exact ho3) hB3
    clear ho3 hg3
    go_wp2
    go_round
    case rel=>exact ⟨i+1,by go_num,h1,h2,hnx⟩
    case measure=>simp [intOf]; omega
   ·have hie:i=most:=by omega
    have HF:Hid (rs.take most=rs.take i):=by rw [hie]; rfl
    have hd2:decide ((i:Int) < (most:Int))=false:=by simp; omega
    clear hI
    go_wp2
    go_ret
    exact ⟨_,rfl,by rw [HF.out]; simpa [Nat.min_eq_left hi1] using HI.out.own,hbx⟩
  ·have hie:i=rs.length:=by omega
   have HF:Hid (rs.take most=rs.take i):=by unfold Hid; rw [List.take_of_length_le (by omega),List.take_of_length_le (by omega)]
   have hd1:decide ((i:Int) < (rs.length:Int))=false:=by simp; omega
   clear hI
   go_wp2
   go_ret
   exact ⟨_,rfl,by rw [HF.out]; simpa [Nat.min_eq_left hi1] using HI.out.own,hbx⟩
end
section
open Go.RowKit Go.Maps
theorem nodup_le {l:List ByteArray}:∀ {m:List ByteArray},l.Nodup→(∀ x∈l,x∈m)→l.length≤m.length:=by
 induction l with
 | nil=>intro m _ _; exact Nat.zero_le _
 | cons a r ih=>
  intro m hn hs
  obtain ⟨h1,h2⟩:=List.nodup_cons.1 hn
  obtain ⟨s,t,rfl⟩:=List.append_of_mem (hs a (by simp))
  have:=ih (m:=s ++ t) h2 (fun x hx=>by
   have h3:=hs x (by simp [hx])
   have hne:x≠a:=by intro e; subst e; exact h1 hx
   simp only [List.mem_append,List.mem_cons] at h3 ⊢
   rcases h3 with h3 | h3 | h3
   ·exact .inl h3
   ·exact absurd h3 hne
   ·exact .inr h3)
  simp only [List.length_append,List.length_cons] at this ⊢
  omega
def allQ:List ByteArray:=(List.range 20).map nmQ
theorem raw_names (r:RawD):r.fct.p∈allQ∧r.fct.q∈allQ:=by
 have h1:=pickB_lt r.p (n:=20) (by decide)
 have h2:=pickB_lt r.q (n:=20) (by decide)
 exact ⟨List.mem_map.2 ⟨_,List.mem_range.2 h1,rfl⟩,List.mem_map.2 ⟨_,List.mem_range.2 h2,rfl⟩⟩
theorem raw_count {fs:List Fct} (h:∀ f∈fs,f.p∈allQ∧f.q∈allQ):dcount (namesL fs)≤20:=by
 rw [← names_length]
 have:=nodup_le (ns_nodup fs) (m:=allQ) (fun x hx=>by
  obtain ⟨f,hf,he⟩:=mem_ns.1 hx
  rcases he with rfl | rfl
  ·exact (h f hf).1
  ·exact (h f hf).2)
 have e:allQ.length=20:=by simp [allQ]
 rw [e] at this
 exact this
theorem raw_ok {rs:List RawD}:∀ {pre:List Fct},(∀ f∈pre,f.p∈allQ∧f.q∈allQ)→pre.length+rs.length≤120→okGo pre (rs.map RawD.fct):=by
 induction rs with
 | nil=>intro pre _ _; trivial
 | cons r q ih=>
  intro pre hp hl
  have hall:∀ f∈pre ++ [r.fct],f.p∈allQ∧f.q∈allQ:=by
   intro f hf
   rcases List.mem_append.1 hf with hf | hf
   ·exact hp f hf
   ·rw [List.mem_singleton.1 hf]; exact raw_names r
  have h1:=(nmQ_name (pickB_lt r.p (n:=20) (by decide))).2
  have h2:=(nmQ_name (pickB_lt r.q (n:=20) (by decide))).2
  have h1':r.fct.p.size=2:=h1
  have h2':r.fct.q.size=2:=h2
  have hc:=raw_count hall
  simp only [List.length_cons] at hl
  refine ⟨rawF_ok r.k r.p r.q,errOf_ok (by omega) (by omega) (by omega),ih hall ?_⟩
  rw [List.length_append]
  show pre.length+1+q.length≤120
  omega
end
section
open Go.RowKit
end
section
open Go.RowKit Go.Maps
theorem size_zero {l:ByteArray} (h:l.size=0):l=⟨#[]⟩:=by
 obtain ⟨⟨l⟩⟩:=l
 cases l with
 | nil=>rfl
 | cons a b=>simp [ByteArray.size] at h
theorem not_empty {l:ByteArray} (h:¬ l.size=0):l.toList.isEmpty=false:=by
 rw [ByteArray.toList_eq]
 obtain ⟨⟨l⟩⟩:=l
 cases l with
 | nil=>exact absurd rfl h
 | cons a b=>rfl
end
section
open Go.RowKit Go.Maps
set_option maxRecDepth 100000 in
theorem step_clone {ops:Array Oper} {o:Oper} {a:Act} {w:World} {K:Act→World→Prop} {Q:Exit→Act→World→Prop} {E:Prop} (hgd:o.guard=none) (t:Nat)
  (ho:o.op=Op.call { callee:=Callee.value (Operand.func 101),args:=#[.tmp t],argTypes:=#[9] }) (s:ByteArray) (hs:s.size≤1000000) (hx:a.eval (.tmp t)=.string s)
  (hK:∀ w',Below w.heap.size w w'→K (a.put o.dst (.string s)) w'):if Region.wanted o (yielded ops a.tmps)=true then Oper.wp Tryz.prog o a w K Q else E:=by
 have hw:Region.wanted o (yielded ops a.tmps)=true:=by simp [Region.wanted,hgd]
 rw [if_pos hw]
 unfold Oper.wp execOp
 simp only [ho]
 go_simp
 have hx2:a.tmps[t]?.getD undef=.string s:=by simpa [Act.eval] using hx
 rw [hx2]
 refine (clone_any s w hs).mono ?_
 rintro e w' ⟨rfl,hb⟩
 exact hK w' hb
end
end Go.Proofs.YtiamlbhkiehilaaGreatDoor
