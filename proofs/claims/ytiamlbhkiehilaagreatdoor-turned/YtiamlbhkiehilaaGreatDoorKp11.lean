import Derived.Test.YtiamlbhkiehilaaGreatDoorKp07
import Derived.Lib.RowBridge
import Derived.Sort.Walk0
import Derived.Test.YtiamlbhkiehilaaGreatDoorKp10
import Derived.Test.YtiamlbhkiehilaaGreatDoorKpSh
import Derived.Lib.OwnBridge
namespace Go.Proofs.YtiamlbhkiehilaaGreatDoor
section
open Go.Lib
abbrev BL:=List UInt8
theorem le_bl (x y:BL):x≤y↔Op.bytesLess y x=false:=by
 rw [Go.Proofs.bytesLess_eq]
 simp
theorem le_bl_trans {x y z:BL} (h1:x≤y) (h2:y≤z):x≤z:=by
 rw [le_bl] at *
 cases h:Op.bytesLess z x
 ·rfl
 ·by_cases e:y=z
  ·rw [e,h] at h1; cases h1
  ·have:=bl_total _ _ h2 (Ne.symm e)
   rw [bl_trans _ _ _ this h] at h1
   cases h1
theorem le_bl_total (x y:BL):x≤y∨y≤x:=by
 rw [le_bl,le_bl]
 cases h:Op.bytesLess y x
 ·exact .inl rfl
 ·right
  cases h2:Op.bytesLess x y
  ·rfl
  ·have:=bl_trans _ _ _ h h2
   rw [bl_irrefl] at this
   cases this
theorem le_lt_bl {x y z:BL} (h1:x≤y) (h2:y≤z) (h3:y≠z):Op.bytesLess x z=true:=by
 rw [le_bl] at *
 have h4:=bl_total _ _ h2 (Ne.symm h3)
 by_cases e:x=y
 ·rw [e]; exact h4
 ·exact bl_trans _ _ _ (bl_total _ _ h1 (Ne.symm e)) h4
theorem compact_up (d:Array BL) (hs:∀ i j,i≤j→j < d.size→d[i]!≤d[j]!):∀ m,m≤d.size→(compactUpTo d m).Pairwise (fun x y=>Op.bytesLess x y=true)∧(∀ x,x∈compactUpTo d m↔∃ j,j < m∧d[j]! = x):=by
 intro m
 induction m with
 | zero=>intro _; simp [compactUpTo]
 | succ m ih=>
  intro hm
  obtain ⟨h1,h2⟩:=ih (by omega)
  rw [compactUpTo_succ]
  by_cases hk:keeps d m=true
  ·rw [if_pos hk]
   refine ⟨?_,fun x=>?_⟩
   ·rw [List.pairwise_append]
    refine ⟨h1,by simp,fun x hx y hy=>?_⟩
    rw [List.mem_singleton.1 hy]
    obtain ⟨j,hj,rfl⟩:=(h2 x).1 hx
    have hm0:m≠0:=by omega
    have hne:d[m]!≠d[m - 1]!:=by
     simp [keeps,hm0] at hk
     exact hk
    exact le_lt_bl (hs j (m - 1) (by omega) (by omega)) (hs (m - 1) m (by omega) (by omega)) (Ne.symm hne)
   ·rw [List.mem_append,h2,List.mem_singleton]
    constructor
    ·rintro (⟨j,hj,e⟩ | e)
     ·exact ⟨j,by omega,e⟩
     ·exact ⟨m,by omega,e.symm⟩
    ·rintro ⟨j,hj,e⟩
     by_cases ej:j=m
     ·right; rw [← e,ej]
     ·exact .inl ⟨j,by omega,e⟩
  ·rw [if_neg hk,List.append_nil]
   refine ⟨h1,fun x=>?_⟩
   rw [h2]
   constructor
   ·rintro ⟨j,hj,e⟩
    exact ⟨j,by omega,e⟩
   ·rintro ⟨j,hj,e⟩
    by_cases ej:j=m
    ·have hm0:m≠0:=fun e0=>hk (keeps_lt_one d m (by omega))
     have:d[m]! = d[m - 1]!:=by
      simp [keeps,hm0] at hk
      exact hk
     exact ⟨m - 1,by omega,by rw [← e,ej,this]⟩
    ·exact ⟨j,by omega,e⟩
theorem asc_ext:∀ {a b:List BL},a.Pairwise (fun x y=>Op.bytesLess x y=true)→b.Pairwise (fun x y=>Op.bytesLess x y=true)→(∀ x,x∈a↔x∈b)→a=b:=by
 intro a
 induction a with
 | nil=>
  intro b _ _ h
  cases b with
  | nil=>rfl
  | cons y r=>exact absurd ((h y).2 List.mem_cons_self) (by simp)
 | cons x r ih=>
  intro b ha hb h
  cases b with
  | nil=>exact absurd ((h x).1 List.mem_cons_self) (by simp)
  | cons y t=>
   obtain ⟨a1,a2⟩:=List.pairwise_cons.1 ha
   obtain ⟨b1,b2⟩:=List.pairwise_cons.1 hb
   have e:x=y:=by
    rcases List.mem_cons.1 ((h x).1 List.mem_cons_self) with e | hx
    ·exact e
    ·rcases List.mem_cons.1 ((h y).2 List.mem_cons_self) with e | hy
     ·exact e.symm
     ·have:=bl_trans _ _ _ (a1 y hy) (b1 x hx)
      rw [bl_irrefl] at this
      cases this
   subst e
   congr 1
   refine ih a2 b2 (fun z=>?_)
   constructor
   ·intro hz
    rcases List.mem_cons.1 ((h z).1 (List.mem_cons_of_mem _ hz)) with e | hz2
    ·rw [e] at hz
     have:=a1 x hz
     rw [bl_irrefl] at this
     cases this
    ·exact hz2
   ·intro hz
    rcases List.mem_cons.1 ((h z).2 (List.mem_cons_of_mem _ hz)) with e | hz2
    ·rw [e] at hz
     have:=b1 x hz
     rw [bl_irrefl] at this
     cases this
    ·exact hz2
theorem mem_namesS {l:List ByteArray} {x:ByteArray}:x∈namesS l↔x∈l:=by
 have key:∀ (l out:List ByteArray),x∈l.foldl insN out↔x∈out∨x∈l:=by
  intro l
  induction l with
  | nil=>intro out; simp
  | cons a r ih=>
   intro out
   rw [List.foldl_cons,ih]
   have h1:x∈insN out a↔x=a∨x∈out:=by
    by_cases h:out[insAt out a]?=some a
    ·rw [insN_old rfl h]
     exact ⟨.inr,fun h2=>h2.elim (fun e=>e ▸ List.mem_of_getElem? h) id⟩
    ·rw [insN_new rfl h,List.mem_append,List.mem_cons]
     constructor
     ·rintro (h2 | h2 | h2)
      ·exact .inr (List.mem_of_mem_take h2)
      ·exact .inl h2
      ·exact .inr (List.mem_of_mem_drop h2)
     ·rintro (h2 | h2)
      ·exact .inr (.inl h2)
      ·rw [← List.take_append_drop (insAt out a) out,List.mem_append] at h2
       exact h2.elim .inl (fun h3=>.inr (.inr h3))
   rw [h1,List.mem_cons]
   constructor
   ·rintro ((h2 | h2) | h2)
    ·exact .inr (.inl h2)
    ·exact .inl h2
    ·exact .inr (.inr h2)
   ·rintro (h2 | h2 | h2)
    ·exact .inl (.inr h2)
    ·exact .inl (.inl h2)
    ·exact .inr h2
 unfold namesS
 rw [key]
 simp
theorem names_compact (l:List ByteArray):compact ((l.map (·.data.toList)).mergeSort fun x y=>decide (x≤y))=(namesS l).map (·.data.toList):=by
 obtain ⟨zs,hzs⟩:∃ zs,zs=(l.map (·.data.toList)).mergeSort fun x y=>decide (x≤y):=⟨_,rfl⟩
 rw [← hzs]
 have hp:zs.Pairwise (fun x y=>decide (x≤y)=true):=by
  rw [hzs]
  refine List.pairwise_mergeSort (fun a b c h1 h2=>?_) (fun a b=>?_) _
  ·simp only [decide_eq_true_eq] at *
   exact le_bl_trans h1 h2
  ·have:=le_bl_total a b
   simpa using this
 have hs:∀ i j,i≤j→j < zs.toArray.size→zs.toArray[i]!≤zs.toArray[j]!:=by
  intro i j hij hj
  have hj':j < zs.length:=by simpa using hj
  rw [getElem!_pos zs.toArray i (by simp; omega),getElem!_pos zs.toArray j hj]
  simp only [List.getElem_toArray]
  by_cases e:i=j
  ·subst e
   exact (le_bl_total _ _).elim id id
  ·have:=List.pairwise_iff_getElem.1 hp i j (by omega) hj' (by omega)
   simpa using this
 obtain ⟨h1,h2⟩:=compact_up zs.toArray hs zs.length (by simp)
 refine asc_ext h1 ?_ (fun x=>?_)
 ·have h3:Asc (namesS l):=asc_names l
  unfold Asc at h3
  rw [List.pairwise_map]
  refine h3.imp (fun {a b} hab=>?_)
  have e:lessS a b=Op.bytesLess a.toList b.toList:=rfl
  rw [e] at hab
  simpa [ByteArray.toList_eq] using hab
 ·have e:x∈compact zs↔x∈zs:=by
   refine (h2 x).trans ?_
   constructor
   ·rintro ⟨j,hj,e⟩
    rw [getElem!_pos zs.toArray j (by simpa using hj)] at e
    rw [← e]
    simp
   ·intro hx
    obtain ⟨j,hj,e⟩:=List.getElem_of_mem hx
    refine ⟨j,hj,?_⟩
    rw [getElem!_pos zs.toArray j (by simpa using hj)]
    simpa using e
  rw [e,hzs,(List.mergeSort_perm _ _).mem_iff,List.mem_map,List.mem_map]
  constructor
  ·rintro ⟨a,ha,e⟩
   exact ⟨a,mem_namesS.2 ha,e⟩
  ·rintro ⟨a,ha,e⟩
   exact ⟨a,mem_namesS.1 ha,e⟩
end
section
open Go.RowKit Go.Sort Go.Lib
def cellsS (ss:List ByteArray):List Value:=ss.map Value.string
structure NmI (w wr:World) (fs:List Fct) (i:Nat) (v:Value):Prop where
 own:wr.ownsRow w.heap.size 9 1 v (2 * i) (cellsS (strsOf (fs.take i)))
 blw:Below w.heap.size w wr
 nil:i=0→v=.slice none 0 0
theorem strs_next {fs:List Fct} {i:Nat} {f:Fct} (h:fs[i]?=some f):strsOf (fs.take (i+1))=strsOf (fs.take i) ++ [f.p,f.q]:=by
 rw [take_next h]
 simp [strsOf]
theorem below_grow {B:Nat} {w0 w:World} (h:Below B w0 w) (hB:B≤w.heap.size) (os:Array Obj):Below B w0 (grow w os):=
 ⟨h.os,h.tape,h.output,by have:=h.size; simp [grow]; omega,fun k hk=>by rw [← h.block k hk]; exact heap_grow_old w os (by omega)⟩
set_option maxRecDepth 100000 in
theorem insert_nil_any (w:World):Calls Tryz.prog 136 #[.slice none 0 0,.int .i64 0,.int .i64 0] w fun e w'=>e=.returned (.tuple #[])∧w'=w:=by
 go_enter Tryz.func136,Tryz.ntmps136
 go_wp2
 go_loopw [6] (fun v wr=>v=.int .i64 1∧wr=w) (fun _ _=>0)
 case atStart=>exact ⟨rfl,rfl⟩
 case round=>
  obtain ⟨rfl,rfl⟩:=hrel
  go_wp2
  go_end0
  exact ⟨rfl,rfl⟩
set_option maxRecDepth 100000 in
theorem pdq_nil_any (l:Int) (w:World):Calls Tryz.prog 106 #[.slice none 0 0,.int .i64 0,.int .i64 0,.int .i64 l] w fun e w'=>e=.returned (.tuple #[])∧w'=w:=by
 have HI:=insert_nil_any w
 go_enter Tryz.func106,Tryz.ntmps106
 go_wp2
 go_loopw [1,2] (fun a b wr=>a=.int .i64 0∧b=.int .i64 0∧wr=w) (fun _ _ _=>0)
 case atStart=>exact ⟨rfl,rfl,rfl⟩
 case round=>
  obtain ⟨rfl,rfl,rfl⟩:=hrel
  go_wp2_with fail
  refine HI.mono ?_
  clear HI
  rintro e w2 ⟨rfl,rfl⟩
  go_wp2
  refine bodyPost_ret (results_none rfl _ _ _) rfl ?_
  exact ⟨rfl,rfl⟩
set_option maxRecDepth 100000 in
theorem sort_nil_any (w:World):Calls Tryz.prog 82 #[.slice none 0 0] w fun e w'=>e=.returned (.tuple #[])∧w'=w:=by
 have HL:=Tryz.bits_Len 0 w (by decide) (by decide)
 have HP:=pdq_nil_any (Lib.bitLen (0:Int).toNat) w
 go_enter Tryz.func82,Tryz.ntmps82
 go_wp2_with fail
 refine HL.mono ?_
 clear HL
 rintro e w1 ⟨rfl,rfl⟩
 go_wp2_with fail
 refine HP.mono ?_
 clear HP
 rintro e w2 ⟨rfl,rfl⟩
 go_wp2
 go_end0
 exact ⟨rfl,rfl⟩
set_option maxRecDepth 100000 in
set_option maxHeartbeats 1000000 in
theorem namesOf_any (v:Value) (fs:List Fct) (w:World) (hlen:fs.length≤1000) (hv:IsFacts v fs w) :
  Calls Tryz.prog 56 #[v] w fun e w'=>∃ vn,e=.returned vn∧IsStrs vn (namesS (strsOf fs)) w'∧Below w.heap.size w w':=by
 obtain ⟨i0,hi0,hz0,hz1,hz2⟩:=info_parts infoStr
 obtain ⟨ao,cap,rfl,hc1,hc2,hne⟩:=hv
 have HNE:=hide hne
 clear hne
 go_enter Tryz.func56,Tryz.ntmps56
 go_wp2
 go_loopw [3,8] (fun v iv wr=>∃ i:Nat,iv=.int .i64 i∧i≤fs.length∧NmI w wr fs i v) (fun _ iv _=>fs.length - (intOf iv).toNat)
 case atStart=>exact ⟨0,rfl,Nat.zero_le _,World.ownsRow_nil _ _ _ _,Below.refl _ _,fun _=>rfl⟩
 case round=>
  obtain ⟨i,rfl,hi1,hI⟩:=hrel
  have HI:=hide hI
  have hbx:=hI.blw
  by_cases h1:i < fs.length
  ·obtain ⟨f,hr⟩:∃ f,fs[i]?=some f:=⟨_,List.getElem?_eq_getElem h1⟩
   have hnil:fs≠[]:=by intro e; rw [e] at h1; simp at h1
   obtain ⟨b,off,rfl,hb,hc⟩:=HNE.out hnil
   obtain ⟨a0,a1,a2⟩:=hc i f.k f.p f.q hr
   have c0:=(hbx.cell (p:=⟨b,_,none⟩) hb).trans a0
   have c1:=(hbx.cell (p:=⟨b,_,none⟩) hb).trans a1
   have c2:=(hbx.cell (p:=⟨b,_,none⟩) hb).trans a2
   have HST:Hid (∀ (w3:World) v',w3.ownsRow w.heap.size 9 1 v' (2 * i+2) (cellsS (strsOf (fs.take i)) ++ [.string f.p,.string f.q])→Below w.heap.size w w3→NmI w w3 fs (i+1) v'):=by
    intro w3 v' h3 h4
    refine ⟨?_,h4,fun e=>by omega⟩
    rw [strs_next hr]
    unfold cellsS at *
    rw [List.map_append,show 2 * (i+1)=2 * i+2 by omega]
    exact h3
   obtain ⟨va,vc,rfl,_⟩:=own_form hI.own
   clear hI a0 a1 a2 hc hr
   go_wp2_with (first | (at_builtin; refine wpList_append_own _ rfl _ _ 44 rfl w.heap.size 9 i0 (.string ⟨#[]⟩) 1 16 Tryz.underlying44 hi0 hz0 hz1 hz2 rfl (by decide) _ _ _ rfl ((HI.out.own.alloc _).alloc _) ⟨(wr.alloc (.cells #[.int .i64 f.k,.string f.p,.string f.q] 48)).heap.size,0,none⟩ 2 2 [.string f.p,.string f.q] (by simp [Act.eval]) rfl (cells_new _ _ _ _ rfl) ?x6 ?x7 ?x8 ?x9 ?_) | go_in)
   case x6=>intro u hu; simp at hu; rcases hu with rfl | rfl <;> rfl
   case x7=>unfold maxLen; omega
   case x8=>omega
   case x9=>have:=hbx.size; simp; omega
   intro v' w3 ho3 hg3 _
   have hB3:Below w.heap.size w w3:=((hbx.alloc hbx.size _).alloc (by have:=hbx.size; simp; omega) _).grown hg3 (by have:=hbx.size; simp; omega) (fun j hj=>(HI.out.own.lt j hj).1)
   have hnx:=HST.out w3 v' ho3 hB3
   clear ho3 hg3
   go_wp2
   go_round
   case rel=>exact ⟨i+1,by go_num,h1,hnx⟩
   case measure=>simp [intOf]; omega
  ·have hie:i=fs.length:=by omega
   subst hie
   have ho:=hI.own
   have hnil0:=hI.nil
   rw [List.take_of_length_le (Nat.le_refl _)] at ho
   clear hI HI
   have HEq:=hide (names_compact (strsOf fs))
   by_cases hnil:fs=[]
   ·have HS:=sort_nil_any wr
    have hv0:=hnil0 (by rw [hnil]; rfl)
    subst hv0
    have HC:=Tryz.slices_Compact_string_empty none 0 wr
    have HN:Hid (namesS (strsOf fs)=[]):=by rw [hnil]; exact hide rfl
    clear HEq ho hnil0
    go_wp2_with fail
    refine HS.mono ?_
    clear HS
    rintro e w1 ⟨rfl,rfl⟩
    go_wp2_with fail
    refine HC.mono ?_
    clear HC
    rintro e w1 ⟨rfl,rfl⟩
    go_wp2
    go_ret
    refine ⟨_,rfl,?_,hbx⟩
    rw [HN.out]
    exact ⟨none,0,rfl,Nat.le_refl _,fun _=>rfl,fun h=>absurd rfl h⟩
   ·have hpos:0 < fs.length:=List.length_pos_iff.2 hnil
    have hvn:u3≠.slice none 0 0:=by
     rintro rfl
     obtain ⟨ao',cap',e,_⟩:=own_form ho
     injection e with _ e _
     omega
    have ho2:wr.ownsRow w.heap.size 9 1 u3 (2 * fs.length) (((strsOf fs).map (·.data.toList)).map encStr):=by
     rw [map_encStr]
     exact ho
    obtain ⟨g,cap',rfl,hBg,hgw,hncap,hcm,hlz,hH⟩:=holds_of_ownsRow ho2 hvn
    have HSo:=Tryz.slices_Sort_string g 0 cap' ((strsOf fs).map (·.data.toList)) wr hH hgw (by rw [hlz]; omega)
    rw [hlz] at HSo
    obtain ⟨zs,hzs⟩:∃ zs,zs=((strsOf fs).map (·.data.toList)).mergeSort fun x y=>decide (x≤y):=⟨_,rfl⟩
    rw [← hzs] at HSo
    have hzl:zs.length=2 * fs.length:=by rw [hzs,List.length_mergeSort,hlz]
    have HZ:=hide hzs
    have HH:=hide hH
    clear hzs ho ho2 hH hlz hvn hnil0
    go_wp2_with fail
    refine HSo.mono ?_
    clear HSo
    rintro e w1 ⟨rfl,q1,os,hw1⟩
    have hH1:Holds encStr w1 g 0 zs.toArray:=by
     rw [hw1]
     exact holds_grow _ _ _ _ _ _ (by simpa using hgw) (holds_putRow _ _ _ _ _ _ (fun j hj=>HH.out j hj) (by simp [hzl,strsOf_length]))
    have HCo:=Tryz.slices_Compact_string g 0 cap' zs w1 hH1 (by omega) (by omega)
    rw [hzl,HZ.out,HEq.out,List.length_map] at HCo
    have hb1:RowKit.Below w.heap.size w w1:=by
     rw [hw1]
     exact below_grow (below_putRow hbx hBg) (by simpa using hbx.size) _
    have HH1:=hide hH1
    have hg1:g < w1.heap.size:=by rw [hw1]; simp; omega
    clear hw1 hH1
    go_wp2_with fail
    refine HCo.mono ?_
    clear HCo
    rintro e w2 ⟨rfl,q2,hw2⟩
    have hnl:(namesS (strsOf fs)).length≤2 * fs.length:=by
     have:=compact_length_le zs
     rw [HZ.out,HEq.out,List.length_map,← HZ.out,hzl] at this
     exact this
    have HF:Hid (IsStrs (.slice (some ⟨g,0,none⟩) (namesS (strsOf fs)).length cap') (namesS (strsOf fs)) w2∧RowKit.Below w.heap.size w w2):=by
     refine hide ⟨⟨some ⟨g,0,none⟩,cap',rfl,by omega,(by intro h; cases h),fun _=>⟨g,0,rfl,?_,?_⟩⟩,?_⟩
     ·rw [hw2]; simpa using hg1
     ·intro i s hi
      rw [hw2]
      have hil:=(List.getElem?_eq_some_iff.1 hi).1
      have hd:((List.map (fun x:ByteArray=>x.data.toList) (namesS (strsOf fs)) ++ List.replicate (2 * fs.length - (namesS (strsOf fs)).length) []).toArray).size=zs.toArray.size:=by
       simp [hzl]; omega
      rw [cell?_putRow encStr (Go.Sort.ahead w1 q2) g 0 zs.toArray _ (fun j hj=>HH1.out j hj) hd i (by simp; omega),getElem!_pos _ i (by simp; omega)]
      rw [List.getElem?_eq_getElem hil] at hi
      injection hi with hi
      simp only [List.getElem_toArray,encStr]
      rw [List.getElem_append_left (by simpa using hil),List.getElem_map,hi]
     ·rw [hw2]
      exact below_putRow hb1 hBg
    clear hw2
    go_wp2
    go_ret
    exact ⟨_,rfl,HF.out⟩
end
end Go.Proofs.YtiamlbhkiehilaaGreatDoor
