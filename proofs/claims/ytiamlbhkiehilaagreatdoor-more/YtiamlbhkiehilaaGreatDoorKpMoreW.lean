import Derived.Test.YtiamlbhkiehilaaGreatDoorKpMiss
import Derived.Test.YtiamlbhkiehilaaGreatDoorKp50
namespace Go.Proofs.YtiamlbhkiehilaaGreatDoor
open Go.RowKit Go.Shelf Go.Maps
attribute [local go_sem] Oper.semAt_some
attribute [-go_sem] Builtin.append_
theorem IsRaws.below {v:Value} {rs:List RawD} {w w':World} (h:IsRaws v rs w) (hb:Below w.heap.size w w'):IsRaws v rs w':=by
 obtain ⟨ao,cap,h1,h2,h3⟩:=h
 refine ⟨ao,cap,h1,h2,fun hne=>?_⟩
 obtain ⟨b,off,q1,q2,q3⟩:=h3 hne
 refine ⟨b,off,q1,Nat.lt_of_lt_of_le q2 hb.size,fun i r hr=>?_⟩
 obtain ⟨p1,p2,p3⟩:=q3 i r hr
 exact ⟨(hb.cell (p:=⟨b,_,none⟩) q2).trans p1,(hb.cell (p:=⟨b,_,none⟩) q2).trans p2,(hb.cell (p:=⟨b,_,none⟩) q2).trans p3⟩
theorem cellsF_app (A B:List Fct):cellsF (A ++ B)=cellsF A ++ cellsF B:=by simp [cellsF]
theorem app_facts (W:World) (B B':Nat) (vl vm:Value) (fs fs':List Fct) (hl:W.ownsRow B 48 3 vl fs.length (cellsF fs)) (hm:W.ownsRow B' 48 3 vm fs'.length (cellsF fs')) (h1:fs.length≤1000) (h2:fs'.length≤1000) (hB:B≤W.heap.size) :
  ∃ v' w',(Builtin.append_ #[36,36] 36 #[vl,vm]).run Tryz.prog W=.ok v' w'∧w'.ownsRow B 48 3 v' (fs ++ fs').length (cellsF (fs ++ fs'))∧W.grownBy w' vl.ownBlock:=by
 obtain ⟨i0,hi0,hz0,hz1,hz2⟩:=info_parts infoFact
 obtain ⟨mo,mc,rfl,hmo⟩:=own_form hm
 cases mo with
 | none=>
  have h0:fs'=[]:=by
   rcases hm.2 with ⟨_,h9⟩ | ⟨g,cap,cur,h9,_⟩
   ·exact List.length_eq_zero_iff.1 h9
   ·cases h9
  subst h0
  obtain ⟨lo,lc,rfl,_⟩:=own_form hl
  have hle:fs.length≤lc:=by
   rcases hl.2 with ⟨h9,_⟩ | ⟨g,cap,cur,h9,_,_,hnc,_⟩
   ·injection h9 with _ h8 h7
    omega
   ·injection h9 with _ _ h7
    omega
  refine ⟨_,W,run_append_zero Tryz.prog 36 36 48 i0 Tryz.underlying36 hi0 lo none fs.length lc mc hle W,?_,⟨rfl,rfl,rfl,Nat.le_refl _,fun _ _ _=>rfl⟩⟩
  simpa using hl
 | some a=>
  have hc:∀ (j:Nat) u,(cellsF fs')[j]?=some u→W.cell? (a.add j)=some u:=by
   rcases hm.2 with ⟨h9,_⟩ | ⟨g,cap,cur,h9,_⟩
   ·cases h9
   ·injection h9 with h9 _ _
    injection h9 with h9
    subst h9
    intro j u hu
    have:=(own_cell hm).1 j u hu
    simp only [Addr.add_lit]
    simpa using this
  obtain ⟨v',w',hrun,hown',hgrow,_⟩:=run_append_own (P:=Tryz.prog) W B 36 36 48 i0 (.agg #[.int .i64 0,.string ⟨#[]⟩,.string ⟨#[]⟩]) 3 40 Tryz.underlying36 hi0 hz0 hz1 hz2 rfl (by decide) vl fs.length _ hl a fs'.length mc (cellsF fs') (cellsF_length fs') hc (cellsF_one fs') (by unfold maxLen; omega) (by omega) hB
  refine ⟨v',w',hrun,?_,hgrow⟩
  rw [List.length_append,cellsF_app]
  exact hown'
set_option maxRecDepth 100000 in
set_option maxHeartbeats 4000000 in
theorem more_walk [DP] (v:Value) (rs:List RawD) (v':Value) (rs':List RawD) (one two:Int) (w:World) (hT:Tab w) (hlen:rs.length≤maxLen) (hv:IsRaws v rs w) (hok:∀ r∈rs,r.ok) (hlen':rs'.length≤maxLen) (hv':IsRaws v' rs' w) (hok':∀ r∈rs',r.ok) (h1:inI one) (h2:inI two) :
  Calls Tryz.prog 6 #[v,v',.int .i64 one,.int .i64 two] w fun e w'=>e=.returned (.bool true)∧Below w.heap.size w w':=by
 obtain ⟨i0,hi0,hz0,hz1,hz2⟩:=info_parts infoFact
 have hgo:=kraw_ok rs (m:=60) (by omega)
 have hgo2:okGo [] ((rs.take 60).map RawD.fct ++ (rs'.take 60).map RawD.fct):=by
  rw [← List.map_append]
  exact raw_ok (by simp) (by rw [List.length_append,List.length_take,List.length_take]; simp; omega)
 have HF:=kfacts_any v rs 60 w hlen (by omega) hv hok
 have HF2:=hide (fun (W:World) (hb:Below w.heap.size w W)=>kfacts_any v' rs' 60 W hlen' (by omega) (hv'.below hb) hok')
 have hl1:((rs.take 60).map RawD.fct).length≤60:=by rw [List.length_map,List.length_take]; omega
 have hl2:((rs'.take 60).map RawD.fct).length≤60:=by rw [List.length_map,List.length_take]; omega
 generalize (rs.take 60).map RawD.fct=fs at *
 generalize (rs'.take 60).map RawD.fct=fs' at *
 have HP:=hide (fun (v:Value) (W:World) (hv:IsFacts v fs W)=>kprint_any hgo v W hv)
 have HP2:=hide (fun (v:Value) (W:World) (hv:IsFacts v (fs ++ fs') W)=>kprint_any hgo2 v W hv)
 have HW:=hide (fun (W:World) (hT:Tab W)=>hT.ml.elim fun m hm=>works_any W m hm hT.mlt hT.tab hT.tlt)
 have HC1:=hide (fun W=>config_any one W h1.1 h1.2)
 have HC2:=hide (fun W=>config_any two W h2.1 h2.2)
 rw [cfgV_way] at HC1 HC2
 obtain ⟨c1,hc1⟩:∃ c,c=cfgW (pickB one 48):=⟨_,rfl⟩
 obtain ⟨c2,hc2⟩:∃ c,c=cfgW (pickB two 48):=⟨_,rfl⟩
 have o1:0≤c1.order∧c1.order≤2:=by rw [hc1]; exact cfgW_ord _
 have o2:0≤c2.order∧c2.order≤2:=by rw [hc2]; exact cfgW_ord _
 rw [← hc1] at HC1
 rw [← hc2] at HC2
 have HA1:=hide (fun (W:World) (hT:Tab W)=>ksolved_any hgo c1 o1 W hT)
 have HA2:=hide (fun (W:World) (hT:Tab W)=>ksolved_any hgo2 c2 o2 W hT)
 have HPt:=hide (fun (v:Value) (W:World) (hv:IsRows v (solR (fs ++ fs')) W) (a:ByteArray) (ha:a∈nsOf (fs ++ fs'))=>kpts_sol hgo2 hv ha)
 have hn1:=pnames_le hgo
 have HS:Hid (∀ r∈solR fs,r.to.length≤1000∧r.name∈nsOf (fs ++ fs')∧∀ tl:List ByteArray,(∀ b,b∈tl↔Pts (fs ++ fs') r.name b)→∀ x∈r.to,x∈tl):=by
  refine hide (fun r hr=>?_)
  obtain ⟨q1,q2⟩:=sol_row hr
  refine ⟨?_,?_,fun tl htl x hx=>(htl x).2 (((q2 x).1 hx).mono (fun f hf=>List.mem_append_left _ hf))⟩
  ·unfold solR at hr
   obtain ⟨b,hb,rfl⟩:=List.mem_map.1 hr
   exact Nat.le_trans (List.length_filter_le _ _) (by omega)
  ·obtain ⟨f,hf,h9⟩:=mem_ns.1 q1
   exact mem_ns.2 ⟨f,List.mem_append_left _ hf,h9⟩
 have hsl:(solR fs).length≤40:=by rw [sol_len]; exact hn1
 generalize txF fs=tf at *
 generalize txF (fs ++ fs')=tf2 at *
 generalize hR1:solR fs=R1 at *
 generalize hR2:solR (fs ++ fs')=R2 at *
 have HT:=hide hT
 clear hR1 hR2 hgo hgo2 hlen hv hok hlen' hv' hok' h1 h2 o1 o2 hc1 hc2 hT hn1
 go_enter Tryz.func6,Tryz.ntmps6
 go_wp2_with fail
 refine HF.mono ?_
 clear HF
 rintro e W1 ⟨vl,rfl,hown,hb1⟩
 have HOw:=hide hown
 have HP1:=HP.out _ W1 (facts_of_owns hown)
 clear hown HP
 go_wp2_with fail
 refine HP1.mono ?_
 clear HP1
 rintro e W2 ⟨rfl,hb2⟩
 have B2:Below w.heap.size w W2:=hb1.trans (hb2.mono hb1.size)
 have f2:=heap_new W2 (.cells #[.int .i64 0,.int .i64 0] 27)
 have k2:Below W2.heap.size W2 (W2.alloc (.cells #[.int .i64 0,.int .i64 0] 27)):=(Below.refl _ _).alloc (Nat.le_refl _) _
 have hown3:=own_below (own_below HOw.out hb2) k2
 have B3:Below w.heap.size w (W2.alloc (.cells #[.int .i64 0,.int .i64 0] 27)):=B2.alloc B2.size _
 clear hb1 hb2 B2 HOw k2
 go_wp2_with fail
 generalize W2.heap.size=V2 at f2 ⊢
 generalize W2.alloc (.cells #[.int .i64 0,.int .i64 0] 27)=W3 at f2 B3 hown3 ⊢
 refine (HF2.out W3 B3).mono ?_
 clear HF2
 rintro e W4 ⟨vm,rfl,hown4,hb4⟩
 have hl4:=own_below hown3 hb4
 have f4:=Below.heapAt hb4 f2 (lt_of_heap f2)
 have B4:Below w.heap.size w W4:=B3.trans (hb4.mono B3.size)
 obtain ⟨v5,W5,hrun,hown5,hgrow⟩:=app_facts W4 w.heap.size W3.heap.size vl vm fs fs' hl4 hown4 (by omega) (by omega) B4.size
 have kG:=kb_grown hgrow
 have f5:W5.heap[V2]?=some (.cells #[.int .i64 0,.int .i64 0] 27 (0,0)):=kG.heap f4 (fun hm=>by
  obtain ⟨cs,hc⟩:=own_cells hl4 (by simpa using hm)
  exact ne_types hc f4 (by decide) rfl)
 have B5:Below w.heap.size w W5:=B4.trans (kG.below B4.size (fun k hk=>(hl4.lt k (by simpa using hk)).1))
 have HP5:=HP2.out v5 W5 (facts_of_owns hown5)
 obtain ⟨AP,hAP⟩:∃ AP,Builtin.append_ #[36,36] 36 #[vl,vm]=AP:=⟨_,rfl⟩
 rw [hAP] at hrun
 clear HP2 hown5 hgrow kG f4 B4 hl4 hown4 hown3 hb4 B3 f2
 go_wp2_with fail
 refine HP5.mono ?_
 clear HP5
 rintro e W6 ⟨rfl,hb6⟩
 have f6:=heap_old (Below.heapAt hb6 f5 (lt_of_heap f5)) (.cells #[.int .i64 0,.int .i64 0] 27)
 have g6:=heap_new W6 (.cells #[.int .i64 0,.int .i64 0] 27)
 have B6:Below w.heap.size w W6:=B5.trans (hb6.mono B5.size)
 have B6':Below w.heap.size w (W6.alloc (.cells #[.int .i64 0,.int .i64 0] 27)):=B6.alloc B6.size _
 clear hrun hAP f5 B5 hb6 B6
 go_wp2_with fail
 generalize W6.heap.size=V6 at g6 ⊢
 generalize W6.alloc (.cells #[.int .i64 0,.int .i64 0] 27)=W7 at f6 g6 B6' ⊢
 refine (HW.out W7 (HT.out.below B6')).mono ?_
 clear HW
 rintro e W8 ⟨rfl,hb8⟩
 have f8:=Below.heapAt hb8 f6 (lt_of_heap f6)
 have g8:=Below.heapAt hb8 g6 (lt_of_heap g6)
 have B8:Below w.heap.size w W8:=B6'.trans (hb8.mono B6'.size)
 clear f6 g6 B6' hb8
 go_wp2_with fail
 refine (HC1.out W8).mono ?_
 clear HC1
 rintro e W9 ⟨rfl,hb9⟩
 have f9:=Below.heapAt hb9 f8 (lt_of_heap f8)
 have g9:=Below.heapAt hb9 g8 (lt_of_heap g8)
 have B9:Below w.heap.size w W9:=B8.trans (hb9.mono B8.size)
 clear f8 g8 B8 hb9
 go_wp2_with fail
 refine (HA1.out W9 (HT.out.below B9)).mono ?_
 clear HA1
 rintro e W10 ⟨va,pa,rfl,hpa,hOa,hb10⟩
 have hRa:IsRows va R1 W10:=by rw [← hpa]; exact hOa.rows
 have f10:=Below.heapAt hb10 f9 (lt_of_heap f9)
 have g10:=Below.heapAt hb10 g9 (lt_of_heap g9)
 have B10:Below w.heap.size w W10:=B9.trans (hb10.mono B9.size)
 clear f9 g9 B9 hb10 hOa hpa
 go_wp2_with fail
 refine (HC2.out W10).mono ?_
 clear HC2
 rintro e W11 ⟨rfl,hb11⟩
 have f11:=Below.heapAt hb11 f10 (lt_of_heap f10)
 have g11:=Below.heapAt hb11 g10 (lt_of_heap g10)
 have B11:Below w.heap.size w W11:=B10.trans (hb11.mono B10.size)
 have hR11:=hRa.below hb11
 clear f10 g10 B10 hb11 hRa
 go_wp2_with fail
 refine (HA2.out W11 (HT.out.below B11)).mono ?_
 clear HA2
 rintro e W12 ⟨vb,pb,rfl,hpb,hOb,hb12⟩
 have hRb:IsRows vb R2 W12:=by rw [← hpb]; exact hOb.rows
 have hR12:=hR11.below hb12
 have f12:=Below.heapAt hb12 f11 (lt_of_heap f11)
 have g12:=Below.heapAt hb12 g11 (lt_of_heap g11)
 have B12:Below w.heap.size w W12:=B11.trans (hb12.mono B11.size)
 obtain ⟨x0,_,_,_⟩:=err_cells f12
 obtain ⟨y0,_,_,_⟩:=err_cells g12
 have HRb:=hide hRb
 have HPt2:=hide (fun (a:ByteArray) (ha:a∈nsOf (fs ++ fs'))=>HPt.out vb W12 hRb a ha)
 obtain ⟨ao,ac,rfl,_,_,hra⟩:=hR12
 have HRa:=hide hra
 have HB:=hide B12
 clear f11 g11 B11 hb12 hOb hpb hR11 f12 g12 hRb HPt hra B12 HT
 go_wp2_with fail
 go_loop [20] (fun iv=>∃ i:Nat,iv=.int .i64 i∧i≤R1.length) (fun iv=>R1.length - (intOf iv).toNat)
 case atStart=>exact ⟨0,rfl,Nat.zero_le _⟩
 case round=>
  obtain ⟨i,rfl,hi⟩:=hrel
  by_cases hlt:i < R1.length
  ·obtain ⟨⟨x,tt⟩,hf⟩:∃ f,R1[i]?=some f:=⟨_,List.getElem?_eq_getElem hlt⟩
   have hne:R1≠[]:=by intro e; rw [e] at hlt; simp at hlt
   obtain ⟨b1,q1,h1,hb1,hf1⟩:=HRa.out hne
   rw [h1]
   obtain ⟨a0,tv,a1,htv⟩:=hf1 i x tt hf
   obtain ⟨z1,z2,z3⟩:=HS.out ⟨x,tt⟩ (List.mem_of_getElem? hf)
   have HP9:=HPt2.out x z2
   have HZ:=hide (And.intro z1 (And.intro z3 htv))
   clear hf hf1 z1 z2 z3 htv hne
   go_wp2_with fail
   refine HP9.mono ?_
   clear HP9
   rintro e W13 ⟨⟨tw,tl,rfl,htw,htl,hpt⟩,rfl⟩
   have HU:=kunder_any tv tw tt tl W13 (by have:=HZ.out.1; omega) (by omega) HZ.out.2.2 htw
   have HUn:=hide (HZ.out.2.1 tl hpt)
   clear htw htl hpt HZ
   go_wp2_with fail
   refine HU.mono ?_
   clear HU
   rintro e W14 ⟨⟨bb,rfl,hbb⟩,rfl⟩
   have hb9:bb=true:=hbb.2 HUn.out
   subst hb9
   clear hbb HUn
   go_wp2
   go_round
   case rel=>exact ⟨i+1,by go_num,hlt⟩
   case measure=>simp [intOf]; omega
  ·go_wp2
   go_ret
   exact ⟨rfl,HB.out⟩
end Go.Proofs.YtiamlbhkiehilaaGreatDoor
