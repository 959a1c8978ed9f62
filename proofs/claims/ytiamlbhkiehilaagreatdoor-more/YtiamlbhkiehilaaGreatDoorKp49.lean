import Derived.Test.YtiamlbhkiehilaaGreatDoorKp42
namespace Go.Proofs.YtiamlbhkiehilaaGreatDoor
section
open Go.RowKit Go.Shelf Go.Maps
attribute [local go_sem] Oper.semAt_some
theorem ktell_any [DP] {fs:List Fct} (h:okGo [] fs) (v:Value) (w:World) (hv:IsRows v (solR fs) w) :
  Calls Tryz.prog 26 #[v] w fun e w'=>e=.returned (.tuple #[.string (txS fs),.agg #[.int .i64 0,.int .i64 0]])∧Below w.heap.size w w':=by
 obtain ⟨f1,f2⟩:=sol_fits h
 obtain ⟨s1,s2⟩:=sol_ok h
 have hq:=qtell_any v (solR fs) w (by unfold maxLen; omega) hv f2 (by omega)
 have e:tellGo ⟨#[]⟩ 0 [] (solR fs)=(rowsText (solR fs),0,0):=by
  have h9:tellGo noB 0 [] (solR fs)=(rowsText (solR fs),0,0):=by
   have:=tell_ok (i:=0) (acc:=[]) s1 (by simpa using s2)
   simpa using this
  exact h9
 rw [e] at hq
 exact hq
theorem OwnR.drewed {w:World} {lo hi:Nat} {v:Value} {ps:List (RowD × Value)} (h:OwnR w lo hi v ps):OwnR w.drew lo hi v ps:=h.below (Below.refl _ _).drew
set_option maxRecDepth 100000 in
set_option maxHeartbeats 4000000 in
theorem ksolved_any [DP] {fs:List Fct} (h:okGo [] fs) (c:Way) (hc:0≤c.order∧c.order≤2) (w:World) (hT:Tab w) :
  Calls Tryz.prog 16 #[.string (txF fs),wayV c] w fun e w'=>∃ v ps,e=.returned (.tuple #[v,.bool true])∧ps.map Prod.fst=solR fs∧OwnR w' w.heap.size w'.heap.size v ps∧Below w.heap.size w w':=by
 have HA:=hide (fun (W:World) (hT:Tab W)=>kanalyze_any h c hc W hT)
 have HR:=hide (fun (W:World) (hT:Tab W)=>kread_any h W hT)
 have HL:=hide (fun (v:Value) (W:World) (hv:IsRows v (solR fs) W)=>ktell_any h v W hv)
 generalize unS fs c=un at *
 generalize txF fs=tf at *
 generalize txS fs=ts at *
 have HT:=hide hT
 clear h hc hT
 have b0:Below w.heap.size w (w.alloc (.cells #[.int .i64 c.order,.bool c.cycles,.bool c.collapse,.bool c.subst,.bool c.deltas] 24)):=(Below.refl _ _).alloc (Nat.le_refl _) _
 go_enter Tryz.func16,Tryz.ntmps16
 go_wp2_with fail
 generalize w.alloc (.cells #[.int .i64 c.order,.bool c.cycles,.bool c.collapse,.bool c.subst,.bool c.deltas] 24)=W0 at b0 ⊢
 refine (HA.out W0 (HT.out.below b0)).mono ?_
 clear HA
 rintro e W1 ⟨rfl,hb1⟩
 have B1:Below w.heap.size w W1:=b0.trans (hb1.mono b0.size)
 have r1:=heap_old (heap_new W1 (.cells #[.string ts,.int .i64 (un:Int)] 31)) (.cells #[.int .i64 0,.int .i64 0] 27)
 have q1:=heap_new (W1.alloc (.cells #[.string ts,.int .i64 (un:Int)] 31)) (.cells #[.int .i64 0,.int .i64 0] 27)
 rw [show (W1.alloc (.cells #[.string ts,.int .i64 (un:Int)] 31)).heap.size=W1.heap.size+1 by simp] at q1
 have B1':Below w.heap.size w ((W1.alloc (.cells #[.string ts,.int .i64 (un:Int)] 31)).alloc (.cells #[.int .i64 0,.int .i64 0] 27)):=(B1.alloc B1.size _).alloc (Nat.le_trans B1.size (by simp)) _
 obtain ⟨x0,x1,_,_⟩:=err_cells r1
 clear b0 hb1 B1
 go_wp2_with fail
 clear x0 x1
 generalize W1.heap.size=V1 at r1 q1 ⊢
 generalize (W1.alloc (.cells #[.string ts,.int .i64 (un:Int)] 31)).alloc (.cells #[.int .i64 0,.int .i64 0] 27)=W2 at r1 q1 B1' ⊢
 refine (HR.out W2 (HT.out.below B1')).mono ?_
 clear HR
 rintro e W3 ⟨vr,ps,rfl,hps,hO,hb3⟩
 have r3:=heap_old (Below.heapAt hb3 r1 (lt_of_heap r1)) (.cells #[.int .i64 0,.int .i64 0] 27)
 have q3:=heap_old (Below.heapAt hb3 q1 (lt_of_heap q1)) (.cells #[.int .i64 0,.int .i64 0] 27)
 have h3:=heap_new W3 (.cells #[.int .i64 0,.int .i64 0] 27)
 have B3:Below w.heap.size w W3:=B1'.trans (hb3.mono B1'.size)
 have kA:Below W3.heap.size W3 (W3.alloc (.cells #[.int .i64 0,.int .i64 0] 27)):=(Below.refl _ _).alloc (Nat.le_refl _) _
 have B3':Below w.heap.size w (W3.alloc (.cells #[.int .i64 0,.int .i64 0] 27)):=B3.alloc B3.size _
 have hO3:OwnR (W3.alloc (.cells #[.int .i64 0,.int .i64 0] 27)) w.heap.size (W3.alloc (.cells #[.int .i64 0,.int .i64 0] 27)).heap.size vr ps:=((hO.below kA).low B1'.size).high kA.size
 have hL3:=HL.out vr _ (by rw [← hps]; exact hO3.rows)
 have HL3:=hide hL3
 clear r1 q1 B1' hO hb3 B3 kA hL3 HL
 go_wp2_with fail
 generalize W3.heap.size=V3 at h3 ⊢
 generalize W3.alloc (.cells #[.int .i64 0,.int .i64 0] 27)=W4 at r3 q3 h3 B3' hO3 HL3 ⊢
 refine HL3.out.mono ?_
 clear HL3
 rintro e W5 ⟨rfl,hb5⟩
 have r5:=heap_old (Below.heapAt hb5 r3 (lt_of_heap r3)) (.cells #[.int .i64 0,.int .i64 0] 27)
 have q5:=heap_old (Below.heapAt hb5 q3 (lt_of_heap q3)) (.cells #[.int .i64 0,.int .i64 0] 27)
 have h5:=heap_old (Below.heapAt hb5 h3 (lt_of_heap h3)) (.cells #[.int .i64 0,.int .i64 0] 27)
 have t5:=heap_new W5 (.cells #[.int .i64 0,.int .i64 0] 27)
 have B5:Below w.heap.size w W5:=B3'.trans (hb5.mono B3'.size)
 have kB:Below W5.heap.size W5 (W5.alloc (.cells #[.int .i64 0,.int .i64 0] 27)):=(Below.refl _ _).alloc (Nat.le_refl _) _
 have B5':Below w.heap.size w (W5.alloc (.cells #[.int .i64 0,.int .i64 0] 27)):=B5.alloc B5.size _
 have hO5:OwnR (W5.alloc (.cells #[.int .i64 0,.int .i64 0] 27)) w.heap.size (W5.alloc (.cells #[.int .i64 0,.int .i64 0] 27)).heap.size vr ps:=(((hO3.below hb5).high hb5.size).below kB).high kB.size
 obtain ⟨x0,x1,_,_⟩:=err_cells r5
 obtain ⟨y0,y1,_,_⟩:=err_cells q5
 obtain ⟨z0,z1,_,_⟩:=err_cells h5
 obtain ⟨v0,v1,_,_⟩:=err_cells t5
 have HFin:=hide (And.intro hps (And.intro hO5 B5'))
 clear r3 q3 h3 B3' hO3 hb5 B5 kB r5 q5 h5 t5 hps hO5 B5'
 go_wp2_with fail
 go_region
 all_goals
  go_wp2
  exact bodyPost_ret (v:=.tuple #[vr,.bool true]) (by simp [results,Tryz.results16,go_sem]) rfl ⟨vr,ps,rfl,HFin.out.1,OwnR.drewed HFin.out.2.1,HFin.out.2.2.drew⟩
end
end Go.Proofs.YtiamlbhkiehilaaGreatDoor
