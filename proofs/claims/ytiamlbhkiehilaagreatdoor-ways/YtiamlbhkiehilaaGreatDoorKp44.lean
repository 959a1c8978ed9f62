import Derived.Test.YtiamlbhkiehilaaGreatDoorKp42
import Derived.Test.YtiamlbhkiehilaaGreatDoorKp43
namespace Go.Proofs.YtiamlbhkiehilaaGreatDoor
section
open Go.RowKit Go.Shelf Go.Maps
attribute [local go_sem] Oper.semAt_some
set_option maxRecDepth 100000 in
set_option maxHeartbeats 4000000 in
theorem ways_walk [DP] (v:Value) (rs:List RawD) (one two:Int) (w:World) (hT:Tab w) (hlen:rs.length≤maxLen) (hv:IsRaws v rs w) (hok:∀ r∈rs,r.ok) (h1:inI one) (h2:inI two) :
  Calls Tryz.prog 9 #[v,.int .i64 one,.int .i64 two] w fun e w'=>e=.returned (.bool true)∧Below w.heap.size w w':=by
 have hgo:=kraw_ok rs (m:=100) (by omega)
 have HF:=kfacts_any v rs 100 w hlen (by omega) hv hok
 have hfl:((rs.take 100).map RawD.fct).length≤100:=by rw [List.length_map,List.length_take]; omega
 generalize (rs.take 100).map RawD.fct=fs at *
 have hn40:=pnames_le hgo
 have HP:=hide (fun (v:Value) (W:World) (hv:IsFacts v fs W)=>kprint_any hgo v W hv)
 have HW:=hide (fun (W:World) (hT:Tab W)=>hT.ml.elim fun m hm=>works_any W m hm hT.mlt hT.tab hT.tlt)
 have HC1:=hide (fun W=>config_any one W h1.1 h1.2)
 have HC2:=hide (fun W=>config_any two W h2.1 h2.2)
 rw [cfgV_way] at HC1 HC2
 obtain ⟨c1,hc1⟩:∃ c,c=cfgW (pickB one 48):=⟨_,rfl⟩
 obtain ⟨c2,hc2⟩:∃ c,c=cfgW (pickB two 48):=⟨_,rfl⟩
 have o1:0≤c1.order∧c1.order≤2:=by rw [hc1]; exact cfgW_ord _
 have o2:0≤c2.order∧c2.order≤2:=by rw [hc2]; exact cfgW_ord _
 rw [← hc1] at HC1
 rw [← hc2] at HC2
 have HA1:=hide (fun (W:World) (hT:Tab W)=>kanalyze_any hgo c1 o1 W hT)
 have HA2:=hide (fun (W:World) (hT:Tab W)=>kanalyze_any hgo c2 o2 W hT)
 have HR:=hide (fun (W:World) (hT:Tab W)=>kread_any hgo W hT)
 have u1:=un_le hgo c1
 have u2:=un_le hgo c2
 obtain ⟨n,hn⟩:∃ n,n=(nsOf fs).length:=⟨_,rfl⟩
 rw [← hn] at u1 u2 hn40
 have hsl:(solR fs).length=n:=by rw [sol_len,hn]
 have HW1:=hide (fun W=>few_any (unS fs c1) fs.length n c1 W (by omega) hn40 u1)
 have HW2:=hide (fun W=>few_any (unS fs c2) fs.length n c2 W (by omega) hn40 u2)
 generalize unS fs c1=un1 at *
 generalize unS fs c2=un2 at *
 generalize hx:txF fs=tf at *
 generalize hy:txS fs=ts at *
 have HSL:=hide hsl
 have HT:=hide hT
 clear hx hy hgo hlen hv hok h1 h2 hfl u1 u2 hn hn40 o1 o2 hc1 hc2 hsl hT
 go_enter Tryz.func9,Tryz.ntmps9
 go_wp2_with fail
 refine HF.mono ?_
 clear HF
 rintro e W1 ⟨vl,rfl,hown,hb1⟩
 obtain ⟨la,lc,rfl,_⟩:=own_form hown
 have HP1:=HP.out _ W1 (facts_of_owns hown)
 clear hown HP
 go_wp2_with fail
 refine HP1.mono ?_
 clear HP1
 rintro e W2 ⟨rfl,hb2⟩
 have B2:Below w.heap.size w W2:=hb1.trans (hb2.mono hb1.size)
 have f2:=heap_new W2 (.cells #[.int .i64 0,.int .i64 0] 27)
 have B2':Below w.heap.size w (W2.alloc (.cells #[.int .i64 0,.int .i64 0] 27)):=B2.alloc B2.size _
 clear hb1 hb2 B2
 go_wp2_with fail
 generalize W2.heap.size=V2 at f2 ⊢
 generalize W2.alloc (.cells #[.int .i64 0,.int .i64 0] 27)=W3 at f2 B2' ⊢
 refine (HW.out W3 (HT.out.below B2')).mono ?_
 clear HW
 rintro e W4 ⟨rfl,hb4⟩
 have f4:=Below.heapAt hb4 f2 (lt_of_heap f2)
 have B4:Below w.heap.size w W4:=B2'.trans (hb4.mono B2'.size)
 clear f2 B2' hb4
 go_wp2_with fail
 refine (HC1.out W4).mono ?_
 rintro e W5 ⟨rfl,hb5⟩
 have f5:=Below.heapAt hb5 f4 (lt_of_heap f4)
 have B5:Below w.heap.size w W5:=B4.trans (hb5.mono B4.size)
 clear f4 B4 hb5
 go_wp2_with fail
 refine (HA1.out W5 (HT.out.below B5)).mono ?_
 clear HA1
 rintro e W6 ⟨rfl,hb6⟩
 have f6:=heap_old (heap_old (Below.heapAt hb6 f5 (lt_of_heap f5)) (.cells #[.string ts,.int .i64 (un1:Int)] 31)) (.cells #[.int .i64 0,.int .i64 0] 27)
 have r6:=heap_old (heap_new W6 (.cells #[.string ts,.int .i64 (un1:Int)] 31)) (.cells #[.int .i64 0,.int .i64 0] 27)
 have q6:=heap_new (W6.alloc (.cells #[.string ts,.int .i64 (un1:Int)] 31)) (.cells #[.int .i64 0,.int .i64 0] 27)
 rw [show (W6.alloc (.cells #[.string ts,.int .i64 (un1:Int)] 31)).heap.size=W6.heap.size+1 by simp] at q6
 have B6:Below w.heap.size w W6:=B5.trans (hb6.mono B5.size)
 have B6':Below w.heap.size w ((W6.alloc (.cells #[.string ts,.int .i64 (un1:Int)] 31)).alloc (.cells #[.int .i64 0,.int .i64 0] 27)):=(B6.alloc B6.size _).alloc (Nat.le_trans B6.size (by simp)) _
 clear f5 B5 hb6 B6
 go_wp2_with fail
 generalize W6.heap.size=V6 at r6 q6 ⊢
 generalize (W6.alloc (.cells #[.string ts,.int .i64 (un1:Int)] 31)).alloc (.cells #[.int .i64 0,.int .i64 0] 27)=W7 at f6 r6 q6 B6' ⊢
 refine (HC2.out W7).mono ?_
 rintro e W8 ⟨rfl,hb8⟩
 have f8:=Below.heapAt hb8 f6 (lt_of_heap f6)
 have r8:=Below.heapAt hb8 r6 (lt_of_heap r6)
 have q8:=Below.heapAt hb8 q6 (lt_of_heap q6)
 have B8:Below w.heap.size w W8:=B6'.trans (hb8.mono B6'.size)
 clear f6 r6 q6 B6' hb8
 go_wp2_with fail
 refine (HA2.out W8 (HT.out.below B8)).mono ?_
 clear HA2
 rintro e W9 ⟨rfl,hb9⟩
 have f9:=heap_old (heap_old (Below.heapAt hb9 f8 (lt_of_heap f8)) (.cells #[.string ts,.int .i64 (un2:Int)] 31)) (.cells #[.int .i64 0,.int .i64 0] 27)
 have r9:=heap_old (heap_old (Below.heapAt hb9 r8 (lt_of_heap r8)) (.cells #[.string ts,.int .i64 (un2:Int)] 31)) (.cells #[.int .i64 0,.int .i64 0] 27)
 have q9:=heap_old (heap_old (Below.heapAt hb9 q8 (lt_of_heap q8)) (.cells #[.string ts,.int .i64 (un2:Int)] 31)) (.cells #[.int .i64 0,.int .i64 0] 27)
 have s9:=heap_old (heap_new W9 (.cells #[.string ts,.int .i64 (un2:Int)] 31)) (.cells #[.int .i64 0,.int .i64 0] 27)
 have t9:=heap_new (W9.alloc (.cells #[.string ts,.int .i64 (un2:Int)] 31)) (.cells #[.int .i64 0,.int .i64 0] 27)
 rw [show (W9.alloc (.cells #[.string ts,.int .i64 (un2:Int)] 31)).heap.size=W9.heap.size+1 by simp] at t9
 have B9:Below w.heap.size w W9:=B8.trans (hb9.mono B8.size)
 have B9':Below w.heap.size w ((W9.alloc (.cells #[.string ts,.int .i64 (un2:Int)] 31)).alloc (.cells #[.int .i64 0,.int .i64 0] 27)):=(B9.alloc B9.size _).alloc (Nat.le_trans B9.size (by simp)) _
 obtain ⟨a0,a1,_,_⟩:=err_cells f9
 obtain ⟨b0,b1,_,_⟩:=err_cells r9
 obtain ⟨d0,d1,_,_⟩:=err_cells q9
 obtain ⟨e0,e1,_,_⟩:=err_cells s9
 obtain ⟨g0,g1,_,_⟩:=err_cells t9
 clear f8 r8 q8 B8 hb9 B9
 go_wp2_with fail
 generalize W9.heap.size=V9 at s9 t9 ⊢
 generalize (W9.alloc (.cells #[.string ts,.int .i64 (un2:Int)] 31)).alloc (.cells #[.int .i64 0,.int .i64 0] 27)=W10 at f9 r9 q9 s9 t9 B9' ⊢
 clear a0 a1 b0 b1 d0 d1 e0 e1 g0 g1
 refine (HR.out W10 (HT.out.below B9')).mono ?_
 clear HR
 rintro e W11 ⟨vr,ps,rfl,hps,hO,hb11⟩
 obtain ⟨ra,rc,rfl,_⟩:=own_form hO.row
 have hpl:ps.length=n:=by rw [← HSL.out,← hps,List.length_map]
 rw [hpl]
 have r11:=heap_old (Below.heapAt hb11 r9 (lt_of_heap r9)) (.cells #[.int .i64 0,.int .i64 0] 27)
 have s11:=heap_old (Below.heapAt hb11 s9 (lt_of_heap s9)) (.cells #[.int .i64 0,.int .i64 0] 27)
 have h11:=heap_new W11 (.cells #[.int .i64 0,.int .i64 0] 27)
 have B11:Below w.heap.size w W11:=B9'.trans (hb11.mono B9'.size)
 have B11':Below w.heap.size w (W11.alloc (.cells #[.int .i64 0,.int .i64 0] 27)):=B11.alloc B11.size _
 clear f9 r9 q9 s9 t9 B9' hps hO hb11 B11 hpl
 go_wp2_with fail
 generalize W11.heap.size=V11 at h11 ⊢
 generalize W11.alloc (.cells #[.int .i64 0,.int .i64 0] 27)=W12 at r11 s11 h11 B11' ⊢
 obtain ⟨_,x1,_,_⟩:=err_cells r11
 have hV6:=lt_of_heap r11
 go_region_with (first
  | (go_at_call 17; refine (HC1.out _).mono ?_; rintro e W13 ⟨rfl,hb13⟩; have x1':W13.cell? ⟨V6,1,none⟩=some (.int .i64 (un1:Int)):=(hb13.cell (p:=⟨V6,1,none⟩) hV6).trans x1)
  | (go_at_call 27; refine (HW1.out _).mono ?_; rintro e W14 ⟨rfl,hb14⟩))
 all_goals
  have hbb:Below W12.heap.size W12 W14:=(⟨hb13.os,hb13.tape,hb13.output,hb13.size,hb13.block⟩:Below W12.heap.size W12 W13).trans (hb14.mono hb13.size)
  have s14:=Below.heapAt hbb s11 (lt_of_heap s11)
  have h14:=Below.heapAt hbb h11 (lt_of_heap h11)
  have B14:Below w.heap.size w W14:=B11'.trans (hbb.mono B11'.size)
  obtain ⟨_,y1,_,_⟩:=err_cells s14
  have hV9:=lt_of_heap s14
  clear hbb hb13 hb14 r11 s11 h11 B11' x1 x1' hV6
  go_wp2_with fail
  go_region_with (first
   | (go_at_call 17; refine (HC2.out _).mono ?_; rintro e W15 ⟨rfl,hb15⟩; have y1':W15.cell? ⟨V9,1,none⟩=some (.int .i64 (un2:Int)):=(hb15.cell (p:=⟨V9,1,none⟩) hV9).trans y1)
   | (go_at_call 27; refine (HW2.out _).mono ?_; rintro e W16 ⟨rfl,hb16⟩))
  all_goals
   have hbb:Below W14.heap.size W14 W16:=(⟨hb15.os,hb15.tape,hb15.output,hb15.size,hb15.block⟩:Below W14.heap.size W14 W15).trans (hb16.mono hb15.size)
   have h16:=Below.heapAt hbb h14 (lt_of_heap h14)
   have B16:Below w.heap.size w W16:=B14.trans (hbb.mono B14.size)
   obtain ⟨z0,_,_,_⟩:=err_cells h16
   clear hbb hb15 hb16 s14 h14 B14 y1 y1'
   go_wp2
   exact bodyPost_ret (v:=.bool true) (by simp [results,Tryz.results9,go_sem]) rfl ⟨rfl,B16⟩
end
end Go.Proofs.YtiamlbhkiehilaaGreatDoor
