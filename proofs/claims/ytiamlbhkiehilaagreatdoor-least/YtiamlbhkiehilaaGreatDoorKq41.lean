import Derived.Test.YtiamlbhkiehilaaGreatDoorKq40
namespace Go.Proofs.YtiamlbhkiehilaaGreatDoor
section
open Go.RowKit Go.Maps
def inI(c:Int):Prop:=-9223372036854775808≤c∧c≤9223372036854775807
set_option maxRecDepth 100000 in
set_option maxHeartbeats 20000000 in
theorem kfact_any(k p q:Int)(w:World)(hk:inI k)(hp:inI p)(hq:inI q) :
  Calls Tryz.prog 33 #[.agg #[.int .i64 k,.int .i64 p,.int .i64 q]] w fun e w'=>e=.returned (.agg #[.int .i64 (rawF k p q).k,.string (rawF k p q).p,.string (rawF k p q).q])∧Below w.heap.size w w':=by
 have g0:=heap_old (heap_new w (.cells #[.int .i64 k,.int .i64 p,.int .i64 q] 83)) (.cells #[.int .i64 0,.string ⟨#[]⟩,.string ⟨#[]⟩] 48);have g1:=heap_new (w.alloc (.cells #[.int .i64 k,.int .i64 p,.int .i64 q] 83)) (.cells #[.int .i64 0,.string ⟨#[]⟩,.string ⟨#[]⟩] 48);rw[show(w.alloc (.cells #[.int .i64 k,.int .i64 p,.int .i64 q] 83)).heap.size=w.heap.size+1 by simp]at g1;have hb0:Below w.heap.size w ((w.alloc (.cells #[.int .i64 k,.int .i64 p,.int .i64 q] 83)).alloc (.cells #[.int .i64 0,.string ⟨#[]⟩,.string ⟨#[]⟩] 48)):=((Below.refl _ _).alloc (Nat.le_refl _) _).alloc (by simp) _;go_enter Tryz.func33,Tryz.ntmps33
 go_wp2_with fail
 generalize (w.alloc (.cells #[.int .i64 k,.int .i64 p,.int .i64 q] 83)).alloc (.cells #[.int .i64 0,.string ⟨#[]⟩,.string ⟨#[]⟩] 48)=w0 at g0 g1 hb0 ⊢;have hsz:w.heap.size+1<w0.heap.size:=lt_of_heap g1;obtain⟨c0,c1,c2,_,_,_⟩:=res_cells g0;obtain⟨d0,d1,d2,f0,f1,f2⟩:=res_cells g1;have HG:=hide (And.intro g0 (And.intro g1 hb0));have hl4:=pickB_lt k (n:=4) (by decide);have HPK:Hid (∀w',Calls Tryz.prog 23 #[.int .i64 k,.int .i64 4] w' fun e w''=>e=.returned (.int .i64 (pickB k 4))∧w''=w'):=fun w'=>pick_any k 4 w' hk.1 hk.2 (by decide) (by decide)
 have HNP:Hid (∀w',Calls Tryz.prog 61 #[.int .i64 p] w' fun e w''=>e=.returned (.string (rawF k p q).p)∧Below w'.heap.size w' w''):=fun w'=>qname_any p w' hp.1 hp.2
 have HNQ:Hid (∀w',Calls Tryz.prog 61 #[.int .i64 q] w' fun e w''=>e=.returned (.string (rawF k p q).q)∧Below w'.heap.size w' w''):=fun w'=>qname_any q w' hq.1 hq.2
 have HRK:Hid ((rawF k p q).k=1+(pickB k 4:Int)):=rfl;have HFI:Hid (∀w3,Below w0.heap.size w0 w3→Below w.heap.size w (((w3.setCell ⟨w.heap.size+1,0,none⟩ (.int .i64 (1+(pickB k 4:Int)))).setCell ⟨w.heap.size+1,1,none⟩ (.string (rawF k p q).p)).setCell ⟨w.heap.size+1,2,none⟩ (.string (rawF k p q).q))):=by
  intro w3 h3;have h4:Below w.heap.size w w3:=HG.out.2.2.trans (h3.mono HG.out.2.2.size);exact((h4.setCell (p:=⟨w.heap.size+1,0,none⟩) (by show w.heap.size≤w.heap.size+1;omega) _).setCell (p:=⟨w.heap.size+1,1,none⟩) (by show w.heap.size≤w.heap.size+1;omega) _).setCell (p:=⟨w.heap.size+1,2,none⟩) (by show w.heap.size≤w.heap.size+1;omega) _
 generalize hR:rawF k p q=R at *;obtain⟨Rk,Rp,Rq⟩:=R;have HR:=hide hR;clear hR;simp only at HRK HNP HNQ HFI;clear g0 g1 hb0 hk hp hq;generalize pickB k 4=kk at *;have hwr:IntKind.i64.wrap (1+(kk:Int))=1+(kk:Int):=by rw[wrap_i64 _ (by omega) (by omega)]
 go_region_with (first
  |(go_at_call 23;refine(HPK.out _).mono ?_;rintro e w' ⟨rfl,rfl⟩)
  |(go_at_call_of 61 (Value.int IntKind.i64 p);refine(HNP.out _).mono ?_;rintro e w2 ⟨rfl,hb2⟩;have HB2:Hid (Below w0.heap.size w0 w2):=⟨hb2.os,hb2.tape,hb2.output,hb2.size,hb2.block⟩;have x0:=res_cells (Below.heapAt HB2.out HG.out.1 (lt_of_heap HG.out.1));have x1:=res_cells (Below.heapAt HB2.out HG.out.2.1 (lt_of_heap HG.out.2.1));obtain⟨y0,y1,y2,_,_,_⟩:=x0;obtain⟨z0,z1,z2,z3,z4,z5⟩:=x1;clear hb2)
  | (go_at_call_of 61 (Value.int IntKind.i64 q);refine(HNQ.out _).mono ?_;rintro e w3 ⟨rfl,hb3⟩;have HB3:Hid (Below w0.heap.size w0 w3):=HB2.out.trans (Below.mono ⟨hb3.os,hb3.tape,hb3.output,hb3.size,hb3.block⟩ HB2.out.size);have x2:=res_cells (Below.heapAt HB3.out HG.out.2.1 (lt_of_heap HG.out.2.1));obtain⟨v0,v1,v2,v3,v4,v5⟩:=x2;clear hb3))
 all_goals
  go_wp2;refine bodyPost_ret (v:=.agg #[.int .i64 (1+(kk:Int)),.string Rp,.string Rq]) (by simp[results,Tryz.results33,go_sem,v0,v1,v2]) rfl ⟨by rw[HR.out,← HRK.out],HFI.out w3 HB3.out⟩
end
end Go.Proofs.YtiamlbhkiehilaaGreatDoor
