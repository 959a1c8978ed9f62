import Derived.Test.YtiamlbhkiehilaaGreatDoorKq11
namespace Go.Proofs.YtiamlbhkiehilaaGreatDoor
section
open Go.RowKit Go.Maps
def pickB(c:Int)(n:Nat):Nat:=((if c<0 then -(c+1)else c) % (n:Int)).toNat
theorem pickB_lt(c:Int){n:Nat}(h:0<n):pickB c n<n:=by
 unfold pickB;have h1:=Int.emod_nonneg (if c<0 then -(c+1)else c) (show(n:Int)≠0 by omega);have h2:=Int.emod_lt_of_pos (if c<0 then -(c+1)else c) (show(0:Int)<n by omega);omega
set_option maxRecDepth 100000 in
set_option maxHeartbeats 1000000 in
theorem pick_any(c:Int)(n:Nat)(w:World)(hc1:-9223372036854775808≤c)(hc2:c≤9223372036854775807)(hn:0<n)(hn2:n≤1000) :
  Calls Tryz.prog 23 #[.int .i64 c,.int .i64 n] w fun e w'=>e=.returned (.int .i64 (pickB c n))∧w'=w:=by
 have hlt:=pickB_lt c hn;by_cases h:c<0
 ·have hE:((pickB c n:Nat):Int)=(-(c+1)) % (n:Int):=by
   unfold pickB;rw[if_pos h];have h1:=Int.emod_nonneg (-(c+1)) (show(n:Int)≠0 by omega);omega
  have hm:(-(c+1)).tmod (n:Int)=(-(c+1)) % (n:Int):=Int.tmod_eq_emod_of_nonneg (by omega);have HE:=hide hE;clear hE;go_enter Tryz.func23,Tryz.ntmps23
  go_wp2;go_ret
  exact⟨by rw[HE.out];rfl,rfl⟩
 ·have hE:((pickB c n:Nat):Int)=c % (n:Int):=by
   unfold pickB;rw[if_neg h];have h1:=Int.emod_nonneg c (show(n:Int)≠0 by omega);omega
  have hm:c.tmod (n:Int)=c % (n:Int):=Int.tmod_eq_emod_of_nonneg (by omega);have HE:=hide hE;clear hE;go_enter Tryz.func23,Tryz.ntmps23
  go_wp2;go_ret
  exact⟨by rw[HE.out];rfl,rfl⟩
def nmQ(k:Nat):ByteArray:=(if k<10 then⟨#[118]⟩else⟨#[119]⟩)++⟨#[UInt8.ofNat (48+k % 10)]⟩
theorem byte_text{W:World}{b x:Nat}(hb:W.heap[b]?=some (.cells #[.int .u8 (x:Int)] 5 (0,0)))(hx:x<256):(convert 116 9 (.slice (some ⟨b,0,none⟩) 1 1)).run Tryz.prog W=.ok (.string ⟨#[UInt8.ofNat x]⟩) W:=by
 have ho:W.ownsRow 0 5 1 (.slice (some ⟨b,0,none⟩) 1 1) ([UInt8.ofNat x]:List UInt8).length (cellsB [UInt8.ofNat x]):=by
  refine⟨by simp[cellsB],.inr ⟨b,1,_,rfl,Nat.zero_le _,hb,by simp,by unfold maxLen;omega,by simp,?_⟩⟩;simp[cellsB];omega
 exact shape_string ho
set_option maxRecDepth 100000 in
set_option maxHeartbeats 1000000 in
theorem qname_any(c:Int)(w:World)(hc1:-9223372036854775808≤c)(hc2:c≤9223372036854775807) :
  Calls Tryz.prog 61 #[.int .i64 c] w fun e w'=>e=.returned (.string (nmQ (pickB c 20)))∧Below w.heap.size w w':=by
 have hlt:=pickB_lt c (n:=20) (by decide);have hp:=pick_any c 20 w hc1 hc2 (by decide) (by decide);go_enter Tryz.func61,Tryz.ntmps61
 go_wp2_with fail
 refine hp.mono ?_
 rintro e w' ⟨rfl,rfl⟩;clear hp;generalize hk:pickB c 20=k at *;have HK:=hide hk;clear hk;have hx:48+k % 10<256:=by omega
 have t1:=byte_text (W:=(((w'.alloc (.cells #[.string ⟨#[118]⟩,.string ⟨#[119]⟩] 9)).alloc (.cells #[.int .u8 ((48+k % 10:Nat):Int)] 5)).drew)) (b:=w'.heap.size+1) (x:=48+k % 10) (by
  have:=heap_new (w'.alloc (.cells #[.string ⟨#[118]⟩,.string ⟨#[119]⟩] 9)) (.cells #[.int .u8 ((48+k % 10:Nat):Int)] 5);rw[show(w'.alloc (.cells #[.string ⟨#[118]⟩,.string ⟨#[119]⟩] 9)).heap.size=w'.heap.size+1 by simp]at this;exact this) hx
 have t2:=byte_text (W:=((w'.alloc (.cells #[.int .u8 ((48+k % 10:Nat):Int)] 5)).drew)) (b:=w'.heap.size) (x:=48+k % 10) (heap_new w' (.cells #[.int .u8 ((48+k % 10:Nat):Int)] 5)) hx;have t3:=byte_text (W:=(((w'.alloc (.cells #[.int .u8 ((48+k % 10:Nat):Int)] 5)).alloc (.cells #[.string ⟨#[118]⟩,.string ⟨#[119]⟩] 9)).drew)) (b:=w'.heap.size) (x:=48+k % 10) (heap_old (heap_new w' (.cells #[.int .u8 ((48+k % 10:Nat):Int)] 5)) _) hx;have hbl:∀o1 o2:Obj,Below w'.heap.size w' ((w'.alloc o1).alloc o2).drew:=fun o1 o2=>(((Below.refl _ _).alloc (Nat.le_refl _) o1).alloc (by simp) o2).drew
 have HBL:=hide hbl;clear hbl;push_cast at t1 t2 t3
 by_cases h10:k<10
 ·have e1:(k:Int) / 10=0:=by omega
  have HN:Hid (nmQ k=⟨#[118]⟩++⟨#[48+UInt8.ofNat (k % 10)]⟩):=by unfold Hid nmQ;rw[if_pos h10,UInt8.ofNat_add];rfl
  go_wp2_with fail
  go_region
  all_goals
   go_wp2;go_ret
   exact⟨by rw[HK.out,HN.out];rfl,HBL.out _ _⟩
 ·have e1:(k:Int) / 10=1:=by omega
  have HN:Hid (nmQ k=⟨#[119]⟩++⟨#[48+UInt8.ofNat (k % 10)]⟩):=by unfold Hid nmQ;rw[if_neg h10,UInt8.ofNat_add];rfl
  go_wp2_with fail
  go_region
  all_goals
   go_wp2;go_ret
   exact⟨by rw[HK.out,HN.out];rfl,HBL.out _ _⟩
def rawF(k p q:Int):Fct:=⟨1+pickB k 4,nmQ (pickB p 20),nmQ (pickB q 20)⟩
theorem nmQ_name{k:Nat}(h:k<20):nameB (nmQ k).data.toList=true∧(nmQ k).size=2:=by
 have:∀k:Fin 20,nameB (nmQ k.val).data.toList=true∧(nmQ k.val).size=2:=by decide
 exact this ⟨k,h⟩
theorem rawF_ok(k p q:Int):factB (rawF k p q).k (rawF k p q).p (rawF k p q).q=true:=by
 have h1:=pickB_lt k (n:=4) (by decide);have h2:=nmQ_name (pickB_lt p (n:=20) (by decide));have h3:=nmQ_name (pickB_lt q (n:=20) (by decide));simp only[factB,rawF,Bool.and_eq_true];exact⟨decide_eq_true ⟨by omega,by omega⟩,h2.1,h3.1⟩
end
section
open Go.RowKit Go.Maps
def cfgV(k:Nat):Value:=.agg #[.int .i64 ((k:Int) % 3),.bool ((k:Int) / 3 % 2 == 1),.bool ((k:Int) / 6 % 2 == 1),.bool ((k:Int) / 12 % 2 == 1),.bool ((k:Int) / 24 % 2 == 1)]
set_option maxRecDepth 100000 in
set_option maxHeartbeats 1000000 in
theorem config_any(c:Int)(w:World)(hc1:-9223372036854775808≤c)(hc2:c≤9223372036854775807) :
  Calls Tryz.prog 17 #[.int .i64 c] w fun e w'=>e=.returned (cfgV (pickB c 48))∧Below w.heap.size w w':=by
 have hlt:=pickB_lt c (n:=48) (by decide);have hp:=pick_any c 48 (w.alloc (.cells #[.int .i64 0,.bool false,.bool false,.bool false,.bool false] 24)) hc1 hc2 (by decide) (by decide);have hb0:Below w.heap.size w (w.alloc (.cells #[.int .i64 0,.bool false,.bool false,.bool false,.bool false] 24)):=(Below.refl _ _).alloc (Nat.le_refl _) _;go_enter Tryz.func17,Tryz.ntmps17
 go_wp2_with fail
 refine hp.mono ?_
 rintro e w' ⟨rfl,rfl⟩;clear hp;generalize hk:pickB c 48=k at *;have HK:=hide hk;clear hk;go_wp2_with fail
 refine bodyPost_ret (v:=.agg #[.int .i64 ((k:Int) % 3),.bool ((k:Int) / 3 % 2 == 1),.bool ((k:Int) / 6 % 2 == 1),.bool ((k:Int) / 12 % 2 == 1),.bool ((k:Int) / 24 % 2 == 1)]) (by simp[results,Tryz.results17,go_sem]) rfl ⟨by rw[HK.out];rfl,?_⟩;exact(Below.refl _ _).alloc (Nat.le_refl _) _
end
end Go.Proofs.YtiamlbhkiehilaaGreatDoor
