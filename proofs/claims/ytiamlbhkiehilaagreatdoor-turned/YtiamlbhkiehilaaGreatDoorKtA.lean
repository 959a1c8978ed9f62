import Derived.Test.YtiamlbhkiehilaaGreatDoorKp18
import Derived.Test.YtiamlbhkiehilaaGreatDoorKp06
import Derived.Test.YtiamlbhkiehilaaGreatDoorKp39
namespace Go.Proofs.YtiamlbhkiehilaaGreatDoor
section
open Go.RowKit
set_option maxHeartbeats 400000 in
theorem isFact_any (k:Int) (p q:ByteArray) (w:World) (hp:p.size≤maxLen) (hq:q.size≤maxLen) :
  Calls Tryz.prog 63 #[.agg #[.int .i64 k,.string p,.string q]] w fun e w'=>e=.returned (.bool (factB k p q))∧Below w.heap.size w w':=by
 have hb:∀ o,Below w.heap.size w (w.alloc o):=fun o=>(Below.refl _ _).alloc (Nat.le_refl _) o
 by_cases h1:1≤k
 ·by_cases h2:k≤4
  ·cases hc:nameB p.data.toList
   ·have HC:Hid (nameB p.data.toList=false):=hc
    have HF:Hid (factB k p q=false):=by simp [factB,hc,Hid]
    clear hc
    go_enter Tryz.func63,Tryz.ntmps63
    go_wp2_with (go_at_call 95; refine (isName_any _ _ hp).mono ?_; rintro e w' ⟨rfl,rfl⟩; rw [HC.out])
    go_ret
    exact ⟨by rw [HF.out]; rfl,hb _⟩
   ·have HC:Hid (nameB p.data.toList=true):=hc
    have HF:Hid (factB k p q=nameB q.data.toList):=by simp [factB,hc,Hid,h1,h2]
    clear hc
    go_enter Tryz.func63,Tryz.ntmps63
    go_wp2_with fail
    refine (isName_any _ _ hp).mono ?_; rintro e w' ⟨rfl,rfl⟩; rw [HC.out]
    go_wp2_with fail
    refine (isName_any _ _ hq).mono ?_; rintro e w' ⟨rfl,rfl⟩
    go_wp2
    go_ret
    exact ⟨by rw [HF.out]; rfl,hb _⟩
  ·have HF:Hid (factB k p q=false):=by simp [factB,h2,Hid]
   go_enter Tryz.func63,Tryz.ntmps63
   go_wp2
   go_ret
   exact ⟨by rw [HF.out]; rfl,hb _⟩
 ·have HF:Hid (factB k p q=false):=by simp [factB,h1,Hid]
  go_enter Tryz.func63,Tryz.ntmps63
  go_wp2
  go_ret
  exact ⟨by rw [HF.out]; rfl,hb _⟩
theorem ret_str {a b:ByteArray} (h:a=b):Ending.returned (.string a)=.returned (.string b):=by rw [h]
set_option maxHeartbeats 400000 in
theorem printLine_any (k:Int) (p q:ByteArray) (w:World) (hp:p.size≤12) (hq:q.size≤12) :
  Calls Tryz.prog 66 #[.agg #[.int .i64 k,.string p,.string q]] w fun e w'=>e=.returned (.string (lineB k p q))∧Below w.heap.size w w':=by
 go_enter Tryz.func66,Tryz.ntmps66
 go_wp2
 all_goals
  go_ret
  refine ⟨ret_str ?_,(Below.refl _ _).alloc (Nat.le_refl _) _⟩
  simp_all [lineB]
end
section
open Go.RowKit Go.Maps
theorem nm2 {x a b:Nat} (h1:x≠a) (h2:x≠b):x ∉ [a,b]:=by simp [h1,h2]
structure PInv (w wr:World) (fs:List Fct) (n:Nat) (acc:List UInt8):Prop where
 le:n≤fs.length
 few:n≤120
 short:acc.length≤29 * n
 rest:printGo (fs.take n) (fs.drop n) acc=printGo [] fs []
 res:wr.heap[w.heap.size]?=some (.cells #[.int .i64 0,.int .i64 0] 27 (0,0))
 bld:Lib.IsBuilderF 118 5 w.heap.size (w.heap.size+1) (Lib.byteCells acc) wr
 tal:IsTally (w.heap.size+1+1+1) (w.heap.size+1+1) n (2 * n) (keysOf (fs.take n)) wr
 blw:Below w.heap.size w wr
theorem PInv.start (w:World) (fs:List Fct) :
  PInv w ((((w.alloc (.cells #[.int .i64 0,.int .i64 0] 27)).alloc (.cells #[.pointer none,.slice none 0 0] 118)).alloc (.map #[] 0)).alloc (.cells #[.int .i64 0,.map (some (w.heap.size+1+1))] 158)) fs 0 []:=by
 have s1:(w.alloc (.cells #[.int .i64 0,.int .i64 0] 27)).heap.size=w.heap.size+1:=by simp
 have s2:((w.alloc (.cells #[.int .i64 0,.int .i64 0] 27)).alloc (.cells #[.pointer none,.slice none 0 0] 118)).heap.size=w.heap.size+1+1:=by simp
 have s3:(((w.alloc (.cells #[.int .i64 0,.int .i64 0] 27)).alloc (.cells #[.pointer none,.slice none 0 0] 118)).alloc (.map #[] 0)).heap.size=w.heap.size+1+1+1:=by simp
 refine ⟨Nat.zero_le _,Nat.zero_le _,Nat.le_refl _,rfl,?_,?_,⟨?_,?_⟩,?_⟩
 ·exact heap_old (heap_old (heap_old (heap_new w _) _) _) _
 ·refine .inl ⟨Nat.le_succ _,.slice none 0 0,?_,World.ownsRowF_nil _ _ _ _,by simp [Value.ownBlock]⟩
  have:=heap_new (w.alloc (.cells #[.int .i64 0,.int .i64 0] 27)) (.cells #[.pointer none,.slice none 0 0] 118)
  rw [s1] at this
  exact heap_old (heap_old this _) _
 ·have:=heap_new (((w.alloc (.cells #[.int .i64 0,.int .i64 0] 27)).alloc (.cells #[.pointer none,.slice none 0 0] 118)).alloc (.map #[] 0)) (.cells #[.int .i64 0,.map (some (w.heap.size+1+1))] 158)
  rw [s3] at this
  exact this
 ·have:=World.ownsMap_made (H:=Unit) ((w.alloc (.cells #[.int .i64 0,.int .i64 0] 27)).alloc (.cells #[.pointer none,.slice none 0 0] 118)) Tryz.prog 9 (unitElem (H:=Unit))
  rw [s2] at this
  exact Kb.ownsMap (l:=[]) ((Kb.refl _ _).alloc _) this (by simp)
 ·exact ((((Below.refl _ _).alloc (Nat.le_refl _) _).alloc (by simp) _).alloc (by simp; omega) _).alloc (by simp; omega) _
theorem PInv.kept {w wr w2:World} {fs:List Fct} {n:Nat} {acc:List UInt8} (h:PInv w wr fs n acc) (hk:Kb [] wr w2):PInv w w2 fs n acc:=
 ⟨h.le,h.few,h.short,h.rest,hk.heap h.res (by simp),hk.builder h.bld (by simp) (by simp),⟨hk.heap h.tal.1 (by simp),hk.ownsMap h.tal.2 (by simp)⟩,
  h.blw.trans (hk.below (by have:=lt_of_heap h.res; omega) (by simp))⟩
theorem errOf_zero {pre:List Fct} {f:Fct} (h:errOf pre f=0):f.p.size≤12∧f.q.size≤12∧pre.length < 120:=by
 by_cases h1:12 < f.p.size∨12 < f.q.size
 ·rw [errOf_name h1] at h; cases h
 ·by_cases h2:120≤pre.length
  ·rw [errOf_many h1 h2] at h; cases h
  ·omega
theorem PInv.mid {w w2 w3 w4:World} {fs:List Fct} {n:Nat} {acc:List UInt8} (h:PInv w w2 fs n acc) (hk:Kb [w.heap.size+1+1+1,w.heap.size+1+1] w2 w3) (hk4:Kb [] w3 w4) :
  Lib.IsBuilderF 118 5 w.heap.size (w.heap.size+1) (Lib.byteCells acc) w4∧w.heap.size≤w4.heap.size:=by
 refine ⟨hk4.builder (hk.builder h.bld (nm2 (by omega) (by omega)) ?_) (by simp) (by simp),?_⟩
 ·intro x hx c fz hc
  simp only [List.mem_cons,List.not_mem_nil,or_false] at hx
  rcases hx with rfl | rfl
  ·rw [h.tal.1] at hc; cases hc
  ·obtain ⟨es,cl,hb,_⟩:=h.tal.2
   rw [hb] at hc; cases hc
 ·have:=lt_of_heap h.res
  have:=hk.size
  have:=hk4.size
  omega
theorem PInv.next {w w2 w3 w4 w5:World} {fs:List Fct} {n:Nat} {acc:List UInt8} {k:Int} {p q:ByteArray} (h:PInv w w2 fs n acc) (hf:fs[n]?=some ⟨k,p,q⟩) (hB:factB k p q=true) (he:errOf (fs.take n) ⟨k,p,q⟩=0)
  (hk:Kb [w.heap.size+1+1+1,w.heap.size+1+1] w2 w3) (ht:IsTally (w.heap.size+1+1+1) (w.heap.size+1+1) ((fs.take n).length+1) (2 * ((fs.take n).length+1)) (keysOf (fs.take n ++ [⟨k,p,q⟩])) w3)
  (hk4:Kb [] w3 w4) (hb5:Lib.IsBuilderF 118 5 w.heap.size (w.heap.size+1) (Lib.byteCells acc ++ Lib.strCells (lineB k p q)) w5) (hw5:Below w.heap.size w4 w5) (ho:Lib.OthersKept 5 (some (w.heap.size+1)) w4 w5) :
  PInv w w5 fs (n+1) (acc ++ (lineB k p q).data.toList):=by
 have hlt:=(List.getElem?_eq_some_iff.1 hf).1
 have hnl:(fs.take n).length=n:=by rw [List.length_take]; have:=h.le; omega
 rw [hnl,← take_next hf] at ht
 obtain ⟨s1,s2,s3⟩:=errOf_zero he
 rw [hnl] at s3
 simp only at s1 s2
 refine ⟨hlt,s3,?_,?_,?_,?_,⟨?_,?_⟩,?_⟩
 ·have h1:=lineB_size k p q
  have h2:(lineB k p q).data.toList.length=(lineB k p q).size:=Array.length_toList
  have h3:=h.short
  rw [List.length_append,h2]
  omega
 ·have e:=h.rest
  rw [drop_here hf,printGo_ok (f:=⟨k,p,q⟩) hB he,← take_next hf] at e
  exact e
 ·exact ho _ _ (hk4.heap (hk.heap h.res (nm2 (by omega) (by omega))) (by simp)) (by intro e; injection e; omega) (by intro c fz e; cases e)
 ·have e:Lib.byteCells (acc ++ (lineB k p q).data.toList)=Lib.byteCells acc ++ Lib.strCells (lineB k p q):=by simp [Lib.byteCells,Lib.strCells]
  rw [e]; exact hb5
 ·exact ho _ _ (hk4.heap ht.1 (by simp)) (by intro e; injection e; omega) (by intro c fz e; cases e)
 ·exact others_ownsMap ho (hk4.ownsMap ht.2 (by simp)) (by intro e; injection e; omega)
 ·have hs:=lt_of_heap h.res
  have hs2:=hk.size
  refine ((h.blw.trans (hk.below (by omega) ?_)).trans (hk4.below (by omega) (by simp))).trans hw5
  intro x hx
  simp only [List.mem_cons,List.not_mem_nil,or_false] at hx
  omega
set_option maxHeartbeats 400000 in
theorem fprint_some (b off cap:Nat) (fs:List Fct) (w:World) (hlen:fs.length≤maxLen) (hf:FactsAt b off fs w) (hb:b < w.heap.size) (hfit:fitsF fs) :
  Calls Tryz.prog 34 #[.slice (some ⟨b,off,none⟩) fs.length cap] w fun e w'=>e=.returned (.tuple #[.string ⟨(printGo [] fs []).1.toArray⟩,.agg #[.int .i64 (printGo [] fs []).2.1,.int .i64 (printGo [] fs []).2.2]])∧Below w.heap.size w w':=by
 unfold maxLen at hlen
 go_enter Tryz.func34,Tryz.ntmps34
 go_wp2_with fail
 refine (newTally_any _).mono ?_
 rintro e w1 ⟨rfl,rfl⟩
 go_wp2_with fail
 go_loopw [12] (fun i wr=>∃ n acc,i=.int .i64 (n:Nat)∧PInv w wr fs n acc) (fun i _=>fs.length - (intOf i).toNat)
 case atStart=>exact ⟨0,[],rfl,PInv.start w fs⟩
 case round=>
  obtain ⟨n,acc,rfl,hi⟩:=hrel
  by_cases hlt:n < fs.length
  ·obtain ⟨⟨k,p,q⟩,hfn⟩:∃ f,fs[n]?=some f:=⟨_,List.getElem?_eq_getElem hlt⟩
   have HF:Hid (fs[n]?=some ⟨k,p,q⟩):=hfn
   obtain ⟨d0,d1,d2⟩:=(hf.below hi.blw hb) n k p q hfn
   obtain ⟨hp,hq⟩:=hfit _ (List.mem_of_getElem? hfn)
   simp only at hp hq
   clear hfn
   go_wp2_with fail
   refine (isFact_any k p q _ hp hq).mono ?_
   rintro e w2 ⟨rfl,hb2⟩
   have hk2:Kb [] wr w2:=((Kb.refl _ _).alloc _).trans (Kb.of_below hb2 [])
   have hi2:=hi.kept hk2
   have g0:w2.heap[wr.heap.size]?=some (.cells #[.int .i64 k,.string p,.string q] 48 (0,0)):=Below.heapAt hb2 (heap_new _ _) (by simp)
   have g1:w2.cell? ⟨wr.heap.size,0,none⟩=some (.int .i64 k):=by rw [cell_at g0]; rfl
   have g2:w2.cell? ⟨wr.heap.size,1,none⟩=some (.string p):=by rw [cell_at g0]; rfl
   have g3:w2.cell? ⟨wr.heap.size,2,none⟩=some (.string q):=by rw [cell_at g0]; rfl
   have r0:w2.cell? ⟨w.heap.size,0,none⟩=some (.int .i64 0):=by rw [cell_at hi2.res]; rfl
   have r1:w2.cell? ⟨w.heap.size,1,none⟩=some (.int .i64 0):=by rw [cell_at hi2.res]; rfl
   have r2:w2.frozen? ⟨w.heap.size,0,none⟩=false:=frozen_at hi2.res _
   have r3:w2.frozen? ⟨w.heap.size,1,none⟩=false:=frozen_at hi2.res _
   have hsw:=lt_of_heap hi.tal.1
   clear hb2 d0 d1 d2 hi hk2
   cases hB:factB k p q
   ·have HE:Hid (printGo [] fs []=([],4,(n:Int)+1)):=by
     have e:=hi2.rest
     rw [drop_here HF.out,printGo_form (f:=⟨k,p,q⟩) hB,List.length_take,Nat.min_eq_left (by omega)] at e
     exact e.symm
    clear hB
    have hbl:=hi2.blw
    clear hi2
    go_wp2
    refine bodyPost_ret (v:=.tuple #[.string ⟨#[]⟩,.agg #[.int .i64 4,.int .i64 ((n:Int)+1)]]) (by simp [results,Tryz.results34,go_sem,r0,r1]) rfl ⟨by rw [HE.out],?_⟩
    exact (hbl.setCell (p:=⟨w.heap.size,0,none⟩) (Nat.le_refl _) _).setCell (p:=⟨w.heap.size,1,none⟩) (Nat.le_refl _) _
   ·have HB:Hid (factB k p q=true):=hB
    clear hB
    go_wp2_with fail
    have hnl:(fs.take n).length=n:=by rw [List.length_take]; omega
    have htal:=hi2.tal
    have h120:=hi2.few
    refine (add_any (w.heap.size+1+1+1) (w.heap.size+1+1) (fs.take n) k p q _ (by omega) hp hq (by rw [hnl]; exact htal)).mono ?_
    rintro e w3 ⟨rfl,hk3,ht3⟩
    clear htal
    have hsz:=lt_of_heap hi2.tal.1
    have hsz2:=lt_of_heap g0
    have k0:w3.heap[wr.heap.size]?=some (.cells #[.int .i64 k,.string p,.string q] 48 (0,0)):=hk3.heap g0 (nm2 (by omega) (by omega))
    have k4:w3.heap[w.heap.size]?=some (.cells #[.int .i64 0,.int .i64 0] 27 (0,0)):=hk3.heap hi2.res (nm2 (by omega) (by omega))
    have k1:w3.cell? ⟨wr.heap.size,0,none⟩=some (.int .i64 k):=by rw [cell_at k0]; rfl
    have k2:w3.cell? ⟨wr.heap.size,1,none⟩=some (.string p):=by rw [cell_at k0]; rfl
    have k3:w3.cell? ⟨wr.heap.size,2,none⟩=some (.string q):=by rw [cell_at k0]; rfl
    have q0:w3.cell? ⟨w.heap.size,0,none⟩=some (.int .i64 0):=by rw [cell_at k4]; rfl
    have q1:w3.cell? ⟨w.heap.size,1,none⟩=some (.int .i64 0):=by rw [cell_at k4]; rfl
    have q2:w3.frozen? ⟨w.heap.size,0,none⟩=false:=frozen_at k4 _
    have q3:w3.frozen? ⟨w.heap.size,1,none⟩=false:=frozen_at k4 _
    clear k0 k4 g0 g1 g2 g3 r0 r1 r2 r3
    by_cases he:errOf (fs.take n) ⟨k,p,q⟩=0
    ·have ht4:=ht3 he
     obtain ⟨s1,s2,_⟩:=errOf_zero he
     simp only at s1 s2
     have HR:Hid (errOf (fs.take n) ⟨k,p,q⟩=0):=he
     rw [HR.out]
     clear he ht3
     go_wp2_with fail
     refine (printLine_any k p q _ s1 s2).mono ?_
     rintro e w4 ⟨rfl,hb4⟩
     have hk4:Kb [] w3 w4:=Kb.of_below hb4 []
     obtain ⟨hbd,hsz4⟩:=hi2.mid hk3 hk4
     have hsh:=hi2.short
     have hln:=lineB_size k p q
     have hbc:(Lib.byteCells acc).length=acc.length:=Lib.byteCells_length acc
     go_wp2_with fail
     refine (writeString_any w.heap.size (w.heap.size+1) (Lib.byteCells acc) (lineB k p q) _ hbd (by omega) hsz4).mono ?_
     rintro e w5 ⟨rfl,hb5,hw5,ho5⟩
     have hnext:=hi2.next HF.out HB.out HR.out hk3 ht4 hk4 hb5 hw5 ho5
     clear hi2 hk3 ht4 hk4 hb5 hw5 ho5 hbd
     go_wp2
     go_roundw
     case rel=>exact ⟨n+1,_,by go_num,hnext⟩
     case measure=>simp [intOf]; omega
    ·have HE:Hid (printGo [] fs []=([],errOf (fs.take n) ⟨k,p,q⟩,(n:Int)+1)):=by
      have e:=hi2.rest
      rw [drop_here HF.out,printGo_err (f:=⟨k,p,q⟩) HB.out rfl he,hnl] at e
      exact e.symm
     have hbl:=hi2.blw.trans (hk3.below (B:=w.heap.size) (by omega) (by intro x hx; simp only [List.mem_cons,List.not_mem_nil,or_false] at hx; omega))
     clear hi2 hk3 ht3
     generalize errOf (fs.take n) ⟨k,p,q⟩=x at HE he ⊢
     have hx:(x != 0)=true:=bne_iff_ne.2 he
     clear he
     go_wp2
     refine bodyPost_ret (v:=.tuple #[.string ⟨#[]⟩,.agg #[.int .i64 x,.int .i64 ((n:Int)+1)]]) (by simp [results,Tryz.results34,go_sem,q0,q1]) rfl ⟨by rw [HE.out],?_⟩
     exact (hbl.setCell (p:=⟨w.heap.size,0,none⟩) (Nat.le_refl _) _).setCell (p:=⟨w.heap.size,1,none⟩) (Nat.le_refl _) _
  ·have HE:Hid (printGo [] fs []=(acc,0,0)):=by
    have e:=hi.rest
    rw [List.drop_of_length_le (by omega),printGo_nil] at e
    exact e.symm
   have hres:=hi.res
   have hbl:=hi.blw
   have hbd:=hi.bld
   have hsz:=lt_of_heap hres
   clear hi
   go_wp2_with fail
   refine (builderString_any w.heap.size (w.heap.size+1) acc _ hbd (by omega)).mono ?_
   rintro e w2 ⟨rfl,hb2,hw2,ho2⟩
   have g0:w2.heap[w.heap.size]?=some (.cells #[.int .i64 0,.int .i64 0] 27 (0,0)):=ho2 _ _ hres (by intro e; injection e; omega) (by intro c fz e; cases e)
   have r0:w2.cell? ⟨w.heap.size,0,none⟩=some (.int .i64 0):=by rw [cell_at g0]; rfl
   have r1:w2.cell? ⟨w.heap.size,1,none⟩=some (.int .i64 0):=by rw [cell_at g0]; rfl
   have r2:w2.frozen? ⟨w.heap.size,0,none⟩=false:=frozen_at g0 _
   have r3:w2.frozen? ⟨w.heap.size,1,none⟩=false:=frozen_at g0 _
   clear ho2 hres hb2
   go_wp2
   refine bodyPost_ret (v:=.tuple #[.string ⟨acc.toArray⟩,.agg #[.int .i64 0,.int .i64 0]]) (by simp [results,Tryz.results34,go_sem,r0,r1]) rfl ⟨by rw [HE.out],?_⟩
   exact ((hbl.trans hw2).setCell (p:=⟨w.heap.size,0,none⟩) (Nat.le_refl _) _).setCell (p:=⟨w.heap.size,1,none⟩) (Nat.le_refl _) _
set_option maxHeartbeats 400000 in
theorem fprint_none (ao:Option Addr) (cap:Nat) (w:World) :
  Calls Tryz.prog 34 #[.slice ao 0 cap] w fun e w'=>e=.returned (.tuple #[.string ⟨#[]⟩,.agg #[.int .i64 0,.int .i64 0]])∧Below w.heap.size w w':=by
 go_enter Tryz.func34,Tryz.ntmps34
 go_wp2_with fail
 refine (newTally_any _).mono ?_
 rintro e w1 ⟨rfl,rfl⟩
 have hi:=PInv.start w []
 go_wp2_with fail
 refine wp_loop_rounds 1 ?_
 rw [rounds_succ]
 have hres:=hi.res
 have hbl:=hi.blw
 have hbd:=hi.bld
 have hsz:=lt_of_heap hres
 generalize ((((w.alloc (.cells #[.int .i64 0,.int .i64 0] 27)).alloc (.cells #[.pointer none,.slice none 0 0] 118)).alloc (.map #[] 0)).alloc (.cells #[.int .i64 0,.map (some (w.heap.size+1+1))] 158))=wr at *
 clear hi
 go_wp2_with fail
 refine (builderString_any w.heap.size (w.heap.size+1) [] _ hbd (by omega)).mono ?_
 rintro e w2 ⟨rfl,hb2,hw2,ho2⟩
 have g0:w2.heap[w.heap.size]?=some (.cells #[.int .i64 0,.int .i64 0] 27 (0,0)):=ho2 _ _ hres (by intro e; injection e; omega) (by intro c fz e; cases e)
 have r0:w2.cell? ⟨w.heap.size,0,none⟩=some (.int .i64 0):=by rw [cell_at g0]; rfl
 have r1:w2.cell? ⟨w.heap.size,1,none⟩=some (.int .i64 0):=by rw [cell_at g0]; rfl
 have r2:w2.frozen? ⟨w.heap.size,0,none⟩=false:=frozen_at g0 _
 have r3:w2.frozen? ⟨w.heap.size,1,none⟩=false:=frozen_at g0 _
 clear ho2 hres hb2
 go_wp2
 refine bodyPost_ret (v:=.tuple #[.string ⟨#[]⟩,.agg #[.int .i64 0,.int .i64 0]]) (by simp [results,Tryz.results34,go_sem,r0,r1]) rfl ⟨rfl,?_⟩
 exact ((hbl.trans hw2).setCell (p:=⟨w.heap.size,0,none⟩) (Nat.le_refl _) _).setCell (p:=⟨w.heap.size,1,none⟩) (Nat.le_refl _) _
theorem fprint_any (v:Value) (fs:List Fct) (w:World) (hlen:fs.length≤maxLen) (hv:IsFacts v fs w) (hfit:fitsF fs) :
  Calls Tryz.prog 34 #[v] w fun e w'=>e=.returned (.tuple #[.string ⟨(printGo [] fs []).1.toArray⟩,.agg #[.int .i64 (printGo [] fs []).2.1,.int .i64 (printGo [] fs []).2.2]])∧Below w.heap.size w w':=by
 obtain ⟨ao,cap,rfl,_,_,h⟩:=hv
 by_cases hfs:fs=[]
 ·subst hfs
  exact fprint_none ao cap w
 ·obtain ⟨b,off,rfl,hb,hf⟩:=h hfs
  exact fprint_some b off cap fs w hlen hf hb hfit
set_option maxHeartbeats 400000 in
theorem qprint_any (v:Value) (fs:List Fct) (w:World) (hlen:fs.length≤maxLen) (hv:IsFacts v fs w) (hfit:fitsF fs) :
  Calls Tryz.prog 14 #[v] w fun e w'=>e=.returned (.tuple #[.string ⟨(printGo [] fs []).1.toArray⟩,.agg #[.int .i64 (printGo [] fs []).2.1,.int .i64 (printGo [] fs []).2.2]])∧Below w.heap.size w w':=by
 have hb0:Below w.heap.size w (w.alloc (.cells #[.int .i64 0,.int .i64 0] 27)):=(Below.refl _ _).alloc (Nat.le_refl _) _
 have hc:=fprint_any v fs _ hlen (hv.below hb0) hfit
 have HC:=Hid.out (p:=Calls _ _ _ _ _) hc
 clear hc
 generalize printGo [] fs []=R at HC ⊢
 have HH:Hid (Calls _ _ _ _ _):=HC
 clear HC
 go_enter Tryz.func14,Tryz.ntmps14
 go_wp2_with fail
 refine (HH.out).mono ?_
 rintro e w2 ⟨rfl,hb2⟩
 have g0:w2.heap[w.heap.size]?=some (.cells #[.int .i64 0,.int .i64 0] 27 (0,0)):=Below.heapAt hb2 (heap_new _ _) (by simp)
 have r0:w2.cell? ⟨w.heap.size,0,none⟩=some (.int .i64 0):=by rw [cell_at g0]; rfl
 have r1:w2.cell? ⟨w.heap.size,1,none⟩=some (.int .i64 0):=by rw [cell_at g0]; rfl
 have r2:w2.frozen? ⟨w.heap.size,0,none⟩=false:=frozen_at g0 _
 have r3:w2.frozen? ⟨w.heap.size,1,none⟩=false:=frozen_at g0 _
 have hbl:Below w.heap.size w w2:=hb0.trans (hb2.mono (by simp))
 clear hb2 g0 HH
 go_wp2
 refine bodyPost_ret (v:=.tuple #[.string ⟨R.1.toArray⟩,.agg #[.int .i64 R.2.1,.int .i64 R.2.2]]) (by simp [results,Tryz.results14,go_sem,r0,r1]) rfl ⟨rfl,?_⟩
 exact (hbl.setCell (p:=⟨w.heap.size,0,none⟩) (Nat.le_refl _) _).setCell (p:=⟨w.heap.size,1,none⟩) (Nat.le_refl _) _
end
section
open Go.RowKit Go.Shelf Go.Maps
attribute [local go_sem] Oper.semAt_some
structure Tab (w:World):Prop where
 ml:∃ m,w.cell? ⟨1,0,none⟩=some (.int .i64 m)
 mlt:1 < w.heap.size
 tab:TabAt w
 tlt:0 < w.heap.size
theorem Tab.below {w w':World} (h:Tab w) (hb:Below w.heap.size w w'):Tab w':=by
 obtain ⟨m,hm⟩:=h.ml
 exact ⟨⟨m,(hb.cell (p:=⟨1,0,none⟩) h.mlt).trans hm⟩,Nat.lt_of_lt_of_le h.mlt hb.size,h.tab.kb (Kb.of_below hb []) (by simp),Nat.lt_of_lt_of_le h.tlt hb.size⟩
def cfgW (k:Nat):Way:=⟨(k:Int) % 3,(k:Int) / 3 % 2 == 1,(k:Int) / 6 % 2 == 1,(k:Int) / 12 % 2 == 1,(k:Int) / 24 % 2 == 1⟩
theorem cfgV_way (k:Nat):cfgV k=wayV (cfgW k):=rfl
theorem cfgW_ord (k:Nat):0≤(cfgW k).order∧(cfgW k).order≤2:=by
 show 0≤(k:Int) % 3∧(k:Int) % 3≤2
 omega
def txF (fs:List Fct):ByteArray:=⟨(textL fs).toArray⟩
def txS [DP] (fs:List Fct):ByteArray:=⟨(rowsText (solR fs)).toArray⟩
theorem txF_size {fs:List Fct} (h:okGo [] fs):(txF fs).size≤maxLen:=by
 obtain ⟨hsm,hcn⟩:=okGo_small h
 have hlen:fs.length≤120:=by
  rcases hcn with h | h
  ·rw [h]; simp
  ·simpa using h
 have htl:=textL_len hsm
 unfold txF
 rw [arr_size]
 unfold maxLen
 omega
theorem kprint_any {fs:List Fct} (h:okGo [] fs) (v:Value) (w:World) (hv:IsFacts v fs w) :
  Calls Tryz.prog 14 #[v] w fun e w'=>e=.returned (.tuple #[.string (txF fs),.agg #[.int .i64 0,.int .i64 0]])∧Below w.heap.size w w':=by
 obtain ⟨hsm,hcn⟩:=okGo_small h
 have hlen:fs.length≤120:=by
  rcases hcn with h | h
  ·rw [h]; simp
  ·simpa using h
 have hqp:=qprint_any v fs w (by unfold maxLen; omega) hv (fun f hf=>by have:=hsm f hf; unfold maxLen; omega)
 rw [print_ok h []] at hqp
 exact hqp
theorem kanalyze_any [DP] {fs:List Fct} (h:okGo [] fs) (c:Way) (hc:0≤c.order∧c.order≤2) (w:World) (hT:Tab w) :
  Calls Tryz.prog 12 #[.string (txF fs),wayV c] w fun e w'=>e=.returned (.tuple #[.agg #[.string (txS fs),.int .i64 (unS fs c:Int)],.agg #[.int .i64 0,.int .i64 0]])∧Below w.heap.size w w':=by
 obtain ⟨m,hm⟩:=hT.ml
 refine qanalyze_of (txF fs) c _ _ _ _ w (fun W hb=>?_)
 have hT':=hT.below hb
 obtain ⟨m,hm⟩:=hT'.ml
 exact panalyze_sol (txF fs) c fs W m (txF_size h) hm hT'.mlt hT'.tab hT'.tlt hc (print_parse h)
theorem kraw_ok (rs:List RawD) {m:Nat} (hm:m≤120):okGo [] ((rs.take m).map RawD.fct):=raw_ok (by simp) (by rw [List.length_take]; simp; omega)
end
end Go.Proofs.YtiamlbhkiehilaaGreatDoor
