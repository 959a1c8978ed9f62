import Derived.Test.YtiamlbhkiehilaaGreatDoorAn06
import Derived.Deep.RegionLaw
namespace Go.Proofs.YtiamlbhkiehilaaGreatDoor
section
open Go.RowKit Go.Maps
theorem infoStr:(Tryz.prog.info? 9).map (fun i=>(i.zero,i.size,i.bytes))=some (some (.string ⟨#[]⟩),1,16):=by kernel_rfl
theorem sizeStr:(Tryz.prog.info? 9).map (·.size)=some 1:=by kernel_rfl
theorem wrap_i64 (x:Int) (h1:-9223372036854775808≤x) (h2:x≤9223372036854775807):IntKind.i64.wrap x=x:=by
 rw [IntKind.wrap_i64]
 omega
theorem lt_of_getElem? {α:Type} {l:List α} {i:Nat} {x:α} (h:l[i]?=some x):i < l.length:=(List.getElem?_eq_some_iff.1 h).1
structure NInv (w wr:World) (fs:List Fct) (m:Nat) (v:Value) (out:List ByteArray):Prop where
 le:m≤2 * fs.length
 eqn:out=namesS ((strsOf fs).take m)
 short:out.length≤m
 own:wr.ownsRow w.heap.size 9 1 v out.length (out.map Value.string)
 blw:Below w.heap.size w wr
theorem NInv.ins {w wr w4:World} {fs:List Fct} {m k g cp:Nat} {v:Value} {out:List ByteArray} {s:ByteArray} {cur:List Value} (hi:NInv w wr fs m v out) (HS:(strsOf fs)[m]?=some s) (hk:insAt out s=k) (hne:out[k]?≠some s)
  (hBg:w.heap.size≤g) (hnc:out.length+1≤cp) (hcm:cp≤maxLen) (hcs:cur.length=cp) (htk:cur.take (out.length+1)=out.map Value.string ++ [.string ⟨#[]⟩])
  (hg:w4.heap[g]?=some (.cells (splice cur (k+1) ((out.drop k).map Value.string)).toArray 9 (0,0))) (hb:Below w.heap.size w w4) :
  NInv w (w4.setCell ⟨g,k,none⟩ (.string s)) fs (m+1) (.slice (some ⟨g,0,none⟩) (out.length+1) cp) (insN out s):=by
 have hko:k≤out.length:=hk ▸ insAt_le out s
 have e0:insN out s=out.take k ++ s :: out.drop k:=insN_new hk hne
 have hl:(insN out s).length=out.length+1:=by rw [e0]; simp; omega
 have hm:=lt_of_getElem? HS
 rw [strsOf_length] at hm
 refine ⟨hm,?_,?_,?_,hb.setCell (p:=⟨g,k,none⟩) hBg _⟩
 ·rw [fold_snoc HS,← hi.eqn]
 ·rw [hl]; have:=hi.short; omega
 ·rw [hl]
  refine ⟨by simp [hl],.inr ⟨g,cp,(splice cur (k+1) ((out.drop k).map Value.string)).toArray.setIfInBounds k (.string s),rfl,hBg,heap_set hg k _,hnc,hcm,?_,?_⟩⟩
  ·simp
   rw [length_splice _ _ _ (by simp; omega),hcs]
  ·have:=row_ins cur (out.map Value.string) (.string ⟨#[]⟩) (.string s) k (by simpa using hko) (by simpa using htk)
   rw [List.length_map,← List.map_drop] at this
   rw [Nat.mul_one,e0]
   simpa using this
theorem NInv.old {w wr:World} {fs:List Fct} {m k:Nat} {v:Value} {out:List ByteArray} {s:ByteArray} (hi:NInv w wr fs m v out) (HS:(strsOf fs)[m]?=some s) (hk:insAt out s=k) (he:out[k]?=some s):NInv w wr fs (m+1) v out:=by
 have hm:=lt_of_getElem? HS
 rw [strsOf_length] at hm
 refine ⟨hm,?_,by have:=hi.short; omega,hi.own,hi.blw⟩
 rw [fold_snoc HS,← hi.eqn,insN_old hk he]
theorem toList_inj {a b:ByteArray} (h:a.toList=b.toList):a=b:=by
 rw [ByteArray.toList_eq,ByteArray.toList_eq] at h
 obtain ⟨⟨x⟩⟩:=a
 obtain ⟨⟨y⟩⟩:=b
 simp at h
 subst h
 rfl
set_option maxRecDepth 100000 in
set_option maxHeartbeats 4000000 in
theorem names_some (b off cap:Nat) (fs:List Fct) (w:World) (hlen:fs.length≤1000) (hf:FactsAt b off fs w) (hb:b < w.heap.size) :
  Calls Tryz.prog 53 #[.slice (some ⟨b,off,none⟩) fs.length cap] w fun e w'=>∃ v,e=.returned v∧NInv w w' fs (2 * fs.length) v (namesS (strsOf fs)):=by
 go_enter Tryz.func53,Tryz.ntmps53
 go_wp2
 go_loopw [3,4] (fun v i wr=>∃ m out,i=.int .i64 (m:Nat)∧NInv w wr fs m v out) (fun _ i _=>2 * fs.length - (intOf i).toNat)
 case atStart=>exact ⟨0,[],rfl,Nat.zero_le _,rfl,Nat.le_refl _,World.ownsRow_nil _ _ _ _,Below.refl _ _⟩
 case round=>
  obtain ⟨m,out,rfl,hi⟩:=hrel
  by_cases hlt:m < 2 * fs.length
  ·obtain ⟨⟨k,p,q⟩,hfn⟩:∃ f,fs[m / 2]?=some f:=⟨_,List.getElem?_eq_getElem (by omega)⟩
   obtain ⟨d0,d1,d2⟩:=(hf.below hi.blw hb) (m / 2) k p q hfn
   clear d0
   have HF:Hid (fs[m / 2]?=some ⟨k,p,q⟩):=hfn
   clear hfn
   have hsh:=hi.short
   have hblw:=hi.blw
   have hodd:((m:Int) % 2 == 1)=true∨((m:Int) % 2 == 1)=false:=by cases ((m:Int) % 2 == 1) <;> simp
   obtain ⟨i0,hi0,hz0,hz1,hz2⟩:=info_parts infoStr
   rcases hi.own.2 with ⟨hv,hn0⟩ | ⟨g,cp,cur,hv,hBg,hg,hnc,hcm,hcs,htk⟩
   ·rw [hv]
    rw [hv] at hi
    have hown:=hi.own
    have hn1:out.length≤0:=Nat.le_of_eq hn0
    clear hn0
    rcases hodd with ho | ho
    ·have HS:Hid ((strsOf fs)[m]?=some q):=by
      have:=strsOf_odd HF.out
      have e:2 * (m / 2)+1=m:=by have:=beq_iff_eq.1 ho; omega
      rwa [e] at this
     clear HF hf
     go_wp2
     go_loop [6] (fun i=>∃ k:Nat,i=.int .i64 k∧k≤0) (fun i=>0 - (intOf i).toNat)
     case atStart=>exact ⟨0,rfl,Nat.zero_le _⟩
     case round=>
      obtain ⟨k,rfl,hk0⟩:=hrel
      have hko:k≤out.length:=by omega
      have HK:Hid (insAt out q=k):=insAt_of (fun j x h=>by omega) hko (fun y hy=>absurd (lt_of_getElem? hy) (by omega))
      have HN:Hid (out[k]?≠some q):=fun h=>absurd (lt_of_getElem? h) (by omega)
      go_wp2_with (first | (at_builtin; refine wpList_append_own _ rfl _ _ 44 rfl w.heap.size 9 i0 (.string ⟨#[]⟩) 1 16 Tryz.underlying44 hi0 hz0 hz1 hz2 rfl (by decide) _ _ _ rfl (hown.alloc _) ⟨wr.heap.size,0,none⟩ 1 1 [.string ⟨#[]⟩] rfl rfl (cell_one_new _ _ _) ?c2 ?c3 ?c4 ?c5 ?_) | go_in)
      case c2=>rfl
      case c3=>unfold maxLen; omega
      case c4=>omega
      case c5=>have:=hblw.size; simp; omega
      intro v' w1 hown1 hgrow1 _
      obtain ⟨g1,cp1,cur1,hv1,hBg1,hg1,hnc1,hcm1,hcs1,htk1⟩:∃ g cap cur,v'=.slice (some ⟨g,0,none⟩) (out.length+1) cap∧w.heap.size≤g∧w1.heap[g]?=some (.cells cur 9 (0,0))∧out.length+1≤cap∧cap≤maxLen∧cur.size=cap * 1∧cur.toList.take ((out.length+1) * 1)=out.map Value.string ++ [.string ⟨#[]⟩]:=by
       rcases hown1.2 with ⟨_,h0⟩ | h
       ·omega
       ·exact h
      rw [hv1]
      go_wp2
      have hwp:IntKind.i64.wrap ((k:Int)+1)=(k:Int)+1:=by rw [wrap_i64 _ (by omega) (by omega)]
      have hk1:(k:Int)+1≤(out.length:Int)+1:=by omega
      have hk2:(k:Int)≤(out.length:Int)+1:=by omega
      have hk3:0≤(k:Int)+1:=by omega
      have htn:((k:Int)+1).toNat=k+1:=by omega
      have hg1':w1.drew.heap[g1]?=some (.cells cur1.toList.toArray 9 (0,0)):=by rw [Array.toArray_toList]; exact hg1
      obtain ⟨cs,hcsE⟩:∃ cs,cs=(out.drop k).map Value.string:=⟨_,rfl⟩
      have hcl:cs.length=out.length - k:=by rw [hcsE]; simp
      have hc1:∀ v∈cs,v.oneCell'=true:=by intro v hv; rw [hcsE] at hv; obtain ⟨y,_,rfl⟩:=List.mem_map.1 hv; rfl
      have HCS:Hid (cs=(out.drop k).map Value.string):=hcsE
      clear hcsE
      have hbd:Below w.heap.size w w1.drew:=((hblw.alloc hblw.size _).grown hgrow1 (by have:=hblw.size; simp; omega) (fun j hj=>(hown.lt j hj).1)).drew
      have hcc:∀ j v,cs[j]?=some v→w1.drew.cell? ((⟨g1,k,none⟩:Addr).add j)=some v:=by
       intro j v hj
       have hj':j < cs.length:=lt_of_getElem? hj
       have h1:(cur1.toList.take ((out.length+1) * 1))[k+j]?=some v:=by
        rw [htk1,List.getElem?_append_left (by simp; omega)]
        rw [HCS.out,List.map_drop,List.getElem?_drop] at hj
        exact hj
       rw [List.getElem?_take,if_pos (by omega)] at h1
       have h2:w1.drew.heap[g1]?=some (.cells cur1 9 (0,0)):=hg1
       rw [Addr.add_lit,cell_at h2]
       simpa using h1
      have HCC:=hide hcc
      clear hcc
      have hcp2:¬ cp1=k:=by omega
      obtain ⟨D,hD,hDk⟩:∃ D:Addr,(if cp1=k+1 then some (⟨g1,0,none⟩:Addr) else some ⟨g1,k+1,none⟩)=some D∧Hid (0 < cs.length→D=⟨g1,k+1,none⟩):=by
       by_cases h:cp1=k+1
       ·exact ⟨⟨g1,0,none⟩,by simp [h],fun h0=>by omega⟩
       ·exact ⟨⟨g1,k+1,none⟩,by simp [h],fun _=>rfl⟩
      have s1:Hid (cs.length=Nat.min (out.length+1 - k) (out.length - k)):=by
       rw [hcl]
       exact (Nat.min_eq_right (by omega)).symm
      have s2':k+1+cs.length≤cur1.toList.length:=by rw [show cur1.toList.length=cur1.size from Array.length_toList]; omega
      have s2:=hide s2'
      clear s2'
      have s3:=hide hc1
      clear hc1
      go_region_law (refine step_copy_splice rfl (.tmp 61) (.tmp 64) 44 44 rfl 9 Tryz.underlying44 sizeStr (some D) (some ⟨g1,k,none⟩) (out.length - k) (cp1 - (k+1)) (out.length+1 - k) (cp1 - k) (by simp [Act.eval,Act.put]) (by simp [Act.eval,Act.put]) g1 (k+1) cur1.toList 9 hg1' cs s1.out (fun h0=>⟨congrArg some (hDk.out h0),⟨g1,k,none⟩,rfl,unhide HCC⟩) s2.out s3.out w.heap.size w hbd hBg1 ?_; intro w4 hg4 hb4)
      have hg4':w4.heap[g1]?=some (.cells (splice cur1.toList (k+1) ((out.drop k).map Value.string)).toArray 9 (0,0)):=by rw [← HCS.out]; exact hg4.out
      have hfin:=hi.ins HS.out HK.out HN.out hBg1 hnc1 hcm1 (by rw [Array.length_toList,hcs1,Nat.mul_one]) (by rw [← htk1,Nat.mul_one]) hg4' hb4
      obtain ⟨v0,hv0⟩:∃ v0,w4.cell? ⟨g1,k,none⟩=some v0:=by
       rw [cell_at hg4']
       refine ⟨_,Array.getElem?_eq_getElem ?_⟩
       rw [List.size_toArray,length_splice _ _ _ (by rw [← HCS.out]; exact s2.out),Array.length_toList]
       omega
      have hf0:w4.frozen? ⟨g1,k,none⟩=false:=frozen_at hg4' _
      clear hg4' hg4 hb4 hg1' hbd HCC hD hDk s1 s2 s3 hown1 hgrow1 hg1 htk1
      go_wp2
      go_roundw
      case rel=>exact ⟨m+1,_,by go_num,hfin⟩
      case measure=>simp [intOf]; omega
    ·have HS:Hid ((strsOf fs)[m]?=some p):=by
      have:=strsOf_even HF.out
      have e:2 * (m / 2)=m:=by have:=beq_eq_false_iff_ne.1 ho; omega
      rwa [e] at this
     clear HF hf
     go_wp2
     go_loop [6] (fun i=>∃ k:Nat,i=.int .i64 k∧k≤0) (fun i=>0 - (intOf i).toNat)
     case atStart=>exact ⟨0,rfl,Nat.zero_le _⟩
     case round=>
      obtain ⟨k,rfl,hk0⟩:=hrel
      have hko:k≤out.length:=by omega
      have HK:Hid (insAt out p=k):=insAt_of (fun j x h=>by omega) hko (fun y hy=>absurd (lt_of_getElem? hy) (by omega))
      have HN:Hid (out[k]?≠some p):=fun h=>absurd (lt_of_getElem? h) (by omega)
      go_wp2_with (first | (at_builtin; refine wpList_append_own _ rfl _ _ 44 rfl w.heap.size 9 i0 (.string ⟨#[]⟩) 1 16 Tryz.underlying44 hi0 hz0 hz1 hz2 rfl (by decide) _ _ _ rfl (hown.alloc _) ⟨wr.heap.size,0,none⟩ 1 1 [.string ⟨#[]⟩] rfl rfl (cell_one_new _ _ _) ?c2 ?c3 ?c4 ?c5 ?_) | go_in)
      case c2=>rfl
      case c3=>unfold maxLen; omega
      case c4=>omega
      case c5=>have:=hblw.size; simp; omega
      intro v' w1 hown1 hgrow1 _
      obtain ⟨g1,cp1,cur1,hv1,hBg1,hg1,hnc1,hcm1,hcs1,htk1⟩:∃ g cap cur,v'=.slice (some ⟨g,0,none⟩) (out.length+1) cap∧w.heap.size≤g∧w1.heap[g]?=some (.cells cur 9 (0,0))∧out.length+1≤cap∧cap≤maxLen∧cur.size=cap * 1∧cur.toList.take ((out.length+1) * 1)=out.map Value.string ++ [.string ⟨#[]⟩]:=by
       rcases hown1.2 with ⟨_,h0⟩ | h
       ·omega
       ·exact h
      rw [hv1]
      go_wp2
      have hwp:IntKind.i64.wrap ((k:Int)+1)=(k:Int)+1:=by rw [wrap_i64 _ (by omega) (by omega)]
      have hk1:(k:Int)+1≤(out.length:Int)+1:=by omega
      have hk2:(k:Int)≤(out.length:Int)+1:=by omega
      have hk3:0≤(k:Int)+1:=by omega
      have htn:((k:Int)+1).toNat=k+1:=by omega
      have hg1':w1.drew.heap[g1]?=some (.cells cur1.toList.toArray 9 (0,0)):=by rw [Array.toArray_toList]; exact hg1
      obtain ⟨cs,hcsE⟩:∃ cs,cs=(out.drop k).map Value.string:=⟨_,rfl⟩
      have hcl:cs.length=out.length - k:=by rw [hcsE]; simp
      have hc1:∀ v∈cs,v.oneCell'=true:=by intro v hv; rw [hcsE] at hv; obtain ⟨y,_,rfl⟩:=List.mem_map.1 hv; rfl
      have HCS:Hid (cs=(out.drop k).map Value.string):=hcsE
      clear hcsE
      have hbd:Below w.heap.size w w1.drew:=((hblw.alloc hblw.size _).grown hgrow1 (by have:=hblw.size; simp; omega) (fun j hj=>(hown.lt j hj).1)).drew
      have hcc:∀ j v,cs[j]?=some v→w1.drew.cell? ((⟨g1,k,none⟩:Addr).add j)=some v:=by
       intro j v hj
       have hj':j < cs.length:=lt_of_getElem? hj
       have h1:(cur1.toList.take ((out.length+1) * 1))[k+j]?=some v:=by
        rw [htk1,List.getElem?_append_left (by simp; omega)]
        rw [HCS.out,List.map_drop,List.getElem?_drop] at hj
        exact hj
       rw [List.getElem?_take,if_pos (by omega)] at h1
       have h2:w1.drew.heap[g1]?=some (.cells cur1 9 (0,0)):=hg1
       rw [Addr.add_lit,cell_at h2]
       simpa using h1
      have HCC:=hide hcc
      clear hcc
      have hcp2:¬ cp1=k:=by omega
      obtain ⟨D,hD,hDk⟩:∃ D:Addr,(if cp1=k+1 then some (⟨g1,0,none⟩:Addr) else some ⟨g1,k+1,none⟩)=some D∧Hid (0 < cs.length→D=⟨g1,k+1,none⟩):=by
       by_cases h:cp1=k+1
       ·exact ⟨⟨g1,0,none⟩,by simp [h],fun h0=>by omega⟩
       ·exact ⟨⟨g1,k+1,none⟩,by simp [h],fun _=>rfl⟩
      have s1:Hid (cs.length=Nat.min (out.length+1 - k) (out.length - k)):=by
       rw [hcl]
       exact (Nat.min_eq_right (by omega)).symm
      have s2':k+1+cs.length≤cur1.toList.length:=by rw [show cur1.toList.length=cur1.size from Array.length_toList]; omega
      have s2:=hide s2'
      clear s2'
      have s3:=hide hc1
      clear hc1
      go_region_law (refine step_copy_splice rfl (.tmp 61) (.tmp 64) 44 44 rfl 9 Tryz.underlying44 sizeStr (some D) (some ⟨g1,k,none⟩) (out.length - k) (cp1 - (k+1)) (out.length+1 - k) (cp1 - k) (by simp [Act.eval,Act.put]) (by simp [Act.eval,Act.put]) g1 (k+1) cur1.toList 9 hg1' cs s1.out (fun h0=>⟨congrArg some (hDk.out h0),⟨g1,k,none⟩,rfl,unhide HCC⟩) s2.out s3.out w.heap.size w hbd hBg1 ?_; intro w4 hg4 hb4)
      have hg4':w4.heap[g1]?=some (.cells (splice cur1.toList (k+1) ((out.drop k).map Value.string)).toArray 9 (0,0)):=by rw [← HCS.out]; exact hg4.out
      have hfin:=hi.ins HS.out HK.out HN.out hBg1 hnc1 hcm1 (by rw [Array.length_toList,hcs1,Nat.mul_one]) (by rw [← htk1,Nat.mul_one]) hg4' hb4
      obtain ⟨v0,hv0⟩:∃ v0,w4.cell? ⟨g1,k,none⟩=some v0:=by
       rw [cell_at hg4']
       refine ⟨_,Array.getElem?_eq_getElem ?_⟩
       rw [List.size_toArray,length_splice _ _ _ (by rw [← HCS.out]; exact s2.out),Array.length_toList]
       omega
      have hf0:w4.frozen? ⟨g1,k,none⟩=false:=frozen_at hg4' _
      clear hg4' hg4 hb4 hg1' hbd HCC hD hDk s1 s2 s3 hown1 hgrow1 hg1 htk1
      go_wp2
      go_roundw
      case rel=>exact ⟨m+1,_,by go_num,hfin⟩
      case measure=>simp [intOf]; omega
   ·rw [hv]
    rw [hv] at hi
    have hown:=hi.own
    rcases hodd with ho | ho
    ·have HS:Hid ((strsOf fs)[m]?=some q):=by
      have:=strsOf_odd HF.out
      have e:2 * (m / 2)+1=m:=by have:=beq_iff_eq.1 ho; omega
      rwa [e] at this
     clear HF hf
     go_wp2
     have hcell:Hid (∀ j x,out[j]?=some x→wr.cell? ⟨g,j,none⟩=some (.string x)):=by
      intro j x hj
      rw [cell_at hg]
      have:(cur.toList.take (out.length * 1))[j]?=(out.map Value.string)[j]?:=by rw [htk]
      rw [List.getElem?_take,if_pos (by have:=lt_of_getElem? hj; omega)] at this
      simpa [hj] using this
     go_loop [6] (fun i=>∃ k:Nat,i=.int .i64 k∧k≤out.length∧∀ j x,j < k→out[j]?=some x→lessS x q=true) (fun i=>out.length - (intOf i).toNat)
     case atStart=>exact ⟨0,rfl,Nat.zero_le _,fun j x h=>by omega⟩
     case round=>
      obtain ⟨k,rfl,hko,hall⟩:=hrel
      by_cases hk:k < out.length
      ·obtain ⟨x,hx⟩:∃ x,out[k]?=some x:=⟨_,List.getElem?_eq_getElem hk⟩
       have hcx:=hcell.out k x hx
       have HX:Hid (out[k]?=some x):=hx
       clear hx
       cases hl:Op.bytesLess x.toList q.toList
       ·have HK:Hid (insAt out q=k):=insAt_of hall hko (fun y hy=>by have:=HX.out.symm.trans hy; injection this with e; subst e; exact hl)
        clear hall
        cases he:(x.toList == q.toList)
        ·have HN:Hid (out[k]?≠some q):=by
          intro h
          rw [HX.out] at h
          injection h with h
          subst h
          simp at he
         go_wp2_with (first | (at_builtin; refine wpList_append_own _ rfl _ _ 44 rfl w.heap.size 9 i0 (.string ⟨#[]⟩) 1 16 Tryz.underlying44 hi0 hz0 hz1 hz2 rfl (by decide) _ _ _ rfl (hown.alloc _) ⟨wr.heap.size,0,none⟩ 1 1 [.string ⟨#[]⟩] rfl rfl (cell_one_new _ _ _) ?c2 ?c3 ?c4 ?c5 ?_) | go_in)
         case c2=>rfl
         case c3=>unfold maxLen; omega
         case c4=>omega
         case c5=>have:=hblw.size; simp; omega
         intro v' w1 hown1 hgrow1 _
         obtain ⟨g1,cp1,cur1,hv1,hBg1,hg1,hnc1,hcm1,hcs1,htk1⟩:∃ g cap cur,v'=.slice (some ⟨g,0,none⟩) (out.length+1) cap∧w.heap.size≤g∧w1.heap[g]?=some (.cells cur 9 (0,0))∧out.length+1≤cap∧cap≤maxLen∧cur.size=cap * 1∧cur.toList.take ((out.length+1) * 1)=out.map Value.string ++ [.string ⟨#[]⟩]:=by
          rcases hown1.2 with ⟨_,h0⟩ | h
          ·omega
          ·exact h
         rw [hv1]
         go_wp2
         have hwp:IntKind.i64.wrap ((k:Int)+1)=(k:Int)+1:=by rw [wrap_i64 _ (by omega) (by omega)]
         have hk1:(k:Int)+1≤(out.length:Int)+1:=by omega
         have hk2:(k:Int)≤(out.length:Int)+1:=by omega
         have hk3:0≤(k:Int)+1:=by omega
         have htn:((k:Int)+1).toNat=k+1:=by omega
         have hg1':w1.drew.heap[g1]?=some (.cells cur1.toList.toArray 9 (0,0)):=by rw [Array.toArray_toList]; exact hg1
         obtain ⟨cs,hcsE⟩:∃ cs,cs=(out.drop k).map Value.string:=⟨_,rfl⟩
         have hcl:cs.length=out.length - k:=by rw [hcsE]; simp
         have hc1:∀ v∈cs,v.oneCell'=true:=by intro v hv; rw [hcsE] at hv; obtain ⟨y,_,rfl⟩:=List.mem_map.1 hv; rfl
         have HCS:Hid (cs=(out.drop k).map Value.string):=hcsE
         clear hcsE
         have hbd:Below w.heap.size w w1.drew:=((hblw.alloc hblw.size _).grown hgrow1 (by have:=hblw.size; simp; omega) (fun j hj=>(hown.lt j hj).1)).drew
         have hcc:∀ j v,cs[j]?=some v→w1.drew.cell? ((⟨g1,k,none⟩:Addr).add j)=some v:=by
          intro j v hj
          have hj':j < cs.length:=lt_of_getElem? hj
          have h1:(cur1.toList.take ((out.length+1) * 1))[k+j]?=some v:=by
           rw [htk1,List.getElem?_append_left (by simp; omega)]
           rw [HCS.out,List.map_drop,List.getElem?_drop] at hj
           exact hj
          rw [List.getElem?_take,if_pos (by omega)] at h1
          have h2:w1.drew.heap[g1]?=some (.cells cur1 9 (0,0)):=hg1
          rw [Addr.add_lit,cell_at h2]
          simpa using h1
         have HCC:=hide hcc
         clear hcc
         have hcp2:¬ cp1=k:=by omega
         obtain ⟨D,hD,hDk⟩:∃ D:Addr,(if cp1=k+1 then some (⟨g1,0,none⟩:Addr) else some ⟨g1,k+1,none⟩)=some D∧Hid (0 < cs.length→D=⟨g1,k+1,none⟩):=by
          by_cases h:cp1=k+1
          ·exact ⟨⟨g1,0,none⟩,by simp [h],fun h0=>by omega⟩
          ·exact ⟨⟨g1,k+1,none⟩,by simp [h],fun _=>rfl⟩
         have s1:Hid (cs.length=Nat.min (out.length+1 - k) (out.length - k)):=by
          rw [hcl]
          exact (Nat.min_eq_right (by omega)).symm
         have s2':k+1+cs.length≤cur1.toList.length:=by rw [show cur1.toList.length=cur1.size from Array.length_toList]; omega
         have s2:=hide s2'
         clear s2'
         have s3:=hide hc1
         clear hc1
         go_region_law (refine step_copy_splice rfl (.tmp 61) (.tmp 64) 44 44 rfl 9 Tryz.underlying44 sizeStr (some D) (some ⟨g1,k,none⟩) (out.length - k) (cp1 - (k+1)) (out.length+1 - k) (cp1 - k) (by simp [Act.eval,Act.put]) (by simp [Act.eval,Act.put]) g1 (k+1) cur1.toList 9 hg1' cs s1.out (fun h0=>⟨congrArg some (hDk.out h0),⟨g1,k,none⟩,rfl,unhide HCC⟩) s2.out s3.out w.heap.size w hbd hBg1 ?_; intro w4 hg4 hb4)
         have hg4':w4.heap[g1]?=some (.cells (splice cur1.toList (k+1) ((out.drop k).map Value.string)).toArray 9 (0,0)):=by rw [← HCS.out]; exact hg4.out
         have hfin:=hi.ins HS.out HK.out HN.out hBg1 hnc1 hcm1 (by rw [Array.length_toList,hcs1,Nat.mul_one]) (by rw [← htk1,Nat.mul_one]) hg4' hb4
         obtain ⟨v0,hv0⟩:∃ v0,w4.cell? ⟨g1,k,none⟩=some v0:=by
          rw [cell_at hg4']
          refine ⟨_,Array.getElem?_eq_getElem ?_⟩
          rw [List.size_toArray,length_splice _ _ _ (by rw [← HCS.out]; exact s2.out),Array.length_toList]
          omega
         have hf0:w4.frozen? ⟨g1,k,none⟩=false:=frozen_at hg4' _
         clear hg4' hg4 hb4 hg1' hbd HCC hD hDk s1 s2 s3 hown1 hgrow1 hg1 htk1
         go_wp2
         go_roundw
         case rel=>exact ⟨m+1,_,by go_num,hfin⟩
         case measure=>simp [intOf]; omega
        ·have hfin:=hi.old HS.out HK.out (by rw [HX.out,toList_inj (beq_iff_eq.1 he)])
         go_wp2
         go_roundw
         case rel=>exact ⟨m+1,_,by go_num,hfin⟩
         case measure=>simp [intOf]; omega
       ·have HA:Hid (∀ j y,j < k+1→out[j]?=some y→lessS y q=true):=by
         intro j y hj hy
         by_cases h:j < k
         ·exact hall j y h hy
         ·have e:j=k:=by omega
          subst e
          have:=HX.out.symm.trans hy
          injection this with e
          subst e
          exact hl
        clear hall
        go_wp2
        go_round
        case rel=>exact ⟨k+1,by go_num,by omega,HA.out⟩
        case measure=>simp [intOf]; omega
      ·have HK:Hid (insAt out q=k):=insAt_of hall hko (fun y hy=>absurd (lt_of_getElem? hy) hk)
       have HN:Hid (out[k]?≠some q):=fun h=>hk (lt_of_getElem? h)
       clear hall
       go_wp2_with (first | (at_builtin; refine wpList_append_own _ rfl _ _ 44 rfl w.heap.size 9 i0 (.string ⟨#[]⟩) 1 16 Tryz.underlying44 hi0 hz0 hz1 hz2 rfl (by decide) _ _ _ rfl (hown.alloc _) ⟨wr.heap.size,0,none⟩ 1 1 [.string ⟨#[]⟩] rfl rfl (cell_one_new _ _ _) ?c2 ?c3 ?c4 ?c5 ?_) | go_in)
       case c2=>rfl
       case c3=>unfold maxLen; omega
       case c4=>omega
       case c5=>have:=hblw.size; simp; omega
       intro v' w1 hown1 hgrow1 _
       obtain ⟨g1,cp1,cur1,hv1,hBg1,hg1,hnc1,hcm1,hcs1,htk1⟩:∃ g cap cur,v'=.slice (some ⟨g,0,none⟩) (out.length+1) cap∧w.heap.size≤g∧w1.heap[g]?=some (.cells cur 9 (0,0))∧out.length+1≤cap∧cap≤maxLen∧cur.size=cap * 1∧cur.toList.take ((out.length+1) * 1)=out.map Value.string ++ [.string ⟨#[]⟩]:=by
        rcases hown1.2 with ⟨_,h0⟩ | h
        ·omega
        ·exact h
       rw [hv1]
       go_wp2
       have hwp:IntKind.i64.wrap ((k:Int)+1)=(k:Int)+1:=by rw [wrap_i64 _ (by omega) (by omega)]
       have hk1:(k:Int)+1≤(out.length:Int)+1:=by omega
       have hk2:(k:Int)≤(out.length:Int)+1:=by omega
       have hk3:0≤(k:Int)+1:=by omega
       have htn:((k:Int)+1).toNat=k+1:=by omega
       have hg1':w1.drew.heap[g1]?=some (.cells cur1.toList.toArray 9 (0,0)):=by rw [Array.toArray_toList]; exact hg1
       obtain ⟨cs,hcsE⟩:∃ cs,cs=(out.drop k).map Value.string:=⟨_,rfl⟩
       have hcl:cs.length=out.length - k:=by rw [hcsE]; simp
       have hc1:∀ v∈cs,v.oneCell'=true:=by intro v hv; rw [hcsE] at hv; obtain ⟨y,_,rfl⟩:=List.mem_map.1 hv; rfl
       have HCS:Hid (cs=(out.drop k).map Value.string):=hcsE
       clear hcsE
       have hbd:Below w.heap.size w w1.drew:=((hblw.alloc hblw.size _).grown hgrow1 (by have:=hblw.size; simp; omega) (fun j hj=>(hown.lt j hj).1)).drew
       have hcc:∀ j v,cs[j]?=some v→w1.drew.cell? ((⟨g1,k,none⟩:Addr).add j)=some v:=by
        intro j v hj
        have hj':j < cs.length:=lt_of_getElem? hj
        have h1:(cur1.toList.take ((out.length+1) * 1))[k+j]?=some v:=by
         rw [htk1,List.getElem?_append_left (by simp; omega)]
         rw [HCS.out,List.map_drop,List.getElem?_drop] at hj
         exact hj
        rw [List.getElem?_take,if_pos (by omega)] at h1
        have h2:w1.drew.heap[g1]?=some (.cells cur1 9 (0,0)):=hg1
        rw [Addr.add_lit,cell_at h2]
        simpa using h1
       have HCC:=hide hcc
       clear hcc
       have hcp2:¬ cp1=k:=by omega
       obtain ⟨D,hD,hDk⟩:∃ D:Addr,(if cp1=k+1 then some (⟨g1,0,none⟩:Addr) else some ⟨g1,k+1,none⟩)=some D∧Hid (0 < cs.length→D=⟨g1,k+1,none⟩):=by
        by_cases h:cp1=k+1
        ·exact ⟨⟨g1,0,none⟩,by simp [h],fun h0=>by omega⟩
        ·exact ⟨⟨g1,k+1,none⟩,by simp [h],fun _=>rfl⟩
       have s1:Hid (cs.length=Nat.min (out.length+1 - k) (out.length - k)):=by
        rw [hcl]
        exact (Nat.min_eq_right (by omega)).symm
       have s2':k+1+cs.length≤cur1.toList.length:=by rw [show cur1.toList.length=cur1.size from Array.length_toList]; omega
       have s2:=hide s2'
       clear s2'
       have s3:=hide hc1
       clear hc1
       go_region_law (refine step_copy_splice rfl (.tmp 61) (.tmp 64) 44 44 rfl 9 Tryz.underlying44 sizeStr (some D) (some ⟨g1,k,none⟩) (out.length - k) (cp1 - (k+1)) (out.length+1 - k) (cp1 - k) (by simp [Act.eval,Act.put]) (by simp [Act.eval,Act.put]) g1 (k+1) cur1.toList 9 hg1' cs s1.out (fun h0=>⟨congrArg some (hDk.out h0),⟨g1,k,none⟩,rfl,unhide HCC⟩) s2.out s3.out w.heap.size w hbd hBg1 ?_; intro w4 hg4 hb4)
       have hg4':w4.heap[g1]?=some (.cells (splice cur1.toList (k+1) ((out.drop k).map Value.string)).toArray 9 (0,0)):=by rw [← HCS.out]; exact hg4.out
       have hfin:=hi.ins HS.out HK.out HN.out hBg1 hnc1 hcm1 (by rw [Array.length_toList,hcs1,Nat.mul_one]) (by rw [← htk1,Nat.mul_one]) hg4' hb4
       obtain ⟨v0,hv0⟩:∃ v0,w4.cell? ⟨g1,k,none⟩=some v0:=by
        rw [cell_at hg4']
        refine ⟨_,Array.getElem?_eq_getElem ?_⟩
        rw [List.size_toArray,length_splice _ _ _ (by rw [← HCS.out]; exact s2.out),Array.length_toList]
        omega
       have hf0:w4.frozen? ⟨g1,k,none⟩=false:=frozen_at hg4' _
       clear hg4' hg4 hb4 hg1' hbd HCC hD hDk s1 s2 s3 hown1 hgrow1 hg1 htk1
       go_wp2
       go_roundw
       case rel=>exact ⟨m+1,_,by go_num,hfin⟩
       case measure=>simp [intOf]; omega
    ·have HS:Hid ((strsOf fs)[m]?=some p):=by
      have:=strsOf_even HF.out
      have e:2 * (m / 2)=m:=by have:=beq_eq_false_iff_ne.1 ho; omega
      rwa [e] at this
     clear HF hf
     go_wp2
     have hcell:Hid (∀ j x,out[j]?=some x→wr.cell? ⟨g,j,none⟩=some (.string x)):=by
      intro j x hj
      rw [cell_at hg]
      have:(cur.toList.take (out.length * 1))[j]?=(out.map Value.string)[j]?:=by rw [htk]
      rw [List.getElem?_take,if_pos (by have:=lt_of_getElem? hj; omega)] at this
      simpa [hj] using this
     go_loop [6] (fun i=>∃ k:Nat,i=.int .i64 k∧k≤out.length∧∀ j x,j < k→out[j]?=some x→lessS x p=true) (fun i=>out.length - (intOf i).toNat)
     case atStart=>exact ⟨0,rfl,Nat.zero_le _,fun j x h=>by omega⟩
     case round=>
      obtain ⟨k,rfl,hko,hall⟩:=hrel
      by_cases hk:k < out.length
      ·obtain ⟨x,hx⟩:∃ x,out[k]?=some x:=⟨_,List.getElem?_eq_getElem hk⟩
       have hcx:=hcell.out k x hx
       have HX:Hid (out[k]?=some x):=hx
       clear hx
       cases hl:Op.bytesLess x.toList p.toList
       ·have HK:Hid (insAt out p=k):=insAt_of hall hko (fun y hy=>by have:=HX.out.symm.trans hy; injection this with e; subst e; exact hl)
        clear hall
        cases he:(x.toList == p.toList)
        ·have HN:Hid (out[k]?≠some p):=by
          intro h
          rw [HX.out] at h
          injection h with h
          subst h
          simp at he
         go_wp2_with (first | (at_builtin; refine wpList_append_own _ rfl _ _ 44 rfl w.heap.size 9 i0 (.string ⟨#[]⟩) 1 16 Tryz.underlying44 hi0 hz0 hz1 hz2 rfl (by decide) _ _ _ rfl (hown.alloc _) ⟨wr.heap.size,0,none⟩ 1 1 [.string ⟨#[]⟩] rfl rfl (cell_one_new _ _ _) ?c2 ?c3 ?c4 ?c5 ?_) | go_in)
         case c2=>rfl
         case c3=>unfold maxLen; omega
         case c4=>omega
         case c5=>have:=hblw.size; simp; omega
         intro v' w1 hown1 hgrow1 _
         obtain ⟨g1,cp1,cur1,hv1,hBg1,hg1,hnc1,hcm1,hcs1,htk1⟩:∃ g cap cur,v'=.slice (some ⟨g,0,none⟩) (out.length+1) cap∧w.heap.size≤g∧w1.heap[g]?=some (.cells cur 9 (0,0))∧out.length+1≤cap∧cap≤maxLen∧cur.size=cap * 1∧cur.toList.take ((out.length+1) * 1)=out.map Value.string ++ [.string ⟨#[]⟩]:=by
          rcases hown1.2 with ⟨_,h0⟩ | h
          ·omega
          ·exact h
         rw [hv1]
         go_wp2
         have hwp:IntKind.i64.wrap ((k:Int)+1)=(k:Int)+1:=by rw [wrap_i64 _ (by omega) (by omega)]
         have hk1:(k:Int)+1≤(out.length:Int)+1:=by omega
         have hk2:(k:Int)≤(out.length:Int)+1:=by omega
         have hk3:0≤(k:Int)+1:=by omega
         have htn:((k:Int)+1).toNat=k+1:=by omega
         have hg1':w1.drew.heap[g1]?=some (.cells cur1.toList.toArray 9 (0,0)):=by rw [Array.toArray_toList]; exact hg1
         obtain ⟨cs,hcsE⟩:∃ cs,cs=(out.drop k).map Value.string:=⟨_,rfl⟩
         have hcl:cs.length=out.length - k:=by rw [hcsE]; simp
         have hc1:∀ v∈cs,v.oneCell'=true:=by intro v hv; rw [hcsE] at hv; obtain ⟨y,_,rfl⟩:=List.mem_map.1 hv; rfl
         have HCS:Hid (cs=(out.drop k).map Value.string):=hcsE
         clear hcsE
         have hbd:Below w.heap.size w w1.drew:=((hblw.alloc hblw.size _).grown hgrow1 (by have:=hblw.size; simp; omega) (fun j hj=>(hown.lt j hj).1)).drew
         have hcc:∀ j v,cs[j]?=some v→w1.drew.cell? ((⟨g1,k,none⟩:Addr).add j)=some v:=by
          intro j v hj
          have hj':j < cs.length:=lt_of_getElem? hj
          have h1:(cur1.toList.take ((out.length+1) * 1))[k+j]?=some v:=by
           rw [htk1,List.getElem?_append_left (by simp; omega)]
           rw [HCS.out,List.map_drop,List.getElem?_drop] at hj
           exact hj
          rw [List.getElem?_take,if_pos (by omega)] at h1
          have h2:w1.drew.heap[g1]?=some (.cells cur1 9 (0,0)):=hg1
          rw [Addr.add_lit,cell_at h2]
          simpa using h1
         have HCC:=hide hcc
         clear hcc
         have hcp2:¬ cp1=k:=by omega
         obtain ⟨D,hD,hDk⟩:∃ D:Addr,(if cp1=k+1 then some (⟨g1,0,none⟩:Addr) else some ⟨g1,k+1,none⟩)=some D∧Hid (0 < cs.length→D=⟨g1,k+1,none⟩):=by
          by_cases h:cp1=k+1
          ·exact ⟨⟨g1,0,none⟩,by simp [h],fun h0=>by omega⟩
          ·exact ⟨⟨g1,k+1,none⟩,by simp [h],fun _=>rfl⟩
         have s1:Hid (cs.length=Nat.min (out.length+1 - k) (out.length - k)):=by
          rw [hcl]
          exact (Nat.min_eq_right (by omega)).symm
         have s2':k+1+cs.length≤cur1.toList.length:=by rw [show cur1.toList.length=cur1.size from Array.length_toList]; omega
         have s2:=hide s2'
         clear s2'
         have s3:=hide hc1
         clear hc1
         go_region_law (refine step_copy_splice rfl (.tmp 61) (.tmp 64) 44 44 rfl 9 Tryz.underlying44 sizeStr (some D) (some ⟨g1,k,none⟩) (out.length - k) (cp1 - (k+1)) (out.length+1 - k) (cp1 - k) (by simp [Act.eval,Act.put]) (by simp [Act.eval,Act.put]) g1 (k+1) cur1.toList 9 hg1' cs s1.out (fun h0=>⟨congrArg some (hDk.out h0),⟨g1,k,none⟩,rfl,unhide HCC⟩) s2.out s3.out w.heap.size w hbd hBg1 ?_; intro w4 hg4 hb4)
         have hg4':w4.heap[g1]?=some (.cells (splice cur1.toList (k+1) ((out.drop k).map Value.string)).toArray 9 (0,0)):=by rw [← HCS.out]; exact hg4.out
         have hfin:=hi.ins HS.out HK.out HN.out hBg1 hnc1 hcm1 (by rw [Array.length_toList,hcs1,Nat.mul_one]) (by rw [← htk1,Nat.mul_one]) hg4' hb4
         obtain ⟨v0,hv0⟩:∃ v0,w4.cell? ⟨g1,k,none⟩=some v0:=by
          rw [cell_at hg4']
          refine ⟨_,Array.getElem?_eq_getElem ?_⟩
          rw [List.size_toArray,length_splice _ _ _ (by rw [← HCS.out]; exact s2.out),Array.length_toList]
          omega
         have hf0:w4.frozen? ⟨g1,k,none⟩=false:=frozen_at hg4' _
         clear hg4' hg4 hb4 hg1' hbd HCC hD hDk s1 s2 s3 hown1 hgrow1 hg1 htk1
         go_wp2
         go_roundw
         case rel=>exact ⟨m+1,_,by go_num,hfin⟩
         case measure=>simp [intOf]; omega
        ·have hfin:=hi.old HS.out HK.out (by rw [HX.out,toList_inj (beq_iff_eq.1 he)])
         go_wp2
         go_roundw
         case rel=>exact ⟨m+1,_,by go_num,hfin⟩
         case measure=>simp [intOf]; omega
       ·have HA:Hid (∀ j y,j < k+1→out[j]?=some y→lessS y p=true):=by
         intro j y hj hy
         by_cases h:j < k
         ·exact hall j y h hy
         ·have e:j=k:=by omega
          subst e
          have:=HX.out.symm.trans hy
          injection this with e
          subst e
          exact hl
        clear hall
        go_wp2
        go_round
        case rel=>exact ⟨k+1,by go_num,by omega,HA.out⟩
        case measure=>simp [intOf]; omega
      ·have HK:Hid (insAt out p=k):=insAt_of hall hko (fun y hy=>absurd (lt_of_getElem? hy) hk)
       have HN:Hid (out[k]?≠some p):=fun h=>hk (lt_of_getElem? h)
       clear hall
       go_wp2_with (first | (at_builtin; refine wpList_append_own _ rfl _ _ 44 rfl w.heap.size 9 i0 (.string ⟨#[]⟩) 1 16 Tryz.underlying44 hi0 hz0 hz1 hz2 rfl (by decide) _ _ _ rfl (hown.alloc _) ⟨wr.heap.size,0,none⟩ 1 1 [.string ⟨#[]⟩] rfl rfl (cell_one_new _ _ _) ?c2 ?c3 ?c4 ?c5 ?_) | go_in)
       case c2=>rfl
       case c3=>unfold maxLen; omega
       case c4=>omega
       case c5=>have:=hblw.size; simp; omega
       intro v' w1 hown1 hgrow1 _
       obtain ⟨g1,cp1,cur1,hv1,hBg1,hg1,hnc1,hcm1,hcs1,htk1⟩:∃ g cap cur,v'=.slice (some ⟨g,0,none⟩) (out.length+1) cap∧w.heap.size≤g∧w1.heap[g]?=some (.cells cur 9 (0,0))∧out.length+1≤cap∧cap≤maxLen∧cur.size=cap * 1∧cur.toList.take ((out.length+1) * 1)=out.map Value.string ++ [.string ⟨#[]⟩]:=by
        rcases hown1.2 with ⟨_,h0⟩ | h
        ·omega
        ·exact h
       rw [hv1]
       go_wp2
       have hwp:IntKind.i64.wrap ((k:Int)+1)=(k:Int)+1:=by rw [wrap_i64 _ (by omega) (by omega)]
       have hk1:(k:Int)+1≤(out.length:Int)+1:=by omega
       have hk2:(k:Int)≤(out.length:Int)+1:=by omega
       have hk3:0≤(k:Int)+1:=by omega
       have htn:((k:Int)+1).toNat=k+1:=by omega
       have hg1':w1.drew.heap[g1]?=some (.cells cur1.toList.toArray 9 (0,0)):=by rw [Array.toArray_toList]; exact hg1
       obtain ⟨cs,hcsE⟩:∃ cs,cs=(out.drop k).map Value.string:=⟨_,rfl⟩
       have hcl:cs.length=out.length - k:=by rw [hcsE]; simp
       have hc1:∀ v∈cs,v.oneCell'=true:=by intro v hv; rw [hcsE] at hv; obtain ⟨y,_,rfl⟩:=List.mem_map.1 hv; rfl
       have HCS:Hid (cs=(out.drop k).map Value.string):=hcsE
       clear hcsE
       have hbd:Below w.heap.size w w1.drew:=((hblw.alloc hblw.size _).grown hgrow1 (by have:=hblw.size; simp; omega) (fun j hj=>(hown.lt j hj).1)).drew
       have hcc:∀ j v,cs[j]?=some v→w1.drew.cell? ((⟨g1,k,none⟩:Addr).add j)=some v:=by
        intro j v hj
        have hj':j < cs.length:=lt_of_getElem? hj
        have h1:(cur1.toList.take ((out.length+1) * 1))[k+j]?=some v:=by
         rw [htk1,List.getElem?_append_left (by simp; omega)]
         rw [HCS.out,List.map_drop,List.getElem?_drop] at hj
         exact hj
        rw [List.getElem?_take,if_pos (by omega)] at h1
        have h2:w1.drew.heap[g1]?=some (.cells cur1 9 (0,0)):=hg1
        rw [Addr.add_lit,cell_at h2]
        simpa using h1
       have HCC:=hide hcc
       clear hcc
       have hcp2:¬ cp1=k:=by omega
       obtain ⟨D,hD,hDk⟩:∃ D:Addr,(if cp1=k+1 then some (⟨g1,0,none⟩:Addr) else some ⟨g1,k+1,none⟩)=some D∧Hid (0 < cs.length→D=⟨g1,k+1,none⟩):=by
        by_cases h:cp1=k+1
        ·exact ⟨⟨g1,0,none⟩,by simp [h],fun h0=>by omega⟩
        ·exact ⟨⟨g1,k+1,none⟩,by simp [h],fun _=>rfl⟩
       have s1:Hid (cs.length=Nat.min (out.length+1 - k) (out.length - k)):=by
        rw [hcl]
        exact (Nat.min_eq_right (by omega)).symm
       have s2':k+1+cs.length≤cur1.toList.length:=by rw [show cur1.toList.length=cur1.size from Array.length_toList]; omega
       have s2:=hide s2'
       clear s2'
       have s3:=hide hc1
       clear hc1
       go_region_law (refine step_copy_splice rfl (.tmp 61) (.tmp 64) 44 44 rfl 9 Tryz.underlying44 sizeStr (some D) (some ⟨g1,k,none⟩) (out.length - k) (cp1 - (k+1)) (out.length+1 - k) (cp1 - k) (by simp [Act.eval,Act.put]) (by simp [Act.eval,Act.put]) g1 (k+1) cur1.toList 9 hg1' cs s1.out (fun h0=>⟨congrArg some (hDk.out h0),⟨g1,k,none⟩,rfl,unhide HCC⟩) s2.out s3.out w.heap.size w hbd hBg1 ?_; intro w4 hg4 hb4)
       have hg4':w4.heap[g1]?=some (.cells (splice cur1.toList (k+1) ((out.drop k).map Value.string)).toArray 9 (0,0)):=by rw [← HCS.out]; exact hg4.out
       have hfin:=hi.ins HS.out HK.out HN.out hBg1 hnc1 hcm1 (by rw [Array.length_toList,hcs1,Nat.mul_one]) (by rw [← htk1,Nat.mul_one]) hg4' hb4
       obtain ⟨v0,hv0⟩:∃ v0,w4.cell? ⟨g1,k,none⟩=some v0:=by
        rw [cell_at hg4']
        refine ⟨_,Array.getElem?_eq_getElem ?_⟩
        rw [List.size_toArray,length_splice _ _ _ (by rw [← HCS.out]; exact s2.out),Array.length_toList]
        omega
       have hf0:w4.frozen? ⟨g1,k,none⟩=false:=frozen_at hg4' _
       clear hg4' hg4 hb4 hg1' hbd HCC hD hDk s1 s2 s3 hown1 hgrow1 hg1 htk1
       go_wp2
       go_roundw
       case rel=>exact ⟨m+1,_,by go_num,hfin⟩
       case measure=>simp [intOf]; omega
  ·go_wp2
   have hm:m=2 * fs.length:=by have:=hi.le; omega
   subst hm
   go_ret
   refine ⟨_,rfl,?_⟩
   have e:=hi.eqn
   rw [List.take_of_length_le (by rw [strsOf_length]; omega)] at e
   rw [← e]
   exact hi
theorem names_none (ao:Option Addr) (cap:Nat) (w:World) :
  Calls Tryz.prog 53 #[.slice ao 0 cap] w fun e w'=>∃ v,e=.returned v∧NInv w w' [] 0 v (namesS (strsOf [])):=by
 go_enter Tryz.func53,Tryz.ntmps53
 go_wp2
 refine wp_loop_rounds 1 ?_
 rw [rounds_succ]
 go_wp2
 go_ret
 exact ⟨_,rfl,Nat.le_refl _,rfl,Nat.le_refl _,World.ownsRow_nil _ _ _ _,Below.refl _ _⟩
theorem names_any (v:Value) (fs:List Fct) (w:World) (hlen:fs.length≤1000) (hv:IsFacts v fs w) :
  Calls Tryz.prog 53 #[v] w fun e w'=>∃ v,e=.returned v∧NInv w w' fs (2 * fs.length) v (namesS (strsOf fs)):=by
 obtain ⟨ao,cap,rfl,_,_,h⟩:=hv
 by_cases hfs:fs=[]
 ·subst hfs
  exact names_none ao cap w
 ·obtain ⟨b,off,rfl,hb,hf⟩:=h hfs
  exact names_some b off cap fs w hlen hf hb
end
end Go.Proofs.YtiamlbhkiehilaaGreatDoor
