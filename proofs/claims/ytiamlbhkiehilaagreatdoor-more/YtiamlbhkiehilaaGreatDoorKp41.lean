import Derived.Test.YtiamlbhkiehilaaGreatDoorKp39
import Derived.Test.YtiamlbhkiehilaaGreatDoorKp40
import Derived.Test.YtiamlbhkiehilaaGreatDoorKp18
import Derived.Test.YtiamlbhkiehilaaGreatDoorKpSh
import Derived.Test.YtiamlbhkiehilaaGreatDoorKp06
namespace Go.Proofs.YtiamlbhkiehilaaGreatDoor
section
open Go.RowKit Go.Maps
set_option maxRecDepth 100000 in
set_option maxHeartbeats 2000000 in
theorem cread_any (s:ByteArray) (w:World) (m:Int) (hs:s.size≤maxLen) (hm:w.cell? ⟨1,0,none⟩=some (.int .i64 m)) :
  Calls Tryz.prog 38 #[.string s] w fun e w'=>RdRes w w' s e:=by
 unfold maxLen at hs
 obtain ⟨i0,hi0,hz0,hz1,hz2⟩:=info_parts infoRow
 have g0:=heap_new w (.cells #[.int .i64 0,.int .i64 0] 27)
 have hb0:Below w.heap.size w (w.alloc (.cells #[.int .i64 0,.int .i64 0] 27)):=(Below.refl _ _).alloc (Nat.le_refl _) _
 by_cases hbig:25000 < s.size
 ·have HE:Hid (readB s=([],2,0)):=by unfold Hid readB; rw [if_pos hbig]
  go_enter Tryz.func38,Tryz.ntmps38
  go_wp2_with fail
  refine bodyPost_ret (v:=.tuple #[.slice none 0 0,.agg #[.int .i64 2,.int .i64 0]]) (by simp [results,Tryz.results38,go_sem]) rfl (RdRes.bad HE.out ?_)
  exact (Below.refl _ _).alloc (Nat.le_refl _) _
 ·have HE:Hid (readB s=readGo [] noB 0 (linesB s)):=by unfold Hid readB; rw [if_neg hbig]
  have hsp':=split_lines s
  have hcl:=Lib.splitB_all ⟨#[10]⟩ (by decide) 0 _ s rfl
  rw [hsp'] at hcl
  go_enter Tryz.func38,Tryz.ntmps38
  go_wp2_with fail
  generalize w.alloc (.cells #[.int .i64 0,.int .i64 0] 27)=w0 at g0 hb0 ⊢
  have hl0:=lt_of_heap g0
  have hm0:w0.cell? ⟨1,0,none⟩=some (.int .i64 m):=by rw [hb0.cell (World.block_lt_of_cell? _ _ hm)]; exact hm
  refine (Tryz.strings_Split s ⟨#[10]⟩ m w0 (by omega) hm0 (by decide)).mono ?_
  rintro e w1 ⟨rfl,hw1⟩
  rw [← hcl]
  rw [hsp'] at hw1
  have g3:=heap_new w0 (.cells ((linesB s).map Value.string).toArray 9)
  have hb1:Below w0.heap.size w0 (w0.alloc (.cells ((linesB s).map Value.string).toArray 9)):=(Below.refl _ _).alloc (Nat.le_refl _) _
  rw [← hw1] at g3 hb1
  clear hw1 hm0 hcl hsp'
  have g1:=Below.heapAt hb1 g0 hl0
  have hB1:Below w.heap.size w w1:=hb0.trans (hb1.mono hb0.size)
  have hls:=linesB_len s
  have HSZ:=hide (linesB_size s)
  have hpos:0 < (linesB s).length:=by simp [linesB]
  have HRD:=hide (fun (i:Nat) l (hl:(linesB s)[i]?=some l)=>show w1.cell? ⟨w0.heap.size,i,none⟩=some (.string l) from by rw [cell_at g3]; simp [hl])
  have hgl:=lt_of_heap g3
  clear g3 hb1 g0 hb0
  generalize linesB s=ls at *
  generalize w0.heap.size=g at *
  obtain ⟨n,hn⟩:∃ n,ls.length=n+1:=⟨ls.length - 1,by omega⟩
  rw [hn]
  go_wp2_with fail
  go_loopw [6,7,26] (fun v lv iv wr=>∃ (i:Nat) (last:ByteArray) (ps:List (RowD × Value)),lv=.string last∧iv=.int .i64 i∧RdInv w1 wr ls i v last ps) (fun _ _ iv _=>ls.length - (intOf iv).toNat)
  case atStart=>exact ⟨0,noB,[],rfl,rfl,hpos,rfl,by simp,OwnR.nil _ _ _,Below.refl _ _⟩
  case round=>
   obtain ⟨i,last,ps,rfl,rfl,hi⟩:=hrel
   have hblw:=hi.blw
   have hown:=hi.own
   have hit:=hi.lt
   have hcnt:=hi.cnt
   have hwl:w.heap.size < w1.heap.size:=lt_of_heap g1
   have g2:=Below.heapAt hblw g1 hwl
   have hBx:Below w.heap.size w wr:=hB1.trans (hblw.mono (Nat.le_of_lt hwl))
   obtain ⟨l,hl⟩:∃ l,ls[i]?=some l:=⟨_,List.getElem?_eq_getElem hit⟩
   have cl:wr.cell? ⟨g,i,none⟩=some (.string l):=(World.cell?_of_block (w:=w1) (a:=⟨g,i,none⟩) (hblw.block g hgl)).trans (HRD.out i l hl)
   have heq:=hi.eqn
   rw [drop_here hl] at heq
   have hlsz:=HSZ.out l (List.mem_of_getElem? hl)
   by_cases hlast:i=n
   ·subst hlast
    have hd:ls.drop (i+1)=[]:=by rw [← hn,List.drop_length]
    rw [hd,readGo_last] at heq
    obtain ⟨c0,c1,f0,f1⟩:=err_cells g2
    by_cases hz:l.size=0
    ·rw [if_pos hz] at heq
     have HF:Hid (readB s=(ps.map Prod.fst,0,0)):=HE.out.trans heq
     have hl0':=size_zero hz
     subst hl0'
     clear hi heq hl g2
     go_wp2_with fail
     refine bodyPost_ret (v:=.tuple #[u6,.agg #[.int .i64 0,.int .i64 0]]) (by simp [results,Tryz.results38,go_sem,c0,c1]) rfl ⟨u6,ps,by rw [HF.out],by rw [HF.out],?_,?_⟩
     ·exact (((hown.store hwl).store hwl).low (Nat.le_of_lt hwl)).high (by simp [World.setCell])
     ·exact (hBx.setCell (p:=⟨w.heap.size,0,none⟩) (Nat.le_refl _) _).setCell (p:=⟨w.heap.size,1,none⟩) (Nat.le_refl _) _
    ·rw [if_neg hz] at heq
     have HF:Hid (readB s=([],4,(i:Int)+1)):=HE.out.trans heq
     have hne:=not_empty hz
     clear hi heq hl g2
     go_wp2_with fail
     refine bodyPost_ret (v:=.tuple #[.slice none 0 0,.agg #[.int .i64 4,.int .i64 ((i:Int)+1)]]) (by simp [results,Tryz.results38,go_sem,c0,c1]) rfl (RdRes.bad HF.out ?_)
     exact (hBx.setCell (p:=⟨w.heap.size,0,none⟩) (Nat.le_refl _) _).setCell (p:=⟨w.heap.size,1,none⟩) (Nat.le_refl _) _
   ·obtain ⟨l',hl'⟩:∃ l',ls[i+1]?=some l':=⟨_,List.getElem?_eq_getElem (by omega)⟩
    rw [drop_here hl'] at heq
    have HQ:=hide heq
    have HL':=hide hl'
    have hin:i < n:=by omega
    clear heq hi hl'
    go_wp2_with fail
    refine (crow_any l wr (by omega)).mono ?_
    rintro e w2 (⟨hno,rfl,hb2⟩ | ⟨r,tv,hr,rfl,ho2,hb2⟩)
    ·have HF:Hid (readB s=([],4,(i:Int)+1)):=HE.out.trans (HQ.out.trans (readGo_form hno))
     have g3:=heap_old (Below.heapAt hb2 g2 (lt_of_heap g2)) (.cells #[.string ⟨#[]⟩,.slice none 0 0] 51)
     have hB3:Below w.heap.size w (w2.alloc (.cells #[.string ⟨#[]⟩,.slice none 0 0] 51)):=(hBx.trans (hb2.mono hBx.size)).alloc (Nat.le_trans hBx.size hb2.size) _
     have g4:=heap_new w2 (.cells #[.string ⟨#[]⟩,.slice none 0 0] 51)
     go_wp2_with fail
     generalize w2.alloc (.cells #[.string ⟨#[]⟩,.slice none 0 0] 51)=w3 at g3 g4 hB3 ⊢
     refine (check_any ⟨#[]⟩ (.slice none 0 0) [] false last w3 (by decide) (by decide) ⟨none,0,rfl,Nat.le_refl _,fun _=>rfl,fun h=>absurd rfl h⟩ (fun x hx=>by simp at hx)).mono ?_
     rintro e w4 ⟨rfl,hb4⟩
     have hck:chk false ⟨⟨#[]⟩,[]⟩ last=4:=rfl
     rw [hck]
     have g5:=Below.heapAt hb4 g3 (lt_of_heap g3)
     have hB4:Below w.heap.size w w4:=hB3.trans (hb4.mono hB3.size)
     obtain ⟨c0,c1,f0,f1⟩:=err_cells g5
     clear hno hown g2 g3 g4 g5 cl
     go_wp2_with fail
     refine bodyPost_ret (v:=.tuple #[.slice none 0 0,.agg #[.int .i64 4,.int .i64 ((i:Int)+1)]]) (by simp [results,Tryz.results38,go_sem,c0,c1]) rfl (RdRes.bad HF.out ?_)
     exact (hB4.setCell (p:=⟨w.heap.size,0,none⟩) (Nat.le_refl _) _).setCell (p:=⟨w.heap.size,1,none⟩) (Nat.le_refl _) _
    ·obtain ⟨ta,tc,rfl,_⟩:=own_form ho2
     obtain ⟨q1,q2,q3⟩:=refRow_fits (lineRow_ref hr).1
     have HR:=hide hr
     have g3:=heap_old (Below.heapAt hb2 g2 (lt_of_heap g2)) (.cells #[.string r.name,.slice ta r.to.length tc] 51)
     have hb3:Below wr.heap.size wr (w2.alloc (.cells #[.string r.name,.slice ta r.to.length tc] 51)):=hb2.alloc hb2.size _
     have g4:=heap_new w2 (.cells #[.string r.name,.slice ta r.to.length tc] 51)
     have ho3:=ho2.alloc (.cells #[.string r.name,.slice ta r.to.length tc] 51)
     go_wp2_with fail
     generalize w2.alloc (.cells #[.string r.name,.slice ta r.to.length tc] 51)=w3 at g3 g4 hb3 ho3 ⊢
     refine (check_any r.name (.slice ta r.to.length tc) r.to true last w3 (by unfold maxLen; omega) (by unfold maxLen; omega) (strs_of_owns ho3) (fun x hx=>by have:=q3 x hx; unfold maxLen; omega)).mono ?_
     rintro e w4 ⟨rfl,hb4⟩
     have g5:=Below.heapAt hb4 g3 (lt_of_heap g3)
     have g6:=Below.heapAt hb4 g4 (lt_of_heap g4)
     have ho4:=own_below ho3 hb4
     have hb5:Below wr.heap.size wr w4:=hb3.trans (hb4.mono hb3.size)
     have hB4:Below w.heap.size w w4:=hBx.trans (hb5.mono hBx.size)
     have hbl4:Below w1.heap.size w1 w4:=hblw.trans (hb5.mono hblw.size)
     have hown4:=hown.below hb5
     obtain ⟨c0,c1,f0,f1⟩:=err_cells g5
     obtain ⟨d0,d1,e0,e1⟩:=err_cells g6
     have HO4:=hide ho4
     have HW4:=hide hown4
     have G6:=hide g6
     have hz2w:wr.heap.size≤w2.heap.size:=hb2.size
     clear ho2 ho3 ho4 hown hown4 hb2 hb3 hb4 g2 g3 g4 g5 g6 e0 e1 cl hr hb5
     have hen:chk true ⟨r.name,r.to⟩ last=chk true r last:=rfl
     rw [hen]
     clear hen
     by_cases herr:chk true r last=0
     ·have HN:Hid (readGo [] noB 0 ls=readGo ((ps ++ [(r,Value.slice ta r.to.length tc)]).map Prod.fst) r.name (i+1) (ls.drop (i+1))):=by
       unfold Hid
       rw [drop_here HL'.out,HQ.out,readGo_add HR.out herr]
       simp
      rw [herr]
      clear herr
      go_wp2_with (first | (at_builtin; refine wpList_append_own _ rfl _ _ 40 rfl w1.heap.size 51 i0 (.agg #[.string ⟨#[]⟩,.slice none 0 0]) 2 40 Tryz.underlying40 hi0 hz0 hz1 hz2 rfl (by decide) _ _ _ rfl (HW4.out.row.alloc _) ⟨w4.heap.size,0,none⟩ 1 1 [.string r.name,.slice ta r.to.length tc] rfl rfl (cells_new _ _ _ _ rfl) ?x6 ?x7 ?x8 ?x9 ?_) | go_in)
      case x6=>intro u hu; simp at hu; rcases hu with rfl | rfl <;> rfl
      case x7=>unfold maxLen; omega
      case x8=>omega
      case x9=>have:=hbl4.size; simp; omega
      intro v' w5 hown5 hgrow5 _
      have hb6:Below w1.heap.size w1 w5:=(hbl4.alloc hbl4.size _).grown hgrow5 (by have:=hbl4.size; simp; omega) (fun j hj=>(HW4.out.row.lt j hj).1)
      have hpu:=HW4.out.push hblw.size HO4.out hown5 hgrow5
      have g7:w5.heap[w2.heap.size]?=some (.cells #[.string r.name,.slice ta r.to.length tc] 51 (0,0)):=(hgrow5.block _ (by have:=lt_of_heap G6.out; simp; omega) (fun e=>by have:=HW4.out.top _ e.symm; omega)).trans (heap_old G6.out _)
      obtain ⟨d0',d1',_,_⟩:=err_cells g7
      clear hown5 hgrow5 g7 d0 d1
      go_wp2_with fail
      go_round
      case rel=>exact ⟨i+1,r.name,ps ++ [(r,.slice ta r.to.length tc)],rfl,by go_num,by omega,HN.out,by rw [List.length_append]; show ps.length+1≤_; omega,hpu,hb6⟩
      case measure=>simp [intOf]; omega
     ·have HF:Hid (readB s=([],chk true r last,(i:Int)+1)):=HE.out.trans (HQ.out.trans (readGo_bad HR.out herr))
      have heb:(chk true r last == 0)=false:=beq_false_of_ne herr
      generalize chk true r last=er at *
      go_wp2_with fail
      refine bodyPost_ret (v:=.tuple #[.slice none 0 0,.agg #[.int .i64 er,.int .i64 ((i:Int)+1)]]) (by simp [results,Tryz.results38,go_sem,c0,c1]) rfl (RdRes.bad HF.out ?_)
      exact (hB4.setCell (p:=⟨w.heap.size,0,none⟩) (Nat.le_refl _) _).setCell (p:=⟨w.heap.size,1,none⟩) (Nat.le_refl _) _
end
section
open Go.RowKit Go.Maps
set_option maxRecDepth 100000 in
set_option maxHeartbeats 1000000 in
theorem qread_any (s:ByteArray) (w:World) (m:Int) (hs:s.size≤maxLen) (hm:w.cell? ⟨1,0,none⟩=some (.int .i64 m)) :
  Calls Tryz.prog 25 #[.string s] w fun e w'=>RdRes w w' s e:=by
 have g0:=heap_new w (.cells #[.int .i64 0,.int .i64 0] 27)
 have hb0:Below w.heap.size w (w.alloc (.cells #[.int .i64 0,.int .i64 0] 27)):=(Below.refl _ _).alloc (Nat.le_refl _) _
 have hm0:(w.alloc (.cells #[.int .i64 0,.int .i64 0] 27)).cell? ⟨1,0,none⟩=some (.int .i64 m):=by rw [hb0.cell (World.block_lt_of_cell? _ _ hm)]; exact hm
 go_enter Tryz.func25,Tryz.ntmps25
 go_wp2_with fail
 generalize w.alloc (.cells #[.int .i64 0,.int .i64 0] 27)=w0 at g0 hb0 hm0 ⊢
 have hl0:=lt_of_heap g0
 refine (cread_any s w0 m hs hm0).mono ?_
 rintro e w1 ⟨v,ps,rfl,hps,hown,hb1⟩
 have g1:=Below.heapAt hb1 g0 hl0
 obtain ⟨c0,c1,f0,f1⟩:=err_cells g1
 have hB1:Below w.heap.size w w1:=hb0.trans (hb1.mono hb0.size)
 generalize hr:readB s=r at hps ⊢
 obtain ⟨fs,k,n⟩:=r
 simp only at hps ⊢
 go_wp2_with fail
 refine bodyPost_ret (v:=.tuple #[v,.agg #[.int .i64 k,.int .i64 n]]) (by simp [results,Tryz.results25,go_sem,c0,c1]) rfl ⟨v,ps,by rw [hr],by rw [hr]; exact hps,?_,?_⟩
 ·exact (((hown.store hl0).store hl0).low (Nat.le_of_lt hl0)).high (by simp [World.setCell])
 ·exact (hB1.setCell (p:=⟨w.heap.size,0,none⟩) (Nat.le_refl _) _).setCell (p:=⟨w.heap.size,1,none⟩) (Nat.le_refl _) _
end
section
open Go.RowKit
set_option maxHeartbeats 400000 in
theorem isFact_any (k:Int) (p q:ByteArray) (w:World) (hp:p.size≤maxLen) (hq:q.size≤maxLen) :
  Calls Tryz.prog 63 #[.agg #[.int .i64 k,.string p,.string q]] w fun e w'=>e=.returned (.bool (factB k p q))∧Below w.heap.size w w':=by
 have hb:∀ o,Below w.heap.size w (w.alloc o):=fun o=>(Below.refl _ _).alloc (Nat.le_refl _) o
 by_cases h1:1≤k
 ·by_cases h2:k≤4
  ·cases hc:nameB p.data.toList
   ·have HC:Hid (nameB p.data.toList=false):=hc
    have HF:Hid (factB k p q=false):=by simp [factB,hc,Hid]
    clear hc
    go_enter Tryz.func63,Tryz.ntmps63
    go_wp2_with (go_at_call 95; refine (isName_any _ _ hp).mono ?_; rintro e w' ⟨rfl,rfl⟩; rw [HC.out])
    go_ret
    exact ⟨by rw [HF.out]; rfl,hb _⟩
   ·have HC:Hid (nameB p.data.toList=true):=hc
    have HF:Hid (factB k p q=nameB q.data.toList):=by simp [factB,hc,Hid,h1,h2]
    clear hc
    go_enter Tryz.func63,Tryz.ntmps63
    go_wp2_with fail
    refine (isName_any _ _ hp).mono ?_; rintro e w' ⟨rfl,rfl⟩; rw [HC.out]
    go_wp2_with fail
    refine (isName_any _ _ hq).mono ?_; rintro e w' ⟨rfl,rfl⟩
    go_wp2
    go_ret
    exact ⟨by rw [HF.out]; rfl,hb _⟩
  ·have HF:Hid (factB k p q=false):=by simp [factB,h2,Hid]
   go_enter Tryz.func63,Tryz.ntmps63
   go_wp2
   go_ret
   exact ⟨by rw [HF.out]; rfl,hb _⟩
 ·have HF:Hid (factB k p q=false):=by simp [factB,h1,Hid]
  go_enter Tryz.func63,Tryz.ntmps63
  go_wp2
  go_ret
  exact ⟨by rw [HF.out]; rfl,hb _⟩
theorem ret_str {a b:ByteArray} (h:a=b):Ending.returned (.string a)=.returned (.string b):=by rw [h]
set_option maxHeartbeats 400000 in
theorem printLine_any (k:Int) (p q:ByteArray) (w:World) (hp:p.size≤12) (hq:q.size≤12) :
  Calls Tryz.prog 66 #[.agg #[.int .i64 k,.string p,.string q]] w fun e w'=>e=.returned (.string (lineB k p q))∧Below w.heap.size w w':=by
 go_enter Tryz.func66,Tryz.ntmps66
 go_wp2
 all_goals
  go_ret
  refine ⟨ret_str ?_,(Below.refl _ _).alloc (Nat.le_refl _) _⟩
  simp_all [lineB]
end
section
open Go.RowKit Go.Maps
theorem nm2 {x a b:Nat} (h1:x≠a) (h2:x≠b):x ∉ [a,b]:=by simp [h1,h2]
structure PInv (w wr:World) (fs:List Fct) (n:Nat) (acc:List UInt8):Prop where
 le:n≤fs.length
 few:n≤120
 short:acc.length≤29 * n
 rest:printGo (fs.take n) (fs.drop n) acc=printGo [] fs []
 res:wr.heap[w.heap.size]?=some (.cells #[.int .i64 0,.int .i64 0] 27 (0,0))
 bld:Lib.IsBuilderF 118 5 w.heap.size (w.heap.size+1) (Lib.byteCells acc) wr
 tal:IsTally (w.heap.size+1+1+1) (w.heap.size+1+1) n (2 * n) (keysOf (fs.take n)) wr
 blw:Below w.heap.size w wr
theorem PInv.start (w:World) (fs:List Fct) :
  PInv w ((((w.alloc (.cells #[.int .i64 0,.int .i64 0] 27)).alloc (.cells #[.pointer none,.slice none 0 0] 118)).alloc (.map #[] 0)).alloc (.cells #[.int .i64 0,.map (some (w.heap.size+1+1))] 158)) fs 0 []:=by
 have s1:(w.alloc (.cells #[.int .i64 0,.int .i64 0] 27)).heap.size=w.heap.size+1:=by simp
 have s2:((w.alloc (.cells #[.int .i64 0,.int .i64 0] 27)).alloc (.cells #[.pointer none,.slice none 0 0] 118)).heap.size=w.heap.size+1+1:=by simp
 have s3:(((w.alloc (.cells #[.int .i64 0,.int .i64 0] 27)).alloc (.cells #[.pointer none,.slice none 0 0] 118)).alloc (.map #[] 0)).heap.size=w.heap.size+1+1+1:=by simp
 refine ⟨Nat.zero_le _,Nat.zero_le _,Nat.le_refl _,rfl,?_,?_,⟨?_,?_⟩,?_⟩
 ·exact heap_old (heap_old (heap_old (heap_new w _) _) _) _
 ·refine .inl ⟨Nat.le_succ _,.slice none 0 0,?_,World.ownsRowF_nil _ _ _ _,by simp [Value.ownBlock]⟩
  have:=heap_new (w.alloc (.cells #[.int .i64 0,.int .i64 0] 27)) (.cells #[.pointer none,.slice none 0 0] 118)
  rw [s1] at this
  exact heap_old (heap_old this _) _
 ·have:=heap_new (((w.alloc (.cells #[.int .i64 0,.int .i64 0] 27)).alloc (.cells #[.pointer none,.slice none 0 0] 118)).alloc (.map #[] 0)) (.cells #[.int .i64 0,.map (some (w.heap.size+1+1))] 158)
  rw [s3] at this
  exact this
 ·have:=World.ownsMap_made (H:=Unit) ((w.alloc (.cells #[.int .i64 0,.int .i64 0] 27)).alloc (.cells #[.pointer none,.slice none 0 0] 118)) Tryz.prog 9 (unitElem (H:=Unit))
  rw [s2] at this
  exact Kb.ownsMap (l:=[]) ((Kb.refl _ _).alloc _) this (by simp)
 ·exact ((((Below.refl _ _).alloc (Nat.le_refl _) _).alloc (by simp) _).alloc (by simp; omega) _).alloc (by simp; omega) _
theorem PInv.kept {w wr w2:World} {fs:List Fct} {n:Nat} {acc:List UInt8} (h:PInv w wr fs n acc) (hk:Kb [] wr w2):PInv w w2 fs n acc:=
 ⟨h.le,h.few,h.short,h.rest,hk.heap h.res (by simp),hk.builder h.bld (by simp) (by simp),⟨hk.heap h.tal.1 (by simp),hk.ownsMap h.tal.2 (by simp)⟩,
  h.blw.trans (hk.below (by have:=lt_of_heap h.res; omega) (by simp))⟩
theorem errOf_zero {pre:List Fct} {f:Fct} (h:errOf pre f=0):f.p.size≤12∧f.q.size≤12∧pre.length < 120:=by
 by_cases h1:12 < f.p.size∨12 < f.q.size
 ·rw [errOf_name h1] at h; cases h
 ·by_cases h2:120≤pre.length
  ·rw [errOf_many h1 h2] at h; cases h
  ·omega
theorem PInv.mid {w w2 w3 w4:World} {fs:List Fct} {n:Nat} {acc:List UInt8} (h:PInv w w2 fs n acc) (hk:Kb [w.heap.size+1+1+1,w.heap.size+1+1] w2 w3) (hk4:Kb [] w3 w4) :
  Lib.IsBuilderF 118 5 w.heap.size (w.heap.size+1) (Lib.byteCells acc) w4∧w.heap.size≤w4.heap.size:=by
 refine ⟨hk4.builder (hk.builder h.bld (nm2 (by omega) (by omega)) ?_) (by simp) (by simp),?_⟩
 ·intro x hx c fz hc
  simp only [List.mem_cons,List.not_mem_nil,or_false] at hx
  rcases hx with rfl | rfl
  ·rw [h.tal.1] at hc; cases hc
  ·obtain ⟨es,cl,hb,_⟩:=h.tal.2
   rw [hb] at hc; cases hc
 ·have:=lt_of_heap h.res
  have:=hk.size
  have:=hk4.size
  omega
theorem PInv.next {w w2 w3 w4 w5:World} {fs:List Fct} {n:Nat} {acc:List UInt8} {k:Int} {p q:ByteArray} (h:PInv w w2 fs n acc) (hf:fs[n]?=some ⟨k,p,q⟩) (hB:factB k p q=true) (he:errOf (fs.take n) ⟨k,p,q⟩=0)
  (hk:Kb [w.heap.size+1+1+1,w.heap.size+1+1] w2 w3) (ht:IsTally (w.heap.size+1+1+1) (w.heap.size+1+1) ((fs.take n).length+1) (2 * ((fs.take n).length+1)) (keysOf (fs.take n ++ [⟨k,p,q⟩])) w3)
  (hk4:Kb [] w3 w4) (hb5:Lib.IsBuilderF 118 5 w.heap.size (w.heap.size+1) (Lib.byteCells acc ++ Lib.strCells (lineB k p q)) w5) (hw5:Below w.heap.size w4 w5) (ho:Lib.OthersKept 5 (some (w.heap.size+1)) w4 w5) :
  PInv w w5 fs (n+1) (acc ++ (lineB k p q).data.toList):=by
 have hlt:=(List.getElem?_eq_some_iff.1 hf).1
 have hnl:(fs.take n).length=n:=by rw [List.length_take]; have:=h.le; omega
 rw [hnl,← take_next hf] at ht
 obtain ⟨s1,s2,s3⟩:=errOf_zero he
 rw [hnl] at s3
 simp only at s1 s2
 refine ⟨hlt,s3,?_,?_,?_,?_,⟨?_,?_⟩,?_⟩
 ·have h1:=lineB_size k p q
  have h2:(lineB k p q).data.toList.length=(lineB k p q).size:=Array.length_toList
  have h3:=h.short
  rw [List.length_append,h2]
  omega
 ·have e:=h.rest
  rw [drop_here hf,printGo_ok (f:=⟨k,p,q⟩) hB he,← take_next hf] at e
  exact e
 ·exact ho _ _ (hk4.heap (hk.heap h.res (nm2 (by omega) (by omega))) (by simp)) (by intro e; injection e; omega) (by intro c fz e; cases e)
 ·have e:Lib.byteCells (acc ++ (lineB k p q).data.toList)=Lib.byteCells acc ++ Lib.strCells (lineB k p q):=by simp [Lib.byteCells,Lib.strCells]
  rw [e]; exact hb5
 ·exact ho _ _ (hk4.heap ht.1 (by simp)) (by intro e; injection e; omega) (by intro c fz e; cases e)
 ·exact others_ownsMap ho (hk4.ownsMap ht.2 (by simp)) (by intro e; injection e; omega)
 ·have hs:=lt_of_heap h.res
  have hs2:=hk.size
  refine ((h.blw.trans (hk.below (by omega) ?_)).trans (hk4.below (by omega) (by simp))).trans hw5
  intro x hx
  simp only [List.mem_cons,List.not_mem_nil,or_false] at hx
  omega
set_option maxHeartbeats 400000 in
theorem fprint_some (b off cap:Nat) (fs:List Fct) (w:World) (hlen:fs.length≤maxLen) (hf:FactsAt b off fs w) (hb:b < w.heap.size) (hfit:fitsF fs) :
  Calls Tryz.prog 34 #[.slice (some ⟨b,off,none⟩) fs.length cap] w fun e w'=>e=.returned (.tuple #[.string ⟨(printGo [] fs []).1.toArray⟩,.agg #[.int .i64 (printGo [] fs []).2.1,.int .i64 (printGo [] fs []).2.2]])∧Below w.heap.size w w':=by
 unfold maxLen at hlen
 go_enter Tryz.func34,Tryz.ntmps34
 go_wp2_with fail
 refine (newTally_any _).mono ?_
 rintro e w1 ⟨rfl,rfl⟩
 go_wp2_with fail
 go_loopw [12] (fun i wr=>∃ n acc,i=.int .i64 (n:Nat)∧PInv w wr fs n acc) (fun i _=>fs.length - (intOf i).toNat)
 case atStart=>exact ⟨0,[],rfl,PInv.start w fs⟩
 case round=>
  obtain ⟨n,acc,rfl,hi⟩:=hrel
  by_cases hlt:n < fs.length
  ·obtain ⟨⟨k,p,q⟩,hfn⟩:∃ f,fs[n]?=some f:=⟨_,List.getElem?_eq_getElem hlt⟩
   have HF:Hid (fs[n]?=some ⟨k,p,q⟩):=hfn
   obtain ⟨d0,d1,d2⟩:=(hf.below hi.blw hb) n k p q hfn
   obtain ⟨hp,hq⟩:=hfit _ (List.mem_of_getElem? hfn)
   simp only at hp hq
   clear hfn
   go_wp2_with fail
   refine (isFact_any k p q _ hp hq).mono ?_
   rintro e w2 ⟨rfl,hb2⟩
   have hk2:Kb [] wr w2:=((Kb.refl _ _).alloc _).trans (Kb.of_below hb2 [])
   have hi2:=hi.kept hk2
   have g0:w2.heap[wr.heap.size]?=some (.cells #[.int .i64 k,.string p,.string q] 48 (0,0)):=Below.heapAt hb2 (heap_new _ _) (by simp)
   have g1:w2.cell? ⟨wr.heap.size,0,none⟩=some (.int .i64 k):=by rw [cell_at g0]; rfl
   have g2:w2.cell? ⟨wr.heap.size,1,none⟩=some (.string p):=by rw [cell_at g0]; rfl
   have g3:w2.cell? ⟨wr.heap.size,2,none⟩=some (.string q):=by rw [cell_at g0]; rfl
   have r0:w2.cell? ⟨w.heap.size,0,none⟩=some (.int .i64 0):=by rw [cell_at hi2.res]; rfl
   have r1:w2.cell? ⟨w.heap.size,1,none⟩=some (.int .i64 0):=by rw [cell_at hi2.res]; rfl
   have r2:w2.frozen? ⟨w.heap.size,0,none⟩=false:=frozen_at hi2.res _
   have r3:w2.frozen? ⟨w.heap.size,1,none⟩=false:=frozen_at hi2.res _
   have hsw:=lt_of_heap hi.tal.1
   clear hb2 d0 d1 d2 hi hk2
   cases hB:factB k p q
   ·have HE:Hid (printGo [] fs []=([],4,(n:Int)+1)):=by
     have e:=hi2.rest
     rw [drop_here HF.out,printGo_form (f:=⟨k,p,q⟩) hB,List.length_take,Nat.min_eq_left (by omega)] at e
     exact e.symm
    clear hB
    have hbl:=hi2.blw
    clear hi2
    go_wp2
    refine bodyPost_ret (v:=.tuple #[.string ⟨#[]⟩,.agg #[.int .i64 4,.int .i64 ((n:Int)+1)]]) (by simp [results,Tryz.results34,go_sem,r0,r1]) rfl ⟨by rw [HE.out],?_⟩
    exact (hbl.setCell (p:=⟨w.heap.size,0,none⟩) (Nat.le_refl _) _).setCell (p:=⟨w.heap.size,1,none⟩) (Nat.le_refl _) _
   ·have HB:Hid (factB k p q=true):=hB
    clear hB
    go_wp2_with fail
    have hnl:(fs.take n).length=n:=by rw [List.length_take]; omega
    have htal:=hi2.tal
    have h120:=hi2.few
    refine (add_any (w.heap.size+1+1+1) (w.heap.size+1+1) (fs.take n) k p q _ (by omega) hp hq (by rw [hnl]; exact htal)).mono ?_
    rintro e w3 ⟨rfl,hk3,ht3⟩
    clear htal
    have hsz:=lt_of_heap hi2.tal.1
    have hsz2:=lt_of_heap g0
    have k0:w3.heap[wr.heap.size]?=some (.cells #[.int .i64 k,.string p,.string q] 48 (0,0)):=hk3.heap g0 (nm2 (by omega) (by omega))
    have k4:w3.heap[w.heap.size]?=some (.cells #[.int .i64 0,.int .i64 0] 27 (0,0)):=hk3.heap hi2.res (nm2 (by omega) (by omega))
    have k1:w3.cell? ⟨wr.heap.size,0,none⟩=some (.int .i64 k):=by rw [cell_at k0]; rfl
    have k2:w3.cell? ⟨wr.heap.size,1,none⟩=some (.string p):=by rw [cell_at k0]; rfl
    have k3:w3.cell? ⟨wr.heap.size,2,none⟩=some (.string q):=by rw [cell_at k0]; rfl
    have q0:w3.cell? ⟨w.heap.size,0,none⟩=some (.int .i64 0):=by rw [cell_at k4]; rfl
    have q1:w3.cell? ⟨w.heap.size,1,none⟩=some (.int .i64 0):=by rw [cell_at k4]; rfl
    have q2:w3.frozen? ⟨w.heap.size,0,none⟩=false:=frozen_at k4 _
    have q3:w3.frozen? ⟨w.heap.size,1,none⟩=false:=frozen_at k4 _
    clear k0 k4 g0 g1 g2 g3 r0 r1 r2 r3
    by_cases he:errOf (fs.take n) ⟨k,p,q⟩=0
    ·have ht4:=ht3 he
     obtain ⟨s1,s2,_⟩:=errOf_zero he
     simp only at s1 s2
     have HR:Hid (errOf (fs.take n) ⟨k,p,q⟩=0):=he
     rw [HR.out]
     clear he ht3
     go_wp2_with fail
     refine (printLine_any k p q _ s1 s2).mono ?_
     rintro e w4 ⟨rfl,hb4⟩
     have hk4:Kb [] w3 w4:=Kb.of_below hb4 []
     obtain ⟨hbd,hsz4⟩:=hi2.mid hk3 hk4
     have hsh:=hi2.short
     have hln:=lineB_size k p q
     have hbc:(Lib.byteCells acc).length=acc.length:=Lib.byteCells_length acc
     go_wp2_with fail
     refine (writeString_any w.heap.size (w.heap.size+1) (Lib.byteCells acc) (lineB k p q) _ hbd (by omega) hsz4).mono ?_
     rintro e w5 ⟨rfl,hb5,hw5,ho5⟩
     have hnext:=hi2.next HF.out HB.out HR.out hk3 ht4 hk4 hb5 hw5 ho5
     clear hi2 hk3 ht4 hk4 hb5 hw5 ho5 hbd
     go_wp2
     go_roundw
     case rel=>exact ⟨n+1,_,by go_num,hnext⟩
     case measure=>simp [intOf]; omega
    ·have HE:Hid (printGo [] fs []=([],errOf (fs.take n) ⟨k,p,q⟩,(n:Int)+1)):=by
      have e:=hi2.rest
      rw [drop_here HF.out,printGo_err (f:=⟨k,p,q⟩) HB.out rfl he,hnl] at e
      exact e.symm
     have hbl:=hi2.blw.trans (hk3.below (B:=w.heap.size) (by omega) (by intro x hx; simp only [List.mem_cons,List.not_mem_nil,or_false] at hx; omega))
     clear hi2 hk3 ht3
     generalize errOf (fs.take n) ⟨k,p,q⟩=x at HE he ⊢
     have hx:(x != 0)=true:=bne_iff_ne.2 he
     clear he
     go_wp2
     refine bodyPost_ret (v:=.tuple #[.string ⟨#[]⟩,.agg #[.int .i64 x,.int .i64 ((n:Int)+1)]]) (by simp [results,Tryz.results34,go_sem,q0,q1]) rfl ⟨by rw [HE.out],?_⟩
     exact (hbl.setCell (p:=⟨w.heap.size,0,none⟩) (Nat.le_refl _) _).setCell (p:=⟨w.heap.size,1,none⟩) (Nat.le_refl _) _
  ·have HE:Hid (printGo [] fs []=(acc,0,0)):=by
    have e:=hi.rest
    rw [List.drop_of_length_le (by omega),printGo_nil] at e
    exact e.symm
   have hres:=hi.res
   have hbl:=hi.blw
   have hbd:=hi.bld
   have hsz:=lt_of_heap hres
   clear hi
   go_wp2_with fail
   refine (builderString_any w.heap.size (w.heap.size+1) acc _ hbd (by omega)).mono ?_
   rintro e w2 ⟨rfl,hb2,hw2,ho2⟩
   have g0:w2.heap[w.heap.size]?=some (.cells #[.int .i64 0,.int .i64 0] 27 (0,0)):=ho2 _ _ hres (by intro e; injection e; omega) (by intro c fz e; cases e)
   have r0:w2.cell? ⟨w.heap.size,0,none⟩=some (.int .i64 0):=by rw [cell_at g0]; rfl
   have r1:w2.cell? ⟨w.heap.size,1,none⟩=some (.int .i64 0):=by rw [cell_at g0]; rfl
   have r2:w2.frozen? ⟨w.heap.size,0,none⟩=false:=frozen_at g0 _
   have r3:w2.frozen? ⟨w.heap.size,1,none⟩=false:=frozen_at g0 _
   clear ho2 hres hb2
   go_wp2
   refine bodyPost_ret (v:=.tuple #[.string ⟨acc.toArray⟩,.agg #[.int .i64 0,.int .i64 0]]) (by simp [results,Tryz.results34,go_sem,r0,r1]) rfl ⟨by rw [HE.out],?_⟩
   exact ((hbl.trans hw2).setCell (p:=⟨w.heap.size,0,none⟩) (Nat.le_refl _) _).setCell (p:=⟨w.heap.size,1,none⟩) (Nat.le_refl _) _
set_option maxHeartbeats 400000 in
theorem fprint_none (ao:Option Addr) (cap:Nat) (w:World) :
  Calls Tryz.prog 34 #[.slice ao 0 cap] w fun e w'=>e=.returned (.tuple #[.string ⟨#[]⟩,.agg #[.int .i64 0,.int .i64 0]])∧Below w.heap.size w w':=by
 go_enter Tryz.func34,Tryz.ntmps34
 go_wp2_with fail
 refine (newTally_any _).mono ?_
 rintro e w1 ⟨rfl,rfl⟩
 have hi:=PInv.start w []
 go_wp2_with fail
 refine wp_loop_rounds 1 ?_
 rw [rounds_succ]
 have hres:=hi.res
 have hbl:=hi.blw
 have hbd:=hi.bld
 have hsz:=lt_of_heap hres
 generalize ((((w.alloc (.cells #[.int .i64 0,.int .i64 0] 27)).alloc (.cells #[.pointer none,.slice none 0 0] 118)).alloc (.map #[] 0)).alloc (.cells #[.int .i64 0,.map (some (w.heap.size+1+1))] 158))=wr at *
 clear hi
 go_wp2_with fail
 refine (builderString_any w.heap.size (w.heap.size+1) [] _ hbd (by omega)).mono ?_
 rintro e w2 ⟨rfl,hb2,hw2,ho2⟩
 have g0:w2.heap[w.heap.size]?=some (.cells #[.int .i64 0,.int .i64 0] 27 (0,0)):=ho2 _ _ hres (by intro e; injection e; omega) (by intro c fz e; cases e)
 have r0:w2.cell? ⟨w.heap.size,0,none⟩=some (.int .i64 0):=by rw [cell_at g0]; rfl
 have r1:w2.cell? ⟨w.heap.size,1,none⟩=some (.int .i64 0):=by rw [cell_at g0]; rfl
 have r2:w2.frozen? ⟨w.heap.size,0,none⟩=false:=frozen_at g0 _
 have r3:w2.frozen? ⟨w.heap.size,1,none⟩=false:=frozen_at g0 _
 clear ho2 hres hb2
 go_wp2
 refine bodyPost_ret (v:=.tuple #[.string ⟨#[]⟩,.agg #[.int .i64 0,.int .i64 0]]) (by simp [results,Tryz.results34,go_sem,r0,r1]) rfl ⟨rfl,?_⟩
 exact ((hbl.trans hw2).setCell (p:=⟨w.heap.size,0,none⟩) (Nat.le_refl _) _).setCell (p:=⟨w.heap.size,1,none⟩) (Nat.le_refl _) _
theorem fprint_any (v:Value) (fs:List Fct) (w:World) (hlen:fs.length≤maxLen) (hv:IsFacts v fs w) (hfit:fitsF fs) :
  Calls Tryz.prog 34 #[v] w fun e w'=>e=.returned (.tuple #[.string ⟨(printGo [] fs []).1.toArray⟩,.agg #[.int .i64 (printGo [] fs []).2.1,.int .i64 (printGo [] fs []).2.2]])∧Below w.heap.size w w':=by
 obtain ⟨ao,cap,rfl,_,_,h⟩:=hv
 by_cases hfs:fs=[]
 ·subst hfs
  exact fprint_none ao cap w
 ·obtain ⟨b,off,rfl,hb,hf⟩:=h hfs
  exact fprint_some b off cap fs w hlen hf hb hfit
set_option maxHeartbeats 400000 in
theorem qprint_any (v:Value) (fs:List Fct) (w:World) (hlen:fs.length≤maxLen) (hv:IsFacts v fs w) (hfit:fitsF fs) :
  Calls Tryz.prog 14 #[v] w fun e w'=>e=.returned (.tuple #[.string ⟨(printGo [] fs []).1.toArray⟩,.agg #[.int .i64 (printGo [] fs []).2.1,.int .i64 (printGo [] fs []).2.2]])∧Below w.heap.size w w':=by
 have hb0:Below w.heap.size w (w.alloc (.cells #[.int .i64 0,.int .i64 0] 27)):=(Below.refl _ _).alloc (Nat.le_refl _) _
 have hc:=fprint_any v fs _ hlen (hv.below hb0) hfit
 have HC:=Hid.out (p:=Calls _ _ _ _ _) hc
 clear hc
 generalize printGo [] fs []=R at HC ⊢
 have HH:Hid (Calls _ _ _ _ _):=HC
 clear HC
 go_enter Tryz.func14,Tryz.ntmps14
 go_wp2_with fail
 refine (HH.out).mono ?_
 rintro e w2 ⟨rfl,hb2⟩
 have g0:w2.heap[w.heap.size]?=some (.cells #[.int .i64 0,.int .i64 0] 27 (0,0)):=Below.heapAt hb2 (heap_new _ _) (by simp)
 have r0:w2.cell? ⟨w.heap.size,0,none⟩=some (.int .i64 0):=by rw [cell_at g0]; rfl
 have r1:w2.cell? ⟨w.heap.size,1,none⟩=some (.int .i64 0):=by rw [cell_at g0]; rfl
 have r2:w2.frozen? ⟨w.heap.size,0,none⟩=false:=frozen_at g0 _
 have r3:w2.frozen? ⟨w.heap.size,1,none⟩=false:=frozen_at g0 _
 have hbl:Below w.heap.size w w2:=hb0.trans (hb2.mono (by simp))
 clear hb2 g0 HH
 go_wp2
 refine bodyPost_ret (v:=.tuple #[.string ⟨R.1.toArray⟩,.agg #[.int .i64 R.2.1,.int .i64 R.2.2]]) (by simp [results,Tryz.results14,go_sem,r0,r1]) rfl ⟨rfl,?_⟩
 exact (hbl.setCell (p:=⟨w.heap.size,0,none⟩) (Nat.le_refl _) _).setCell (p:=⟨w.heap.size,1,none⟩) (Nat.le_refl _) _
end
section
open Go.RowKit
theorem tellGo_ok {ahead:ByteArray} {i:Nat} {acc:List UInt8} {r:RowD} {s:List RowD} (h:rowErr r ahead=0):tellGo ahead i acc (r :: s)=tellGo r.name (i+1) (acc ++ rowText r) s:=by simp [tellGo,h]
theorem tellGo_err {ahead:ByteArray} {i:Nat} {acc:List UInt8} {r:RowD} {s:List RowD} {e:Int} (h:rowErr r ahead=e) (h0:e≠0):tellGo ahead i acc (r :: s)=([],e,(i:Int)+1):=by simp [tellGo,h,h0]
theorem tellGo_nil {ahead:ByteArray} {i:Nat} {acc:List UInt8}:tellGo ahead i acc []=if 25000 < acc.length then ([],2,0) else (acc,0,0):=by simp [tellGo]
structure TInv (w wr:World) (rs:List RowD) (n:Nat):Prop where
 le:n≤rs.length
 rest:tellGo (lastName (rs.take n)) n (rowsText (rs.take n)) (rs.drop n)=tellGo ⟨#[]⟩ 0 [] rs
 res:wr.heap[w.heap.size]?=some (.cells #[.int .i64 0,.int .i64 0] 27 (0,0))
 blw:Below w.heap.size w wr
theorem TInv.next {w wr w2:World} {rs:List RowD} {n:Nat} {r:RowD} (h:TInv w wr rs n) (hr:rs[n]?=some r) (he:rowErr r (lastName (rs.take n))=0) (hres:w2.heap[w.heap.size]?=some (.cells #[.int .i64 0,.int .i64 0] 27 (0,0))) (hb:Below w.heap.size w w2):TInv w w2 rs (n+1):=by
 refine ⟨lt_get hr,?_,hres,hb⟩
 have e:=h.rest
 rw [drop_here hr,tellGo_ok he] at e
 rw [take_next hr,lastName_snoc,rowsText_snoc]
 exact e
set_option maxHeartbeats 2000000 in
set_option maxRecDepth 100000 in
theorem rtell_any (v:Value) (rs:List RowD) (w:World) (hlen:rs.length≤maxLen) (hv:IsRows v rs w) (hfit:fitsR rs) (hbound:(rowsText rs).length≤1000000000000) :
  Calls Tryz.prog 39 #[v] w fun e w'=>e=.returned (.tuple #[.string ⟨(tellGo ⟨#[]⟩ 0 [] rs).1.toArray⟩,.agg #[.int .i64 (tellGo ⟨#[]⟩ 0 [] rs).2.1,.int .i64 (tellGo ⟨#[]⟩ 0 [] rs).2.2]])∧Below w.heap.size w w':=by
 have hv0:=hide hv
 have hlen0:=hlen
 obtain ⟨ao,cap,hve,_,_,hne0⟩:=hv
 subst hve
 have hne:=hide hne0
 clear hne0
 unfold maxLen at hlen
 go_enter Tryz.func39,Tryz.ntmps39
 go_wp2
 go_loopw [4,5,11] (fun s a i wr=>∃ n:Nat,i=.int .i64 n∧s=.int .i64 ((min (rowsText (rs.take n)).length 25001:Nat):Int)∧a=.string (lastName (rs.take n))∧TInv w wr rs n) (fun _ _ i _=>rs.length - (intOf i).toNat)
 case atStart=>exact ⟨0,rfl,rfl,rfl,Nat.zero_le _,rfl,heap_new _ _,(Below.refl _ _).alloc (Nat.le_refl _) _⟩
 case round=>
  obtain ⟨n,rfl,rfl,rfl,hi⟩:=hrel
  have hbl:=hi.blw
  have hres:=hi.res
  have hsz:=lt_of_heap hres
  by_cases hlt:n < rs.length
  ·obtain ⟨⟨nm,tgs⟩,hr⟩:∃ r,rs[n]?=some r:=⟨_,List.getElem?_eq_getElem hlt⟩
   obtain ⟨b,off,hao,hbw,hrs⟩:=hne.out (ne_nil_of_get hr)
   subst hao
   obtain ⟨d0w,tv,d1w,hst0⟩:=hrs n nm tgs hr
   have d0:=(hbl.cell (p:=⟨b,off+n * 2,none⟩) hbw).trans d0w
   have d1:=(hbl.cell (p:=⟨b,off+n * 2+1,none⟩) hbw).trans d1w
   clear d0w d1w
   have HIS:Hid (∀ w',Below w.heap.size w w'→IsStrs tv tgs w'):=fun w' h=>hst0.below h
   obtain ⟨ao2,cap2,htv,_⟩:=hst0
   subst htv
   obtain ⟨hf1,hf2,hf3⟩:=hfit _ (List.mem_of_getElem? hr)
   simp only at hf1 hf2 hf3
   have htx:=rowsText_snoc (rs.take n) ⟨nm,tgs⟩
   rw [← take_next hr] at htx
   have hL:=rowsText_take (l:=rs) (k:=n+1)
   have htl:(rowsText (rs.take (n+1))).length=(rowsText (rs.take n)).length+(nm.size+2+toWidth tgs):=by rw [htx,List.length_append,rowText_length]
   have hln:=lastName_snoc (rs.take n) ⟨nm,tgs⟩
   rw [← take_next hr] at hln
   have HR:=hide hr
   have HTL:=hide htl
   have HLN:=hide hln
   have hw1:nm.size+2+toWidth tgs≤1000000000000:=by omega
   clear htx hr hrs htl hln
   generalize hla:lastName (rs.take n)=ahead at *
   have HLA:=hide hla
   clear hla
   go_wp2_with fail
   have hk1:=(Kb.refl [] wr).alloc (.cells #[.string nm,.slice ao2 tgs.length cap2] 51)
   have g1:=heap_new wr (.cells #[.string nm,.slice ao2 tgs.length cap2] 51)
   generalize wr.alloc (.cells #[.string nm,.slice ao2 tgs.length cap2] 51)=w1 at hk1 g1 ⊢
   have hbl1:Below w.heap.size w w1:=hbl.trans (hk1.below hbl.size (by simp))
   have hres1:=hk1.heap hres (by simp)
   have hz1:=lt_of_heap g1
   have p0:w1.cell? ⟨wr.heap.size,0,none⟩=some (.string nm):=by rw [cell_at g1]; rfl
   have p1:w1.cell? ⟨wr.heap.size,1,none⟩=some (.slice ao2 tgs.length cap2):=by rw [cell_at g1]; rfl
   clear hk1 hres hbl d0 d1
   go_region_with (first | (go_at_call 72; refine (areNames_any nm _ tgs _ hf1 hf2 (HIS.out _ hbl1.drew) hf3).mono ?_; rintro e w2 ⟨rfl,hb2⟩; have hb2':Below w1.heap.size w1 w2:=(Below.refl _ _).drew.trans hb2; have g2:=Below.heapAt hb2' g1 hz1; have q0:w2.cell? ⟨wr.heap.size,0,none⟩=some (.string nm):=(by rw [cell_at g2]; rfl); have q1:w2.cell? ⟨wr.heap.size,1,none⟩=some (.slice ao2 tgs.length cap2):=(by rw [cell_at g2]; rfl)) | (go_at_call 71; refine (check_any nm _ tgs _ ahead _ hf1 hf2 (HIS.out _ (hbl1.trans (hb2'.mono hbl1.size))) hf3).mono ?_; rintro e w3 ⟨rfl,hb3⟩))
   all_goals
    have hb3':Below w1.heap.size w1 w3:=hb2'.trans (hb3.mono hb2'.size)
    have g3:=Below.heapAt hb3' g1 hz1
    have hbl3:=hbl1.trans (hb3'.mono hbl1.size)
    have hres3:=Below.heapAt hb3' hres1 (lt_of_heap hres1)
    have k0:w3.cell? ⟨wr.heap.size,0,none⟩=some (.string nm):=by rw [cell_at g3]; rfl
    have k1:w3.cell? ⟨wr.heap.size,1,none⟩=some (.slice ao2 tgs.length cap2):=by rw [cell_at g3]; rfl
    have r0:w3.cell? ⟨w.heap.size,0,none⟩=some (.int .i64 0):=by rw [cell_at hres3]; rfl
    have r1:w3.cell? ⟨w.heap.size,1,none⟩=some (.int .i64 0):=by rw [cell_at hres3]; rfl
    have r2:w3.frozen? ⟨w.heap.size,0,none⟩=false:=frozen_at hres3 _
    have r3:w3.frozen? ⟨w.heap.size,1,none⟩=false:=frozen_at hres3 _
    clear hb2 hb2' hb3 hb3' g2 q0 q1 p0 p1 hres1 hbl1
    rw [← rowErr_chk]
    by_cases he:rowErr ⟨nm,tgs⟩ ahead=0
    ·have HE:=hide he
     rw [HE.out]
     clear he
     go_wp2_with fail
     refine (width_any nm _ tgs _ hf2 (HIS.out _ hbl3) hw1).mono ?_
     rintro e w4 ⟨rfl,hb4⟩
     have g4:=Below.heapAt hb4 g3 (lt_of_heap g3)
     have hbl4:=hbl3.trans (hb4.mono hbl3.size)
     have hres4:=Below.heapAt hb4 hres3 (lt_of_heap hres3)
     have m0:w4.cell? ⟨wr.heap.size,0,none⟩=some (.string nm):=by rw [cell_at g4]; rfl
     have hnext:=hi.next HR.out (by rw [HLA.out]; exact HE.out) hres4 hbl4
     have hmin:min (min (rowsText (rs.take n)).length 25001+(nm.size+2+toWidth tgs)) 25001=min (rowsText (rs.take (n+1))).length 25001:=by rw [HTL.out]; omega
     have HMIN:=hide hmin
     clear hb4 g3 g4 hres3 hres4 hbl3 hi hmin k0 k1 r0 r1 r2 r3
     generalize (rowsText (rs.take n)).length=L at *
     have hLm:min L 25001≤25001:=Nat.min_le_right _ _
     generalize min L 25001=sz at *
     generalize nm.size+2+toWidth tgs=wd at *
     go_wp2
     go_roundw
     case rel=>exact ⟨n+1,by go_num,congrArg (Value.int .i64) (by rw [← HMIN.out]; omega),by rw [HLN.out],hnext⟩
     case measure=>simp [intOf]; omega
    ·have HE:Hid (tellGo ⟨#[]⟩ 0 [] rs=([],rowErr ⟨nm,tgs⟩ ahead,(n:Int)+1)):=by
      have e:=hi.rest
      rw [drop_here HR.out,HLA.out,tellGo_err rfl he] at e
      exact e.symm
     generalize rowErr ⟨nm,tgs⟩ ahead=x at HE he ⊢
     have hx:(x != 0)=true:=bne_iff_ne.2 he
     clear he hres3 g3
     go_wp2
     refine bodyPost_ret (v:=.tuple #[.string ⟨#[]⟩,.agg #[.int .i64 x,.int .i64 ((n:Int)+1)]]) (by simp [results,Tryz.results39,go_sem,r0,r1]) rfl ⟨by rw [HE.out],?_⟩
     exact (hbl3.setCell (p:=⟨w.heap.size,0,none⟩) (Nat.le_refl _) _).setCell (p:=⟨w.heap.size,1,none⟩) (Nat.le_refl _) _
  ·have htk:rs.take n=rs:=List.take_of_length_le (by omega)
   have e:=hi.rest
   rw [List.drop_of_length_le (by omega),tellGo_nil,htk] at e
   rw [htk]
   have r0:wr.cell? ⟨w.heap.size,0,none⟩=some (.int .i64 0):=by rw [cell_at hres]; rfl
   have r1:wr.cell? ⟨w.heap.size,1,none⟩=some (.int .i64 0):=by rw [cell_at hres]; rfl
   have r2:wr.frozen? ⟨w.heap.size,0,none⟩=false:=frozen_at hres _
   have r3:wr.frozen? ⟨w.heap.size,1,none⟩=false:=frozen_at hres _
   clear hi htk
   by_cases hbig:25000 < (rowsText rs).length
   ·rw [if_pos hbig] at e
    have HE:=hide e.symm
    have hm:min (rowsText rs).length 25001=25001:=by omega
    rw [hm]
    clear e hm hres
    go_wp2
    refine bodyPost_ret (v:=.tuple #[.string ⟨#[]⟩,.agg #[.int .i64 2,.int .i64 0]]) (by simp [results,Tryz.results39,go_sem,r0,r1]) rfl ⟨by rw [HE.out],?_⟩
    exact (hbl.setCell (p:=⟨w.heap.size,0,none⟩) (Nat.le_refl _) _).setCell (p:=⟨w.heap.size,1,none⟩) (Nat.le_refl _) _
   ·rw [if_neg hbig] at e
    have HE:=hide e.symm
    have hm:min (rowsText rs).length 25001=(rowsText rs).length:=by omega
    rw [hm]
    clear e hm
    have hle:((rowsText rs).length:Int)≤25000:=by omega
    go_wp2_with fail
    refine (write_any _ rs _ hlen0 (hv0.out.below hbl) hfit hbound).mono ?_
    rintro e w2 ⟨rfl,hb2⟩
    have hres2:=Below.heapAt hb2 hres (lt_of_heap hres)
    have hbl2:=hbl.trans (hb2.mono hbl.size)
    have q0:w2.cell? ⟨w.heap.size,0,none⟩=some (.int .i64 0):=by rw [cell_at hres2]; rfl
    have q1:w2.cell? ⟨w.heap.size,1,none⟩=some (.int .i64 0):=by rw [cell_at hres2]; rfl
    have q2:w2.frozen? ⟨w.heap.size,0,none⟩=false:=frozen_at hres2 _
    have q3:w2.frozen? ⟨w.heap.size,1,none⟩=false:=frozen_at hres2 _
    clear hb2 hres hres2 hbl r0 r1 r2 r3
    go_wp2
    refine bodyPost_ret (v:=.tuple #[.string ⟨(rowsText rs).toArray⟩,.agg #[.int .i64 0,.int .i64 0]]) (by simp [results,Tryz.results39,go_sem,q0,q1]) rfl ⟨by rw [HE.out],?_⟩
    exact (hbl2.setCell (p:=⟨w.heap.size,0,none⟩) (Nat.le_refl _) _).setCell (p:=⟨w.heap.size,1,none⟩) (Nat.le_refl _) _
set_option maxHeartbeats 400000 in
theorem qtell_any (v:Value) (rs:List RowD) (w:World) (hlen:rs.length≤maxLen) (hv:IsRows v rs w) (hfit:fitsR rs) (hbound:(rowsText rs).length≤1000000000000) :
  Calls Tryz.prog 26 #[v] w fun e w'=>e=.returned (.tuple #[.string ⟨(tellGo ⟨#[]⟩ 0 [] rs).1.toArray⟩,.agg #[.int .i64 (tellGo ⟨#[]⟩ 0 [] rs).2.1,.int .i64 (tellGo ⟨#[]⟩ 0 [] rs).2.2]])∧Below w.heap.size w w':=by
 have hb0:Below w.heap.size w (w.alloc (.cells #[.int .i64 0,.int .i64 0] 27)):=(Below.refl _ _).alloc (Nat.le_refl _) _
 have HC:=rtell_any v rs _ hlen (hv.below hb0) hfit hbound
 generalize tellGo ⟨#[]⟩ 0 [] rs=R at HC ⊢
 have HH:Hid (Calls _ _ _ _ _):=HC
 clear HC
 go_enter Tryz.func26,Tryz.ntmps26
 go_wp2_with fail
 refine (HH.out).mono ?_
 rintro e w2 ⟨rfl,hb2⟩
 have g0:w2.heap[w.heap.size]?=some (.cells #[.int .i64 0,.int .i64 0] 27 (0,0)):=Below.heapAt hb2 (heap_new _ _) (by simp)
 have r0:w2.cell? ⟨w.heap.size,0,none⟩=some (.int .i64 0):=by rw [cell_at g0]; rfl
 have r1:w2.cell? ⟨w.heap.size,1,none⟩=some (.int .i64 0):=by rw [cell_at g0]; rfl
 have r2:w2.frozen? ⟨w.heap.size,0,none⟩=false:=frozen_at g0 _
 have r3:w2.frozen? ⟨w.heap.size,1,none⟩=false:=frozen_at g0 _
 have hbl:Below w.heap.size w w2:=hb0.trans (hb2.mono (by simp))
 clear hb2 g0 HH
 go_wp2
 refine bodyPost_ret (v:=.tuple #[.string ⟨R.1.toArray⟩,.agg #[.int .i64 R.2.1,.int .i64 R.2.2]]) (by simp [results,Tryz.results26,go_sem,r0,r1]) rfl ⟨rfl,?_⟩
 exact (hbl.setCell (p:=⟨w.heap.size,0,none⟩) (Nat.le_refl _) _).setCell (p:=⟨w.heap.size,1,none⟩) (Nat.le_refl _) _
end
end Go.Proofs.YtiamlbhkiehilaaGreatDoor
