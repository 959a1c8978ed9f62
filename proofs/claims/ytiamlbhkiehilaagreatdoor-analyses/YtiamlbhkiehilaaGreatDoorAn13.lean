import Derived.Test.YtiamlbhkiehilaaGreatDoorAn11
import Derived.Test.YtiamlbhkiehilaaGreatDoorAn12
import Derived.Test.YtiamlbhkiehilaaGreatDoorAn08
namespace Go.Proofs.YtiamlbhkiehilaaGreatDoor
section
open Go.RowKit Go.Maps
theorem own_mono {w:World} {B B':Nat} {e:TypeId} {size:Nat} {v:Value} {n:Nat} {xs:List Value} (h:w.ownsRow B e size v n xs) (hb:B'≤B):w.ownsRow B' e size v n xs:=by
 refine ⟨h.1,?_⟩
 rcases h.2 with h | ⟨g,cap,cur,h1,h2,h3⟩
 ·exact .inl h
 ·exact .inr ⟨g,cap,cur,h1,Nat.le_trans hb h2,h3⟩
theorem own_below {w w':World} {B:Nat} {e:TypeId} {size:Nat} {v:Value} {n:Nat} {xs:List Value} (h:w.ownsRow B e size v n xs) (hb:Below w.heap.size w w'):w'.ownsRow B e size v n xs:=by
 refine ⟨h.1,?_⟩
 rcases h.2 with h | ⟨g,cap,cur,h1,h2,h3,h4⟩
 ·exact .inl h
 ·exact .inr ⟨g,cap,cur,h1,h2,Below.heapAt hb h3 (lt_of_heap h3),h4⟩
structure RPInv (w1 wr:World) (ls:List ByteArray) (i:Nat) (v:Value) (fs:List Fct):Prop where
 le:i≤ls.length
 eqn:parseGo [] 0 ls=parseGo fs i (ls.drop i)
 cnt:fs.length≤120
 own:wr.ownsRow w1.heap.size 48 3 v fs.length (cellsF fs)
 blw:Below w1.heap.size w1 wr
def PRes (w w':World) (s:ByteArray) (e:Ending):Prop:=
 ∃ v,e=.returned (.tuple #[v,.agg #[.int .i64 (parseB s).2.1,.int .i64 (parseB s).2.2]])∧w'.ownsRow w.heap.size 48 3 v (parseB s).1.length (cellsF (parseB s).1)∧Below w.heap.size w w'
theorem err_cells {w:World} {b:Nat} {x y:Value} {T:TypeId} (h:w.heap[b]?=some (.cells #[x,y] T (0,0))) :
  w.cell? ⟨b,0,none⟩=some x∧w.cell? ⟨b,1,none⟩=some y∧w.frozen? ⟨b,0,none⟩=false∧w.frozen? ⟨b,1,none⟩=false:=
 ⟨by rw [cell_at h]; rfl,by rw [cell_at h]; rfl,frozen_at h _,frozen_at h _⟩
theorem PRes.bad {w w':World} {s:ByteArray} {k n:Int} (h:parseB s=([],k,n)) (hb:Below w.heap.size w w'):PRes w w' s (.returned (.tuple #[.slice none 0 0,.agg #[.int .i64 k,.int .i64 n]])):=by
 refine ⟨.slice none 0 0,by rw [h],?_,hb⟩
 rw [h]
 exact World.ownsRow_nil _ _ _ _
set_option maxRecDepth 100000 in
set_option maxHeartbeats 2000000 in
theorem rparse_any (s:ByteArray) (w:World) (hs:s.size≤maxLen) :
  Calls Tryz.prog 30 #[.string s] w fun e w'=>PRes w w' s e:=by
 unfold maxLen at hs
 obtain ⟨i0,hi0,hz0,hz1,hz2⟩:=info_parts infoFact
 have g0:=heap_new w (.cells #[.int .i64 0,.int .i64 0] 27)
 have hb0:Below w.heap.size w (w.alloc (.cells #[.int .i64 0,.int .i64 0] 27)):=(Below.refl _ _).alloc (Nat.le_refl _) _
 by_cases hbig:6000 < s.size
 ·have HE:Hid (parseB s=([],2,0)):=by unfold Hid parseB; rw [if_pos hbig]
  go_enter Tryz.func30,Tryz.ntmps30
  go_wp2_with fail
  refine bodyPost_ret (v:=.tuple #[.slice none 0 0,.agg #[.int .i64 2,.int .i64 0]]) (by simp [results,Tryz.results30,go_sem]) rfl (PRes.bad HE.out ?_)
  exact (Below.refl _ _).alloc (Nat.le_refl _) _
 ·have HE:Hid (parseB s=parseGo [] 0 (linesB s)):=by unfold Hid parseB; rw [if_neg hbig]
  go_enter Tryz.func30,Tryz.ntmps30
  go_wp2_with fail
  generalize w.alloc (.cells #[.int .i64 0,.int .i64 0] 27)=w0 at g0 hb0 ⊢
  have hl0:=lt_of_heap g0
  refine (lines_any s w0 (by omega)).mono ?_
  rintro e w1 ⟨v,rfl,hown,hb1⟩
  have g1:=Below.heapAt hb1 g0 hl0
  have hB1:Below w.heap.size w w1:=hb0.trans (hb1.mono hb0.size)
  have hls:=linesB_len s
  have HSZ:=hide (linesB_size s)
  have hpos:0 < (linesB s).length:=by simp [linesB]
  obtain ⟨g,cap,rfl,hnc,hgl,hgB,hrd⟩:=row_reads hown hpos
  have HRD:=hide hrd
  clear hrd hown hb1 g0 hb0
  generalize linesB s=ls at *
  go_wp2_with fail
  go_loopw [4,6] (fun v iv wr=>∃ (i:Nat) (fs:List Fct),iv=.int .i64 i∧RPInv w1 wr ls i v fs) (fun _ iv _=>ls.length - (intOf iv).toNat)
  case atStart=>exact ⟨0,[],rfl,Nat.zero_le _,rfl,by simp,World.ownsRow_nil _ _ _ _,Below.refl _ _⟩
  case round=>
   obtain ⟨i,fs,rfl,hi⟩:=hrel
   have hblw:=hi.blw
   have hown:=hi.own
   have hil:=hi.le
   have hcnt:=hi.cnt
   have hwl:w.heap.size < w1.heap.size:=lt_of_heap g1
   have g2:=Below.heapAt hblw g1 hwl
   have hBx:Below w.heap.size w wr:=hB1.trans (hblw.mono (Nat.le_of_lt hwl))
   by_cases hit:i < ls.length
   ·obtain ⟨l,hl⟩:∃ l,ls[i]?=some l:=⟨_,List.getElem?_eq_getElem hit⟩
    have cl:wr.cell? ⟨g,i,none⟩=some (.string l):=(World.cell?_of_block (w:=w1) (a:=⟨g,i,none⟩) (hblw.block g hgl)).trans (HRD.out i l hl)
    have heq:=hi.eqn
    rw [drop_here hl] at heq
    have hlsz:=HSZ.out l (List.mem_of_getElem? hl)
    by_cases hw:80 < l.size
    ·have HF:Hid (parseB s=([],3,(i:Int)+1)):=HE.out.trans (heq.trans (parseGo_wide hw))
     obtain ⟨c0,c1,f0,f1⟩:=err_cells g2
     clear hi heq hl g2
     go_wp2_with fail
     refine bodyPost_ret (v:=.tuple #[.slice none 0 0,.agg #[.int .i64 3,.int .i64 ((i:Int)+1)]]) (by simp [results,Tryz.results30,go_sem,c0,c1]) rfl (PRes.bad HF.out ?_)
     exact (hBx.setCell (p:=⟨w.heap.size,0,none⟩) (Nat.le_refl _) _).setCell (p:=⟨w.heap.size,1,none⟩) (Nat.le_refl _) _
    ·have HQ:=hide heq
     clear heq hi
     go_wp2_with fail
     refine (said_any l wr (by omega)).mono ?_
     rintro e w2 ⟨rfl,hb2⟩
     have g3:=Below.heapAt hb2 g2 (lt_of_heap g2)
     rcases saidB_cases l with ⟨⟨k,p,q⟩,hsd,hp,hq,hk0,hk4⟩ | hsd
     ·rw [hsd]
      by_cases hkz:k=0
      ·subst hkz
       have HN:Hid (parseGo [] 0 ls=parseGo fs (i+1) (ls.drop (i+1))):=HQ.out.trans (parseGo_skip hw hsd rfl)
       go_wp2_with fail
       go_round
       case rel=>exact ⟨i+1,fs,by go_num,hit,HN.out,hcnt,(own_below hown hb2).alloc _,(hblw.trans (hb2.mono hblw.size)).alloc (Nat.le_trans hblw.size hb2.size) _⟩
       case measure=>simp [intOf]; omega
      ·have hkq:(k == 0)=false:=beq_false_of_ne hkz
       go_wp2_with fail
       have hown2:=(own_below hown hb2).alloc (.cells #[.int .i64 k,.string p,.string q] 48)
       have hb3:Below w1.heap.size w1 (w2.alloc (.cells #[.int .i64 k,.string p,.string q] 48)):=(hblw.trans (hb2.mono hblw.size)).alloc (Nat.le_trans hblw.size hb2.size) _
       have g4:=heap_new w2 (.cells #[.int .i64 k,.string p,.string q] 48)
       have g5:=heap_old g3 (.cells #[.int .i64 k,.string p,.string q] 48)
       generalize w2.alloc (.cells #[.int .i64 k,.string p,.string q] 48)=w3 at hown2 hb3 g4 g5 ⊢
       refine (added_any u4 fs k p q w3 (by unfold maxLen; omega) (facts_of_owns hown2) (by unfold maxLen; omega) (by unfold maxLen; omega)).mono ?_
       rintro e w4 ⟨rfl,hb4⟩
       have g6:=Below.heapAt hb4 g4 (lt_of_heap g4)
       have g7:=Below.heapAt hb4 g5 (lt_of_heap g5)
       have hown4:=own_below hown2 hb4
       have hb5:Below w1.heap.size w1 w4:=hb3.trans (hb4.mono hb3.size)
       obtain ⟨d0,d1,d2,e0,e1,e2⟩:=res_cells g6
       obtain ⟨c0,c1,f0,f1⟩:=err_cells g7
       clear hown hown2 hb2 hb3 hb4 g2 g3 g4 g5 g6 g7 e0 e1 e2
       by_cases herr:errOf fs ⟨k,p,q⟩=0
       ·have HN:Hid (parseGo [] 0 ls=parseGo (fs ++ [⟨k,p,q⟩]) (i+1) (ls.drop (i+1))):=HQ.out.trans (parseGo_add hw hsd hkz herr)
        have hc2:=(errOf_zero' herr).2.2
        rw [herr]
        go_wp2_with (first | (at_builtin; refine wpList_append_own _ rfl _ _ 36 rfl w1.heap.size 48 i0 (.agg #[.int .i64 0,.string ⟨#[]⟩,.string ⟨#[]⟩]) 3 40 Tryz.underlying36 hi0 hz0 hz1 hz2 rfl (by decide) _ _ _ rfl (hown4.alloc _) ⟨w4.heap.size,0,none⟩ 1 1 [.int .i64 k,.string p,.string q] rfl rfl (cell_three_new _ _ _ _ _) ?x6 ?x7 ?x8 ?x9 ?_) | go_in)
        case x6=>intro u hu; simp at hu; rcases hu with rfl | rfl | rfl <;> rfl
        case x7=>unfold maxLen; omega
        case x8=>omega
        case x9=>have:=hb5.size; simp; omega
        intro v' w5 hown5 hgrow5 _
        have hb6:Below w1.heap.size w1 w5:=(hb5.alloc hb5.size _).grown hgrow5 (by have:=hb5.size; simp; omega) (fun j hj=>(hown4.lt j hj).1)
        go_wp2_with fail
        go_round
        case rel=>exact ⟨i+1,fs ++ [⟨k,p,q⟩],by go_num,hit,HN.out,by simp; omega,by rw [cellsF_snoc]; simpa using hown5,hb6⟩
        case measure=>simp [intOf]; omega
       ·have HF:Hid (parseB s=([],errOf fs ⟨k,p,q⟩,(i:Int)+1)):=HE.out.trans (HQ.out.trans (parseGo_bad hw hsd hkz herr))
        have heb:(errOf fs ⟨k,p,q⟩ == 0)=false:=beq_false_of_ne herr
        generalize errOf fs ⟨k,p,q⟩=er at *
        go_wp2_with fail
        refine bodyPost_ret (v:=.tuple #[.slice none 0 0,.agg #[.int .i64 er,.int .i64 ((i:Int)+1)]]) (by simp [results,Tryz.results30,go_sem,c0,c1]) rfl (PRes.bad HF.out ?_)
        exact ((hB1.trans (hb5.mono (Nat.le_of_lt hwl))).setCell (p:=⟨w.heap.size,0,none⟩) (Nat.le_refl _) _).setCell (p:=⟨w.heap.size,1,none⟩) (Nat.le_refl _) _
     ·rw [hsd]
      have HF:Hid (parseB s=([],4,(i:Int)+1)):=HE.out.trans (HQ.out.trans (parseGo_form hw hsd (by decide)))
      have g5:=heap_old g3 (.cells #[.int .i64 0,.string ⟨#[]⟩,.string ⟨#[]⟩] 48)
      obtain ⟨c0,c1,f0,f1⟩:=err_cells g5
      have hb3:Below w1.heap.size w1 (w2.alloc (.cells #[.int .i64 0,.string ⟨#[]⟩,.string ⟨#[]⟩] 48)):=(hblw.trans (hb2.mono hblw.size)).alloc (Nat.le_trans hblw.size hb2.size) _
      unfold noF noB
      go_wp2_with fail
      refine bodyPost_ret (v:=.tuple #[.slice none 0 0,.agg #[.int .i64 4,.int .i64 ((i:Int)+1)]]) (by simp [results,Tryz.results30,go_sem,c0,c1]) rfl (PRes.bad HF.out ?_)
      exact ((hB1.trans (hb3.mono (Nat.le_of_lt hwl))).setCell (p:=⟨w.heap.size,0,none⟩) (Nat.le_refl _) _).setCell (p:=⟨w.heap.size,1,none⟩) (Nat.le_refl _) _
   ·have hie:i=ls.length:=by omega
    subst hie
    have HF:Hid (parseB s=(fs,0,0)):=by
     unfold Hid
     rw [HE.out,hi.eqn,List.drop_length]
     simp [parseGo]
    obtain ⟨c0,c1,f0,f1⟩:=err_cells g2
    clear hi
    go_wp2_with fail
    refine bodyPost_ret (v:=.tuple #[u4,.agg #[.int .i64 0,.int .i64 0]]) (by simp [results,Tryz.results30,go_sem,c0,c1]) rfl ⟨u4,by rw [HF.out],?_,?_⟩
    ·rw [HF.out]
     exact own_mono (ownsRow_setCell_below (ownsRow_setCell_below hown (a:=⟨w.heap.size,0,none⟩) hwl _) (a:=⟨w.heap.size,1,none⟩) hwl _) (Nat.le_of_lt hwl)
    ·exact (hBx.setCell (p:=⟨w.heap.size,0,none⟩) (Nat.le_refl _) _).setCell (p:=⟨w.heap.size,1,none⟩) (Nat.le_refl _) _
end
end Go.Proofs.YtiamlbhkiehilaaGreatDoor
