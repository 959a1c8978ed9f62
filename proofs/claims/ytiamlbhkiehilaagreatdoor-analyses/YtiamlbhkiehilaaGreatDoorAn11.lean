import Derived.Test.YtiamlbhkiehilaaGreatDoorAn09
import Derived.Test.YtiamlbhkiehilaaGreatDoorAn08
import Derived.Test.YtiamlbhkiehilaaGreatDoorAn10
import Derived.BigQuiet
namespace Go.Proofs.YtiamlbhkiehilaaGreatDoor
section
open Go.RowKit Go.Maps
def PatsAt (L N:Nat) (w:World):Prop:=
 ∀ k,k < 4→∃ b,b < N∧w.cell? ⟨L,k,none⟩=some (.slice (some ⟨b,0,none⟩) (pat k).length (pat k).length)∧∀ (i:Nat) x,(pat k)[i]?=some x→w.cell? ⟨b,i,none⟩=some (.string x)
theorem PatsAt.below {L N:Nat} {w w':World} (h:PatsAt L N w) (hL:L < N) (hb:Below N w w'):PatsAt L N w':=by
 intro k hk
 obtain ⟨b,hbN,h1,h2⟩:=h k hk
 refine ⟨b,hbN,?_,fun i x hx=>?_⟩
 ·rw [World.cell?_of_block (w:=w) (hb.block L hL)]; exact h1
 ·rw [World.cell?_of_block (w:=w) (hb.block b hbN)]; exact h2 i x hx
theorem row_reads {w:World} {B:Nat} {v:Value} {ss:List ByteArray} (h:w.ownsRow B 9 1 v ss.length (ss.map Value.string)) (hne:0 < ss.length) :
  ∃ g cap,v=.slice (some ⟨g,0,none⟩) ss.length cap∧ss.length≤cap∧g < w.heap.size∧B≤g∧∀ (i:Nat) x,ss[i]?=some x→w.cell? ⟨g,i,none⟩=some (.string x):=by
 rcases h.2 with ⟨_,h0⟩ | ⟨g,cap,cur,rfl,hB,hg,hnc,_,_,htk⟩
 ·omega
 ·refine ⟨g,cap,rfl,hnc,lt_of_heap hg,hB,fun i x hx=>?_⟩
  have hl:=lt_of_getElem? hx
  rw [cell_at hg]
  have:(ss.map Value.string)[i]?=some (.string x):=by simp [hx]
  rw [← htk,List.getElem?_take,if_pos (by omega)] at this
  simpa using this
theorem lit_same (x:ByteArray) (l:List UInt8):(x.toList == l)=decide (x=⟨l.toArray⟩):=by
 rw [ByteArray.toList_eq,Bool.eq_iff_iff]
 obtain ⟨⟨y⟩⟩:=x
 simp
theorem cells_of_pat (l:List ByteArray) (i:Nat) (x:ByteArray) (h:l[i]?=some x):(l.map Value.string).toArray[i]?=some (.string x):=by simp [h]
theorem res_cells {w:World} {b:Nat} {x y z:Value} {T:TypeId} (h:w.heap[b]?=some (.cells #[x,y,z] T (0,0))) :
  w.cell? ⟨b,0,none⟩=some x∧w.cell? ⟨b,1,none⟩=some y∧w.cell? ⟨b,2,none⟩=some z∧w.frozen? ⟨b,0,none⟩=false∧w.frozen? ⟨b,1,none⟩=false∧w.frozen? ⟨b,2,none⟩=false:=
 ⟨by rw [cell_at h]; rfl,by rw [cell_at h]; rfl,by rw [cell_at h]; rfl,frozen_at h _,frozen_at h _,frozen_at h _⟩
theorem pats_made (w:World):∃ w2,(((((w.alloc (.cells #[.string ⟨#[]⟩,.string ⟨#[61]⟩,.string ⟨#[38]⟩,.string ⟨#[]⟩] 9)).alloc (.cells #[.string ⟨#[]⟩,.string ⟨#[61]⟩,.string ⟨#[]⟩] 9)).alloc (.cells #[.string ⟨#[]⟩,.string ⟨#[61]⟩,.string ⟨#[42]⟩,.string ⟨#[]⟩] 9)).alloc (.cells #[.string ⟨#[42]⟩,.string ⟨#[]⟩,.string ⟨#[61]⟩,.string ⟨#[]⟩] 9)).alloc (.cells #[.slice (some ⟨w.heap.size,0,none⟩) 4 4,.slice (some ⟨w.heap.size+1,0,none⟩) 3 3,.slice (some ⟨w.heap.size+1+1,0,none⟩) 4 4,.slice (some ⟨w.heap.size+1+1+1,0,none⟩) 4 4] 44))=w2 ∧
  PatsAt (w.heap.size+1+1+1+1) w2.heap.size w2∧w.heap.size+1+1+1+1 < w2.heap.size∧Below w.heap.size w w2:=by
 refine ⟨_,rfl,?_,by simp,?_⟩
 ·generalize ho0:Obj.cells #[.string ⟨#[]⟩,.string ⟨#[61]⟩,.string ⟨#[38]⟩,.string ⟨#[]⟩] 9=o0
  generalize ho1:Obj.cells #[.string ⟨#[]⟩,.string ⟨#[61]⟩,.string ⟨#[]⟩] 9=o1
  generalize ho2:Obj.cells #[.string ⟨#[]⟩,.string ⟨#[61]⟩,.string ⟨#[42]⟩,.string ⟨#[]⟩] 9=o2
  generalize ho3:Obj.cells #[.string ⟨#[42]⟩,.string ⟨#[]⟩,.string ⟨#[61]⟩,.string ⟨#[]⟩] 9=o3
  generalize ho4:Obj.cells #[.slice (some ⟨w.heap.size,0,none⟩) 4 4,.slice (some ⟨w.heap.size+1,0,none⟩) 3 3,.slice (some ⟨w.heap.size+1+1,0,none⟩) 4 4,.slice (some ⟨w.heap.size+1+1+1,0,none⟩) 4 4] 44=o4
  have z1:(w.alloc o0).heap.size=w.heap.size+1:=by simp
  have z2:((w.alloc o0).alloc o1).heap.size=w.heap.size+1+1:=by simp
  have z3:(((w.alloc o0).alloc o1).alloc o2).heap.size=w.heap.size+1+1+1:=by simp
  have z4:((((w.alloc o0).alloc o1).alloc o2).alloc o3).heap.size=w.heap.size+1+1+1+1:=by simp
  have z5:(((((w.alloc o0).alloc o1).alloc o2).alloc o3).alloc o4).heap.size=w.heap.size+1+1+1+1+1:=by simp
  have h0:=heap_old (heap_old (heap_old (heap_old (heap_new w o0) o1) o2) o3) o4
  have h1:=heap_old (heap_old (heap_old (heap_new (w.alloc o0) o1) o2) o3) o4
  have h2:=heap_old (heap_old (heap_new ((w.alloc o0).alloc o1) o2) o3) o4
  have h3:=heap_old (heap_new (((w.alloc o0).alloc o1).alloc o2) o3) o4
  have h4:=heap_new ((((w.alloc o0).alloc o1).alloc o2).alloc o3) o4
  rw [z1] at h1
  rw [z2] at h2
  rw [z3] at h3
  rw [z4] at h4
  rw [z5]
  generalize (((((w.alloc o0).alloc o1).alloc o2).alloc o3).alloc o4)=W at h0 h1 h2 h3 h4 ⊢
  rw [← ho0] at h0
  rw [← ho1] at h1
  rw [← ho2] at h2
  rw [← ho3] at h3
  rw [← ho4] at h4
  intro k hk
  have hc:k=0∨k=1∨k=2∨k=3:=by omega
  rcases hc with rfl | rfl | rfl | rfl
  ·refine ⟨w.heap.size,by omega,by rw [cell_at h4]; rfl,fun i x hx=>?_⟩
   rw [cell_at h0]
   exact cells_of_pat (pat 0) i x hx
  ·refine ⟨w.heap.size+1,by omega,by rw [cell_at h4]; rfl,fun i x hx=>?_⟩
   rw [cell_at h1]
   exact cells_of_pat (pat 1) i x hx
  ·refine ⟨w.heap.size+1+1,by omega,by rw [cell_at h4]; rfl,fun i x hx=>?_⟩
   rw [cell_at h2]
   exact cells_of_pat (pat 2) i x hx
  ·refine ⟨w.heap.size+1+1+1,by omega,by rw [cell_at h4]; rfl,fun i x hx=>?_⟩
   rw [cell_at h3]
   exact cells_of_pat (pat 3) i x hx
 ·exact (((((Below.refl _ _).alloc (Nat.le_refl _) _).alloc (by simp) _).alloc (by simp; omega) _).alloc (by simp; omega) _).alloc (by simp; omega) _
theorem pat_mem {k i:Nat} {p:ByteArray} (hk:k < 4) (h:(pat k)[i]?=some p):p=⟨#[]⟩∨p=⟨#[61]⟩∨p=⟨#[38]⟩∨p=⟨#[42]⟩:=by
 have hm:=List.mem_of_getElem? h
 have hc:k=0∨k=1∨k=2∨k=3:=by omega
 rcases hc with rfl | rfl | rfl | rfl <;> simp only [pat,noB,List.mem_cons,List.not_mem_nil,or_false] at hm
 ·rcases hm with rfl | rfl | rfl | rfl <;> simp
 ·rcases hm with rfl | rfl | rfl <;> simp
 ·rcases hm with rfl | rfl | rfl | rfl <;> simp
 ·rcases hm with rfl | rfl | rfl | rfl <;> simp
structure SInv (w2 wr:World) (ps ws:List ByteArray) (i:Nat) (v:Value):Prop where
 le:i≤ws.length
 own:wr.ownsRow w2.heap.size 9 1 v (nmsI ps ws i).length ((nmsI ps ws i).map Value.string)
 blw:Below w2.heap.size w2 wr
def SRes (w w':World) (s:ByteArray) (e:Ending):Prop:=
 e=.returned (.tuple #[.agg #[.int .i64 (saidB s).1.k,.string (saidB s).1.p,.string (saidB s).1.q],.int .i64 (saidB s).2])∧Below w.heap.size w w'
set_option maxRecDepth 100000 in
set_option maxHeartbeats 2000000 in
theorem said_any (s:ByteArray) (w:World) (hs:s.size≤1000000) :
  Calls Tryz.prog 51 #[.string s] w fun e w'=>SRes w w' s e:=by
 obtain ⟨i0,hi0,hz0,hz1,hz2⟩:=info_parts infoStr
 have g0:=heap_new w (.cells #[.int .i64 0,.string ⟨#[]⟩,.string ⟨#[]⟩] 48)
 have hb0:Below w.heap.size w (w.alloc (.cells #[.int .i64 0,.string ⟨#[]⟩,.string ⟨#[]⟩] 48)):=(Below.refl _ _).alloc (Nat.le_refl _) _
 go_enter Tryz.func51,Tryz.ntmps51
 go_wp2_with fail
 generalize w.alloc (.cells #[.int .i64 0,.string ⟨#[]⟩,.string ⟨#[]⟩] 48)=w0 at g0 hb0 ⊢
 have hl0:=lt_of_heap g0
 refine (words_any s w0 hs).mono ?_
 rintro e w1 (⟨hn,rfl,hb1⟩ | ⟨v,ws,hsm,hln,rfl,hown,hb1⟩)
 ·have HE:Hid (saidB s=(noF,4)):=saidB_none hn
  have g1:=Below.heapAt hb1 g0 hl0
  obtain ⟨c0,c1,c2,f0,f1,f2⟩:=res_cells g1
  go_wp2_with fail
  refine bodyPost_ret (v:=.tuple #[.agg #[.int .i64 0,.string ⟨#[]⟩,.string ⟨#[]⟩],.int .i64 4]) (by simp [results,Tryz.results51,go_sem,c0,c1,c2]) rfl ⟨by rw [HE.out]; rfl,?_⟩
  exact (((hb0.trans (hb1.mono hb0.size)).setCell (p:=⟨w.heap.size,0,none⟩) (Nat.le_refl _) _).setCell (p:=⟨w.heap.size,1,none⟩) (Nat.le_refl _) _).setCell (p:=⟨w.heap.size,2,none⟩) (Nat.le_refl _) _
 ·have g1:=Below.heapAt hb1 g0 hl0
  by_cases hz:ws.length=0
  ·have HE:Hid (saidB s=(noF,0)):=(saidB_some hsm).trans (saidW_nil hz)
   obtain ⟨c0,c1,c2,f0,f1,f2⟩:=res_cells g1
   obtain ⟨ao,cp,rfl⟩:∃ ao cp,v=.slice ao 0 cp:=by
    rcases hown.2 with ⟨h,_⟩ | ⟨g,cap,cur,h,_⟩
    ·exact ⟨_,_,h⟩
    ·exact ⟨_,_,hz ▸ h⟩
   go_wp2_with fail
   refine bodyPost_ret (v:=.tuple #[.agg #[.int .i64 0,.string ⟨#[]⟩,.string ⟨#[]⟩],.int .i64 0]) (by simp [results,Tryz.results51,go_sem,c0,c1,c2]) rfl ⟨by rw [HE.out]; rfl,?_⟩
   exact (((hb0.trans (hb1.mono hb0.size)).setCell (p:=⟨w.heap.size,0,none⟩) (Nat.le_refl _) _).setCell (p:=⟨w.heap.size,1,none⟩) (Nat.le_refl _) _).setCell (p:=⟨w.heap.size,2,none⟩) (Nat.le_refl _) _
  ·obtain ⟨g,cap,rfl,hnc,hgl,hgB,hrd⟩:=row_reads hown (by omega)
   have HE:Hid (saidB s=saidW ws):=saidB_some hsm
   have HSZ:=hide (wordsR_size hsm)
   have hz':((ws.length:Int) == 0)=false:=beq_false_of_ne (by omega)
   clear hsm hown
   go_wp2_with fail
   obtain ⟨w2,hw2,hP,hLN,hb2⟩:=pats_made w1
   rw [hw2]
   clear hw2
   have hgs:w.heap.size < w1.heap.size:=Nat.lt_of_lt_of_le hl0 hb1.size
   have g2:=Below.heapAt hb2 g1 hgs
   have hB2:Below w.heap.size w w2:=(hb0.trans (hb1.mono hb0.size)).trans (hb2.mono (by omega))
   have HRD:=hide (fun (i:Nat) x (hx:ws[i]?=some x)=>(World.cell?_of_block (w:=w1) (w':=w2) (a:=⟨g,i,none⟩) (hb2.block g hgl)).trans (hrd i x hx))
   have hgl2:g < w2.heap.size:=Nat.lt_of_lt_of_le hgl hb2.size
   have hwl2:w.heap.size < w2.heap.size:=Nat.lt_of_lt_of_le hgs hb2.size
   clear hrd hb2 hgl g1 hb1 g0 hb0
   generalize w1.heap.size+1+1+1+1=L at hP hLN ⊢
   go_loopw [7] (fun kv wr=>∃ k:Nat,kv=.int .i64 k∧k≤4∧Hid (∀ j,j < k→goodW ws j=false)∧Below w2.heap.size w2 wr) (fun kv _=>4 - (intOf kv).toNat)
   case atStart=>exact ⟨0,rfl,by decide,fun j hj=>absurd hj (Nat.not_lt_zero _),Below.refl _ _⟩
   case round=>
    obtain ⟨k,rfl,hk4,hbad,hbx⟩:=hrel
    by_cases hlt:k < 4
    ·obtain ⟨b,hbN,p0,p1⟩:=(hP.below hLN hbx) k hlt
     by_cases hlen:(pat k).length=ws.length
     ·have hq:(((pat k).length:Int) != (ws.length:Int))=false:=by simp; omega
      have hkd:decide ((k:Int) < 4)=true:=decide_eq_true (by omega)
      have HP1:=hide p1
      clear p1
      go_wp2_with fail
      go_loopw [8,9,10] (fun v f iv wr=>∃ i:Nat,iv=.int .i64 i∧f=.bool (fitsI (pat k) ws i)∧SInv w2 wr (pat k) ws i v) (fun _ _ iv _=>ws.length - (intOf iv).toNat)
      case atStart=>exact ⟨0,rfl,rfl,Nat.zero_le _,World.ownsRow_nil _ _ _ _,hbx⟩
      case round=>
       clear hbx p0 HP1 hbN
       obtain ⟨i,rfl,rfl,hi⟩:=hrel
       have hblw:=hi.blw
       have hown:=hi.own
       have hnl:=nmsI_len (pat k) ws i
       have hil:=hi.le
       obtain ⟨b,hbN,p0,p1⟩:=(hP.below hLN hblw) k hlt
       by_cases hit:i < ws.length
       ·obtain ⟨x,hx⟩:∃ x,ws[i]?=some x:=⟨_,List.getElem?_eq_getElem hit⟩
        obtain ⟨p,hp⟩:∃ p,(pat k)[i]?=some p:=⟨_,List.getElem?_eq_getElem (by omega)⟩
        have cx:wr.cell? ⟨g,i,none⟩=some (.string x):=(World.cell?_of_block (w:=w2) (a:=⟨g,i,none⟩) (hblw.block g hgl2)).trans (HRD.out i x hx)
        have cp:=p1 i p hp
        clear p1
        have hxs:x.size≤maxLen:=by have:=HSZ.out x (List.mem_of_getElem? hx); unfold maxLen; omega
        rcases pat_mem hlt hp with rfl | hps
        ·obtain ⟨e1,e2⟩:=fitsI_name hp hx rfl
         have HX1:=hide e1
         have HX2:=hide e2
         clear e1 e2 hp hx
         go_wp2_with fail
         refine (name_any _ _ hxs).mono ?_
         rintro e w' ⟨rfl,rfl⟩
         cases hf:fitsI (pat k) ws i
         ·rw [hf] at HX1
          go_wp2_with (first | (at_builtin; refine wpList_append_own _ rfl _ _ 44 rfl w2.heap.size 9 i0 (.string ⟨#[]⟩) 1 16 Tryz.underlying44 hi0 hz0 hz1 hz2 rfl (by decide) _ _ _ rfl (hown.alloc _) ⟨w'.heap.size,0,none⟩ 1 1 [.string x] rfl rfl (cell_one_new _ _ _) ?c2 ?c3 ?c4 ?c5 ?_) | go_in)
          case c2=>first | rfl | (intro u hu; rw [List.mem_singleton.1 hu]; rfl)
          case c3=>unfold maxLen; omega
          case c4=>omega
          case c5=>have:=hblw.size; simp; omega
          intro v' w1 hown1 hgrow1 _
          have hb1:Below w2.heap.size w2 w1:=(hblw.alloc hblw.size _).grown hgrow1 (by have:=hblw.size; simp; omega) (fun j hj=>(hown.lt j hj).1)
          go_wp2_with fail
          go_round
          case rel=>exact ⟨i+1,by go_num,congrArg Value.bool (by rw [HX1.out]; first | rfl | simp),hit,by rw [HX2.out]; simpa using hown1,hb1⟩
          case measure=>simp [intOf]; omega
         ·rw [hf] at HX1
          go_wp2_with (first | (at_builtin; refine wpList_append_own _ rfl _ _ 44 rfl w2.heap.size 9 i0 (.string ⟨#[]⟩) 1 16 Tryz.underlying44 hi0 hz0 hz1 hz2 rfl (by decide) _ _ _ rfl (hown.alloc _) ⟨w'.heap.size,0,none⟩ 1 1 [.string x] rfl rfl (cell_one_new _ _ _) ?c2 ?c3 ?c4 ?c5 ?_) | go_in)
          case c2=>first | rfl | (intro u hu; rw [List.mem_singleton.1 hu]; rfl)
          case c3=>unfold maxLen; omega
          case c4=>omega
          case c5=>have:=hblw.size; simp; omega
          intro v' w1 hown1 hgrow1 _
          have hb1:Below w2.heap.size w2 w1:=(hblw.alloc hblw.size _).grown hgrow1 (by have:=hblw.size; simp; omega) (fun j hj=>(hown.lt j hj).1)
          go_wp2_with fail
          go_round
          case rel=>exact ⟨i+1,by go_num,congrArg Value.bool (by rw [HX1.out]; first | rfl | simp),hit,by rw [HX2.out]; simpa using hown1,hb1⟩
          case measure=>simp [intOf]; omega
        ·rcases hps with rfl | rfl | rfl
         all_goals
          obtain ⟨e1,e2⟩:=fitsI_sign hp hx (by decide)
          have HX1:=hide e1
          have HX2:=hide e2
          clear e1 e2 hp hx
          go_wp2_with fail
          refine (name_any _ _ hxs).mono ?_
          rintro e w' ⟨rfl,rfl⟩
          cases hf:fitsI (pat k) ws i
          ·rw [hf] at HX1
           go_wp2_with fail
           go_quiet (fail)
           go_wp2_with fail
           go_roundw
           case rel=>exact ⟨i+1,by go_num,congrArg Value.bool (by rw [HX1.out]; first | rfl | (simp; done) | (simp; exact lit_same _ _)),hit,by rw [HX2.out]; exact hown,below_drewN hblw _⟩
           case measure=>simp [intOf]; omega
          ·rw [hf] at HX1
           go_wp2_with fail
           go_quiet (fail)
           go_wp2_with fail
           go_roundw
           case rel=>exact ⟨i+1,by go_num,congrArg Value.bool (by rw [HX1.out]; first | rfl | (simp; done) | (simp; exact lit_same _ _)),hit,by rw [HX2.out]; exact hown,below_drewN hblw _⟩
           case measure=>simp [intOf]; omega
       ·have hie:i=ws.length:=by omega
        subst hie
        clear p1 p0 hbN
        cases hf:fitsI (pat k) ws ws.length
        ·have HB:Hid (∀ j,j < k+1→goodW ws j=false):=by
          intro j hj
          by_cases e:j=k
          ·subst e; simp [goodW,hf]
          ·exact hbad.out j (by omega)
         go_wp2_with fail
         go_round
         case rel=>exact ⟨k+1,by go_num,by omega,HB,hblw⟩
         case measure=>simp [intOf]; omega
        ·have HF:Hid (saidB s=(fctW ws k,0)):=HE.out.trans (saidW_good (by omega) hlt hbad.out (by simp [goodW,hlen,hf]))
         have h2:=nms_two hlt hlen
         rw [h2] at hown
         obtain ⟨n0,n1,hn⟩:∃ n0 n1,nmsI (pat k) ws ws.length=[n0,n1]:=by
          match hm:nmsI (pat k) ws ws.length,h2 with
          | [n0,n1],_=>exact ⟨n0,n1,rfl⟩
         have HK:Hid (fctW ws k=⟨(k:Int)+1,n0,n1⟩):=by unfold Hid fctW; rw [hn]; rfl
         rw [hn] at hown
         obtain ⟨g',cap',rfl,hnc',hgl',hgB',hrd'⟩:=row_reads (ss:=[n0,n1]) hown (by simp)
         have d0:=hrd' 0 n0 rfl
         have d1:=hrd' 1 n1 rfl
         have g3:=Below.heapAt hblw g2 hwl2
         obtain ⟨c0,c1,c2,f0,f1,f2⟩:=res_cells g3
         clear hrd' hi hown hf h2 hn
         go_wp2_with fail
         go_region
         go_wp2
         refine bodyPost_ret (v:=.tuple #[.agg #[.int .i64 ((k:Int)+1),.string n0,.string n1],.int .i64 0]) (by simp [results,Tryz.results51,go_sem,c0,c1,c2]) rfl ⟨by rw [HF.out,HK.out],?_⟩
         exact ((((hB2.trans (hblw.mono (Nat.le_of_lt hwl2))).drew).setCell (p:=⟨w.heap.size,0,none⟩) (Nat.le_refl _) _).setCell (p:=⟨w.heap.size,1,none⟩) (Nat.le_refl _) _).setCell (p:=⟨w.heap.size,2,none⟩) (Nat.le_refl _) _
     ·have HB:Hid (∀ j,j < k+1→goodW ws j=false):=by
       intro j hj
       by_cases e:j=k
       ·subst e; simp [goodW,hlen]
       ·exact hbad.out j (by omega)
      have hq:(((pat k).length:Int) != (ws.length:Int))=true:=by simp; omega
      clear p1
      go_wp2_with fail
      go_round
      case rel=>exact ⟨k+1,by go_num,by omega,HB,hbx⟩
      case measure=>simp [intOf]; omega
    ·have hk:k=4:=by omega
     subst hk
     have HF:Hid (saidB s=(noF,4)):=HE.out.trans (saidW_bad (by omega) hbad.out)
     have g3:=Below.heapAt hbx g2 hwl2
     obtain ⟨c0,c1,c2,f0,f1,f2⟩:=res_cells g3
     go_wp2_with fail
     refine bodyPost_ret (v:=.tuple #[.agg #[.int .i64 0,.string ⟨#[]⟩,.string ⟨#[]⟩],.int .i64 4]) (by simp [results,Tryz.results51,go_sem,c0,c1,c2]) rfl ⟨by rw [HF.out]; rfl,?_⟩
     exact (((hB2.trans (hbx.mono (Nat.le_of_lt hwl2))).setCell (p:=⟨w.heap.size,0,none⟩) (Nat.le_refl _) _).setCell (p:=⟨w.heap.size,1,none⟩) (Nat.le_refl _) _).setCell (p:=⟨w.heap.size,2,none⟩) (Nat.le_refl _) _
end
end Go.Proofs.YtiamlbhkiehilaaGreatDoor
