import Derived.Test.YtiamlbhkiehilaaGreatDoorAn07
import Derived.Test.YtiamlbhkiehilaaGreatDoorAn08
namespace Go.Proofs.YtiamlbhkiehilaaGreatDoor
section
open Go.RowKit Go.Maps
structure WInv (w wr:World) (s:ByteArray) (i:Nat) (v:Value) (out:List ByteArray):Prop where
 le:i≤s.size
 short:out.length≤i
 eqn:wordsR s 0 []=wordsR s i out
 own:wr.ownsRow w.heap.size 9 1 v out.length (out.map Value.string)
 blw:Below w.heap.size w wr
def WRes (w w':World) (s:ByteArray) (e:Ending):Prop:=
 (wordsR s 0 []=none∧e=.returned (.tuple #[.slice none 0 0,.bool false])∧Below w.heap.size w w') ∨
 (∃ v out,wordsR s 0 []=some out∧out.length≤s.size∧e=.returned (.tuple #[v,.bool true])∧w'.ownsRow w.heap.size 9 1 v out.length (out.map Value.string)∧Below w.heap.size w w')
set_option maxRecDepth 100000 in
set_option maxHeartbeats 2000000 in
theorem words_any (s:ByteArray) (w:World) (hs:s.size≤1000000) :
  Calls Tryz.prog 79 #[.string s] w fun e w'=>WRes w w' s e:=by
 obtain ⟨i0,hi0,hz0,hz1,hz2⟩:=info_parts infoStr
 go_enter Tryz.func79,Tryz.ntmps79
 go_wp2
 go_loopw [4,5] (fun v i wr=>∃ m out,i=.int .i64 (m:Nat)∧WInv w wr s m v out) (fun _ i _=>s.size - (intOf i).toNat)
 case atStart=>exact ⟨0,[],rfl,Nat.zero_le _,Nat.le_refl _,rfl,World.ownsRow_nil _ _ _ _,Below.refl _ _⟩
 case round=>
  obtain ⟨m,out,rfl,hi⟩:=hrel
  have hblw:=hi.blw
  have hown:=hi.own
  have hol:=hi.short
  have hms:=hi.le
  by_cases hlt:m < s.size
  ·rcases kindB_cases (s[m].toNat:Int) with ⟨h1,hk⟩ | ⟨h1,h2,hk⟩ | ⟨h1,h2,h3,hk⟩ | ⟨h1,h2,h3,h4,hk⟩ | ⟨h1,h2,h3,h4,hk⟩
   ·have HE:Hid (wordsR s 0 []=some out):=hi.eqn.trans (wordsR_0 hlt hk)
    clear hk
    go_wp2
    exact bodyPost_ret (v:=.tuple #[u4,.bool true]) (by simp [results,Tryz.results79,go_sem]) rfl (.inr ⟨_,out,HE.out,by omega,rfl,hown,hblw⟩)
   ·have HE:Hid (wordsR s 0 []=wordsR s (m+1) out):=hi.eqn.trans (wordsR_1 hlt hk)
    clear hk
    rcases h2 with h2 | h2
    all_goals
     go_wp2
     go_round
     case rel=>exact ⟨m+1,out,by go_num,hlt,by omega,HE.out,hown,hblw⟩
     case measure=>simp [intOf]; omega
   ·have HE:Hid (wordsR s 0 []=wordsR s (m+1) (out ++ [s.extract m (m+1)])):=hi.eqn.trans (wordsR_2 hlt hk)
    clear hk
    rcases h3 with h3 | h3 | h3
    all_goals
     go_wp2_with (first | (at_builtin; refine wpList_append_own _ rfl _ _ 44 rfl w.heap.size 9 i0 (.string ⟨#[]⟩) 1 16 Tryz.underlying44 hi0 hz0 hz1 hz2 rfl (by decide) _ _ _ rfl (hown.alloc _) ⟨wr.heap.size,0,none⟩ 1 1 [.string (s.extract m (m+1))] rfl rfl (cell_one_new _ _ _) ?c2 ?c3 ?c4 ?c5 ?_) | go_in)
     case c2=>first | rfl | (intro u hu; rw [List.mem_singleton.1 hu]; rfl)
     case c3=>unfold maxLen; omega
     case c4=>omega
     case c5=>have:=hblw.size; simp; omega
     intro v' w1 hown1 hgrow1 _
     have hb1:Below w.heap.size w w1:=(hblw.alloc hblw.size _).grown hgrow1 (by have:=hblw.size; simp; omega) (fun j hj=>(hown.lt j hj).1)
     go_wp2
     go_round
     case rel=>exact ⟨m+1,out ++ [s.extract m (m+1)],by go_num,hlt,by simp; omega,HE.out,by simpa using hown1,hb1⟩
     case measure=>simp [intOf]; omega
   ·have HE:Hid (wordsR s 0 []=wordsR s (nEnd s (m+1)) (out ++ [s.extract m (nEnd s (m+1))])):=hi.eqn.trans (wordsR_3 hlt hk)
    clear hk
    have HC:Hid (startB (s[m].toNat:Int)=true):=h4
    clear h4
    obtain ⟨h2a,h2b⟩:=not_or.1 h2
    obtain ⟨h3a,h3c⟩:=not_or.1 h3
    obtain ⟨h3b,h3c⟩:=not_or.1 h3c
    have q1:((s[m].toNat:Int) == 32)=false:=beq_false_of_ne h2a
    have q2:((s[m].toNat:Int) == 9)=false:=beq_false_of_ne h2b
    have q3:((s[m].toNat:Int) == 61)=false:=beq_false_of_ne h3a
    have q4:((s[m].toNat:Int) == 38)=false:=beq_false_of_ne h3b
    have q5:((s[m].toNat:Int) == 42)=false:=beq_false_of_ne h3c
    clear h2 h3
    go_wp2_with fail
    refine (start_any _ _).mono ?_
    rintro e w' ⟨rfl,rfl⟩
    rw [HC.out]
    go_wp2_with fail
    go_loop [6] (fun i=>∃ k:Nat,i=.int .i64 k∧m+1≤k∧k≤s.size∧Hid (nEnd s (m+1)=nEnd s k)) (fun i=>s.size - (intOf i).toNat)
    case atStart=>exact ⟨m+1,by go_num,Nat.le_refl _,hlt,rfl⟩
    case round=>
     obtain ⟨k,rfl,hk1,hk2,HN⟩:=hrel
     by_cases hkl:k < s.size
     ·cases hc:partB (s[k].toNat:Int)
      ·have HP:Hid (partB (s[k].toNat:Int)=false):=hc
       have HM:Hid (nEnd s (m+1)=k):=HN.out.trans (nEnd_no hkl hc)
       clear hc
       go_wp2_with fail
       refine (part_any _ _).mono ?_
       rintro e w' ⟨rfl,rfl⟩
       rw [HP.out]
       go_wp2_with (first | (at_builtin; refine wpList_append_own _ rfl _ _ 44 rfl w.heap.size 9 i0 (.string ⟨#[]⟩) 1 16 Tryz.underlying44 hi0 hz0 hz1 hz2 rfl (by decide) _ _ _ rfl (hown.alloc _) ⟨w'.heap.size,0,none⟩ 1 1 [.string (s.extract m k)] rfl rfl (cell_one_new _ _ _) ?c2 ?c3 ?c4 ?c5 ?_) | go_in)
       case c2=>first | rfl | (intro u hu; rw [List.mem_singleton.1 hu]; rfl)
       case c3=>unfold maxLen; omega
       case c4=>omega
       case c5=>have:=hblw.size; simp; omega
       intro v' w1 hown1 hgrow1 _
       have hb1:Below w.heap.size w w1:=(hblw.alloc hblw.size _).grown hgrow1 (by have:=hblw.size; simp; omega) (fun j hj=>(hown.lt j hj).1)
       rw [HM.out] at HE
       go_wp2
       go_round
       case rel=>exact ⟨k,out ++ [s.extract m k],rfl,hk2,by simp; omega,HE.out,by simpa using hown1,hb1⟩
       case measure=>simp [intOf]; omega
      ·have HP:Hid (partB (s[k].toNat:Int)=true):=hc
       have HM:Hid (nEnd s (m+1)=nEnd s (k+1)):=HN.out.trans (nEnd_yes hkl hc)
       clear hc
       go_wp2_with fail
       refine (part_any _ _).mono ?_
       rintro e w' ⟨rfl,rfl⟩
       rw [HP.out]
       go_wp2_with fail
       go_round
       case rel=>exact ⟨k+1,by go_num,by omega,hkl,HM⟩
       case measure=>simp [intOf]; omega
     ·have HM:Hid (nEnd s (m+1)=k):=HN.out.trans (nEnd_end (by omega))
      go_wp2_with (first | (at_builtin; refine wpList_append_own _ rfl _ _ 44 rfl w.heap.size 9 i0 (.string ⟨#[]⟩) 1 16 Tryz.underlying44 hi0 hz0 hz1 hz2 rfl (by decide) _ _ _ rfl (hown.alloc _) ⟨w'.heap.size,0,none⟩ 1 1 [.string (s.extract m k)] rfl rfl (cell_one_new _ _ _) ?c2 ?c3 ?c4 ?c5 ?_) | go_in)
      case c2=>first | rfl | (intro u hu; rw [List.mem_singleton.1 hu]; rfl)
      case c3=>unfold maxLen; omega
      case c4=>omega
      case c5=>have:=hblw.size; simp; omega
      intro v' w1 hown1 hgrow1 _
      have hb1:Below w.heap.size w w1:=(hblw.alloc hblw.size _).grown hgrow1 (by have:=hblw.size; simp; omega) (fun j hj=>(hown.lt j hj).1)
      rw [HM.out] at HE
      go_wp2
      go_round
      case rel=>exact ⟨k,out ++ [s.extract m k],rfl,hk2,by simp; omega,HE.out,by simpa using hown1,hb1⟩
      case measure=>simp [intOf]; omega
   ·have HE:Hid (wordsR s 0 []=none):=hi.eqn.trans (wordsR_4 hlt hk)
    clear hk
    have HC:Hid (startB (s[m].toNat:Int)=false):=h4
    clear h4
    obtain ⟨h2a,h2b⟩:=not_or.1 h2
    obtain ⟨h3a,h3c⟩:=not_or.1 h3
    obtain ⟨h3b,h3c⟩:=not_or.1 h3c
    have q1:((s[m].toNat:Int) == 32)=false:=beq_false_of_ne h2a
    have q2:((s[m].toNat:Int) == 9)=false:=beq_false_of_ne h2b
    have q3:((s[m].toNat:Int) == 61)=false:=beq_false_of_ne h3a
    have q4:((s[m].toNat:Int) == 38)=false:=beq_false_of_ne h3b
    have q5:((s[m].toNat:Int) == 42)=false:=beq_false_of_ne h3c
    clear h2 h3
    go_wp2_with fail
    refine (start_any _ _).mono ?_
    rintro e w' ⟨rfl,rfl⟩
    rw [HC.out]
    go_wp2_with fail
    exact bodyPost_ret (v:=.tuple #[.slice none 0 0,.bool false]) (by simp [results,Tryz.results79,go_sem]) rfl (.inl ⟨HE.out,rfl,hblw⟩)
  ·have HE:Hid (wordsR s 0 []=some out):=hi.eqn.trans (wordsR_end (by omega))
   go_wp2
   exact bodyPost_ret (v:=.tuple #[u4,.bool true]) (by simp [results,Tryz.results79,go_sem]) rfl (.inr ⟨_,out,HE.out,by omega,rfl,hown,hblw⟩)
end
end Go.Proofs.YtiamlbhkiehilaaGreatDoor
