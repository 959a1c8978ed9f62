import Derived.Test.YtiamlbhkiehilaaGreatDoorAn07
import Derived.Test.YtiamlbhkiehilaaGreatDoorAn08
namespace Go.Proofs.YtiamlbhkiehilaaGreatDoor
section
open Go.RowKit Go.Maps
structure LInv (w wr:World) (s:ByteArray) (i:Nat) (v:Value) (out:List ByteArray) (fr:Nat):Prop where
 le:i≤s.size
 eqn:lnI s i=(out,fr)
 own:wr.ownsRow w.heap.size 9 1 v out.length (out.map Value.string)
 blw:Below w.heap.size w wr
set_option maxRecDepth 100000 in
set_option maxHeartbeats 1000000 in
theorem lines_any (s:ByteArray) (w:World) (hs:s.size≤1000000) :
  Calls Tryz.prog 50 #[.string s] w fun e w'=>∃ v,e=.returned v∧w'.ownsRow w.heap.size 9 1 v (linesB s).length ((linesB s).map Value.string)∧Below w.heap.size w w':=by
 obtain ⟨i0,hi0,hz0,hz1,hz2⟩:=info_parts infoStr
 go_enter Tryz.func50,Tryz.ntmps50
 go_wp2
 go_loopw [3,4,5] (fun v f i wr=>∃ m fr out,i=.int .i64 (m:Nat)∧f=.int .i64 (fr:Nat)∧LInv w wr s m v out fr) (fun _ _ i _=>s.size - (intOf i).toNat)
 case atStart=>exact ⟨0,0,[],rfl,rfl,Nat.zero_le _,rfl,World.ownsRow_nil _ _ _ _,Below.refl _ _⟩
 case round=>
  obtain ⟨m,fr,out,rfl,rfl,hi⟩:=hrel
  have hblw:=hi.blw
  have hown:=hi.own
  have hfr:fr≤m:=by have:=lnI_le s m; rw [hi.eqn] at this; exact this
  have hol:out.length≤m:=by have:=lnI_len s m; rw [hi.eqn] at this; exact this
  have hms:=hi.le
  by_cases hlt:m < s.size
  ·by_cases hc:s[m].toNat=10
   ·have HE:Hid (lnI s (m+1)=(out ++ [s.extract fr m],m+1)):=by have:=lnI_yes hlt hc; rw [hi.eqn] at this; exact this
    have hcI:((s[m].toNat:Int) == 10)=true:=by rw [hc]; rfl
    go_wp2_with (first | (at_builtin; refine wpList_append_own _ rfl _ _ 44 rfl w.heap.size 9 i0 (.string ⟨#[]⟩) 1 16 Tryz.underlying44 hi0 hz0 hz1 hz2 rfl (by decide) _ _ _ rfl (hown.alloc _) ⟨wr.heap.size,0,none⟩ 1 1 [.string (s.extract fr m)] rfl rfl (cell_one_new _ _ _) ?c2 ?c3 ?c4 ?c5 ?_) | go_in)
    case c2=>first | rfl | (intro u hu; rw [List.mem_singleton.1 hu]; rfl)
    case c3=>unfold maxLen; omega
    case c4=>omega
    case c5=>have:=hblw.size; simp; omega
    intro v' w1 hown1 hgrow1 _
    have hb1:Below w.heap.size w w1:=(hblw.alloc hblw.size _).grown hgrow1 (by have:=hblw.size; simp; omega) (fun j hj=>(hown.lt j hj).1)
    go_wp2
    go_round
    case rel=>exact ⟨m+1,m+1,out ++ [s.extract fr m],by go_num,by go_num,hlt,HE.out,by simpa using hown1,hb1⟩
    case measure=>simp [intOf]; omega
   ·have HE:Hid (lnI s (m+1)=(out,fr)):=by have:=lnI_no hlt hc; rw [hi.eqn] at this; exact this
    have hcI:((s[m].toNat:Int) == 10)=false:=by simp; omega
    go_wp2
    go_round
    case rel=>exact ⟨m+1,fr,out,by go_num,rfl,hlt,HE.out,hown,hblw⟩
    case measure=>simp [intOf]; omega
  ·have hm:m=s.size:=by omega
   subst hm
   have HE:Hid (linesB s=out ++ [s.extract fr s.size]):=by show linesB s=_; unfold linesB; rw [hi.eqn]
   go_wp2_with (first | (at_builtin; refine wpList_append_own _ rfl _ _ 44 rfl w.heap.size 9 i0 (.string ⟨#[]⟩) 1 16 Tryz.underlying44 hi0 hz0 hz1 hz2 rfl (by decide) _ _ _ rfl (hown.alloc _) ⟨wr.heap.size,0,none⟩ 1 1 [.string (s.extract fr s.size)] rfl rfl (cell_one_new _ _ _) ?c2 ?c3 ?c4 ?c5 ?_) | go_in)
   case c2=>first | rfl | (intro u hu; rw [List.mem_singleton.1 hu]; rfl)
   case c3=>unfold maxLen; omega
   case c4=>omega
   case c5=>have:=hblw.size; simp; omega
   intro v' w1 hown1 hgrow1 _
   have hb1:Below w.heap.size w w1:=(hblw.alloc hblw.size _).grown hgrow1 (by have:=hblw.size; simp; omega) (fun j hj=>(hown.lt j hj).1)
   go_wp2
   go_ret
   refine ⟨_,rfl,?_,hb1⟩
   rw [HE.out]
   simpa using hown1
end
end Go.Proofs.YtiamlbhkiehilaaGreatDoor
