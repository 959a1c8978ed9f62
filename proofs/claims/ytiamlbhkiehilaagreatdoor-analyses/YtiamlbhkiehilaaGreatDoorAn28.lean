import Derived.Test.YtiamlbhkiehilaaGreatDoorAn27
import Derived.Test.YtiamlbhkiehilaaGreatDoorAn11
namespace Go.Proofs.YtiamlbhkiehilaaGreatDoor
section
open Go.RowKit Go.Maps
set_option maxRecDepth 100000 in
set_option maxHeartbeats 1000000 in
theorem kindOf_any (l:List UInt8) (w:World) :
  Calls Tryz.prog 134 #[.string ⟨l.toArray⟩] w fun e w'=>e=.returned (.tuple #[.int .i64 (kindS l).1,.bool (kindS l).2])∧w'=w:=by
 go_enter Tryz.func134,Tryz.ntmps134
 go_wp2
 ·have h:kindS l=(0,true):=by simp_all [kindS]
  exact bodyPost_ret (v:=.tuple #[.int .i64 0,.bool true]) (by simp [results,Tryz.results134,go_sem]) rfl ⟨by rw [h],rfl⟩
 ·have h:kindS l=(1,true):=by simp_all [kindS]
  exact bodyPost_ret (v:=.tuple #[.int .i64 1,.bool true]) (by simp [results,Tryz.results134,go_sem]) rfl ⟨by rw [h],rfl⟩
 ·have h:kindS l=(2,true):=by simp_all [kindS]
  exact bodyPost_ret (v:=.tuple #[.int .i64 2,.bool true]) (by simp [results,Tryz.results134,go_sem]) rfl ⟨by rw [h],rfl⟩
 ·have h:kindS l=(3,true):=by simp_all [kindS]
  exact bodyPost_ret (v:=.tuple #[.int .i64 3,.bool true]) (by simp [results,Tryz.results134,go_sem]) rfl ⟨by rw [h],rfl⟩
 ·have h:kindS l=(4,true):=by simp_all [kindS]
  exact bodyPost_ret (v:=.tuple #[.int .i64 4,.bool true]) (by simp [results,Tryz.results134,go_sem]) rfl ⟨by rw [h],rfl⟩
 ·have h:kindS l=(0,false):=by simp_all [kindS]
  exact bodyPost_ret (v:=.tuple #[.int .i64 0,.bool false]) (by simp [results,Tryz.results134,go_sem]) rfl ⟨by rw [h],rfl⟩
theorem kindS_range (l:List UInt8):0≤(kindS l).1∧(kindS l).1≤4:=by
 unfold kindS
 repeat' split
 all_goals decide
end
end Go.Proofs.YtiamlbhkiehilaaGreatDoor
