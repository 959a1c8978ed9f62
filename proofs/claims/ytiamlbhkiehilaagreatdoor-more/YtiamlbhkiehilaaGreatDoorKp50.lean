import Derived.Test.YtiamlbhkiehilaaGreatDoorKp48
import Derived.Test.YtiamlbhkiehilaaGreatDoorKp49
namespace Go.Proofs.YtiamlbhkiehilaaGreatDoor
section
open Go.RowKit Go.Shelf Go.Maps
attribute [local go_sem] Oper.semAt_some
def RowIs (rs:List RowD) (n:ByteArray) (w:World) (e:Ending):Prop:=
 (∃ r tv,r∈rs∧r.name=n∧IsStrs tv r.to w∧e=.returned (.tuple #[tv,.bool true]))∨((∀ r∈rs,r.name≠n)∧e=.returned (.tuple #[.slice none 0 0,.bool false]))
set_option maxRecDepth 100000 in
set_option maxHeartbeats 1000000 in
theorem kpoints_any (v:Value) (rs:List RowD) (s:ByteArray) (w:World) (hlen:rs.length≤1000000) (hv:IsRows v rs w) :
  Calls Tryz.prog 21 #[v,.string s] w fun e w'=>RowIs rs s w e∧w'=w:=by
 obtain ⟨ao,ca,rfl,_,_,hfa⟩:=hv
 have HA:=hide hfa
 clear hfa
 go_enter Tryz.func21,Tryz.ntmps21
 go_wp2
 go_loop [6] (fun iv=>∃ i:Nat,iv=.int .i64 i∧i≤rs.length∧Hid (∀ r∈rs.take i,r.name≠s)) (fun iv=>rs.length - (intOf iv).toNat)
 case atStart=>exact ⟨0,rfl,Nat.zero_le _,hide (by simp)⟩
 case round=>
  obtain ⟨i,rfl,hi,HN⟩:=hrel
  by_cases hlt:i < rs.length
  ·obtain ⟨⟨x,tt⟩,hf⟩:∃ f,rs[i]?=some f:=⟨_,List.getElem?_eq_getElem hlt⟩
   have hne:rs≠[]:=by intro e; rw [e] at hlt; simp at hlt
   obtain ⟨b1,o1,h1,hb1,hf1⟩:=HA.out hne
   rw [h1]
   obtain ⟨a0,tv,a1,htv⟩:=hf1 i x tt hf
   have HF:=hide hf
   have HV:=hide htv
   by_cases hx:x=s
   ·have hxx:(x.toList == s.toList)=true:=by rw [hx]; simp
    have HX:=hide hx
    clear hf hf1 hx htv
    go_wp2
    refine bodyPost_ret (v:=.tuple #[tv,.bool true]) (by simp [results,Tryz.results21,go_sem]) rfl ⟨.inl ⟨⟨x,tt⟩,tv,List.mem_of_getElem? HF.out,HX.out,HV.out,rfl⟩,rfl⟩
   ·have hxx:(x.toList == s.toList)=false:=by
     rw [beq_eq_false_iff_ne]
     intro e
     exact hx (toList_inj e)
    have HN2:Hid (∀ r∈rs.take (i+1),r.name≠s):=hide (by
     rw [List.take_add_one,HF.out]
     intro r hr
     rcases List.mem_append.1 hr with hr | hr
     ·exact HN.out r hr
     ·simp at hr
      rw [hr]
      exact hx)
    clear hf hf1 htv
    go_wp2
    go_round
    case rel=>exact ⟨i+1,by go_num,hlt,HN2⟩
    case measure=>simp [intOf]; omega
  ·have hie:i=rs.length:=by omega
   have HC:Hid (∀ r∈rs,r.name≠s):=hide (by
    have h9:=HN.out
    rw [hie,List.take_length] at h9
    exact h9)
   go_wp2
   refine bodyPost_ret (v:=.tuple #[.slice none 0 0,.bool false]) (by simp [results,Tryz.results21,go_sem]) rfl ⟨.inr ⟨HC.out,rfl⟩,rfl⟩
theorem sol_row [DP] {fs:List Fct} {r:RowD} (h:r∈solR fs):r.name∈nsOf fs∧∀ b,b∈r.to↔Pts fs r.name b:=by
 unfold solR at h
 obtain ⟨a,ha,rfl⟩:=List.mem_map.1 h
 refine ⟨ha,fun b=>⟨fun hb=>of_decide_eq_true (List.mem_filter.1 hb).2,fun hb=>List.mem_filter.2 ⟨?_,decide_eq_true hb⟩⟩⟩
 have key:∀ {p x:ByteArray},Pts fs p x→x∈nsOf fs:=by
  intro p x hp
  induction hp using Pts.ind with
  | addr hm=>exact mem_ns.2 ⟨_,hm,.inr rfl⟩
  | copy _ _ ih=>exact ih
  | load _ _ _ _ ih=>exact ih
  | store _ _ _ _ ih=>exact ih
 exact key hb
theorem sol_has [DP] {fs:List Fct} {a:ByteArray} (h:a∈nsOf fs):∃ r∈solR fs,r.name=a:=by
 unfold solR
 exact ⟨_,List.mem_map.2 ⟨a,h,rfl⟩,rfl⟩
theorem kpts_sol [DP] {fs:List Fct} (h:okGo [] fs) {v:Value} {w:World} (hv:IsRows v (solR fs) w) {a:ByteArray} (ha:a∈nsOf fs) :
  Calls Tryz.prog 21 #[v,.string a] w fun e w'=>(∃ tv tl,e=.returned (.tuple #[tv,.bool true])∧IsStrs tv tl w∧tl.length≤1000∧∀ b,b∈tl↔Pts fs a b)∧w'=w:=by
 have hn:=pnames_le h
 refine (kpoints_any v (solR fs) a w (by rw [sol_len]; omega) hv).mono ?_
 rintro e w' ⟨h1,rfl⟩
 refine ⟨?_,rfl⟩
 rcases h1 with ⟨r,tv,h1,h2,h3,h4⟩ | ⟨h1,_⟩
 ·obtain ⟨_,q2⟩:=sol_row h1
  refine ⟨tv,r.to,h4,h3,?_,by rw [← h2]; exact q2⟩
  unfold solR at h1
  obtain ⟨b,hb,rfl⟩:=List.mem_map.1 h1
  exact Nat.le_trans (List.length_filter_le _ _) (by omega)
 ·obtain ⟨r,hr,hr2⟩:=sol_has (fs:=fs) ha
  exact absurd hr2 (h1 r hr)
end
end Go.Proofs.YtiamlbhkiehilaaGreatDoor
