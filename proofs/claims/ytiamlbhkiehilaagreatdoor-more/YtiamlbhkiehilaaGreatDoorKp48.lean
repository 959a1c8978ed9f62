import Derived.Test.YtiamlbhkiehilaaGreatDoorKp42
namespace Go.Proofs.YtiamlbhkiehilaaGreatDoor
section
open Go.RowKit Go.Shelf Go.Maps
attribute [local go_sem] Oper.semAt_some
def Tells (p:Prop) (e:Ending):Prop:=∃ b:Bool,e=.returned (.bool b)∧(b=true↔p)
set_option maxRecDepth 100000 in
set_option maxHeartbeats 1000000 in
theorem kin_any (v:Value) (ss:List ByteArray) (s:ByteArray) (w:World) (hlen:ss.length≤1000000) (hv:IsStrs v ss w) :
  Calls Tryz.prog 19 #[v,.string s] w fun e w'=>Tells (s∈ss) e∧w'=w:=by
 obtain ⟨ao,ca,rfl,_,_,hfa⟩:=hv
 have HA:=hide hfa
 clear hfa
 go_enter Tryz.func19,Tryz.ntmps19
 go_wp2
 go_loop [5] (fun iv=>∃ i:Nat,iv=.int .i64 i∧i≤ss.length∧Hid (s ∉ ss.take i)) (fun iv=>ss.length - (intOf iv).toNat)
 case atStart=>exact ⟨0,rfl,Nat.zero_le _,hide (by simp)⟩
 case round=>
  obtain ⟨i,rfl,hi,HN⟩:=hrel
  by_cases hlt:i < ss.length
  ·obtain ⟨x,hf⟩:∃ f,ss[i]?=some f:=⟨_,List.getElem?_eq_getElem hlt⟩
   have hne:ss≠[]:=by intro e; rw [e] at hlt; simp at hlt
   obtain ⟨b1,o1,h1,hb1,hf1⟩:=HA.out hne
   rw [h1]
   have a0:=hf1 i x hf
   have HF:=hide hf
   by_cases hx:x=s
   ·have HC:Hid (s∈ss):=hide (by rw [← hx]; exact List.mem_of_getElem? HF.out)
    have hxx:(x.toList == s.toList)=true:=by rw [hx]; simp
    clear hf hf1
    go_wp2
    go_ret
    exact ⟨⟨true,rfl,fun _=>HC.out,fun _=>rfl⟩,rfl⟩
   ·have hxx:(x.toList == s.toList)=false:=by
     rw [beq_eq_false_iff_ne]
     intro e
     exact hx (toList_inj e)
    have HN2:Hid (s ∉ ss.take (i+1)):=hide (by
     rw [List.take_add_one,HF.out]
     intro hm
     rcases List.mem_append.1 hm with hm | hm
     ·exact HN.out hm
     ·simp at hm
      exact hx hm.symm)
    clear hf hf1
    go_wp2
    go_round
    case rel=>exact ⟨i+1,by go_num,hlt,HN2⟩
    case measure=>simp [intOf]; omega
  ·have hie:i=ss.length:=by omega
   have HC:Hid (s ∉ ss):=hide (by
    have h9:=HN.out
    rw [hie,List.take_length] at h9
    exact h9)
   go_wp2
   go_ret
   exact ⟨⟨false,rfl,(fun h=>by cases h),fun h=>absurd h HC.out⟩,rfl⟩
set_option maxRecDepth 100000 in
set_option maxHeartbeats 1000000 in
theorem kunder_any (va vb:Value) (sa sb:List ByteArray) (w:World) (hla:sa.length≤1000000) (hlb:sb.length≤1000000) (ha:IsStrs va sa w) (hb:IsStrs vb sb w) :
  Calls Tryz.prog 20 #[va,vb] w fun e w'=>Tells (∀ x∈sa,x∈sb) e∧w'=w:=by
 have HI:=hide (fun s=>kin_any vb sb s w hlb hb)
 obtain ⟨ao,ca,rfl,_,_,hfa⟩:=ha
 have HA:=hide hfa
 clear hfa hb
 go_enter Tryz.func20,Tryz.ntmps20
 go_wp2
 go_loop [5] (fun iv=>∃ i:Nat,iv=.int .i64 i∧i≤sa.length∧Hid (∀ x∈sa.take i,x∈sb)) (fun iv=>sa.length - (intOf iv).toNat)
 case atStart=>exact ⟨0,rfl,Nat.zero_le _,hide (by simp)⟩
 case round=>
  obtain ⟨i,rfl,hi,HN⟩:=hrel
  by_cases hlt:i < sa.length
  ·obtain ⟨x,hf⟩:∃ f,sa[i]?=some f:=⟨_,List.getElem?_eq_getElem hlt⟩
   have hne:sa≠[]:=by intro e; rw [e] at hlt; simp at hlt
   obtain ⟨b1,o1,h1,hb1,hf1⟩:=HA.out hne
   rw [h1]
   have a0:=hf1 i x hf
   have HF:=hide hf
   clear hf hf1
   go_wp2_with fail
   refine (HI.out x).mono ?_
   rintro e w2 ⟨⟨bx,rfl,hbx⟩,rfl⟩
   by_cases hx:x∈sb
   rotate_left
   ·have HC:Hid (¬ ∀ x∈sa,x∈sb):=hide (fun h9=>hx (h9 x (List.mem_of_getElem? HF.out)))
    have hxx:bx=false:=by cases bx with
     | false=>rfl
     | true=>exact absurd (hbx.1 rfl) hx
    subst hxx
    clear hbx
    go_wp2
    go_ret
    exact ⟨⟨false,rfl,(fun h=>by cases h),fun h=>absurd h HC.out⟩,rfl⟩
   ·have HN2:Hid (∀ x∈sa.take (i+1),x∈sb):=hide (by
     rw [List.take_add_one,HF.out]
     intro y hy
     rcases List.mem_append.1 hy with hy | hy
     ·exact HN.out y hy
     ·simp at hy
      rw [hy]
      exact hx)
    have hxx:bx=true:=hbx.2 hx
    subst hxx
    clear hbx
    go_wp2
    go_round
    case rel=>exact ⟨i+1,by go_num,hlt,HN2⟩
    case measure=>simp [intOf]; omega
  ·have hie:i=sa.length:=by omega
   have HC:Hid (∀ x∈sa,x∈sb):=hide (by
    have h9:=HN.out
    rw [hie,List.take_length] at h9
    exact h9)
   go_wp2
   go_ret
   exact ⟨⟨true,rfl,fun _=>HC.out,fun _=>rfl⟩,rfl⟩
end
end Go.Proofs.YtiamlbhkiehilaaGreatDoor
