import Derived.Sort.AssemblyPlain
import Derived.Test.YtiamlbhkiehilaaGreatDoorKq01
import Derived.WalkKit
import Derived.BigGuard
import Derived.BigCall
import Derived.CellFam
import Derived.RegionTactic
import Derived.Deep.Draws
import Derived.Deep.QuietTactic
import Derived.Deep.RegionWith
import Derived.Deep.LoopGhost
import Derived.Deep.DeepCutAuto
import Derived.BigQuiet
import Derived.Test.YtiamlbhkiehilaaGreatDoorKqSh
import Derived.Laws.Bits64
import Derived.Test.YtiamlbhkiehilaaGreatDoorKq06
namespace Go.Proofs.YtiamlbhkiehilaaGreatDoor
section
open Go.Sort
def ltN(x y:Nat):Bool:=decide (x<y)
theorem swo_ltN:SWO ltN:=⟨by intro x;simp[ltN],by intro x y z;simp[ltN];omega,by intro x y z;simp[ltN];omega⟩
theorem ltN_true{x y:Nat}:ltN x y=true↔x<y:=by simp[ltN]
theorem ltN_false{x y:Nat}:ltN x y=false↔y≤x:=by simp[ltN]
theorem get_swp(d:Array Nat){i j:Nat}(hi:i<d.size)(hj:j<d.size)(k:Nat):(swp d i j)[k]! = if k=j then d[i]! else if k=i then d[j]! else d[k]!:=by
 split
 ·rename_i e;subst e;exact swp_right d i k hj
 ·split
  ·rename_i h1 e;subst e;exact swp_left d k j hi h1
  ·exact swp_other d i j k (by assumption) (by assumption)
structure Rest(d:Array Nat)(a b:Nat)(dk:Array Nat)(a' b':Nat):Prop where
 ord:a≤a'∧a'≤b'∧b'≤b
 perm:PermIn a b d dk
 bel:Below ltN a' b' dk
 fin:∀R,PermIn a' b' dk R→SortedIn ltN a' b' R→SortedIn ltN a b R
variable {d dk d4 dL:Array Nat} {a b a' b' mid p:Nat}
theorem Rest.start(hab:a≤b)(h:Below ltN a b d):Rest d a b d a b:=⟨⟨Nat.le_refl _,hab,Nat.le_refl _⟩,permIn_refl _ _ _,h,fun _ _ h=>h⟩
theorem Rest.step(h:Rest d a b dk a' b')(hb:b≤d.size){d1:Array Nat}(hp:PermIn a' b' dk d1):Rest d a b d1 a' b':=by
 have hs:=h.perm.1;have ho:=h.ord;exact⟨ho,permIn_trans _ _ _ _ _ h.perm (permIn_mono _ _ _ _ _ _ ho.1 ho.2.2 (by omega) hp),h.bel.perm (by omega) hp,fun R h1 h2=>h.fin R (permIn_trans _ _ _ _ _ hp h1) h2⟩
theorem Rest.done(h:Rest d a b dk a' b')(hb:b≤d.size){d1:Array Nat}(hp:PermIn a' b' dk d1)(hs:SortedIn ltN a' b' d1):PermIn a b d d1∧SortedIn ltN a b d1:=
 ⟨(h.step hb hp).perm,h.fin d1 hp hs⟩
theorem Rest.eq(h:Rest d a b dk a' b')(hb:b≤d.size)(ha:0<a')(hp:p≤dk[a'-1]!)(h1:a'<mid)(h2:mid≤b')(h3:PermIn a' b' dk d4)(h4:∀i,a'≤i→i<mid→d4[i]!≤p)(h5:∀i,mid≤i→i<b'→p<d4[i]!):Rest d a b d4 mid b':=by
 have h':=h.step hb h3;have ho:=h.ord;have hs:=h'.perm.1;have hlow:∀i,a'≤i→i<b'→p≤d4[i]!:=by
  intro i hi1 hi2;have e:d4[a'-1]! = dk[a'-1]!:=h3.2.1 (a'-1) (.inl (by omega));rcases h'.bel with hz|hz
  ·omega
  ·have:=ltN_false.1 (hz i hi1 hi2);omega
 refine⟨⟨by omega,h2,ho.2.2⟩,h'.perm,.inr fun i hi1 hi2=>ltN_false.2 ?_,fun R hR hS=>h'.fin R (permIn_mono _ _ _ _ _ _ (by omega) (Nat.le_refl _) (by omega) hR) fun i j hi hij hj=>ltN_false.2 ?_⟩
 ·have:=h4 (mid-1) (by omega) (by omega);have:=h5 i hi1 hi2;omega
 ·have hR5:=permIn_all d4 R mid b' (fun x=>p<x) (by omega) hR h5;by_cases hjm:j<mid
  ·rw[hR.2.1 i (.inl (by omega)),hR.2.1 j (.inl hjm)];have:=h4 i hi (by omega);have:=hlow j (by omega) hj;omega
  ·have:=hR5 j (by omega) hj;by_cases him:i<mid
   ·rw[hR.2.1 i (.inl him)];have:=h4 i hi him;omega
   ·exact ltN_false.1 (hS i j (by omega) hij hj)
theorem Rest.left(h:Rest d a b dk a' b')(hb:b≤d.size)(h1:a'≤mid)(h2:mid<b')(h3:PermIn a' b' dk d4)(h4:∀i,a'≤i→i<mid→d4[i]! < d4[mid]!)(h5:∀i,mid<i→i<b'→d4[mid]!≤d4[i]!)(hL:PermIn a' mid d4 dL)(hS:SortedIn ltN a' mid dL):Rest d a b dL (mid+1) b':=by
 have ho:=h.ord;have h':=h.step hb h3;have hs:=h'.perm.1;have h'':=h'.step hb (permIn_mono _ _ _ _ _ _ (Nat.le_refl _) (by omega:mid≤b') (by omega) hL);have em:dL[mid]! = d4[mid]!:=hL.2.1 mid (.inr (Nat.le_refl _));have hs2:=h''.perm.1;have hL4:=permIn_all d4 dL a' mid (fun x=>x<d4[mid]!) (by omega) hL h4;have hR5:∀i,mid+1≤i→i<b'→d4[mid]!≤dL[i]!:=by
  intro i hi1 hi2;rw[hL.2.1 i (.inr (by omega))];exact h5 i (by omega) hi2
 refine⟨⟨by omega,by omega,ho.2.2⟩,h''.perm,.inr fun i hi1 hi2=>ltN_false.2 ?_,fun R hR hSR=>h''.fin R (permIn_mono _ _ _ _ _ _ (by omega) (Nat.le_refl _) (by omega) hR) fun i j hi hij hj=>ltN_false.2 ?_⟩
 ·rw[Nat.add_sub_cancel,em];exact hR5 i hi1 hi2
 ·have hRR:=permIn_all dL R (mid+1) b' (fun x=>d4[mid]!≤x) (by omega) hR hR5;by_cases hjm:j<mid+1
  ·rw[hR.2.1 i (.inl (by omega)),hR.2.1 j (.inl hjm)];by_cases hj2:j=mid
   ·subst hj2;rw[em];have:=hL4 i hi hij;omega
   ·exact ltN_false.1 (hS i j hi hij (by omega))
  ·have h9:=hRR j (by omega) hj;by_cases him:i<mid+1
   ·rw[hR.2.1 i (.inl him)];by_cases hi2:i=mid
    ·subst hi2;rw[em];exact h9
    ·have:=hL4 i hi (by omega);omega
   ·exact ltN_false.1 (hSR i j (by omega) hij hj)
theorem Rest.right(h:Rest d a b dk a' b')(hb:b≤d.size)(h1:a'≤mid)(h2:mid<b')(h3:PermIn a' b' dk d4)(h4:∀i,a'≤i→i<mid→d4[i]! < d4[mid]!)(h5:∀i,mid<i→i<b'→d4[mid]!≤d4[i]!)(hL:PermIn (mid+1) b' d4 dL)(hS:SortedIn ltN (mid+1) b' dL):Rest d a b dL a' mid:=by
 have ho:=h.ord;have h':=h.step hb h3;have hs:=h'.perm.1;have h'':=h'.step hb (permIn_mono _ _ _ _ _ _ (by omega:a'≤mid+1) (Nat.le_refl _) (by omega) hL);have em:dL[mid]! = d4[mid]!:=hL.2.1 mid (.inl (by omega));have hs2:=h''.perm.1;have hR5:=permIn_all d4 dL (mid+1) b' (fun x=>d4[mid]!≤x) (by omega) hL (fun i hi1 hi2=>h5 i (by omega) hi2);have hL4:∀i,a'≤i→i<mid→dL[i]! < d4[mid]!:=by
  intro i hi1 hi2;rw[hL.2.1 i (.inl (by omega))];exact h4 i hi1 hi2
 refine⟨⟨ho.1,h1,by omega⟩,h''.perm,h''.bel.mono (by omega),fun R hR hSR=>h''.fin R (permIn_mono _ _ _ _ _ _ (Nat.le_refl _) (by omega) (by omega) hR) fun i j hi hij hj=>ltN_false.2 ?_⟩;have hRR:=permIn_all dL R a' mid (fun x=>x<d4[mid]!) (by omega) hR hL4;by_cases hjm:j<mid
 ·exact ltN_false.1 (hSR i j hi hij hjm)
 ·have ej:R[j]! = dL[j]!:=hR.2.1 j (.inr (by omega));have hj5:d4[mid]!≤R[j]!:=by
   rw[ej];by_cases e:j=mid
   ·rw[e,em];exact Nat.le_refl _
   ·exact hR5 j (by omega) hj
  by_cases him:i<mid
  ·have:=hRR i hi him;omega
  ·rw[ej,hR.2.1 i (.inr (by omega))];by_cases e:i=mid
   ·rw[e,em,← ej];exact hj5
   ·exact ltN_false.1 (hS i j (by omega) hij hj)
theorem Rest.belL(h:Rest d a b dk a' b')(hb:b≤d.size)(h2:mid<b')(h3:PermIn a' b' dk d4):Below ltN a' mid d4:=(h.step hb h3).bel.mono (by omega)
theorem belR(h5:∀i,mid<i→i<b'→d4[mid]!≤d4[i]!):Below ltN (mid+1) b' d4:=.inr fun i hi1 hi2=>ltN_false.2 (by rw[Nat.add_sub_cancel];exact h5 i (by omega) hi2)
structure Prt(q:Nat→Bool)(d0 dk:Array Nat)(a b p i j:Nat):Prop where
 perm:PermIn a b d0 dk
 piv:dk[a]! = p
 lo:∀t,a<t→t<i→q dk[t]! = true
 hi:∀t,j<t→t<b→q dk[t]! = false
 rg:a<i∧i≤j+1∧j<b∧b≤d0.size
variable {q ltq:Nat→Bool} {d0:Array Nat} {i j pivot:Nat}
theorem Prt.start(hap:a≤pivot)(hpb:pivot<b)(hb:b≤d0.size):Prt q d0 (swp d0 a pivot) a b d0[pivot]! (a+1) (b-1):=by
 refine⟨swp_permIn _ _ _ _ _ (Nat.le_refl _) (by omega) hap hpb hb,?_,fun t h1 h2=>by omega,fun t h1 h2=>by omega,by omega⟩;rw[get_swp d0 (by omega) (by omega)];split
 ·rename_i e;rw[e]
 ·simp
theorem Prt.up(h:Prt q d0 dk a b p i j)(hij:i≤j)(hq:q dk[i]! = true):Prt q d0 dk a b p (i+1) j:=
 ⟨h.perm,h.piv,fun t h1 h2=>by
  by_cases e:t=i
  ·rw[e];exact hq
  ·exact h.lo t h1 (by omega),h.hi,by have:=h.rg;omega⟩
theorem Prt.down(h:Prt q d0 dk a b p i j)(hij:i≤j)(hq:q dk[j]! = false):Prt q d0 dk a b p i (j-1):=
 ⟨h.perm,h.piv,h.lo,fun t h1 h2=>by
  by_cases e:t=j
  ·rw[e];exact hq
  ·exact h.hi t (by omega) h2,by have:=h.rg;omega⟩
theorem Prt.swap(h:Prt q d0 dk a b p i j)(hij:i≤j)(h1:q dk[i]! = false)(h2:q dk[j]! = true):i<j∧Prt q d0 (swp dk i j) a b p (i+1) (j-1):=by
 have hr:=h.rg;have hs:=h.perm.1;have hne:i≠j:=by
  intro e;rw[e,h2]at h1;cases h1
 refine⟨by omega,permIn_trans _ _ _ _ _ h.perm (swp_permIn _ _ _ _ _ (by omega) (by omega) (by omega) (by omega) (by omega)),?_,fun t ht1 ht2=>?_,fun t ht1 ht2=>?_,by omega⟩
 ·rw[get_swp dk (by omega) (by omega),if_neg (by omega),if_neg (by omega)];exact h.piv
 ·rw[get_swp dk (by omega) (by omega),if_neg (by omega)];split
  ·exact h2
  ·exact h.lo t ht1 (by omega)
 ·rw[get_swp dk (by omega) (by omega)];split
  ·exact h1
  ·rw[if_neg (by omega)];exact h.hi t (by omega) ht2
theorem Prt.fin(h:Prt ltq d0 dk a b p i j)(hq:∀x,ltq x=ltN x p)(hij:j<i):a≤j∧j<b∧PermIn a b d0 (swp dk j a)∧(∀t,a≤t→t<j→(swp dk j a)[t]! < (swp dk j a)[j]!)∧(∀t,j<t→t<b→(swp dk j a)[j]!≤(swp dk j a)[t]!):=by
 have hr:=h.rg;have hs:=h.perm.1;have ej:(swp dk j a)[j]! = p:=by
  rw[get_swp dk (by omega) (by omega)];split
  ·rename_i e;rw[e];exact h.piv
  ·rw[if_pos rfl];exact h.piv
 refine⟨by omega,by omega,permIn_trans _ _ _ _ _ h.perm (swp_permIn _ _ _ _ _ (by omega) (by omega) (by omega) (by omega) (by omega)),fun t ht1 ht2=>?_,fun t ht1 ht2=>?_⟩
 ·rw[ej,get_swp dk (by omega) (by omega)];split
  ·have:=h.lo j (by omega) (by omega);rw[hq]at this;exact ltN_true.1 this
  ·rw[if_neg (by omega)];have:=h.lo t (by omega) (by omega);rw[hq]at this;exact ltN_true.1 this
 ·rw[ej,get_swp dk (by omega) (by omega),if_neg (by omega),if_neg (by omega)];have:=h.hi t ht1 ht2;rw[hq]at this;exact ltN_false.1 this
theorem Prt.finE(h:Prt ltq d0 dk a b p i j)(hq:∀x,ltq x=!ltN p x)(hij:j<i):a<i∧i≤b∧PermIn a b d0 dk∧(∀t,a≤t→t<i→dk[t]!≤p)∧(∀t,i≤t→t<b→p<dk[t]!):=by
 have hr:=h.rg;refine⟨hr.1,by omega,h.perm,fun t ht1 ht2=>?_,fun t ht1 ht2=>?_⟩
 ·by_cases e:t=a
  ·rw[e,h.piv];exact Nat.le_refl _
  ·have:=h.lo t (by omega) ht2;rw[hq]at this;simpa[ltN]using this
 ·have:=h.hi t (by omega) ht2;rw[hq]at this;simpa[ltN]using this
end
section
open Go.RowKit Go.Sort
structure Rw(w:World)(g S:Nat)(d:Array Nat):Prop where
 ex:∃cs:Array Value,w.heap[g]?=some (.cells cs TN (0,0))∧cs.size=S∧d.size≤S∧∀t,t<d.size→cs[t]?=some (.int .u64 ((d[t]!:Nat):Int))
variable {w w':World} {g S:Nat} {d:Array Nat}
theorem Rw.cell(h:Rw w g S d){t:Nat}(ht:t<d.size):w.cell? ⟨g,t,none⟩=some (.int .u64 ((d[t]!:Nat):Int)):=by
 obtain⟨cs,h1,_,_,h4⟩:=h.ex;rw[cell_at h1];exact h4 t ht
theorem Rw.fz(h:Rw w g S d)(t:Nat):w.frozen? ⟨g,t,none⟩=false:=by
 obtain⟨cs,h1,_,_,h4⟩:=h.ex;exact frozen_at h1 t
theorem Rw.kb(h:Rw w g S d){L:List Nat}(hk:Kb L w w')(hg:g ∉ L):Rw w' g S d:=by
 obtain⟨cs,h1,h2⟩:=h.ex;exact⟨cs,hk.heap h1 hg,h2⟩
theorem Rw.lt(h:Rw w g S d):g<w.heap.size:=by
 obtain⟨cs,h1,_⟩:=h.ex;exact lt_of_heap h1
theorem Rw.swap(h:Rw w g S d){i j:Nat}(hi:i<d.size)(hj:j<d.size):Rw ((w.setCell ⟨g,i,none⟩ (.int .u64 ((d[j]!:Nat):Int))).setCell ⟨g,j,none⟩ (.int .u64 ((d[i]!:Nat):Int))) g S (swp d i j):=by
 obtain⟨cs,h1,h2,h3,h4⟩:=h.ex;have e1:=heap_set h1 i (.int .u64 ((d[j]!:Nat):Int));refine⟨(cs.setIfInBounds i (.int .u64 ((d[j]!:Nat):Int))).setIfInBounds j (.int .u64 ((d[i]!:Nat):Int)),heap_set e1 _ _,by simpa using h2,by rw[size_swp];exact h3,fun t ht=>?_⟩;rw[size_swp]at ht;rw[get_swp d hi hj t];have hjc:j<cs.size:=by omega
 have hic:i<cs.size:=by omega
 by_cases e:t=j
 ·subst e;simp[hjc]
 ·rw[if_neg e,Array.getElem?_setIfInBounds_ne (by omega)];by_cases e2:t=i
  ·subst e2;simp[hic]
  ·rw[if_neg e2,Array.getElem?_setIfInBounds_ne (by omega)];exact h4 t ht
theorem Rw.exch{wr:World}(h:Rw wr g S d)(k:Kb [g] w wr){i j:Nat}(hi:i<d.size)(hj:j<d.size){V:Nat→Nat}(hV:∀t,V t=d[t]!)(q:Nat) :
  Rw (((wr.drewN q).setCell ⟨g,i,none⟩ (.int .u64 ((V j:Nat):Int))).setCell ⟨g,j,none⟩ (.int .u64 ((V i:Nat):Int))) g S (swp d i j)∧Kb [g] w (((wr.drewN q).setCell ⟨g,i,none⟩ (.int .u64 ((V j:Nat):Int))).setCell ⟨g,j,none⟩ (.int .u64 ((V i:Nat):Int))):=by
 rw[hV i,hV j];exact⟨(h.kb ((Kb.refl [] wr).drewN q) (by simp)).swap hi hj,((k.drewN q).setCell (p:=⟨g,i,none⟩) (.inl (by simp)) _).setCell (p:=⟨g,j,none⟩) (.inl (by simp)) _⟩
set_option maxRecDepth 100000 in
theorem nan_any(x:Nat)(w:World):Calls Tryz.prog 208 #[.int .u64 (x:Int)] w fun e w'=>e=.returned (.bool false)∧w'=w:=by
 go_enter Tryz.func208,Tryz.ntmps208
 go_wp2;go_ret
 exact⟨by simp,rfl⟩
set_option maxRecDepth 100000 in
theorem less_any(x y:Nat)(w:World):Calls Tryz.prog 199 #[.int .u64 (x:Int),.int .u64 (y:Int)] w fun e w'=>e=.returned (.bool (ltN x y))∧w'=w:=by
 go_enter Tryz.func199,Tryz.ntmps199
 go_wp2_with (go_at_call 208;refine(nan_any _ _).mono ?_;rintro e w' ⟨rfl,rfl⟩)
 go_ret
 exact⟨by simp[ltN],rfl⟩
end
section
open Go.RowKit Go.Sort
theorem ii_go{a j:Nat}{d:Array Nat}(hj:a<j)(hl:ltN d[j]! d[j-1]! = true):insInner ltN a j d=insInner ltN a (j-1) (swp d j (j-1)):=by
 cases j with
 |zero=>omega
 |succ k=>
  rw[insInner,if_pos]
  ·rfl
  ·simp only[Nat.add_sub_cancel]at hl;simp[hj,hl]
theorem ii_stop{a j:Nat}{d:Array Nat}(h:j≤a∨ltN d[j]! d[j-1]! = false):insInner ltN a j d=d:=by
 cases j with
 |zero=>rfl
 |succ k=>
  rw[insInner,if_neg];simp only[Nat.add_sub_cancel]at h;rcases h with h|h
  ·simp;omega
  ·simp[h]
set_option maxRecDepth 100000 in
set_option maxHeartbeats 2000000 in
theorem sins_any(g cap S a b:Nat)(d:Array Nat)(w:World)(h:Rw w g S d)(hb:b≤d.size)(hsz:d.size≤1000)(hab:a≤b) :
  Calls Tryz.prog 193 #[.slice (some ⟨g,0,none⟩) d.size cap,.int .i64 a,.int .i64 b] w fun e w'=>
   e=.returned (.tuple #[])∧Rw w' g S (insertionSort ltN d a b)∧Kb [g] w w':=by
 go_enter Tryz.func193,Tryz.ntmps193
 go_wp2;go_loopg [6] (b+1-a) (fun k vi wr=>∃(i:Nat) (dk:Array Nat),vi=.int .i64 i∧a<i∧i≤b+1∧b+1-i≤k∧dk.size=d.size∧Hid (Rw wr g S dk∧Kb [g] w wr∧insOuter ltN a b i dk=insOuter ltN a b (a+1) d))
 case atStart=>exact⟨a+1,d,by go_num,by omega,by omega,by omega,rfl,hide ⟨h,Kb.refl _ _,rfl⟩⟩
 case round=>
  obtain⟨i,dk,rfl,hai,hib,hk,hds,H⟩:=hrel;by_cases hlt:i<b
  ·have hltz:(i:Int)<(b:Int):=by omega
   go_wp2;go_loopg [7] i (fun k2 vj wr2=>∃(j:Nat) (dj:Array Nat),vj=.int .i64 j∧a≤j∧j≤i∧j≤k2∧dj.size=d.size∧Hid (Rw wr2 g S dj∧Kb [g] w wr2∧insInner ltN a j dj=insInner ltN a i dk))
   case atStart=>exact⟨i,dk,rfl,by omega,Nat.le_refl _,Nat.le_refl _,hds,hide ⟨H.out.1,H.out.2.1,rfl⟩⟩
   case round=>
    obtain⟨j,dj,rfl,haj,hji,hk2,hdj,HJ⟩:=hrel;obtain⟨V,hV⟩:∃V:Nat→Nat,∀t,V t=dj[t]!:=⟨fun t=>dj[t]!,fun _=>rfl⟩;have hcw:∀t,t<d.size→wr.cell? ⟨g,t,none⟩=some (.int .u64 ((V t:Nat):Int)):=fun t ht=>by rw[hV];exact HJ.out.1.cell (by omega)
    have hfw:∀t,t<d.size→wr.frozen? ⟨g,t,none⟩=false:=fun t _=>HJ.out.1.fz t
    have HV:=hide hV;clear hV;have out:Hid ((j≤a∨ltN dj[j]! dj[j-1]! = false)→∀q,Rw (wr.drewN q) g S dj∧Kb [g] w (wr.drewN q)∧insOuter ltN a b (i+1) dj=insOuter ltN a b (a+1) d):=by
     refine hide (fun hs q=>⟨HJ.out.1.kb ((Kb.refl [] wr).drewN q) (by simp),HJ.out.2.1.trans (((Kb.refl [] wr).drewN q).mono (by simp)),?_⟩);rw[← H.out.2.2,insOuter.eq_1 ltN a b i,if_pos hlt,← HJ.out.2.2,ii_stop hs]
    by_cases hja:a<j
    ·have hjaz:(a:Int)<(j:Int):=by omega
     have b1:(j:Int)<(d.size:Int):=by omega
     have b2:j<d.size:=by omega
     have b3:(j:Int)-1<(d.size:Int):=by omega
     have b4:j-1<d.size:=by omega
     have b5:(0:Int)≤(j:Int)-1:=by omega
     have b6:((j:Int)-1).toNat=j-1:=by omega
     go_wp2;go_quiet (first|(go_at_call 199;refine Calls.quiet_of_same (less_any _ _ _)))
     go_wp2
     ·have hl:ltN (V j) (V (j-1))=true:=by assumption
      go_region
      all_goals go_wp2
      go_roundg (j-1)
      case measure=>omega
      case rel=>
       refine⟨j-1,swp dj j (j-1),by congr 1;omega,by omega,by omega,Nat.le_refl _,by rw[size_swp];exact hdj,hide ⟨?_,?_,?_⟩⟩
       ·exact(HJ.out.1.exch HJ.out.2.1 (by omega) (by omega) HV.out (nq+1)).1
       ·exact(HJ.out.1.exch HJ.out.2.1 (by omega) (by omega) HV.out (nq+1)).2
       ·rw[← HJ.out.2.2,ii_go hja (by rw[← HV.out,← HV.out];exact hl)]
     ·have hl:ltN (V j) (V (j-1))=false:=by assumption
      go_roundg (b-i)
      case measure=>omega
      case rel=>exact⟨i+1,dj,by go_num,by omega,by omega,by omega,hdj,hide (out.out (.inr (by rw[← HV.out,← HV.out];exact hl)) nq)⟩
    ·have hjaz:decide ((j:Int) > (a:Int))=false:=decide_eq_false (by omega);go_wp2;go_quiet (first|(go_at_call 199;refine Calls.quiet_of_same (less_any _ _ _)))
     go_wp2;go_roundg (b-i)
     case measure=>omega
     case rel=>exact⟨i+1,dj,by go_num,by omega,by omega,by omega,hdj,hide (out.out (.inl (by omega)) nq)⟩
  ·have hltz:¬(i:Int)<(b:Int):=by omega
   go_wp2;go_end0
   refine⟨rfl,?_,H.out.2.1⟩;unfold insertionSort;rw[← H.out.2.2,insOuter,if_neg hlt];exact H.out.1
end
section
open Go.RowKit Go.Sort
def kid(hi first root:Nat)(d:Array Nat):Nat:=if 2*root+2<hi∧ltN d[first+(2*root+1)]! d[first+(2*root+1)+1]! = true then 2*root+2 else 2*root+1
theorem kid_le{hi first root:Nat}{d:Array Nat}(h:¬hi≤2*root+1):kid hi first root d<hi∧2*root+1≤kid hi first root d:=by
 unfold kid;split<;>omega
theorem sd_stop{hi first root:Nat}{d:Array Nat}(h:hi≤2*root+1):siftDown ltN hi first root d=d:=by
 rw[siftDown,dif_pos h]
theorem sd_leaf{hi first root:Nat}{d:Array Nat}(h:¬hi≤2*root+1)(hl:ltN d[first+root]! d[first+kid hi first root d]! = false):siftDown ltN hi first root d=d:=by
 rw[siftDown,dif_neg h];unfold kid at hl;split
 ·rename_i hc;have hc2:2*root+2<hi∧ltN d[first+(2*root+1)]! d[first+(2*root+1)+1]! = true:=by simpa using hc
  rw[if_pos hc2]at hl;rw[if_pos (by rw[hl];rfl)]
 ·rename_i hc;have hc2:¬(2*root+2<hi∧ltN d[first+(2*root+1)]! d[first+(2*root+1)+1]! = true):=by simpa using hc
  rw[if_neg hc2]at hl;rw[if_pos (by rw[hl];rfl)]
theorem sd_go{hi first root:Nat}{d:Array Nat}(h:¬hi≤2*root+1)(hl:ltN d[first+root]! d[first+kid hi first root d]! = true):siftDown ltN hi first root d=siftDown ltN hi first (kid hi first root d) (swp d (first+root) (first+kid hi first root d)):=by
 rw[siftDown,dif_neg h];unfold kid at hl ⊢;split
 ·rename_i hc;have hc2:2*root+2<hi∧ltN d[first+(2*root+1)]! d[first+(2*root+1)+1]! = true:=by simpa using hc
  rw[if_pos hc2]at hl ⊢;rw[if_neg (by rw[hl];decide),dif_pos hc2.1]
 ·rename_i hc;have hc2:¬(2*root+2<hi∧ltN d[first+(2*root+1)]! d[first+(2*root+1)+1]! = true):=by simpa using hc
  rw[if_neg hc2]at hl ⊢;rw[if_neg (by rw[hl];decide)]
set_option maxRecDepth 100000 in
set_option maxHeartbeats 2000000 in
theorem ssift_any(g cap S lo hi first:Nat)(d:Array Nat)(w:World)(h:Rw w g S d)(hlo:lo≤hi)(hb:first+hi≤d.size)(hsz:d.size≤1000) :
  Calls Tryz.prog 205 #[.slice (some ⟨g,0,none⟩) d.size cap,.int .i64 lo,.int .i64 hi,.int .i64 first] w fun e w'=>
   e=.returned (.tuple #[])∧Rw w' g S (siftDown ltN hi first lo d)∧Kb [g] w w':=by
 go_enter Tryz.func205,Tryz.ntmps205
 go_wp2;go_loopg [8] (hi-lo) (fun k v8 wr=>∃(root:Nat) (dk:Array Nat),v8=.int .i64 root∧root≤hi∧hi-root≤k∧dk.size=d.size∧Hid (Rw wr g S dk∧Kb [g] w wr∧siftDown ltN hi first root dk=siftDown ltN hi first lo d))
 case atStart=>exact⟨lo,d,rfl,hlo,Nat.le_refl _,rfl,hide ⟨h,Kb.refl _ _,rfl⟩⟩
 case round=>
  obtain⟨root,dk,rfl,hr,hk,hds,H⟩:=hrel;by_cases h0:hi≤2*root+1
  ·have h0z:(hi:Int)≤2*(root:Int)+1:=by omega
   go_wp2;go_end0
   refine⟨rfl,?_,H.out.2.1⟩;rw[← H.out.2.2,sd_stop h0];exact H.out.1
  ·have h0z:¬(hi:Int)≤2*(root:Int)+1:=by omega
   obtain⟨kd,hkd⟩:∃kd,kd=kid hi first root dk:=⟨_,rfl⟩
   obtain⟨kl,kr⟩:=kid_le (d:=dk) (first:=first) h0;rw[← hkd]at kl kr;have HK:=hide hkd;clear hkd;obtain⟨V,hV⟩:∃V:Nat→Nat,∀t,V t=dk[t]!:=⟨fun t=>dk[t]!,fun _=>rfl⟩;have HV:=hide hV;clear hV;have hcw:∀t,t<d.size→wr.cell? ⟨g,t,none⟩=some (.int .u64 ((V t:Nat):Int)):=fun t ht=>by rw[HV.out];exact H.out.1.cell (by omega)
   go_upto_region 3 with fail
   go_cut [36] (fun v36 wx=>v36=.bool (decide (kd=2*root+2))∧∃q,wx=wr.drewN q)
   case first=>
    by_cases h1:2*root+2<hi
    ·have h1z:2*(root:Int)+1+1<(hi:Int):=by omega
     have b1:(first:Int)+(2*(root:Int)+1)<(d.size:Int):=by omega
     have b2:first+(2*root+1)<d.size:=by omega
     have b3:(first:Int)+(2*(root:Int)+1)+1<(d.size:Int):=by omega
     have b4:first+(2*root+1)+1<d.size:=by omega
     have e1:((first:Int)+(2*(root:Int)+1)).toNat=first+(2*root+1):=by omega
     have e2:((first:Int)+(2*(root:Int)+1)+1).toNat=first+(2*root+1)+1:=by omega
     go_quiet (first|(go_at_call 199;refine Calls.quiet_of_same (less_any _ _ _)))
     go_wp2;go_meet
     case rel=>
      refine⟨?_,nq,rfl⟩;rw[HK.out,HV.out,HV.out];unfold kid;cases hb2:ltN dk[first+(2*root+1)]! dk[first+(2*root+1)+1]!
      ·simp
      ·simp[h1]
    ·have h1z:decide (2*(root:Int)+1+1<(hi:Int))=false:=decide_eq_false (by omega);go_quiet (first|(go_at_call 199;refine Calls.quiet_of_same (less_any _ _ _)))
     go_wp2;go_meet
     case rel=>
      refine⟨?_,nq,rfl⟩;rw[HK.out];unfold kid;simp[h1]
   case rest=>
    obtain⟨rfl,q,rfl⟩:=hcut;have H1:Hid (Rw (wr.drewN q) g S dk∧Kb [g] w (wr.drewN q)):=hide ⟨H.out.1.kb ((Kb.refl [] wr).drewN q) (by simp),H.out.2.1.drewN q⟩;clear hcw;generalize wr.drewN q=W1 at H1 ⊢;go_upto_if 36 with fail
    go_cut [9] (fun v9 wx=>v9=.int .i64 kd∧wx=W1)
    case first=>
     cases hk2:decide (kd=2*root+2)
     ·have e9:kd=2*root+1:=by
       have:=of_decide_eq_false hk2;have hkl:kd≤2*root+2:=by rw[HK.out];unfold kid;split<;>omega
       omega
      go_wp2_with fail
      go_meet
      case rel=>exact⟨by rw[e9];congr 1,rfl⟩
     ·have e9:kd=2*root+2:=of_decide_eq_true hk2;go_wp2_with fail
      go_meet
      case rel=>exact⟨by rw[e9];first|rfl|(congr 1;omega),rfl⟩
    case rest=>
     obtain⟨rfl,rfl⟩:=hcut;have hcw:∀t,t<d.size→wc.cell? ⟨g,t,none⟩=some (.int .u64 ((V t:Nat):Int)):=fun t ht=>by rw[HV.out];exact H1.out.1.cell (by omega)
     have hfw:∀t,t<d.size→wc.frozen? ⟨g,t,none⟩=false:=fun t _=>H1.out.1.fz t
     have b1:(first:Int)+(root:Int)<(d.size:Int):=by omega
     have b2:first+root<d.size:=by omega
     have b3:(first:Int)+(kd:Int)<(d.size:Int):=by omega
     have b4:first+kd<d.size:=by omega
     have e1:((first:Int)+(root:Int)).toNat=first+root:=by omega
     have e2:((first:Int)+(kd:Int)).toNat=first+kd:=by omega
     go_wp2_with fail
     go_quiet (first|(go_at_call 199;refine Calls.quiet_of_same (less_any _ _ _)))
     cases hl:ltN (V (first+root)) (V (first+kd))
     ·go_wp2_with fail
      (try simp only[Exit.inBlock,Exit.then])
      refine bodyPost_ret (results_none rfl _ _ _) rfl ?_
      refine⟨rfl,?_,H1.out.2.drewN nq⟩;rw[HV.out,HV.out,HK.out]at hl;rw[← H.out.2.2,sd_leaf h0 hl];exact H1.out.1.kb ((Kb.refl [] wc).drewN nq) (by simp)
     ·go_wp2_with fail
      go_region
      all_goals go_wp2
      go_roundg (hi-kd)
      case measure=>omega
      case rel=>
       have hx:=H1.out.1.exch H1.out.2 (i:=first+root) (j:=first+kd) (by omega) (by omega) HV.out (nq+1);refine⟨kd,swp dk (first+root) (first+kd),rfl,by omega,Nat.le_refl _,by rw[size_swp];exact hds,hide ⟨hx.1,hx.2,?_⟩⟩;rw[HV.out,HV.out,HK.out]at hl;rw[← H.out.2.2,sd_go h0 hl,HK.out]
theorem sd_size(hi first root:Nat)(d:Array Nat):(siftDown ltN hi first root d).size=d.size:=by
 suffices h:∀(k root:Nat) (d:Array Nat),hi-root≤k→(siftDown ltN hi first root d).size=d.size from h _ root d (Nat.le_refl _)
 intro k;induction k with
 |zero=>intro root d hk;rw[sd_stop (by omega)]
 |succ k ih=>
  intro root d hk;by_cases h0:hi≤2*root+1
  ·rw[sd_stop h0]
  ·obtain⟨k1,k2⟩:=kid_le (d:=d) (first:=first) h0;cases hl:ltN d[first+root]! d[first+kid hi first root d]!
   ·rw[sd_leaf h0 hl]
   ·rw[sd_go h0 hl,ih _ _ (by omega),size_swp]
set_option maxRecDepth 100000 in
set_option maxHeartbeats 2000000 in
theorem sheap_any(g cap S a b:Nat)(d:Array Nat)(w:World)(h:Rw w g S d)(hab:a<b)(hb:b≤d.size)(hsz:d.size≤1000) :
  Calls Tryz.prog 194 #[.slice (some ⟨g,0,none⟩) d.size cap,.int .i64 a,.int .i64 b] w fun e w'=>
   e=.returned (.tuple #[])∧Rw w' g S (heapSort ltN d a b)∧Kb [g] w w':=by
 have ec:(b:Int)-(a:Int)=((b-a:Nat):Int):=by omega
 have ed:(((b-a:Nat):Int)-1).tdiv 2=((((b-a-1) / 2+1:Nat):Int)-1):=by
  rw[Int.tdiv_eq_ediv_of_nonneg (by omega)];omega
 go_enter Tryz.func194,Tryz.ntmps194
 go_wp2;rw[ec]at *;go_loopg [9] ((b-a-1) / 2+1) (fun k v9 wr=>v9=.int .i64 ((k:Int)-1)∧k≤(b-a-1) / 2+1∧∃(dk:Array Nat),dk.size=d.size∧Hid (Rw wr g S dk∧Kb [g] w wr∧heapBuild ltN (b-a) a k dk=heapBuild ltN (b-a) a ((b-a-1) / 2+1) d))
 case atStart=>exact⟨by congr 1;first|omega|(rw[Int.tdiv_eq_ediv_of_nonneg (by omega)];omega),Nat.le_refl _,d,rfl,hide ⟨h,Kb.refl _ _,rfl⟩⟩
 case round=>
  obtain⟨rfl,hkk,dk,hds,H⟩:=hrel;cases gk with
  |zero=>
   go_wp2;go_loopg [10] (b-a) (fun k v10 wr2=>v10=.int .i64 ((k:Int)-1)∧k≤b-a∧∃(dj:Array Nat),dj.size=d.size∧Hid (Rw wr2 g S dj∧Kb [g] w wr2∧heapPop ltN a k dj=heapPop ltN a (b-a) dk))
   case atStart=>exact⟨rfl,Nat.le_refl _,dk,hds,hide ⟨H.out.1,H.out.2.1,rfl⟩⟩
   case round=>
    obtain⟨rfl,hkk2,dj,hdj,HJ⟩:=hrel;cases gk with
    |zero=>
     go_wp2;go_end0
     refine⟨rfl,?_,HJ.out.2.1⟩;have e:dj=heapSort ltN d a b:=by
      rw[heapSort,← H.out.2.2];exact HJ.out.2.2
     rw[← e];exact HJ.out.1
    |succ k=>
     obtain⟨V,hV⟩:∃V:Nat→Nat,∀t,V t=dj[t]!:=⟨fun t=>dj[t]!,fun _=>rfl⟩;have HV:=hide hV;clear hV;rcases Nat.eq_zero_or_pos k with hk0|hkp
     ·subst hk0;have hcw:∀t,t<d.size→wr.cell? ⟨g,t,none⟩=some (.int .u64 ((V t:Nat):Int)):=fun t ht=>by rw[HV.out];exact HJ.out.1.cell (by omega)
      have hfw:∀t,t<d.size→wr.frozen? ⟨g,t,none⟩=false:=fun t _=>HJ.out.1.fz t
      have b1:(a:Int)<(d.size:Int):=by omega
      have b2:a<d.size:=by omega
      have b3:(a:Int)<(d.size:Int):=by omega
      have b4:a<d.size:=by omega
      have e2:((a:Int)).toNat=a:=by omega
      have hx:=HJ.out.1.exch HJ.out.2.1 (i:=a) (j:=a) (by omega) (by omega) HV.out 1;have HC:=ssift_any g cap S 0 0 a (swp dj a (a)) _ hx.1 (Nat.zero_le _) (by rw[size_swp];omega) (by rw[size_swp];omega);rw[size_swp,hdj]at HC;have HX:=hide hx.2;clear hx;go_wp2_with fail
      go_region
      all_goals go_wp2_with fail
      refine HC.mono ?_
      rintro e w1 ⟨rfl,hw1,hk1⟩;go_wp2;go_roundg 0
      case measure=>omega
      case rel=>
       exact⟨by first|rfl|(congr 1;omega),by omega,siftDown ltN 0 a 0 (swp dj a (a)),by rw[sd_size,size_swp];exact hdj,hide ⟨hw1,HX.out.trans hk1,HJ.out.2.2⟩⟩
     ·skip
      have hcw:∀t,t<d.size→wr.cell? ⟨g,t,none⟩=some (.int .u64 ((V t:Nat):Int)):=fun t ht=>by rw[HV.out];exact HJ.out.1.cell (by omega)
      have hfw:∀t,t<d.size→wr.frozen? ⟨g,t,none⟩=false:=fun t _=>HJ.out.1.fz t
      have b1:(a:Int)<(d.size:Int):=by omega
      have b2:a<d.size:=by omega
      have b3:(a:Int)+(k:Int)<(d.size:Int):=by omega
      have b4:a+k<d.size:=by omega
      have e2:((a:Int)+(k:Int)).toNat=a+k:=by omega
      have hx:=HJ.out.1.exch HJ.out.2.1 (i:=a) (j:=a+k) (by omega) (by omega) HV.out 1;have HC:=ssift_any g cap S 0 k a (swp dj a (a+k)) _ hx.1 (Nat.zero_le _) (by rw[size_swp];omega) (by rw[size_swp];omega);rw[size_swp,hdj]at HC;have HX:=hide hx.2;clear hx;go_wp2_with fail
      go_region
      all_goals go_wp2_with fail
      refine HC.mono ?_
      rintro e w1 ⟨rfl,hw1,hk1⟩;go_wp2;go_roundg k
      case measure=>omega
      case rel=>
       exact⟨by first|rfl|(congr 1;omega),by omega,siftDown ltN k a 0 (swp dj a (a+k)),by rw[sd_size,size_swp];exact hdj,hide ⟨hw1,HX.out.trans hk1,HJ.out.2.2⟩⟩
  |succ k=>
   have HC:=ssift_any g cap S k (b-a) a dk wr H.out.1 (by omega) (by omega) (by omega);rw[hds]at HC;go_wp2_with fail
   refine HC.mono ?_
   rintro e w1 ⟨rfl,hw1,hk1⟩;go_wp2;go_roundg k
   case measure=>omega
   case rel=>
    exact⟨by congr 1,by omega,siftDown ltN (b-a) a k dk,by rw[sd_size];exact hds,hide ⟨hw1,H.out.2.1.trans hk1,H.out.2.2⟩⟩
end
section
open Go.RowKit Go.Sort
set_option maxRecDepth 100000 in
set_option maxHeartbeats 2000000 in
theorem srev_any(g cap S a b:Nat)(d:Array Nat)(w:World)(h:Rw w g S d)(hab:a<b)(hb:b≤d.size)(hsz:d.size≤1000) :
  Calls Tryz.prog 197 #[.slice (some ⟨g,0,none⟩) d.size cap,.int .i64 a,.int .i64 b] w fun e w'=>
   e=.returned (.tuple #[])∧∃d',Rw w' g S d'∧PermIn a b d d'∧Kb [g] w w':=by
 go_enter Tryz.func197,Tryz.ntmps197
 go_wp2;go_loopg [6,7] (b-a) (fun k v6 v7 wr=>∃(i j:Nat) (dk:Array Nat),v6=.int .i64 i∧v7=.int .i64 j∧a≤i∧j<b∧j-i≤k∧dk.size=d.size∧Hid (Rw wr g S dk∧Kb [g] w wr∧PermIn a b d dk))
 case atStart=>exact⟨a,b-1,d,rfl,by congr 1;omega,Nat.le_refl _,by omega,by omega,rfl,hide ⟨h,Kb.refl _ _,permIn_refl _ _ _⟩⟩
 case round=>
  obtain⟨i,j,dk,rfl,rfl,hai,hjb,hk,hds,H⟩:=hrel;by_cases hlt:i<j
  ·have hltz:(i:Int)<(j:Int):=by omega
   obtain⟨V,hV⟩:∃V:Nat→Nat,∀t,V t=dk[t]!:=⟨fun t=>dk[t]!,fun _=>rfl⟩;have HV:=hide hV;clear hV;have hcw:∀t,t<d.size→wr.cell? ⟨g,t,none⟩=some (.int .u64 ((V t:Nat):Int)):=fun t ht=>by rw[HV.out];exact H.out.1.cell (by omega)
   have hfw:∀t,t<d.size→wr.frozen? ⟨g,t,none⟩=false:=fun t _=>H.out.1.fz t
   have b1:(i:Int)<(d.size:Int):=by omega
   have b2:i<d.size:=by omega
   have b3:(j:Int)<(d.size:Int):=by omega
   have b4:j<d.size:=by omega
   go_wp2_with fail
   go_region
   all_goals go_wp2
   go_roundg (j-1-(i+1))
   case measure=>omega
   case rel=>
    have hx:=H.out.1.exch H.out.2.1 (i:=i) (j:=j) (by omega) (by omega) HV.out 1;exact⟨i+1,j-1,swp dk i j,by first|rfl|(congr 1;omega),by first|rfl|(congr 1;omega),by omega,by omega,Nat.le_refl _,by rw[size_swp];exact hds,hide ⟨hx.1,hx.2,permIn_trans _ _ _ _ _ H.out.2.2 (swp_permIn _ _ _ _ _ hai (by omega) (by omega) hjb (by omega))⟩⟩
  ·have hltz:¬(i:Int)<(j:Int):=by omega
   go_wp2;go_end0
   exact⟨rfl,dk,H.out.1,H.out.2.2,H.out.2.1⟩
def CntAt(w:World)(bs s:Nat):Prop:=w.heap[bs]?=some (.cells #[.int .i64 (s:Int)] 3 (0,0))
set_option maxRecDepth 100000 in
set_option maxHeartbeats 2000000 in
theorem order2_any(g cap S bs s x y:Nat)(d:Array Nat)(w:World)(h:Rw w g S d)(hs:CntAt w bs s)(hx:x<d.size)(hy:y<d.size)(hs1:s≤1000) :
  Calls Tryz.prog 209 #[.slice (some ⟨g,0,none⟩) d.size cap,.int .i64 x,.int .i64 y,.pointer (some ⟨bs,0,none⟩)] w fun e w'=>
   ∃p q s':Nat,e=.returned (.tuple #[.int .i64 p,.int .i64 q])∧((p=x∧q=y)∨(p=y∧q=x))∧s'≤s+1∧CntAt w' bs s'∧Kb [bs] w w':=by
 obtain⟨V,hV⟩:∃V:Nat→Nat,∀t,V t=d[t]!:=⟨fun t=>d[t]!,fun _=>rfl⟩;have HV:=hide hV;clear hV;have hcw:∀t,t<d.size→w.cell? ⟨g,t,none⟩=some (.int .u64 ((V t:Nat):Int)):=fun t ht=>by rw[HV.out];exact h.cell ht
 have b1:(x:Int)<(d.size:Int):=by omega
 have b3:(y:Int)<(d.size:Int):=by omega
 have hcs:w.cell? ⟨bs,0,none⟩=some (.int .i64 (s:Int)):=by rw[cell_at hs];rfl
 have hfs:w.frozen? ⟨bs,0,none⟩=false:=frozen_at hs 0;have HS:=hide hs;clear hs;go_enter Tryz.func209,Tryz.ntmps209
 go_wp2_with fail
 go_quiet (first|(go_at_call 199;refine Calls.quiet_of_same (less_any _ _ _)))
 cases hl:ltN (V y) (V x)
 ·go_wp2;refine bodyPost_ret (v:=.tuple #[.int .i64 x,.int .i64 y]) (by simp[results,Tryz.results209,go_sem]) rfl ?_
  exact⟨x,y,s,rfl,.inl ⟨rfl,rfl⟩,by omega,HS.out,(Kb.refl _ _).drewN nq⟩
 ·go_wp2;refine bodyPost_ret (v:=.tuple #[.int .i64 y,.int .i64 x]) (by simp[results,Tryz.results209,go_sem]) rfl ?_
  refine⟨y,x,s+1,rfl,.inr ⟨rfl,rfl⟩,by omega,?_,?_⟩
  ·unfold CntAt;rw[heap_set (w:=w.drewN nq) HS.out];rfl
  ·exact((Kb.refl _ _).drewN nq).setCell (p:=⟨bs,0,none⟩) (.inl (by simp)) _
set_option maxRecDepth 100000 in
set_option maxHeartbeats 2000000 in
theorem median_any(g cap S bs s x y z:Nat)(d:Array Nat)(w:World)(h:Rw w g S d)(hs:CntAt w bs s)(hgb:g≠bs)(hx:x<d.size)(hy:y<d.size)(hz:z<d.size)(hs1:s≤900) :
  Calls Tryz.prog 207 #[.slice (some ⟨g,0,none⟩) d.size cap,.int .i64 x,.int .i64 y,.int .i64 z,.pointer (some ⟨bs,0,none⟩)] w fun e w'=>
   ∃p s':Nat,e=.returned (.int .i64 p)∧(p=x∨p=y∨p=z)∧s'≤s+3∧CntAt w' bs s'∧Kb [bs] w w':=by
 have H1:=order2_any g cap S bs s x y d w h hs hx hy (by omega);go_enter Tryz.func207,Tryz.ntmps207
 go_wp2_with fail
 refine H1.mono ?_
 rintro e w1 ⟨p1,q1,s1,rfl,c1,l1,k1,kb1⟩;have h1:=h.kb kb1 (by simpa using hgb);have H2:=order2_any g cap S bs s1 q1 z d w1 h1 k1 (by omega) hz (by omega);clear H1;go_wp2_with fail
 refine H2.mono ?_
 rintro e w2 ⟨p2,q2,s2,rfl,c2,l2,k2,kb2⟩;have h2:=h1.kb kb2 (by simpa using hgb);have H3:=order2_any g cap S bs s2 p1 p2 d w2 h2 k2 (by omega) (by omega) (by omega);clear H2;go_wp2_with fail
 refine H3.mono ?_
 rintro e w3 ⟨p3,q3,s3,rfl,c3,l3,k3,kb3⟩;clear H3;go_wp2;go_ret
 exact⟨q3,s3,rfl,by omega,by omega,k3,(kb1.trans kb2).trans kb3⟩
set_option maxRecDepth 100000 in
set_option maxHeartbeats 2000000 in
theorem spivot_any(g cap S a b:Nat)(d:Array Nat)(w:World)(h:Rw w g S d)(hab:a+8≤b)(hl:b-a<50)(hb:b≤d.size)(hsz:d.size≤1000) :
  Calls Tryz.prog 196 #[.slice (some ⟨g,0,none⟩) d.size cap,.int .i64 a,.int .i64 b] w fun e w'=>
   ∃p t:Nat,e=.returned (.tuple #[.int .i64 p,.int .i64 t])∧a≤p∧p<b∧t≤2∧Kb [] w w':=by
 obtain⟨W0,hW0⟩:∃W0,W0=w.alloc (.cells #[.int .i64 0] 3):=⟨_,rfl⟩;have k0:Kb [] w W0:=by rw[hW0];exact(Kb.refl [] w).alloc _
 have x0:CntAt W0 w.heap.size 0:=by unfold CntAt;rw[hW0];exact heap_new _ _
 have hgl:=h.lt;have HM:=median_any g cap S w.heap.size 0 (a+(b-a) / 4*1) (a+(b-a) / 4*2) (a+(b-a) / 4*3) d W0 (h.kb k0 (by simp)) x0 (by omega) (by omega) (by omega) (by omega) (by omega);have z1:(8:Int)≤(b:Int)-(a:Int):=by omega
 have z2:¬(50:Int)≤(b:Int)-(a:Int):=by omega
 have z3:((b:Int)-(a:Int)).tdiv 4=(((b-a) / 4:Nat):Int):=by
  rw[Int.tdiv_eq_ediv_of_nonneg (by omega)];omega
 have z4:((b:Int)-(a:Int)) / 4=(((b-a) / 4:Nat):Int):=by omega
 obtain⟨q,hq⟩:∃q,q=(b-a) / 4:=⟨_,rfl⟩;rw[← hq]at HM z3 z4;have hq2:q*4≤b-a:=by omega
 have hqs:q≤100:=by omega
 have HQ:=hide (And.intro hq k0);rw[show((a+q*1:Nat):Int)=(a:Int)+(q:Int) by omega,show((a+q*2:Nat):Int)=(a:Int)+(q:Int)*2 by omega,show((a+q*3:Nat):Int)=(a:Int)+(q:Int)*3 by omega]at HM;clear hq k0;go_enter Tryz.func196,Tryz.ntmps196
 go_wp2_with fail
 rw[← hW0];refine HM.mono ?_
 rintro e w1 ⟨p,s1,rfl,hp,hs1,hc1,kb1⟩;have hcs:w1.cell? ⟨w.heap.size,0,none⟩=some (.int .i64 (s1:Int)):=by rw[cell_at hc1];rfl
 have HK:Hid (Kb [] w w1∧a≤p∧p<b):=by
  refine hide ⟨?_,by omega,by omega⟩;refine(HQ.out.2.mono (l':=[w.heap.size]) (by simp)).trans kb1 |>.mono ?_
  intro k hk hm;simp at hm;omega
 clear HM hW0 kb1 hc1 HQ x0;have s12:¬(s1:Int)=12:=by omega
 by_cases h0:s1=0
 ·have h0z:(s1:Int)=0:=by omega
  go_wp2;refine bodyPost_ret (v:=.tuple #[.int .i64 p,.int .i64 1]) (by simp[results,Tryz.results196,go_sem]) rfl ?_
  exact⟨p,1,rfl,HK.out.2.1,HK.out.2.2,by omega,HK.out.1⟩
 ·have h0z:¬(s1:Int)=0:=by omega
  go_wp2;refine bodyPost_ret (v:=.tuple #[.int .i64 p,.int .i64 0]) (by simp[results,Tryz.results196,go_sem]) rfl ?_
  exact⟨p,0,rfl,HK.out.2.1,HK.out.2.2,by omega,HK.out.1⟩
set_option maxRecDepth 100000 in
set_option maxHeartbeats 2000000 in
theorem spart_any(g cap S a b:Nat)(d:Array Nat)(w:World)(h:Rw w g S d)(hab:a<b)(hl:b-a<50)(hb:b≤d.size)(hsz:d.size≤1000) :
  Calls Tryz.prog 198 #[.slice (some ⟨g,0,none⟩) d.size cap,.int .i64 a,.int .i64 b] w fun e w'=>
   ∃r:Bool,e=.returned (.bool r)∧(r=true→SortedIn ltN a b d)∧Kb [] w w':=by
 have z2:(b:Int)-(a:Int)<50:=by omega
 obtain⟨V,hV⟩:∃V:Nat→Nat,∀t,V t=d[t]!:=⟨fun t=>d[t]!,fun _=>rfl⟩;have HV:=hide hV;clear hV;go_enter Tryz.func198,Tryz.ntmps198
 go_wp2;go_loopg [7,8] 1 (fun k v7 v8 wr=>k=1∧v7=.int .i64 ((a:Int)+1)∧v8=.int .i64 0∧wr=w)
 case atStart=>exact⟨rfl,rfl,rfl,rfl⟩
 case round=>
  obtain⟨rfl,rfl,rfl,hwr⟩:=hrel;subst wr;go_wp2;go_loopg [7] (b-a) (fun k v7 wr=>∃i:Nat,v7=.int .i64 i∧a<i∧i≤b∧b-i≤k∧Hid (SortedIn ltN a i d∧∃q,wr=w.drewN q))
  case atStart=>exact⟨a+1,by go_num,by omega,by omega,by omega,hide ⟨fun i j h1 h2 h3=>by omega,0,rfl⟩⟩
  case round=>
   obtain⟨i,rfl,hai,hib,hk,H⟩:=hrel;have hcw:∀t,t<d.size→wr.cell? ⟨g,t,none⟩=some (.int .u64 ((V t:Nat):Int)):=fun t ht=>by
    obtain⟨q,e⟩:=H.out.2;rw[HV.out,e];exact(h.kb ((Kb.refl [] w).drewN q) (by simp)).cell ht
   have HK:Hid (∀q,Kb [] w (wr.drewN q)):=by
    refine hide (fun q=>?_);obtain⟨q2,e⟩:=H.out.2;rw[e];exact((Kb.refl [] w).drewN q2).drewN q
   by_cases hlt:i<b
   ·have hltz:(i:Int)<(b:Int):=by omega
    have b1:(i:Int)<(d.size:Int):=by omega
    have b2:i<d.size:=by omega
    have b3:(i:Int)-1<(d.size:Int):=by omega
    have b4:i-1<d.size:=by omega
    have b5:(0:Int)≤(i:Int)-1:=by omega
    have b6:((i:Int)-1).toNat=i-1:=by omega
    go_wp2_with fail
    go_quiet (first|(go_at_call 199;refine Calls.quiet_of_same (less_any _ _ _)))
    cases hlx:ltN (V i) (V (i-1))
    ·go_wp2;go_roundg (b-(i+1))
     case measure=>omega
     case rel=>
      refine⟨i+1,by go_num,by omega,by omega,Nat.le_refl _,hide ⟨H.out.1.snoc swo_ltN (by rw[← HV.out,← HV.out];exact hlx),?_⟩⟩;obtain⟨q2,e⟩:=H.out.2;exact⟨q2+nq,by rw[e,World.drewN_drewN]⟩
    ·have hne:¬(i:Int)=(b:Int):=by omega
     go_wp2;go_ret
     exact⟨false,rfl,by simp,HK.out nq⟩
   ·have hltz:decide ((i:Int)<(b:Int))=false:=decide_eq_false (by omega);have e:i=b:=by omega
    subst e;go_wp2_with fail
    go_quiet (first|(go_at_call 199;refine Calls.quiet_of_same (less_any _ _ _)))
    go_wp2;go_ret
    exact⟨true,rfl,fun _=>H.out.1,HK.out nq⟩
end
section
open Go.RowKit Go.Sort
set_option maxRecDepth 100000 in
set_option maxHeartbeats 4000000 in
theorem speq_any(g cap S a b pivot:Nat)(d:Array Nat)(w:World)(h:Rw w g S d)(hap:a≤pivot)(hpb:pivot<b)(hb:b≤d.size)(hsz:d.size≤1000) :
  Calls Tryz.prog 200 #[.slice (some ⟨g,0,none⟩) d.size cap,.int .i64 a,.int .i64 b,.int .i64 pivot] w fun e w'=>
   ∃mid d',e=.returned (.int .i64 ((mid:Nat):Int))∧Rw w' g S d'∧Kb [g] w w'∧a<mid∧mid≤b∧PermIn a b d d'∧(∀t,a≤t→t<mid→d'[t]!≤d[pivot]!)∧(∀t,mid≤t→t<b→d[pivot]! < d'[t]!):=by
 obtain⟨p,hp⟩:∃p,p=d[pivot]!:=⟨_,rfl⟩;obtain⟨q,hq⟩:∃q:Nat→Bool,∀x,q x=!ltN p x:=⟨fun x=>!ltN p x,fun _=>rfl⟩;have P0:Prt q d (swp d a pivot) a b p (a+1) (b-1):=by rw[hp];exact Prt.start hap hpb hb
 rw[← hp];have HQ:=hide hq;have HP:=hide P0;clear hq hp P0;obtain⟨U,hU⟩:∃U:Nat→Nat,∀t,U t=d[t]!:=⟨fun t=>d[t]!,fun _=>rfl⟩;have HU:=hide hU;clear hU;have ca:w.cell? ⟨g,a,none⟩=some (.int .u64 ((U a:Nat):Int)):=by rw[HU.out];exact h.cell (by omega)
 have cp:w.cell? ⟨g,pivot,none⟩=some (.int .u64 ((U pivot:Nat):Int)):=by rw[HU.out];exact h.cell (by omega)
 have fa:w.frozen? ⟨g,a,none⟩=false:=h.fz a;have fp:w.frozen? ⟨g,pivot,none⟩=false:=h.fz pivot;have b1:(a:Int)<(d.size:Int):=by omega
 have b2:a<d.size:=by omega
 have b3:(pivot:Int)<(d.size:Int):=by omega
 have b4:pivot<d.size:=by omega
 obtain⟨v',hy'⟩:=cell?_setCell_some (w:=w) (p:=⟨g,a,none⟩) (x:=.int .u64 ((U pivot:Nat):Int)) (q:=⟨g,pivot,none⟩) cp;go_enter Tryz.func200,Tryz.ntmps200
 go_wp2_with fail
 go_region
 go_wp2_with fail
 go_loopg [9,10] (b-a) (fun k v9 v10 wr=>∃(i j:Nat) (dk:Array Nat),v9=.int .i64 i∧v10=.int .i64 j∧a<i∧i≤j+1∧j<b∧j+1-i≤k∧dk.size=d.size∧Hid (Rw wr g S dk∧Kb [g] w wr∧Prt q d dk a b p i j))
 case atStart=>
  have hx:=h.exch (Kb.refl [g] w) (i:=a) (j:=pivot) (by omega) (by omega) HU.out 1;exact⟨a+1,b-1,swp d a pivot,by first|rfl|(congr 1;omega),by first|rfl|(congr 1;omega),by omega,by omega,by omega,by omega,size_swp _ _ _,hide ⟨hx.1,hx.2,HP.out⟩⟩
 case round=>
  obtain⟨i,j,dk,rfl,rfl,hai,hij,hjb,hk,hds,H⟩:=hrel;clear ca cp fa fp hy' b1 b2 b3 b4;obtain⟨V,hV⟩:∃V:Nat→Nat,∀t,V t=dk[t]!:=⟨fun t=>dk[t]!,fun _=>rfl⟩;have HV:=hide hV;clear hV;have HQ2:Hid (∀t,q dk[t]! = !ltN (V a) (V t)):=hide (fun t=>by rw[HQ.out,HV.out,HV.out,H.out.2.2.piv]);go_wp2_with fail
  go_loopg [9] (j+1-i) (fun k v9 w1=>∃i':Nat,v9=.int .i64 i'∧i≤i'∧i'≤j+1∧j+1-i'≤k∧Hid (Prt q d dk a b p i' j∧∃n,w1=wr.drewN n))
  case atStart=>exact⟨i,rfl,Nat.le_refl _,hij,Nat.le_refl _,hide ⟨H.out.2.2,0,rfl⟩⟩
  case round=>
   obtain⟨i',rfl,hii,hij',hk',HI⟩:=hrel;rename World=>W1
   have hcw:∀t,t<d.size→W1.cell? ⟨g,t,none⟩=some (.int .u64 ((V t:Nat):Int)):=fun t ht=>by
    obtain⟨n,e⟩:=HI.out.2;rw[HV.out,e];exact(H.out.1.kb ((Kb.refl [] wr).drewN n) (by simp)).cell (by omega)
   have c0:(a:Int)<(d.size:Int):=by omega
   have c1:a<d.size:=by omega
   go_upto_region 3 with fail
   go_cut [43] (fun v43 wx=>v43=.bool (decide (i'≤j) && !ltN (V a) (V i'))∧∃n,wx=W1.drewN n)
   case first=>
    by_cases hle:i'≤j
    ·have hlez:(i':Int)≤(j:Int):=by omega
     have c2:(i':Int)<(d.size:Int):=by omega
     have c3:i'<d.size:=by omega
     go_quiet (first|(go_at_call 199;refine Calls.quiet_of_same (less_any _ _ _)))
     go_wp2;go_meet
     case rel=>exact⟨by simp[hle],nq,rfl⟩
    ·have hlez:decide ((i':Int)≤(j:Int))=false:=decide_eq_false (by omega);go_quiet (first|(go_at_call 199;refine Calls.quiet_of_same (less_any _ _ _)))
     go_wp2;go_meet
     case rel=>exact⟨by simp[hle],nq,rfl⟩
   case rest=>
    obtain⟨rfl,n1,rfl⟩:=hcut;have HI1:Hid (∃n,W1.drewN n1=wr.drewN n):=by
     obtain⟨n,e⟩:=HI.out.2;exact hide ⟨n+n1,by rw[e,World.drewN_drewN]⟩
    clear hcw;generalize W1.drewN n1=W2 at HI1 ⊢;cases hb1:(decide (i'≤j) && !ltN (V a) (V i'))
    ·go_wp2_with fail
     go_loopg [10] (j+1) (fun k v10 w2=>∃j':Nat,v10=.int .i64 j'∧j'≤j∧i'≤j'+1∧j'≤k∧Hid (Prt q d dk a b p i' j'∧∃n,w2=wr.drewN n))
     case atStart=>exact⟨j,rfl,Nat.le_refl _,hij',by omega,hide ⟨HI.out.1,HI1.out⟩⟩
     case round=>
      obtain⟨j',rfl,hjj,hij2,hk2,HJ⟩:=hrel;rename World=>W3
      have hcw:∀t,t<d.size→W3.cell? ⟨g,t,none⟩=some (.int .u64 ((V t:Nat):Int)):=fun t ht=>by
       obtain⟨n,e⟩:=HJ.out.2;rw[HV.out,e];exact(H.out.1.kb ((Kb.refl [] wr).drewN n) (by simp)).cell (by omega)
      go_upto_region 5 with fail
      go_cut [59] (fun v59 wx=>v59=.bool (decide (i'≤j') && ltN (V a) (V j'))∧∃n,wx=W3.drewN n)
      case first=>
       by_cases hle:i'≤j'
       ·have hlez:(i':Int)≤(j':Int):=by omega
        have c2:(j':Int)<(d.size:Int):=by omega
        have c3:j'<d.size:=by omega
        go_quiet (first|(go_at_call 199;refine Calls.quiet_of_same (less_any _ _ _)))
        go_wp2;go_meet
        case rel=>exact⟨by simp[hle],nq,rfl⟩
       ·have hlez:decide ((i':Int)≤(j':Int))=false:=decide_eq_false (by omega);go_quiet (first|(go_at_call 199;refine Calls.quiet_of_same (less_any _ _ _)))
        go_wp2;go_meet
        case rel=>exact⟨by simp[hle],nq,rfl⟩
      case rest=>
       obtain⟨rfl,n2,rfl⟩:=hcut;have HJ1:Hid (∃n,W3.drewN n2=wr.drewN n):=by
        obtain⟨n,e⟩:=HJ.out.2;exact hide ⟨n+n2,by rw[e,World.drewN_drewN]⟩
       clear hcw;generalize W3.drewN n2=W4 at HJ1 ⊢;cases hb2:(decide (i'≤j') && ltN (V a) (V j'))
       ·by_cases hx:j'<i'
        ·have hxz:(j':Int)<(i':Int):=by omega
         go_wp2;go_ret
         obtain⟨f1,f2,f3,f4,f5⟩:=HJ.out.1.finE HQ.out hx;obtain⟨n,e⟩:=HJ1.out;exact⟨i',dk,rfl,by rw[e];exact H.out.1.kb ((Kb.refl [] wr).drewN n) (by simp),by rw[e];exact H.out.2.1.drewN n,f1,f2,f3,f4,f5⟩
        ·have hxz:¬(j':Int)<(i':Int):=by omega
         have q1:q dk[i']! = false:=by
          rw[HQ2.out];have:i'≤j:=by omega
          simpa[this]using hb1
         have q2:q dk[j']! = true:=by
          rw[HQ2.out];have:i'≤j':=by omega
          simpa[this]using hb2
         obtain⟨hlt,HN⟩:=HJ.out.1.swap (by omega) q1 q2;have HN':=hide HN;clear HN q1 q2;have HW4:Hid (Rw W4 g S dk∧Kb [g] w W4):=by
          obtain⟨n,e⟩:=HJ1.out;rw[e];exact hide ⟨H.out.1.kb ((Kb.refl [] wr).drewN n) (by simp),H.out.2.1.drewN n⟩
         have hcw:∀t,t<d.size→W4.cell? ⟨g,t,none⟩=some (.int .u64 ((V t:Nat):Int)):=fun t ht=>by rw[HV.out];exact HW4.out.1.cell (by omega)
         have hfw:∀t,t<d.size→W4.frozen? ⟨g,t,none⟩=false:=fun t _=>HW4.out.1.fz t
         have c2:(j':Int)<(d.size:Int):=by omega
         have c3:j'<d.size:=by omega
         have c4:(i':Int)<(d.size:Int):=by omega
         have c5:i'<d.size:=by omega
         go_wp2_with fail
         go_region
         all_goals go_wp2
         go_roundg (j'-1+1-(i'+1))
         case measure=>omega
         case rel=>
          have hx:=HW4.out.1.exch HW4.out.2 (i:=i') (j:=j') (by omega) (by omega) HV.out 1;exact⟨i'+1,j'-1,swp dk i' j',by first|rfl|(congr 1;omega),by first|rfl|(congr 1;omega),by omega,by omega,by omega,Nat.le_refl _,by rw[size_swp];exact hds,hide ⟨hx.1,hx.2,HN'.out⟩⟩
       ·have hle:i'≤j':=by
         simp at hb2;exact hb2.1
        go_wp2;go_roundg (j'-1)
        case measure=>omega
        case rel=>
         refine⟨j'-1,by first|rfl|(congr 1;omega),by omega,by omega,Nat.le_refl _,hide ⟨HJ.out.1.down hle ?_,HJ1.out⟩⟩;rw[HQ2.out];simpa[hle]using hb2
    ·have hle:i'≤j:=by
      simp at hb1;exact hb1.1
     go_wp2;go_roundg (j+1-(i'+1))
     case measure=>omega
     case rel=>
      refine⟨i'+1,by first|rfl|(congr 1;omega),by omega,by omega,Nat.le_refl _,hide ⟨HI.out.1.up hle ?_,HI1.out⟩⟩;rw[HQ2.out];simpa[hle]using hb1
end
section
open Go.RowKit Go.Sort
set_option maxRecDepth 100000 in
set_option maxHeartbeats 8000000 in
theorem sprt_any(g cap S a b pivot:Nat)(d:Array Nat)(w:World)(h:Rw w g S d)(hap:a≤pivot)(hpb:pivot<b)(hb:b≤d.size)(hsz:d.size≤1000) :
  Calls Tryz.prog 201 #[.slice (some ⟨g,0,none⟩) d.size cap,.int .i64 a,.int .i64 b,.int .i64 pivot] w fun e w'=>
   ∃mid al d',e=.returned (.tuple #[.int .i64 ((mid:Nat):Int),.bool al])∧Rw w' g S d'∧Kb [g] w w'∧a≤mid∧mid<b∧PermIn a b d d'∧(∀t,a≤t→t<mid→d'[t]! < d'[mid]!)∧(∀t,mid<t→t<b→d'[mid]!≤d'[t]!):=by
 obtain⟨p,hp⟩:∃p,p=d[pivot]!:=⟨_,rfl⟩;obtain⟨q,hq⟩:∃q:Nat→Bool,∀x,q x=ltN x p:=⟨fun x=>ltN x p,fun _=>rfl⟩;have P0:Prt q d (swp d a pivot) a b p (a+1) (b-1):=by rw[hp];exact Prt.start hap hpb hb
 have HQ:=hide hq;have HP:=hide P0;clear hq hp P0;obtain⟨U,hU⟩:∃U:Nat→Nat,∀t,U t=d[t]!:=⟨fun t=>d[t]!,fun _=>rfl⟩;have HU:=hide hU;clear hU;have ca:w.cell? ⟨g,a,none⟩=some (.int .u64 ((U a:Nat):Int)):=by rw[HU.out];exact h.cell (by omega)
 have cp:w.cell? ⟨g,pivot,none⟩=some (.int .u64 ((U pivot:Nat):Int)):=by rw[HU.out];exact h.cell (by omega)
 have fa:w.frozen? ⟨g,a,none⟩=false:=h.fz a;have fp:w.frozen? ⟨g,pivot,none⟩=false:=h.fz pivot;have b1:(a:Int)<(d.size:Int):=by omega
 have b2:a<d.size:=by omega
 have b3:(pivot:Int)<(d.size:Int):=by omega
 have b4:pivot<d.size:=by omega
 obtain⟨v',hy'⟩:=cell?_setCell_some (w:=w) (p:=⟨g,a,none⟩) (x:=.int .u64 ((U pivot:Nat):Int)) (q:=⟨g,pivot,none⟩) cp;have hx:=h.exch (Kb.refl [g] w) (i:=a) (j:=pivot) (by omega) (by omega) HU.out 1;go_enter Tryz.func201,Tryz.ntmps201
 go_wp2_with fail
 go_region
 go_wp2_with fail
 clear ca cp fa fp b1 b2 b3 b4 hy' v';have ei:(a:Int)+1=((a+1:Nat):Int):=by omega
 have ej:(b:Int)-1=((b-1:Nat):Int):=by omega
 rw[ei,ej];clear ei ej;obtain⟨i,hi⟩:∃i,i=a+1:=⟨_,rfl⟩;obtain⟨j,hj⟩:∃j,j=b-1:=⟨_,rfl⟩;obtain⟨wr,hwr⟩:∃wr,wr=((w.setCell ⟨g,a,none⟩ (.int .u64 ((U pivot:Nat):Int))).setCell ⟨g,pivot,none⟩ (.int .u64 ((U a:Nat):Int))).drew:=⟨_,rfl⟩;have H:Hid (Rw wr g S (swp d a pivot)∧Kb [g] w wr∧Prt q d (swp d a pivot) a b p i j):=by
  rw[hwr,hi,hj];exact hide ⟨hx.1,hx.2,HP.out⟩
 have hds:(swp d a pivot).size=d.size:=size_swp _ _ _;clear HP hx;rw[← hi,← hj,← hwr];clear hwr;clear HU;have hij:i≤j+1:=by omega
 have hjb:j<b:=by omega
 have hai:a<i:=by omega
 clear hi hj;generalize swp d a pivot=dk at H hds;obtain⟨V,hV⟩:∃V:Nat→Nat,∀t,V t=dk[t]!:=⟨fun t=>dk[t]!,fun _=>rfl⟩;have HV:=hide hV;clear hV;have HQ2:Hid (∀t,q dk[t]! = ltN (V t) (V a)):=hide (fun t=>by rw[HQ.out,HV.out,HV.out,H.out.2.2.piv]);have c0:(a:Int)<(d.size:Int):=by omega
 have c1:a<d.size:=by omega
 go_wp2_with fail
 go_loopg [10] (j+1-i) (fun k v9 w1=>∃i':Nat,v9=.int .i64 i'∧i≤i'∧i'≤j+1∧j+1-i'≤k∧Hid (Prt q d dk a b p i' j∧∃n,w1=wr.drewN n))
 case atStart=>exact⟨i,rfl,Nat.le_refl _,hij,Nat.le_refl _,hide ⟨H.out.2.2,0,rfl⟩⟩
 case round=>
  obtain⟨i',rfl,hii,hij',hk',HI⟩:=hrel;rename World=>W1
  have hcw:∀t,t<d.size→W1.cell? ⟨g,t,none⟩=some (.int .u64 ((V t:Nat):Int)):=fun t ht=>by
   obtain⟨n,e⟩:=HI.out.2;rw[HV.out,e];exact(H.out.1.kb ((Kb.refl [] wr).drewN n) (by simp)).cell (by omega)
  go_upto_region 3 with fail
  go_cut [43] (fun vx wx=>vx=.bool (decide (i'≤j) && ltN (V i') (V a))∧∃n,wx=W1.drewN n)
  case first=>
   by_cases hle:i'≤j
   ·have hlez:(i':Int)≤(j:Int):=by omega
    have c2:(i':Int)<(d.size:Int):=by omega
    have c3:i'<d.size:=by omega
    go_quiet (first|(go_at_call 199;refine Calls.quiet_of_same (less_any _ _ _)))
    go_wp2;go_meet
    case rel=>exact⟨by simp[hle],nq,rfl⟩
   ·have hlez:decide ((i':Int)≤(j:Int))=false:=decide_eq_false (by omega);go_quiet (first|(go_at_call 199;refine Calls.quiet_of_same (less_any _ _ _)))
    go_wp2;go_meet
    case rel=>exact⟨by simp[hle],nq,rfl⟩
  case rest=>
   obtain⟨rfl,n1,rfl⟩:=hcut;have HI1:Hid (∃n,W1.drewN n1=wr.drewN n):=by
    obtain⟨n,e⟩:=HI.out.2;exact hide ⟨n+n1,by rw[e,World.drewN_drewN]⟩
   clear hcw;generalize W1.drewN n1=W2 at HI1 ⊢;cases hb1:(decide (i'≤j) && ltN (V i') (V a))
   ·go_wp2_with fail
    go_loopg [11] (j+1) (fun k v10 w2=>∃j':Nat,v10=.int .i64 j'∧j'≤j∧i'≤j'+1∧j'≤k∧Hid (Prt q d dk a b p i' j'∧∃n,w2=wr.drewN n))
    case atStart=>exact⟨j,rfl,Nat.le_refl _,hij',by omega,hide ⟨HI.out.1,HI1.out⟩⟩
    case round=>
     obtain⟨j',rfl,hjj,hij2,hk2,HJ⟩:=hrel;rename World=>W3
     have hcw:∀t,t<d.size→W3.cell? ⟨g,t,none⟩=some (.int .u64 ((V t:Nat):Int)):=fun t ht=>by
      obtain⟨n,e⟩:=HJ.out.2;rw[HV.out,e];exact(H.out.1.kb ((Kb.refl [] wr).drewN n) (by simp)).cell (by omega)
     go_upto_region 5 with fail
     go_cut [60] (fun vx wx=>vx=.bool (decide (i'≤j') && !ltN (V j') (V a))∧∃n,wx=W3.drewN n)
     case first=>
      by_cases hle:i'≤j'
      ·have hlez:(i':Int)≤(j':Int):=by omega
       have c2:(j':Int)<(d.size:Int):=by omega
       have c3:j'<d.size:=by omega
       go_quiet (first|(go_at_call 199;refine Calls.quiet_of_same (less_any _ _ _)))
       go_wp2;go_meet
       case rel=>exact⟨by simp[hle],nq,rfl⟩
      ·have hlez:decide ((i':Int)≤(j':Int))=false:=decide_eq_false (by omega);go_quiet (first|(go_at_call 199;refine Calls.quiet_of_same (less_any _ _ _)))
       go_wp2;go_meet
       case rel=>exact⟨by simp[hle],nq,rfl⟩
     case rest=>
      obtain⟨rfl,n2,rfl⟩:=hcut;have HJ1:Hid (∃n,W3.drewN n2=wr.drewN n):=by
       obtain⟨n,e⟩:=HJ.out.2;exact hide ⟨n+n2,by rw[e,World.drewN_drewN]⟩
      clear hcw;generalize W3.drewN n2=W4 at HJ1 ⊢;cases hb2:(decide (i'≤j') && !ltN (V j') (V a))
      ·have HW4:Hid (Rw W4 g S dk∧Kb [g] w W4):=by
        obtain⟨n,e⟩:=HJ1.out;rw[e];exact hide ⟨H.out.1.kb ((Kb.refl [] wr).drewN n) (by simp),H.out.2.1.drewN n⟩
       have hcw:∀t,t<d.size→W4.cell? ⟨g,t,none⟩=some (.int .u64 ((V t:Nat):Int)):=fun t ht=>by rw[HV.out];exact HW4.out.1.cell (by omega)
       have hfw:∀t,t<d.size→W4.frozen? ⟨g,t,none⟩=false:=fun t _=>HW4.out.1.fz t
       by_cases hx:j'<i'
       ·have hxz:(j':Int)<(i':Int):=by omega
        have haj:a≤j':=by omega
        have c2:(j':Int)<(d.size:Int):=by omega
        have c3:j'<d.size:=by omega
        obtain⟨v',hy'⟩:=cell?_setCell_some (w:=W4) (p:=⟨g,j',none⟩) (x:=.int .u64 ((V a:Nat):Int)) (q:=⟨g,a,none⟩) (hcw a (by omega));go_wp2_with fail
        go_region
        all_goals go_wp2
        refine bodyPost_ret (v:=.tuple #[.int .i64 j',.bool true]) (by simp[results,Tryz.results201,go_sem]) rfl ?_
        obtain⟨f1,f2,f3,f4,f5⟩:=HJ.out.1.fin HQ.out hx;have hxx:=HW4.out.1.exch HW4.out.2 (i:=j') (j:=a) (by omega) (by omega) HV.out 1;exact⟨j',true,swp dk j' a,rfl,hxx.1,hxx.2,f1,f2,f3,f4,f5⟩
       ·have hxz:¬(j':Int)<(i':Int):=by omega
        have q1:q dk[i']! = false:=by
         rw[HQ2.out];have:i'≤j:=by omega
         simpa[this]using hb1
        have q2:q dk[j']! = true:=by
         rw[HQ2.out];have:i'≤j':=by omega
         simpa[this]using hb2
        obtain⟨hlt,HN⟩:=HJ.out.1.swap (by omega) q1 q2;have HN':=hide HN;clear HN q1 q2;have c2:(j':Int)<(d.size:Int):=by omega
        have c3:j'<d.size:=by omega
        have c4:(i':Int)<(d.size:Int):=by omega
        have c5:i'<d.size:=by omega
        have hsw:=HW4.out.1.exch HW4.out.2 (i:=i') (j:=j') (by omega) (by omega) HV.out 1;have HSW:=hide hsw;clear hsw;go_wp2_with fail
        go_region
        all_goals go_wp2_with fail
        clear hcw hfw c0 c1 c2 c3 c4 c5;go_loopg [10,11] (b-a) (fun k v9 v10 wr=>∃(i j:Nat) (dk:Array Nat),v9=.int .i64 i∧v10=.int .i64 j∧a<i∧i≤j+1∧j<b∧j+1-i≤k∧dk.size=d.size∧Hid (Rw wr g S dk∧Kb [g] w wr∧Prt q d dk a b p i j))
        case atStart=>exact⟨i'+1,j'-1,swp dk i' j',by first|rfl|(congr 1;omega),by first|rfl|(congr 1;omega),by omega,by omega,by omega,by omega,by rw[size_swp];exact hds,hide ⟨HSW.out.1,HSW.out.2,HN'.out⟩⟩
        case round=>
         clear H HV HQ2 HI HJ HI1 HJ1 HW4 HN' HSW hb1 hb2;obtain⟨i,j,dk,rfl,rfl,hai,hij,hjb,hk,hds,H⟩:=hrel;obtain⟨V,hV⟩:∃V:Nat→Nat,∀t,V t=dk[t]!:=⟨fun t=>dk[t]!,fun _=>rfl⟩;have HV:=hide hV;clear hV;have HQ2:Hid (∀t,q dk[t]! = ltN (V t) (V a)):=hide (fun t=>by rw[HQ.out,HV.out,HV.out,H.out.2.2.piv]);have c0:(a:Int)<(d.size:Int):=by omega
         have c1:a<d.size:=by omega
         go_wp2_with fail
         go_loopg [10] (j+1-i) (fun k v9 w1=>∃i':Nat,v9=.int .i64 i'∧i≤i'∧i'≤j+1∧j+1-i'≤k∧Hid (Prt q d dk a b p i' j∧∃n,w1=wr.drewN n))
         case atStart=>exact⟨i,rfl,Nat.le_refl _,hij,Nat.le_refl _,hide ⟨H.out.2.2,0,rfl⟩⟩
         case round=>
          obtain⟨i',rfl,hii,hij',hk',HI⟩:=hrel;rename World=>W1
          have hcw:∀t,t<d.size→W1.cell? ⟨g,t,none⟩=some (.int .u64 ((V t:Nat):Int)):=fun t ht=>by
           obtain⟨n,e⟩:=HI.out.2;rw[HV.out,e];exact(H.out.1.kb ((Kb.refl [] wr).drewN n) (by simp)).cell (by omega)
          go_upto_region 13 with fail
          go_cut [112] (fun vx wx=>vx=.bool (decide (i'≤j) && ltN (V i') (V a))∧∃n,wx=W1.drewN n)
          case first=>
           by_cases hle:i'≤j
           ·have hlez:(i':Int)≤(j:Int):=by omega
            have c2:(i':Int)<(d.size:Int):=by omega
            have c3:i'<d.size:=by omega
            go_quiet (first|(go_at_call 199;refine Calls.quiet_of_same (less_any _ _ _)))
            go_wp2;go_meet
            case rel=>exact⟨by simp[hle],nq,rfl⟩
           ·have hlez:decide ((i':Int)≤(j:Int))=false:=decide_eq_false (by omega);go_quiet (first|(go_at_call 199;refine Calls.quiet_of_same (less_any _ _ _)))
            go_wp2;go_meet
            case rel=>exact⟨by simp[hle],nq,rfl⟩
          case rest=>
           obtain⟨rfl,n1,rfl⟩:=hcut;have HI1:Hid (∃n,W1.drewN n1=wr.drewN n):=by
            obtain⟨n,e⟩:=HI.out.2;exact hide ⟨n+n1,by rw[e,World.drewN_drewN]⟩
           clear hcw;generalize W1.drewN n1=W2 at HI1 ⊢;cases hb1:(decide (i'≤j) && ltN (V i') (V a))
           ·go_wp2_with fail
            go_loopg [11] (j+1) (fun k v10 w2=>∃j':Nat,v10=.int .i64 j'∧j'≤j∧i'≤j'+1∧j'≤k∧Hid (Prt q d dk a b p i' j'∧∃n,w2=wr.drewN n))
            case atStart=>exact⟨j,rfl,Nat.le_refl _,hij',by omega,hide ⟨HI.out.1,HI1.out⟩⟩
            case round=>
             obtain⟨j',rfl,hjj,hij2,hk2,HJ⟩:=hrel;rename World=>W3
             have hcw:∀t,t<d.size→W3.cell? ⟨g,t,none⟩=some (.int .u64 ((V t:Nat):Int)):=fun t ht=>by
              obtain⟨n,e⟩:=HJ.out.2;rw[HV.out,e];exact(H.out.1.kb ((Kb.refl [] wr).drewN n) (by simp)).cell (by omega)
             go_upto_region 15 with fail
             go_cut [129] (fun vx wx=>vx=.bool (decide (i'≤j') && !ltN (V j') (V a))∧∃n,wx=W3.drewN n)
             case first=>
              by_cases hle:i'≤j'
              ·have hlez:(i':Int)≤(j':Int):=by omega
               have c2:(j':Int)<(d.size:Int):=by omega
               have c3:j'<d.size:=by omega
               go_quiet (first|(go_at_call 199;refine Calls.quiet_of_same (less_any _ _ _)))
               go_wp2;go_meet
               case rel=>exact⟨by simp[hle],nq,rfl⟩
              ·have hlez:decide ((i':Int)≤(j':Int))=false:=decide_eq_false (by omega);go_quiet (first|(go_at_call 199;refine Calls.quiet_of_same (less_any _ _ _)))
               go_wp2;go_meet
               case rel=>exact⟨by simp[hle],nq,rfl⟩
             case rest=>
              obtain⟨rfl,n2,rfl⟩:=hcut;have HJ1:Hid (∃n,W3.drewN n2=wr.drewN n):=by
               obtain⟨n,e⟩:=HJ.out.2;exact hide ⟨n+n2,by rw[e,World.drewN_drewN]⟩
              clear hcw;generalize W3.drewN n2=W4 at HJ1 ⊢;cases hb2:(decide (i'≤j') && !ltN (V j') (V a))
              ·have HW4:Hid (Rw W4 g S dk∧Kb [g] w W4):=by
                obtain⟨n,e⟩:=HJ1.out;rw[e];exact hide ⟨H.out.1.kb ((Kb.refl [] wr).drewN n) (by simp),H.out.2.1.drewN n⟩
               have hcw:∀t,t<d.size→W4.cell? ⟨g,t,none⟩=some (.int .u64 ((V t:Nat):Int)):=fun t ht=>by rw[HV.out];exact HW4.out.1.cell (by omega)
               have hfw:∀t,t<d.size→W4.frozen? ⟨g,t,none⟩=false:=fun t _=>HW4.out.1.fz t
               by_cases hx:j'<i'
               ·have hxz:(j':Int)<(i':Int):=by omega
                have haj:a≤j':=by omega
                have c2:(j':Int)<(d.size:Int):=by omega
                have c3:j'<d.size:=by omega
                obtain⟨v',hy'⟩:=cell?_setCell_some (w:=W4) (p:=⟨g,j',none⟩) (x:=.int .u64 ((V a:Nat):Int)) (q:=⟨g,a,none⟩) (hcw a (by omega));go_wp2_with fail
                go_region
                all_goals go_wp2
                refine bodyPost_ret (v:=.tuple #[.int .i64 j',.bool false]) (by simp[results,Tryz.results201,go_sem]) rfl ?_
                obtain⟨f1,f2,f3,f4,f5⟩:=HJ.out.1.fin HQ.out hx;have hxx:=HW4.out.1.exch HW4.out.2 (i:=j') (j:=a) (by omega) (by omega) HV.out 1;exact⟨j',false,swp dk j' a,rfl,hxx.1,hxx.2,f1,f2,f3,f4,f5⟩
               ·have hxz:¬(j':Int)<(i':Int):=by omega
                have q1:q dk[i']! = false:=by
                 rw[HQ2.out];have:i'≤j:=by omega
                 simpa[this]using hb1
                have q2:q dk[j']! = true:=by
                 rw[HQ2.out];have:i'≤j':=by omega
                 simpa[this]using hb2
                obtain⟨hlt,HN⟩:=HJ.out.1.swap (by omega) q1 q2;have HN':=hide HN;clear HN q1 q2;have c2:(j':Int)<(d.size:Int):=by omega
                have c3:j'<d.size:=by omega
                have c4:(i':Int)<(d.size:Int):=by omega
                have c5:i'<d.size:=by omega
                have hsw:=HW4.out.1.exch HW4.out.2 (i:=i') (j:=j') (by omega) (by omega) HV.out 1;have HSW:=hide hsw;clear hsw;go_wp2_with fail
                go_region
                all_goals go_wp2_with fail
                go_roundg (j'-1+1-(i'+1))
                case measure=>omega
                case rel=>exact⟨i'+1,j'-1,swp dk i' j',by first|rfl|(congr 1;omega),by first|rfl|(congr 1;omega),by omega,by omega,by omega,Nat.le_refl _,by rw[size_swp];exact hds,hide ⟨HSW.out.1,HSW.out.2,HN'.out⟩⟩
              ·have hle:i'≤j':=by
                simp at hb2;exact hb2.1
               go_wp2;go_roundg (j'-1)
               case measure=>omega
               case rel=>
                refine⟨j'-1,by first|rfl|(congr 1;omega),by omega,by omega,Nat.le_refl _,hide ⟨HJ.out.1.down hle ?_,HJ1.out⟩⟩;rw[HQ2.out];simpa[hle]using hb2
           ·have hle:i'≤j:=by
             simp at hb1;exact hb1.1
            go_wp2;go_roundg (j+1-(i'+1))
            case measure=>omega
            case rel=>
             refine⟨i'+1,by first|rfl|(congr 1;omega),by omega,by omega,Nat.le_refl _,hide ⟨HI.out.1.up hle ?_,HI1.out⟩⟩;rw[HQ2.out];simpa[hle]using hb1
      ·have hle:i'≤j':=by
        simp at hb2;exact hb2.1
       go_wp2;go_roundg (j'-1)
       case measure=>omega
       case rel=>
        refine⟨j'-1,by first|rfl|(congr 1;omega),by omega,by omega,Nat.le_refl _,hide ⟨HJ.out.1.down hle ?_,HJ1.out⟩⟩;rw[HQ2.out];simpa[hle]using hb2
   ·have hle:i'≤j:=by
     simp at hb1;exact hb1.1
    go_wp2;go_roundg (j+1-(i'+1))
    case measure=>omega
    case rel=>
     refine⟨i'+1,by first|rfl|(congr 1;omega),by omega,by omega,Nat.le_refl _,hide ⟨HI.out.1.up hle ?_,HI1.out⟩⟩;rw[HQ2.out];simpa[hle]using hb1
end
section
open Go.RowKit Go.Sort
def XorAt(w:World)(bx:Nat):Prop:=∃r:Nat,r<18446744073709551616∧w.heap[bx]?=some (.cells #[.int .u64 (r:Int)] 224 (0,0))
theorem xor_lt{x y:Nat}(hx:x<18446744073709551616)(hy:y<18446744073709551616):∃r:Nat,r<18446744073709551616∧bits .xor .u64 (x:Int) (y:Int)=(r:Int):=
 ⟨x ^^^ y,Nat.xor_lt_two_pow (n:=64) hx hy,bits_xor_u64_nat x y hx hy⟩
set_option maxRecDepth 100000 in
set_option maxHeartbeats 2000000 in
theorem xnext_any(bx:Nat)(w:World)(h:XorAt w bx) :
  Calls Tryz.prog 170 #[.pointer (some ⟨bx,0,none⟩)] w fun e w'=>∃r:Nat,r<18446744073709551616∧e=.returned (.int .u64 (r:Int))∧XorAt w' bx∧Kb [bx] w w':=by
 obtain⟨r,hr,hb⟩:=h;have c0:w.cell? ⟨bx,0,none⟩=some (.int .u64 (r:Int)):=by rw[cell_at hb];rfl
 have f0:w.frozen? ⟨bx,0,none⟩=false:=frozen_at hb 0;obtain⟨r1,hr1,e1⟩:=xor_lt (x:=r) (y:=r*8192 % 18446744073709551616) hr (by omega);rw[show((r*8192 % 18446744073709551616:Nat):Int)=IntKind.u64.wrap ((r:Int)*8192) by rw[IntKind.wrap_u64];omega]at e1;obtain⟨r2,hr2,e2⟩:=xor_lt (x:=r1) (y:=r1 / 128) hr1 (by omega);rw[show((r1 / 128:Nat):Int)=(r1:Int) / 128 by omega]at e2;obtain⟨r3,hr3,e3⟩:=xor_lt (x:=r2) (y:=r2*131072 % 18446744073709551616) hr2 (by omega);rw[show((r2*131072 % 18446744073709551616:Nat):Int)=IntKind.u64.wrap ((r2:Int)*131072) by rw[IntKind.wrap_u64];omega]at e3;have HB0:=hide (And.intro hb (Kb.refl [bx] w));clear hb;go_enter Tryz.func170,Tryz.ntmps170
 go_wp2;go_region
 have hb1:(w.setCell ⟨bx,0,none⟩ (.int .u64 (r1:Int))).drew.heap[bx]?=some (.cells #[.int .u64 (r1:Int)] 224 (0,0)):=heap_set HB0.out.1 0 _;have k1:Kb [bx] w (w.setCell ⟨bx,0,none⟩ (.int .u64 (r1:Int))).drew:=(HB0.out.2.setCell (p:=⟨bx,0,none⟩) (.inl (by simp)) _).drew;clear c0 f0;generalize (w.setCell ⟨bx,0,none⟩ (.int .u64 (r1:Int))).drew=W1 at hb1 k1 ⊢;have c1:W1.cell? ⟨bx,0,none⟩=some (.int .u64 (r1:Int)):=by rw[cell_at hb1];rfl
 have f1:W1.frozen? ⟨bx,0,none⟩=false:=frozen_at hb1 0;have HB1:=hide (And.intro hb1 k1);clear hb1 k1;go_wp2;go_region
 have hb2:(W1.setCell ⟨bx,0,none⟩ (.int .u64 (r2:Int))).drew.heap[bx]?=some (.cells #[.int .u64 (r2:Int)] 224 (0,0)):=heap_set HB1.out.1 0 _;have k2:Kb [bx] w (W1.setCell ⟨bx,0,none⟩ (.int .u64 (r2:Int))).drew:=(HB1.out.2.setCell (p:=⟨bx,0,none⟩) (.inl (by simp)) _).drew;clear c1 f1;generalize (W1.setCell ⟨bx,0,none⟩ (.int .u64 (r2:Int))).drew=W2 at hb2 k2 ⊢;have c2:W2.cell? ⟨bx,0,none⟩=some (.int .u64 (r2:Int)):=by rw[cell_at hb2];rfl
 have f2:W2.frozen? ⟨bx,0,none⟩=false:=frozen_at hb2 0;have HB2:=hide (And.intro hb2 k2);clear hb2 k2;go_wp2;go_region
 have hb3:(W2.setCell ⟨bx,0,none⟩ (.int .u64 (r3:Int))).drew.heap[bx]?=some (.cells #[.int .u64 (r3:Int)] 224 (0,0)):=heap_set HB2.out.1 0 _;have k3:Kb [bx] w (W2.setCell ⟨bx,0,none⟩ (.int .u64 (r3:Int))).drew:=(HB2.out.2.setCell (p:=⟨bx,0,none⟩) (.inl (by simp)) _).drew;clear c2 f2;generalize (W2.setCell ⟨bx,0,none⟩ (.int .u64 (r3:Int))).drew=W3 at hb3 k3 ⊢;have c3:W3.cell? ⟨bx,0,none⟩=some (.int .u64 (r3:Int)):=by rw[cell_at hb3];rfl
 have f3:W3.frozen? ⟨bx,0,none⟩=false:=frozen_at hb3 0;have HB3:=hide (And.intro hb3 k3);clear hb3 k3;go_wp2;go_ret
 exact⟨r3,hr3,rfl,⟨r3,hr3,HB3.out.1⟩,HB3.out.2⟩
theorem len_le:∀n:Nat,n≤40→1≤n→1≤2^Lib.bitLen n∧2^Lib.bitLen n≤2*n:=by decide
theorem len_small:∀n:Nat,n≤40→Lib.bitLen n≤6:=by decide
set_option maxRecDepth 100000 in
theorem npow_any(n:Nat)(w:World)(hn:n≤40) :
  Calls Tryz.prog 169 #[.int .i64 (n:Int)] w fun e w'=>e=.returned (.int .u64 ((2^Lib.bitLen n:Nat):Int))∧w'=w:=by
 have HL:=Tryz.bits_Len (n:Int) w (by omega) (by omega);have hs:=len_small n hn;have e0:((n:Int)).toNat=n:=by omega
 rw[e0]at HL;generalize Lib.bitLen n=k at *;go_enter Tryz.func169,Tryz.ntmps169
 go_wp2_with fail
 refine HL.mono ?_
 rintro e w1 ⟨rfl,rfl⟩;go_wp2;go_ret
 refine⟨?_,rfl⟩;have hp:(2:Nat)^k≤64:=Nat.pow_le_pow_right (n:=2) (by omega) hs;have e9:((2^k:Nat):Int)=2^k:=by simp
 have e8:IntKind.u64.wrap (2^k)=((2^k:Nat):Int):=by rw[IntKind.wrap_u64,← e9];clear e9;generalize (2:Nat)^k=P at *;omega
 simp[e8]
set_option maxRecDepth 100000 in
set_option maxHeartbeats 2000000 in
theorem sbreak_any(g cap S a b:Nat)(d:Array Nat)(w:World)(h:Rw w g S d)(hab:a+12<b)(hb:b≤d.size)(hsz:d.size≤40) :
  Calls Tryz.prog 195 #[.slice (some ⟨g,0,none⟩) d.size cap,.int .i64 a,.int .i64 b] w fun e w'=>
   e=.returned (.tuple #[])∧∃d',Rw w' g S d'∧PermIn a b d d'∧Kb [g] w w':=by
 have hgl:=h.lt;obtain⟨l,hl⟩:∃l,l=b-a:=⟨_,rfl⟩;have ez:(b:Int)-(a:Int)=(l:Int):=by omega
 obtain⟨W0,hW0⟩:∃W0,W0=w.alloc (.cells #[.int .u64 (l:Int)] 224):=⟨_,rfl⟩;have k0:Kb [] w W0:=by rw[hW0];exact(Kb.refl [] w).alloc _
 have x0:XorAt W0 w.heap.size:=⟨l,by omega,by rw[hW0];exact heap_new _ _⟩;have HN:=npow_any l W0 (by omega);obtain⟨m1,m2⟩:=len_le l (by omega) (by omega);generalize 2^Lib.bitLen l=m at *;have z1:(8:Int)≤(l:Int):=by omega
 obtain⟨q,hq⟩:∃q,q=l / 4*2:=⟨_,rfl⟩;have z3:(l:Int).tdiv 4*2=(q:Int):=by
  rw[Int.tdiv_eq_ediv_of_nonneg (by omega)];omega
 have z4:(l:Int) / 4*2=(q:Int):=by omega
 have hq2:4≤q∧q+1<l:=by omega
 have HK:=hide (And.intro k0 x0);have hl1:a+l≤b:=by omega
 have hl2:b≤a+l:=by omega
 have HQ:=hide hq;clear k0 x0 hl hq;have hwl:IntKind.u64.wrap (l:Int)=(l:Int):=by rw[IntKind.wrap_u64];omega
 go_enter Tryz.func195,Tryz.ntmps195
 go_wp2_with fail
 rw[← hW0];refine HN.mono ?_
 rintro e w1 ⟨rfl,hw1⟩;subst w1;clear hW0 HN;go_wp2_with fail
 go_loopg [9] 3 (fun k v9 wr=>∃(i:Nat) (dk:Array Nat),v9=.int .i64 (i:Int)∧a+q≤i+1∧i≤a+q+2∧a+q+2-i≤k∧dk.size=d.size∧Hid (Rw wr g S dk∧Kb [g] w wr∧XorAt wr w.heap.size∧PermIn a b d dk))
 case atStart=>exact⟨a+q-1,d,by congr 1;omega,by omega,by omega,by omega,rfl,hide ⟨h.kb HK.out.1 (by simp),HK.out.1.mono (by simp),HK.out.2,permIn_refl _ _ _⟩⟩
 case round=>
  obtain⟨i,dk,rfl,hi1,hi2,hk,hds,H⟩:=hrel;by_cases hlt:i≤a+q+1
  ·have hltz:(i:Int)≤(a:Int)+(q:Int)+1:=by omega
   have HX:=xnext_any w.heap.size wr H.out.2.2.1;go_wp2_with fail
   refine HX.mono ?_
   clear HX;rintro e w2 ⟨r,hr,rfl,hx2,kx⟩;have hnb:w.heap.size≠g:=by omega
   have H2:Hid (Rw w2 g S dk∧Kb [g] w w2∧XorAt w2 w.heap.size∧PermIn a b d dk):=by
    refine hide ⟨H.out.1.kb kx (by simp;omega),(H.out.2.1.mono (l':=[g,w.heap.size]) (by intro k _ hk;simp at hk;simp[hk])).trans (kx.mono (by intro k _ hk;simp at hk;simp[hk])) |>.mono ?_,hx2,H.out.2.2.2⟩;intro k hk hm;simp at hm ⊢;omega
   clear kx hx2;obtain⟨V,hV⟩:∃V:Nat→Nat,∀t,V t=dk[t]!:=⟨fun t=>dk[t]!,fun _=>rfl⟩;have HV:=hide hV;clear hV;have hcw:∀t,t<d.size→w2.cell? ⟨g,t,none⟩=some (.int .u64 ((V t:Nat):Int)):=fun t ht=>by rw[HV.out];exact H2.out.1.cell (by omega)
   have hfw:∀t,t<d.size→w2.frozen? ⟨g,t,none⟩=false:=fun t _=>H2.out.1.fz t
   have hm:IntKind.u64.wrap ((m:Int)-1)=((m-1:Nat):Int):=by rw[IntKind.wrap_u64];omega
   have hand:=u64_and_nat r (m-1) hr (by omega);have hle:=Nat.and_le_right (n:=r) (m:=m-1);generalize r &&& (m-1)=o at hand hle;have hwo:IntKind.i64.wrap (o:Int)=(o:Int):=by rw[IntKind.wrap_i64];omega
   have b1:(i:Int)<(d.size:Int):=by omega
   have b2:i<d.size:=by omega
   obtain⟨o2,ho2⟩:∃o2,o2=if l≤o then o-l else o:=⟨_,rfl⟩
   have ho3:o2<l:=by
    rw[ho2];split<;>omega
   have HO:=hide ho2;clear ho2;go_upto_if 43 with fail
   go_cut [10] (fun v10 wx=>v10=.int .i64 (o2:Int)∧wx=w2)
   case first=>
    by_cases hge:l≤o
    ·have hgez:(l:Int)≤(o:Int):=by omega
     go_wp2_with fail
     go_meet
     case rel=>exact⟨by rw[HO.out,if_pos hge];congr 1;omega,rfl⟩
    ·have hgez:¬(l:Int)≤(o:Int):=by omega
     go_wp2_with fail
     go_meet
     case rel=>exact⟨by rw[HO.out,if_neg hge],rfl⟩
   case rest=>
    obtain⟨rfl,hwc⟩:=hcut;subst wc;have b3:(a:Int)+(o2:Int)<(d.size:Int):=by omega
    have b4:a+o2<d.size:=by omega
    have e2:((a:Int)+(o2:Int)).toNat=a+o2:=by omega
    obtain⟨v',hy'⟩:=cell?_setCell_some (w:=w2) (p:=⟨g,i,none⟩) (x:=.int .u64 ((V (a+o2):Nat):Int)) (q:=⟨g,a+o2,none⟩) (hcw (a+o2) (by omega));go_wp2_with fail
    go_region
    all_goals go_wp2
    go_roundg (a+q+2-(i+1))
    case measure=>omega
    case rel=>
     have hx:=H2.out.1.exch H2.out.2.1 (i:=i) (j:=a+o2) (by omega) (by omega) HV.out 1;refine⟨i+1,swp dk i (a+o2),by first|rfl|(congr 1;omega),by omega,by omega,Nat.le_refl _,by rw[size_swp];exact hds,hide ⟨hx.1,hx.2,?_,permIn_trans _ _ _ _ _ H2.out.2.2.2 (swp_permIn _ _ _ _ _ (by omega) (by omega) (by omega) (by omega) (by omega))⟩⟩;obtain⟨r',hr',hh'⟩:=H2.out.2.2.1;have kk:Kb [g] w2 (((w2.drewN 1).setCell ⟨g,i,none⟩ (.int .u64 ((V (a+o2):Nat):Int))).setCell ⟨g,a+o2,none⟩ (.int .u64 ((V i:Nat):Int))):=(((Kb.refl [g] w2).drewN 1).setCell (p:=⟨g,i,none⟩) (.inl (by simp)) _).setCell (p:=⟨g,a+o2,none⟩) (.inl (by simp)) _;exact⟨r',hr',kk.heap hh' (by simp;omega)⟩
  ·have hltz:¬(i:Int)≤(a:Int)+(q:Int)+1:=by omega
   go_wp2;go_end0
   exact⟨rfl,dk,H.out.1,H.out.2.2.2,H.out.2.1⟩
end
section
open Go.RowKit Go.Sort
set_option maxRecDepth 100000 in
set_option maxHeartbeats 8000000 in
theorem spdq_any:∀(N g cap S a b limit:Nat) (d:Array Nat) (w:World),b-a<N→Rw w g S d→a≤b→b≤d.size→d.size≤40→limit≤1000→Below ltN a b d →
  Calls Tryz.prog 179 #[.slice (some ⟨g,0,none⟩) d.size cap,.int .i64 a,.int .i64 b,.int .i64 limit] w fun e w'=>
   e=.returned (.tuple #[])∧∃d',Rw w' g S d'∧PermIn a b d d'∧SortedIn ltN a b d'∧Kb [g] w w':=by
 intro N;induction N with
 |zero=>intro _ _ _ _ _ _ _ _ h;omega
 |succ N ih=>
  intro g cap S a b limit d w hN h hab hb hsz hlim hbel;go_enter Tryz.func179,Tryz.ntmps179
  go_wp2;go_loopg [1,2,3,8,9] (b-a) (fun k v1 v2 v3 v8 v9 wr=>∃(a' b' lim:Nat) (wb wp:Bool) (dk:Array Nat),v1=.int .i64 a'∧v2=.int .i64 b'∧v3=.int .i64 lim∧v8=.bool wb∧v9=.bool wp∧a≤a'∧a'≤b'∧b'≤b∧b'-a'≤k∧lim≤1000∧dk.size=d.size∧Hid (Rw wr g S dk∧Kb [g] w wr∧Rest d a b dk a' b'))
  case atStart=>exact⟨a,b,limit,true,true,d,rfl,rfl,rfl,rfl,rfl,Nat.le_refl _,hab,Nat.le_refl _,Nat.le_refl _,hlim,rfl,hide ⟨h,Kb.refl _ _,Rest.start hab hbel⟩⟩
  case round=>
   obtain⟨a',b',lim,wb,wp,dk,rfl,rfl,rfl,rfl,rfl,ha',hab',hb',hk,hl,hds,H⟩:=hrel;by_cases h12:b'-a'≤12
   ·have h12z:(b':Int)-(a':Int)≤12:=by omega
    have HC:=sins_any g cap S a' b' dk wr H.out.1 (by omega) (by omega) hab';rw[hds]at HC;go_wp2_with fail
    refine HC.mono ?_
    clear HC;rintro e w1 ⟨rfl,hw1,k1⟩;have HW:=hide (And.intro hw1 k1);clear hw1 k1;go_wp2_with fail
    (try simp only[Exit.inBlock,Exit.then])
    refine bodyPost_ret (results_none rfl _ _ _) rfl ?_
    obtain⟨p1,p2⟩:=insertionSort_holds swo_ltN dk a' b' hab' (by omega);obtain⟨q1,q2⟩:=H.out.2.2.done hb p1 p2;exact⟨rfl,_,HW.out.1,q1,q2,H.out.2.1.trans HW.out.2⟩
   ·have h12z:¬(b':Int)-(a':Int)≤12:=by omega
    by_cases hl0:lim=0
    ·have hl0z:(lim:Int)=0:=by omega
     have HC:=sheap_any g cap S a' b' dk wr H.out.1 (by omega) (by omega) (by omega);rw[hds]at HC;go_wp2_with fail
     refine HC.mono ?_
     clear HC;rintro e w1 ⟨rfl,hw1,k1⟩;have HW:=hide (And.intro hw1 k1);clear hw1 k1;go_wp2_with fail
     (try simp only[Exit.inBlock,Exit.then])
     refine bodyPost_ret (results_none rfl _ _ _) rfl ?_
     obtain⟨p1,p2⟩:=heapSort_holds swo_ltN dk a' b' hab' (by omega);obtain⟨q1,q2⟩:=H.out.2.2.done hb p1 p2;exact⟨rfl,_,HW.out.1,q1,q2,H.out.2.1.trans HW.out.2⟩
    ·have hl0z:¬(lim:Int)=0:=by omega
     go_upto_if 35 with fail
     go_cut [3] (fun v3 wc=>∃(lim:Nat) (dk:Array Nat),v3=.int .i64 lim∧lim≤1000∧dk.size=d.size∧Hid (Rw wc g S dk∧Kb [g] w wc∧Rest d a b dk a' b'))
     case first=>
      cases wb
      ·have HC:=sbreak_any g cap S a' b' dk wr H.out.1 (by omega) (by omega) (by omega);rw[hds]at HC;go_wp2_with fail
       refine HC.mono ?_
       clear HC;rintro e w1 ⟨rfl,d1,hw1,p1,k1⟩;have HW:=hide (And.intro hw1 (And.intro p1 k1));clear hw1 k1 p1;go_wp2_with fail
       go_meet
       case rel=>exact⟨lim-1,d1,by congr 1;omega,by omega,HW.out.2.1.1.trans hds,hide ⟨HW.out.1,H.out.2.1.trans HW.out.2.2,H.out.2.2.step hb HW.out.2.1⟩⟩
      ·go_wp2_with fail
       go_meet
       case rel=>exact⟨lim,dk,rfl,hl,hds,H⟩
     case rest=>
      clear H hds hl hl0 hl0z;obtain⟨lim,dk,rfl,hl,hds,H⟩:=hcut;have HP:=spivot_any g cap S a' b' dk wc H.out.1 (by omega) (by omega) (by omega) (by omega);rw[hds]at HP;go_upto_if 50 with(go_at_call 196;refine HP.mono ?_;clear HP;rintro e w2 ⟨p,t,rfl,hp1,hp2,ht,k2⟩)
      have H2:Hid (Rw w2 g S dk∧Kb [g] w w2∧Rest d a b dk a' b'):=hide ⟨H.out.1.kb k2 (by simp),H.out.2.1.trans (k2.mono (by simp)),H.out.2.2⟩;clear H k2;go_cut [11,12] (fun v11 v12 wc=>∃(p t:Nat) (dk:Array Nat),v11=.int .i64 p∧v12=.int .i64 t∧a'≤p∧p<b'∧t≤2∧dk.size=d.size∧Hid (Rw wc g S dk∧Kb [g] w wc∧Rest d a b dk a' b'))
      case first=>
       by_cases ht2:t=2
       ·have ht2z:(t:Int)=2:=by omega
        have HC:=srev_any g cap S a' b' dk w2 H2.out.1 (by omega) (by omega) (by omega);rw[hds]at HC;go_wp2_with fail
        refine HC.mono ?_
        clear HC;rintro e w3 ⟨rfl,d1,hw1,p1,k1⟩;have HW:=hide (And.intro hw1 (And.intro p1 k1));clear hw1 k1 p1;go_wp2_with fail
        go_meet
        case rel=>exact⟨b'-1-(p-a'),1,d1,by congr 1;omega,rfl,by omega,by omega,by omega,HW.out.2.1.1.trans hds,hide ⟨HW.out.1,H2.out.2.1.trans HW.out.2.2,H2.out.2.2.step hb HW.out.2.1⟩⟩
       ·have ht2z:¬(t:Int)=2:=by omega
        go_wp2_with fail
        go_meet
        case rel=>exact⟨p,t,dk,rfl,rfl,hp1,hp2,ht,hds,H2⟩
      case rest=>
       clear H2 hds hp1 hp2 ht;obtain⟨p,t,dk,rfl,rfl,hp1,hp2,ht,hds,H⟩:=hcut;go_upto_region 15 with fail
       go_cut [68] (fun v68 wx=>∃c:Bool,v68=.bool c∧Hid (Rw wx g S dk∧Kb [g] w wx∧Rest d a b dk a' b'))
       case first=>
        have ht3:t=0∨t=1∨t=2:=by omega
        rcases ht3 with rfl|rfl|rfl<;>cases wb<;>cases wp <;>
         (go_wp2_with fail
          go_meet
          exact⟨_,rfl,H⟩)
       case rest=>
        clear H;obtain⟨c,rfl,H⟩:=hcut;go_upto_if 68 with fail
        go_cut [] (fun wx=>Hid (Rw wx g S dk∧Kb [g] w wx∧Rest d a b dk a' b'))
        case first=>
         cases c
         ·go_wp2_with fail
          go_meet
          case rel=>exact H
         ·have HC:=spart_any g cap S a' b' dk wc H.out.1 (by omega) (by omega) (by omega) (by omega);rw[hds]at HC;go_wp2_with fail
          refine HC.mono ?_
          clear HC;rintro e w3 ⟨r,rfl,hr,k3⟩;have H3:Hid (Rw w3 g S dk∧Kb [g] w w3∧Rest d a b dk a' b'):=hide ⟨H.out.1.kb k3 (by simp),H.out.2.1.trans (k3.mono (by simp)),H.out.2.2⟩;have HR:=hide hr;clear H k3 hr;cases r
          ·go_wp2_with fail
           go_meet
           case rel=>exact H3
          ·go_wp2_with fail
           (try simp only[Exit.inBlock,Exit.then])
           refine bodyPost_ret (results_none rfl _ _ _) rfl ?_
           obtain⟨q1,q2⟩:=H3.out.2.2.done hb (permIn_refl _ _ _) (HR.out (by trivial));exact⟨rfl,dk,H3.out.1,q1,q2,H3.out.2.1⟩
        case rest=>
         clear H;rename Hid _=>H
         obtain⟨V,hV⟩:∃V:Nat→Nat,∀t,V t=dk[t]!:=⟨fun t=>dk[t]!,fun _=>rfl⟩;have HV:=hide hV;clear hV;have hcw:∀t,t<d.size→wc.cell? ⟨g,t,none⟩=some (.int .u64 ((V t:Nat):Int)):=fun t ht=>by rw[HV.out];exact H.out.1.cell (by omega)
         go_upto_region 17 with fail
         go_cut [87] (fun v87 wx=>v87=.bool (decide (0<a') && !ltN (V (a'-1)) (V p))∧Hid (Rw wx g S dk∧Kb [g] w wx∧Rest d a b dk a' b'))
         case first=>
          have hq:Hid (∀q,Rw (wc.drewN q) g S dk∧Kb [g] w (wc.drewN q)∧Rest d a b dk a' b'):=hide (fun q=>⟨H.out.1.kb ((Kb.refl [] wc).drewN q) (by simp),H.out.2.1.drewN q,H.out.2.2⟩);rcases Nat.eq_zero_or_pos a' with ha0|ha0
          ·have ha0z:decide ((a':Int) > 0)=false:=decide_eq_false (by omega);go_quiet (first|(go_at_call 199;refine Calls.quiet_of_same (less_any _ _ _)))
           go_wp2_with fail
           go_meet
           case rel=>exact⟨by simp[ha0],hide (hq.out nq)⟩
          ·have ha0z:(a':Int) > 0:=by omega
           have b1:(a':Int)-1<(d.size:Int):=by omega
           have b2:a'-1<d.size:=by omega
           have b3:(0:Int)≤(a':Int)-1:=by omega
           have b4:((a':Int)-1).toNat=a'-1:=by omega
           have b5:(p:Int)<(d.size:Int):=by omega
           have b6:p<d.size:=by omega
           go_quiet (first|(go_at_call 199;refine Calls.quiet_of_same (less_any _ _ _)))
           go_wp2_with fail
           go_meet
           case rel=>exact⟨by simp[ha0],hide (hq.out nq)⟩
         case rest=>
          clear H hcw;obtain⟨rfl,H⟩:=hcut;cases h87:(decide (0<a') && !ltN (V (a'-1)) (V p))
          ·have HC:=sprt_any g cap S a' b' p dk wc H.out.1 hp1 hp2 (by omega) (by omega);rw[hds]at HC;go_upto_if 113 with(go_at_call 201;refine HC.mono ?_;clear HC;rintro e w3 ⟨mid,al,d4,rfl,hw3,k3,m1,m2,m3,m4,m5⟩)
           have H3:Hid (Rw w3 g S d4∧Kb [g] w w3):=hide ⟨hw3,H.out.2.1.trans k3⟩;have hd4:=m3.1;have HM:=hide (And.intro m3 (And.intro m4 m5));clear hw3 k3 m3 m4 m5;by_cases h4:mid-a'<b'-mid
           ·have h4z:(mid:Int)-(a':Int)<(b':Int)-(mid:Int):=by omega
            have HI:=ih g cap S a' mid lim d4 w3 (by omega) H3.out.1 m1 (by omega) (by omega) hl (H.out.2.2.belL hb m2 HM.out.1);rw[hd4,hds]at HI;go_wp2_with fail
            refine HI.mono ?_
            clear HI;rintro e w4 ⟨rfl,dL,hw4,p4,s4,k4⟩;have H4:=hide (And.intro hw4 (And.intro p4 (And.intro s4 k4)));clear hw4 p4 s4 k4;go_wp2;go_roundg (b'-(mid+1))
            case measure=>omega
            case rel=>exact⟨mid+1,b',lim,_,al,dL,by first|rfl|(congr 1;omega),rfl,rfl,rfl,rfl,by omega,by omega,by omega,Nat.le_refl _,hl,by rw[H4.out.2.1.1,hd4,hds],hide ⟨H4.out.1,H3.out.2.trans H4.out.2.2.2,H.out.2.2.left hb m1 m2 HM.out.1 HM.out.2.1 HM.out.2.2 H4.out.2.1 H4.out.2.2.1⟩⟩
           ·have h4z:¬(mid:Int)-(a':Int)<(b':Int)-(mid:Int):=by omega
            have HI:=ih g cap S (mid+1) b' lim d4 w3 (by omega) H3.out.1 m2 (by omega) (by omega) hl (belR HM.out.2.2);rw[hd4,hds,show((mid+1:Nat):Int)=(mid:Int)+1 by omega]at HI;go_wp2_with fail
            refine HI.mono ?_
            clear HI;rintro e w4 ⟨rfl,dL,hw4,p4,s4,k4⟩;have H4:=hide (And.intro hw4 (And.intro p4 (And.intro s4 k4)));clear hw4 p4 s4 k4;go_wp2;go_roundg (mid-a')
            case measure=>omega
            case rel=>exact⟨a',mid,lim,_,al,dL,rfl,rfl,rfl,rfl,rfl,by omega,by omega,by omega,Nat.le_refl _,hl,by rw[H4.out.2.1.1,hd4,hds],hide ⟨H4.out.1,H3.out.2.trans H4.out.2.2.2,H.out.2.2.right hb m1 m2 HM.out.1 HM.out.2.1 HM.out.2.2 H4.out.2.1 H4.out.2.2.1⟩⟩
          ·have h87':0<a'∧V p≤V (a'-1):=by
            simp only[Bool.and_eq_true,decide_eq_true_eq,Bool.not_eq_true']at h87;exact⟨h87.1,ltN_false.1 h87.2⟩
           rw[HV.out,HV.out]at h87';have HC:=speq_any g cap S a' b' p dk wc H.out.1 hp1 hp2 (by omega) (by omega);rw[hds]at HC;go_wp2_with fail
           refine HC.mono ?_
           clear HC;rintro e w3 ⟨mid,d4,rfl,hw3,k3,m1,m2,m3,m4,m5⟩;have H3:Hid (Rw w3 g S d4∧Kb [g] w w3∧Rest d a b d4 mid b'):=hide ⟨hw3,H.out.2.1.trans k3,H.out.2.2.eq hb h87'.1 h87'.2 m1 m2 m3 m4 m5⟩;have hd4:=m3.1;clear hw3 k3 m3 m4 m5;go_wp2;go_roundg (b'-mid)
           case measure=>omega
           case rel=>exact⟨mid,b',lim,wb,wp,d4,rfl,rfl,rfl,rfl,rfl,by omega,m2,hb',Nat.le_refl _,hl,hd4.trans hds,H3⟩
end
section
open Go.RowKit Go.Sort
theorem OwnN.rw{w:World}{B g cap:Nat}{xs:List Nat}(h:OwnN w B (.slice (some ⟨g,0,none⟩) xs.length cap) xs):Rw w g cap xs.toArray∧B≤g∧xs.length≤cap∧cap≤maxLen:=by
 rcases h.1.2 with⟨e,_⟩|⟨g',cap',cur,e,h1,h2,h3,h4,h5,h6⟩
 ·cases e
 ·injection e with e1 e2 e3;injection e1 with e1;injection e1 with e1;subst e1 e3;rw[Nat.mul_one]at h5 h6;refine⟨⟨cur,h2,h5,by simpa using h3,fun t ht=>?_⟩,h1,h3,h4⟩;have ht2:t<xs.length:=by simpa using ht
  have e9:(u64s xs)[t]?=some (.int .u64 ((xs[t]:Nat):Int)):=u64s_get (List.getElem?_eq_getElem ht2);rw[← h6,List.getElem?_take_of_lt ht2,Array.getElem?_toList]at e9;rw[e9];simp[ht2]
theorem Rw.own{w:World}{B g cap:Nat}{d:Array Nat}(h:Rw w g cap d)(hB:B≤g)(h1:d.size≤cap)(h2:cap≤maxLen)(h3:∀x∈d.toList,x<18446744073709551616):OwnN w B (.slice (some ⟨g,0,none⟩) d.toList.length cap) d.toList:=by
 obtain⟨cs,a1,a2,a3,a4⟩:=h.ex;refine⟨⟨by rw[u64s_len,Nat.mul_one],.inr ⟨g,cap,cs,rfl,hB,a1,by simpa using h1,h2,by rw[a2,Nat.mul_one],?_⟩⟩,h3⟩;apply List.ext_getElem?;intro t;rw[Nat.mul_one];by_cases ht:t<d.toList.length
 ·rw[List.getElem?_take_of_lt ht,Array.getElem?_toList,a4 t (by simpa using ht)];have e9:(u64s d.toList)[t]?=some (.int .u64 ((d.toList[t]:Nat):Int)):=u64s_get (List.getElem?_eq_getElem ht);rw[e9];have ht2:t<d.size:=by simpa using ht
  simp[ht2]
 ·rw[List.getElem?_eq_none (by rw[List.length_take];omega),List.getElem?_eq_none (by rw[u64s_len];omega)]
set_option maxRecDepth 100000 in
theorem sins_nil(w:World):Calls Tryz.prog 193 #[.slice none 0 0,.int .i64 0,.int .i64 0] w fun e w'=>e=.returned (.tuple #[])∧w'=w:=by
 go_enter Tryz.func193,Tryz.ntmps193
 go_wp2;go_loopg [6] 1 (fun k vi wr=>vi=.int .i64 1∧wr=w)
 case atStart=>exact⟨rfl,rfl⟩
 case round=>
  obtain⟨rfl,hw⟩:=hrel;subst wr;go_wp2;go_end0
  exact⟨rfl,rfl⟩
set_option maxRecDepth 100000 in
theorem spdq_nil(w:World)(lim:Nat):Calls Tryz.prog 179 #[.slice none 0 0,.int .i64 0,.int .i64 0,.int .i64 lim] w fun e w'=>e=.returned (.tuple #[])∧w'=w:=by
 go_enter Tryz.func179,Tryz.ntmps179
 go_wp2;go_loopg [1,2,3,8,9] 1 (fun k v1 v2 v3 v8 v9 wr=>v1=.int .i64 0∧v2=.int .i64 0∧wr=w)
 case atStart=>exact⟨rfl,rfl,rfl⟩
 case round=>
  obtain⟨rfl,rfl,hw⟩:=hrel;subst wr;have HC:=sins_nil w;go_wp2_with fail
  refine HC.mono ?_
  clear HC;rintro e w1 ⟨rfl,hw1⟩;subst w1;go_wp2_with fail
  (try simp only[Exit.inBlock,Exit.then])
  refine bodyPost_ret (results_none rfl _ _ _) rfl ?_
  exact⟨rfl,rfl⟩
theorem sorted_nat{d d':Array Nat}(h1:PermIn 0 d.size d d')(h2:SortedIn ltN 0 d.size d'):d'.toList=d.toList.mergeSort (·≤·):=by
 have:=sorted_unique_holds (lt:=ltN) swo_ltN (by intro x y;simp[ltN];omega) d d' h1 h2;rw[this];congr 1
 funext x y
 unfold ltN;by_cases e:y<x
 ·simp[e,Nat.not_le.2 e]
 ·simp[e,Nat.le_of_not_lt e]
set_option maxRecDepth 100000 in
set_option maxHeartbeats 1000000 in
theorem sort_ok(B:Nat):SortOK B:=by
 intro v xs w h hl;have HL:=Tryz.bits_Len (xs.length:Int) w (by omega) (by omega);have hs:=len_small xs.length hl;have e0:((xs.length:Int)).toNat=xs.length:=by omega
 rw[e0]at HL;generalize Lib.bitLen xs.length=k at *;rcases h.1.2 with⟨rfl,hn⟩|⟨g,cap,cur,rfl,_⟩
 ·have hx:xs=[]:=List.eq_nil_of_length_eq_zero hn;subst hx;have HP:=spdq_nil w k;simp only[List.length_nil]at HL;go_enter Tryz.func155,Tryz.ntmps155
  go_wp2_with fail
  refine HL.mono ?_
  clear HL;rintro e w1 ⟨rfl,hw1⟩;subst w1;go_wp2_with fail
  refine HP.mono ?_
  clear HP;rintro e w1 ⟨rfl,hw1⟩;subst w1;go_wp2;go_end0
  exact⟨rfl,by rw[List.mergeSort_nil];exact h,Kb.refl _ _⟩
 ·obtain⟨hR,hB,h1,h2⟩:=h.rw;have hlt:=h.2;have HP:=spdq_any (xs.length+1) g cap cap 0 xs.length k xs.toArray w (by omega) hR (Nat.zero_le _) (by simp) (by simpa using hl) (by omega) (.inl rfl);rw[show xs.toArray.size=xs.length by simp]at HP;have HLT:=hide hlt;clear hR h hlt;go_enter Tryz.func155,Tryz.ntmps155
  go_wp2_with fail
  refine HL.mono ?_
  clear HL;rintro e w1 ⟨rfl,hw1⟩;subst w1;go_wp2_with fail
  refine HP.mono ?_
  clear HP;rintro e w2 ⟨rfl,d',hR,hp,hso,hk⟩;have HH:=hide (And.intro hR (And.intro hp (And.intro hso hk)));clear hR hp hso hk;go_wp2;go_end0
  obtain⟨hR,hp,hso,hk⟩:=HH.out;have es:d'.toList=xs.mergeSort (·≤·):=sorted_nat (d:=xs.toArray) (by simpa using hp) (by simpa using hso);have el:d'.toList.length=xs.length:=by rw[es,List.length_mergeSort]
  have ho:=hR.own hB (by rw[← Array.length_toList,el];exact h1) h2 (fun x hx=>HLT.out x (by rw[es]at hx;exact List.mem_mergeSort.1 hx));rw[el,es]at ho;exact⟨rfl,ho,hk⟩
end
end Go.Proofs.YtiamlbhkiehilaaGreatDoor
