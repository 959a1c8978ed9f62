import Derived.Test.YtiamlbhkiehilaaGreatDoorKq03
import Derived.Test.YtiamlbhkiehilaaGreatDoorKq01
namespace Go.Proofs.YtiamlbhkiehilaaGreatDoor
section
def WU(n:Nat)(s s':St):Prop:=WF n s'∧s.un≤s'.un
theorem WU.refl{n:Nat}{s:St}(h:WF n s):WU n s s:=⟨h,Nat.le_refl _⟩
theorem WU.trans{n:Nat}{a b c:St}(h:WU n a b)(k:WU n b c):WU n a c:=⟨k.1,Nat.le_trans h.2 k.2⟩
variable {n:Nat} {s:St}
theorem St.letIn_un(s:St)(o:Int):(s.letIn o).un=s.un:=by unfold St.letIn;split<;>rfl
theorem St.fuse_un(s:St)(i j:Nat):(s.fuse i j).un=s.un:=rfl
theorem St.clear_un(s:St)(j:Nat):(s.clear j).un=s.un+1:=by
 unfold St.clear;simp only[St.drop];simp[List.range,List.range.loop,St.put]
theorem WF.wmerge(h:WF n s){a b:Nat}(ha:a<n)(hb:b<n):WU n s (s.merge a b).2:=by
 refine⟨h.merge ha hb,?_⟩;unfold St.merge;split
 ·exact Nat.le_refl _
 ·simp only[];rw[St.clear_un,St.wait_un,St.fuse_un];omega
theorem WF.wlink(h:WF n s)(c:Way){f j:Nat}(hf:f<n)(hj:j<n):WU n s (s.link c f j):=by
 refine⟨h.link hf hj,?_⟩;unfold St.link;simp only[];have e:(s.addAt (7*s.rep f+2) (s.rep j)).un=s.un:=rfl;by_cases h1:(s.rep f == s.rep j || (s.hr (s.rep f)).contains (s.rep j))=true
 ·rw[if_pos h1];exact Nat.le_refl _
 ·rw[if_neg h1];generalize (if c.deltas=true then(s.addAt (7*s.rep f+2) (s.rep j)).hd (s.rep f)else(s.addAt (7*s.rep f+2) (s.rep j)).tg (s.rep f))=now;split
  ·exact Nat.le_of_eq e.symm
  ·rw[St.hand_un];omega
theorem foldl_wu{α:Type}{f:St→α→St}{P:α→Prop}(hf:∀s x,WF n s→P x→WU n s (f s x)):∀(l:List α) (s:St),WF n s→(∀x,x∈l→P x)→WU n s (l.foldl f s):=by
 intro l;induction l with
 |nil=>exact fun _ h _=>WU.refl h
 |cons x r ih=>exact fun s h hp=>(hf s x h (hp x List.mem_cons_self)).trans (ih _ (hf s x h (hp x List.mem_cons_self)).1 (fun y hy=>hp y (List.mem_cons_of_mem _ hy)))
theorem foldl_wu2{α:Type}{f:Bool × St→α→Bool × St}{P:α→Prop}(hf:∀s x,WF n s.2→P x→WU n s.2 (f s x).2):∀(l:List α) (s:Bool × St),WF n s.2→(∀x,x∈l→P x)→WU n s.2 (l.foldl f s).2:=by
 intro l;induction l with
 |nil=>exact fun _ h _=>WU.refl h
 |cons x r ih=>exact fun s h hp=>(hf s x h (hp x List.mem_cons_self)).trans (ih _ (hf s x h (hp x List.mem_cons_self)).1 (fun y hy=>hp y (List.mem_cons_of_mem _ hy)))
theorem WF.wmergeAll(h:WF n s){a:Nat}(ha:a<n){l:List Nat}(hl:∀x,x∈l→x<n):WU n s (s.mergeAll a l).2:=
 foldl_wu2 (f:=fun x b=>let y:=x.2.merge a b;(y.1 || x.1,y.2)) (P:=(· < n)) (fun _ _ hs hx=>hs.wmerge ha hx) l (false,s) h hl
theorem WF.wcollapse(h:WF n s)(m:Nat){T:List Nat}(hT:∀x,x∈T→x<n):WU n s (s.collapse m T).2:=
 foldl_wu2 (f:=fun x t=>let y:=x.2.mergeAll t (s.tw m);(y.1 || x.1,y.2)) (P:=(· < n)) (fun _ _ hs ht=>hs.wmergeAll ht (fun b hb=>h.bd _ b hb)) T (false,s) h hT
theorem WF.wlinks(h:WF n s)(c:Way)(m:Nat){t:Nat}(ht:t<n):WU n s (s.links c m t):=by
 unfold St.links;simp only[];have h1:=foldl_wu (f:=fun s p=>s.link c t p) (P:=(· < n)) (fun s p hs hp=>hs.wlink c ht hp) (s.ld m) s h (fun x hx=>h.bd _ x hx);exact h1.trans (foldl_wu (f:=fun s q=>s.link c q t) (P:=(· < n)) (fun s q hs hq=>hs.wlink c hq ht) _ _ h1.1 (fun x hx=>h1.1.bd _ x hx))
theorem WF.heirsLt(h:WF n s){m x:Nat}(hx:x∈s.heirsOf m):x<n:=by
 obtain⟨_,_,y,hy,e⟩:=mem_heirsOf.1 hx;rw[← e];exact h.lt (h.bd _ y hy)
theorem WF.wwork(h:WF n s)(c:Way){m:Nat}(hm:m<n):WU n s (s.work c m):=by
 unfold St.work;simp only[];have hfr:∀x,x∈subS (s.tg m) (s.hd m)→x<n:=fun x hx=>h.bd _ x (mem_subS.1 hx).2.1
 generalize subS (s.tg m) (s.hd m)=fr at *;split
 ·exact WU.refl h
 ·have h0:=h.wcollapse m hfr;split
  ·exact h0.trans ⟨h0.1.wait (h0.1.lt hm),by rw[St.wait_un];exact Nat.le_refl _⟩
  ·have h1:=foldl_wu (f:=fun s t=>s.links c m t) (P:=(· < n)) (fun s t hs ht=>hs.wlinks c m ht) fr _ h0.1 hfr;generalize fr.foldl (fun s t=>s.links c m t) (s.collapse m fr).2=s1 at *;have h2:=foldl_wu (f:=fun s h=>s.hand c fr m h) (P:=(· < n)) (fun s x hs hx=>⟨hs.hand hm hx hfr,by rw[St.hand_un];omega⟩) (s1.heirsOf m) s1 h1.1 (fun x hx=>h1.1.heirsLt hx);generalize (s1.heirsOf m).foldl (fun s h=>s.hand c fr m h) s1=s2 at *;have h3:=(h0.trans h1).trans h2;split
   ·refine h3.trans ⟨h2.1.put (by omega) (fun x hx=>?_),Nat.le_refl _⟩;rcases(mem_uniS.1 hx).2 with hx|hx
    ·exact h2.1.bd _ x hx
    ·exact hfr x hx
   ·exact h3
theorem WF.wletIn(h:WF n s)(o:Int):WU n s (s.letIn o):=by
 refine⟨?_,by rw[St.letIn_un];exact Nat.le_refl _⟩;unfold St.letIn;split
 ·exact h
 ·refine⟨h.hn,h.len,?_,fun x hx=>?_,h.inb,h.bd,h.sus,h.rep⟩
  ·simp only[List.append_nil];split
   ·exact(List.mergeSort_perm _ _).nodup_iff.2 h.nd
   ·exact h.nd
  ·simp only[List.append_nil]at hx;refine h.ins x ?_
   split at hx
   ·exact(List.mergeSort_perm _ _).mem_iff.1 hx
   ·exact hx
theorem next_mem{o:Int}{m:Nat}{s':St}(h:s.next o=(some m,s')):m∈(s.letIn o).now∧s'=(s.letIn o).drop m:=by
 unfold St.next at h
 simp only[]at h;split at h
 ·cases h
 ·rename_i x r hx;injection h with h1 h2;injection h1 with h1;refine⟨?_,by rw[← h2,h1]⟩;rw[hx,← h1];split
  ·rw[List.getLastD_eq_getLast?];have hne:(x::r)≠[]:=by simp
   rw[List.getLast?_eq_some_getLast hne];exact List.getLast_mem hne
  ·exact List.mem_cons_self
theorem WF.wnext(h:WF n s)(o:Int):WU n s (s.next o).2:=by
 have h1:=h.wletIn o;unfold St.next
 simp only[];split
 ·exact h1
 ·exact h1.trans ⟨h1.1.drop _,Nat.le_refl _⟩
theorem WF.next_lt(h:WF n s){o:Int}{m:Nat}{s':St}(e:s.next o=(some m,s')):m<n:=by
 have h1:=(h.wletIn o).1;exact h1.inb m (h1.ins m (List.mem_append_left _ (next_mem e).1))
theorem foldO_wu{α:Type}{f:St→α→Option St}{P:α→Prop}(hf:∀s x s',WF n s→P x→f s x=some s'→WU n s s'):∀(l:List α) (s s':St),WF n s→(∀x,x∈l→P x)→St.foldO f s l=some s'→WU n s s':=by
 intro l;induction l with
 |nil=>intro s s' h _ e;cases e;exact WU.refl h
 |cons x r ih=>
  intro s s' h hp e;unfold St.foldO at e;cases e1:f s x with
  |none=>rw[e1]at e;cases e
  |some s1=>
   rw[e1]at e;have h1:=hf s x s1 h (hp x List.mem_cons_self) e1;exact h1.trans (ih s1 s' h1.1 (fun y hy=>hp y (List.mem_cons_of_mem _ hy)) e)
theorem WF.wlookStep(h:WF n s){k a:Nat}(ha:a<n){s':St}(e:s.lookStep k a=some s'):WU n s s':=by
 unfold St.lookStep at e;simp only[]at e;have h1:WF n { s with susp:=delS a s.susp }:=h.susp (fun i hi=>h.sus i (mem_delS.1 hi).2.2);generalize hs1:({ s with susp:=delS a s.susp }:St)=s1 at *;have hu:s1.un=s.un:=by rw[← hs1]
 cases hl:around k a s1.heirsOf with
 |none=>rw[hl]at e;cases e
 |some l=>
  rw[hl]at e;injection e with e;have hbd:=around_bd (P:=(· < n)) hl ha (fun x y hy=>h1.heirsLt hy);have h2:=h1.wmergeAll ha hbd;rw[show(s1.mergeAll a l).2=s' from e]at h2;exact⟨h2.1,by have:=h2.2;omega⟩
theorem WF.wlook(h:WF n s){k:Nat}{s':St}(e:s.lookForCycles k=some s'):WU n s s':=
 foldO_wu (P:=(· < n)) (fun _ _ _ hs hx e=>hs.wlookStep hx e) s.susp s s' h h.sus e
theorem WF.wsolveL{k:Nat}{c:Way}:∀(j:Nat) {s s':St},WF n s→St.solveL k c j s=some s'→WU n s s':=by
 intro j;induction j with
 |zero=>intro s s' _ e;cases e
 |succ j ih=>
  intro s s' h e;unfold St.solveL at e;have h1:=h.wnext c.order;cases hx:s.next c.order with
  |mk o s1=>
   rw[hx]at e h1;cases o with
   |none=>cases e;exact h1
   |some m=>
    simp only[]at e h1;have h2:=h1.1.wwork c (h.next_lt hx);cases h3:St.lookForCycles k (s1.work c m)with
    |none=>rw[h3]at e;cases e
    |some s2=>
     rw[h3]at e;have h4:=h2.1.wlook h3;exact((h1.trans h2).trans h4).trans (ih h4.1 e)
end
end Go.Proofs.YtiamlbhkiehilaaGreatDoor
