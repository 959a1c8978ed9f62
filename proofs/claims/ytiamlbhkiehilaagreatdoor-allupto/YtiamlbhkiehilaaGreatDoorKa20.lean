import Derived.Test.YtiamlbhkiehilaaGreatDoorKa02
open List renaming mem_cons_self→Bx,mem_cons_of_mem→C1,append_nil→JK,mergeSort_perm→NZ
open Nat renaming le_refl→gO
namespace Go.Proofs.YtiamlbhkiehilaaGreatDoor
section
def WU(n:Nat)(s a:St):Prop:=WF n a∧s.un≤a.un
theorem WU.refl{n:Nat}{s:St}(h:WF n s):WU n s s:=⟨h,gO _⟩
theorem WU.trans{n:Nat}{a b c:St}(h:WU n a b)(k:WU n b c):WU n a c:=⟨k.1,Nat.le_trans h.2 k.2⟩
variable {n:Nat} {s:St}
theorem St.j1(s:St)(o:Int):(s.letIn o).un=s.un:=by unfold St.letIn;split<;>rfl
theorem St.kc(s:St)(i j:Nat):(s.fuse i j).un=s.un:=rfl
theorem St.j4(s:St)(j:Nat):(s.clear j).un=s.un+1:=by unfold St.clear;simp only[St.drop];simp[List.range,List.range.loop,St.put]
theorem WF.jw(h:WF n s){a b:Nat}(c:a<n)(d:b<n):WU n s (s.merge a b).2:=by
 refine⟨h.merge c d,?_⟩;unfold St.merge;split
 ·exact gO _
 ·simp only[];rw[St.j4,St.wait_un,St.kc];omega
theorem WF.ki(h:WF n s)(c:Way){f j:Nat}(b:f<n)(d:j<n):WU n s (s.link c f j):=by
 refine⟨h.link b d,?_⟩;unfold St.link;simp only[];have e:(s.addAt (7*s.rep f+2) (s.rep j)).un=s.un:=rfl;by_cases a:(s.rep f == s.rep j || (s.hr (s.rep f)).contains (s.rep j))=true
 ·rw[if_pos a];exact gO _
 ·rw[if_neg a];generalize (if c.deltas=true then(s.addAt (7*s.rep f+2) (s.rep j)).hd (s.rep f)else(s.addAt (7*s.rep f+2) (s.rep j)).tg (s.rep f))=g;split
  ·exact Nat.le_of_eq e.symm
  ·rw[St.ir];omega
theorem qN{α:Type}{f:St→α→St}{P:α→Prop}(b:∀s x,WF n s→P x→WU n s (f s x)):∀(l:List α) (s:St),WF n s→(∀x,x∈l→P x)→WU n s (l.foldl f s):=by
 intro l;induction l with
 |nil=>exact fun _ h _=>WU.refl h
 |cons x r c=>exact fun s h a=>(b s x h (a x Bx)).trans (c _ (b s x h (a x Bx)).1 (fun y d=>a y (C1 _ d)))
theorem wY{α:Type}{f:Bool × St→α→Bool × St}{P:α→Prop}(b:∀s x,WF n s.2→P x→WU n s.2 (f s x).2):∀(l:List α) (s:Bool × St),WF n s.2→(∀x,x∈l→P x)→WU n s.2 (l.foldl f s).2:=by
 intro l;induction l with
 |nil=>exact fun _ h _=>WU.refl h
 |cons x r c=>exact fun s h a=>(b s x h (a x Bx)).trans (c _ (b s x h (a x Bx)).1 (fun y d=>a y (C1 _ d)))
theorem WF.ix(h:WF n s){a:Nat}(c:a<n){l:List Nat}(d:∀x,x∈l→x<n):WU n s (s.mergeAll a l).2:=
 wY (f:=fun x b=>let y:=x.2.merge a b;(y.1 || x.1,y.2)) (P:=(· < n)) (fun _ _ e g=>e.jw c g) l (false,s) h d
theorem WF.jv(h:WF n s)(m:Nat){T:List Nat}(a:∀x,x∈T→x<n):WU n s (s.collapse m T).2:=
 wY (f:=fun x t=>let y:=x.2.mergeAll t (s.tw m);(y.1 || x.1,y.2)) (P:=(· < n)) (fun _ _ c d=>c.ix d (fun b e=>h.bd _ b e)) T (false,s) h a
theorem WF.km(h:WF n s)(c:Way)(m:Nat){t:Nat}(e:t<n):WU n s (s.links c m t):=by unfold St.links;simp only[];have a:=qN (f:=fun s p=>s.link c t p) (P:=(· < n)) (fun s p b g=>b.ki c e g) (s.ld m) s h (fun x d=>h.bd _ x d);exact a.trans (qN (f:=fun s q=>s.link c q t) (P:=(· < n)) (fun s q b i=>b.ki c i e) _ _ a.1 (fun x d=>a.1.bd _ x d))
theorem WF.gp(h:WF n s){m x:Nat}(a:x∈s.heirsOf m):x<n:=by obtain⟨_,_,y,b,e⟩:=fI.1 a;rw[← e];exact h.lt (h.bd _ y b)
theorem WF.kg(h:WF n s)(c:Way){m:Nat}(l:m<n):WU n s (s.work c m):=by
 unfold St.work;simp only[];have e:∀x,x∈qZ (s.tg m) (s.hd m)→x<n:=fun x a=>h.bd _ x (pN.1 a).2.1
 generalize qZ (s.tg m) (s.hd m)=b at *;split
 ·exact WU.refl h
 ·have d:=h.jv m e;split
  ·exact d.trans ⟨d.1.wait (d.1.lt l),by rw[St.wait_un];exact gO _⟩
  ·have i:=qN (f:=fun s t=>s.links c m t) (P:=(· < n)) (fun s t j p=>j.km c m p) b _ d.1 e;generalize b.foldl (fun s t=>s.links c m t) (s.collapse m b).2=g at *;have k:=qN (f:=fun s h=>s.hand c b m h) (P:=(· < n)) (fun s x j a=>⟨j.hand l a e,by rw[St.ir];omega⟩) (g.heirsOf m) g i.1 (fun x a=>i.1.gp a);generalize (g.heirsOf m).foldl (fun s h=>s.hand c b m h) g=q at *;have o:=(d.trans i).trans k;split
   ·refine o.trans ⟨k.1.put (by omega) (fun x a=>?_),gO _⟩;rcases(bR.1 a).2 with a|a
    ·exact k.1.bd _ x a
    ·exact e x a
   ·exact o
theorem WF.jy(h:WF n s)(o:Int):WU n s (s.letIn o):=by
 refine⟨?_,by rw[St.j1];exact gO _⟩;unfold St.letIn;split
 ·exact h
 ·refine⟨h.hn,h.len,?_,fun x a=>?_,h.inb,h.bd,h.sus,h.rep⟩
  ·simp only[JK];split
   ·exact(NZ _ _).nodup_iff.2 h.nd
   ·exact h.nd
  ·simp only[JK]at a;refine h.ins x ?_
   split at a
   ·exact(NZ _ _).mem_iff.1 a
   ·exact a
theorem Fd{o:Int}{m:Nat}{b:St}(h:s.next o=(some m,b)):m∈(s.letIn o).now∧b=(s.letIn o).drop m:=by
 unfold St.next at h
 simp only[]at h;split at h
 ·cases h
 ·rename_i x r d;injection h with a e;injection a with a;refine⟨?_,by rw[← e,a]⟩;rw[d,← a];split
  ·rw[List.getLastD_eq_getLast?];have c:(x::r)≠[]:=by simp
   rw[List.getLast?_eq_some_getLast c];exact List.getLast_mem c
  ·exact Bx
theorem WF.kh(h:WF n s)(o:Int):WU n s (s.next o).2:=by
 have a:=h.jy o;unfold St.next
 simp only[];split
 ·exact a
 ·exact a.trans ⟨a.1.drop _,gO _⟩
theorem WF.jr(h:WF n s){o:Int}{m:Nat}{b:St}(e:s.next o=(some m,b)):m<n:=by have a:=(h.jy o).1;exact a.inb m (a.ins m (List.mem_append_left _ (Fd e).1))
theorem An{α:Type}{f:St→α→Option St}{P:α→Prop}(i:∀s x a,WF n s→P x→f s x=some a→WU n s a):∀(l:List α) (s a:St),WF n s→(∀x,x∈l→P x)→St.foldO f s l=some a→WU n s a:=by
 intro l;induction l with
 |nil=>intro s a h _ e;cases e;exact WU.refl h
 |cons x r j=>
  intro s a h c e;unfold St.foldO at e;cases b:f s x with
  |none=>rw[b]at e;cases e
  |some d=>rw[b]at e;have g:=i s x d h (c x Bx) b;exact g.trans (j d a g.1 (fun y k=>c y (C1 _ k)) e)
theorem WF.ju(h:WF n s){k a:Nat}(g:a<n){b:St}(e:s.lookStep k a=some b):WU n s b:=by
 unfold St.lookStep at e;simp only[]at e;have j:WF n { s with susp:=gR a s.susp }:=h.susp (fun i o=>h.sus i (iN.1 o).2.2);generalize p:({ s with susp:=gR a s.susp }:St)=c at *;have t:c.un=s.un:=by rw[← p]
 cases d:fT k a c.heirsOf with
 |none=>rw[d]at e;cases e
 |some l=>rw[d]at e;injection e with e;have q:=lH (P:=(· < n)) d g (fun x y r=>j.gp r);have f:=j.ix g q;rw[show(c.mergeAll a l).2=b from e]at f;exact⟨f.1,by have:=f.2;omega⟩
theorem WF.jx(h:WF n s){k:Nat}{a:St}(e:s.lookForCycles k=some a):WU n s a:=
 An (P:=(· < n)) (fun _ _ _ b c e=>b.ju c e) s.susp s a h h.sus e
theorem WF.iz{k:Nat}{c:Way}:∀(j:Nat) {s b:St},WF n s→St.solveL k c j s=some b→WU n s b:=by
 intro j;induction j with
 |zero=>intro s b _ e;cases e
 |succ j l=>
  intro s b h e;unfold St.solveL at e;have a:=h.kh c.order;cases f:s.next c.order with
  |mk o p=>
   rw[f]at e a;cases o with
   |none=>cases e;exact a
   |some m=>
    simp only[]at e a;have g:=a.1.kg c (h.jr f);cases d:St.lookForCycles k (p.work c m)with
    |none=>rw[d]at e;cases e
    |some q=>rw[d]at e;have i:=g.1.jx d;exact((a.trans g).trans i).trans (l i.1 e)
end
end Go.Proofs.YtiamlbhkiehilaaGreatDoor
