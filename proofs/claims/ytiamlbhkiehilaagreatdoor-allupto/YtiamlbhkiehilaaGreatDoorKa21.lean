import Derived.Test.YtiamlbhkiehilaaGreatDoorKa20
open List renaming getD_eq_getElem?_getD→E1
namespace Go.Proofs.YtiamlbhkiehilaaGreatDoor
section
def cG(s:St):Prop:=s.susp=[]∧∀i,s.tw i=[]
theorem Hi{s:St}{k:Nat}{t:List Nat}(a:k % 7≠5)(i:Nat):(s.put k t).tw i=s.tw i:=by unfold St.tw St.put;simp only[E1];rw[List.getElem?_set_ne (by omega)]
theorem cG.put{s:St}(h:cG s){k:Nat}{t:List Nat}(a:k % 7≠5):cG (s.put k t):=⟨h.1,fun i=>by rw[Hi a];exact h.2 i⟩
theorem cG.wait{s:St}(h:cG s)(m:Nat):cG (s.wait m):=by
 unfold St.wait;split
 ·exact h
 ·exact⟨h.1,h.2⟩
theorem cG.drop{s:St}(h:cG s)(m:Nat):cG (s.drop m):=⟨h.1,h.2⟩
theorem cG.letIn{s:St}(h:cG s)(o:Int):cG (s.letIn o):=by
 unfold St.letIn;split
 ·exact h
 ·exact⟨h.1,h.2⟩
theorem cG.next{s:St}(h:cG s)(o:Int):cG (s.next o).2:=by
 unfold St.next
 simp only[];split
 ·exact h.letIn o
 ·exact(h.letIn o).drop _
theorem cG.un{s:St}(h:cG s)(u:Nat):cG { s with un:=u }:=⟨h.1,h.2⟩
theorem cG.hand{s:St}(h:cG s){c:Way}(b:c.cycles=false)(T:List Nat)(f j:Nat):cG (s.hand c T f j):=by
 unfold St.hand;simp only[];have a:cG (({ s with un:=s.un+1 }:St).put (7*j) (cP (s.tg j) T)):=(h.un _).put (by omega);split
 ·exact a.wait j
 ·rw[b];exact a
theorem cG.link{s:St}(h:cG s){c:Way}(d:c.cycles=false)(f j:Nat):cG (s.link c f j):=by
 unfold St.link;simp only[];have a:cG (s.addAt (7*s.rep f+2) (s.rep j)):=h.put (by omega);by_cases b:(s.rep f == s.rep j || (s.hr (s.rep f)).contains (s.rep j))=true
 ·rw[if_pos b];exact h
 ·rw[if_neg b];generalize (if c.deltas=true then(s.addAt (7*s.rep f+2) (s.rep j)).hd (s.rep f)else(s.addAt (7*s.rep f+2) (s.rep j)).tg (s.rep f))=e;split
  ·exact a
  ·exact a.hand d _ _ _
theorem gQ{α:Type}{f:St→α→St}(a:∀s x,cG s→cG (f s x)):∀(l:List α) (s:St),cG s→cG (l.foldl f s):=by
 intro l;induction l with
 |nil=>exact fun _ h=>h
 |cons x r b=>exact fun s h=>b _ (a s x h)
theorem cG.collapse{s:St}(h:cG s)(m:Nat)(T:List Nat):s.collapse m T=(false,s):=by
 unfold St.collapse;simp only[];rw[h.2 m];have c:∀(l:List Nat) (x:Bool × St),l.foldl (fun x t=>let y:=x.2.mergeAll t [];(y.1 || x.1,y.2)) x=x:=by
  intro l;induction l with
  |nil=>exact fun _=>rfl
  |cons a r d=>
   intro x;simp only[List.foldl_cons];have e:((x.2.mergeAll a []).1 || x.1,(x.2.mergeAll a []).2)=x:=by obtain⟨b,y⟩:=x;simp[St.mergeAll]
   rw[e];exact d x
 exact c T (false,s)
theorem cG.work{s:St}(h:cG s){c:Way}(d:c.cycles=false)(m:Nat):cG (s.work c m):=by
 unfold St.work;simp only[];generalize qZ (s.tg m) (s.hd m)=b;split
 ·exact h
 ·rw[h.collapse];simp only[Bool.false_eq_true,if_false];have i:=gQ (f:=fun s t=>s.links c m t) (fun s t a=>by
   unfold St.links;simp only[];exact gQ (f:=fun s q=>s.link c q t) (fun s q a=>a.link d q t) _ _ (gQ (f:=fun s p=>s.link c t p) (fun s p a=>a.link d t p) _ _ a)) b s h
  generalize b.foldl (fun s t=>s.links c m t) s=e at *;have g:=gQ (f:=fun s h=>s.hand c b m h) (fun s x a=>a.hand d b m x) (e.heirsOf m) e i;split
  ·exact g.put (by omega)
  ·exact g
theorem cG.look{s:St}(h:cG s)(k:Nat):s.lookForCycles k=some s:=by unfold St.lookForCycles;rw[h.1];rfl
theorem cG.lay{s:St}(h:cG s)(k:Int)(p q:Nat):cG (s.lay k p q):=by
 unfold St.lay;split
 ·exact h.put (by omega)
 ·split
  ·exact h.put (by omega)
  ·split
   ·exact h.put (by omega)
   ·split
    ·exact h.put (by omega)
    ·exact h
theorem Ao(n:Nat)(b:List (Int × Nat × Nat)):cG (St.start n b):=by
 unfold St.start;simp only[];refine gQ (f:=fun s i=>if(s.tg i).isEmpty then s else s.wait i) (fun s i a=>?_) _ _ ?_
 ·split
  ·exact a
  ·exact a.wait i
 ·refine gQ (f:=fun s (f:Int × Nat × Nat)=>s.lay f.1 f.2.1 f.2.2) (fun s f a=>a.lay _ _ _) _ _ ?_
  refine⟨rfl,fun i=>?_⟩;unfold St.tw;simp only[E1,List.getElem?_replicate];split<;>rfl
end
end Go.Proofs.YtiamlbhkiehilaaGreatDoor
