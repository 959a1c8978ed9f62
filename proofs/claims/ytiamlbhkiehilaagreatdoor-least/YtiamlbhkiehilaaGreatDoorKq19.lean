import Derived.Test.YtiamlbhkiehilaaGreatDoorKq18
namespace Go.Proofs.YtiamlbhkiehilaaGreatDoor
section
def Plain(s:St):Prop:=s.susp=[]∧∀i,s.tw i=[]
theorem tw_put{s:St}{k:Nat}{t:List Nat}(hk:k % 7≠5)(i:Nat):(s.put k t).tw i=s.tw i:=by
 unfold St.tw St.put;simp only[List.getD_eq_getElem?_getD];rw[List.getElem?_set_ne (by omega)]
theorem Plain.put{s:St}(h:Plain s){k:Nat}{t:List Nat}(hk:k % 7≠5):Plain (s.put k t):=⟨h.1,fun i=>by rw[tw_put hk];exact h.2 i⟩
theorem Plain.wait{s:St}(h:Plain s)(m:Nat):Plain (s.wait m):=by
 unfold St.wait;split
 ·exact h
 ·exact⟨h.1,h.2⟩
theorem Plain.drop{s:St}(h:Plain s)(m:Nat):Plain (s.drop m):=⟨h.1,h.2⟩
theorem Plain.letIn{s:St}(h:Plain s)(o:Int):Plain (s.letIn o):=by
 unfold St.letIn;split
 ·exact h
 ·exact⟨h.1,h.2⟩
theorem Plain.next{s:St}(h:Plain s)(o:Int):Plain (s.next o).2:=by
 unfold St.next
 simp only[];split
 ·exact h.letIn o
 ·exact(h.letIn o).drop _
theorem Plain.un{s:St}(h:Plain s)(u:Nat):Plain { s with un:=u }:=⟨h.1,h.2⟩
theorem Plain.hand{s:St}(h:Plain s){c:Way}(hc:c.cycles=false)(T:List Nat)(f j:Nat):Plain (s.hand c T f j):=by
 unfold St.hand;simp only[];have h1:Plain (({ s with un:=s.un+1 }:St).put (7*j) (uniS (s.tg j) T)):=(h.un _).put (by omega);split
 ·exact h1.wait j
 ·rw[hc];exact h1
theorem Plain.link{s:St}(h:Plain s){c:Way}(hc:c.cycles=false)(f j:Nat):Plain (s.link c f j):=by
 unfold St.link;simp only[];have h1:Plain (s.addAt (7*s.rep f+2) (s.rep j)):=h.put (by omega);by_cases h0:(s.rep f == s.rep j || (s.hr (s.rep f)).contains (s.rep j))=true
 ·rw[if_pos h0];exact h
 ·rw[if_neg h0];generalize (if c.deltas=true then(s.addAt (7*s.rep f+2) (s.rep j)).hd (s.rep f)else(s.addAt (7*s.rep f+2) (s.rep j)).tg (s.rep f))=now;split
  ·exact h1
  ·exact h1.hand hc _ _ _
theorem foldl_plain{α:Type}{f:St→α→St}(hf:∀s x,Plain s→Plain (f s x)):∀(l:List α) (s:St),Plain s→Plain (l.foldl f s):=by
 intro l;induction l with
 |nil=>exact fun _ h=>h
 |cons x r ih=>exact fun s h=>ih _ (hf s x h)
theorem Plain.collapse{s:St}(h:Plain s)(m:Nat)(T:List Nat):s.collapse m T=(false,s):=by
 unfold St.collapse;simp only[];rw[h.2 m];have key:∀(l:List Nat) (x:Bool × St),l.foldl (fun x t=>let y:=x.2.mergeAll t [];(y.1 || x.1,y.2)) x=x:=by
  intro l;induction l with
  |nil=>exact fun _=>rfl
  |cons a r ih=>
   intro x;simp only[List.foldl_cons];have e:((x.2.mergeAll a []).1 || x.1,(x.2.mergeAll a []).2)=x:=by
    obtain⟨b,y⟩:=x;simp[St.mergeAll]
   rw[e];exact ih x
 exact key T (false,s)
theorem Plain.work{s:St}(h:Plain s){c:Way}(hc:c.cycles=false)(m:Nat):Plain (s.work c m):=by
 unfold St.work;simp only[];generalize subS (s.tg m) (s.hd m)=fr;split
 ·exact h
 ·rw[h.collapse];simp only[Bool.false_eq_true,if_false];have h1:=foldl_plain (f:=fun s t=>s.links c m t) (fun s t hs=>by
   unfold St.links;simp only[];exact foldl_plain (f:=fun s q=>s.link c q t) (fun s q hs=>hs.link hc q t) _ _ (foldl_plain (f:=fun s p=>s.link c t p) (fun s p hs=>hs.link hc t p) _ _ hs)) fr s h
  generalize fr.foldl (fun s t=>s.links c m t) s=s1 at *;have h2:=foldl_plain (f:=fun s h=>s.hand c fr m h) (fun s x hs=>hs.hand hc fr m x) (s1.heirsOf m) s1 h1;split
  ·exact h2.put (by omega)
  ·exact h2
theorem Plain.look{s:St}(h:Plain s)(k:Nat):s.lookForCycles k=some s:=by
 unfold St.lookForCycles;rw[h.1];rfl
theorem Plain.lay{s:St}(h:Plain s)(k:Int)(p q:Nat):Plain (s.lay k p q):=by
 unfold St.lay;split
 ·exact h.put (by omega)
 ·split
  ·exact h.put (by omega)
  ·split
   ·exact h.put (by omega)
   ·split
    ·exact h.put (by omega)
    ·exact h
theorem plain_start(n:Nat)(fs:List (Int × Nat × Nat)):Plain (St.start n fs):=by
 unfold St.start;simp only[];refine foldl_plain (f:=fun s i=>if(s.tg i).isEmpty then s else s.wait i) (fun s i hs=>?_) _ _ ?_
 ·split
  ·exact hs
  ·exact hs.wait i
 ·refine foldl_plain (f:=fun s (f:Int × Nat × Nat)=>s.lay f.1 f.2.1 f.2.2) (fun s f hs=>hs.lay _ _ _) _ _ ?_
  refine⟨rfl,fun i=>?_⟩;unfold St.tw;simp only[List.getD_eq_getElem?_getD,List.getElem?_replicate];split<;>rfl
end
end Go.Proofs.YtiamlbhkiehilaaGreatDoor
