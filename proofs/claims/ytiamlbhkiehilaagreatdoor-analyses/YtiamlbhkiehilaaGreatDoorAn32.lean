import Derived.Test.YtiamlbhkiehilaaGreatDoorAn31
import Derived.Laws.OwnMore
namespace Go.Proofs.YtiamlbhkiehilaaGreatDoor
section
open Go.RowKit Go.Maps
theorem infoBool:(Tryz.prog.info? 4).map (fun i=>(i.zero,i.size,i.bytes))=some (some (.bool false),1,1):=by kernel_rfl
theorem infoBools:(Tryz.prog.info? 99).map (fun i=>(i.zero,i.size,i.bytes))=some (some (.slice none 0 0),1,24):=by kernel_rfl
structure BldM (w wr:World) (n i:Nat) (v:Value) (rv:List Value):Prop where
 le:i≤n
 len:rv.length=i
 row:wr.ownsRow w.heap.size 99 1 v i rv
 rows:∀ (j:Nat) u,rv[j]?=some u→wr.ownsRow w.heap.size 4 1 u n ((List.replicate n false).map Value.bool)
 sep:∀ (i j:Nat) t u,i≠j→rv[i]?=some t→rv[j]?=some u→t.ownBlock=none∨t.ownBlock≠u.ownBlock
 blw:Below w.heap.size w wr
theorem BldM.push {w wr w2 w3:World} {n i:Nat} {v v':Value} {rv:List Value} {o:Obj} (h:BldM w wr n i v rv) (hi:i < n) (ho:w2.ownsRow w.heap.size 4 1 (.slice (some ⟨wr.heap.size,0,none⟩) n n) n ((List.replicate n false).map Value.bool)) (hg:wr.grownBy w2 none)
  (ho3:w3.ownsRow w.heap.size 99 1 v' (i+1) (rv ++ [.slice (some ⟨wr.heap.size,0,none⟩) n n])) (hg3:(w2.alloc o).grownBy w3 v.ownBlock):BldM w w3 n (i+1) v' (rv ++ [.slice (some ⟨wr.heap.size,0,none⟩) n n]):=by
 have hv2:=h.row.kept hg (by cases hq:v.ownBlock <;> simp)
 have hold:∀ (j:Nat) u,rv[j]?=some u→w3.ownsRow w.heap.size 4 1 u n ((List.replicate n false).map Value.bool):=by
  intro j u hu
  have h2:=(h.rows j u hu).kept hg (by cases hq:u.ownBlock <;> simp)
  exact (h2.alloc o).kept hg3 (own_ne h2 hv2 (by decide))
 have hnew:=(ho.alloc o).kept hg3 (own_ne ho hv2 (by decide))
 have hlt:∀ (j:Nat) u,rv[j]?=some u→∀ g,u.ownBlock=some g→g < wr.heap.size:=fun j u hu g hg=>((h.rows j u hu).lt g hg).2
 refine ⟨hi,by rw [List.length_append,h.len]; rfl,ho3,?_,?_,?_⟩
 ·intro j u hu
  by_cases hj:j < rv.length
  ·rw [List.getElem?_append_left hj] at hu
   exact hold j u hu
  ·rw [List.getElem?_append_right (by omega)] at hu
   have:j - rv.length=0:=by have:=lt_get hu; simp at this; omega
   rw [this] at hu
   simp at hu
   subst hu
   exact hnew
 ·intro a b t u hab ht hu
  by_cases ha:a < rv.length
  ·rw [List.getElem?_append_left ha] at ht
   by_cases hb:b < rv.length
   ·rw [List.getElem?_append_left hb] at hu
    exact h.sep a b t u hab ht hu
   ·rw [List.getElem?_append_right (by omega)] at hu
    have:b - rv.length=0:=by have:=lt_get hu; simp at this; omega
    rw [this] at hu
    simp at hu
    subst hu
    cases hq:t.ownBlock with
    | none=>exact .inl rfl
    | some g=>
     refine .inr (fun e=>?_)
     have h1:=hlt a t ht g hq
     simp only [Value.ownBlock,Option.some.injEq] at e
     omega
  ·rw [List.getElem?_append_right (by omega)] at ht
   have:a - rv.length=0:=by have:=lt_get ht; simp at this; omega
   rw [this] at ht
   simp at ht
   subst ht
   have hb:b < rv.length:=by have:=lt_get hu; simp at this; omega
   rw [List.getElem?_append_left hb] at hu
   refine .inr (fun e=>?_)
   have h1:=hlt b u hu wr.heap.size e.symm
   omega
 ·have hz:=h.blw.size
  have hz2:wr.heap.size≤w2.heap.size:=hg.size
  have hb2:Below w.heap.size w w2:=h.blw.grown hg hz (fun k hk=>by cases hk)
  exact (hb2.alloc (by omega) o).grown hg3 (by simp; omega) (fun k hk=>(hv2.lt k hk).1)
theorem BldM.full {w wr:World} {n:Nat} {v:Value} {rv:List Value} (h:BldM w wr n n v rv):OwnM wr w.heap.size v (List.replicate n (List.replicate n false)) rv:=by
 refine ⟨by rw [List.length_replicate]; exact h.len,by rw [List.length_replicate]; exact h.row,?_,h.sep⟩
 intro i r u hr hu
 rw [List.length_replicate]
 have hi:=lt_get hr
 rw [List.length_replicate] at hi
 rw [List.getElem?_replicate,if_pos hi] at hr
 injection hr with hr
 subst hr
 rw [List.length_replicate]
 exact ⟨rfl,h.rows i u hu⟩
theorem tget_false (n i j:Nat):tget (List.replicate n (List.replicate n false)) i j=false:=by
 cases h:tget (List.replicate n (List.replicate n false)) i j with
 | false=>rfl
 | true=>
  obtain ⟨r,hr,hj⟩:=tget_some h
  have hi:=lt_get hr
  rw [List.length_replicate] at hi
  rw [List.getElem?_replicate,if_pos hi] at hr
  injection hr with hr
  subst hr
  have hj2:=lt_get hj
  rw [List.length_replicate] at hj2
  rw [List.getElem?_replicate,if_pos hj2] at hj
  cases hj
theorem OwnM.below {w w':World} {B:Nat} {v:Value} {M:List (List Bool)} {rv:List Value} (h:OwnM w B v M rv) (hb:Below w.heap.size w w'):OwnM w' B v M rv:=
 ⟨h.len,own_below h.row hb,fun i r u hr hu=>⟨(h.rows i r u hr hu).1,own_below (h.rows i r u hr hu).2 hb⟩,h.sep⟩
structure PtI (fs:List Fct) (ns:List ByteArray) (w wr:World) (v:Value) (rv:List Value) (M:List (List Bool)):Prop where
 own:OwnM wr w.heap.size v M rv
 len:M.length=ns.length
 snd:soundM fs ns M
 blw:Below w.heap.size w wr
theorem PtI.below {fs:List Fct} {ns:List ByteArray} {w wr w2:World} {v:Value} {rv:List Value} {M:List (List Bool)} (h:PtI fs ns w wr v rv M) (hb:Below wr.heap.size wr w2):PtI fs ns w w2 v rv M:=
 ⟨h.own.below hb,h.len,h.snd,h.blw.trans (hb.mono h.blw.size)⟩
theorem PtI.row {fs:List Fct} {ns:List ByteArray} {w wr:World} {v:Value} {rv:List Value} {M:List (List Bool)} (h:PtI fs ns w wr v rv M) {i:Nat} (hi:i < ns.length):∃ X,M[i]?=some X∧X.length=ns.length:=by
 obtain ⟨X,hX⟩:∃ X,M[i]?=some X:=⟨_,List.getElem?_eq_getElem (by rw [h.len]; exact hi)⟩
 obtain ⟨u,hu⟩:∃ u,rv[i]?=some u:=⟨_,List.getElem?_eq_getElem (by rw [h.own.len,h.len]; exact hi)⟩
 exact ⟨X,hX,by rw [(h.own.rows i X u hX hu).1,h.len]⟩
theorem PtI.flow {fs:List Fct} {ns:List ByteArray} {w wr w2:World} {v u:Value} {rv:List Value} {M:List (List Bool)} {a b:Nat} {X Y:List Bool} (h:PtI fs ns w wr v rv M) (hX:M[a]?=some X) (hY:M[b]?=some Y) (hu:rv[a]?=some u)
  (ho:OwnM w2 w.heap.size v (M.set a (orK X Y M.length)) rv) (hk:Kb u.ownBlock.toList wr w2) (hok:∀ j,tget M b j=true→∃ p y,ns[a]?=some p∧ns[j]?=some y∧Pts fs p y):PtI fs ns w w2 v rv (M.set a (orK X Y M.length)):=by
 have hua:=(h.own.rows a X u hX hu).2
 have lX:=(h.own.rows a X u hX hu).1
 obtain ⟨ub,hub⟩:∃ u,rv[b]?=some u:=⟨_,List.getElem?_eq_getElem (by rw [h.own.len]; exact lt_get hY)⟩
 have lY:=(h.own.rows b Y ub hY hub).1
 refine ⟨ho,by rw [List.length_set]; exact h.len,?_,h.blw.trans (hk.below h.blw.size (fun k hm=>(hua.lt k (Option.mem_toList.1 hm)).1))⟩
 intro i j ht
 rcases (flow_pure hX hY lX lY).2.2.1 i j ht with h1 | ⟨rfl,h1⟩
 ·exact h.snd i j h1
 ·obtain ⟨p,y,h2,h3,h4⟩:=hok j h1
  exact ⟨p,y,h2,h3,h4⟩
structure PtF (fs:List Fct) (ns:List ByteArray) (w wr:World) (v:Value) (rv:List Value) (M M2:List (List Bool)) (c:Bool) (f:Fct):Prop where
 ptI:PtI fs ns w wr v rv M2
 no:c=false→M2=M∧closedF ns M f
 yes:c=true→cntM M < cntM M2
structure PtJ (fs:List Fct) (ns:List ByteArray) (w wr:World) (v:Value) (rv:List Value) (M M1:List (List Bool)) (ch:Bool) (i:Nat):Prop where
 le:i≤fs.length
 ptI:PtI fs ns w wr v rv M1
 no:ch=false→M1=M∧∀ (j:Nat) f,j < i→fs[j]?=some f→closedF ns M f
 yes:ch=true→cntM M < cntM M1
theorem PtJ.next {fs:List Fct} {ns:List ByteArray} {w wr w2:World} {v:Value} {rv:List Value} {M M1 M2:List (List Bool)} {ch c:Bool} {i:Nat} {f:Fct} (h:PtJ fs ns w wr v rv M M1 ch i) (hf:fs[i]?=some f) (h2:PtF fs ns w w2 v rv M1 M2 c f):PtJ fs ns w w2 v rv M M2 (ch || c) (i+1):=by
 refine ⟨lt_get hf,h2.ptI,fun hn=>?_,fun hy=>?_⟩
 ·simp only [Bool.or_eq_false_iff] at hn
  obtain ⟨e1,e2⟩:=h.no hn.1
  obtain ⟨e3,e4⟩:=h2.no hn.2
  subst e1
  refine ⟨e3,fun j g hj hg=>?_⟩
  by_cases hji:j=i
  ·subst hji
   rw [hf] at hg
   injection hg with hg
   rw [← hg]
   exact e4
  ·exact e2 j g (by omega) hg
 ·cases hc:c
  ·rw [hc,Bool.or_false] at hy
   rw [(h2.no hc).1]
   exact h.yes hy
  ·have h3:=h2.yes hc
   cases hh:ch
   ·rw [(h.no hh).1] at h3; exact h3
   ·have:=h.yes hh; omega
theorem nd_inj {ns:List ByteArray} (hnd:ns.Nodup) {i j:Nat} {x:ByteArray} (hi:ns[i]?=some x) (hj:ns[j]?=some x):i=j:=by
 obtain ⟨h1,h2⟩:=List.getElem?_eq_some_iff.1 hi
 obtain ⟨h3,h4⟩:=List.getElem?_eq_some_iff.1 hj
 exact (List.getElem_inj (h₀:=h1) (h₁:=h3) hnd).1 (h2.trans h4.symm)
theorem ptF_addr {fs:List Fct} {ns:List ByteArray} {w wr w2:World} {v:Value} {rv:List Value} {M:List (List Bool)} {a b:Nat} {X:List Bool} {x:Bool} {p q:ByteArray} (hnd:ns.Nodup) (h:PtI fs ns w wr v rv M) (hX:M[a]?=some X) (hx:X[b]?=some x)
  (hp:ns[a]?=some p) (hq:ns[b]?=some q) (hm:(⟨1,p,q⟩:Fct)∈fs) (ho:OwnM w2 w.heap.size v (M.set a (X.set b true)) rv) (hb:Below w.heap.size w w2):PtF fs ns w w2 v rv M (M.set a (X.set b true)) (!x) ⟨1,p,q⟩:=by
 obtain ⟨h1,h2,h3,h4⟩:=addr_pure hX hx
 refine ⟨⟨ho,by rw [List.length_set]; exact h.len,?_,hb⟩,fun hn=>?_,fun hy=>h2 (by cases x <;> simp_all)⟩
 ·intro i j ht
  rcases h3 i j ht with h5 | ⟨rfl,rfl⟩
  ·exact h.snd i j h5
  ·exact ⟨p,q,hp,hq,.addr hm⟩
 ·have hxt:x=true:=by cases x <;> simp_all
  obtain ⟨e1,e2⟩:=h1 hxt
  refine ⟨e1,⟨fun _ i j hi hj=>?_,(fun hk=>by simp at hk),(fun hk=>by simp at hk),(fun hk=>by simp at hk)⟩⟩
  rw [nd_inj hnd hi hp,nd_inj hnd hj hq]
  exact e2
theorem ptF_copy {fs:List Fct} {ns:List ByteArray} {w wr w2:World} {v u:Value} {rv:List Value} {M:List (List Bool)} {a b:Nat} {X Y:List Bool} {p q:ByteArray} (hnd:ns.Nodup) (h:PtI fs ns w wr v rv M) (hX:M[a]?=some X) (hY:M[b]?=some Y) (lX:X.length=ns.length) (lY:Y.length=ns.length) (hu:rv[a]?=some u)
  (hp:ns[a]?=some p) (hq:ns[b]?=some q) (hm:(⟨2,p,q⟩:Fct)∈fs) (ho:OwnM w2 w.heap.size v (M.set a (orK X Y M.length)) rv) (hk:Kb u.ownBlock.toList wr w2):PtF fs ns w w2 v rv M (M.set a (orK X Y M.length)) (newK X Y M.length) ⟨2,p,q⟩:=by
 have hI:=h.flow hX hY hu ho hk (fun j hj=>by
  obtain ⟨q',y,h1,h2,h3⟩:=h.snd b j hj
  rw [hq] at h1
  injection h1 with h1
  subst h1
  exact ⟨p,y,hp,h2,.copy hm h3⟩)
 obtain ⟨h1,h2,_,_⟩:=flow_pure hX hY (lX.trans h.len.symm) (lY.trans h.len.symm)
 refine ⟨hI,fun hn=>?_,h2⟩
 obtain ⟨e1,e2⟩:=h1 hn
 refine ⟨e1,⟨(fun hk=>by simp at hk),fun _ i j x hi hj ht=>?_,(fun hk=>by simp at hk),(fun hk=>by simp at hk)⟩⟩
 rw [nd_inj hnd hi hp]
 rw [nd_inj hnd hj hq] at ht
 exact e2 x ht
structure PtL (fs:List Fct) (ns:List ByteArray) (w wr:World) (v:Value) (rv:List Value) (M M2:List (List Bool)) (c:Bool) (x:Nat) (by':Nat→Nat→Prop):Prop where
 le:x≤ns.length
 ptI:PtI fs ns w wr v rv M2
 no:c=false→M2=M∧∀ u j,u < x→by' u j
 yes:c=true→cntM M < cntM M2
theorem PtL.step {fs:List Fct} {ns:List ByteArray} {w wr w2:World} {v:Value} {rv:List Value} {M M2 M3:List (List Bool)} {c d:Bool} {x:Nat} {by':Nat→Nat→Prop} (h:PtL fs ns w wr v rv M M2 c x by') (hx:x < ns.length) (hI:PtI fs ns w w2 v rv M3) (hn:d=false→M3=M2∧(M2=M→∀ j,by' x j)) (hy:d=true→cntM M2 < cntM M3) :
  PtL fs ns w w2 v rv M M3 (c || d) (x+1) by':=by
 refine ⟨hx,hI,fun h1=>?_,fun h1=>?_⟩
 ·simp only [Bool.or_eq_false_iff] at h1
  obtain ⟨e1,e2⟩:=h.no h1.1
  obtain ⟨e3,e4⟩:=hn h1.2
  refine ⟨e3.trans e1,fun u j hu=>?_⟩
  by_cases hux:u=x
  ·subst hux; exact e4 e1 j
  ·exact e2 u j (by omega)
 ·cases hd:d
  ·rw [hd,Bool.or_false] at h1
   rw [(hn hd).1]
   exact h.yes h1
  ·have h3:=hy hd
   cases hc:c
   ·rw [(h.no hc).1] at h3; exact h3
   ·have:=h.yes hc; omega
theorem tget_lt {fs:List Fct} {ns:List ByteArray} {M:List (List Bool)} (h:soundM fs ns M) {i j:Nat} (ht:tget M i j=true):i < ns.length∧j < ns.length:=by
 obtain ⟨a,b,h1,h2,_⟩:=h i j ht
 exact ⟨lt_get h1,lt_get h2⟩
theorem PtL.load {fs:List Fct} {ns:List ByteArray} {w wr w0:World} {v:Value} {rv:List Value} {M M2:List (List Bool)} {c:Bool} {a b:Nat} {p q:ByteArray} (hnd:ns.Nodup) (hp:ns[a]?=some p) (hq:ns[b]?=some q) (h0:PtI fs ns w w0 v rv M)
  (h:PtL fs ns w wr v rv M M2 c ns.length (fun u j=>tget M b u=true→tget M u j=true→tget M a j=true)):PtF fs ns w wr v rv M M2 c ⟨3,p,q⟩:=by
 refine ⟨h.ptI,fun hn=>?_,h.yes⟩
 obtain ⟨e1,e2⟩:=h.no hn
 refine ⟨e1,⟨(fun hk=>by simp at hk),(fun hk=>by simp at hk),fun _ i j u x hi hj h1 h2=>?_,(fun hk=>by simp at hk)⟩⟩
 rw [nd_inj hnd hi hp]
 rw [nd_inj hnd hj hq] at h1
 exact e2 u x (tget_lt h0.snd h1).2 h1 h2
theorem PtL.store {fs:List Fct} {ns:List ByteArray} {w wr w0:World} {v:Value} {rv:List Value} {M M2:List (List Bool)} {c:Bool} {a b:Nat} {p q:ByteArray} (hnd:ns.Nodup) (hp:ns[a]?=some p) (hq:ns[b]?=some q) (h0:PtI fs ns w w0 v rv M)
  (h:PtL fs ns w wr v rv M M2 c ns.length (fun u j=>tget M a u=true→tget M b j=true→tget M u j=true)):PtF fs ns w wr v rv M M2 c ⟨4,p,q⟩:=by
 refine ⟨h.ptI,fun hn=>?_,h.yes⟩
 obtain ⟨e1,e2⟩:=h.no hn
 refine ⟨e1,⟨(fun hk=>by simp at hk),(fun hk=>by simp at hk),(fun hk=>by simp at hk),fun _ i j u x hi hj h1 h2=>?_⟩⟩
 rw [nd_inj hnd hi hp] at h1
 rw [nd_inj hnd hj hq] at h2
 exact e2 u x (tget_lt h0.snd h1).2 h1 h2
theorem load_skip {fs:List Fct} {ns:List ByteArray} {w wr:World} {v:Value} {rv:List Value} {M M2:List (List Bool)} {c:Bool} {x a b:Nat} (h:PtL fs ns w wr v rv M M2 c x (fun u j=>tget M b u=true→tget M u j=true→tget M a j=true)) (hx:x < ns.length) (ht:tget M2 b x=false) :
  PtL fs ns w wr v rv M M2 c (x+1) (fun u j=>tget M b u=true→tget M u j=true→tget M a j=true):=by
 have:=h.step (d:=false) hx h.ptI (fun _=>⟨rfl,fun e j h1=>by rw [← e,ht] at h1; cases h1⟩) (fun h=>by cases h)
 rw [Bool.or_false] at this
 exact this
theorem load_step {fs:List Fct} {ns:List ByteArray} {w wr w2:World} {v u:Value} {rv:List Value} {M M2:List (List Bool)} {c:Bool} {x a b:Nat} {X Z:List Bool} {p q:ByteArray} (h:PtL fs ns w wr v rv M M2 c x (fun u j=>tget M b u=true→tget M u j=true→tget M a j=true)) (hx:x < ns.length) (ht:tget M2 b x=true)
  (hX:M2[a]?=some X) (hZ:M2[x]?=some Z) (lX:X.length=ns.length) (lZ:Z.length=ns.length) (hu:rv[a]?=some u) (hp:ns[a]?=some p) (hq:ns[b]?=some q) (hm:(⟨3,p,q⟩:Fct)∈fs) (ho:OwnM w2 w.heap.size v (M2.set a (orK X Z M2.length)) rv) (hk:Kb u.ownBlock.toList wr w2) :
  PtL fs ns w w2 v rv M (M2.set a (orK X Z M2.length)) (c || newK X Z M2.length) (x+1) (fun u j=>tget M b u=true→tget M u j=true→tget M a j=true):=by
 have hI:=h.ptI.flow hX hZ hu ho hk (fun j hj=>by
  obtain ⟨q',s,h1,h2,h3⟩:=h.ptI.snd b x ht
  obtain ⟨s',y,h4,h5,h6⟩:=h.ptI.snd x j hj
  rw [hq] at h1
  injection h1 with h1
  rw [h2] at h4
  injection h4 with h4
  subst h1 h4
  exact ⟨p,y,hp,h5,.load hm h3 h6⟩)
 obtain ⟨h1,h2,_,_⟩:=flow_pure hX hZ (lX.trans h.ptI.len.symm) (lZ.trans h.ptI.len.symm)
 exact h.step hx hI (fun hd=>⟨(h1 hd).1,fun e j _ h4=>by rw [← e] at h4 ⊢; exact (h1 hd).2 j h4⟩) h2
theorem store_skip {fs:List Fct} {ns:List ByteArray} {w wr:World} {v:Value} {rv:List Value} {M M2:List (List Bool)} {c:Bool} {x a b:Nat} (h:PtL fs ns w wr v rv M M2 c x (fun u j=>tget M a u=true→tget M b j=true→tget M u j=true)) (hx:x < ns.length) (ht:tget M2 a x=false) :
  PtL fs ns w wr v rv M M2 c (x+1) (fun u j=>tget M a u=true→tget M b j=true→tget M u j=true):=by
 have:=h.step (d:=false) hx h.ptI (fun _=>⟨rfl,fun e j h1=>by rw [← e,ht] at h1; cases h1⟩) (fun h=>by cases h)
 rw [Bool.or_false] at this
 exact this
theorem store_step {fs:List Fct} {ns:List ByteArray} {w wr w2:World} {v u:Value} {rv:List Value} {M M2:List (List Bool)} {c:Bool} {x a b:Nat} {Y Z:List Bool} {p q:ByteArray} (h:PtL fs ns w wr v rv M M2 c x (fun u j=>tget M a u=true→tget M b j=true→tget M u j=true)) (hx:x < ns.length) (ht:tget M2 a x=true)
  (hZ:M2[x]?=some Z) (hY:M2[b]?=some Y) (lZ:Z.length=ns.length) (lY:Y.length=ns.length) (hu:rv[x]?=some u) (hp:ns[a]?=some p) (hq:ns[b]?=some q) (hm:(⟨4,p,q⟩:Fct)∈fs) (ho:OwnM w2 w.heap.size v (M2.set x (orK Z Y M2.length)) rv) (hk:Kb u.ownBlock.toList wr w2) :
  PtL fs ns w w2 v rv M (M2.set x (orK Z Y M2.length)) (c || newK Z Y M2.length) (x+1) (fun u j=>tget M a u=true→tget M b j=true→tget M u j=true):=by
 have hI:=h.ptI.flow hZ hY hu ho hk (fun j hj=>by
  obtain ⟨p',s,h1,h2,h3⟩:=h.ptI.snd a x ht
  obtain ⟨q',y,h4,h5,h6⟩:=h.ptI.snd b j hj
  rw [hp] at h1
  injection h1 with h1
  rw [hq] at h4
  injection h4 with h4
  subst h1 h4
  exact ⟨s,y,h2,h5,.store hm h3 h6⟩)
 obtain ⟨h1,h2,_,_⟩:=flow_pure hZ hY (lZ.trans h.ptI.len.symm) (lY.trans h.ptI.len.symm)
 exact h.step hx hI (fun hd=>⟨(h1 hd).1,fun e j _ h4=>by rw [← e] at h4 ⊢; exact (h1 hd).2 j h4⟩) h2
theorem PtI.reads {fs:List Fct} {ns:List ByteArray} {w wr:World} {n vc:Nat} {va:Option Addr} {rv:List Value} {M:List (List Bool)} (h:PtI fs ns w wr (.slice va n vc) rv M) (hnn:n=ns.length) {a:Nat} (ha:a < ns.length) :
  ∃ gv X ga ca,va=some ⟨gv,0,none⟩∧M[a]?=some X∧X.length=ns.length∧rv[a]?=some (.slice (some ⟨ga,0,none⟩) X.length ca)∧wr.cell? ⟨gv,a,none⟩=some (.slice (some ⟨ga,0,none⟩) X.length ca)∧w.heap.size≤ga∧(∀ b x,X[b]?=some x→wr.cell? ⟨ga,b,none⟩=some (.bool x))∧∀ b,wr.frozen? ⟨ga,b,none⟩=false:=by
 obtain ⟨X,hX,lX⟩:=h.row ha
 obtain ⟨u,hu⟩:∃ u,rv[a]?=some u:=⟨_,List.getElem?_eq_getElem (by rw [h.own.len,h.len]; exact ha)⟩
 have ho:=(h.own.rows a X u hX hu).2
 obtain ⟨ga,ca,rfl,_,hr⟩:=own_read ho (by omega)
 obtain ⟨gv,kv,hv,_,hrv⟩:=own_read h.own.row (by rw [h.len]; omega)
 injection hv with hv _ _
 refine ⟨gv,X,ga,ca,hv,hX,lX,hu,hrv a _ hu,(ho.lt ga rfl).1,fun b x hx=>hr b _ (by rw [List.getElem?_map,hx]; rfl),(own_cell ho).2⟩
def bit:Value→Nat
 | .bool true=>1
 | _=>0
set_option maxRecDepth 100000 in
set_option maxHeartbeats 2000000 in
theorem points_any (vl vn:Value) (fs:List Fct) (ns:List ByteArray) (w:World) (hfl:fs.length≤1000) (hnl:ns.length≤1000) (hl:IsFacts vl fs w) (hn:IsStrs vn ns w) (hnd:ns.Nodup) (hall:∀ f∈fs,f.p∈ns∧f.q∈ns) (hk:∀ f∈fs,1≤f.k∧f.k≤4) :
  Calls Tryz.prog 54 #[vl,vn] w fun e w'=>∃ v M rv,e=.returned v∧M.length=ns.length∧OwnM w' w.heap.size v M rv∧Below w.heap.size w w'∧soundM fs ns M∧∀ f∈fs,closedF ns M f:=by
 obtain ⟨cntW,hcnt⟩:=cnt_ex
 have HCT:=hide hcnt
 clear hcnt
 obtain ⟨i0,hi0,hz0,hz1,hz2⟩:=info_parts infoBool
 obtain ⟨j0,hj0,hy0,hy1,hy2⟩:=info_parts infoBools
 have HLF:=hide hl
 have HN:=hide hn
 obtain ⟨lo,lc,rfl,_,_,_⟩:=hl
 obtain ⟨no,nc',rfl,_,_,_⟩:=hn
 have HAL:=hide hall
 have HKK:=hide hk
 clear hall hk
 go_enter Tryz.func54,Tryz.ntmps54
 go_wp2
 go_loopw [5,6] (fun v iv wr=>∃ (i:Nat) (rv:List Value),iv=.int .i64 i∧BldM w wr ns.length i v rv) (fun _ iv _=>ns.length - (intOf iv).toNat)
 case atStart=>exact ⟨0,[],rfl,Nat.zero_le _,rfl,World.ownsRow_nil _ _ _ _,(fun j u h=>by simp at h),(fun i j t u _ h=>by simp at h),Below.refl _ _⟩
 case round=>
  obtain ⟨i,rv,rfl,hb⟩:=hrel
  by_cases hlt:i < ns.length
  ·obtain ⟨va,vc,rfl,_⟩:=own_form hb.row
   have HB:=hide hb
   have hz:=hb.blw.size
   clear hb
   go_wp2_with (first | (at_make; refine wpList_make_full _ rfl _ _ 99 rfl w.heap.size 4 i0 (.bool false) 1 Tryz.underlying99 hi0 hz0 hz1 .i64 .i64 _ _ ns.length rfl rfl (by simp) (by simp) ?c1 ?c2 ?c3 ?_) | go_in)
   case c1=>rw [hz2]; omega
   case c2=>unfold maxLen; omega
   case c3=>exact hz
   intro w2 ho2 hg2
   have ho2':w2.ownsRow w.heap.size 4 1 (.slice (some ⟨wr.heap.size,0,none⟩) ns.length ns.length) ns.length ((List.replicate ns.length false).map Value.bool):=by
    rw [List.map_replicate]
    rw [toList_madeCells_one] at ho2
    exact ho2
   have HV:=hide (HB.out.row.kept hg2 (by cases hq:(Value.slice va i vc).ownBlock <;> simp))
   have HO2:=hide ho2'
   have HG2:=hide hg2
   have hz2w:wr.heap.size≤w2.heap.size:=hg2.size
   clear ho2 ho2' hg2
   go_wp2_with (first | (at_builtin; refine wpList_append_own _ rfl _ _ 97 rfl w.heap.size 99 j0 (.slice none 0 0) 1 24 Tryz.underlying97 hj0 hy0 hy1 hy2 rfl (by decide) (.slice va i vc) i rv rfl (HV.out.alloc _) ⟨w2.heap.size,0,none⟩ 1 1 [.slice (some ⟨wr.heap.size,0,none⟩) ns.length ns.length] rfl rfl (cells_new _ _ _ _ rfl) ?x6 ?x7 ?x8 ?x9 ?_) | go_in)
   case x6=>intro u hu; rw [List.mem_singleton.1 hu]; rfl
   case x7=>unfold maxLen; omega
   case x8=>omega
   case x9=>simp; omega
   intro v' w3 ho3 hg3 _
   have hnx:=HB.out.push hlt HO2.out HG2.out ho3 hg3
   clear ho3 hg3
   go_wp2
   go_round
   case rel=>exact ⟨i+1,_,by go_num,hnx⟩
   case measure=>simp [intOf]; omega
  ·have hin:i=ns.length:=by have:=hb.le; omega
   subst hin
   have HM:=hide hb.full
   have HB:=hide hb.blw
   obtain ⟨va,vc,rfl,_⟩:=own_form hb.row
   clear hb
   have hP0:PtI fs ns w wr (.slice va ns.length vc) rv (List.replicate ns.length (List.replicate ns.length false)):=⟨HM.out,by rw [List.length_replicate],(fun i j h=>by rw [tget_false] at h; cases h),HB.out⟩
   clear HM HB
   go_wp2_with fail
   go_loopw [7] (fun cv wr=>∃ (ch:Bool) (M:List (List Bool)),cv=.bool ch∧PtI fs ns w wr (.slice va ns.length vc) rv M∧(ch=false→∀ f∈fs,closedF ns M f)) (fun cv wr=>2 * (ns.length * ns.length - cntW w.heap.size (.slice va ns.length vc) rv wr)+bit cv)
   case atStart=>exact ⟨true,_,rfl,hP0,fun h=>by cases h⟩
   case round=>
    clear hP0
    obtain ⟨ch0,M,rfl,hM,hcl⟩:=hrel
    cases ch0
    ·have HR:=hide (And.intro hM (hcl rfl))
     clear hM hcl
     go_wp2
     go_ret
     exact ⟨.slice va ns.length vc,M,rv,rfl,HR.out.1.len,HR.out.1.own,HR.out.1.blw,HR.out.1.snd,HR.out.2⟩
    ·clear hcl
     have HM0:=hide hM
     have hcw:=HCT.out _ _ _ _ _ hM.own
     have HCW:=hide hcw
     have hJ0:PtJ fs ns w wr (.slice va ns.length vc) rv M M false 0:=⟨Nat.zero_le _,hM,(fun _=>⟨rfl,fun j f hj=>absurd hj (Nat.not_lt_zero _)⟩),fun h=>by cases h⟩
     clear hM hcw
     generalize hwo:wr=wo at HM0 HCW
     go_wp2_with fail
     go_loopw [7,8] (fun cv iv wr=>∃ (ch:Bool) (i:Nat) (M1:List (List Bool)),cv=.bool ch∧iv=.int .i64 i∧PtJ fs ns w wr (.slice va ns.length vc) rv M M1 ch i) (fun _ iv _=>fs.length - (intOf iv).toNat)
     case atStart=>exact ⟨false,0,M,rfl,rfl,by rw [← hwo]; exact hJ0⟩
     case round=>
      obtain ⟨ch,i,M1,rfl,rfl,hJ⟩:=hrel
      have HJ:=hide hJ
      have hbw:=hJ.ptI.blw
      have hil:=hJ.le
      clear hJ hJ0
      by_cases hif:i < fs.length
      ·obtain ⟨⟨k,p,q⟩,hf⟩:∃ f,fs[i]?=some f:=⟨_,List.getElem?_eq_getElem hif⟩
       have hmem:=List.mem_of_getElem? hf
       obtain ⟨hp,hq⟩:=HAL.out _ hmem
       obtain ⟨hk1,hk4⟩:=HKK.out _ hmem
       simp only at hp hq hk1 hk4
       have hne:fs≠[]:=by intro e; rw [e] at hif; simp at hif
       obtain ⟨ao',cap',he,_,_,hfa⟩:=HLF.out.below hbw
       injection he with he _ hec
       subst hec
       obtain ⟨fb,fo,hlo,hfb,hfs⟩:=hfa hne
       rw [hlo] at he
       subst he
       obtain ⟨a0,a1,a2⟩:=hfs i k p q hf
       have HF:=hide hf
       have HME:=hide hmem
       have hns:=HN.out.below hbw
       clear hfs hfa hf hmem
       go_wp2_with fail
       refine (place_any (.slice no ns.length nc') ns p wr (by omega) hns).mono ?_
       rintro e w2 ⟨k1,rfl,hk1',hb2⟩
       have hp1:=hk1' hp
       have b0:=(hb2.cell (p:=⟨fb,_,none⟩) hfb).trans a0
       have b1:=(hb2.cell (p:=⟨fb,_,none⟩) hfb).trans a1
       have b2:=(hb2.cell (p:=⟨fb,_,none⟩) hfb).trans a2
       have hns2:=hns.below hb2
       clear a0 a1 a2 hk1'
       go_wp2_with fail
       refine (place_any (.slice no ns.length nc') ns q w2 (by omega) hns2).mono ?_
       rintro e w3 ⟨k2,rfl,hk2',hb3⟩
       have hq1:=hk2' hq
       have hfb2:=Nat.lt_of_lt_of_le hfb hb2.size
       have d0:=(hb3.cell (p:=⟨fb,_,none⟩) hfb2).trans b0
       have hI3:PtI fs ns w w3 (.slice va ns.length vc) rv M1:=(HJ.out.ptI.below hb2).below hb3
       have HNX:Hid (∀ (w4:World) (M2:List (List Bool)) (c:Bool),PtF fs ns w w4 (.slice va ns.length vc) rv M1 M2 c ⟨k,p,q⟩→PtJ fs ns w w4 (.slice va ns.length vc) rv M M2 (ch || c) (i+1)):=fun w4 M2 c h=>HJ.out.next HF.out h
       have hl1:=lt_get hp1
       have hl2:=lt_get hq1
       obtain ⟨gv,X,ga,ca,rfl,hX,lX,hu,rx,hga,hcx,hfz⟩:=hI3.reads rfl hl1
       obtain ⟨gv',Y,gb,cb,hgv,hY,lY,hub,ry,_,hcy,_⟩:=hI3.reads rfl hl2
       injection hgv with hgv
       injection hgv with hgv
       subst hgv
       have HP1:=hide hp1
       have HQ1:=hide hq1
       have HI3:=hide hI3
       have HX:=hide hX
       have HY:=hide hY
       have HU:=hide hu
       clear b0 b1 b2 hk2' hb2 hb3 hns hns2 hp hq hp1 hq1 hI3 hX hY hu hub
       have hcase:k=1∨k=2∨k=3∨k=4:=by omega
       rcases hcase with rfl | rfl | rfl | rfl
       ·obtain ⟨x,hx⟩:∃ x,X[k2]?=some x:=⟨_,List.getElem?_eq_getElem (by omega)⟩
        have cx:=hcx k2 x hx
        have zx:=hfz k2
        have hso:=HI3.out.own.set (i:=k2) HX.out HU.out true
        have HR:=hide (HNX.out _ _ _ (ptF_addr hnd HI3.out HX.out hx HP1.out HQ1.out HME.out hso (HI3.out.blw.setCell (p:=⟨ga,k2,none⟩) hga _)))
        clear hcx hcy hfz hso hx
        cases ch <;> cases x
        all_goals
         go_wp2
         go_roundw
         case rel=>exact ⟨_,i+1,_,rfl,by go_num,HR.out⟩
         case measure=>simp [intOf]; omega
       ·have hfw:=flows_any w.heap.size (.slice (some ⟨gv,0,none⟩) ns.length vc) M1 rv k1 k2 X Y w3 (by rw [HI3.out.len]; omega) HI3.out.own HX.out HY.out
        clear hcx hcy hfz
        go_wp2_with fail
        refine hfw.mono ?_
        rintro e w4 ⟨u,hu,rfl,ho4,hk4'⟩
        have HR:=hide (HNX.out _ _ _ (ptF_copy hnd HI3.out HX.out HY.out lX lY hu HP1.out HQ1.out HME.out ho4 hk4'))
        clear hfw hu ho4 hk4'
        generalize newK X Y M1.length=c at HR ⊢
        cases ch <;> cases c
        all_goals
         go_wp2
         go_roundw
         case rel=>exact ⟨_,i+1,_,rfl,by go_num,HR.out⟩
         case measure=>simp [intOf]; omega
       ·clear hcx hcy hfz rx ry
        go_wp2_with fail
        go_loopw [11,12] (fun cv xv wr=>∃ (c:Bool) (x:Nat) (M2:List (List Bool)),cv=.bool c∧xv=.int .i64 x∧PtL fs ns w wr (.slice (some ⟨gv,0,none⟩) ns.length vc) rv M1 M2 c x (fun u j=>tget M1 k2 u=true→tget M1 u j=true→tget M1 k1 j=true)) (fun _ xv _=>ns.length - (intOf xv).toNat)
        case atStart=>exact ⟨false,0,M1,rfl,rfl,Nat.zero_le _,HI3.out,(fun _=>⟨rfl,fun u j h=>absurd h (Nat.not_lt_zero _)⟩),fun h=>by cases h⟩
        case round=>
         obtain ⟨c,x,M2,rfl,rfl,hL⟩:=hrel
         have HL:=hide hL
         have hxle:=hL.le
         clear hL
         by_cases hxn:x < ns.length
         ·obtain ⟨gv2,Q2,gq,cq,hgq,hQ2,lQ2,_,rq,_,hcq,_⟩:=HL.out.ptI.reads rfl hl2
          injection hgq with hgq
          injection hgq with hgq
          subst hgq
          obtain ⟨y,hy⟩:∃ y,Q2[x]?=some y:=⟨_,List.getElem?_eq_getElem (by omega)⟩
          have cy:=hcq x y hy
          have HTG:Hid (tget M2 k2 x=y):=by unfold Hid; rw [tget_row hQ2,List.getD_eq_getElem?_getD,hy]; rfl
          clear hcq hy hQ2
          cases y
          ·have HR:=hide (load_skip HL.out hxn HTG.out)
           go_wp2
           go_roundw
           case rel=>exact ⟨c,x+1,M2,rfl,by go_num,HR.out⟩
           case measure=>simp [intOf]; omega
          ·have hskip:=hxn
           obtain ⟨X2,hX2,lX2⟩:=HL.out.ptI.row hl1
           obtain ⟨Z2,hZ2,lZ2⟩:=HL.out.ptI.row hxn
           have hfw:=flows_any w.heap.size (.slice (some ⟨gv,0,none⟩) ns.length vc) M2 rv k1 x X2 Z2 wr (by rw [HL.out.ptI.len]; omega) HL.out.ptI.own hX2 hZ2
           go_wp2_with fail
           refine hfw.mono ?_
           rintro e w4 ⟨u,hu,rfl,ho4,hk4'⟩
           have HR:=hide (load_step HL.out hxn HTG.out hX2 hZ2 lX2 lZ2 hu HP1.out HQ1.out HME.out ho4 hk4')
           clear hfw hu ho4 hk4' cy rq
           generalize newK X2 Z2 M2.length=d at HR ⊢
           cases c <;> cases d
           all_goals
            go_wp2
            go_roundw
            case rel=>exact ⟨_,x+1,_,rfl,by go_num,HR.out⟩
            case measure=>simp [intOf]; omega
         ·have hxe:x=ns.length:=by omega
          subst hxe
          have HR:=hide (HNX.out _ _ _ (PtL.load hnd HP1.out HQ1.out HI3.out HL.out))
          cases ch <;> cases c
          all_goals
           go_wp2
           go_roundw
           case rel=>exact ⟨_,i+1,_,rfl,by go_num,HR.out⟩
           case measure=>simp [intOf]; omega
       ·clear hcx hcy hfz rx ry
        go_wp2_with fail
        go_loopw [11,14] (fun cv xv wr=>∃ (c:Bool) (x:Nat) (M2:List (List Bool)),cv=.bool c∧xv=.int .i64 x∧PtL fs ns w wr (.slice (some ⟨gv,0,none⟩) ns.length vc) rv M1 M2 c x (fun u j=>tget M1 k1 u=true→tget M1 k2 j=true→tget M1 u j=true)) (fun _ xv _=>ns.length - (intOf xv).toNat)
        case atStart=>exact ⟨false,0,M1,rfl,rfl,Nat.zero_le _,HI3.out,(fun _=>⟨rfl,fun u j h=>absurd h (Nat.not_lt_zero _)⟩),fun h=>by cases h⟩
        case round=>
         obtain ⟨c,x,M2,rfl,rfl,hL⟩:=hrel
         have HL:=hide hL
         have hxle:=hL.le
         clear hL
         by_cases hxn:x < ns.length
         ·obtain ⟨gv2,Q2,gq,cq,hgq,hQ2,lQ2,_,rq,_,hcq,_⟩:=HL.out.ptI.reads rfl hl1
          injection hgq with hgq
          injection hgq with hgq
          subst hgq
          obtain ⟨y,hy⟩:∃ y,Q2[x]?=some y:=⟨_,List.getElem?_eq_getElem (by omega)⟩
          have cy:=hcq x y hy
          have HTG:Hid (tget M2 k1 x=y):=by unfold Hid; rw [tget_row hQ2,List.getD_eq_getElem?_getD,hy]; rfl
          clear hcq hy hQ2
          cases y
          ·have HR:=hide (store_skip HL.out hxn HTG.out)
           go_wp2
           go_roundw
           case rel=>exact ⟨c,x+1,M2,rfl,by go_num,HR.out⟩
           case measure=>simp [intOf]; omega
          ·have hskip:=hxn
           obtain ⟨Z2,hZ2,lZ2⟩:=HL.out.ptI.row hxn
           obtain ⟨Y2,hY2,lY2⟩:=HL.out.ptI.row hl2
           have hfw:=flows_any w.heap.size (.slice (some ⟨gv,0,none⟩) ns.length vc) M2 rv x k2 Z2 Y2 wr (by rw [HL.out.ptI.len]; omega) HL.out.ptI.own hZ2 hY2
           go_wp2_with fail
           refine hfw.mono ?_
           rintro e w4 ⟨u,hu,rfl,ho4,hk4'⟩
           have HR:=hide (store_step HL.out hxn HTG.out hZ2 hY2 lZ2 lY2 hu HP1.out HQ1.out HME.out ho4 hk4')
           clear hfw hu ho4 hk4' cy rq
           generalize newK Z2 Y2 M2.length=d at HR ⊢
           cases c <;> cases d
           all_goals
            go_wp2
            go_roundw
            case rel=>exact ⟨_,x+1,_,rfl,by go_num,HR.out⟩
            case measure=>simp [intOf]; omega
         ·have hxe:x=ns.length:=by omega
          subst hxe
          have HR:=hide (HNX.out _ _ _ (PtL.store hnd HP1.out HQ1.out HI3.out HL.out))
          cases ch <;> cases c
          all_goals
           go_wp2
           go_roundw
           case rel=>exact ⟨_,i+1,_,rfl,by go_num,HR.out⟩
           case measure=>simp [intOf]; omega
      ·have hie:i=fs.length:=by omega
       subst hie
       have HC:Hid (ch=false→∀ f∈fs,closedF ns M1 f):=by
        intro hc f hfm
        obtain ⟨j,hj⟩:=List.getElem?_of_mem hfm
        obtain ⟨e1,e2⟩:=HJ.out.no hc
        rw [e1]
        exact e2 j f (lt_get hj) hj
       have hcw1:=HCT.out _ _ _ _ _ HJ.out.ptI.own
       have hcb:cntM M1≤ns.length * ns.length:=by
        have:=cnt_le (M:=M1) (n:=ns.length) (fun r hr=>by
         obtain ⟨j,hj⟩:=List.getElem?_of_mem hr
         obtain ⟨X,hX,lX⟩:=HJ.out.ptI.row (i:=j) (by have:=lt_get hj; rw [HJ.out.ptI.len] at this; exact this)
         rw [hj] at hX
         injection hX with hX
         rw [hX,lX]
         exact Nat.le_refl _)
        rw [HJ.out.ptI.len] at this
        exact this
       have HMS:Hid (2 * (ns.length * ns.length - cntW w.heap.size (.slice va ns.length vc) rv wr)+bit (.bool ch) < 2 * (ns.length * ns.length - cntW w.heap.size (.slice va ns.length vc) rv wo)+bit (.bool true)):=by
        unfold Hid
        rw [hcw1,HCW.out]
        cases hc:ch
        ·rw [(HJ.out.no hc).1]
         simp [bit]
        ·have:=HJ.out.yes hc
         simp only [bit]
         omega
       clear hcw1 hcb
       go_wp2
       go_roundw
       case rel=>exact ⟨ch,M1,rfl,HJ.out.ptI,HC.out⟩
       case measure=>exact HMS.out
end
end Go.Proofs.YtiamlbhkiehilaaGreatDoor
