import Derived.Test.YtiamlbhkiehilaaGreatDoorAn19
import Derived.Test.YtiamlbhkiehilaaGreatDoorAn07
namespace Go.Proofs.YtiamlbhkiehilaaGreatDoor
section
open Go.RowKit Go.Maps
theorem own_read {w:World} {B:Nat} {e:TypeId} {size n:Nat} {v:Value} {xs:List Value} (h:w.ownsRow B e size v n xs) (hn:0 < n):∃ g cap,v=.slice (some ⟨g,0,none⟩) n cap∧g < w.heap.size∧∀ (j:Nat) u,xs[j]?=some u→w.cell? ⟨g,j,none⟩=some u:=by
 obtain ⟨ao,cap,rfl,hao⟩:=own_form h
 obtain ⟨g,rfl⟩:=hao hn
 exact ⟨g,cap,rfl,(h.lt g rfl).2,(own_cell h).1⟩
end
section
open Go.RowKit Go.Maps
theorem set_self {α:Type} {l:List α} {i:Nat} {x:α} (h:l[i]?=some x):l.set i x=l:=by
 obtain ⟨hi,rfl⟩:=List.getElem?_eq_some_iff.1 h
 exact List.set_getElem_self hi
structure OwnM (w:World) (B:Nat) (v:Value) (M:List (List Bool)) (rv:List Value):Prop where
 len:rv.length=M.length
 row:w.ownsRow B 99 1 v M.length rv
 rows:∀ (i:Nat) r u,M[i]?=some r→rv[i]?=some u→r.length=M.length∧w.ownsRow B 4 1 u r.length (r.map Value.bool)
 sep:∀ (i j:Nat) t u,i≠j→rv[i]?=some t→rv[j]?=some u→t.ownBlock=none∨t.ownBlock≠u.ownBlock
def orK (X Y:List Bool) (k:Nat):List Bool:=(List.zipWith or X Y).take k ++ X.drop k
theorem orK_zero (X Y:List Bool):orK X Y 0=X:=by simp [orK]
theorem orK_len {X Y:List Bool} (h:X.length=Y.length) (k:Nat):(orK X Y k).length=X.length:=by
 simp [orK,List.length_zipWith]
 omega
theorem orK_get {X Y:List Bool} (h:X.length=Y.length) {k:Nat} (hk:k < X.length):(orK X Y k)[k]?=X[k]?:=by
 unfold orK
 have hl:((List.zipWith or X Y).take k).length=k:=by rw [List.length_take,List.length_zipWith]; omega
 rw [List.getElem?_append_right (by omega),hl,Nat.sub_self,List.getElem?_drop]
 rfl
theorem orK_step {X Y:List Bool} (h:X.length=Y.length) {k:Nat} {x y:Bool} (hx:X[k]?=some x) (hy:Y[k]?=some y):orK X Y (k+1)=(orK X Y k).set k (x || y):=by
 have hk:k < X.length:=lt_get hx
 have hz:(List.zipWith or X Y)[k]?=some (x || y):=by rw [List.getElem?_zipWith,hx,hy]
 unfold orK
 have hl:((List.zipWith or X Y).take k).length=k:=by rw [List.length_take,List.length_zipWith]; omega
 rw [take_next hz,drop_here hx,List.set_append_right _ _ (by omega),hl,Nat.sub_self,List.set_cons_zero,List.append_assoc]
 rfl
theorem orK_same (X:List Bool) (k:Nat):orK X X k=X:=by
 unfold orK
 have:List.zipWith or X X=X:=by
  induction X with
  | nil=>rfl
  | cons a r ih=>simp
 rw [this,List.take_append_drop]
def newK (X Y:List Bool) (k:Nat):Bool:=((X.zip Y).take k).any fun x=>x.2 && !x.1
theorem newK_step {X Y:List Bool} {k:Nat} {x y:Bool} (hx:X[k]?=some x) (hy:Y[k]?=some y):newK X Y (k+1)=(newK X Y k || (y && !x)):=by
 have hz:(X.zip Y)[k]?=some (x,y):=by rw [List.getElem?_zip_eq_some]; exact ⟨hx,hy⟩
 unfold newK
 rw [take_next hz,List.any_append]
 simp
structure FlInv (w wr:World) (B:Nat) (v:Value) (M:List (List Bool)) (rv:List Value) (a i:Nat) (X Y:List Bool) (u:Value) (ch:Bool):Prop where
 le:i≤M.length
 own:OwnM wr B v (M.set a (orK X Y i)) rv
 chg:ch=newK X Y i
 kb:Kb u.ownBlock.toList w wr
theorem OwnM.set {w:World} {B:Nat} {v:Value} {M:List (List Bool)} {rv:List Value} (h:OwnM w B v M rv) {a i g cap:Nat} {Z:List Bool} (hZ:M[a]?=some Z) (hu:rv[a]?=some (.slice (some ⟨g,0,none⟩) Z.length cap)) (x:Bool) :
  OwnM (w.setCell ⟨g,i,none⟩ (.bool x)) B v (M.set a (Z.set i x)) rv:=by
 have hz:=h.rows a Z _ hZ hu
 have hk:Kb [g] w (w.setCell ⟨g,i,none⟩ (.bool x)):=(Kb.refl _ _).setCell (p:=⟨g,i,none⟩) (.inl (by simp)) _
 have hg:∀ {e:TypeId} {size n:Nat} {t:Value} {ys:List Value},w.ownsRow B e size t n ys→(t.ownBlock=none∨t.ownBlock≠some g)→(w.setCell ⟨g,i,none⟩ (.bool x)).ownsRow B e size t n ys:=by
  intro e size n t ys ho ht
  refine own_kbL ho hk (fun b hb heq=>?_)
  rw [List.mem_singleton.1 hb] at heq
  rcases ht with ht | ht
  ·rw [ht] at heq; cases heq
  ·exact ht heq
 refine ⟨by rw [List.length_set]; exact h.len,?_,?_,h.sep⟩
 ·rw [List.length_set]
  exact hg h.row (own_ne h.row hz.2 (by decide))
 ·intro j r t hr ht
  rw [List.length_set]
  by_cases hj:j=a
  ·subst hj
   rw [List.getElem?_set_self (lt_get hZ)] at hr
   injection hr with hr
   subst hr
   rw [hu] at ht
   injection ht with ht
   subst ht
   rw [List.length_set]
   refine ⟨hz.1,?_⟩
   have:=own_set hz.2 i (.bool x)
   rw [List.map_set]
   exact this
  ·rw [List.getElem?_set_ne (by omega)] at hr
   obtain ⟨h1,h2⟩:=h.rows j r t hr ht
   exact ⟨h1,hg h2 (h.sep j a t _ hj ht hu)⟩
set_option maxRecDepth 100000 in
set_option maxHeartbeats 1000000 in
theorem flows_any (B:Nat) (v:Value) (M:List (List Bool)) (rv:List Value) (a b:Nat) (X Y:List Bool) (w:World) (hn:M.length≤1000) (h:OwnM w B v M rv) (hX:M[a]?=some X) (hY:M[b]?=some Y) :
  Calls Tryz.prog 81 #[v,.int .i64 a,.int .i64 b] w fun e w'=>∃ u,rv[a]?=some u∧e=.returned (.bool (newK X Y M.length))∧OwnM w' B v (M.set a (orK X Y M.length)) rv∧Kb u.ownBlock.toList w w':=by
 have hla:=lt_get hX
 have hlb:=lt_get hY
 obtain ⟨u,hu⟩:∃ u,rv[a]?=some u:=⟨_,List.getElem?_eq_getElem (by rw [h.len]; exact hla)⟩
 obtain ⟨ub,hub⟩:∃ u,rv[b]?=some u:=⟨_,List.getElem?_eq_getElem (by rw [h.len]; exact hlb)⟩
 have hXl:=(h.rows a X u hX hu).1
 have hYl:=(h.rows b Y ub hY hub).1
 obtain ⟨ga,ca,rfl,_,_⟩:=own_read (h.rows a X u hX hu).2 (by omega)
 obtain ⟨gb,cb,rfl,_,_⟩:=own_read (h.rows b Y ub hY hub).2 (by omega)
 obtain ⟨gv,kv,rfl,_,_⟩:=own_read h.row (by omega)
 have hset:M.set a (orK X Y 0)=M:=by rw [orK_zero]; exact set_self hX
 go_enter Tryz.func81,Tryz.ntmps81
 go_wp2
 have HS:=hide h
 go_loopw [7,8] (fun cv iv wr=>∃ (i:Nat) (ch:Bool),cv=.bool ch∧iv=.int .i64 i∧FlInv w wr B (.slice (some ⟨gv,0,none⟩) M.length kv) M rv a i X Y (.slice (some ⟨ga,0,none⟩) X.length ca) ch) (fun _ iv _=>M.length - (intOf iv).toNat)
 case atStart=>exact ⟨0,false,rfl,rfl,Nat.zero_le _,by rw [hset]; exact h,by simp [newK],Kb.refl _ _⟩
 case round=>
  clear h
  obtain ⟨i,ch,rfl,rfl,hi⟩:=hrel
  have hle:=hi.le
  by_cases hlt:i < M.length
  ·obtain ⟨x,hx⟩:∃ x,X[i]?=some x:=⟨_,List.getElem?_eq_getElem (by omega)⟩
   obtain ⟨y,hy⟩:∃ y,Y[i]?=some y:=⟨_,List.getElem?_eq_getElem (by omega)⟩
   have hXY:X.length=Y.length:=by omega
   have hol:(orK X Y i).length=X.length:=orK_len hXY i
   have hMa:(M.set a (orK X Y i))[a]?=some (orK X Y i):=List.getElem?_set_self hla
   have hox:(orK X Y i)[i]?=some x:=by rw [orK_get hXY (by omega)]; exact hx
   obtain ⟨Z,hMb,hZl,hZi⟩:∃ Z,(M.set a (orK X Y i))[b]?=some Z∧Z.length=Y.length∧Z[i]?=some y:=by
    by_cases hab:b=a
    ·subst hab
     have e:X=Y:=Option.some.inj (hX.symm.trans hY)
     subst e
     exact ⟨_,hMa,hol,by rw [orK_same]; exact hy⟩
    ·exact ⟨Y,by rw [List.getElem?_set_ne (by omega)]; exact hY,rfl,hy⟩
   have hrow:=hi.own.row
   rw [List.length_set] at hrow
   have ra:=(own_cell hrow).1 a _ hu
   have rb:=(own_cell hrow).1 b _ hub
   have oa:=(hi.own.rows a _ _ hMa hu).2
   rw [hol] at oa
   have ob:=(hi.own.rows b _ _ hMb hub).2
   rw [hZl] at ob
   have ca0:=(own_cell oa).1 i (.bool x) (by rw [List.getElem?_map,hox]; rfl)
   have cb0:=(own_cell ob).1 i (.bool y) (by rw [List.getElem?_map,hZi]; rfl)
   have za:=(own_cell oa).2 i
   have hstep:=orK_step hXY hx hy
   have hchg:=newK_step hx hy
   have hown:=hi.own
   have hkb:=hi.kb
   have hce:=hi.chg
   have HD:=hide (And.intro hstep (And.intro hchg (And.intro hown hce)))
   have HMA:=hide hMa
   have HOX:=hide hox
   clear hi hrow oa ob hMa hMb hstep hchg hown hce hox hx hy hZi hXY
   cases y
   ·have HI:Hid (FlInv w wr B (.slice (some ⟨gv,0,none⟩) M.length kv) M rv a (i+1) X Y (.slice (some ⟨ga,0,none⟩) X.length ca) ch):=by
     obtain ⟨h1,h2,h3,h4⟩:=HD.out
     exact ⟨hlt,by rw [h1,Bool.or_false,set_self HOX.out]; exact h3,by rw [h2,h4]; simp,hkb⟩
    go_wp2
    go_roundw
    case rel=>exact ⟨i+1,ch,rfl,by go_num,HI.out⟩
    case measure=>simp [intOf]; omega
   ·cases x
    ·have HI:Hid (FlInv w (wr.setCell ⟨ga,i,none⟩ (.bool true)) B (.slice (some ⟨gv,0,none⟩) M.length kv) M rv a (i+1) X Y (.slice (some ⟨ga,0,none⟩) X.length ca) true):=by
      obtain ⟨h1,h2,h3,h4⟩:=HD.out
      refine ⟨hlt,?_,by rw [h2]; simp,hkb.setCell (p:=⟨ga,i,none⟩) (.inl (by simp [Value.ownBlock])) _⟩
      have:=h3.set (i:=i) HMA.out (by rw [hol]; exact hu) true
      rw [List.set_set] at this
      rw [h1]
      exact this
     go_wp2
     go_roundw
     case rel=>exact ⟨i+1,true,rfl,by go_num,HI.out⟩
     case measure=>simp [intOf]; omega
    ·have HI:Hid (FlInv w wr B (.slice (some ⟨gv,0,none⟩) M.length kv) M rv a (i+1) X Y (.slice (some ⟨ga,0,none⟩) X.length ca) ch):=by
      obtain ⟨h1,h2,h3,h4⟩:=HD.out
      exact ⟨hlt,by rw [h1,Bool.true_or,set_self HOX.out]; exact h3,by rw [h2,h4]; simp,hkb⟩
     go_wp2
     go_roundw
     case rel=>exact ⟨i+1,ch,rfl,by go_num,HI.out⟩
     case measure=>simp [intOf]; omega
  ·have hin:i=M.length:=by omega
   subst hin
   have hfin:=hide hi
   clear hi
   go_wp2
   go_ret
   exact ⟨_,hu,by rw [← hfin.out.chg]; rfl,hfin.out.own,hfin.out.kb⟩
end
section
open Go.RowKit Go.Maps
def Pts (fs:List Fct) (p x:ByteArray):Prop:=∀ R:ByteArray→ByteArray→Prop,(∀ p q,(⟨1,p,q⟩:Fct)∈fs→R p q)→(∀ p q x,(⟨2,p,q⟩:Fct)∈fs→R q x→R p x)→(∀ p q v x,(⟨3,p,q⟩:Fct)∈fs→R q v→R v x→R p x)→(∀ p q v x,(⟨4,p,q⟩:Fct)∈fs→R p v→R q x→R v x)→R p x
theorem Pts.addr {fs:List Fct} {p q:ByteArray} (h:(⟨1,p,q⟩:Fct)∈fs):Pts fs p q:=fun _ a _ _ _=>a p q h
theorem Pts.copy {fs:List Fct} {p q x:ByteArray} (h:(⟨2,p,q⟩:Fct)∈fs) (h1:Pts fs q x):Pts fs p x:=fun R a b c d=>b p q x h (h1 R a b c d)
theorem Pts.load {fs:List Fct} {p q v x:ByteArray} (h:(⟨3,p,q⟩:Fct)∈fs) (h1:Pts fs q v) (h2:Pts fs v x):Pts fs p x:=fun R a b c d=>c p q v x h (h1 R a b c d) (h2 R a b c d)
theorem Pts.store {fs:List Fct} {p q v x:ByteArray} (h:(⟨4,p,q⟩:Fct)∈fs) (h1:Pts fs p v) (h2:Pts fs q x):Pts fs v x:=fun R a b c d=>d p q v x h (h1 R a b c d) (h2 R a b c d)
theorem Pts.ind {fs:List Fct} {motive:∀ p x,Pts fs p x→Prop} (addr:∀ {p q:ByteArray} (h:(⟨1,p,q⟩:Fct)∈fs),motive p q (.addr h)) (copy:∀ {p q x:ByteArray} (h:(⟨2,p,q⟩:Fct)∈fs) (h1:Pts fs q x),motive q x h1→motive p x (.copy h h1))
  (load:∀ {p q v x:ByteArray} (h:(⟨3,p,q⟩:Fct)∈fs) (h1:Pts fs q v) (h2:Pts fs v x),motive q v h1→motive v x h2→motive p x (.load h h1 h2)) (store:∀ {p q v x:ByteArray} (h:(⟨4,p,q⟩:Fct)∈fs) (h1:Pts fs p v) (h2:Pts fs q x),motive p v h1→motive q x h2→motive v x (.store h h1 h2))
  {p x:ByteArray} (t:Pts fs p x):motive p x t:=by
 obtain ⟨_,h⟩:=t (fun p x=>∃ h:Pts fs p x,motive p x h) (fun p q h=>⟨.addr h,addr h⟩) (fun p q x h ⟨h1,i1⟩=>⟨.copy h h1,copy h h1 i1⟩) (fun p q v x h ⟨h1,i1⟩ ⟨h2,i2⟩=>⟨.load h h1 h2,load h h1 h2 i1 i2⟩) (fun p q v x h ⟨h1,i1⟩ ⟨h2,i2⟩=>⟨.store h h1 h2,store h h1 h2 i1 i2⟩)
 exact h
def tget (M:List (List Bool)) (i j:Nat):Bool:=(M.getD i []).getD j false
theorem tget_row {M:List (List Bool)} {i:Nat} {r:List Bool} (h:M[i]?=some r) (j:Nat):tget M i j=r.getD j false:=by simp [tget,h]
theorem tget_some {M:List (List Bool)} {i j:Nat} (h:tget M i j=true):∃ r,M[i]?=some r∧r[j]?=some true:=by
 unfold tget at h
 cases hr:M[i]? with
 | none=>simp [hr] at h
 | some r=>
  refine ⟨r,rfl,?_⟩
  simp only [List.getD_eq_getElem?_getD,hr,Option.getD_some] at h
  cases hj:r[j]? with
  | none=>rw [hj] at h; cases h
  | some b=>rw [hj] at h; simp only [Option.getD_some] at h; rw [h]
theorem tget_set_ne {M:List (List Bool)} {a i:Nat} (h:i≠a) (R:List Bool) (j:Nat):tget (M.set a R) i j=tget M i j:=by
 simp [tget,List.getElem?_set_ne (Ne.symm h)]
theorem tget_set_eq {M:List (List Bool)} {a:Nat} (h:a < M.length) (R:List Bool) (j:Nat):tget (M.set a R) a j=R.getD j false:=by
 simp [tget,h]
def closedF (ns:List ByteArray) (M:List (List Bool)) (f:Fct):Prop:=
 (f.k=1→∀ i j,ns[i]?=some f.p→ns[j]?=some f.q→tget M i j=true) ∧
 (f.k=2→∀ i j x,ns[i]?=some f.p→ns[j]?=some f.q→tget M j x=true→tget M i x=true) ∧
 (f.k=3→∀ i j v x,ns[i]?=some f.p→ns[j]?=some f.q→tget M j v=true→tget M v x=true→tget M i x=true) ∧
 (f.k=4→∀ i j v x,ns[i]?=some f.p→ns[j]?=some f.q→tget M i v=true→tget M j x=true→tget M v x=true)
def soundM (fs:List Fct) (ns:List ByteArray) (M:List (List Bool)):Prop:=∀ i j,tget M i j=true→∃ a b,ns[i]?=some a∧ns[j]?=some b∧Pts fs a b
theorem pts_table {fs:List Fct} {ns:List ByteArray} {M:List (List Bool)} (hnd:ns.Nodup) (hall:∀ f∈fs,f.p∈ns∧f.q∈ns) (hc:∀ f∈fs,closedF ns M f) {a b:ByteArray} (h:Pts fs a b):∃ i j,ns[i]?=some a∧ns[j]?=some b∧tget M i j=true:=by
 have inj:∀ {i j:Nat} {x:ByteArray},ns[i]?=some x→ns[j]?=some x→i=j:=by
  intro i j x hi hj
  obtain ⟨h1,h2⟩:=List.getElem?_eq_some_iff.1 hi
  obtain ⟨h3,h4⟩:=List.getElem?_eq_some_iff.1 hj
  exact (List.getElem_inj (h₀:=h1) (h₁:=h3) hnd).1 (h2.trans h4.symm)
 induction h using Pts.ind with
 | addr hm=>
  obtain ⟨hp,hq⟩:=hall _ hm
  obtain ⟨i,hi⟩:=List.getElem?_of_mem hp
  obtain ⟨j,hj⟩:=List.getElem?_of_mem hq
  exact ⟨i,j,hi,hj,(hc _ hm).1 rfl i j hi hj⟩
 | copy hm _ ih=>
  obtain ⟨hp,_⟩:=hall _ hm
  obtain ⟨i,hi⟩:=List.getElem?_of_mem hp
  obtain ⟨j,x,hj,hx,ht⟩:=ih
  exact ⟨i,x,hi,hx,(hc _ hm).2.1 rfl i j x hi hj ht⟩
 | load hm _ _ ih1 ih2=>
  obtain ⟨hp,_⟩:=hall _ hm
  obtain ⟨i,hi⟩:=List.getElem?_of_mem hp
  obtain ⟨j,v,hj,hv,ht⟩:=ih1
  obtain ⟨v',x,hv',hx,ht'⟩:=ih2
  have:=inj hv' hv
  subst this
  exact ⟨i,x,hi,hx,(hc _ hm).2.2.1 rfl i j _ x hi hj ht ht'⟩
 | store hm _ _ ih1 ih2=>
  obtain ⟨i,v,hi,hv,ht⟩:=ih1
  obtain ⟨j,x,hj,hx,ht'⟩:=ih2
  exact ⟨v,x,hv,hx,(hc _ hm).2.2.2 rfl i j v x hi hj ht ht'⟩
def cntM (M:List (List Bool)):Nat:=(M.map (List.count true)).sum
theorem cnt_set {M:List (List Bool)} {a:Nat} {X:List Bool} (h:M[a]?=some X) (R:List Bool):cntM (M.set a R)+X.count true=cntM M+R.count true:=by
 induction M generalizing a with
 | nil=>simp at h
 | cons Z q ih=>
  cases a with
  | zero=>
   simp at h
   subst h
   simp only [cntM,List.set_cons_zero,List.map_cons,List.sum_cons]
   omega
  | succ a=>
   rw [List.getElem?_cons_succ] at h
   have:=ih h
   simp only [cntM,List.set_cons_succ,List.map_cons,List.sum_cons] at this ⊢
   omega
theorem cnt_le {M:List (List Bool)} {n:Nat} (h:∀ r∈M,r.length≤n):cntM M≤M.length * n:=by
 induction M with
 | nil=>simp [cntM]
 | cons Z q ih=>
  have h1:=ih (fun r hr=>h r (by simp [hr]))
  have h2:=h Z (by simp)
  have h3:Z.count true≤Z.length:=List.count_le_length
  simp only [cntM,List.map_cons,List.sum_cons,List.length_cons,Nat.succ_mul] at h1 ⊢
  omega
theorem orK_full {X Y:List Bool} (h:X.length=Y.length):orK X Y X.length=List.zipWith or X Y:=by
 unfold orK
 rw [List.drop_length,List.append_nil,List.take_of_length_le (by rw [List.length_zipWith]; omega)]
theorem newK_full {X Y:List Bool} (h:X.length=Y.length):newK X Y X.length=(X.zip Y).any fun x=>x.2 && !x.1:=by
 unfold newK
 rw [List.take_of_length_le (by rw [List.length_zip]; omega)]
theorem or_count (X Y:List Bool) (h:X.length=Y.length):X.count true≤(List.zipWith or X Y).count true∧(((X.zip Y).any fun x=>x.2 && !x.1)=true→X.count true < (List.zipWith or X Y).count true)∧(((X.zip Y).any fun x=>x.2 && !x.1)=false→List.zipWith or X Y=X∧∀ j,Y.getD j false=true→X.getD j false=true) ∧
  ∀ j,(List.zipWith or X Y).getD j false=(X.getD j false || Y.getD j false):=by
 induction X generalizing Y with
 | nil=>
  cases Y with
  | nil=>simp
  | cons b Y=>simp at h
 | cons a X ih=>
  cases Y with
  | nil=>simp at h
  | cons b Y=>
   simp only [List.length_cons,Nat.add_right_cancel_iff] at h
   obtain ⟨h1,h2,h3,h4⟩:=ih Y h
   refine ⟨?_,?_,?_,?_⟩
   ·cases a <;> cases b <;> simp <;> omega
   ·intro hn
    cases a <;> cases b <;> simp at hn ⊢
    ·exact h2 (by simpa using hn)
    ·omega
    ·exact h2 (by simpa using hn)
    ·exact h2 (by simpa using hn)
   ·intro hn
    cases a <;> cases b <;> simp at hn
    ·obtain ⟨e1,e2⟩:=h3 (by simpa using hn)
     refine ⟨by simp [e1],fun j hj=>?_⟩
     cases j with
     | zero=>simp at hj
     | succ j=>simpa using e2 j (by simpa using hj)
    ·obtain ⟨e1,e2⟩:=h3 (by simpa using hn)
     refine ⟨by simp [e1],fun j hj=>?_⟩
     cases j with
     | zero=>simp
     | succ j=>simpa using e2 j (by simpa using hj)
    ·obtain ⟨e1,e2⟩:=h3 (by simpa using hn)
     refine ⟨by simp [e1],fun j hj=>?_⟩
     cases j with
     | zero=>simp
     | succ j=>simpa using e2 j (by simpa using hj)
   ·intro j
    cases j with
    | zero=>simp
    | succ j=>simpa using h4 j
end
section
open Go.RowKit Go.Maps
set_option maxRecDepth 100000 in
set_option maxHeartbeats 1000000 in
theorem place_any (v:Value) (ns:List ByteArray) (s:ByteArray) (w:World) (hlen:ns.length≤1000000) (hv:IsStrs v ns w) :
  Calls Tryz.prog 80 #[v,.string s] w fun e w'=>∃ k:Nat,e=.returned (.int .i64 k)∧(s∈ns→ns[k]?=some s)∧Below w.heap.size w w':=by
 obtain ⟨ao,ca,rfl,_,_,hfa⟩:=hv
 have HA:=hide hfa
 clear hfa
 go_enter Tryz.func80,Tryz.ntmps80
 go_wp2
 go_loopw [5] (fun iv wr=>∃ i:Nat,iv=.int .i64 i∧i≤ns.length∧(∀ j,j < i→ns[j]?≠some s)∧Below w.heap.size w wr) (fun iv _=>ns.length - (intOf iv).toNat)
 case atStart=>exact ⟨0,rfl,Nat.zero_le _,(fun j hj=>absurd hj (Nat.not_lt_zero _)),Below.refl _ _⟩
 case round=>
  obtain ⟨i,rfl,hi,hno,hbx⟩:=hrel
  have HNO:=hide hno
  clear hno
  by_cases hlt:i < ns.length
  ·obtain ⟨x,hx⟩:∃ x,ns[i]?=some x:=⟨_,List.getElem?_eq_getElem hlt⟩
   have hne:ns≠[]:=by intro e; rw [e] at hlt; simp at hlt
   obtain ⟨b,off,rfl,hb,hf⟩:=HA.out hne
   have c0:=(hf.below hbx hb) i x hx
   by_cases he:x=s
   ·subst he
    have HX:=hide hx
    clear hf hx
    go_wp2
    go_ret
    exact ⟨i,rfl,fun _=>HX.out,hbx⟩
   ·have heq:(x.toList == s.toList)=false:=by
     rw [beq_eq_false_iff_ne]
     intro h
     exact he (bytes_inj (by rwa [ByteArray.toList_eq,ByteArray.toList_eq] at h))
    have HN:Hid (∀ j,j < i+1→ns[j]?≠some s):=by
     intro j hj
     by_cases hji:j=i
     ·subst hji; rw [hx]; intro h; exact he (Option.some.inj h)
     ·exact HNO.out j (by omega)
    clear hf hx
    go_wp2
    go_roundw
    case rel=>exact ⟨i+1,by go_num,hlt,HN.out,hbx⟩
    case measure=>simp [intOf]; omega
  ·have HF:Hid (s∈ns→ns[0]?=some s):=by
    intro hm
    obtain ⟨j,hj⟩:=List.getElem?_of_mem hm
    exact absurd hj (HNO.out j (by have:=lt_get hj; omega))
   go_wp2
   go_ret
   exact ⟨0,rfl,HF.out,hbx⟩
end
section
open Go.RowKit Go.Maps
theorem map_bool_inj {a b:List Bool} (h:a.map Value.bool=b.map Value.bool):a=b:=by
 induction a generalizing b with
 | nil=>cases b with
  | nil=>rfl
  | cons y t=>simp at h
 | cons x r ih=>cases b with
  | nil=>simp at h
  | cons y t=>
   rw [List.map_cons,List.map_cons] at h
   injection h with h1 h2
   injection h1 with h1
   rw [h1,ih h2]
theorem own_unique {w:World} {B:Nat} {e:TypeId} {size n:Nat} {v:Value} {xs ys:List Value} (h:w.ownsRow B e size v n xs) (h':w.ownsRow B e size v n ys):xs=ys:=by
 rcases h.2 with ⟨rfl,h0⟩ | ⟨g,cap,cur,rfl,_,hg,_,_,_,ht⟩
 ·have e1:=h.1
  have e2:=h'.1
  rw [h0,Nat.zero_mul] at e1 e2
  rw [List.length_eq_zero_iff.1 e1,List.length_eq_zero_iff.1 e2]
 ·rcases h'.2 with ⟨hv,_⟩ | ⟨g',cap',cur',hv,_,hg',_,_,_,ht'⟩
  ·cases hv
  ·injection hv with hv _ _
   injection hv with hv
   injection hv with hv
   subst hv
   rw [hg] at hg'
   injection hg' with hg'
   injection hg' with hg'
   subst hg'
   rw [← ht,← ht']
theorem OwnM.unique {w:World} {B:Nat} {v:Value} {M M':List (List Bool)} {rv:List Value} (h:OwnM w B v M rv) (h':OwnM w B v M' rv):M=M':=by
 have hl:M.length=M'.length:=by rw [← h.len,h'.len]
 refine List.ext_getElem? fun i=>?_
 by_cases hi:i < M.length
 ·obtain ⟨r,hr⟩:∃ r,M[i]?=some r:=⟨_,List.getElem?_eq_getElem hi⟩
  obtain ⟨r',hr'⟩:∃ r,M'[i]?=some r:=⟨_,List.getElem?_eq_getElem (by omega)⟩
  obtain ⟨u,hu⟩:∃ u,rv[i]?=some u:=⟨_,List.getElem?_eq_getElem (by rw [h.len]; exact hi)⟩
  obtain ⟨l1,o1⟩:=h.rows i r u hr hu
  obtain ⟨l2,o2⟩:=h'.rows i r' u hr' hu
  rw [l1] at o1
  rw [l2,← hl] at o2
  rw [hr,hr',map_bool_inj (own_unique o1 o2)]
 ·rw [List.getElem?_eq_none (by omega),List.getElem?_eq_none (by omega)]
open Classical in
theorem cnt_ex:∃ f:Nat→Value→List Value→World→Nat,∀ (w:World) (B:Nat) (v:Value) (M:List (List Bool)) (rv:List Value),OwnM w B v M rv→f B v rv w=cntM M:=by
 refine ⟨fun B v rv w=>if h:∃ M,OwnM w B v M rv then cntM (Classical.choose h) else 0,?_⟩
 intro w B v M rv h
 have hx:∃ M,OwnM w B v M rv:=⟨M,h⟩
 dsimp only
 rw [dif_pos hx,(Classical.choose_spec hx).unique h]
theorem flow_pure {M:List (List Bool)} {a b n:Nat} {X Y:List Bool} (hX:M[a]?=some X) (hY:M[b]?=some Y) (lX:X.length=n) (lY:Y.length=n) :
  (newK X Y n=false→M.set a (orK X Y n)=M∧∀ j,tget M b j=true→tget M a j=true)∧(newK X Y n=true→cntM M < cntM (M.set a (orK X Y n))) ∧
  (∀ i j,tget (M.set a (orK X Y n)) i j=true→tget M i j=true∨(i=a∧tget M b j=true))∧(∀ i j,tget M i j=true→tget (M.set a (orK X Y n)) i j=true):=by
 subst lX
 have hl:X.length=Y.length:=lY.symm
 obtain ⟨h1,h2,h3,h4⟩:=or_count X Y hl
 rw [orK_full hl,newK_full hl]
 have hla:=lt_get hX
 have hc:=cnt_set hX (List.zipWith or X Y)
 refine ⟨fun hn=>?_,fun hn=>?_,?_,?_⟩
 ·obtain ⟨e1,e2⟩:=h3 hn
  refine ⟨by rw [e1]; exact set_self hX,fun j hj=>?_⟩
  rw [tget_row hY] at hj
  rw [tget_row hX]
  exact e2 j hj
 ·have:=h2 hn
  omega
 ·intro i j h
  by_cases hi:i=a
  ·subst hi
   rw [tget_set_eq hla,h4 j] at h
   rw [tget_row hX,tget_row hY]
   cases hx:X.getD j false
   ·rw [hx,Bool.false_or] at h
    exact .inr ⟨rfl,h⟩
   ·exact .inl rfl
  ·rw [tget_set_ne hi] at h
   exact .inl h
 ·intro i j h
  by_cases hi:i=a
  ·subst hi
   rw [tget_row hX] at h
   rw [tget_set_eq hla,h4 j,h,Bool.true_or]
  ·rw [tget_set_ne hi]
   exact h
theorem addr_pure {M:List (List Bool)} {a b:Nat} {X:List Bool} {x:Bool} (hX:M[a]?=some X) (hx:X[b]?=some x) :
  (x=true→M.set a (X.set b true)=M∧tget M a b=true)∧(x=false→cntM M < cntM (M.set a (X.set b true))) ∧
  (∀ i j,tget (M.set a (X.set b true)) i j=true→tget M i j=true∨(i=a∧j=b))∧tget (M.set a (X.set b true)) a b=true:=by
 have hla:=lt_get hX
 have hlb:=lt_get hx
 have hc:=cnt_set hX (X.set b true)
 refine ⟨fun h=>?_,fun h=>?_,?_,?_⟩
 ·subst h
  refine ⟨by rw [set_self hx]; exact set_self hX,?_⟩
  rw [tget_row hX,List.getD_eq_getElem?_getD,hx]
  rfl
 ·subst h
  have:(X.set b true).count true=X.count true+1:=by
   obtain ⟨hb,hv⟩:=List.getElem?_eq_some_iff.1 hx
   rw [List.count_set hb,hv]
   simp
  omega
 ·intro i j h
  by_cases hi:i=a
  ·subst hi
   rw [tget_set_eq hla,List.getD_eq_getElem?_getD] at h
   by_cases hj:j=b
   ·exact .inr ⟨rfl,hj⟩
   ·rw [List.getElem?_set_ne (Ne.symm hj)] at h
    exact .inl (by rw [tget_row hX,List.getD_eq_getElem?_getD]; exact h)
  ·rw [tget_set_ne hi] at h
   exact .inl h
 ·rw [tget_set_eq hla,List.getD_eq_getElem?_getD,List.getElem?_set_self hlb]
  rfl
end
end Go.Proofs.YtiamlbhkiehilaaGreatDoor
