import Derived.Test.YtiamlbhkiehilaaGreatDoorAn19
import Derived.Test.YtiamlbhkiehilaaGreatDoorAn13
import Derived.Test.YtiamlbhkiehilaaGreatDoorAn06
import Derived.Test.YtiamlbhkiehilaaGreatDoorAn02
import Derived.Test.YtiamlbhkiehilaaGreatDoorAn01
import Derived.Test.YtiamlbhkiehilaaGreatDoorAn08
import Derived.Lib.RowBridge
import Derived.Sort.Walk0
import Derived.Test.YtiamlbhkiehilaaGreatDoorAn07
import Derived.Test.YtiamlbhkiehilaaGreatDoorAn16
import Derived.Test.YtiamlbhkiehilaaGreatDoorAnSh
import Derived.Lib.OwnBridge
namespace Go.Proofs.YtiamlbhkiehilaaGreatDoor
section
open Go.RowKit Go.Maps
theorem strs_of_owns {w:World} {B:Nat} {v:Value} {ss:List ByteArray} (h:w.ownsRow B 9 1 v ss.length (ss.map Value.string)):IsStrs v ss w:=by
 rcases h.2 with ⟨rfl,h0⟩ | ⟨g,cap,cur,rfl,_,hg,hnc,_,hcs,htk⟩
 ·exact ⟨none,0,by rw [h0],by omega,fun _=>rfl,fun hne=>absurd (List.length_eq_zero_iff.1 h0) hne⟩
 ·refine ⟨some ⟨g,0,none⟩,cap,rfl,hnc,(fun h=>by cases h),fun _=>⟨g,0,rfl,lt_of_heap hg,?_⟩⟩
  intro i s hi
  have hl:=lt_get hi
  have hu:(ss.map Value.string)[i]?=some (.string s):=by rw [List.getElem?_map,hi]; rfl
  rw [Nat.zero_add,cell_at hg]
  rw [← htk,List.getElem?_take,if_pos (by omega)] at hu
  simpa using hu
theorem OwnR.rows {w:World} {lo hi:Nat} {v:Value} {ps:List (RowD × Value)} (h:OwnR w lo hi v ps):IsRows v (ps.map Prod.fst) w:=by
 have hl:(ps.map Prod.fst).length=ps.length:=List.length_map _
 rcases h.row.2 with ⟨rfl,h0⟩ | ⟨g,cap,cur,rfl,_,hg,hnc,_,hcs,htk⟩
 ·refine ⟨none,0,by rw [hl,h0],by rw [hl]; omega,fun _=>rfl,fun hne=>?_⟩
  have:ps=[]:=List.length_eq_zero_iff.1 h0
  subst this
  exact absurd rfl hne
 ·refine ⟨some ⟨g,0,none⟩,cap,by rw [hl],by rw [hl]; exact hnc,(fun h=>by cases h),fun _=>⟨g,0,rfl,lt_of_heap hg,?_⟩⟩
  intro i n tt hi
  rw [List.getElem?_map] at hi
  cases hp:ps[i]? with
  | none=>rw [hp] at hi; cases hi
  | some x=>
   obtain ⟨r,tv⟩:=x
   rw [hp] at hi
   have hr:r=⟨n,tt⟩:=by simpa using hi
   subst hr
   have hlt:=lt_get hp
   obtain ⟨c0,c1⟩:=cellsP_get ps i _ tv hp
   have hc:∀ j u,j < ps.length * 2→(cellsP ps)[j]?=some u→w.cell? ⟨g,0+j,none⟩=some u:=by
    intro j u hj hu
    rw [Nat.zero_add,cell_at hg]
    rw [← htk,List.getElem?_take,if_pos hj] at hu
    simpa using hu
   exact ⟨hc _ _ (by omega) c0,tv,hc _ _ (by omega) c1,strs_of_owns (h.tos i _ tv hp)⟩
theorem OwnR.nil (w:World) (lo hi:Nat):OwnR w lo hi (.slice none 0 0) []:=
 ⟨World.ownsRow_nil _ _ _ _,(fun g h=>nomatch h),(fun i r tv h=>by simp at h),(fun i r tv h=>by simp at h),(fun i j x y _ h=>by simp at h)⟩
theorem cellsP_snoc (ps:List (RowD × Value)) (r:RowD) (tv:Value):cellsP (ps ++ [(r,tv)])=cellsP ps ++ [.string r.name,tv]:=by simp [cellsP]
theorem OwnR.push {w2 w3:World} {lo hs:Nat} {v v':Value} {ps:List (RowD × Value)} {r:RowD} {tv:Value} {o:Obj} (h:OwnR w2 lo hs v ps) (hlo:lo≤hs) (ht:w2.ownsRow hs 9 1 tv r.to.length (r.to.map Value.string))
  (ho:w3.ownsRow lo 51 2 v' (ps.length+1) (cellsP ps ++ [.string r.name,tv])) (hg:(w2.alloc o).grownBy w3 v.ownBlock):OwnR w3 lo w3.heap.size v' (ps ++ [(r,tv)]):=by
 have hold:∀ (i:Nat) r' tv',ps[i]?=some (r',tv')→w3.ownsRow lo 9 1 tv' r'.to.length (r'.to.map Value.string):=fun i r' tv' hp=>((h.tos i r' tv' hp).alloc o).kept hg (own_ne (h.tos i r' tv' hp) h.row (by decide))
 have hnew:w3.ownsRow hs 9 1 tv r.to.length (r.to.map Value.string):=(ht.alloc o).kept hg (own_ne ht h.row (by decide))
 have hall:∀ (i:Nat) r' tv',(ps ++ [(r,tv)])[i]?=some (r',tv')→w3.ownsRow lo 9 1 tv' r'.to.length (r'.to.map Value.string):=by
  intro i r' tv' hp
  by_cases hi:i < ps.length
  ·rw [List.getElem?_append_left hi] at hp
   exact hold i r' tv' hp
  ·rw [List.getElem?_append_right (by omega)] at hp
   have:i - ps.length=0:=by have:=lt_get hp; simp at this; omega
   rw [this] at hp
   simp at hp
   obtain ⟨rfl,rfl⟩:=hp
   exact own_mono hnew hlo
 refine ⟨by rw [List.length_append,cellsP_snoc]; exact ho,fun g hg'=>(ho.lt g hg').2,hall,fun i r' tv' hp g hg'=>((hall i r' tv' hp).lt g hg').2,?_⟩
 intro i j x y hij hx hy
 by_cases hj:j < ps.length
 ·rw [List.getElem?_append_left hj] at hy
  rw [List.getElem?_append_left (by omega)] at hx
  exact h.sep i j x y hij hx hy
 ·have hjl:=lt_get hy
  rw [List.length_append] at hjl
  have hjl':j < ps.length+1:=hjl
  rw [List.getElem?_append_left (by omega)] at hx
  rw [List.getElem?_append_right (by omega)] at hy
  have:j - ps.length=0:=by omega
  rw [this] at hy
  simp at hy
  subst hy
  obtain ⟨r',tv'⟩:=x
  cases hq:tv'.ownBlock with
  | none=>exact .inl rfl
  | some g=>
   refine .inr (fun e=>?_)
   have h1:=h.ttop i r' tv' hx g hq
   have h2:=(ht.lt g e.symm).1
   omega
end
section
open Go.RowKit
variable {B:Nat} {c:Way} {n:Nat} {s:St}
theorem GM.types {w:World} {G:GV} (h:GM w B c n G s) {b:Nat} (hb:b∈G.foot):∃ cs T,w.heap[b]?=some (.cells cs T (0,0))∧T≠9∧T≠51∧T≠44:=by
 rcases mem_foot.1 hb with rfl | rfl | rfl | ⟨v,hv,e⟩ | e | e | e | e | e
 ·exact ⟨_,_,h.hbg,by decide,by decide,by decide⟩
 ·exact ⟨_,_,h.hbn,by decide,by decide,by decide⟩
 ·exact ⟨_,_,h.hbl,by decide,by decide,by decide⟩
 ·obtain ⟨k,hk⟩:=List.mem_iff_getElem?.1 hv
  have hkl:=(List.getElem?_eq_some_iff.1 hk).1
  obtain ⟨t,ht⟩:∃ t,s.ss[k]?=some t:=⟨_,List.getElem?_eq_getElem (by rw [h.lss,← h.lnv]; exact hkl)⟩
  obtain ⟨cs,hc⟩:=(h.sN k v t hk ht).block e
  exact ⟨cs,_,hc,by decide,by decide,by decide⟩
 ·obtain ⟨cs,hc⟩:=h.sS.block e
  exact ⟨cs,_,hc,by decide,by decide,by decide⟩
 ·obtain ⟨cs,hc⟩:=h.sI.block e
  exact ⟨cs,_,hc,by decide,by decide,by decide⟩
 ·obtain ⟨cs,hc⟩:=h.oA.block e
  exact ⟨cs,_,hc,by decide,by decide,by decide⟩
 ·obtain ⟨cs,hc⟩:=h.oN.block e
  exact ⟨cs,_,hc,by decide,by decide,by decide⟩
 ·obtain ⟨cs,hc⟩:=h.oC.block e
  exact ⟨cs,_,hc,by decide,by decide,by decide⟩
theorem own_kb2 {w w':World} {lo:Nat} {e:TypeId} {size m:Nat} {v:Value} {xs:List Value} (h:w.ownsRow lo e size v m xs) {L:List Nat} (hk:Kb L w w') (hl:∀ g,v.ownBlock=some g→g ∉ L):w'.ownsRow lo e size v m xs:=by
 refine ⟨h.1,?_⟩
 rcases h.2 with h2 | ⟨g,cap,cur,rfl,a1,a2,a3⟩
 ·exact .inl h2
 ·exact .inr ⟨g,cap,cur,rfl,a1,hk.heap a2 (hl g rfl),a3⟩
theorem own_cells {w:World} {lo:Nat} {e:TypeId} {size m:Nat} {v:Value} {xs:List Value} (h:w.ownsRow lo e size v m xs) {g:Nat} (hg:v.ownBlock=some g):∃ cs,w.heap[g]?=some (.cells cs e (0,0)):=by
 rcases h.2 with ⟨rfl,_⟩ | ⟨g',cap,cur,rfl,_,a2,_⟩
 ·cases hg
 ·cases hg
  exact ⟨_,a2⟩
def Off (w:World) (hi b:Nat):Prop:=hi≤b∨∀ cs T fz,w.heap[b]?=some (.cells cs T fz)→T≠9∧T≠51
theorem OwnR.kb {w w':World} {lo hi:Nat} {v:Value} {ps:List (RowD × Value)} (h:OwnR w lo hi v ps) {L:List Nat} (hk:Kb L w w') (hl:∀ b∈L,Off w hi b):OwnR w' lo hi v ps:=by
 refine ⟨own_kb2 h.row hk (fun g hg hm=>?_),h.top,fun i r tv hp=>own_kb2 (h.tos i r tv hp) hk (fun g hg hm=>?_),h.ttop,h.sep⟩
 ·rcases hl g hm with h1 | h1
  ·have:=h.top g hg; omega
  ·obtain ⟨cs,hc⟩:=own_cells h.row hg
   exact (h1 _ _ _ hc).2 rfl
 ·rcases hl g hm with h1 | h1
  ·have:=h.ttop i r tv hp g hg; omega
  ·obtain ⟨cs,hc⟩:=own_cells (h.tos i r tv hp) hg
   exact (h1 _ _ _ hc).1 rfl
structure RI (w:World) (B:Nat) (c:Way) (n:Nat) (G:GV) (s:St) (vn:Value) (L:List Nat) (W:World) (G':GV) (vl:Value) (ps:List (RowD × Value)) (hs:Nat) (ds:List Nat):Prop where
 li:LI w B c n G L [(w.heap.size,#[vn],44)] [] W s G'
 row:OwnR W w.heap.size hs vl ps
 hs1:w.heap.size≤hs
 hs2:hs≤W.heap.size
 dd:∀ D∈ds,W.heap[D]?=some (.deferred (some []))
 nd:ds.Nodup
 lo:∀ D∈ds,w.heap.size≤D
variable {w:World} {G:GV} {vn:Value} {L:List Nat} {W W':World} {G' G1:GV} {vl:Value} {ps:List (RowD × Value)} {hs:Nat} {ds:List Nat}
theorem RI.call (h:RI w B c n G s vn L W G' vl ps hs ds) (h1:GM W' B c n G1 s) (c1:GCh W W' G' G1):RI w B c n G s vn L W' G1 vl ps hs ds∧(∀ D,KeepsFrom D W W')∧KpB L W W':=by
 obtain ⟨a1,a2,a3⟩:=h.li.call h1 c1
 refine ⟨⟨a1,h.row.kb c1.kb (fun b hb=>.inr (fun cs T fz hc=>?_)),h.hs1,Nat.le_trans h.hs2 c1.kb.size,fun D hD=>(a2 D).same D _ (Nat.le_refl _) (h.dd D hD) rfl,h.nd,h.lo⟩,a2,a3⟩
 obtain ⟨cs',T',e,t1,t2,_⟩:=h.li.gm.types hb
 rw [hc] at e
 injection e with e
 injection e with _ e _
 rw [e]
 exact ⟨t1,t2⟩
theorem RI.fresh (h:RI w B c n G s vn L W G' vl ps hs ds) (hk:Kb [] W W'):RI w B c n G s vn L W' G' vl ps hs ds∧(∀ D,KeepsFrom D W W')∧KpB L W W':=
 h.call (h.li.gm.fresh hk) ⟨hk.mono (by simp),fun _ hb=>.inl hb,rfl,rfl,rfl⟩
theorem RI.own (h:RI w B c n G s vn L W G' vl ps hs ds) {D:Nat} (hD:w.heap.size≤D) (hds:∀ x∈ds,x < D) {row:Option Nat} (hg:W.grownBy W' row) (hr:∀ r,row=some r→D≤r∧∃ o:Obj,W.heap[r]?=some o∧o.isCells=false):RI w B c n G s vn L W' G' vl ps hs ds:=by
 have hk:=kb_grown hg
 refine ⟨h.li.own hD hg hr,h.row.kb hk (fun b hb=>.inr (fun cs T fz hc=>?_)),h.hs1,Nat.le_trans h.hs2 hk.size,fun x hx=>?_,h.nd,h.lo⟩
 ·obtain ⟨_,o,ho,e⟩:=hr b (by simpa using hb)
  rw [hc] at ho
  cases ho
  cases e
 ·have h9:=h.dd x hx
  rw [← h9]
  refine hk.block x (lt_of_heap h9) (fun hm=>?_)
  have:=(hr x (by simpa using hm)).1
  have:=hds x hx
  omega
theorem RI.side (h:RI w B c n G s vn L W G' vl ps hs ds) {M:List Nat} (hk:Kb M W W') (hM:∀ b∈M,hs≤b∧b≠w.heap.size∧b ∉ G'.foot∧b ∉ L∧∃ cs T,W.heap[b]?=some (.cells cs T (0,0))):RI w B c n G s vn L W' G' vl ps hs ds∧(∀ D,KeepsFrom D W W')∧KpB L W W':=by
 have kf:∀ D,KeepsFrom D W W':=fun D=>kb_keepsFrom hk (fun b hb o ho=>by
  obtain ⟨_,_,_,_,cs,T,hc⟩:=hM b hb
  rw [hc] at ho
  cases ho
  rfl) D
 refine ⟨⟨⟨h.li.gm.beside hk (fun b hb=>(hM b hb).2.2.1),h.li.ch.beside hk (fun b hb=>Nat.le_trans h.hs1 (hM b hb).1),fun q hq=>?_,(by intro q hq; cases hq),fun k hk2=>⟨(h.li.lb k hk2).1,Nat.lt_of_lt_of_le (h.li.lb k hk2).2 hk.size⟩⟩,h.row.kb hk (fun b hb=>.inl (hM b hb).1),h.hs1,Nat.le_trans h.hs2 hk.size,fun D hD=>(kf D).same D _ (Nat.le_refl _) (h.dd D hD) rfl,h.nd,h.lo⟩,kf,fun k hk2=>hk.block k (h.li.lb k hk2).2 (fun hm=>(hM k hm).2.2.2.1 hk2)⟩
 obtain ⟨q1,q2⟩:=h.li.bx q hq
 rw [List.mem_singleton.1 hq] at q1 q2 ⊢
 exact ⟨hk.heap q1 (fun hm=>(hM _ hm).2.1 rfl),q2⟩
theorem RI.setL (h:RI w B c n G s vn L W G' vl ps hs ds) {L':List Nat} (hL:∀ k∈L',k ∉ G'.foot∧k < W.heap.size):RI w B c n G s vn L' W G' vl ps hs ds:=⟨⟨h.li.gm,h.li.ch,h.li.bx,h.li.vt,hL⟩,h.row,h.hs1,h.hs2,h.dd,h.nd,h.lo⟩
def collD (D:Nat):Deferred:={ target:=.collected D,args:=#[] }
theorem leaves_coll {F:Fence} {k:Nat} {P:Program} {fn:Func} {tmps:Array Value} {R:Ending→World→Prop}:∀ (ds:List Nat) (W:World),ds.Nodup→(∀ D∈ds,W.heap[D]?=some (.deferred (some []))) →
  LeavesInM F k P fn tmps R [] .returning (ds.foldl (fun W D=>W.putObj D (.deferred none)) W)→LeavesInM F k P fn tmps R (ds.map collD) .returning W:=by
 intro ds
 induction ds with
 | nil=>exact fun _ _ _ h=>h
 | cons D r ih=>
  intro W hn hd h
  obtain ⟨n1,n2⟩:=List.nodup_cons.1 hn
  have hD:=hd D List.mem_cons_self
  refine ⟨by simp,.inl ⟨_,_,rfl,run_takeDeferred hD,?_⟩⟩
  refine ih _ n2 (fun x hx=>?_) h
  have hx1:=hd x (List.mem_cons_of_mem _ hx)
  rw [← hx1]
  exact (kb_grown (grownBy_putObj' W D (.deferred none))).block x (lt_of_heap hx1) (by simp; intro e; exact n1 (e ▸ hx))
theorem coll_kb:∀ (ds:List Nat) (W:World),Kb ds W (ds.foldl (fun W D=>W.putObj D (.deferred none)) W):=by
 intro ds
 induction ds with
 | nil=>exact fun W=>Kb.refl _ W
 | cons D r ih=>
  intro W
  have k1:=kb_grown (grownBy_putObj' W D (.deferred none))
  exact (k1.mono (by intro k _ hk; simp at hk; simp [hk])).trans ((ih _).mono (by intro k _ hk; simp [hk]))
end
section
def WU (n:Nat) (s s':St):Prop:=WF n s'∧s.un≤s'.un
theorem WU.refl {n:Nat} {s:St} (h:WF n s):WU n s s:=⟨h,Nat.le_refl _⟩
theorem WU.trans {n:Nat} {a b c:St} (h:WU n a b) (k:WU n b c):WU n a c:=⟨k.1,Nat.le_trans h.2 k.2⟩
variable {n:Nat} {s:St}
theorem St.letIn_un (s:St) (o:Int):(s.letIn o).un=s.un:=by unfold St.letIn; split <;> rfl
theorem St.fuse_un (s:St) (i j:Nat):(s.fuse i j).un=s.un:=rfl
theorem St.clear_un (s:St) (j:Nat):(s.clear j).un=s.un+1:=by
 unfold St.clear
 simp only [St.drop]
 simp [List.range,List.range.loop,St.put]
theorem WF.wmerge (h:WF n s) {a b:Nat} (ha:a < n) (hb:b < n):WU n s (s.merge a b).2:=by
 refine ⟨h.merge ha hb,?_⟩
 unfold St.merge
 split
 ·exact Nat.le_refl _
 ·simp only []
  rw [St.clear_un,St.wait_un,St.fuse_un]
  omega
theorem WF.wlink (h:WF n s) (c:Way) {f j:Nat} (hf:f < n) (hj:j < n):WU n s (s.link c f j):=by
 refine ⟨h.link hf hj,?_⟩
 unfold St.link
 simp only []
 have e:(s.addAt (7 * s.rep f+2) (s.rep j)).un=s.un:=rfl
 by_cases h1:(s.rep f == s.rep j || (s.hr (s.rep f)).contains (s.rep j))=true
 ·rw [if_pos h1]; exact Nat.le_refl _
 ·rw [if_neg h1]
  generalize (if c.deltas=true then (s.addAt (7 * s.rep f+2) (s.rep j)).hd (s.rep f) else (s.addAt (7 * s.rep f+2) (s.rep j)).tg (s.rep f))=now
  split
  ·exact Nat.le_of_eq e.symm
  ·rw [St.hand_un]
   omega
theorem foldl_wu {α:Type} {f:St→α→St} {P:α→Prop} (hf:∀ s x,WF n s→P x→WU n s (f s x)):∀ (l:List α) (s:St),WF n s→(∀ x,x∈l→P x)→WU n s (l.foldl f s):=by
 intro l
 induction l with
 | nil=>exact fun _ h _=>WU.refl h
 | cons x r ih=>exact fun s h hp=>(hf s x h (hp x List.mem_cons_self)).trans (ih _ (hf s x h (hp x List.mem_cons_self)).1 (fun y hy=>hp y (List.mem_cons_of_mem _ hy)))
theorem foldl_wu2 {α:Type} {f:Bool × St→α→Bool × St} {P:α→Prop} (hf:∀ s x,WF n s.2→P x→WU n s.2 (f s x).2):∀ (l:List α) (s:Bool × St),WF n s.2→(∀ x,x∈l→P x)→WU n s.2 (l.foldl f s).2:=by
 intro l
 induction l with
 | nil=>exact fun _ h _=>WU.refl h
 | cons x r ih=>exact fun s h hp=>(hf s x h (hp x List.mem_cons_self)).trans (ih _ (hf s x h (hp x List.mem_cons_self)).1 (fun y hy=>hp y (List.mem_cons_of_mem _ hy)))
theorem WF.wmergeAll (h:WF n s) {a:Nat} (ha:a < n) {l:List Nat} (hl:∀ x,x∈l→x < n):WU n s (s.mergeAll a l).2:=
 foldl_wu2 (f:=fun x b=>let y:=x.2.merge a b; (y.1 || x.1,y.2)) (P:=(· < n)) (fun _ _ hs hx=>hs.wmerge ha hx) l (false,s) h hl
theorem WF.wcollapse (h:WF n s) (m:Nat) {T:List Nat} (hT:∀ x,x∈T→x < n):WU n s (s.collapse m T).2:=
 foldl_wu2 (f:=fun x t=>let y:=x.2.mergeAll t (s.tw m); (y.1 || x.1,y.2)) (P:=(· < n)) (fun _ _ hs ht=>hs.wmergeAll ht (fun b hb=>h.bd _ b hb)) T (false,s) h hT
theorem WF.wlinks (h:WF n s) (c:Way) (m:Nat) {t:Nat} (ht:t < n):WU n s (s.links c m t):=by
 unfold St.links
 simp only []
 have h1:=foldl_wu (f:=fun s p=>s.link c t p) (P:=(· < n)) (fun s p hs hp=>hs.wlink c ht hp) (s.ld m) s h (fun x hx=>h.bd _ x hx)
 exact h1.trans (foldl_wu (f:=fun s q=>s.link c q t) (P:=(· < n)) (fun s q hs hq=>hs.wlink c hq ht) _ _ h1.1 (fun x hx=>h1.1.bd _ x hx))
theorem WF.heirsLt (h:WF n s) {m x:Nat} (hx:x∈s.heirsOf m):x < n:=by
 obtain ⟨_,_,y,hy,e⟩:=mem_heirsOf.1 hx
 rw [← e]
 exact h.lt (h.bd _ y hy)
theorem WF.wwork (h:WF n s) (c:Way) {m:Nat} (hm:m < n):WU n s (s.work c m):=by
 unfold St.work
 simp only []
 have hfr:∀ x,x∈subS (s.tg m) (s.hd m)→x < n:=fun x hx=>h.bd _ x (mem_subS.1 hx).2.1
 generalize subS (s.tg m) (s.hd m)=fr at *
 split
 ·exact WU.refl h
 ·have h0:=h.wcollapse m hfr
  split
  ·exact h0.trans ⟨h0.1.wait (h0.1.lt hm),by rw [St.wait_un]; exact Nat.le_refl _⟩
  ·have h1:=foldl_wu (f:=fun s t=>s.links c m t) (P:=(· < n)) (fun s t hs ht=>hs.wlinks c m ht) fr _ h0.1 hfr
   generalize fr.foldl (fun s t=>s.links c m t) (s.collapse m fr).2=s1 at *
   have h2:=foldl_wu (f:=fun s h=>s.hand c fr m h) (P:=(· < n)) (fun s x hs hx=>⟨hs.hand hm hx hfr,by rw [St.hand_un]; omega⟩) (s1.heirsOf m) s1 h1.1 (fun x hx=>h1.1.heirsLt hx)
   generalize (s1.heirsOf m).foldl (fun s h=>s.hand c fr m h) s1=s2 at *
   have h3:=(h0.trans h1).trans h2
   split
   ·refine h3.trans ⟨h2.1.put (by omega) (fun x hx=>?_),Nat.le_refl _⟩
    rcases (mem_uniS.1 hx).2 with hx | hx
    ·exact h2.1.bd _ x hx
    ·exact hfr x hx
   ·exact h3
theorem WF.wletIn (h:WF n s) (o:Int):WU n s (s.letIn o):=by
 refine ⟨?_,by rw [St.letIn_un]; exact Nat.le_refl _⟩
 unfold St.letIn
 split
 ·exact h
 ·refine ⟨h.hn,h.len,?_,fun x hx=>?_,h.inb,h.bd,h.sus,h.rep⟩
  ·simp only [List.append_nil]
   split
   ·exact (List.mergeSort_perm _ _).nodup_iff.2 h.nd
   ·exact h.nd
  ·simp only [List.append_nil] at hx
   refine h.ins x ?_
   split at hx
   ·exact (List.mergeSort_perm _ _).mem_iff.1 hx
   ·exact hx
theorem next_mem {o:Int} {m:Nat} {s':St} (h:s.next o=(some m,s')):m∈(s.letIn o).now∧s'=(s.letIn o).drop m:=by
 unfold St.next at h
 simp only [] at h
 split at h
 ·cases h
 ·rename_i x r hx
  injection h with h1 h2
  injection h1 with h1
  refine ⟨?_,by rw [← h2,h1]⟩
  rw [hx,← h1]
  split
  ·rw [List.getLastD_eq_getLast?]
   have hne:(x :: r)≠[]:=by simp
   rw [List.getLast?_eq_some_getLast hne]
   exact List.getLast_mem hne
  ·exact List.mem_cons_self
theorem WF.wnext (h:WF n s) (o:Int):WU n s (s.next o).2:=by
 have h1:=h.wletIn o
 unfold St.next
 simp only []
 split
 ·exact h1
 ·exact h1.trans ⟨h1.1.drop _,Nat.le_refl _⟩
theorem WF.next_lt (h:WF n s) {o:Int} {m:Nat} {s':St} (e:s.next o=(some m,s')):m < n:=by
 have h1:=(h.wletIn o).1
 exact h1.inb m (h1.ins m (List.mem_append_left _ (next_mem e).1))
theorem foldO_wu {α:Type} {f:St→α→Option St} {P:α→Prop} (hf:∀ s x s',WF n s→P x→f s x=some s'→WU n s s'):∀ (l:List α) (s s':St),WF n s→(∀ x,x∈l→P x)→St.foldO f s l=some s'→WU n s s':=by
 intro l
 induction l with
 | nil=>intro s s' h _ e; cases e; exact WU.refl h
 | cons x r ih=>
  intro s s' h hp e
  unfold St.foldO at e
  cases e1:f s x with
  | none=>rw [e1] at e; cases e
  | some s1=>
   rw [e1] at e
   have h1:=hf s x s1 h (hp x List.mem_cons_self) e1
   exact h1.trans (ih s1 s' h1.1 (fun y hy=>hp y (List.mem_cons_of_mem _ hy)) e)
theorem WF.wlookStep (h:WF n s) {k a:Nat} (ha:a < n) {s':St} (e:s.lookStep k a=some s'):WU n s s':=by
 unfold St.lookStep at e
 simp only [] at e
 have h1:WF n { s with susp:=delS a s.susp }:=h.susp (fun i hi=>h.sus i (mem_delS.1 hi).2.2)
 generalize hs1:({ s with susp:=delS a s.susp }:St)=s1 at *
 have hu:s1.un=s.un:=by rw [← hs1]
 cases hl:around k a s1.heirsOf with
 | none=>rw [hl] at e; cases e
 | some l=>
  rw [hl] at e
  injection e with e
  have hbd:=around_bd (P:=(· < n)) hl ha (fun x y hy=>h1.heirsLt hy)
  have h2:=h1.wmergeAll ha hbd
  rw [show (s1.mergeAll a l).2=s' from e] at h2
  exact ⟨h2.1,by have:=h2.2; omega⟩
theorem WF.wlook (h:WF n s) {k:Nat} {s':St} (e:s.lookForCycles k=some s'):WU n s s':=
 foldO_wu (P:=(· < n)) (fun _ _ _ hs hx e=>hs.wlookStep hx e) s.susp s s' h h.sus e
theorem WF.wsolveL {k:Nat} {c:Way}:∀ (j:Nat) {s s':St},WF n s→St.solveL k c j s=some s'→WU n s s':=by
 intro j
 induction j with
 | zero=>intro s s' _ e; cases e
 | succ j ih=>
  intro s s' h e
  unfold St.solveL at e
  have h1:=h.wnext c.order
  cases hx:s.next c.order with
  | mk o s1=>
   rw [hx] at e h1
   cases o with
   | none=>cases e; exact h1
   | some m=>
    simp only [] at e h1
    have h2:=h1.1.wwork c (h.next_lt hx)
    cases h3:St.lookForCycles k (s1.work c m) with
    | none=>rw [h3] at e; cases e
    | some s2=>
     rw [h3] at e
     have h4:=h2.1.wlook h3
     exact ((h1.trans h2).trans h4).trans (ih h4.1 e)
end
section
open Go.Lib
abbrev BL:=List UInt8
theorem le_bl (x y:BL):x≤y↔Op.bytesLess y x=false:=by
 rw [Go.Proofs.bytesLess_eq]
 simp
theorem le_bl_trans {x y z:BL} (h1:x≤y) (h2:y≤z):x≤z:=by
 rw [le_bl] at *
 cases h:Op.bytesLess z x
 ·rfl
 ·by_cases e:y=z
  ·rw [e,h] at h1; cases h1
  ·have:=bl_total _ _ h2 (Ne.symm e)
   rw [bl_trans _ _ _ this h] at h1
   cases h1
theorem le_bl_total (x y:BL):x≤y∨y≤x:=by
 rw [le_bl,le_bl]
 cases h:Op.bytesLess y x
 ·exact .inl rfl
 ·right
  cases h2:Op.bytesLess x y
  ·rfl
  ·have:=bl_trans _ _ _ h h2
   rw [bl_irrefl] at this
   cases this
theorem le_lt_bl {x y z:BL} (h1:x≤y) (h2:y≤z) (h3:y≠z):Op.bytesLess x z=true:=by
 rw [le_bl] at *
 have h4:=bl_total _ _ h2 (Ne.symm h3)
 by_cases e:x=y
 ·rw [e]; exact h4
 ·exact bl_trans _ _ _ (bl_total _ _ h1 (Ne.symm e)) h4
theorem compact_up (d:Array BL) (hs:∀ i j,i≤j→j < d.size→d[i]!≤d[j]!):∀ m,m≤d.size→(compactUpTo d m).Pairwise (fun x y=>Op.bytesLess x y=true)∧(∀ x,x∈compactUpTo d m↔∃ j,j < m∧d[j]! = x):=by
 intro m
 induction m with
 | zero=>intro _; simp [compactUpTo]
 | succ m ih=>
  intro hm
  obtain ⟨h1,h2⟩:=ih (by omega)
  rw [compactUpTo_succ]
  by_cases hk:keeps d m=true
  ·rw [if_pos hk]
   refine ⟨?_,fun x=>?_⟩
   ·rw [List.pairwise_append]
    refine ⟨h1,by simp,fun x hx y hy=>?_⟩
    rw [List.mem_singleton.1 hy]
    obtain ⟨j,hj,rfl⟩:=(h2 x).1 hx
    have hm0:m≠0:=by omega
    have hne:d[m]!≠d[m - 1]!:=by
     simp [keeps,hm0] at hk
     exact hk
    exact le_lt_bl (hs j (m - 1) (by omega) (by omega)) (hs (m - 1) m (by omega) (by omega)) (Ne.symm hne)
   ·rw [List.mem_append,h2,List.mem_singleton]
    constructor
    ·rintro (⟨j,hj,e⟩ | e)
     ·exact ⟨j,by omega,e⟩
     ·exact ⟨m,by omega,e.symm⟩
    ·rintro ⟨j,hj,e⟩
     by_cases ej:j=m
     ·right; rw [← e,ej]
     ·exact .inl ⟨j,by omega,e⟩
  ·rw [if_neg hk,List.append_nil]
   refine ⟨h1,fun x=>?_⟩
   rw [h2]
   constructor
   ·rintro ⟨j,hj,e⟩
    exact ⟨j,by omega,e⟩
   ·rintro ⟨j,hj,e⟩
    by_cases ej:j=m
    ·have hm0:m≠0:=fun e0=>hk (keeps_lt_one d m (by omega))
     have:d[m]! = d[m - 1]!:=by
      simp [keeps,hm0] at hk
      exact hk
     exact ⟨m - 1,by omega,by rw [← e,ej,this]⟩
    ·exact ⟨j,by omega,e⟩
theorem asc_ext:∀ {a b:List BL},a.Pairwise (fun x y=>Op.bytesLess x y=true)→b.Pairwise (fun x y=>Op.bytesLess x y=true)→(∀ x,x∈a↔x∈b)→a=b:=by
 intro a
 induction a with
 | nil=>
  intro b _ _ h
  cases b with
  | nil=>rfl
  | cons y r=>exact absurd ((h y).2 List.mem_cons_self) (by simp)
 | cons x r ih=>
  intro b ha hb h
  cases b with
  | nil=>exact absurd ((h x).1 List.mem_cons_self) (by simp)
  | cons y t=>
   obtain ⟨a1,a2⟩:=List.pairwise_cons.1 ha
   obtain ⟨b1,b2⟩:=List.pairwise_cons.1 hb
   have e:x=y:=by
    rcases List.mem_cons.1 ((h x).1 List.mem_cons_self) with e | hx
    ·exact e
    ·rcases List.mem_cons.1 ((h y).2 List.mem_cons_self) with e | hy
     ·exact e.symm
     ·have:=bl_trans _ _ _ (a1 y hy) (b1 x hx)
      rw [bl_irrefl] at this
      cases this
   subst e
   congr 1
   refine ih a2 b2 (fun z=>?_)
   constructor
   ·intro hz
    rcases List.mem_cons.1 ((h z).1 (List.mem_cons_of_mem _ hz)) with e | hz2
    ·rw [e] at hz
     have:=a1 x hz
     rw [bl_irrefl] at this
     cases this
    ·exact hz2
   ·intro hz
    rcases List.mem_cons.1 ((h z).2 (List.mem_cons_of_mem _ hz)) with e | hz2
    ·rw [e] at hz
     have:=b1 x hz
     rw [bl_irrefl] at this
     cases this
    ·exact hz2
theorem mem_namesS {l:List ByteArray} {x:ByteArray}:x∈namesS l↔x∈l:=by
 have key:∀ (l out:List ByteArray),x∈l.foldl insN out↔x∈out∨x∈l:=by
  intro l
  induction l with
  | nil=>intro out; simp
  | cons a r ih=>
   intro out
   rw [List.foldl_cons,ih]
   have h1:x∈insN out a↔x=a∨x∈out:=by
    by_cases h:out[insAt out a]?=some a
    ·rw [insN_old rfl h]
     exact ⟨.inr,fun h2=>h2.elim (fun e=>e ▸ List.mem_of_getElem? h) id⟩
    ·rw [insN_new rfl h,List.mem_append,List.mem_cons]
     constructor
     ·rintro (h2 | h2 | h2)
      ·exact .inr (List.mem_of_mem_take h2)
      ·exact .inl h2
      ·exact .inr (List.mem_of_mem_drop h2)
     ·rintro (h2 | h2)
      ·exact .inr (.inl h2)
      ·rw [← List.take_append_drop (insAt out a) out,List.mem_append] at h2
       exact h2.elim .inl (fun h3=>.inr (.inr h3))
   rw [h1,List.mem_cons]
   constructor
   ·rintro ((h2 | h2) | h2)
    ·exact .inr (.inl h2)
    ·exact .inl h2
    ·exact .inr (.inr h2)
   ·rintro (h2 | h2 | h2)
    ·exact .inl (.inr h2)
    ·exact .inl (.inl h2)
    ·exact .inr h2
 unfold namesS
 rw [key]
 simp
theorem names_compact (l:List ByteArray):compact ((l.map (·.data.toList)).mergeSort fun x y=>decide (x≤y))=(namesS l).map (·.data.toList):=by
 obtain ⟨zs,hzs⟩:∃ zs,zs=(l.map (·.data.toList)).mergeSort fun x y=>decide (x≤y):=⟨_,rfl⟩
 rw [← hzs]
 have hp:zs.Pairwise (fun x y=>decide (x≤y)=true):=by
  rw [hzs]
  refine List.pairwise_mergeSort (fun a b c h1 h2=>?_) (fun a b=>?_) _
  ·simp only [decide_eq_true_eq] at *
   exact le_bl_trans h1 h2
  ·have:=le_bl_total a b
   simpa using this
 have hs:∀ i j,i≤j→j < zs.toArray.size→zs.toArray[i]!≤zs.toArray[j]!:=by
  intro i j hij hj
  have hj':j < zs.length:=by simpa using hj
  rw [getElem!_pos zs.toArray i (by simp; omega),getElem!_pos zs.toArray j hj]
  simp only [List.getElem_toArray]
  by_cases e:i=j
  ·subst e
   exact (le_bl_total _ _).elim id id
  ·have:=List.pairwise_iff_getElem.1 hp i j (by omega) hj' (by omega)
   simpa using this
 obtain ⟨h1,h2⟩:=compact_up zs.toArray hs zs.length (by simp)
 refine asc_ext h1 ?_ (fun x=>?_)
 ·have h3:Asc (namesS l):=asc_names l
  unfold Asc at h3
  rw [List.pairwise_map]
  refine h3.imp (fun {a b} hab=>?_)
  have e:lessS a b=Op.bytesLess a.toList b.toList:=rfl
  rw [e] at hab
  simpa [ByteArray.toList_eq] using hab
 ·have e:x∈compact zs↔x∈zs:=by
   refine (h2 x).trans ?_
   constructor
   ·rintro ⟨j,hj,e⟩
    rw [getElem!_pos zs.toArray j (by simpa using hj)] at e
    rw [← e]
    simp
   ·intro hx
    obtain ⟨j,hj,e⟩:=List.getElem_of_mem hx
    refine ⟨j,hj,?_⟩
    rw [getElem!_pos zs.toArray j (by simpa using hj)]
    simpa using e
  rw [e,hzs,(List.mergeSort_perm _ _).mem_iff,List.mem_map,List.mem_map]
  constructor
  ·rintro ⟨a,ha,e⟩
   exact ⟨a,mem_namesS.2 ha,e⟩
  ·rintro ⟨a,ha,e⟩
   exact ⟨a,mem_namesS.1 ha,e⟩
end
section
open Go.RowKit Go.Sort Go.Lib
def cellsS (ss:List ByteArray):List Value:=ss.map Value.string
structure NmI (w wr:World) (fs:List Fct) (i:Nat) (v:Value):Prop where
 own:wr.ownsRow w.heap.size 9 1 v (2 * i) (cellsS (strsOf (fs.take i)))
 blw:Below w.heap.size w wr
 nil:i=0→v=.slice none 0 0
theorem strs_next {fs:List Fct} {i:Nat} {f:Fct} (h:fs[i]?=some f):strsOf (fs.take (i+1))=strsOf (fs.take i) ++ [f.p,f.q]:=by
 rw [take_next h]
 simp [strsOf]
theorem below_grow {B:Nat} {w0 w:World} (h:Below B w0 w) (hB:B≤w.heap.size) (os:Array Obj):Below B w0 (grow w os):=
 ⟨h.os,h.tape,h.output,by have:=h.size; simp [grow]; omega,fun k hk=>by rw [← h.block k hk]; exact heap_grow_old w os (by omega)⟩
set_option maxRecDepth 100000 in
theorem insert_nil_any (w:World):Calls Tryz.prog 136 #[.slice none 0 0,.int .i64 0,.int .i64 0] w fun e w'=>e=.returned (.tuple #[])∧w'=w:=by
 go_enter Tryz.func136,Tryz.ntmps136
 go_wp2
 go_loopw [6] (fun v wr=>v=.int .i64 1∧wr=w) (fun _ _=>0)
 case atStart=>exact ⟨rfl,rfl⟩
 case round=>
  obtain ⟨rfl,rfl⟩:=hrel
  go_wp2
  go_end0
  exact ⟨rfl,rfl⟩
set_option maxRecDepth 100000 in
theorem pdq_nil_any (l:Int) (w:World):Calls Tryz.prog 106 #[.slice none 0 0,.int .i64 0,.int .i64 0,.int .i64 l] w fun e w'=>e=.returned (.tuple #[])∧w'=w:=by
 have HI:=insert_nil_any w
 go_enter Tryz.func106,Tryz.ntmps106
 go_wp2
 go_loopw [1,2] (fun a b wr=>a=.int .i64 0∧b=.int .i64 0∧wr=w) (fun _ _ _=>0)
 case atStart=>exact ⟨rfl,rfl,rfl⟩
 case round=>
  obtain ⟨rfl,rfl,rfl⟩:=hrel
  go_wp2_with fail
  refine HI.mono ?_
  clear HI
  rintro e w2 ⟨rfl,rfl⟩
  go_wp2
  refine bodyPost_ret (results_none rfl _ _ _) rfl ?_
  exact ⟨rfl,rfl⟩
set_option maxRecDepth 100000 in
theorem sort_nil_any (w:World):Calls Tryz.prog 82 #[.slice none 0 0] w fun e w'=>e=.returned (.tuple #[])∧w'=w:=by
 have HL:=Tryz.bits_Len 0 w (by decide) (by decide)
 have HP:=pdq_nil_any (Lib.bitLen (0:Int).toNat) w
 go_enter Tryz.func82,Tryz.ntmps82
 go_wp2_with fail
 refine HL.mono ?_
 clear HL
 rintro e w1 ⟨rfl,rfl⟩
 go_wp2_with fail
 refine HP.mono ?_
 clear HP
 rintro e w2 ⟨rfl,rfl⟩
 go_wp2
 go_end0
 exact ⟨rfl,rfl⟩
set_option maxRecDepth 100000 in
set_option maxHeartbeats 1000000 in
theorem namesOf_any (v:Value) (fs:List Fct) (w:World) (hlen:fs.length≤1000) (hv:IsFacts v fs w) :
  Calls Tryz.prog 56 #[v] w fun e w'=>∃ vn,e=.returned vn∧IsStrs vn (namesS (strsOf fs)) w'∧Below w.heap.size w w':=by
 obtain ⟨i0,hi0,hz0,hz1,hz2⟩:=info_parts infoStr
 obtain ⟨ao,cap,rfl,hc1,hc2,hne⟩:=hv
 have HNE:=hide hne
 clear hne
 go_enter Tryz.func56,Tryz.ntmps56
 go_wp2
 go_loopw [3,8] (fun v iv wr=>∃ i:Nat,iv=.int .i64 i∧i≤fs.length∧NmI w wr fs i v) (fun _ iv _=>fs.length - (intOf iv).toNat)
 case atStart=>exact ⟨0,rfl,Nat.zero_le _,World.ownsRow_nil _ _ _ _,Below.refl _ _,fun _=>rfl⟩
 case round=>
  obtain ⟨i,rfl,hi1,hI⟩:=hrel
  have HI:=hide hI
  have hbx:=hI.blw
  by_cases h1:i < fs.length
  ·obtain ⟨f,hr⟩:∃ f,fs[i]?=some f:=⟨_,List.getElem?_eq_getElem h1⟩
   have hnil:fs≠[]:=by intro e; rw [e] at h1; simp at h1
   obtain ⟨b,off,rfl,hb,hc⟩:=HNE.out hnil
   obtain ⟨a0,a1,a2⟩:=hc i f.k f.p f.q hr
   have c0:=(hbx.cell (p:=⟨b,_,none⟩) hb).trans a0
   have c1:=(hbx.cell (p:=⟨b,_,none⟩) hb).trans a1
   have c2:=(hbx.cell (p:=⟨b,_,none⟩) hb).trans a2
   have HST:Hid (∀ (w3:World) v',w3.ownsRow w.heap.size 9 1 v' (2 * i+2) (cellsS (strsOf (fs.take i)) ++ [.string f.p,.string f.q])→Below w.heap.size w w3→NmI w w3 fs (i+1) v'):=by
    intro w3 v' h3 h4
    refine ⟨?_,h4,fun e=>by omega⟩
    rw [strs_next hr]
    unfold cellsS at *
    rw [List.map_append,show 2 * (i+1)=2 * i+2 by omega]
    exact h3
   obtain ⟨va,vc,rfl,_⟩:=own_form hI.own
   clear hI a0 a1 a2 hc hr
   go_wp2_with (first | (at_builtin; refine wpList_append_own _ rfl _ _ 44 rfl w.heap.size 9 i0 (.string ⟨#[]⟩) 1 16 Tryz.underlying44 hi0 hz0 hz1 hz2 rfl (by decide) _ _ _ rfl ((HI.out.own.alloc _).alloc _) ⟨(wr.alloc (.cells #[.int .i64 f.k,.string f.p,.string f.q] 48)).heap.size,0,none⟩ 2 2 [.string f.p,.string f.q] (by simp [Act.eval]) rfl (cells_new _ _ _ _ rfl) ?x6 ?x7 ?x8 ?x9 ?_) | go_in)
   case x6=>intro u hu; simp at hu; rcases hu with rfl | rfl <;> rfl
   case x7=>unfold maxLen; omega
   case x8=>omega
   case x9=>have:=hbx.size; simp; omega
   intro v' w3 ho3 hg3 _
   have hB3:Below w.heap.size w w3:=((hbx.alloc hbx.size _).alloc (by have:=hbx.size; simp; omega) _).grown hg3 (by have:=hbx.size; simp; omega) (fun j hj=>(HI.out.own.lt j hj).1)
   have hnx:=HST.out w3 v' ho3 hB3
   clear ho3 hg3
   go_wp2
   go_round
   case rel=>exact ⟨i+1,by go_num,h1,hnx⟩
   case measure=>simp [intOf]; omega
  ·have hie:i=fs.length:=by omega
   subst hie
   have ho:=hI.own
   have hnil0:=hI.nil
   rw [List.take_of_length_le (Nat.le_refl _)] at ho
   clear hI HI
   have HEq:=hide (names_compact (strsOf fs))
   by_cases hnil:fs=[]
   ·have HS:=sort_nil_any wr
    have hv0:=hnil0 (by rw [hnil]; rfl)
    subst hv0
    have HC:=Tryz.slices_Compact_string_empty none 0 wr
    have HN:Hid (namesS (strsOf fs)=[]):=by rw [hnil]; exact hide rfl
    clear HEq ho hnil0
    go_wp2_with fail
    refine HS.mono ?_
    clear HS
    rintro e w1 ⟨rfl,rfl⟩
    go_wp2_with fail
    refine HC.mono ?_
    clear HC
    rintro e w1 ⟨rfl,rfl⟩
    go_wp2
    go_ret
    refine ⟨_,rfl,?_,hbx⟩
    rw [HN.out]
    exact ⟨none,0,rfl,Nat.le_refl _,fun _=>rfl,fun h=>absurd rfl h⟩
   ·have hpos:0 < fs.length:=List.length_pos_iff.2 hnil
    have hvn:u3≠.slice none 0 0:=by
     rintro rfl
     obtain ⟨ao',cap',e,_⟩:=own_form ho
     injection e with _ e _
     omega
    have ho2:wr.ownsRow w.heap.size 9 1 u3 (2 * fs.length) (((strsOf fs).map (·.data.toList)).map encStr):=by
     rw [map_encStr]
     exact ho
    obtain ⟨g,cap',rfl,hBg,hgw,hncap,hcm,hlz,hH⟩:=holds_of_ownsRow ho2 hvn
    have HSo:=Tryz.slices_Sort_string g 0 cap' ((strsOf fs).map (·.data.toList)) wr hH hgw (by rw [hlz]; omega)
    rw [hlz] at HSo
    obtain ⟨zs,hzs⟩:∃ zs,zs=((strsOf fs).map (·.data.toList)).mergeSort fun x y=>decide (x≤y):=⟨_,rfl⟩
    rw [← hzs] at HSo
    have hzl:zs.length=2 * fs.length:=by rw [hzs,List.length_mergeSort,hlz]
    have HZ:=hide hzs
    have HH:=hide hH
    clear hzs ho ho2 hH hlz hvn hnil0
    go_wp2_with fail
    refine HSo.mono ?_
    clear HSo
    rintro e w1 ⟨rfl,q1,os,hw1⟩
    have hH1:Holds encStr w1 g 0 zs.toArray:=by
     rw [hw1]
     exact holds_grow _ _ _ _ _ _ (by simpa using hgw) (holds_putRow _ _ _ _ _ _ (fun j hj=>HH.out j hj) (by simp [hzl,strsOf_length]))
    have HCo:=Tryz.slices_Compact_string g 0 cap' zs w1 hH1 (by omega) (by omega)
    rw [hzl,HZ.out,HEq.out,List.length_map] at HCo
    have hb1:RowKit.Below w.heap.size w w1:=by
     rw [hw1]
     exact below_grow (below_putRow hbx hBg) (by simpa using hbx.size) _
    have HH1:=hide hH1
    have hg1:g < w1.heap.size:=by rw [hw1]; simp; omega
    clear hw1 hH1
    go_wp2_with fail
    refine HCo.mono ?_
    clear HCo
    rintro e w2 ⟨rfl,q2,hw2⟩
    have hnl:(namesS (strsOf fs)).length≤2 * fs.length:=by
     have:=compact_length_le zs
     rw [HZ.out,HEq.out,List.length_map,← HZ.out,hzl] at this
     exact this
    have HF:Hid (IsStrs (.slice (some ⟨g,0,none⟩) (namesS (strsOf fs)).length cap') (namesS (strsOf fs)) w2∧RowKit.Below w.heap.size w w2):=by
     refine hide ⟨⟨some ⟨g,0,none⟩,cap',rfl,by omega,(by intro h; cases h),fun _=>⟨g,0,rfl,?_,?_⟩⟩,?_⟩
     ·rw [hw2]; simpa using hg1
     ·intro i s hi
      rw [hw2]
      have hil:=(List.getElem?_eq_some_iff.1 hi).1
      have hd:((List.map (fun x:ByteArray=>x.data.toList) (namesS (strsOf fs)) ++ List.replicate (2 * fs.length - (namesS (strsOf fs)).length) []).toArray).size=zs.toArray.size:=by
       simp [hzl]; omega
      rw [cell?_putRow encStr (Go.Sort.ahead w1 q2) g 0 zs.toArray _ (fun j hj=>HH1.out j hj) hd i (by simp; omega),getElem!_pos _ i (by simp; omega)]
      rw [List.getElem?_eq_getElem hil] at hi
      injection hi with hi
      simp only [List.getElem_toArray,encStr]
      rw [List.getElem_append_left (by simpa using hil),List.getElem_map,hi]
     ·rw [hw2]
      exact below_putRow hb1 hBg
    clear hw2
    go_wp2
    go_ret
    exact ⟨_,rfl,HF.out⟩
end
end Go.Proofs.YtiamlbhkiehilaaGreatDoor
