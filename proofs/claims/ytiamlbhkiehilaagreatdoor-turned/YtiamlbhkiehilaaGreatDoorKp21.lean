import Derived.Test.YtiamlbhkiehilaaGreatDoorKp10
import Derived.Test.YtiamlbhkiehilaaGreatDoorKp07
import Derived.Laws.OwnMore
import Derived.Test.YtiamlbhkiehilaaGreatDoorKp19
import Derived.Test.YtiamlbhkiehilaaGreatDoorKp20
import Derived.Test.YtiamlbhkiehilaaGreatDoorKp06
import Derived.Maps.Own
import Derived.Maps.OwnIn
import Derived.Maps.Views
namespace Go.Proofs.YtiamlbhkiehilaaGreatDoor
section
open Go.RowKit Go.Maps
end
section
open Go.RowKit Go.Maps
end
section
open Go.RowKit Go.Maps
def Pts (fs:List Fct) (p x:ByteArray):Prop:=∀ R:ByteArray→ByteArray→Prop,(∀ p q,(⟨1,p,q⟩:Fct)∈fs→R p q)→(∀ p q x,(⟨2,p,q⟩:Fct)∈fs→R q x→R p x)→(∀ p q v x,(⟨3,p,q⟩:Fct)∈fs→R q v→R v x→R p x)→(∀ p q v x,(⟨4,p,q⟩:Fct)∈fs→R p v→R q x→R v x)→R p x
theorem Pts.addr {fs:List Fct} {p q:ByteArray} (h:(⟨1,p,q⟩:Fct)∈fs):Pts fs p q:=fun _ a _ _ _=>a p q h
theorem Pts.copy {fs:List Fct} {p q x:ByteArray} (h:(⟨2,p,q⟩:Fct)∈fs) (h1:Pts fs q x):Pts fs p x:=fun R a b c d=>b p q x h (h1 R a b c d)
theorem Pts.load {fs:List Fct} {p q v x:ByteArray} (h:(⟨3,p,q⟩:Fct)∈fs) (h1:Pts fs q v) (h2:Pts fs v x):Pts fs p x:=fun R a b c d=>c p q v x h (h1 R a b c d) (h2 R a b c d)
theorem Pts.store {fs:List Fct} {p q v x:ByteArray} (h:(⟨4,p,q⟩:Fct)∈fs) (h1:Pts fs p v) (h2:Pts fs q x):Pts fs v x:=fun R a b c d=>d p q v x h (h1 R a b c d) (h2 R a b c d)
theorem Pts.ind {fs:List Fct} {motive:∀ p x,Pts fs p x→Prop} (addr:∀ {p q:ByteArray} (h:(⟨1,p,q⟩:Fct)∈fs),motive p q (.addr h)) (copy:∀ {p q x:ByteArray} (h:(⟨2,p,q⟩:Fct)∈fs) (h1:Pts fs q x),motive q x h1→motive p x (.copy h h1))
  (load:∀ {p q v x:ByteArray} (h:(⟨3,p,q⟩:Fct)∈fs) (h1:Pts fs q v) (h2:Pts fs v x),motive q v h1→motive v x h2→motive p x (.load h h1 h2)) (store:∀ {p q v x:ByteArray} (h:(⟨4,p,q⟩:Fct)∈fs) (h1:Pts fs p v) (h2:Pts fs q x),motive p v h1→motive q x h2→motive v x (.store h h1 h2))
  {p x:ByteArray} (t:Pts fs p x):motive p x t:=by
 obtain ⟨_,h⟩:=t (fun p x=>∃ h:Pts fs p x,motive p x h) (fun p q h=>⟨.addr h,addr h⟩) (fun p q x h ⟨h1,i1⟩=>⟨.copy h h1,copy h h1 i1⟩) (fun p q v x h ⟨h1,i1⟩ ⟨h2,i2⟩=>⟨.load h h1 h2,load h h1 h2 i1 i2⟩) (fun p q v x h ⟨h1,i1⟩ ⟨h2,i2⟩=>⟨.store h h1 h2,store h h1 h2 i1 i2⟩)
 exact h
end
section
open Go.RowKit Go.Maps
end
section
open Go.RowKit Go.Maps
end
section
open Go.RowKit Go.Maps
theorem nd_inj {ns:List ByteArray} (hnd:ns.Nodup) {i j:Nat} {x:ByteArray} (hi:ns[i]?=some x) (hj:ns[j]?=some x):i=j:=by
 obtain ⟨h1,h2⟩:=List.getElem?_eq_some_iff.1 hi
 obtain ⟨h3,h4⟩:=List.getElem?_eq_some_iff.1 hj
 exact (List.getElem_inj (h₀:=h1) (h₁:=h3) hnd).1 (h2.trans h4.symm)
def bit:Value→Nat
 | .bool true=>1
 | _=>0
end
section
open Go.RowKit Go.Maps
theorem mem_insN {l:List ByteArray} {s x:ByteArray}:x∈insN l s↔x=s∨x∈l:=by
 by_cases h:l[insAt l s]?=some s
 ·rw [insN_old rfl h]
  constructor
  ·exact .inr
  ·rintro (rfl | h2)
   ·exact List.mem_of_getElem? h
   ·exact h2
 ·rw [insN_new rfl h]
  constructor
  ·intro hx
   rcases List.mem_append.1 hx with hx | hx
   ·exact .inr (List.mem_of_mem_take hx)
   ·rcases List.mem_cons.1 hx with hx | hx
    ·exact .inl hx
    ·exact .inr (List.mem_of_mem_drop hx)
  ·rintro (rfl | h2)
   ·simp
   ·rw [← List.take_append_drop (insAt l s) l] at h2
    rcases List.mem_append.1 h2 with h2 | h2
    ·exact List.mem_append_left _ h2
    ·exact List.mem_append_right _ (List.mem_cons_of_mem _ h2)
theorem mem_fold {l:List ByteArray}:∀ {out:List ByteArray} {x:ByteArray},x∈l.foldl insN out↔x∈out∨x∈l:=by
 induction l with
 | nil=>intro out x; simp
 | cons a r ih=>
  intro out x
  rw [List.foldl_cons,ih,mem_insN]
  constructor
  ·rintro ((rfl | h) | h)
   ·exact .inr (by simp)
   ·exact .inl h
   ·exact .inr (by simp [h])
  ·rintro (h | h)
   ·exact .inl (.inr h)
   ·rcases List.mem_cons.1 h with rfl | h
    ·exact .inl (.inl rfl)
    ·exact .inr h
def nsOf (fs:List Fct):List ByteArray:=namesS (strsOf fs)
theorem mem_ns {fs:List Fct} {x:ByteArray}:x∈nsOf fs↔∃ f∈fs,x=f.p∨x=f.q:=by
 unfold nsOf namesS
 rw [mem_fold]
 simp [strsOf]
theorem ns_nodup (fs:List Fct):(nsOf fs).Nodup:=by
 have h:=asc_names (strsOf fs)
 exact List.Pairwise.imp (fun {a b} hab e=>by subst e; rw [lessS_irrefl] at hab; cases hab) h
abbrev DP:=∀ (fs:List Fct) (a b:ByteArray),Decidable (Pts fs a b)
def solR [DP] (fs:List Fct):List RowD:=(nsOf fs).map fun a=>⟨a,(nsOf fs).filter fun b=>decide (Pts fs a b)⟩
end
section
open Go.RowKit Go.Maps
end
section
open Go.RowKit Go.Shelf
attribute [local go_sem] Oper.semAt_some
end
section
open Go.RowKit Go.Shelf
abbrev TSet:TypeId:=112
abbrev TNs:TypeId:=106
structure NxI (M:Nat) (I:World→List Nat→Prop):Prop where
 lt:∀ W F b,I W F→b∈F→b < W.heap.size∧(b < M∨∃ cs T,W.heap[b]?=some (.cells cs T (0,0)))
 kb:∀ W W' F L,I W F→Kb L W W'→(∀ b∈L,b ∉ F)→I W' F
 uniq:∀ W F F',I W F→I W F'→F=F'
def NxOK (I:World→List Nat→Prop) (f:Nat) (fi ca:Array Value) (N:Nat) (nx:Nat→List Nat):Prop:=
 ∀ (W:World) (F:List Nat) (m:Nat),I W F→TabAt W→m < N→Calls Tryz.prog f (fi.push (.int .u64 ((m:Nat):Int)) ++ ca) W fun e W'=>∃ v F',e=.returned (.agg #[v])∧SetV W' 0 v (nx m)∧(∀ g,v.ownBlock=some g→g∈F∨W.heap.size≤g)∧I W' F'∧Kb F W W'∧∀ b∈F',b∈F∨W.heap.size≤b
def Own5 (z bf br:Nat) (vf vr:Value) (b:Nat):Prop:=b=z∨b=bf∨b=br∨vf.ownBlock=some b∨vr.ownBlock=some b
structure RS (M:Nat) (I:World→List Nat→Prop) (w:World) (F0 L found rest:List Nat) (bf br:Nat) (vf vr:Value) (F ds:List Nat) (W:World):Prop where
 nx:NxI M I
 hM:M≤w.heap.size
 inv:I W F
 kb:Kb F0 w W
 ft:∀ b∈F,b∈F0∨w.heap.size≤b
 cz:W.heap[w.heap.size]?=some (.cells #[.slice none 0 0] TSet (0,0))
 cf:W.heap[bf]?=some (.cells #[vf] TSet (0,0))
 sf:SetV W w.heap.size vf found
 cr:W.heap[br]?=some (.cells #[vr] TNs (0,0))
 sr:OwnN W w.heap.size vr rest
 lo:w.heap.size < bf∧w.heap.size < br
 out:∀ b,Own5 w.heap.size bf br vf vr b→b ∉ F
 lb:∀ k∈L,k ∉ F∧k < W.heap.size∧¬ Own5 w.heap.size bf br vf vr k
 dd:∀ D∈ds,W.heap[D]?=some (.deferred (some []))
 nd:ds.Nodup
 dl:∀ D∈ds,w.heap.size≤D
variable {M:Nat} {I:World→List Nat→Prop} {w:World} {F0 L found rest:List Nat} {bf br:Nat} {vf vr:Value} {F ds:List Nat} {W W':World}
theorem RS.cells (h:RS M I w F0 L found rest bf br vf vr F ds W) {b:Nat} (hb:Own5 w.heap.size bf br vf vr b):w.heap.size≤b∧∃ cs T,W.heap[b]?=some (.cells cs T (0,0)):=by
 rcases hb with rfl | rfl | rfl | e | e
 ·exact ⟨Nat.le_refl _,_,_,h.cz⟩
 ·exact ⟨Nat.le_of_lt h.lo.1,_,_,h.cf⟩
 ·exact ⟨Nat.le_of_lt h.lo.2,_,_,h.cr⟩
 ·obtain ⟨cs,hc⟩:=h.sf.block e
  exact ⟨(h.sf.lt e).1,cs,_,hc⟩
 ·obtain ⟨cs,hc⟩:=h.sr.block e
  exact ⟨(h.sr.lt e).1,cs,_,hc⟩
theorem RS.dF (h:RS M I w F0 L found rest bf br vf vr F ds W) {D:Nat} {o:Obj} (hD:W.heap[D]?=some o) (hn:o.isCells=false) (hl:w.heap.size≤D):D ∉ F:=by
 intro hm
 rcases (h.nx.lt W F D h.inv hm).2 with h1 | ⟨cs,T,h1⟩
 ·have:=h.hM; omega
 ·rw [hD] at h1
  cases h1
  cases hn
theorem RS.side (h:RS M I w F0 L found rest bf br vf vr F ds W) {X:List Nat} (hk:Kb X W W') (hX:∀ b∈X,w.heap.size≤b∧b ∉ F∧¬ Own5 w.heap.size bf br vf vr b) (hD:∀ b∈X,b ∉ ds):RS M I w F0 L found rest bf br vf vr F ds W':=by
 have no:∀ {b},Own5 w.heap.size bf br vf vr b→b ∉ X:=fun ho hm=>(hX _ hm).2.2 ho
 refine ⟨h.nx,h.hM,h.nx.kb W W' F X h.inv hk (fun b hb=>(hX b hb).2.1),⟨hk.os.trans h.kb.os,hk.tape.trans h.kb.tape,hk.output.trans h.kb.output,Nat.le_trans h.kb.size hk.size,fun j hj hl=>?_⟩,h.ft,hk.heap h.cz (no (.inl rfl)),hk.heap h.cf (no (.inr (.inl rfl))),h.sf.kb hk (fun g hg e=>no (.inr (.inr (.inr (.inl e)))) hg),hk.heap h.cr (no (.inr (.inr (.inl rfl)))),h.sr.kb hk (fun g hg e=>no (.inr (.inr (.inr (.inr e)))) hg),h.lo,h.out,fun k hk2=>⟨(h.lb k hk2).1,Nat.lt_of_lt_of_le (h.lb k hk2).2.1 hk.size,(h.lb k hk2).2.2⟩,fun D hD2=>hk.heap (h.dd D hD2) (fun hm=>hD D hm hD2),h.nd,h.dl⟩
 refine (hk.block j (Nat.lt_of_lt_of_le hj h.kb.size) (fun hm=>?_)).trans (h.kb.block j hj hl)
 have:=(hX j hm).1
 omega
theorem RS.fresh (h:RS M I w F0 L found rest bf br vf vr F ds W) (hk:Kb [] W W'):RS M I w F0 L found rest bf br vf vr F ds W':=h.side hk (by simp) (by simp)
theorem RS.own (h:RS M I w F0 L found rest bf br vf vr F ds W) {D:Nat} (hD:w.heap.size≤D) (hds:∀ x∈ds,x < D) {row:Option Nat} (hg:W.grownBy W' row) (hr:∀ r,row=some r→D≤r∧∃ o:Obj,W.heap[r]?=some o∧o.isCells=false):RS M I w F0 L found rest bf br vf vr F ds W':=by
 refine h.side (kb_grown hg) (fun b hb=>?_) (fun b hb hm=>?_)
 ·obtain ⟨h1,o,ho,hc⟩:=hr b (by simpa using hb)
  refine ⟨by omega,h.dF ho hc (by omega),fun h2=>?_⟩
  obtain ⟨_,cs,T,h3⟩:=h.cells h2
  rw [ho] at h3
  cases h3
  cases hc
 ·have:=(hr b (by simpa using hb)).1
  have:=hds b hm
  omega
theorem RS.call (h:RS M I w F0 L found rest bf br vf vr F ds W) {F':List Nat} (hi:I W' F') (hk:Kb F W W') (hf:∀ b∈F',b∈F∨W.heap.size≤b):RS M I w F0 L found rest bf br vf vr F' ds W':=by
 have nF:∀ b,b < W.heap.size→b ∉ F→b ∉ F':=fun b hb hn hm=>by
  rcases hf b hm with h1 | h1
  ·exact hn h1
  ·omega
 have lt:∀ {b},Own5 w.heap.size bf br vf vr b→b < W.heap.size:=fun ho=>by
  obtain ⟨_,cs,T,hc⟩:=h.cells ho
  exact lt_of_heap hc
 refine ⟨h.nx,h.hM,hi,⟨hk.os.trans h.kb.os,hk.tape.trans h.kb.tape,hk.output.trans h.kb.output,Nat.le_trans h.kb.size hk.size,fun j hj hl=>?_⟩,fun b hb=>?_,hk.heap h.cz (h.out _ (.inl rfl)),hk.heap h.cf (h.out _ (.inr (.inl rfl))),h.sf.kb hk (fun g hg e=>h.out g (.inr (.inr (.inr (.inl e)))) hg),hk.heap h.cr (h.out _ (.inr (.inr (.inl rfl)))),h.sr.kb hk (fun g hg e=>h.out g (.inr (.inr (.inr (.inr e)))) hg),h.lo,fun b hb=>nF b (lt hb) (h.out b hb),fun k hk2=>⟨nF k (h.lb k hk2).2.1 (h.lb k hk2).1,Nat.lt_of_lt_of_le (h.lb k hk2).2.1 hk.size,(h.lb k hk2).2.2⟩,fun D hD=>hk.heap (h.dd D hD) (h.dF (h.dd D hD) rfl (h.dl D hD)),h.nd,h.dl⟩
 ·refine (hk.block j (Nat.lt_of_lt_of_le hj h.kb.size) (fun hm=>?_)).trans (h.kb.block j hj hl)
  rcases h.ft j hm with h1 | h1
  ·exact hl h1
  ·omega
 ·rcases hf b hb with h1 | h1
  ·exact h.ft b h1
  ·exact .inr (Nat.le_trans h.kb.size h1)
theorem RS.put (h:RS M I w F0 L found rest bf br vf vr F ds W) {X:List Nat} (hk:Kb X W W') (hX:∀ b∈X,Own5 w.heap.size bf br vf vr b) {found' rest':List Nat} {br':Nat} {vf' vr':Value} (hz:W'.heap[w.heap.size]?=some (.cells #[.slice none 0 0] TSet (0,0))) (hcf:W'.heap[bf]?=some (.cells #[vf'] TSet (0,0))) (hsf:SetV W' w.heap.size vf' found') (hcr:W'.heap[br']?=some (.cells #[vr'] TNs (0,0))) (hsr:OwnN W' w.heap.size vr' rest')
  (ho:∀ b,Own5 w.heap.size bf br' vf' vr' b→Own5 w.heap.size bf br vf vr b∨W.heap.size≤b):RS M I w F0 L found' rest' bf br' vf' vr' F ds W'∧(∀ D,KeepsFrom D W W')∧KpB L W W':=by
 have hlo:w.heap.size < br':=by
  rcases ho br' (.inr (.inr (.inl rfl))) with h1 | h1
  ·have h2:=(h.cells h1).1
   by_cases e:br'=w.heap.size
   ·rw [e] at hcr
    rw [hz] at hcr
    injection hcr with hcr
    injection hcr with _ hcr _
    exact absurd hcr (by decide)
   ·omega
  ·have:=lt_of_heap h.cz; omega
 refine ⟨⟨h.nx,h.hM,h.nx.kb W W' F X h.inv hk (fun b hb=>h.out b (hX b hb)),⟨hk.os.trans h.kb.os,hk.tape.trans h.kb.tape,hk.output.trans h.kb.output,Nat.le_trans h.kb.size hk.size,fun j hj hl=>?_⟩,h.ft,hz,hcf,hsf,hcr,hsr,⟨h.lo.1,hlo⟩,fun b hb=>?_,fun k hk2=>?_,fun D hD=>hk.heap (h.dd D hD) (fun hm=>?_),h.nd,h.dl⟩,fun D=>kb_keepsFrom hk (fun b hb o ho2=>?_) D,fun k hk2=>hk.block k (h.lb k hk2).2.1 (fun hm=>(h.lb k hk2).2.2 (hX k hm))⟩
 ·refine (hk.block j (Nat.lt_of_lt_of_le hj h.kb.size) (fun hm=>?_)).trans (h.kb.block j hj hl)
  have:=(h.cells (hX j hm)).1
  omega
 ·rcases ho b hb with h1 | h1
  ·exact h.out b h1
  ·intro hm
   have:=(h.nx.lt W F b h.inv hm).1
   omega
 ·obtain ⟨l1,l2,l3⟩:=h.lb k hk2
  refine ⟨l1,Nat.lt_of_lt_of_le l2 hk.size,fun h1=>?_⟩
  rcases ho k h1 with h2 | h2
  ·exact l3 h2
  ·omega
 ·obtain ⟨_,cs,T,hc⟩:=h.cells (hX D hm)
  rw [h.dd D hD] at hc
  cases hc
 ·obtain ⟨_,cs,T,hc⟩:=h.cells (hX b hb)
  rw [hc] at ho2
  cases ho2
  rfl
theorem RS.ne1 (h:RS M I w F0 L found rest bf br vf vr F ds W):bf≠br:=ne_types h.cf h.cr (by decide)
theorem RS.sets (h:RS M I w F0 L found rest bf br vf vr F ds W) {v2:Value} {found':List Nat} (hS:SetV W' w.heap.size v2 found') (hC:SetCh W W' bf 0 #[vf] TSet vf v2):RS M I w F0 L found' rest bf br v2 vr F ds W'∧(∀ D,KeepsFrom D W W')∧KpB L W W':=by
 have n1:∀ {b cs T},W.heap[b]?=some (.cells cs T (0,0))→b≠bf→T≠T64→b ∉ bf :: vf.ownBlock.toList:=by
  intro b cs T hb hne hT hm
  rcases List.mem_cons.1 hm with e | hm
  ·exact hne e
  ·simp at hm
   exact h.sf.ne hb hT hm
 refine h.put hC.kb ?_ (hC.kb.heap h.cz (n1 h.cz (by have:=h.lo.1; omega) (by decide))) ?_ hS (hC.kb.heap h.cr (n1 h.cr h.ne1.symm (by decide))) ?_ ?_
 ·intro b hb
  rcases List.mem_cons.1 hb with rfl | hb
  ·exact .inr (.inl rfl)
  ·simp at hb
   exact .inr (.inr (.inr (.inl hb)))
 ·rw [hC.blk]
  rfl
 ·refine h.sr.kb hC.kb (fun g hg e=>?_)
  obtain ⟨cs,hc⟩:=h.sr.block e
  rcases List.mem_cons.1 hg with rfl | hg
  ·exact ne_types h.cf hc (by decide) rfl
  ·simp at hg
   obtain ⟨cs2,hc2⟩:=h.sf.block hg
   exact ne_types hc2 hc (by decide) rfl
 ·rintro b (e | e | e | e | e)
  ·exact .inl (.inl e)
  ·exact .inl (.inr (.inl e))
  ·exact .inl (.inr (.inr (.inl e)))
  ·rcases hC.lies with e2 | ⟨g,e2,hg⟩
   ·exact .inl (.inr (.inr (.inr (.inl (by rw [← e2]; exact e)))))
   ·rw [e2] at e
    cases e
    exact .inr hg
  ·exact .inl (.inr (.inr (.inr (.inr e))))
theorem RS.rows (h:RS M I w F0 L found rest bf br vf vr F ds W) {W1:World} {v2:Value} {rest':List Nat} (hk:Kb vr.ownBlock.toList W W1) (hS:OwnN W1 w.heap.size v2 rest') (hl:v2.ownBlock=vr.ownBlock∨∀ g,v2.ownBlock=some g→W.heap.size≤g) :
  RS M I w F0 L found rest' bf br vf v2 F ds (W1.setCell ⟨br,0,none⟩ v2)∧(∀ D,KeepsFrom D W (W1.setCell ⟨br,0,none⟩ v2))∧KpB L W (W1.setCell ⟨br,0,none⟩ v2):=by
 have hvr:∀ {b cs T},W.heap[b]?=some (.cells cs T (0,0))→T≠TN→b ∉ vr.ownBlock.toList:=by
  intro b cs T hb hT hm
  simp at hm
  exact h.sr.ne hb hT hm
 have cr1:=hk.heap h.cr (hvr h.cr (by decide))
 have kS:Kb [br] W1 (W1.setCell ⟨br,0,none⟩ v2):=(Kb.refl _ _).setCell (p:=⟨br,0,none⟩) (.inl (by simp)) _
 have kk:Kb (br :: vr.ownBlock.toList) W (W1.setCell ⟨br,0,none⟩ v2):=(hk.mono (by intro k _ hk2; simp at hk2; simp [hk2])).trans (kS.mono (by intro k _ hk2; simp at hk2; simp [hk2]))
 have n1:∀ {b cs T},W.heap[b]?=some (.cells cs T (0,0))→b≠br→T≠TN→b ∉ br :: vr.ownBlock.toList:=by
  intro b cs T hb hne hT hm
  rcases List.mem_cons.1 hm with e | hm
  ·exact hne e
  ·exact hvr hb hT hm
 refine h.put kk ?_ (kk.heap h.cz (n1 h.cz (by have:=h.lo.2; omega) (by decide))) (kk.heap h.cf (n1 h.cf h.ne1 (by decide))) ?_ (by rw [heap_set cr1]; rfl) ?_ ?_
 ·intro b hb
  rcases List.mem_cons.1 hb with rfl | hb
  ·exact .inr (.inr (.inl rfl))
  ·simp at hb
   exact .inr (.inr (.inr (.inr hb)))
 ·refine h.sf.kb kk (fun g hg e=>?_)
  obtain ⟨cs,hc⟩:=h.sf.block e
  exact n1 hc (ne_types hc h.cr (by decide)) (by decide) hg
 ·refine hS.kb kS (fun g hg e=>?_)
  rw [List.mem_singleton.1 hg] at e
  obtain ⟨cs,hc⟩:=hS.block e
  exact ne_types hc cr1 (by decide) rfl
 ·rintro b (e | e | e | e | e)
  ·exact .inl (.inl e)
  ·exact .inl (.inr (.inl e))
  ·exact .inl (.inr (.inr (.inl e)))
  ·exact .inl (.inr (.inr (.inr (.inl e))))
  ·rcases hl with e2 | e2
   ·exact .inl (.inr (.inr (.inr (.inr (by rw [← e2]; exact e)))))
   ·exact .inr (e2 b e)
theorem RS.box (h:RS M I w F0 L found rest bf br vf vr F ds W):RS M I w F0 L found rest bf W.heap.size vf vr F ds (W.alloc (.cells #[vr] TNs)):=by
 have kA:Kb [] W (W.alloc (.cells #[vr] TNs)):=(Kb.refl [] W).alloc _
 refine (h.put kA (by simp) (kA.heap h.cz (by simp)) (kA.heap h.cf (by simp)) (h.sf.kb kA (by simp)) (heap_new _ _) (h.sr.kb kA (by simp)) ?_).1
 rintro b (e | e | e | e | e)
 ·exact .inl (.inl e)
 ·exact .inl (.inr (.inl e))
 ·exact .inr (by omega)
 ·exact .inl (.inr (.inr (.inr (.inl e))))
 ·exact .inl (.inr (.inr (.inr (.inr e))))
theorem RS.setL (h:RS M I w F0 L found rest bf br vf vr F ds W) {L':List Nat} (hL:∀ k∈L',k ∉ F∧k < W.heap.size∧¬ Own5 w.heap.size bf br vf vr k):RS M I w F0 L' found rest bf br vf vr F ds W:=⟨h.nx,h.hM,h.inv,h.kb,h.ft,h.cz,h.cf,h.sf,h.cr,h.sr,h.lo,h.out,hL,h.dd,h.nd,h.dl⟩
theorem RS.addD (h:RS M I w F0 L found rest bf br vf vr F ds W) {D:Nat} (hD:W.heap[D]?=some (.deferred (some []))) (hn:∀ x∈ds,x < D) (hl:w.heap.size≤D):RS M I w F0 L found rest bf br vf vr F (D :: ds) W:=by
 refine ⟨h.nx,h.hM,h.inv,h.kb,h.ft,h.cz,h.cf,h.sf,h.cr,h.sr,h.lo,h.out,h.lb,fun x hx=>?_,List.nodup_cons.2 ⟨fun hm=>Nat.lt_irrefl _ (hn D hm),h.nd⟩,fun x hx=>?_⟩
 ·rcases List.mem_cons.1 hx with rfl | hx
  ·exact hD
  ·exact h.dd x hx
 ·rcases List.mem_cons.1 hx with rfl | hx
  ·exact hl
  ·exact h.dl x hx
theorem OwnN.pop {w:World} {B:Nat} {ao:Option Addr} {cap:Nat} {xs:List Nat} (h:OwnN w B (.slice ao xs.length cap) xs) (hne:xs≠[]):OwnN w B (.slice ao (xs.length - 1) cap) xs.dropLast:=by
 have hl:=List.length_pos_iff.2 hne
 rcases h.1.2 with ⟨e,h0⟩ | ⟨g,cp,cur,e,h1,h2,h3,h4,h5,h6⟩
 ·omega
 ·refine ⟨⟨by rw [u64s_len,Nat.mul_one],.inr ⟨g,cp,cur,?_,h1,h2,by rw [List.length_dropLast]; omega,h4,h5,?_⟩⟩,fun x hx=>h.2 x ((List.dropLast_sublist xs).subset hx)⟩
  ·rw [List.length_dropLast]
   injection e with e1 e2 e3
   rw [e1,e3]
  ·rw [Nat.mul_one] at h6 ⊢
   rw [List.length_dropLast,List.dropLast_eq_take]
   unfold u64s at h6 ⊢
   rw [List.map_take,← h6,List.take_take]
   congr 1
   omega
end
section
open Go.RowKit Go.Shelf Go.Maps
abbrev TMp:TypeId:=215
def heldR (v:Value):Option (DataW Value × List MemPlace):=some (.held v,[])
def zAgg:Value:=.agg #[.slice none 0 0]
theorem keyLaw:Keyed Tryz.prog TN:=int_keyed Tryz.underlying144
theorem zeroSet (w:World):(zeroValue TSet).run Tryz.prog w=.ok zAgg w:=by kernel_rfl
def MapAt (W:World) (mb cnt:Nat) (m:Nat→Value):Prop:=∃ D:DataW Value,W.ownsMap Tryz.prog TN heldR mb cnt D∧IsMap D∧∀ n:Nat,n < 128→D.atKey (.int .u64 (n:Int)) (.held zAgg)=.held (.agg #[m n])
theorem keyN {n:Nat} (hn:n < 128):keyOf Tryz.prog TN (.int .u64 (n:Int))=some (.int .u64 (n:Int)):=by
 refine keyOf_int_mk Tryz.underlying144 ?_
 have e1:IntKind.u64.min=0:=by decide
 have e2:IntKind.u64.max=18446744073709551615:=by decide
 simp [Lit.wf,e1,e2]
 omega
theorem MapAt.made (W:World):MapAt (W.alloc (.map #[] 0)) W.heap.size 0 (fun _=>.slice none 0 0):=
 ⟨.map [],World.ownsMap_made W _ _ _,isMap_empty,fun _ _=>rfl⟩
theorem MapAt.lt {W:World} {mb cnt:Nat} {m:Nat→Value} (h:MapAt W mb cnt m):mb < W.heap.size:=by
 obtain ⟨D,h1,_⟩:=h
 exact h1.lt
theorem MapAt.obj {W:World} {mb cnt:Nat} {m:Nat→Value} (h:MapAt W mb cnt m):∃ es cl,W.heap[mb]?=some (.map es cl):=by
 obtain ⟨D,⟨es,cl,h1,_⟩,_⟩:=h
 exact ⟨es,cl,h1⟩
theorem MapAt.kb {W W':World} {mb cnt:Nat} {m:Nat→Value} (h:MapAt W mb cnt m) {L:List Nat} (hk:Kb L W W') (hn:mb ∉ L):MapAt W' mb cnt m:=by
 obtain ⟨D,⟨es,cl,h1,h2⟩,h3⟩:=h
 exact ⟨D,⟨es,cl,by rw [hk.block mb (lt_of_heap h1) hn]; exact h1,h2⟩,h3⟩
theorem MapAt.look {W:World} {mb cnt:Nat} {m:Nat→Value} (h:MapAt W mb cnt m) {n:Nat} (hn:n < 128):(Instr.lookup TMp (.map (some mb)) (.int .u64 (n:Int)) false).run Tryz.prog W=.ok (.agg #[m n]) W:=by
 obtain ⟨D,h1,_,h3⟩:=h
 obtain ⟨v,ps,hr,hv⟩:=h1.lookup (R:=heldR) (z:=zAgg) (zd:=.held zAgg) (zp:=[]) keyLaw Tryz.underlying215 (zeroSet W) rfl (keyN hn)
 rw [h3 n hn] at hv
 simp [heldR] at hv
 rw [hr,hv.1]
theorem MapAt.upd {W:World} {mb cnt:Nat} {m:Nat→Value} (h:MapAt W mb cnt m) {n:Nat} (hn:n < 128) (hc:cnt < 100000) (v:Value):∃ W',(Instr.mapUpdate TMp (.map (some mb)) (.int .u64 (n:Int)) (.agg #[v])).run Tryz.prog W=.ok () W'∧MapAt W' mb (cnt+1) (fun k=>if k=n then v else m k)∧Kb [mb] W W':=by
 obtain ⟨D,h1,h2,h3⟩:=h
 obtain ⟨W',hr,h4,h5⟩:=h1.update (R:=heldR) keyLaw Tryz.underlying215 (by unfold maxLen; omega) (keyN hn) (val:=.agg #[v]) (d:=.held (.agg #[v])) (ps:=[]) rfl
 refine ⟨W',hr,⟨_,h4,h2.put _ _,fun k hk=>?_⟩,kb_grown h5⟩
 by_cases e:k=n
 ·subst e
  simp only [if_true]
  exact atKey_put_same h2 (show WideAt.IsKeyLit (.int .u64 (k:Int)) from trivial) _ _
 ·simp only [if_neg e]
  rw [atKey_put_other (by intro e9; injection e9 with _ e9; omega)]
  exact h3 k hk
end
end Go.Proofs.YtiamlbhkiehilaaGreatDoor
