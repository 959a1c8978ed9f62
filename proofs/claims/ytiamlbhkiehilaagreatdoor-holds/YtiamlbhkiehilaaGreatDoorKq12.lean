import Derived.Test.YtiamlbhkiehilaaGreatDoorKq11
import Derived.Test.YtiamlbhkiehilaaGreatDoorKq07
import Derived.Maps.Own
import Derived.Maps.OwnIn
import Derived.Maps.Views
import Derived.Test.YtiamlbhkiehilaaGreatDoorKq08
import Derived.Lib.RowBridge
import Derived.Sort.Walk0
import Derived.Test.YtiamlbhkiehilaaGreatDoorKqSh
import Derived.Lib.OwnBridge
import Derived.Deep.RegionWith
import Derived.Sort.LoopGhostIn
namespace Go.Proofs.YtiamlbhkiehilaaGreatDoor
section
open Go.RowKit Go.Shelf
abbrev TSet:TypeId:=112
abbrev TNs:TypeId:=106
structure NxI(M:Nat)(I:World→List Nat→Prop):Prop where
 lt:∀W F b,I W F→b∈F→b<W.heap.size∧(b<M∨∃cs T,W.heap[b]?=some (.cells cs T (0,0)))
 kb:∀W W' F L,I W F→Kb L W W'→(∀b∈L,b ∉ F)→I W' F
 uniq:∀W F F',I W F→I W F'→F=F'
def NxOK(I:World→List Nat→Prop)(f:Nat)(fi ca:Array Value)(N:Nat)(nx:Nat→List Nat):Prop:=
 ∀(W:World) (F:List Nat) (m:Nat),I W F→TabAt W→m<N→Calls Tryz.prog f (fi.push (.int .u64 ((m:Nat):Int))++ca) W fun e W'=>∃v F',e=.returned (.agg #[v])∧SetV W' 0 v (nx m)∧(∀g,v.ownBlock=some g→g∈F∨W.heap.size≤g)∧I W' F'∧Kb F W W'∧∀b∈F',b∈F∨W.heap.size≤b
def Own5(z bf br:Nat)(vf vr:Value)(b:Nat):Prop:=b=z∨b=bf∨b=br∨vf.ownBlock=some b∨vr.ownBlock=some b
structure RS(M:Nat)(I:World→List Nat→Prop)(w:World)(F0 L found rest:List Nat)(bf br:Nat)(vf vr:Value)(F ds:List Nat)(W:World):Prop where
 nx:NxI M I
 hM:M≤w.heap.size
 inv:I W F
 kb:Kb F0 w W
 ft:∀b∈F,b∈F0∨w.heap.size≤b
 cz:W.heap[w.heap.size]?=some (.cells #[.slice none 0 0] TSet (0,0))
 cf:W.heap[bf]?=some (.cells #[vf] TSet (0,0))
 sf:SetV W w.heap.size vf found
 cr:W.heap[br]?=some (.cells #[vr] TNs (0,0))
 sr:OwnN W w.heap.size vr rest
 lo:w.heap.size<bf∧w.heap.size<br
 out:∀b,Own5 w.heap.size bf br vf vr b→b ∉ F
 lb:∀k∈L,k ∉ F∧k<W.heap.size∧¬Own5 w.heap.size bf br vf vr k
 dd:∀D∈ds,W.heap[D]?=some (.deferred (some []))
 nd:ds.Nodup
 dl:∀D∈ds,w.heap.size≤D
variable {M:Nat} {I:World→List Nat→Prop} {w:World} {F0 L found rest:List Nat} {bf br:Nat} {vf vr:Value} {F ds:List Nat} {W W':World}
theorem RS.cells(h:RS M I w F0 L found rest bf br vf vr F ds W){b:Nat}(hb:Own5 w.heap.size bf br vf vr b):w.heap.size≤b∧∃cs T,W.heap[b]?=some (.cells cs T (0,0)):=by
 rcases hb with rfl|rfl|rfl|e|e
 ·exact⟨Nat.le_refl _,_,_,h.cz⟩
 ·exact⟨Nat.le_of_lt h.lo.1,_,_,h.cf⟩
 ·exact⟨Nat.le_of_lt h.lo.2,_,_,h.cr⟩
 ·obtain⟨cs,hc⟩:=h.sf.block e;exact⟨(h.sf.lt e).1,cs,_,hc⟩
 ·obtain⟨cs,hc⟩:=h.sr.block e;exact⟨(h.sr.lt e).1,cs,_,hc⟩
theorem RS.dF(h:RS M I w F0 L found rest bf br vf vr F ds W){D:Nat}{o:Obj}(hD:W.heap[D]?=some o)(hn:o.isCells=false)(hl:w.heap.size≤D):D ∉ F:=by
 intro hm;rcases(h.nx.lt W F D h.inv hm).2 with h1|⟨cs,T,h1⟩
 ·have:=h.hM;omega
 ·rw[hD]at h1;cases h1;cases hn
theorem RS.side(h:RS M I w F0 L found rest bf br vf vr F ds W){X:List Nat}(hk:Kb X W W')(hX:∀b∈X,w.heap.size≤b∧b ∉ F∧¬Own5 w.heap.size bf br vf vr b)(hD:∀b∈X,b ∉ ds):RS M I w F0 L found rest bf br vf vr F ds W':=by
 have no:∀ {b},Own5 w.heap.size bf br vf vr b→b ∉ X:=fun ho hm=>(hX _ hm).2.2 ho
 refine⟨h.nx,h.hM,h.nx.kb W W' F X h.inv hk (fun b hb=>(hX b hb).2.1),⟨hk.os.trans h.kb.os,hk.tape.trans h.kb.tape,hk.output.trans h.kb.output,Nat.le_trans h.kb.size hk.size,fun j hj hl=>?_⟩,h.ft,hk.heap h.cz (no (.inl rfl)),hk.heap h.cf (no (.inr (.inl rfl))),h.sf.kb hk (fun g hg e=>no (.inr (.inr (.inr (.inl e)))) hg),hk.heap h.cr (no (.inr (.inr (.inl rfl)))),h.sr.kb hk (fun g hg e=>no (.inr (.inr (.inr (.inr e)))) hg),h.lo,h.out,fun k hk2=>⟨(h.lb k hk2).1,Nat.lt_of_lt_of_le (h.lb k hk2).2.1 hk.size,(h.lb k hk2).2.2⟩,fun D hD2=>hk.heap (h.dd D hD2) (fun hm=>hD D hm hD2),h.nd,h.dl⟩;refine(hk.block j (Nat.lt_of_lt_of_le hj h.kb.size) (fun hm=>?_)).trans (h.kb.block j hj hl);have:=(hX j hm).1;omega
theorem RS.fresh(h:RS M I w F0 L found rest bf br vf vr F ds W)(hk:Kb [] W W'):RS M I w F0 L found rest bf br vf vr F ds W':=h.side hk (by simp) (by simp)
theorem RS.own(h:RS M I w F0 L found rest bf br vf vr F ds W){D:Nat}(hD:w.heap.size≤D)(hds:∀x∈ds,x<D){row:Option Nat}(hg:W.grownBy W' row)(hr:∀r,row=some r→D≤r∧∃o:Obj,W.heap[r]?=some o∧o.isCells=false):RS M I w F0 L found rest bf br vf vr F ds W':=by
 refine h.side (kb_grown hg) (fun b hb=>?_) (fun b hb hm=>?_)
 ·obtain⟨h1,o,ho,hc⟩:=hr b (by simpa using hb);refine⟨by omega,h.dF ho hc (by omega),fun h2=>?_⟩;obtain⟨_,cs,T,h3⟩:=h.cells h2;rw[ho]at h3;cases h3;cases hc
 ·have:=(hr b (by simpa using hb)).1;have:=hds b hm;omega
theorem RS.call(h:RS M I w F0 L found rest bf br vf vr F ds W){F':List Nat}(hi:I W' F')(hk:Kb F W W')(hf:∀b∈F',b∈F∨W.heap.size≤b):RS M I w F0 L found rest bf br vf vr F' ds W':=by
 have nF:∀b,b<W.heap.size→b ∉ F→b ∉ F':=fun b hb hn hm=>by
  rcases hf b hm with h1|h1
  ·exact hn h1
  ·omega
 have lt:∀ {b},Own5 w.heap.size bf br vf vr b→b<W.heap.size:=fun ho=>by
  obtain⟨_,cs,T,hc⟩:=h.cells ho;exact lt_of_heap hc
 refine⟨h.nx,h.hM,hi,⟨hk.os.trans h.kb.os,hk.tape.trans h.kb.tape,hk.output.trans h.kb.output,Nat.le_trans h.kb.size hk.size,fun j hj hl=>?_⟩,fun b hb=>?_,hk.heap h.cz (h.out _ (.inl rfl)),hk.heap h.cf (h.out _ (.inr (.inl rfl))),h.sf.kb hk (fun g hg e=>h.out g (.inr (.inr (.inr (.inl e)))) hg),hk.heap h.cr (h.out _ (.inr (.inr (.inl rfl)))),h.sr.kb hk (fun g hg e=>h.out g (.inr (.inr (.inr (.inr e)))) hg),h.lo,fun b hb=>nF b (lt hb) (h.out b hb),fun k hk2=>⟨nF k (h.lb k hk2).2.1 (h.lb k hk2).1,Nat.lt_of_lt_of_le (h.lb k hk2).2.1 hk.size,(h.lb k hk2).2.2⟩,fun D hD=>hk.heap (h.dd D hD) (h.dF (h.dd D hD) rfl (h.dl D hD)),h.nd,h.dl⟩
 ·refine(hk.block j (Nat.lt_of_lt_of_le hj h.kb.size) (fun hm=>?_)).trans (h.kb.block j hj hl);rcases h.ft j hm with h1|h1
  ·exact hl h1
  ·omega
 ·rcases hf b hb with h1|h1
  ·exact h.ft b h1
  ·exact .inr (Nat.le_trans h.kb.size h1)
theorem RS.put(h:RS M I w F0 L found rest bf br vf vr F ds W){X:List Nat}(hk:Kb X W W')(hX:∀b∈X,Own5 w.heap.size bf br vf vr b){found' rest':List Nat}{br':Nat}{vf' vr':Value}(hz:W'.heap[w.heap.size]?=some (.cells #[.slice none 0 0] TSet (0,0)))(hcf:W'.heap[bf]?=some (.cells #[vf'] TSet (0,0)))(hsf:SetV W' w.heap.size vf' found')(hcr:W'.heap[br']?=some (.cells #[vr'] TNs (0,0)))(hsr:OwnN W' w.heap.size vr' rest')
  (ho:∀b,Own5 w.heap.size bf br' vf' vr' b→Own5 w.heap.size bf br vf vr b∨W.heap.size≤b):RS M I w F0 L found' rest' bf br' vf' vr' F ds W'∧(∀D,KeepsFrom D W W')∧KpB L W W':=by
 have hlo:w.heap.size<br':=by
  rcases ho br' (.inr (.inr (.inl rfl)))with h1|h1
  ·have h2:=(h.cells h1).1;by_cases e:br'=w.heap.size
   ·rw[e]at hcr;rw[hz]at hcr;injection hcr with hcr;injection hcr with _ hcr _;exact absurd hcr (by decide)
   ·omega
  ·have:=lt_of_heap h.cz;omega
 refine⟨⟨h.nx,h.hM,h.nx.kb W W' F X h.inv hk (fun b hb=>h.out b (hX b hb)),⟨hk.os.trans h.kb.os,hk.tape.trans h.kb.tape,hk.output.trans h.kb.output,Nat.le_trans h.kb.size hk.size,fun j hj hl=>?_⟩,h.ft,hz,hcf,hsf,hcr,hsr,⟨h.lo.1,hlo⟩,fun b hb=>?_,fun k hk2=>?_,fun D hD=>hk.heap (h.dd D hD) (fun hm=>?_),h.nd,h.dl⟩,fun D=>kb_keepsFrom hk (fun b hb o ho2=>?_) D,fun k hk2=>hk.block k (h.lb k hk2).2.1 (fun hm=>(h.lb k hk2).2.2 (hX k hm))⟩
 ·refine(hk.block j (Nat.lt_of_lt_of_le hj h.kb.size) (fun hm=>?_)).trans (h.kb.block j hj hl);have:=(h.cells (hX j hm)).1;omega
 ·rcases ho b hb with h1|h1
  ·exact h.out b h1
  ·intro hm;have:=(h.nx.lt W F b h.inv hm).1;omega
 ·obtain⟨l1,l2,l3⟩:=h.lb k hk2;refine⟨l1,Nat.lt_of_lt_of_le l2 hk.size,fun h1=>?_⟩;rcases ho k h1 with h2|h2
  ·exact l3 h2
  ·omega
 ·obtain⟨_,cs,T,hc⟩:=h.cells (hX D hm);rw[h.dd D hD]at hc;cases hc
 ·obtain⟨_,cs,T,hc⟩:=h.cells (hX b hb);rw[hc]at ho2;cases ho2;rfl
theorem RS.ne1(h:RS M I w F0 L found rest bf br vf vr F ds W):bf≠br:=ne_types h.cf h.cr (by decide)
theorem RS.sets(h:RS M I w F0 L found rest bf br vf vr F ds W){v2:Value}{found':List Nat}(hS:SetV W' w.heap.size v2 found')(hC:SetCh W W' bf 0 #[vf] TSet vf v2):RS M I w F0 L found' rest bf br v2 vr F ds W'∧(∀D,KeepsFrom D W W')∧KpB L W W':=by
 have n1:∀ {b cs T},W.heap[b]?=some (.cells cs T (0,0))→b≠bf→T≠T64→b ∉ bf::vf.ownBlock.toList:=by
  intro b cs T hb hne hT hm;rcases List.mem_cons.1 hm with e|hm
  ·exact hne e
  ·simp at hm;exact h.sf.ne hb hT hm
 refine h.put hC.kb ?_ (hC.kb.heap h.cz (n1 h.cz (by have:=h.lo.1;omega) (by decide))) ?_ hS (hC.kb.heap h.cr (n1 h.cr h.ne1.symm (by decide))) ?_ ?_
 ·intro b hb;rcases List.mem_cons.1 hb with rfl|hb
  ·exact .inr (.inl rfl)
  ·simp at hb;exact .inr (.inr (.inr (.inl hb)))
 ·rw[hC.blk];rfl
 ·refine h.sr.kb hC.kb (fun g hg e=>?_);obtain⟨cs,hc⟩:=h.sr.block e;rcases List.mem_cons.1 hg with rfl|hg
  ·exact ne_types h.cf hc (by decide) rfl
  ·simp at hg;obtain⟨cs2,hc2⟩:=h.sf.block hg;exact ne_types hc2 hc (by decide) rfl
 ·rintro b (e|e|e|e|e)
  ·exact .inl (.inl e)
  ·exact .inl (.inr (.inl e))
  ·exact .inl (.inr (.inr (.inl e)))
  ·rcases hC.lies with e2|⟨g,e2,hg⟩
   ·exact .inl (.inr (.inr (.inr (.inl (by rw[← e2];exact e)))))
   ·rw[e2]at e;cases e;exact .inr hg
  ·exact .inl (.inr (.inr (.inr (.inr e))))
theorem RS.rows(h:RS M I w F0 L found rest bf br vf vr F ds W){W1:World}{v2:Value}{rest':List Nat}(hk:Kb vr.ownBlock.toList W W1)(hS:OwnN W1 w.heap.size v2 rest')(hl:v2.ownBlock=vr.ownBlock∨∀g,v2.ownBlock=some g→W.heap.size≤g) :
  RS M I w F0 L found rest' bf br vf v2 F ds (W1.setCell ⟨br,0,none⟩ v2)∧(∀D,KeepsFrom D W (W1.setCell ⟨br,0,none⟩ v2))∧KpB L W (W1.setCell ⟨br,0,none⟩ v2):=by
 have hvr:∀ {b cs T},W.heap[b]?=some (.cells cs T (0,0))→T≠TN→b ∉ vr.ownBlock.toList:=by
  intro b cs T hb hT hm;simp at hm;exact h.sr.ne hb hT hm
 have cr1:=hk.heap h.cr (hvr h.cr (by decide));have kS:Kb [br] W1 (W1.setCell ⟨br,0,none⟩ v2):=(Kb.refl _ _).setCell (p:=⟨br,0,none⟩) (.inl (by simp)) _;have kk:Kb (br::vr.ownBlock.toList) W (W1.setCell ⟨br,0,none⟩ v2):=(hk.mono (by intro k _ hk2;simp at hk2;simp[hk2])).trans (kS.mono (by intro k _ hk2;simp at hk2;simp[hk2]));have n1:∀ {b cs T},W.heap[b]?=some (.cells cs T (0,0))→b≠br→T≠TN→b ∉ br::vr.ownBlock.toList:=by
  intro b cs T hb hne hT hm;rcases List.mem_cons.1 hm with e|hm
  ·exact hne e
  ·exact hvr hb hT hm
 refine h.put kk ?_ (kk.heap h.cz (n1 h.cz (by have:=h.lo.2;omega) (by decide))) (kk.heap h.cf (n1 h.cf h.ne1 (by decide))) ?_ (by rw[heap_set cr1];rfl) ?_ ?_
 ·intro b hb;rcases List.mem_cons.1 hb with rfl|hb
  ·exact .inr (.inr (.inl rfl))
  ·simp at hb;exact .inr (.inr (.inr (.inr hb)))
 ·refine h.sf.kb kk (fun g hg e=>?_);obtain⟨cs,hc⟩:=h.sf.block e;exact n1 hc (ne_types hc h.cr (by decide)) (by decide) hg
 ·refine hS.kb kS (fun g hg e=>?_);rw[List.mem_singleton.1 hg]at e;obtain⟨cs,hc⟩:=hS.block e;exact ne_types hc cr1 (by decide) rfl
 ·rintro b (e|e|e|e|e)
  ·exact .inl (.inl e)
  ·exact .inl (.inr (.inl e))
  ·exact .inl (.inr (.inr (.inl e)))
  ·exact .inl (.inr (.inr (.inr (.inl e))))
  ·rcases hl with e2|e2
   ·exact .inl (.inr (.inr (.inr (.inr (by rw[← e2];exact e)))))
   ·exact .inr (e2 b e)
theorem RS.box(h:RS M I w F0 L found rest bf br vf vr F ds W):RS M I w F0 L found rest bf W.heap.size vf vr F ds (W.alloc (.cells #[vr] TNs)):=by
 have kA:Kb [] W (W.alloc (.cells #[vr] TNs)):=(Kb.refl [] W).alloc _;refine(h.put kA (by simp) (kA.heap h.cz (by simp)) (kA.heap h.cf (by simp)) (h.sf.kb kA (by simp)) (heap_new _ _) (h.sr.kb kA (by simp)) ?_).1;rintro b (e|e|e|e|e)
 ·exact .inl (.inl e)
 ·exact .inl (.inr (.inl e))
 ·exact .inr (by omega)
 ·exact .inl (.inr (.inr (.inr (.inl e))))
 ·exact .inl (.inr (.inr (.inr (.inr e))))
theorem RS.setL(h:RS M I w F0 L found rest bf br vf vr F ds W){L':List Nat}(hL:∀k∈L',k ∉ F∧k<W.heap.size∧¬Own5 w.heap.size bf br vf vr k):RS M I w F0 L' found rest bf br vf vr F ds W:=⟨h.nx,h.hM,h.inv,h.kb,h.ft,h.cz,h.cf,h.sf,h.cr,h.sr,h.lo,h.out,hL,h.dd,h.nd,h.dl⟩
theorem RS.addD(h:RS M I w F0 L found rest bf br vf vr F ds W){D:Nat}(hD:W.heap[D]?=some (.deferred (some [])))(hn:∀x∈ds,x<D)(hl:w.heap.size≤D):RS M I w F0 L found rest bf br vf vr F (D::ds) W:=by
 refine⟨h.nx,h.hM,h.inv,h.kb,h.ft,h.cz,h.cf,h.sf,h.cr,h.sr,h.lo,h.out,h.lb,fun x hx=>?_,List.nodup_cons.2 ⟨fun hm=>Nat.lt_irrefl _ (hn D hm),h.nd⟩,fun x hx=>?_⟩
 ·rcases List.mem_cons.1 hx with rfl|hx
  ·exact hD
  ·exact h.dd x hx
 ·rcases List.mem_cons.1 hx with rfl|hx
  ·exact hl
  ·exact h.dl x hx
theorem OwnN.pop{w:World}{B:Nat}{ao:Option Addr}{cap:Nat}{xs:List Nat}(h:OwnN w B (.slice ao xs.length cap) xs)(hne:xs≠[]):OwnN w B (.slice ao (xs.length-1) cap) xs.dropLast:=by
 have hl:=List.length_pos_iff.2 hne;rcases h.1.2 with⟨e,h0⟩|⟨g,cp,cur,e,h1,h2,h3,h4,h5,h6⟩
 ·omega
 ·refine⟨⟨by rw[u64s_len,Nat.mul_one],.inr ⟨g,cp,cur,?_,h1,h2,by rw[List.length_dropLast];omega,h4,h5,?_⟩⟩,fun x hx=>h.2 x ((List.dropLast_sublist xs).subset hx)⟩
  ·rw[List.length_dropLast];injection e with e1 e2 e3;rw[e1,e3]
  ·rw[Nat.mul_one]at h6 ⊢;rw[List.length_dropLast,List.dropLast_eq_take];unfold u64s at h6 ⊢;rw[List.map_take,← h6,List.take_take];congr 1
   omega
end
section
open Go.RowKit Go.Shelf Go.Maps
abbrev TMp:TypeId:=215
def heldR(v:Value):Option (DataW Value × List MemPlace):=some (.held v,[])
def zAgg:Value:=.agg #[.slice none 0 0]
theorem keyLaw:Keyed Tryz.prog TN:=int_keyed Tryz.underlying144
theorem zeroSet(w:World):(zeroValue TSet).run Tryz.prog w=.ok zAgg w:=by kernel_rfl
def MapAt(W:World)(mb cnt:Nat)(m:Nat→Value):Prop:=∃D:DataW Value,W.ownsMap Tryz.prog TN heldR mb cnt D∧IsMap D∧∀n:Nat,n<128→D.atKey (.int .u64 (n:Int)) (.held zAgg)=.held (.agg #[m n])
theorem keyN{n:Nat}(hn:n<128):keyOf Tryz.prog TN (.int .u64 (n:Int))=some (.int .u64 (n:Int)):=by
 refine keyOf_int_mk Tryz.underlying144 ?_
 have e1:IntKind.u64.min=0:=by decide
 have e2:IntKind.u64.max=18446744073709551615:=by decide
 simp[Lit.wf,e1,e2];omega
theorem MapAt.made(W:World):MapAt (W.alloc (.map #[] 0)) W.heap.size 0 (fun _=>.slice none 0 0):=
 ⟨.map [],World.ownsMap_made W _ _ _,isMap_empty,fun _ _=>rfl⟩
theorem MapAt.lt{W:World}{mb cnt:Nat}{m:Nat→Value}(h:MapAt W mb cnt m):mb<W.heap.size:=by
 obtain⟨D,h1,_⟩:=h;exact h1.lt
theorem MapAt.obj{W:World}{mb cnt:Nat}{m:Nat→Value}(h:MapAt W mb cnt m):∃es cl,W.heap[mb]?=some (.map es cl):=by
 obtain⟨D,⟨es,cl,h1,_⟩,_⟩:=h;exact⟨es,cl,h1⟩
theorem MapAt.kb{W W':World}{mb cnt:Nat}{m:Nat→Value}(h:MapAt W mb cnt m){L:List Nat}(hk:Kb L W W')(hn:mb ∉ L):MapAt W' mb cnt m:=by
 obtain⟨D,⟨es,cl,h1,h2⟩,h3⟩:=h;exact⟨D,⟨es,cl,by rw[hk.block mb (lt_of_heap h1) hn];exact h1,h2⟩,h3⟩
theorem MapAt.look{W:World}{mb cnt:Nat}{m:Nat→Value}(h:MapAt W mb cnt m){n:Nat}(hn:n<128):(Instr.lookup TMp (.map (some mb)) (.int .u64 (n:Int)) false).run Tryz.prog W=.ok (.agg #[m n]) W:=by
 obtain⟨D,h1,_,h3⟩:=h;obtain⟨v,ps,hr,hv⟩:=h1.lookup (R:=heldR) (z:=zAgg) (zd:=.held zAgg) (zp:=[]) keyLaw Tryz.underlying215 (zeroSet W) rfl (keyN hn);rw[h3 n hn]at hv;simp[heldR]at hv;rw[hr,hv.1]
theorem MapAt.upd{W:World}{mb cnt:Nat}{m:Nat→Value}(h:MapAt W mb cnt m){n:Nat}(hn:n<128)(hc:cnt<100000)(v:Value):∃W',(Instr.mapUpdate TMp (.map (some mb)) (.int .u64 (n:Int)) (.agg #[v])).run Tryz.prog W=.ok () W'∧MapAt W' mb (cnt+1) (fun k=>if k=n then v else m k)∧Kb [mb] W W':=by
 obtain⟨D,h1,h2,h3⟩:=h;obtain⟨W',hr,h4,h5⟩:=h1.update (R:=heldR) keyLaw Tryz.underlying215 (by unfold maxLen;omega) (keyN hn) (val:=.agg #[v]) (d:=.held (.agg #[v])) (ps:=[]) rfl;refine⟨W',hr,⟨_,h4,h2.put _ _,fun k hk=>?_⟩,kb_grown h5⟩;by_cases e:k=n
 ·subst e;simp only[if_true];exact atKey_put_same h2 (show WideAt.IsKeyLit (.int .u64 (k:Int))from trivial) _ _
 ·simp only[if_neg e];rw[atKey_put_other (by intro e9;injection e9 with _ e9;omega)];exact h3 k hk
end
section
open Go.RowKit Go.Shelf
structure AS(M:Nat)(I:World→List Nat→Prop)(w:World)(F0 L:List Nat)(mb cnt:Nat)(m:Nat→Value)(bk:Nat→List Nat)(bxs:List (Nat × Array Value × TypeId))(F:List Nat)(W:World):Prop where
 nx:NxI M I
 hM:M≤w.heap.size
 inv:I W F
 kb:Kb F0 w W
 ft:∀b∈F,b∈F0∨w.heap.size≤b
 bx:∀q∈bxs,W.heap[q.1]?=some (.cells q.2.1 q.2.2 (0,0))∧q.1 ∉ F∧w.heap.size≤q.1∧q.2.2≠T64
 mp:MapAt W mb cnt m
 mo:mb ∉ F∧w.heap.size≤mb
 st:∀n,n<128→SetV W w.heap.size (m n) (bk n)
 so:∀n g,n<128→(m n).ownBlock=some g→g ∉ F
 ap:∀n n',n<128→n'<128→n≠n'→Apart (m n) (m n')
 lb:∀k∈L,k ∉ F∧k<W.heap.size∧k≠mb∧∀n,n<128→(m n).ownBlock≠some k
variable {M:Nat} {I:World→List Nat→Prop} {w:World} {F0 L:List Nat} {mb cnt:Nat} {m:Nat→Value} {bk:Nat→List Nat} {bxs:List (Nat × Array Value × TypeId)} {F:List Nat} {W W':World}
theorem AS.mbs(h:AS M I w F0 L mb cnt m bk bxs F W){b:Nat}{cs:Array Value}{T:TypeId}{fz:Nat × Nat}(hb:W.heap[b]?=some (.cells cs T fz)):b≠mb:=by
 intro e;obtain⟨es,cl,h1⟩:=h.mp.obj;rw[← e,hb]at h1;cases h1
theorem AS.side(h:AS M I w F0 L mb cnt m bk bxs F W){X:List Nat}(hk:Kb X W W')(hX:∀b∈X,w.heap.size≤b∧b ∉ F∧b≠mb∧(∀q∈bxs,q.1≠b)∧∀n,n<128→(m n).ownBlock≠some b):AS M I w F0 L mb cnt m bk bxs F W':=by
 refine⟨h.nx,h.hM,h.nx.kb W W' F X h.inv hk (fun b hb=>(hX b hb).2.1),⟨hk.os.trans h.kb.os,hk.tape.trans h.kb.tape,hk.output.trans h.kb.output,Nat.le_trans h.kb.size hk.size,fun j hj hl=>?_⟩,h.ft,fun q hq=>⟨hk.heap (h.bx q hq).1 (fun hm=>(hX _ hm).2.2.2.1 q hq rfl),(h.bx q hq).2⟩,h.mp.kb hk (fun hm=>(hX _ hm).2.2.1 rfl),h.mo,fun n hn=>(h.st n hn).kb hk (fun g hg=>(hX g hg).2.2.2.2 n hn),h.so,h.ap,fun k hk2=>⟨(h.lb k hk2).1,Nat.lt_of_lt_of_le (h.lb k hk2).2.1 hk.size,(h.lb k hk2).2.2⟩⟩;refine(hk.block j (Nat.lt_of_lt_of_le hj h.kb.size) (fun hm=>?_)).trans (h.kb.block j hj hl);have:=(hX j hm).1;omega
theorem AS.fresh(h:AS M I w F0 L mb cnt m bk bxs F W)(hk:Kb [] W W'):AS M I w F0 L mb cnt m bk bxs F W':=h.side hk (by simp)
theorem AS.nF(h:AS M I w F0 L mb cnt m bk bxs F W){D:Nat}{o:Obj}(hD:W.heap[D]?=some o)(hn:o.isCells=false)(hl:w.heap.size≤D):D ∉ F:=by
 intro hm;rcases(h.nx.lt W F D h.inv hm).2 with h1|⟨cs,T,h1⟩
 ·have:=h.hM;omega
 ·rw[hD]at h1;cases h1;cases hn
theorem AS.own(h:AS M I w F0 L mb cnt m bk bxs F W){D:Nat}(hD:w.heap.size≤D)(hmb:mb<D){row:Option Nat}(hg:W.grownBy W' row)(hr:∀r,row=some r→D≤r∧∃o:Obj,W.heap[r]?=some o∧o.isCells=false):AS M I w F0 L mb cnt m bk bxs F W':=by
 refine h.side (kb_grown hg) (fun b hb=>?_);obtain⟨h1,o,ho,hc⟩:=hr b (by simpa using hb);refine⟨by omega,h.nF ho hc (by omega),by omega,fun q hq e=>?_,fun n hn e=>?_⟩
 ·have:=(h.bx q hq).1;rw[e,ho]at this;cases this;cases hc
 ·obtain⟨cs,h2⟩:=(h.st n hn).block e;rw[ho]at h2;cases h2;cases hc
theorem AS.call(h:AS M I w F0 L mb cnt m bk bxs F W){F':List Nat}(hi:I W' F')(hk:Kb F W W')(hf:∀b∈F',b∈F∨W.heap.size≤b):AS M I w F0 L mb cnt m bk bxs F' W'∧(∀D,w.heap.size≤D→KeepsFrom D W W')∧KpB L W W':=by
 have nF:∀b,b<W.heap.size→b ∉ F→b ∉ F':=fun b hb hn hm=>by
  rcases hf b hm with h1|h1
  ·exact hn h1
  ·omega
 refine⟨⟨h.nx,h.hM,hi,⟨hk.os.trans h.kb.os,hk.tape.trans h.kb.tape,hk.output.trans h.kb.output,Nat.le_trans h.kb.size hk.size,fun j hj hl=>?_⟩,fun b hb=>?_,fun q hq=>⟨hk.heap (h.bx q hq).1 (h.bx q hq).2.1,nF _ (lt_of_heap (h.bx q hq).1) (h.bx q hq).2.1,(h.bx q hq).2.2⟩,h.mp.kb hk h.mo.1,⟨nF _ h.mp.lt h.mo.1,h.mo.2⟩,fun n hn=>(h.st n hn).kb hk (fun g hg e=>h.so n g hn e hg),fun n g hn e=>nF g ((h.st n hn).lt e).2 (h.so n g hn e),h.ap,fun k hk2=>⟨nF k (h.lb k hk2).2.1 (h.lb k hk2).1,Nat.lt_of_lt_of_le (h.lb k hk2).2.1 hk.size,(h.lb k hk2).2.2⟩⟩,fun D hD=>⟨hk.size,fun j o hj ho hn=>?_⟩,fun k hk2=>hk.block k (h.lb k hk2).2.1 (h.lb k hk2).1⟩
 ·refine(hk.block j (Nat.lt_of_lt_of_le hj h.kb.size) (fun hm=>?_)).trans (h.kb.block j hj hl);rcases h.ft j hm with h1|h1
  ·exact hl h1
  ·omega
 ·rcases hf b hb with h1|h1
  ·exact h.ft b h1
  ·exact .inr (Nat.le_trans h.kb.size h1)
 ·exact hk.heap ho (h.nF ho hn (by omega))
theorem AS.addBox(h:AS M I w F0 L mb cnt m bk bxs F W){b:Nat}{cs:Array Value}{T:TypeId}(hb:W.heap[b]?=some (.cells cs T (0,0)))(hn:b ∉ F)(hl:w.heap.size≤b)(hT:T≠T64):AS M I w F0 L mb cnt m bk ((b,cs,T)::bxs) F W:=by
 refine⟨h.nx,h.hM,h.inv,h.kb,h.ft,fun q hq=>?_,h.mp,h.mo,h.st,h.so,h.ap,h.lb⟩;rcases List.mem_cons.1 hq with rfl|hq
 ·exact⟨hb,hn,hl,hT⟩
 ·exact h.bx q hq
theorem AS.subB(h:AS M I w F0 L mb cnt m bk bxs F W){bxs':List (Nat × Array Value × TypeId)}(hs:∀k∈bxs',k∈bxs):AS M I w F0 L mb cnt m bk bxs' F W:=⟨h.nx,h.hM,h.inv,h.kb,h.ft,fun q hq=>h.bx q (hs q hq),h.mp,h.mo,h.st,h.so,h.ap,h.lb⟩
theorem AS.setL(h:AS M I w F0 L mb cnt m bk bxs F W){L':List Nat}(hL:∀k∈L',k ∉ F∧k<W.heap.size∧k≠mb∧∀n,n<128→(m n).ownBlock≠some k):AS M I w F0 L' mb cnt m bk bxs F W:=⟨h.nx,h.hM,h.inv,h.kb,h.ft,h.bx,h.mp,h.mo,h.st,h.so,h.ap,hL⟩
theorem AS.newer(h:AS M I w F0 L mb cnt m bk bxs F W){b:Nat}(hb:W.heap.size≤b):b ∉ F:=fun hm=>by have:=(h.nx.lt W F b h.inv hm).1;omega
theorem AS.cell(h:AS M I w F0 L mb cnt m bk bxs F W){b:Nat}{v:Value}{T:TypeId}(hb:(b,#[v],T)∈bxs):W.cell? ⟨b,0,none⟩=some v:=by rw[cell_at (h.bx _ hb).1];rfl
theorem AS.mid(h:AS M I w F0 L mb cnt m bk bxs F W){t:Nat}(ht:t<128){W2:World}{v2:Value}(hC:SetCh (W.alloc (.cells #[m t] TSet)) W2 W.heap.size 0 #[m t] TSet (m t) v2):MapAt W2 mb cnt m:=by
 have kA:Kb [] W (W.alloc (.cells #[m t] TSet)):=(Kb.refl [] W).alloc _;refine(h.mp.kb kA (by simp)).kb hC.kb (fun hm=>?_);rcases List.mem_cons.1 hm with e|hm
 ·have:=h.mp.lt;omega
 ·simp at hm;obtain⟨cs,hc⟩:=(h.st t ht).block hm;exact h.mbs hc rfl
theorem AS.step(h:AS M I w F0 L mb cnt m bk bxs F W){t:Nat}(ht:t<128){W2 W3:World}{v2:Value}{T2:List Nat}(hS:SetV W2 w.heap.size v2 T2)(hC:SetCh (W.alloc (.cells #[m t] TSet)) W2 W.heap.size 0 #[m t] TSet (m t) v2)(hm:MapAt W3 mb (cnt+1) (fun k=>if k=t then v2 else m k))(hk3:Kb [mb] W2 W3) :
  AS M I w F0 L mb (cnt+1) (fun k=>if k=t then v2 else m k) (fun k=>if k=t then T2 else bk k) bxs F W3∧(∀D,mb<D→KeepsFrom D W W3)∧KpB L W W3:=by
 have kA:Kb [] W (W.alloc (.cells #[m t] TSet)):=(Kb.refl [] W).alloc _;have kk:Kb (W.heap.size::((m t).ownBlock.toList++[mb])) W W3:=by
  refine((kA.mono (by simp)).trans (hC.kb.mono (l':=W.heap.size::((m t).ownBlock.toList++[mb])) (fun j _ hj=>?_))).trans (hk3.mono (fun j _ hj=>?_))
  ·rcases List.mem_cons.1 hj with e|hj
   ·simp[e]
   ·simp[hj]
  ·simp at hj;simp[hj]
 have old:∀ {g n},n<128→n≠t→(m n).ownBlock=some g→g ∉ W.heap.size::((m t).ownBlock.toList++[mb]):=by
  intro g n hn hnt e hm9;have hl:=((h.st n hn).lt e).2;rcases List.mem_cons.1 hm9 with e9|hm9
  ·omega
  ·rcases List.mem_append.1 hm9 with hm9|hm9
   ·simp at hm9;exact h.ap n t hn ht hnt g e hm9
   ·rw[List.mem_singleton.1 hm9]at e;obtain⟨cs,hc⟩:=(h.st n hn).block e;exact h.mbs hc rfl
 have v2l:∀g,v2.ownBlock=some g→(m t).ownBlock=some g∨W.heap.size≤g:=by
  intro g hg;rcases hC.lies with e|⟨g',e,hg'⟩
  ·exact .inl (by rw[← e];exact hg)
  ·rw[e]at hg;cases hg;rw[World.size_alloc]at hg';exact .inr (by omega)
 have hbnd:∀b∈W.heap.size::((m t).ownBlock.toList++[mb]),w.heap.size≤b∧b ∉ F:=by
  intro b hb;rcases List.mem_cons.1 hb with rfl|hb
  ·exact⟨h.kb.size,h.newer (Nat.le_refl _)⟩
  ·rcases List.mem_append.1 hb with hb|hb
   ·simp at hb;exact⟨((h.st t ht).lt hb).1,h.so t b ht hb⟩
   ·rw[List.mem_singleton.1 hb];exact⟨h.mo.2,h.mo.1⟩
 refine⟨⟨h.nx,h.hM,h.nx.kb W W3 F _ h.inv kk (fun b hb=>(hbnd b hb).2),⟨kk.os.trans h.kb.os,kk.tape.trans h.kb.tape,kk.output.trans h.kb.output,Nat.le_trans h.kb.size kk.size,fun j hj hl=>?_⟩,h.ft,fun q hq=>?_,hm,h.mo,fun n hn=>?_,fun n g hn e=>?_,fun n n' hn hn' hne=>?_,fun k hk2=>?_⟩,fun D hD=>⟨kk.size,fun j o hj ho hn=>?_⟩,fun k hk2=>?_⟩
 ·refine(kk.block j (Nat.lt_of_lt_of_le hj h.kb.size) (fun hm9=>?_)).trans (h.kb.block j hj hl);have:=(hbnd j hm9).1;omega
 ·obtain⟨q1,q2,q3,q4⟩:=h.bx q hq;refine⟨kk.heap q1 (fun hm9=>?_),q2,q3,q4⟩;rcases List.mem_cons.1 hm9 with e|hm9
  ·have:=lt_of_heap q1;omega
  ·rcases List.mem_append.1 hm9 with hm9|hm9
   ·simp at hm9;exact(h.st t ht).ne q1 q4 hm9
   ·rw[List.mem_singleton.1 hm9]at q1;exact h.mbs q1 rfl
 ·by_cases e:n=t
  ·simp only[e,if_true];refine hS.kb hk3 (fun g hg e9=>?_);rw[List.mem_singleton.1 hg]at e9;obtain⟨cs,hc⟩:=hS.block e9;obtain⟨es,cl,h1⟩:=(h.mid ht hC).obj;rw[hc]at h1;cases h1
  ·simp only[if_neg e];exact(h.st n hn).kb kk (fun g hg e9=>old hn e e9 hg)
 ·by_cases e2:n=t
  ·simp only[e2,if_true]at e;rcases v2l g e with h1|h1
   ·exact h.so t g ht h1
   ·exact h.newer h1
  ·simp only[if_neg e2]at e;exact h.so n g hn e
 ·intro g e1 e2;by_cases a1:n=t
  ·have a2:n'≠t:=fun e=>hne (a1.trans e.symm)
   simp only[a1,if_true]at e1;simp only[if_neg a2]at e2;rcases v2l g e1 with h1|h1
   ·exact h.ap t n' ht hn' (fun e=>a2 e.symm) g h1 e2
   ·have:=((h.st n' hn').lt e2).2;omega
  ·simp only[if_neg a1]at e1;by_cases a2:n'=t
   ·simp only[a2,if_true]at e2;rcases v2l g e2 with h1|h1
    ·exact h.ap n t hn ht a1 g e1 h1
    ·have:=((h.st n hn).lt e1).2;omega
   ·simp only[if_neg a2]at e2;exact h.ap n n' hn hn' hne g e1 e2
 ·obtain⟨l1,l2,l3,l4⟩:=h.lb k hk2;refine⟨l1,Nat.lt_of_lt_of_le l2 kk.size,l3,fun n hn e=>?_⟩;by_cases e2:n=t
  ·simp only[e2,if_true]at e;rcases v2l k e with h1|h1
   ·exact l4 t ht h1
   ·omega
  ·simp only[if_neg e2]at e;exact l4 n hn e
 ·refine kk.heap ho (fun hm9=>?_);rcases List.mem_cons.1 hm9 with e|hm9
  ·have:=lt_of_heap ho;omega
  ·rcases List.mem_append.1 hm9 with hm9|hm9
   ·simp at hm9;obtain⟨cs,hc⟩:=(h.st t ht).block hm9;rw[ho]at hc;cases hc;cases hn
   ·rw[List.mem_singleton.1 hm9]at hj;omega
 ·obtain⟨l1,l2,l3,l4⟩:=h.lb k hk2;refine kk.block k l2 (fun hm9=>?_);rcases List.mem_cons.1 hm9 with e|hm9
  ·omega
  ·rcases List.mem_append.1 hm9 with hm9|hm9
   ·simp at hm9;exact l4 t ht hm9
   ·exact l3 (List.mem_singleton.1 hm9)
def bkS(nx:Nat→List Nat)(pre:List Nat)(cur:Nat)(pre2:List Nat)(n:Nat):List Nat:=mkS fun f=>(pre.contains f && (nx f).contains n) || (f == cur && pre2.contains n)
theorem bkS_start(nx:Nat→List Nat)(cur:Nat):bkS nx [] cur []=fun _=>[]:=by
 funext n
 unfold bkS mkS;simp
theorem bkS_next(nx:Nat→List Nat)(pre:List Nat)(c1 cur:Nat):bkS nx pre c1 []=bkS nx pre cur []:=by
 funext n
 unfold bkS;simp
theorem bkS_add(nx:Nat→List Nat)(pre:List Nat){cur:Nat}(pre2:List Nat)(t:Nat):(fun k=>if k=t then addS cur (bkS nx pre cur pre2 t)else bkS nx pre cur pre2 k)=bkS nx pre cur (pre2++[t]):=by
 funext n
 by_cases e:n=t
 ·simp only[e,if_true];unfold addS;show mkS _=mkS _;refine mkS_congr (fun k hk=>?_);unfold bkS;rw[mkS_contains hk];simp only[List.contains_append,List.contains_cons,List.contains_nil,beq_self_eq_true,Bool.or_true,Bool.or_false,Bool.and_true];cases k == cur<;>simp
 ·simp only[if_neg e];refine mkS_congr (fun k hk=>?_);have:(n == t)=false:=by simpa using e
  simp only[List.contains_append,List.contains_cons,List.contains_nil,this,Bool.or_false]
theorem bkS_close(nx:Nat→List Nat)(pre:List Nat)(cur c2:Nat):bkS nx pre cur (nx cur)=bkS nx (pre++[cur]) c2 []:=by
 funext n
 refine mkS_congr (fun k hk=>?_);simp only[List.contains_append,List.contains_cons,List.contains_nil,Bool.or_false,Bool.and_false];by_cases e:k=cur
 ·subst e;simp
 ·have:(k == cur)=false:=by simpa using e
  simp[this]
theorem bkS_all(nx:Nat→List Nat)(ahead:List Nat)(cur n:Nat):bkS nx ahead cur [] n=backOf ahead nx n:=by
 unfold bkS backOf;refine mkS_congr (fun k hk=>?_);simp
end
section
open Go.Lib
abbrev BL:=List UInt8
theorem le_bl(x y:BL):x≤y↔Op.bytesLess y x=false:=by
 rw[Go.Proofs.bytesLess_eq];simp
theorem le_bl_trans{x y z:BL}(h1:x≤y)(h2:y≤z):x≤z:=by
 rw[le_bl]at *;cases h:Op.bytesLess z x
 ·rfl
 ·by_cases e:y=z
  ·rw[e,h]at h1;cases h1
  ·have:=bl_total _ _ h2 (Ne.symm e);rw[bl_trans _ _ _ this h]at h1;cases h1
theorem le_bl_total(x y:BL):x≤y∨y≤x:=by
 rw[le_bl,le_bl];cases h:Op.bytesLess y x
 ·exact .inl rfl
 ·right;cases h2:Op.bytesLess x y
  ·rfl
  ·have:=bl_trans _ _ _ h h2;rw[bl_irrefl]at this;cases this
theorem le_lt_bl{x y z:BL}(h1:x≤y)(h2:y≤z)(h3:y≠z):Op.bytesLess x z=true:=by
 rw[le_bl]at *;have h4:=bl_total _ _ h2 (Ne.symm h3);by_cases e:x=y
 ·rw[e];exact h4
 ·exact bl_trans _ _ _ (bl_total _ _ h1 (Ne.symm e)) h4
theorem compact_up(d:Array BL)(hs:∀i j,i≤j→j<d.size→d[i]!≤d[j]!):∀m,m≤d.size→(compactUpTo d m).Pairwise (fun x y=>Op.bytesLess x y=true)∧(∀x,x∈compactUpTo d m↔∃j,j<m∧d[j]! = x):=by
 intro m;induction m with
 |zero=>intro _;simp[compactUpTo]
 |succ m ih=>
  intro hm;obtain⟨h1,h2⟩:=ih (by omega);rw[compactUpTo_succ];by_cases hk:keeps d m=true
  ·rw[if_pos hk];refine⟨?_,fun x=>?_⟩
   ·rw[List.pairwise_append];refine⟨h1,by simp,fun x hx y hy=>?_⟩;rw[List.mem_singleton.1 hy];obtain⟨j,hj,rfl⟩:=(h2 x).1 hx;have hm0:m≠0:=by omega
    have hne:d[m]!≠d[m-1]!:=by
     simp[keeps,hm0]at hk;exact hk
    exact le_lt_bl (hs j (m-1) (by omega) (by omega)) (hs (m-1) m (by omega) (by omega)) (Ne.symm hne)
   ·rw[List.mem_append,h2,List.mem_singleton];constructor
    ·rintro(⟨j,hj,e⟩|e)
     ·exact⟨j,by omega,e⟩
     ·exact⟨m,by omega,e.symm⟩
    ·rintro⟨j,hj,e⟩;by_cases ej:j=m
     ·right;rw[← e,ej]
     ·exact .inl ⟨j,by omega,e⟩
  ·rw[if_neg hk,List.append_nil];refine⟨h1,fun x=>?_⟩;rw[h2];constructor
   ·rintro⟨j,hj,e⟩;exact⟨j,by omega,e⟩
   ·rintro⟨j,hj,e⟩;by_cases ej:j=m
    ·have hm0:m≠0:=fun e0=>hk (keeps_lt_one d m (by omega))
     have:d[m]! = d[m-1]!:=by
      simp[keeps,hm0]at hk;exact hk
     exact⟨m-1,by omega,by rw[← e,ej,this]⟩
    ·exact⟨j,by omega,e⟩
theorem asc_ext:∀ {a b:List BL},a.Pairwise (fun x y=>Op.bytesLess x y=true)→b.Pairwise (fun x y=>Op.bytesLess x y=true)→(∀x,x∈a↔x∈b)→a=b:=by
 intro a;induction a with
 |nil=>
  intro b _ _ h;cases b with
  |nil=>rfl
  |cons y r=>exact absurd ((h y).2 List.mem_cons_self) (by simp)
 |cons x r ih=>
  intro b ha hb h;cases b with
  |nil=>exact absurd ((h x).1 List.mem_cons_self) (by simp)
  |cons y t=>
   obtain⟨a1,a2⟩:=List.pairwise_cons.1 ha;obtain⟨b1,b2⟩:=List.pairwise_cons.1 hb;have e:x=y:=by
    rcases List.mem_cons.1 ((h x).1 List.mem_cons_self)with e|hx
    ·exact e
    ·rcases List.mem_cons.1 ((h y).2 List.mem_cons_self)with e|hy
     ·exact e.symm
     ·have:=bl_trans _ _ _ (a1 y hy) (b1 x hx);rw[bl_irrefl]at this;cases this
   subst e;congr 1
   refine ih a2 b2 (fun z=>?_);constructor
   ·intro hz;rcases List.mem_cons.1 ((h z).1 (List.mem_cons_of_mem _ hz))with e|hz2
    ·rw[e]at hz;have:=a1 x hz;rw[bl_irrefl]at this;cases this
    ·exact hz2
   ·intro hz;rcases List.mem_cons.1 ((h z).2 (List.mem_cons_of_mem _ hz))with e|hz2
    ·rw[e]at hz;have:=b1 x hz;rw[bl_irrefl]at this;cases this
    ·exact hz2
theorem mem_namesS{l:List ByteArray}{x:ByteArray}:x∈namesS l↔x∈l:=by
 have key:∀(l out:List ByteArray),x∈l.foldl insN out↔x∈out∨x∈l:=by
  intro l;induction l with
  |nil=>intro out;simp
  |cons a r ih=>
   intro out;rw[List.foldl_cons,ih];have h1:x∈insN out a↔x=a∨x∈out:=by
    by_cases h:out[insAt out a]?=some a
    ·rw[insN_old rfl h];exact⟨.inr,fun h2=>h2.elim (fun e=>e ▸ List.mem_of_getElem? h) id⟩
    ·rw[insN_new rfl h,List.mem_append,List.mem_cons];constructor
     ·rintro(h2|h2|h2)
      ·exact .inr (List.mem_of_mem_take h2)
      ·exact .inl h2
      ·exact .inr (List.mem_of_mem_drop h2)
     ·rintro(h2|h2)
      ·exact .inr (.inl h2)
      ·rw[← List.take_append_drop (insAt out a) out,List.mem_append]at h2;exact h2.elim .inl (fun h3=>.inr (.inr h3))
   rw[h1,List.mem_cons];constructor
   ·rintro((h2|h2)|h2)
    ·exact .inr (.inl h2)
    ·exact .inl h2
    ·exact .inr (.inr h2)
   ·rintro(h2|h2|h2)
    ·exact .inl (.inr h2)
    ·exact .inl (.inl h2)
    ·exact .inr h2
 unfold namesS;rw[key];simp
theorem names_compact(l:List ByteArray):compact ((l.map (·.data.toList)).mergeSort fun x y=>decide (x≤y))=(namesS l).map (·.data.toList):=by
 obtain⟨zs,hzs⟩:∃zs,zs=(l.map (·.data.toList)).mergeSort fun x y=>decide (x≤y):=⟨_,rfl⟩
 rw[← hzs];have hp:zs.Pairwise (fun x y=>decide (x≤y)=true):=by
  rw[hzs];refine List.pairwise_mergeSort (fun a b c h1 h2=>?_) (fun a b=>?_) _
  ·simp only[decide_eq_true_eq]at *;exact le_bl_trans h1 h2
  ·have:=le_bl_total a b;simpa using this
 have hs:∀i j,i≤j→j<zs.toArray.size→zs.toArray[i]!≤zs.toArray[j]!:=by
  intro i j hij hj;have hj':j<zs.length:=by simpa using hj
  rw[getElem!_pos zs.toArray i (by simp;omega),getElem!_pos zs.toArray j hj];simp only[List.getElem_toArray];by_cases e:i=j
  ·subst e;exact(le_bl_total _ _).elim id id
  ·have:=List.pairwise_iff_getElem.1 hp i j (by omega) hj' (by omega);simpa using this
 obtain⟨h1,h2⟩:=compact_up zs.toArray hs zs.length (by simp);refine asc_ext h1 ?_ (fun x=>?_)
 ·have h3:Asc (namesS l):=asc_names l;unfold Asc at h3;rw[List.pairwise_map];refine h3.imp (fun {a b} hab=>?_);have e:lessS a b=Op.bytesLess a.toList b.toList:=rfl;rw[e]at hab;simpa[ByteArray.toList_eq]using hab
 ·have e:x∈compact zs↔x∈zs:=by
   refine(h2 x).trans ?_
   constructor
   ·rintro⟨j,hj,e⟩;rw[getElem!_pos zs.toArray j (by simpa using hj)]at e;rw[← e];simp
   ·intro hx;obtain⟨j,hj,e⟩:=List.getElem_of_mem hx;refine⟨j,hj,?_⟩;rw[getElem!_pos zs.toArray j (by simpa using hj)];simpa using e
  rw[e,hzs,(List.mergeSort_perm _ _).mem_iff,List.mem_map,List.mem_map];constructor
  ·rintro⟨a,ha,e⟩;exact⟨a,mem_namesS.2 ha,e⟩
  ·rintro⟨a,ha,e⟩;exact⟨a,mem_namesS.1 ha,e⟩
end
section
open Go.RowKit Go.Sort Go.Lib
def cellsS(ss:List ByteArray):List Value:=ss.map Value.string
structure NmI(w wr:World)(fs:List Fct)(i:Nat)(v:Value):Prop where
 own:wr.ownsRow w.heap.size 9 1 v (2*i) (cellsS (strsOf (fs.take i)))
 blw:Below w.heap.size w wr
 nil:i=0→v=.slice none 0 0
theorem strs_next{fs:List Fct}{i:Nat}{f:Fct}(h:fs[i]?=some f):strsOf (fs.take (i+1))=strsOf (fs.take i)++[f.p,f.q]:=by
 rw[take_next h];simp[strsOf]
theorem below_grow{B:Nat}{w0 w:World}(h:Below B w0 w)(hB:B≤w.heap.size)(os:Array Obj):Below B w0 (grow w os):=
 ⟨h.os,h.tape,h.output,by have:=h.size;simp[grow];omega,fun k hk=>by rw[← h.block k hk];exact heap_grow_old w os (by omega)⟩
set_option maxRecDepth 100000 in
theorem insert_nil_any(w:World):Calls Tryz.prog 136 #[.slice none 0 0,.int .i64 0,.int .i64 0] w fun e w'=>e=.returned (.tuple #[])∧w'=w:=by
 go_enter Tryz.func136,Tryz.ntmps136
 go_wp2;go_loopw [6] (fun v wr=>v=.int .i64 1∧wr=w) (fun _ _=>0)
 case atStart=>exact⟨rfl,rfl⟩
 case round=>
  obtain⟨rfl,rfl⟩:=hrel;go_wp2;go_end0
  exact⟨rfl,rfl⟩
set_option maxRecDepth 100000 in
theorem pdq_nil_any(l:Int)(w:World):Calls Tryz.prog 106 #[.slice none 0 0,.int .i64 0,.int .i64 0,.int .i64 l] w fun e w'=>e=.returned (.tuple #[])∧w'=w:=by
 have HI:=insert_nil_any w;go_enter Tryz.func106,Tryz.ntmps106
 go_wp2;go_loopw [1,2] (fun a b wr=>a=.int .i64 0∧b=.int .i64 0∧wr=w) (fun _ _ _=>0)
 case atStart=>exact⟨rfl,rfl,rfl⟩
 case round=>
  obtain⟨rfl,rfl,rfl⟩:=hrel;go_wp2_with fail
  refine HI.mono ?_
  clear HI;rintro e w2 ⟨rfl,rfl⟩;go_wp2;refine bodyPost_ret (results_none rfl _ _ _) rfl ?_
  exact⟨rfl,rfl⟩
set_option maxRecDepth 100000 in
theorem sort_nil_any(w:World):Calls Tryz.prog 82 #[.slice none 0 0] w fun e w'=>e=.returned (.tuple #[])∧w'=w:=by
 have HL:=Tryz.bits_Len 0 w (by decide) (by decide);have HP:=pdq_nil_any (Lib.bitLen (0:Int).toNat) w;go_enter Tryz.func82,Tryz.ntmps82
 go_wp2_with fail
 refine HL.mono ?_
 clear HL;rintro e w1 ⟨rfl,rfl⟩;go_wp2_with fail
 refine HP.mono ?_
 clear HP;rintro e w2 ⟨rfl,rfl⟩;go_wp2;go_end0
 exact⟨rfl,rfl⟩
set_option maxRecDepth 100000 in
set_option maxHeartbeats 1000000 in
theorem namesOf_any(v:Value)(fs:List Fct)(w:World)(hlen:fs.length≤1000)(hv:IsFacts v fs w) :
  Calls Tryz.prog 56 #[v] w fun e w'=>∃vn,e=.returned vn∧IsStrs vn (namesS (strsOf fs)) w'∧Below w.heap.size w w':=by
 obtain⟨i0,hi0,hz0,hz1,hz2⟩:=info_parts infoStr;obtain⟨ao,cap,rfl,hc1,hc2,hne⟩:=hv;have HNE:=hide hne;clear hne;go_enter Tryz.func56,Tryz.ntmps56
 go_wp2;go_loopw [3,8] (fun v iv wr=>∃i:Nat,iv=.int .i64 i∧i≤fs.length∧NmI w wr fs i v) (fun _ iv _=>fs.length-(intOf iv).toNat)
 case atStart=>exact⟨0,rfl,Nat.zero_le _,World.ownsRow_nil _ _ _ _,Below.refl _ _,fun _=>rfl⟩
 case round=>
  obtain⟨i,rfl,hi1,hI⟩:=hrel;have HI:=hide hI;have hbx:=hI.blw;by_cases h1:i<fs.length
  ·obtain⟨f,hr⟩:∃f,fs[i]?=some f:=⟨_,List.getElem?_eq_getElem h1⟩;have hnil:fs≠[]:=by intro e;rw[e]at h1;simp at h1
   obtain⟨b,off,rfl,hb,hc⟩:=HNE.out hnil;obtain⟨a0,a1,a2⟩:=hc i f.k f.p f.q hr;have c0:=(hbx.cell (p:=⟨b,_,none⟩) hb).trans a0;have c1:=(hbx.cell (p:=⟨b,_,none⟩) hb).trans a1;have c2:=(hbx.cell (p:=⟨b,_,none⟩) hb).trans a2;have HST:Hid (∀(w3:World) v',w3.ownsRow w.heap.size 9 1 v' (2*i+2) (cellsS (strsOf (fs.take i))++[.string f.p,.string f.q])→Below w.heap.size w w3→NmI w w3 fs (i+1) v'):=by
    intro w3 v' h3 h4;refine⟨?_,h4,fun e=>by omega⟩;rw[strs_next hr];unfold cellsS at *;rw[List.map_append,show 2*(i+1)=2*i+2 by omega];exact h3
   obtain⟨va,vc,rfl,_⟩:=own_form hI.own;clear hI a0 a1 a2 hc hr;go_wp2_with (first|(at_builtin;refine wpList_append_own _ rfl _ _ 44 rfl w.heap.size 9 i0 (.string ⟨#[]⟩) 1 16 Tryz.underlying44 hi0 hz0 hz1 hz2 rfl (by decide) _ _ _ rfl ((HI.out.own.alloc _).alloc _) ⟨(wr.alloc (.cells #[.int .i64 f.k,.string f.p,.string f.q] 48)).heap.size,0,none⟩ 2 2 [.string f.p,.string f.q] (by simp[Act.eval]) rfl (cells_new _ _ _ _ rfl) ?x6 ?x7 ?x8 ?x9 ?_)|go_in)
   case x6=>intro u hu;simp at hu;rcases hu with rfl|rfl<;>rfl
   case x7=>unfold maxLen;omega
   case x8=>omega
   case x9=>have:=hbx.size;simp;omega
   intro v' w3 ho3 hg3 _;have hB3:Below w.heap.size w w3:=((hbx.alloc hbx.size _).alloc (by have:=hbx.size;simp;omega) _).grown hg3 (by have:=hbx.size;simp;omega) (fun j hj=>(HI.out.own.lt j hj).1);have hnx:=HST.out w3 v' ho3 hB3;clear ho3 hg3;go_wp2;go_round
   case rel=>exact⟨i+1,by go_num,h1,hnx⟩
   case measure=>simp[intOf];omega
  ·have hie:i=fs.length:=by omega
   subst hie;have ho:=hI.own;have hnil0:=hI.nil;rw[List.take_of_length_le (Nat.le_refl _)]at ho;clear hI HI;have HEq:=hide (names_compact (strsOf fs));by_cases hnil:fs=[]
   ·have HS:=sort_nil_any wr;have hv0:=hnil0 (by rw[hnil];rfl);subst hv0;have HC:=Tryz.slices_Compact_string_empty none 0 wr;have HN:Hid (namesS (strsOf fs)=[]):=by rw[hnil];exact hide rfl
    clear HEq ho hnil0;go_wp2_with fail
    refine HS.mono ?_
    clear HS;rintro e w1 ⟨rfl,rfl⟩;go_wp2_with fail
    refine HC.mono ?_
    clear HC;rintro e w1 ⟨rfl,rfl⟩;go_wp2;go_ret
    refine⟨_,rfl,?_,hbx⟩;rw[HN.out];exact⟨none,0,rfl,Nat.le_refl _,fun _=>rfl,fun h=>absurd rfl h⟩
   ·have hpos:0<fs.length:=List.length_pos_iff.2 hnil;have hvn:u3≠.slice none 0 0:=by
     rintro rfl;obtain⟨ao',cap',e,_⟩:=own_form ho;injection e with _ e _;omega
    have ho2:wr.ownsRow w.heap.size 9 1 u3 (2*fs.length) (((strsOf fs).map (·.data.toList)).map encStr):=by
     rw[map_encStr];exact ho
    obtain⟨g,cap',rfl,hBg,hgw,hncap,hcm,hlz,hH⟩:=holds_of_ownsRow ho2 hvn;have HSo:=Tryz.slices_Sort_string g 0 cap' ((strsOf fs).map (·.data.toList)) wr hH hgw (by rw[hlz];omega);rw[hlz]at HSo;obtain⟨zs,hzs⟩:∃zs,zs=((strsOf fs).map (·.data.toList)).mergeSort fun x y=>decide (x≤y):=⟨_,rfl⟩
    rw[← hzs]at HSo;have hzl:zs.length=2*fs.length:=by rw[hzs,List.length_mergeSort,hlz]
    have HZ:=hide hzs;have HH:=hide hH;clear hzs ho ho2 hH hlz hvn hnil0;go_wp2_with fail
    refine HSo.mono ?_
    clear HSo;rintro e w1 ⟨rfl,q1,os,hw1⟩;have hH1:Holds encStr w1 g 0 zs.toArray:=by
     rw[hw1];exact holds_grow _ _ _ _ _ _ (by simpa using hgw) (holds_putRow _ _ _ _ _ _ (fun j hj=>HH.out j hj) (by simp[hzl,strsOf_length]))
    have HCo:=Tryz.slices_Compact_string g 0 cap' zs w1 hH1 (by omega) (by omega);rw[hzl,HZ.out,HEq.out,List.length_map]at HCo;have hb1:RowKit.Below w.heap.size w w1:=by
     rw[hw1];exact below_grow (below_putRow hbx hBg) (by simpa using hbx.size) _
    have HH1:=hide hH1;have hg1:g<w1.heap.size:=by rw[hw1];simp;omega
    clear hw1 hH1;go_wp2_with fail
    refine HCo.mono ?_
    clear HCo;rintro e w2 ⟨rfl,q2,hw2⟩;have hnl:(namesS (strsOf fs)).length≤2*fs.length:=by
     have:=compact_length_le zs;rw[HZ.out,HEq.out,List.length_map,← HZ.out,hzl]at this;exact this
    have HF:Hid (IsStrs (.slice (some ⟨g,0,none⟩) (namesS (strsOf fs)).length cap') (namesS (strsOf fs)) w2∧RowKit.Below w.heap.size w w2):=by
     refine hide ⟨⟨some ⟨g,0,none⟩,cap',rfl,by omega,(by intro h;cases h),fun _=>⟨g,0,rfl,?_,?_⟩⟩,?_⟩
     ·rw[hw2];simpa using hg1
     ·intro i s hi;rw[hw2];have hil:=(List.getElem?_eq_some_iff.1 hi).1;have hd:((List.map (fun x:ByteArray=>x.data.toList) (namesS (strsOf fs))++List.replicate (2*fs.length-(namesS (strsOf fs)).length) []).toArray).size=zs.toArray.size:=by
       simp[hzl];omega
      rw[cell?_putRow encStr (Go.Sort.ahead w1 q2) g 0 zs.toArray _ (fun j hj=>HH1.out j hj) hd i (by simp;omega),getElem!_pos _ i (by simp;omega)];rw[List.getElem?_eq_getElem hil]at hi;injection hi with hi;simp only[List.getElem_toArray,encStr];rw[List.getElem_append_left (by simpa using hil),List.getElem_map,hi]
     ·rw[hw2];exact below_putRow hb1 hBg
    clear hw2;go_wp2;go_ret
    exact⟨_,rfl,HF.out⟩
end
section
open Go.RowKit Go.Shelf
attribute [local go_sem] Oper.semAt_some
attribute [-go_sem] Builtin.append_
theorem push_bd{N:Nat}(l:List Nat)(y:List Nat × List Nat)(h:∀x∈l,x<N)(h1:∀x∈y.1,x<N)(h2:∀x∈y.2,x<N):(∀x∈(l.foldl pushS y).1,x<N)∧(∀x∈(l.foldl pushS y).2,x<N):=push_inv (P:=fun x=>x<N) l y h h1 h2
set_option maxRecDepth 100000 in
set_option maxHeartbeats 8000000 in
theorem reached_any{M:Nat}{I:World→List Nat→Prop}(f:Nat)(fi ca:Array Value)(N:Nat)(nx:Nat→List Nat)(hnx:NxI M I)(hok:NxOK I f fi ca N nx)(hF:∀args w,(callFunc f args).run Tryz.prog w=.ok (.enter f args) w)(hbd:∀x y,x<N→y∈nx x→y<N)(hN:N≤128)(k st:Nat)(R:List Nat)(w:World)(F0:List Nat)(hI:I w F0)(hT:TabAt w)(hTl:0<w.heap.size)(hTF:0 ∉ F0)(hMw:M≤w.heap.size)(hst:st<N)(hr:reached k st nx=some R) :
  Calls Tryz.prog 159 #[.int .u64 (st:Int),.func (.func f) fi ca] w fun e w'=>∃v F',e=.returned (.agg #[v])∧SetV w' w.heap.size v R∧I w' F'∧Kb F0 w w'∧(∀b∈F',b∈F0∨w.heap.size≤b)∧∀g,v.ownBlock=some g→g ∉ F':=by
 obtain⟨i0,hi0,hz0,hz1,hz2⟩:=info_parts infoN;have TT:Hid (∀W,Kb F0 w W→TabAt W):=hide (fun W hk=>hT.kb hk hTF);obtain⟨W0,hW0⟩:∃W0,W0=(w.alloc (.cells #[.slice none 0 0] TSet)).alloc (.cells #[.slice none 0 0] TSet):=⟨_,rfl⟩;have k0:Kb [] w W0:=by rw[hW0];exact((Kb.refl [] w).alloc _).alloc _
 have z0:W0.heap.size=w.heap.size+2:=by rw[hW0];simp
 have y0:W0.heap[w.heap.size]?=some (.cells #[.slice none 0 0] TSet (0,0)):=by rw[hW0];exact heap_old (heap_new _ _) _
 have f0:W0.heap[w.heap.size+1]?=some (.cells #[.slice none 0 0] TSet (0,0)):=by
  rw[hW0];have:=heap_new (w.alloc (.cells #[.slice none 0 0] TSet)) (.cells #[.slice none 0 0] TSet);rw[World.size_alloc]at this;exact this
 have HA:=sadd_any w.heap.size (w.heap.size+1) 0 #[.slice none 0 0] TSet (.slice none 0 0) [] st W0 (by omega) (by decide) f0 rfl (SetV.nil _ _) (by omega);have ec:(!([]:List Nat).contains st)=true:=by simp
 rw[ec]at HA;have HI0:=hide (hnx.kb w W0 F0 [] hI k0 (by simp));have hlF:∀b∈F0,b<w.heap.size:=fun b hb=>(hnx.lt w F0 b hI hb).1
 refine(callsIn_wide (n:=20)).1 ?_
 refine callsIn_of_wp_marks Tryz.func159 rfl trivial ?_ rfl;simp only[Tryz.ntmps159,List.size_toArray,List.length_cons,List.length_nil,Nat.reduceAdd,Nat.reduceSub,Array.replicate_succ,Array.replicate_zero,List.push_toArray,List.append_toArray,List.nil_append,List.cons_append];gi_wp2
 rw[← hW0];refine⟨trivial,?_⟩;refine(callsIn_wide.2 HA).mono ?_
 clear HA hW0;rintro e w1 ⟨rfl,vf,hSf,hCf⟩;have hsz1:=hCf.kb.size;have e0:Value.ownBlock (.slice none 0 0)=none:=rfl;have kf:Kb [w.heap.size+1] W0 w1:=by have:=hCf.kb;rw[e0]at this;simpa using this
 have z1:w1.heap[w.heap.size]?=some (.cells #[.slice none 0 0] TSet (0,0)):=kf.heap y0 (by simp);have c1:w1.heap[w.heap.size+1]?=some (.cells #[vf] TSet (0,0)):=by rw[hCf.blk];rfl
 have i1:I w1 F0:=hnx.kb W0 w1 F0 _ HI0.out kf (by intro b hb;rw[List.mem_singleton.1 hb];intro hm;have:=hlF _ hm;omega);have kb1:Kb F0 w w1:=by
  refine⟨kf.os.trans k0.os,kf.tape.trans k0.tape,kf.output.trans k0.output,Nat.le_trans k0.size kf.size,fun j hj _=>(kf.block j (by omega) (by simp;omega)).trans (k0.block j hj (by simp))⟩
 obtain⟨w2,hw2⟩:∃w2,w2=(w1.alloc (.cells #[.int .u64 (st:Int)] TN)).alloc (.cells #[.slice (some ⟨w1.heap.size,0,none⟩) 1 1] TNs):=⟨_,rfl⟩;have k2:Kb [] w1 w2:=by rw[hw2];exact((Kb.refl [] w1).alloc _).alloc _
 have g2:w2.heap[w1.heap.size]?=some (.cells #[.int .u64 (st:Int)] TN (0,0)):=by rw[hw2];exact heap_old (heap_new _ _) _
 have b2:w2.heap[w1.heap.size+1]?=some (.cells #[.slice (some ⟨w1.heap.size,0,none⟩) 1 1] TNs (0,0)):=by
  rw[hw2];have:=heap_new (w1.alloc (.cells #[.int .u64 (st:Int)] TN)) (.cells #[.slice (some ⟨w1.heap.size,0,none⟩) 1 1] TNs);rw[World.size_alloc]at this;exact this
 have R0:RS M I w F0 [] (addS st []) [st] (w.heap.size+1) (w1.heap.size+1) vf (.slice (some ⟨w1.heap.size,0,none⟩) 1 1) F0 [] w2:=by
  refine⟨hnx,hMw,hnx.kb w1 w2 F0 [] i1 k2 (by simp),⟨k2.os.trans kb1.os,k2.tape.trans kb1.tape,k2.output.trans kb1.output,Nat.le_trans kb1.size k2.size,fun j hj hl=>(k2.block j (Nat.lt_of_lt_of_le hj kb1.size) (by simp)).trans (kb1.block j hj hl)⟩,fun b hb=>.inl hb,k2.heap z1 (by simp),k2.heap c1 (by simp),hSf.kb k2 (by simp),b2,⟨⟨rfl,.inr ⟨w1.heap.size,1,_,rfl,by omega,g2,Nat.le_refl _,by unfold maxLen;omega,rfl,rfl⟩⟩,by simp;omega⟩,⟨by omega,by omega⟩,?_,by simp,by simp,List.nodup_nil,by simp⟩;rintro b (e|e|e|e|e) hm
  ·have:=hlF b hm;omega
  ·have:=hlF b hm;omega
  ·have:=hlF b hm;omega
  ·have:=hlF b hm;have:=(hSf.lt e).1;omega
  ·have:=hlF b hm;simp[Value.ownBlock]at e;omega
 have HR0:=hide R0;clear R0 i1 kb1 k2 g2 b2 hSf hCf kf z1 c1 HI0 y0 f0 k0;gi_wp2
 rw[← hw2];unfold reached at hr;obtain⟨kk,hkk⟩:∃kk,k=kk+1:=by
  cases k with
  |zero=>cases hr
  |succ kk=>exact⟨kk,rfl⟩
 rw[hkk]at hr;refine wpIn_loop_ghost (fun k a W=>∃found rest br vf vr F ds x7 x8 x13 x14 x15 x16 x17 x18 x19 x20 x21 x22 x23 x24 x25 x26 x27 x28 x29 x30 x31 x32 x33 x34 x35 x36 x37,RS M I w F0 [] found rest (w.heap.size+1) br vf vr F ds W∧reachL nx (k+1) found rest=some R∧(∀x∈found,x<N)∧(∀x∈rest,x<N)∧(128-cnt 128 found)+rest.length≤129∧a={ tmps:=#[.int .u64 (st:Int),.func (.func f) fi ca,undef,undef,.pointer (some ⟨w.heap.size,0,none⟩),.pointer (some ⟨w.heap.size+1,0,none⟩),.pointer (some ⟨br,0,none⟩),x7,x8,.int .u64 (st:Int),.bool true,.int .u64 (st:Int),.slice (some ⟨w1.heap.size,0,none⟩) 1 1,x13,x14,x15,x16,x17,x18,x19,x20,x21,x22,x23,x24,x25,x26,x27,x28,x29,x30,x31,x32,x33,x34,x35,x36,x37,undef],defers:=ds.map collD }) kk ⟨_,_,_,_,_,_,[],_,_,_,_,_,_,_,_,_,_,_,_,_,_,_,_,_,_,_,_,_,_,_,_,_,_,_,HR0.out,hr,?h1,?h2,?h3,rfl⟩ ?_
 case h1=>
  intro x hx;rcases(mem_addS.1 hx).2 with rfl|hx
  ·exact hst
  ·cases hx
 case h2=>
  intro x hx;rw[List.mem_singleton.1 hx];exact hst
 case h3=>simp
 clear HR0 hw2 hr;rintro k a W ⟨found,rest,br,vf,vr,F,ds,x7,x8,x13,x14,x15,x16,x17,x18,x19,x20,x21,x22,x23,x24,x25,x26,x27,x28,x29,x30,x31,x32,x33,x34,x35,x36,x37,R1,hre,hb1,hb2,hlen,rfl⟩;by_cases hne:rest=[]
 ·rw[reachL_succ,hne]at hre;have hre2:found=R:=by simpa using hre
  obtain⟨ao,cap,evr,_⟩:=R1.sr.form;have cr:W.cell? ⟨br,0,none⟩=some (.slice ao 0 cap):=by
   rw[cell_at R1.cr,evr,hne];rfl
  obtain⟨fo,fl,fc,evf⟩:=R1.sf.form;have cf:W.cell? ⟨w.heap.size+1,0,none⟩=some (.slice fo fl fc):=by rw[cell_at R1.cf,evf];rfl
  have cz:W.cell? ⟨w.heap.size,0,none⟩=some (.slice none 0 0):=by rw[cell_at R1.cz];rfl
  have fz:W.frozen? ⟨w.heap.size,0,none⟩=false:=frozen_at R1.cz 0;obtain⟨W2,hW2⟩:∃W2,W2=W.setCell ⟨w.heap.size,0,none⟩ (.slice fo fl fc):=⟨_,rfl⟩;have kS:Kb [w.heap.size] W W2:=by rw[hW2];exact(Kb.refl _ _).setCell (p:=⟨w.heap.size,0,none⟩) (.inl (by simp)) _
  have kC:=coll_kb ds W2;have dd2:∀D∈ds,W2.heap[D]?=some (.deferred (some [])):=fun D hD=>kS.heap (R1.dd D hD) (fun hm=>by
   rw[List.mem_singleton.1 hm]at hD;have:=R1.dd _ hD;rw[R1.cz]at this;cases this)
  have kSC:Kb (w.heap.size::ds) W (ds.foldl (fun W D=>W.putObj D (.deferred none)) W2):=(kS.mono (by intro k _ hk;simp at hk;simp[hk])).trans (kC.mono (by intro k _ hk;simp[hk]));have hdc:∀D∈ds,∀cs T fz,W.heap[D]?≠some (.cells cs T fz):=fun D hD cs T fz e=>by rw[R1.dd D hD]at e;cases e
  have nb:∀b∈w.heap.size::ds,w.heap.size≤b∧b ∉ F∧vf.ownBlock≠some b:=by
   intro b hb;rcases List.mem_cons.1 hb with rfl|hb
   ·exact⟨Nat.le_refl _,R1.out _ (.inl rfl),R1.sf.ne R1.cz (by decide)⟩
   ·refine⟨R1.dl b hb,R1.dF (R1.dd b hb) rfl (R1.dl b hb),fun e=>?_⟩;obtain⟨cs,hc⟩:=R1.sf.block e;exact hdc b hb _ _ _ hc
  have HF:Hid (SetV (ds.foldl (fun W D=>W.putObj D (.deferred none)) W2) w.heap.size vf R∧I (ds.foldl (fun W D=>W.putObj D (.deferred none)) W2) F∧Kb F0 w (ds.foldl (fun W D=>W.putObj D (.deferred none)) W2)∧(∀b∈F,b∈F0∨w.heap.size≤b)∧∀g,vf.ownBlock=some g→g ∉ F):=by
   refine hide ⟨?_,hnx.kb W _ F _ R1.inv kSC (fun b hb=>(nb b hb).2.1),?_,R1.ft,fun g hg=>R1.out g (.inr (.inr (.inr (.inl hg))))⟩
   ·rw[← hre2];exact R1.sf.kb kSC (fun g hg e=>(nb g hg).2.2 e)
   ·refine⟨kSC.os.trans R1.kb.os,kSC.tape.trans R1.kb.tape,kSC.output.trans R1.kb.output,Nat.le_trans R1.kb.size kSC.size,fun j hj hl=>?_⟩;refine(kSC.block j (Nat.lt_of_lt_of_le hj R1.kb.size) (fun hm=>?_)).trans (R1.kb.block j hj hl);have:=(nb j hm).1;omega
  have hcell:(ds.foldl (fun W D=>W.putObj D (.deferred none)) W2).cell? ⟨w.heap.size,0,none⟩=some (.slice fo fl fc):=by
   have h1:W2.heap[w.heap.size]?=some (.cells #[.slice fo fl fc] TSet (0,0)):=by rw[hW2,heap_set R1.cz];rfl
   rw[cell_at (kC.heap h1 (fun hm=>hdc _ hm _ _ _ R1.cz))];rfl
  have HD:=hide (And.intro R1.nd dd2);have HE:=hide evf;clear R1 kS kC kSC nb dd2 hdc evf hre evr;gi_wp2
  rw[← hW2];refine leaves_coll ds W2 HD.out.1 HD.out.2 ?_
  refine⟨.agg #[.slice fo fl fc],?_,.slice fo fl fc,F,rfl,by rw[← HE.out];exact HF.out⟩;simp[results,Tryz.results159,go_sem,hcell]
 ·obtain⟨x,hx⟩:∃x,rest.getLast?=some x:=by
   cases hg:rest.getLast? with
   |none=>exact absurd (List.getLast?_eq_none_iff.1 hg) hne
   |some x=>exact⟨x,rfl⟩
  rw[reachL_succ,hx]at hre;have hxm:=List.mem_of_getLast? hx;have hxN:=hb2 x hxm;obtain⟨k2,hk2⟩:∃k2,k=k2+1:=by
   cases k with
   |zero=>cases hre
   |succ k2=>exact⟨k2,rfl⟩
  rw[hk2]at hre;have hln:=List.length_pos_iff.2 hne;have hxi:rest[rest.length-1]?=some x:=by rw[← List.getLast?_eq_getElem?];exact hx
  obtain⟨ao,cap,evr,hform⟩:=R1.sr.form;obtain⟨g,eao,cg,_⟩:=hform _ _ hxi;subst eao;have cr:W.cell? ⟨br,0,none⟩=some (.slice (some ⟨g,0,none⟩) rest.length cap):=by rw[cell_at R1.cr,evr];rfl
  have HN:=hok W F x R1.inv (TT.out W R1.kb) hxN;have hcap:rest.length≤cap:=by
   rcases R1.sr.1.2 with⟨e9,h9⟩|⟨g',cp,cur,e9,_,_,h9,_⟩
   ·omega
   ·rw[evr]at e9;injection e9 with _ _ e9;omega
  have i5:(rest.length:Int)-1≤(cap:Int):=by omega
  have i6:rest.length-1≤cap:=by omega
  have i1:(0:Int)<(rest.length:Int):=by omega
  have i2:((rest.length:Int)-1).toNat=rest.length-1:=by omega
  have i3:(0:Int)≤(rest.length:Int)-1:=by omega
  have i4:rest.length≤129:=by omega
  have HE:=hide (And.intro hre (And.intro hx hxi));have HR1:=hide (And.intro R1 evr);clear R1 hre hx hxi hform evr;gi_wp2
  refine⟨trivial,?_⟩;refine(callsIn_wide.2 HN).mono ?_
  clear HN;rintro e W1 ⟨v,F1,rfl,hv,hvl,hi1,hk1,hf1⟩;obtain⟨vo,vl,vc,rfl⟩:=hv.form;have R2:=HR1.out.1.call hi1 hk1 hf1;have kA:Kb [] W1 (W1.alloc (.cells #[.slice vo vl vc] TSet)):=(Kb.refl [] W1).alloc _;have hA2:(W1.alloc (.cells #[.slice vo vl vc] TSet)).heap[W1.heap.size]?=some (.cells #[.slice vo vl vc] TSet (0,0)):=heap_new _ _;obtain⟨W2,hW2⟩:∃W2,W2=W1.alloc (.cells #[.slice vo vl vc] TSet):=⟨_,rfl⟩;rw[← hW2]at kA hA2;have R3:=R2.fresh kA;have hvr:=HR1.out.2;have cr2:W2.cell? ⟨br,0,none⟩=some (.slice (some ⟨g,0,none⟩) rest.length cap):=by rw[cell_at R3.cr,hvr];rfl
  have fr2:W2.frozen? ⟨br,0,none⟩=false:=frozen_at R3.cr 0;have hpop:=OwnN.pop (w:=W2) (B:=w.heap.size) (ao:=some ⟨g,0,none⟩) (cap:=cap) (xs:=rest) (by rw[← hvr];exact R3.sr) hne;have R4:=(R3.rows (W1:=W2) (Kb.refl _ _) hpop (.inl (by rw[hvr];rfl))).1;obtain⟨W3,hW3⟩:∃W3,W3=W2.setCell ⟨br,0,none⟩ (.slice (some ⟨g,0,none⟩) (rest.length-1) cap):=⟨_,rfl⟩;have k3:Kb [br] W2 W3:=by rw[hW3];exact(Kb.refl _ _).setCell (p:=⟨br,0,none⟩) (.inl (by simp)) _
  rw[← hW3]at R4;have hbn:W1.heap.size≠br:=fun e=>by
   have:=lt_of_heap R2.cr;omega
  have hA3:W3.heap[W1.heap.size]?=some (.cells #[.slice vo vl vc] TSet (0,0)):=k3.heap hA2 (by simp;exact hbn);have hv3:SetV W3 0 (.slice vo vl vc) (nx x):=(hv.kb kA (by simp)).kb k3 (fun b hb e=>by
   rw[List.mem_singleton.1 hb]at e;obtain⟨cs,hc⟩:=(hv.kb kA (by simp)).block e;exact ne_types hc R3.cr (by decide) rfl)
  have HAl:=all_any 0 W1.heap.size 0 #[.slice vo vl vc] TSet (.slice vo vl vc) (nx x) W3 hA3 rfl hv3;have HR4:=hide R4;have HW2:=hide hW2;have HW3:=hide hW3;rw[hW2]at cr2 fr2;clear R2 R3 R4 hpop kA hA2 hA3 hv3 hv hvr hi1 hk1 hf1 hvl k3 HR1 cr cg hW2 hW3;gi_wp2
  rw[← HW2.out,← HW3.out];refine⟨trivial,?_⟩;refine(callsIn_wide.2 HAl).mono ?_
  clear HAl HW3 HW2;rintro e W4 ⟨bwa,va,rfl,hbw,hbwc,hva,k4⟩;have R5:=HR4.out.fresh k4;obtain⟨L,hL⟩:∃L,L=0::va.ownBlock.toList:=⟨_,rfl⟩;have hLp:∀b∈L,b ∉ F1∧b<W4.heap.size∧¬Own5 w.heap.size (w.heap.size+1) br vf (.slice (some ⟨g,0,none⟩) (rest.length-1) cap) b:=by
   intro b hb;rw[hL]at hb;rcases List.mem_cons.1 hb with rfl|hb
   ·refine⟨fun hm=>?_,by have:=R5.kb.size;omega,fun ho=>?_⟩
    ·rcases R5.ft _ hm with h9|h9
     ·exact hTF h9
     ·omega
    ·have:=(R5.cells ho).1;omega
   ·simp at hb;have h8:=hva.lt hb;refine⟨fun hm=>?_,h8.2,fun ho=>?_⟩
    ·have:=(hnx.lt W3 F1 b HR4.out.inv hm).1;omega
    ·obtain⟨_,cs,T,hc⟩:=HR4.out.cells ho;have:=lt_of_heap hc;omega
  have hLlt:∀b∈L,b<W4.heap.size:=fun b hb=>(hLp b hb).2.1
  have hst2:=all_stops 19 bwa W3.heap.size va (nx x) L W4 hbwc hva (TT.out _ R5.kb) (fun g hg=>by rw[hL];simp[hg]) (by rw[hL];simp);have R6:=R5.setL hLp;have hdsl:∀x∈ds,x<W4.heap.size:=fun x hx=>lt_of_heap (R5.dd x hx)
  have hw4:=R5.kb.size;have HR6:=hide R6;have hnb:∀y∈nx x,y<N:=fun y hy=>hbd x y hxN hy
  clear R5 R6 hLp hbwc HR4 hbw k4 hva;gi_wp2
  refine wpIn_rangeFunc_ownG (α:=Mem (nx x)) (hro:=rfl) (h1:=by omega) (gf:=127) (lb:=#[.pointer (some ⟨bwa,0,none⟩)]) rfl trivial (enters_of Tryz.func127 (by kernel_rfl) rfl) hst2 (fun h1 h2=>h1.trans h2) (kpB_b hLlt) (Below.refl _ _) (fun _=>rfl)
   (fun pre X=>∃vf vr,RS M I w F0 L ((pre.map (·.1)).foldl pushS (found,rest.dropLast)).1 ((pre.map (·.1)).foldl pushS (found,rest.dropLast)).2 (w.heap.size+1) br vf vr F1 ds X)
   (fun _ _ _=>False) ?hI (fun _ _ _ _ _ hs _ _=>hs) ⟨_,_,HR6.out⟩ ?a1 ?assign ?body ?done ?stop
  case hI=>
   rintro pre X X' row ⟨vf,vr,q1⟩ hg hr;exact⟨vf,vr,q1.own (by omega) hdsl hg hr⟩
  case assign=>
   intro l x W K hK;gi_wp2
   exact hK
  case stop=>
   rintro D cc pre X _ _ hF _;exact hF.elim
  case body=>
   rintro l pre ⟨t,htm⟩ X ⟨vf2,vr2,q1⟩ hlen2;have ht:=hnb t htm;have hpl:=push_len (pre.map (·.1)) (found,rest.dropLast) (fun y hy=>by
    obtain⟨z,_,rfl⟩:=List.mem_map.1 hy;exact Nat.lt_of_lt_of_le (hnb z.1 z.2) hN)
   have hyt:((pre++[(⟨t,htm⟩:Mem (nx x))]).map (·.1)).foldl pushS (found,rest.dropLast)=pushS ((pre.map (·.1)).foldl pushS (found,rest.dropLast)) t:=by rw[List.map_append,List.foldl_append];rfl
   have HYT:=hide hyt;obtain⟨y,hy⟩:∃y,y=(pre.map (·.1)).foldl pushS (found,rest.dropLast):=⟨_,rfl⟩;rw[← hy]at q1 hpl HYT;have hyl:y.2.length≤129:=by
    simp only[List.length_dropLast]at hpl;omega
   have hXs:=q1.kb.size;have HAd:=sadd_any w.heap.size (w.heap.size+1) 0 #[vf2] TSet vf2 y.1 t X hXs (by decide) q1.cf rfl q1.sf (by omega);have hcan:=q1.sf.canon;have HQ:=hide q1;have HC:=hide hcan;clear q1 hy hyt hpl hcan;dsimp only[encN,Array.zip,Array.foldl];gi_wp2
   refine⟨trivial,?_⟩;refine(CallsIn.inRound l (callsIn_wide.2 HAd)).mono ?_
   clear HAd;rintro e X1 ⟨rfl,v3,hS3,hC3⟩;obtain⟨z1,z2,z3⟩:=HQ.out.sets hS3 hC3;have HZ:=hide (And.intro z1 (And.intro z2 z3));clear z1 z2 z3 hS3 hC3;cases hc:y.1.contains t
   ·have hpu:pushS y t=(addS t y.1,y.2++[t]):=by unfold pushS;rw[hc];rfl
    have HP:=hide hpu;have q2:=HZ.out.1;obtain⟨ao2,cp2,ev2,_⟩:=q2.sr.form;have kA:Kb [] X1 (X1.alloc (.cells #[.int .u64 (t:Int)] TN)):=(Kb.refl [] X1).alloc _;have hX1:=q2.kb.size;obtain⟨ga,cpa,w',hrun,hown',hgrow,hlies,_⟩:=run_append_lies (P:=Tryz.prog) (X1.alloc (.cells #[.int .u64 (t:Int)] TN)) TNs TNs w.heap.size TN i0 (.int .u64 0) 1 8 Tryz.underlying106 hi0 hz0 hz1 hz2 rfl (by decide) vr2 y.2.length (u64s y.2) (q2.sr.kb kA (by simp)).1 ⟨X1.heap.size,0,none⟩ 1 1 [.int .u64 (t:Int)] rfl (cells_new X1 _ _ _ rfl) (by intro u hu;simp at hu;rw[hu];rfl) (by omega) (by unfold maxLen;omega) (by omega) (by simp;omega) _ rfl;have kk:Kb vr2.ownBlock.toList X1 w':=(kA.mono (by simp)).trans (kb_grown hgrow);have hOw:OwnN w' w.heap.size (.slice (some ⟨ga,0,none⟩) (y.2.length+1) cpa) (y.2++[t]):=by
     refine⟨?_,fun z hz=>?_⟩
     ·have e1:u64s (y.2++[t])=u64s y.2++[.int .u64 (t:Int)]:=by simp[u64s]
      rw[e1,List.length_append];exact hown'
     ·rcases List.mem_append.1 hz with hz|hz
      ·exact q2.sr.2 z hz
      ·rw[List.mem_singleton.1 hz];omega
    have hl9:(Value.slice (some ⟨ga,0,none⟩) (y.2.length+1) cpa).ownBlock=vr2.ownBlock∨∀g,(Value.slice (some ⟨ga,0,none⟩) (y.2.length+1) cpa).ownBlock=some g→X1.heap.size≤g:=by
     rcases hlies with e9|e9
     ·exact .inl e9.symm
     ·refine .inr (fun g hg=>?_);simp[Value.ownBlock]at hg;rw[World.size_alloc]at e9;omega
    obtain⟨u1,u2,u3⟩:=q2.rows kk hOw hl9;have HU:=hide (And.intro u1 (And.intro u2 u3));have cr1:X1.cell? ⟨br,0,none⟩=some vr2:=by rw[cell_at q2.cr];rfl
    have bw:w'.heap[br]?=some (.cells #[vr2] TNs (0,0)):=kk.heap q2.cr (fun hm=>by simp at hm;exact q2.sr.ne q2.cr (by decide) hm);have cw:w'.cell? ⟨br,0,none⟩=some vr2:=by rw[cell_at bw];rfl
    have fw:w'.frozen? ⟨br,0,none⟩=false:=frozen_at bw 0;rw[ev2]at cr1 hrun cw;obtain⟨AP,hAP⟩:∃AP,Builtin.append_ #[TNs,TNs] TNs #[.slice ao2 y.2.length cp2,.slice (some ⟨X1.heap.size,0,none⟩) 1 1]=AP:=⟨_,rfl⟩;rw[hAP]at hrun;clear q2 ev2 hown' hgrow hlies kk hOw hl9 u1 u2 u3 kA bw hpu HC HQ;have HT9:=hide (And.intro (fun D=>(HZ.out.2.1 D).trans (HU.out.2.1 D)) (HZ.out.2.2.trans HU.out.2.2));gi_wp2
    refine⟨HT9.out.1 _,HT9.out.2,v3,.slice (some ⟨ga,0,none⟩) (y.2.length+1) cpa,?_⟩;rw[HYT.out,HP.out];exact HU.out.1
   ·have hpu:pushS y t=y:=by unfold pushS;rw[hc];rfl
    have HP:=hide hpu;have HS:=hide (addS_self HC.out hc);clear hpu HC HQ;gi_wp2
    refine⟨HZ.out.2.1 _,HZ.out.2.2,v3,vr2,?_⟩;rw[HYT.out,HP.out];have h9:=HZ.out.1;rw[HS.out]at h9;exact h9
  case done=>
   rintro D xs X hD hxs ⟨vf2,vr2,q1⟩ hK;rw[hxs]at q1;have hpl:=push_len (nx x) (found,rest.dropLast) (fun y hy=>Nat.lt_of_lt_of_le (hnb y hy) hN);have hbq:=push_bd (N:=N) (nx x) (found,rest.dropLast) hnb hb1 (fun z hz=>hb2 z ((List.dropLast_sublist rest).subset hz));have hre:=HE.out.1;simp only[List.length_dropLast]at hpl;generalize (nx x).foldl pushS (found,rest.dropLast)=y at q1 hpl hbq hre;have q2:=(q1.addD hK (fun z hz=>by have:=hdsl z hz;omega) (by omega)).setL (L':=[]) (by simp);obtain⟨ao2,cp2,ev2,_⟩:=q2.sr.form;have cr1:X.cell? ⟨br,0,none⟩=some vr2:=by rw[cell_at q2.cr];rfl
   have HB:=hide (And.intro q2.box (And.intro hre hbq));rw[ev2]at cr1;have HV:=hide ev2;clear q1 q2 ev2 hre hbq HE HR6;gi_wp2
   rw[← HV.out];exact⟨k2,by omega,y.1,y.2,_,vf2,vr2,F1,D::ds,_,_,_,_,_,_,_,_,_,_,_,_,_,_,_,_,_,_,_,_,_,_,_,_,_,_,_,HB.out.1,HB.out.2.1,HB.out.2.2.1,HB.out.2.2.2,by omega,rfl⟩
end
end Go.Proofs.YtiamlbhkiehilaaGreatDoor
