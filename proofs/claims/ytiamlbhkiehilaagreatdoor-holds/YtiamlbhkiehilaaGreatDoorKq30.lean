import Derived.Test.YtiamlbhkiehilaaGreatDoorKq29
import Derived.Deep.RegionHeld3
namespace Go.Proofs.YtiamlbhkiehilaaGreatDoor
section
open Go.RowKit Go.Shelf
attribute [local go_sem] Oper.semAt_some
variable {B:Nat} {c:Way} {n:Nat} {s:St}
structure PCh(w w':World)(G G':GV)(bp:Nat)(pv pv':List Value):Prop where
 kb:Kb (G.foot++pft bp pv) w w'
 ft:∀b,b∈G'.foot→b∈G.foot∨w.heap.size≤b
 pf:∀b,b∈pft bp pv'→b∈pft bp pv∨w.heap.size≤b
 dj:∀b,b∈pft bp pv'→b ∉ G'.foot
 e1:G'.bg=G.bg
 e2:G'.bn=G.bn
 e3:G'.bl=G.bl
def HpK(w:World)(B:Nat)(c:Way)(n:Nat)(G:GV)(s:St)(T1 T2:List Nat)(bxs:List (Nat × Array Value × TypeId))(vts:List (Value × List Nat × Nat))(b6 b7 Z:Nat)(X:World):Prop:=
 Z≤b6∧Z≤b7∧b6≠b7∧∃vl vs G2,LI w B c n G [] ((b7,#[vs],TSet)::(b6,#[vl],TSet)::bxs) ((vl,T1,w.heap.size)::(vs,T2,w.heap.size)::vts) X s G2
theorem hp_fin{w:World}{G:GV}{bxs bx2:List (Nat × Array Value × TypeId)}{vts:List (Value × List Nat × Nat)}{T1 T2:List Nat}{Z:Nat}{vl vs:Value}{X Xf:World}{G2:GV}{b6 b7:Nat}(L:LI w B c n G [] bx2 ((vs,T2,w.heap.size)::(vl,T1,w.heap.size)::vts) X s G2)(hsub:∀q∈bxs,q∈bx2)(hZ:∀q∈bxs,q.1<Z)(hw:w.heap.size≤Z)
  (hk:Kb [b6,b7] X Xf) (h6:Xf.heap[b6]?=some (.cells #[vl] TSet (0,0))) (h7:Xf.heap[b7]?=some (.cells #[vs] TSet (0,0))) (c6:X.heap.size≤b6∨(b6,#[Value.slice none 0 0],TSet)∈bx2) (c7:X.heap.size≤b7∨(b7,#[Value.slice none 0 0],TSet)∈bx2) (l6:Z≤b6) (l7:Z≤b7) (hne:b6≠b7):HpK w B c n G s T1 T2 bxs vts b6 b7 Z Xf:=by
 have key:∀b,(X.heap.size≤b∨(b,#[Value.slice none 0 0],TSet)∈bx2)→b ∉ G2.foot∧∀(v:Value) t B',SetV X B' v t→v.ownBlock≠some b:=by
  intro b hb;rcases hb with hb|hb
  ·exact⟨L.newer hb,fun v t B' hv e=>by have:=(hv.lt e).2;omega⟩
  ·obtain⟨q1,q2⟩:=L.bx _ hb;exact⟨q2,fun v t B' hv e=>hv.ne q1 (by dsimp only;decide) e⟩
 obtain⟨n6,t6⟩:=key b6 c6;obtain⟨n7,t7⟩:=key b7 c7;have nb:∀b∈[b6,b7],b ∉ G2.foot∧w.heap.size≤b∧(∀q∈bxs,q.1≠b)∧∀(v:Value) t B',SetV X B' v t→v.ownBlock≠some b:=by
  intro b hb;rcases List.mem_cons.1 hb with rfl|hb
  ·exact⟨n6,by omega,fun q hq e=>by have:=hZ q hq;omega,t6⟩
  ·rw[List.mem_singleton.1 hb];exact⟨n7,by omega,fun q hq e=>by have:=hZ q hq;omega,t7⟩
 refine⟨l6,l7,hne,vl,vs,G2,L.gm.beside hk (fun b hb=>(nb b hb).1),L.ch.beside hk (fun b hb=>(nb b hb).2.1),fun q hq=>?_,fun q hq=>?_,by simp⟩
 ·rcases List.mem_cons.1 hq with rfl|hq
  ·exact⟨h7,n7⟩
  ·rcases List.mem_cons.1 hq with rfl|hq
   ·exact⟨h6,n6⟩
   ·obtain⟨q1,q2⟩:=L.bx q (hsub q hq);exact⟨hk.heap q1 (fun hm=>(nb _ hm).2.2.1 q hq rfl),q2⟩
 ·have hq2:q∈(vs,T2,w.heap.size)::(vl,T1,w.heap.size)::vts:=by
   rcases List.mem_cons.1 hq with rfl|hq
   ·simp
   ·rcases List.mem_cons.1 hq with rfl|hq
    ·simp
    ·simp[hq]
  obtain⟨s1,s1o⟩:=L.vt q hq2;exact⟨s1.kb hk (fun g hg e=>(nb g hg).2.2.2 _ _ _ s1 e),s1o⟩
theorem hp_B{w:World}{G:GV}{bxs bx2:List (Nat × Array Value × TypeId)}{vts:List (Value × List Nat × Nat)}{T1 T2:List Nat}{Z:Nat}{vl vs:Value}{X:World}{G2:GV}{b6 b7:Nat}(L:LI w B c n G [] bx2 ((vs,T2,w.heap.size)::(vl,T1,w.heap.size)::vts) X s G2)(hsub:∀q∈bxs,q∈bx2)(hZ:∀q∈bxs,q.1<Z)(hw:w.heap.size≤Z)
  (c6:(b6,#[Value.slice none 0 0],TSet)∈bx2) (c7:(b7,#[Value.slice none 0 0],TSet)∈bx2) (l6:Z≤b6) (l7:Z≤b7) (hne:b6≠b7):HpK w B c n G s T1 T2 bxs vts b6 b7 Z ((X.setCell ⟨b6,0,none⟩ vl).setCell ⟨b7,0,none⟩ vs):=by
 obtain⟨p1,p2,p3⟩:=two_set (vl:=vl) (vs:=vs) (L.bx _ c6).1 (L.bx _ c7).1 hne;exact hp_fin L hsub hZ hw p3 p1 p2 (.inr c6) (.inr c7) l6 l7 hne
theorem hp_A{w:World}{G:GV}{bxs bx2:List (Nat × Array Value × TypeId)}{vts:List (Value × List Nat × Nat)}{T1 T2:List Nat}{Z:Nat}{vl vs:Value}{X:World}{G2:GV}{b6:Nat}(L:LI w B c n G [] bx2 ((vs,T2,w.heap.size)::(vl,T1,w.heap.size)::vts) X s G2)(hsub:∀q∈bxs,q∈bx2)(hZ:∀q∈bxs,q.1<Z)(hw:w.heap.size≤Z)
  (c6:(b6,#[Value.slice none 0 0],TSet)∈bx2) (l6:Z≤b6) (l7:Z≤X.heap.size):HpK w B c n G s T1 T2 bxs vts b6 X.heap.size Z (((X.alloc (.cells #[.slice none 0 0] TSet)).setCell ⟨b6,0,none⟩ vl).setCell ⟨X.heap.size,0,none⟩ vs):=by
 have hlt:=lt_of_heap (L.bx _ c6).1;have hne:b6≠X.heap.size:=by dsimp only at hlt;omega
 obtain⟨p1,p2,p3⟩:=two_set (vl:=vl) (vs:=vs) (heap_old (L.bx _ c6).1 (.cells #[.slice none 0 0] TSet)) (heap_new X (.cells #[.slice none 0 0] TSet)) hne;exact hp_fin L hsub hZ hw ((((Kb.refl [] X).alloc _).mono (by simp)).trans p3) p1 p2 (.inr c6) (.inl (Nat.le_refl _)) l6 l7 hne
theorem hp_C{w:World}{G:GV}{bxs bx2:List (Nat × Array Value × TypeId)}{vts:List (Value × List Nat × Nat)}{T1 T2:List Nat}{Z:Nat}{vl vs:Value}{X:World}{G2:GV}{b7:Nat}(L:LI w B c n G [] bx2 ((vs,T2,w.heap.size)::(vl,T1,w.heap.size)::vts) X s G2)(hsub:∀q∈bxs,q∈bx2)(hZ:∀q∈bxs,q.1<Z)(hw:w.heap.size≤Z)
  (c7:(b7,#[Value.slice none 0 0],TSet)∈bx2) (l6:Z≤X.heap.size) (l7:Z≤b7):HpK w B c n G s T1 T2 bxs vts X.heap.size b7 Z ((X.alloc (.cells #[vl] TSet)).setCell ⟨b7,0,none⟩ vs):=by
 have hlt:=lt_of_heap (L.bx _ c7).1;have hne:X.heap.size≠b7:=by dsimp only at hlt;omega
 have k2:Kb [b7] (X.alloc (.cells #[vl] TSet)) ((X.alloc (.cells #[vl] TSet)).setCell ⟨b7,0,none⟩ vs):=(Kb.refl _ _).setCell (p:=⟨b7,0,none⟩) (.inl (by simp)) _;exact hp_fin L hsub hZ hw ((((Kb.refl [] X).alloc _).mono (by simp)).trans (k2.mono (by intro k _ hk;simp at hk;simp[hk]))) (k2.heap (heap_new X _) (by simp;omega)) (heap_set (heap_old (L.bx _ c7).1 _) 0 vs) (.inl (Nat.le_refl _)) (.inr c7) l6 l7 hne
theorem hp_end{w X3 W W3 W4:World}{G G2:GV}{Bp bp b9 D D2:Nat}{pv pv1 pv2:List Value}{z1 z2:Bool × List (List Nat)}(gm:GM X3 B c n G2 s)(ch:GCh w X3 G G2)(hb9:b9 ∉ G2.foot)(hb9w:w.heap.size≤b9)(hdX:∀b∈pft bp pv,b ∉ G2.foot)(p1:HpI X3 Bp bp n pv b9 z1 pv1 W)(k3:Kb [] W W3)(p2:HpI W3 Bp bp n pv1 b9 z2 pv2 W4)(hD:X3.heap.size≤D)(hD2:X3.heap.size≤D2)(hKD:W4.heap[D]?=some (.deferred (some [])))(hK2:W4.heap[D2]?=some (.deferred (some [])))(hne:D≠D2) :
  (W4.putObj D2 (.deferred none)).heap[D]?=some (.deferred (some []))∧GM ((W4.putObj D2 (.deferred none)).putObj D (.deferred none)) B c n G2 s∧PS ((W4.putObj D2 (.deferred none)).putObj D (.deferred none)) Bp bp n pv2 z2.2∧PCh w ((W4.putObj D2 (.deferred none)).putObj D (.deferred none)) G G2 bp pv pv2:=by
 have ka:Kb [D2] W4 (W4.putObj D2 (.deferred none)):=kb_grown (grownBy_putObj' W4 D2 (.deferred none));have kc:Kb [D] (W4.putObj D2 (.deferred none)) ((W4.putObj D2 (.deferred none)).putObj D (.deferred none)):=kb_grown (grownBy_putObj' (W4.putObj D2 (.deferred none)) D (.deferred none));have hKD':=(ka.block D (lt_of_heap hKD) (by simp;omega)).trans hKD;have hx3:=p1.kb.size;have hx4:=k3.size;have hx5:=p2.kb.size;have np:∀b,b∈pft bp pv2→b≠D∧b≠D2:=fun b hb=>by
  obtain⟨_,_,cs,T,h1⟩:=p2.ps.cells hb;constructor
  ·intro e;rw[e,hKD]at h1;cases h1
  ·intro e;rw[e,hK2]at h1;cases h1
 have kAll:Kb (b9::pft bp pv) X3 ((W4.putObj D2 (.deferred none)).putObj D (.deferred none)):=by
  refine⟨kc.os.trans (ka.os.trans (p2.kb.os.trans (k3.os.trans p1.kb.os))),kc.tape.trans (ka.tape.trans (p2.kb.tape.trans (k3.tape.trans p1.kb.tape))),kc.output.trans (ka.output.trans (p2.kb.output.trans (k3.output.trans p1.kb.output))),Nat.le_trans (Nat.le_trans (Nat.le_trans hx3 hx4) hx5) (Nat.le_trans ka.size kc.size),fun j hj hn=>?_⟩;have j1:j ∉ b9::pft bp pv1:=fun hm=>by
   rcases List.mem_cons.1 hm with rfl|hm
   ·exact hn List.mem_cons_self
   ·rcases p1.pf j hm with h1|h1
    ·exact hn (List.mem_cons_of_mem _ h1)
    ·omega
  have s4:=ka.size;exact(kc.block j (by omega) (by simp;omega)).trans ((ka.block j (by omega) (by simp;omega)).trans ((p2.kb.block j (by omega) j1).trans ((k3.block j (by omega) (by simp)).trans (p1.kb.block j hj hn))))
 refine⟨hKD',gm.beside kAll (fun b hb=>?_),(p2.ps.kb ka (fun b hb hm=>?_)).kb kc (fun b hb hm=>?_),⟨⟨kAll.os.trans ch.kb.os,kAll.tape.trans ch.kb.tape,kAll.output.trans ch.kb.output,Nat.le_trans ch.kb.size kAll.size,fun j hj hn=>?_⟩,ch.ft,fun b hb=>?_,fun b hb=>?_,ch.e1,ch.e2,ch.e3⟩⟩
 ·rcases List.mem_cons.1 hb with rfl|hb
  ·exact hb9
  ·exact hdX b hb
 ·exact(np b hm).2 (List.mem_singleton.1 hb)
 ·exact(np b hm).1 (List.mem_singleton.1 hb)
 ·refine(kAll.block j (Nat.lt_of_lt_of_le hj ch.kb.size) (fun hm=>?_)).trans (ch.kb.block j hj (fun hm=>hn (List.mem_append.2 (.inl hm))));rcases List.mem_cons.1 hm with e|hm
  ·omega
  ·exact hn (List.mem_append.2 (.inr hm))
 ·have:=ch.kb.size;rcases p2.pf b hb with h1|h1
  ·rcases p1.pf b h1 with h2|h2
   ·exact .inl h2
   ·exact .inr (by omega)
  ·exact .inr (by omega)
 ·have key:b∈pft bp pv∨X3.heap.size≤b:=by
   rcases p2.pf b hb with h1|h1
   ·exact p1.pf b h1
   ·exact .inr (by omega)
  rcases key with h1|h1
  ·exact hdX b h1
  ·exact fun hm=>by have:=gm.footlt b hm;omega
set_option linter.unusedSimpArgs false in
set_option maxRecDepth 100000 in
set_option maxHeartbeats 8000000 in
theorem ghandp_any(i ld Bp bp:Nat)(pv:List Value)(ps:List (List Nat))(w:World)(G:GV)(h:GM w B c n G s)(hw:WF n s)(hT:TabAt w)(hTl:0<B)(hTp:0<Bp)(hi:i<n)(hld:ld<128)(hP:PS w Bp bp n pv ps)(hdj:∀b∈pft bp pv,b ∉ G.foot) :
  Calls Tryz.prog 176 #[.pointer (some ⟨G.bg,0,none⟩),.slice (some ⟨bp,0,none⟩) n n,.int .u64 (i:Int),.int .u64 (ld:Int)] w fun e w'=>e=.returned (.bool (s.handParts ps i ld).1)∧∃G' pv',GM w' B c n G' s∧PS w' Bp bp n pv' (s.handParts ps i ld).2∧PCh w w' G G' bp pv pv':=by
 have hn:=h.n40;have TT:Hid (∀ {W:World} {G':GV},GCh w W G G'→TabAt W):=hide (fun hc=>hT.kb hc.kb (fun hm=>by have:=(h.cells hm).1;omega));obtain⟨W0,hW0⟩:∃W0,W0=((w.alloc (.cells #[.slice (some ⟨bp,0,none⟩) n n] TPs)).alloc (.cells #[.int .u64 (i:Int)] TN)).alloc (.cells #[.int .u64 (ld:Int)] 232):=⟨_,rfl⟩;have k0:Kb [] w W0:=by rw[hW0];exact(((Kb.refl [] w).alloc _).alloc _).alloc _
 have z0:W0.heap.size=w.heap.size+3:=by rw[hW0];simp
 have x0:W0.heap[w.heap.size]?=some (.cells #[.slice (some ⟨bp,0,none⟩) n n] TPs (0,0)):=by rw[hW0];exact heap_old (heap_old (heap_new _ _) _) _
 have y0:W0.heap[w.heap.size+1]?=some (.cells #[.int .u64 (i:Int)] TN (0,0)):=by
  rw[hW0];have:=heap_new (w.alloc (.cells #[.slice (some ⟨bp,0,none⟩) n n] TPs)) (.cells #[.int .u64 (i:Int)] TN);rw[World.size_alloc]at this;exact heap_old this _
 have s0:W0.heap[w.heap.size+2]?=some (.cells #[.int .u64 (ld:Int)] 232 (0,0)):=by
  rw[hW0];have:=heap_new ((w.alloc (.cells #[.slice (some ⟨bp,0,none⟩) n n] TPs)).alloc (.cells #[.int .u64 (i:Int)] TN)) (.cells #[.int .u64 (ld:Int)] 232);rw[World.size_alloc,World.size_alloc]at this;exact this
 have nf:∀b,w.heap.size≤b→b ∉ G.foot:=fun b hb hm=>by have:=h.footlt b hm;omega
 have LP:LI w B c n G [] [(bp,pv.toArray,TP)] (pvts n pv ps Bp) w s G:=by
  refine⟨h,GCh.refl _ _,fun q hq=>?_,fun q hq=>?_,by simp⟩
  ·rw[List.mem_singleton.1 hq];exact⟨hP.hb,hdj _ (mem_pft.2 (.inl rfl))⟩
  ·unfold pvts at hq;obtain⟨j,hj,rfl⟩:=List.mem_map.1 hq;rw[List.mem_range]at hj;exact⟨hP.st j hj,fun g hg=>hdj g (hP.own hj hg)⟩
 have L0:=((((LP.fresh k0).1.addBox x0 (nf _ (Nat.le_refl _))).addBox y0 (nf _ (by omega))).addBox s0 (nf _ (by omega)));have P0:=hP.kb k0 (by simp);have HEm:=pempty_any Bp bp i pv.toArray TP _ _ W0 P0.hb (P0.get hi) (P0.st i hi);have cx0:W0.cell? ⟨w.heap.size,0,none⟩=some (.slice (some ⟨bp,0,none⟩) n n):=by rw[cell_at x0];rfl
 have cy0:W0.cell? ⟨w.heap.size+1,0,none⟩=some (.int .u64 (i:Int)):=by rw[cell_at y0];rfl
 have hin:(i:Int)<(n:Int):=by omega
 refine(callsIn_wide (n:=30)).1 ?_
 refine callsIn_of_wp_marks Tryz.func176 rfl trivial ?_ rfl;simp only[Tryz.ntmps176,List.size_toArray,List.length_cons,List.length_nil,Nat.reduceAdd,Nat.reduceSub,Array.replicate_succ,Array.replicate_zero,List.push_toArray,List.append_toArray,List.nil_append,List.cons_append];rw[hW0]at HEm cx0 cy0;have HL0:=hide L0;have HP0:=hide (And.intro P0 (And.intro hP hdj));clear L0 P0 LP x0 y0 s0 hP hdj;gi_wp2
 refine⟨trivial,?_⟩;refine(callsIn_wide.2 HEm).mono ?_
 clear HEm;rintro e w1 ⟨rfl,k1⟩;rw[← hW0]at k1;obtain⟨L1,_,_⟩:=HL0.out.fresh k1;have k01:=k0.trans k1;cases hem:(ps.getD i []).isEmpty
 ·have hz1:=k1.size;obtain⟨W9,hW9⟩:∃W9,W9=w1.alloc (.cells #[.bool false] 4):=⟨_,rfl⟩;have k9:Kb [] w1 W9:=by rw[hW9];exact(Kb.refl [] w1).alloc _
  have m9:W9.heap[w1.heap.size]?=some (.cells #[.bool false] 4 (0,0)):=by rw[hW9];exact heap_new _ _
  have L9:=((L1.fresh k9).1.addBox m9 (L1.newer (Nat.le_refl _)));have z9:W9.heap.size=w1.heap.size+1:=by rw[hW9];simp
  have HL9:=hide L9;clear L1 L9 m9;gi_wp2
  rw[← hW9];clear hW9 hW0 cx0 cy0;obtain⟨bxs,hbxs⟩:∃bxs:List (Nat × Array Value × TypeId),bxs=[(w1.heap.size,#[.bool false],4),(w.heap.size+2,#[.int .u64 (ld:Int)],232),(w.heap.size+1,#[.int .u64 (i:Int)],TN),(w.heap.size,#[.slice (some ⟨bp,0,none⟩) n n],TPs),(bp,pv.toArray,TP)]:=⟨_,rfl⟩;rw[← hbxs]at HL9;have HBo:=hide hbxs;clear hbxs;obtain⟨pvt,hpvt⟩:∃pvt,pvt=pvts n pv ps Bp:=⟨_,rfl⟩;rw[← hpvt]at HL9;have HPv:=hide hpvt;clear hpvt
  have HHr:Hid (∀(W:World) (G1:GV) (bx2:List (Nat × Array Value × TypeId)) (vts:List (Value × List Nat × Nat)),G1.cap=G.cap→LI w B c n G [] bx2 vts W s G1→(∀q∈bxs,q∈bx2)→Calls Tryz.prog 118 #[.pointer (some ⟨G.bg,0,none⟩),.int .u64 (i:Int)] W fun e W'=>∃G2 uo ul uc,e=.returned (.agg #[.slice uo ul uc])∧W.heap.size≤W'.heap.size∧G2.cap=G.cap∧(W'.cell? ⟨w.heap.size+1,0,none⟩=some (.int .u64 (i:Int))∧W'.cell? ⟨G.bg,5,none⟩=some (.slice (some ⟨G.bn,0,none⟩) n G.cap))∧LI w B c n G [] bx2 ((.slice uo ul uc,s.heirsOf i,w.heap.size)::vts) W' s G2):=by
   refine hide (fun W G1 bx2 vts hcap hL hb=>?_);have:=gheirs_cap i W G1 hL.gm (TT.out hL.ch) hTl hi hw.rep;rw[hL.ch.e1,hL.ch.e2,hcap]at this;refine this.mono ?_
   rintro e W' ⟨G2,v',p1,p2,p3,p4,p6⟩;obtain⟨uo,ul,uc,rfl⟩:=p4.set.form;have L9:=(hL.call p2 p3).1.addSet (p4.set.low hL.ch.kb.size) p4.out;exact⟨G2,uo,ul,uc,p1,p3.kb.size,p2.capOf L9.ch.e1 p6,⟨L9.cell (b:=w.heap.size+1) (v:=.int .u64 (i:Int)) (T:=TN) (hb _ (by rw[HBo.out];simp)),p6⟩,L9⟩
  have HSt:Hid (∀(W:World) (G1:GV) (bx2:List (Nat × Array Value × TypeId)) (vts:List (Value × List Nat × Nat)),G1.cap=G.cap→LI w B c n G [] bx2 vts W s G1→(∀q∈bxs,q∈bx2)→Calls Tryz.prog 157 #[.pointer (some ⟨G.bg,0,none⟩),.pointer (some ⟨G.bn,i*7+3,none⟩)] W fun e W'=>∃G2 uo ul uc,e=.returned (.agg #[.slice uo ul uc])∧W.heap.size≤W'.heap.size∧G2.cap=G.cap∧(W'.cell? ⟨w.heap.size+1,0,none⟩=some (.int .u64 (i:Int))∧W'.cell? ⟨G.bg,5,none⟩=some (.slice (some ⟨G.bn,0,none⟩) n G.cap))∧LI w B c n G [] bx2 ((.slice uo ul uc,s.standing (s.ld i),w.heap.size)::vts) W' s G2):=by
   refine hide (fun W G1 bx2 vts hcap hL hb=>?_);obtain⟨v,q,q',qs⟩:=hL.gm.get (k:=7*i+3) (by omega);have:=gstanding_cap G1.bn (7*i+3) _ TNd v B _ W G1 hL.gm (TT.out hL.ch) hTl hL.gm.hbn q' qs hw.rep;rw[hL.ch.e1,hL.ch.e2,hcap,show s.ss.getD (7*i+3) []=s.ld i from rfl,show 7*i+3=i*7+3 by omega]at this;refine this.mono ?_
   rintro e W' ⟨G2,v',p1,p2,p3,p4,p5,p6⟩;obtain⟨uo,ul,uc,rfl⟩:=p4.form;have L9:=(hL.call p2 p3).1.addSet (p4.low hL.ch.kb.size) p5;exact⟨G2,uo,ul,uc,p1,p3.kb.size,p2.capOf L9.ch.e1 p6,⟨L9.cell (b:=w.heap.size+1) (v:=.int .u64 (i:Int)) (T:=TN) (hb _ (by rw[HBo.out];simp)),p6⟩,L9⟩
  have L0d:=(HL9.out.fresh (W':=W9.drew) (Kb.refl [] W9).drew).1;have cg0:=HL9.out.cell (b:=w.heap.size+1) (v:=.int .u64 (i:Int)) (T:=TN) (by rw[HBo.out];simp);have cn0:=HL9.out.gm.reads.2.2.2.2.2.1;have hbpl:bp<w.heap.size:=lt_of_heap HP0.out.2.1.hb;have hZb:∀q∈bxs,q.1<W9.heap.size:=by
   intro q hq;rw[HBo.out]at hq;simp only[List.mem_cons,List.not_mem_nil,or_false]at hq;rcases hq with rfl|rfl|rfl|rfl|rfl<;>(dsimp only;omega)
  have hZw:w.heap.size≤W9.heap.size:=by omega
  have hd0:W9.drew.heap.size=W9.heap.size:=rfl;have hbgl:G.bg<w.heap.size:=lt_of_heap h.hbg;have hz3:w.heap.size+4≤W9.heap.size:=by omega
  have m1:¬W9.heap.size=w.heap.size+1:=by omega
  have m9:¬W9.heap.size=w.heap.size:=by omega
  have m10:¬w.heap.size=W9.heap.size:=by omega
  have m2:¬w.heap.size+1=W9.heap.size:=by omega
  have m3:¬W9.heap.size=G.bg:=by omega
  have m4:¬G.bg=W9.heap.size:=by omega
  have m5:¬W9.heap.size+1=w.heap.size+1:=by omega
  have m6:¬w.heap.size+1=W9.heap.size+1:=by omega
  have m7:¬W9.heap.size+1=G.bg:=by omega
  have m8:¬G.bg=W9.heap.size+1:=by omega
  have HZ0:=hide (And.intro hz3 hbgl);have HW1:Hid (w.heap.size+3≤w1.heap.size):=hide (by omega);clear z9 z0 hz1 k9 k0 k01 k1 hz3
  refine wpIn_nrm (K:=fun a X=>∃b6 b7,HpK w B c n G s (s.heirsOf i) (s.standing (s.ld i)) bxs pvt b6 b7 W9.heap.size X∧∃y18 y19 y20 y21 y22 y23 y24 y25 y26 y27 y28 y29,a={ tmps:=#[.pointer (some ⟨G.bg,0,none⟩),.slice (some ⟨bp,0,none⟩) n n,.int .u64 (i:Int),.int .u64 (ld:Int),undef,.pointer (some ⟨w.heap.size,0,none⟩),.pointer (some ⟨w.heap.size+1,0,none⟩),.pointer (some ⟨w.heap.size+1+1,0,none⟩),.bool false,.pointer (some ⟨w1.heap.size,0,none⟩),.pointer (some ⟨b6,0,none⟩),.pointer (some ⟨b7,0,none⟩),undef,undef,.slice (some ⟨bp,0,none⟩) n n,.int .u64 (i:Int),.pointer (some ⟨bp,i,none⟩),.bool false,y18,y19,y20,y21,y22,y23,y24,y25,y26,y27,y28,y29,undef,undef,undef,undef,undef,undef,undef,undef,undef,undef,undef,undef,undef,undef,undef,undef,undef,undef,undef,undef,undef,undef,undef],defers:=[] }) ?_ ?_
  ·go_region_held3 (fun W=>W.cell? ⟨w.heap.size+1,0,none⟩=some (.int .u64 (i:Int))∧W.cell? ⟨G.bg,5,none⟩=some (.slice (some ⟨G.bn,0,none⟩) n G.cap)) (go_keep)
    (first
    |(with_reducible (show Calls Tryz.prog 118 #[_,_] _ _);refine(HHr.out _ G _ pvt rfl (by first|with_reducible exact L0d|with_reducible exact((HL9.out.box _).fresh (Kb.refl [] _).drew).1|with_reducible exact(((HL9.out.box _).box _).fresh (Kb.refl [] _).drew).1) (by intro q hq;simp[hq])).mono ?_;rintro e X1 ⟨G1,uo,ul,uc,rfl,hs1,hc1,hS1,L1⟩;obtain⟨hz3,hbgl⟩:=HZ0.out;(try simp only[World.size_alloc]at hs1);(try rw[World.size_drew]at hs1);(try simp only[World.size_alloc]at hs1);have HS1:=hide hs1;(try have:¬X1.heap.size=w.heap.size+1:=by omega);(try have:¬X1.heap.size=w.heap.size:=by omega);(try have:¬w.heap.size=X1.heap.size:=by omega);(try have:¬w.heap.size+1=X1.heap.size:=by omega);(try have:¬X1.heap.size+1=w.heap.size+1:=by omega);(try have:¬w.heap.size+1=X1.heap.size+1:=by omega);(try have:¬X1.heap.size=G.bg:=by omega);(try have:¬G.bg=X1.heap.size:=by omega);(try have:¬X1.heap.size+1=G.bg:=by omega);(try have:¬G.bg=X1.heap.size+1:=by omega);(try have:¬X1.heap.size=W9.heap.size:=by omega);(try have:¬W9.heap.size=X1.heap.size:=by omega);(try have:¬X1.heap.size+1=W9.heap.size:=by omega);(try have:¬W9.heap.size=X1.heap.size+1:=by omega);(try have:¬X1.heap.size=W9.heap.size+1:=by omega);(try have:¬W9.heap.size+1=X1.heap.size:=by omega);(try have:¬X1.heap.size+1=W9.heap.size+1:=by omega);(try have:¬W9.heap.size+1=X1.heap.size+1:=by omega);clear L0d hz3)
    | (with_reducible (show Calls Tryz.prog 157 #[_,_] _ _);refine(HSt.out _ G1 _ _ hc1 (by first|with_reducible exact L1|with_reducible exact(L1).box _|with_reducible exact((L1).box _).box _) (by intro q hq;simp[hq])).mono ?_;rintro e X2 ⟨G2,xo,xl,xc,rfl,hs2,hc2,hS2,L2⟩;obtain⟨e1,e2,e3,e4⟩:=L2.boxF;obtain⟨hz3,hbgl⟩:=HZ0.out;have hs1':=HS1.out;(try simp only[World.size_alloc]at hs2);(try have:¬X2.heap.size=w.heap.size+1:=by omega);(try have:¬X2.heap.size=w.heap.size:=by omega);(try have:¬w.heap.size=X2.heap.size:=by omega);(try have:¬w.heap.size+1=X2.heap.size:=by omega);(try have:¬X2.heap.size+1=w.heap.size+1:=by omega);(try have:¬w.heap.size+1=X2.heap.size+1:=by omega);(try have:¬X2.heap.size=G.bg:=by omega);(try have:¬G.bg=X2.heap.size:=by omega);(try have:¬X2.heap.size+1=G.bg:=by omega);(try have:¬G.bg=X2.heap.size+1:=by omega);(try have:¬X2.heap.size=X1.heap.size:=by omega);(try have:¬X1.heap.size=X2.heap.size:=by omega);(try have:¬X2.heap.size+1=X1.heap.size:=by omega);(try have:¬X1.heap.size=X2.heap.size+1:=by omega);(try have:¬X2.heap.size=X1.heap.size+1:=by omega);(try have:¬X1.heap.size+1=X2.heap.size:=by omega);(try have:¬X2.heap.size+1=X1.heap.size+1:=by omega);(try have:¬X1.heap.size+1=X2.heap.size+1:=by omega);(try have:¬X2.heap.size=W9.heap.size:=by omega);(try have:¬W9.heap.size=X2.heap.size:=by omega);(try have:¬X2.heap.size+1=W9.heap.size:=by omega);(try have:¬W9.heap.size=X2.heap.size+1:=by omega);(try have:¬X2.heap.size=W9.heap.size+1:=by omega);(try have:¬W9.heap.size+1=X2.heap.size:=by omega);(try have:¬X2.heap.size+1=W9.heap.size+1:=by omega);(try have:¬W9.heap.size+1=X2.heap.size+1:=by omega);clear L1 hz3 hs1'))
   all_goals have hz3:=HZ0.out.1
   all_goals (try have hs1':=HS1.out)
   ·exact⟨X2.heap.size,X2.heap.size+1,hp_fin L2 (by intro q hq;simp[hq]) hZb hZw (kb_new2 _ _ _ _ _) (heap_old (heap_new _ _) _) (heap_new2 _ _ _) (.inl (Nat.le_refl _)) (.inl (by omega)) (by omega) (by omega) (by omega),_,_,_,_,_,_,_,_,_,_,_,_,rfl⟩
   ·exact⟨X2.heap.size+1,X2.heap.size,hp_fin L2 (by intro q hq;simp[hq]) hZb hZw (kb_new2 _ _ _ _ _) (heap_new2 _ _ _) (heap_old (heap_new _ _) _) (.inl (by omega)) (.inl (Nat.le_refl _)) (by omega) (by omega) (by omega),_,_,_,_,_,_,_,_,_,_,_,_,rfl⟩
   ·exact⟨X1.heap.size,X2.heap.size,hp_A L2 (by intro q hq;simp[hq]) hZb hZw (by simp) (by omega) (by omega),_,_,_,_,_,_,_,_,_,_,_,_,rfl⟩
   ·exact⟨X1.heap.size,X1.heap.size+1,hp_B L2 (by intro q hq;simp[hq]) hZb hZw (by simp) (by simp) (by omega) (by omega) (by omega),_,_,_,_,_,_,_,_,_,_,_,_,rfl⟩
   ·exact⟨X2.heap.size,X1.heap.size,hp_C L2 (by intro q hq;simp[hq]) hZb hZw (by simp) (by omega) (by omega),_,_,_,_,_,_,_,_,_,_,_,_,rfl⟩
   ·exact⟨X1.heap.size+1,X1.heap.size,hp_B L2 (by intro q hq;simp[hq]) hZb hZw (by simp) (by simp) (by omega) (by omega) (by omega),_,_,_,_,_,_,_,_,_,_,_,_,rfl⟩
   ·exact⟨W9.heap.size,X2.heap.size,hp_A L2 (by intro q hq;simp[hq]) hZb hZw (by simp) (by omega) (by omega),_,_,_,_,_,_,_,_,_,_,_,_,rfl⟩
   ·exact⟨W9.heap.size,X1.heap.size,hp_B L2 (by intro q hq;simp[hq]) hZb hZw (by simp) (by simp) (by omega) (by omega) (by omega),_,_,_,_,_,_,_,_,_,_,_,_,rfl⟩
   ·exact⟨W9.heap.size,W9.heap.size+1,hp_B L2 (by intro q hq;simp[hq]) hZb hZw (by simp) (by simp) (by omega) (by omega) (by omega),_,_,_,_,_,_,_,_,_,_,_,_,rfl⟩
   ·exact⟨X2.heap.size,W9.heap.size,hp_C L2 (by intro q hq;simp[hq]) hZb hZw (by simp) (by omega) (by omega),_,_,_,_,_,_,_,_,_,_,_,_,rfl⟩
   ·exact⟨X1.heap.size,W9.heap.size,hp_B L2 (by intro q hq;simp[hq]) hZb hZw (by simp) (by simp) (by omega) (by omega) (by omega),_,_,_,_,_,_,_,_,_,_,_,_,rfl⟩
   ·exact⟨W9.heap.size+1,W9.heap.size,hp_B L2 (by intro q hq;simp[hq]) hZb hZw (by simp) (by simp) (by omega) (by omega) (by omega),_,_,_,_,_,_,_,_,_,_,_,_,rfl⟩
  rintro a X ⟨b6,b7,⟨l6,l7,hne67,vl,vs,G2,LX⟩,y18,y19,y20,y21,y22,y23,y24,y25,y26,y27,y28,y29,rfl⟩;rw[HPv.out]at LX;obtain⟨P0,hP,hdj⟩:=HP0.out;have q6:=(LX.bx (b6,#[vl],TSet) (by simp)).1;have sl:=(LX.vt (vl,s.heirsOf i,w.heap.size) (by simp)).1;have bpm:(bp,pv.toArray,TP)∈(b7,#[vs],TSet)::(b6,#[vl],TSet)::bxs:=by rw[HBo.out];simp
  have pvm:∀j,j<n→(pv.getD j nilV,ps.getD j [],Bp)∈(vl,s.heirsOf i,w.heap.size)::(vs,s.standing (s.ld i),w.heap.size)::pvts n pv ps Bp:=fun j hj=>List.mem_cons_of_mem _ (List.mem_cons_of_mem _ (List.mem_map.2 ⟨j,List.mem_range.2 hj,rfl⟩))
  have PX:PS X Bp bp n pv ps:=⟨(LX.bx _ bpm).1,hP.lp,hP.ln,hP.lq,fun j hj=>(LX.vt _ (pvm j hj)).1,hP.ap⟩;have hdX:∀b∈pft bp pv,b ∉ G2.foot:=by
   intro b hb;rcases mem_pft.1 hb with rfl|⟨j,hj,e⟩
   ·exact(LX.bx _ bpm).2
   ·exact(LX.vt _ (pvm j (by rw[← hP.ln];exact hj))).2 b e
  have HA:=all_any w.heap.size b6 0 #[vl] TSet vl (s.heirsOf i) X q6 rfl sl;have hplt:∀b∈pft bp pv,Bp≤b∧b<w.heap.size:=fun b hb=>⟨(hP.cells hb).1,(hP.cells hb).2.1⟩
  have hw1:w.heap.size≤w1.heap.size:=by
   have:=lt_of_heap (LX.bx (w.heap.size+2,#[.int .u64 (ld:Int)],232) (by rw[HBo.out];simp)).1;have h9:=HZ0.out.1;have:=HW1.out;omega
  have hw1X:w1.heap.size<X.heap.size:=lt_of_heap (LX.bx (w1.heap.size,#[.bool false],4) (by rw[HBo.out];simp)).1;have HLX:=hide (And.intro LX (And.intro PX hdX));clear LX PX hdX q6 sl bpm pvm P0 hP hdj L0d cg0 cn0 hZb m1 m2 m3 m4 m5 m6 m7 m8 m9 m10 HHr HSt hd0;gi_wp2
  refine⟨trivial,?_⟩;refine(callsIn_wide.2 HA).mono ?_
  clear HA;rintro e X3 ⟨bw,va,rfl,hbw,hbwc,hva,k3⟩;obtain⟨LX,PX,hdX⟩:=HLX.out;have L3:=(LX.fresh k3).1;have hX3:=k3.size;have hwB:=h.hB;have I0:HpI X3 Bp bp n pv w1.heap.size (false,ps) pv X3:=⟨PX.kb k3 (by simp),Kb.refl _ _,fun b hb=>.inl hb,(L3.bx (w1.heap.size,#[.bool false],4) (by rw[HBo.out];simp)).1,fun hm=>by have:=(hplt _ hm).2;omega,by omega⟩;obtain⟨LB,hLB⟩:∃LB,LB=0::va.ownBlock.toList:=⟨_,rfl⟩;have hLBp:∀b∈LB,b<X3.heap.size∧b≠w1.heap.size∧b ∉ pft bp pv:=by
   intro b hb;rw[hLB]at hb;rcases List.mem_cons.1 hb with rfl|hb
   ·exact⟨by omega,by omega,fun hm=>by have:=(hplt _ hm).1;omega⟩
   ·simp at hb;have:=(hva.lt hb).1;exact⟨(hva.lt hb).2,by omega,fun hm=>by have:=(hplt _ hm).2;have:=LX.ch.kb.size;omega⟩
  have hLBlt:∀b∈LB,b<X3.heap.size:=fun b hb=>(hLBp b hb).1
  have hst:=all_stops 29 bw X.heap.size va (s.heirsOf i) LB X3 hbwc hva (TT.out L3.ch) (fun g hg=>by rw[hLB];simp[hg]) (by rw[hLB];simp);have x5:=(L3.bx (w.heap.size,#[.slice (some ⟨bp,0,none⟩) n n],TPs) (by rw[HBo.out];simp)).1;have x6:=(L3.bx (w.heap.size+1,#[.int .u64 (i:Int)],TN) (by rw[HBo.out];simp)).1;have HI0:=hide (And.intro I0 (And.intro L3 (And.intro x5 x6)));have hLXs:=LX.ch.kb.size;clear LX PX L3 I0 x5 x6 hbwc hva k3 hLB;gi_wp2
  refine wpIn_rangeFunc_ownH (α:=Mem (s.heirsOf i)) (hro:=rfl) (h1:=by omega) (gf:=127) (lb:=#[.pointer (some ⟨bw,0,none⟩)]) rfl trivial (enters_of Tryz.func127 (by kernel_rfl) rfl) hst (fun h1 h2=>h1.trans h2) (kpB_b hLBlt) (Below.refl _ _) (fun _=>rfl)
   (fun pre W=>HpJ X3 Bp bp n pv w1.heap.size ((valsM pre).foldl (hstep i) (false,ps)) W)
   (fun _ _ _=>False) ?hI (fun _ _ _ _ _ hs _ _=>hs) ⟨pv,HI0.out.1⟩
   (fun x a' _=>a'={ tmps:=#[.pointer (some ⟨G.bg,0,none⟩),.slice (some ⟨bp,0,none⟩) n n,.int .u64 (i:Int),.int .u64 (ld:Int),undef,.pointer (some ⟨w.heap.size,0,none⟩),.pointer (some ⟨w.heap.size+1,0,none⟩),.pointer (some ⟨w.heap.size+1+1,0,none⟩),.bool false,.pointer (some ⟨w1.heap.size,0,none⟩),.pointer (some ⟨b6,0,none⟩),.pointer (some ⟨b7,0,none⟩),.int .u64 (x.1:Int),undef,.slice (some ⟨bp,0,none⟩) n n,.int .u64 (i:Int),.pointer (some ⟨bp,i,none⟩),.bool false,y18,y19,y20,y21,y22,y23,y24,y25,y26,y27,y28,y29,.func (.func 127) #[] #[.pointer (some ⟨bw,0,none⟩)],.int .u64 (x.1:Int),undef,undef,undef,undef,undef,undef,undef,undef,undef,undef,undef,undef,undef,undef,undef,undef,undef,undef,undef,undef,undef],defers:=[] }) ?hAx ?assign ?body ?done ?stop
  case hI=>
   rintro pre W W' row ⟨pv',p1⟩ hg hr;exact⟨pv',p1.own hg hr⟩
  case hAx=>
   rintro x a' _ W W' row rfl hg hr;rfl
  case assign=>
   rintro l pre x W K hi hK;dsimp only[encN,Array.zip,Array.foldl];gi_wp2
   exact hK _ _ (KeepsFrom.refl _ _) (KpB.refl _ _) hi rfl
  case stop=>
   rintro D cc pre X _ _ hF _;exact hF.elim
  case body=>
   rintro l pre ⟨x,hxT⟩ a' W hl ⟨r,hr⟩ ⟨pv',p1⟩ rfl hlen;have hx:=hw.heirsLt hxT;have hxi:x≠i:=by
    obtain⟨_,h2,_⟩:=mem_heirsOf.1 hxT;exact h2
   have e9:(valsM (pre++[(⟨x,hxT⟩:Mem (s.heirsOf i))])).foldl (hstep i) (false,ps)=hstep i ((valsM pre).foldl (hstep i) (false,ps)) x:=by unfold valsM;rw[List.map_append,List.foldl_append];rfl
   have HE9:=hide e9;clear e9;generalize (valsM pre).foldl (hstep i) (false,ps)=z at *;have hw3:=HW1.out;have c5:W.cell? ⟨w.heap.size,0,none⟩=some (.slice (some ⟨bp,0,none⟩) n n):=by
    rw[cell_at (p1.kb.heap HI0.out.2.2.1 (fun hm=>?_))]
    ·rfl
    ·rcases List.mem_cons.1 hm with e|hm
     ·omega
     ·have:=(hplt _ hm).2;omega
   have c6:W.cell? ⟨w.heap.size+1,0,none⟩=some (.int .u64 (i:Int)):=by
    rw[cell_at (p1.kb.heap HI0.out.2.2.2 (fun hm=>?_))]
    ·rfl
    ·rcases List.mem_cons.1 hm with e|hm
     ·omega
     ·have:=(hplt _ hm).2;omega
   have pd:=p1.beside (Kb.refl [] W).drew (by simp);have hxn:(x:Int)<(n:Int):=by omega
   have HUn:=punite_any Bp bp x bp i pv'.toArray pv'.toArray TP TP _ _ _ _ W.drew (by have:=pd.ps.lp;have:=lt_of_heap pd.ps.hb;omega) (by decide) (by decide) pd.ps.hb (pd.ps.get hx) pd.ps.hb (pd.ps.get hi) (.inr (Ne.symm hxi)) (pd.ps.st x hx) (pd.ps.st i hi) (pd.ps.ap x i hx hi hxi);have HD:Hid (HpI X3 Bp bp n pv w1.heap.size z pv' W.drew∧∀b∈LB,b<W.drew.heap.size∧b≠w1.heap.size∧b ∉ pft bp pv'):=by
    refine hide ⟨pd,fun b hb=>⟨Nat.lt_of_lt_of_le (hLBlt b hb) p1.kb.size,(hLBp b hb).2.1,fun hm=>?_⟩⟩;rcases p1.pf b hm with h1|h1
    ·exact(hLBp b hb).2.2 h1
    ·have:=hLBlt b hb;omega
   clear pd p1;cases hnew:newS (z.2.getD x []) (z.2.getD i [])<;>rw[hnew]at HUn
   ·have hst1:hstep i z x=(z.1,z.2.set x (uniS (z.2.getD x []) (z.2.getD i []))):=by unfold hstep;rw[hnew];rfl
    have HPut:Hid (∀W1 v',SetCh W.drew W1 bp x pv'.toArray TP (pv'.getD x nilV) v'→SetV W1 Bp v' (uniS (z.2.getD x []) (z.2.getD i []))→HpJ X3 Bp bp n pv w1.heap.size (hstep i z x) (W1.setCell ⟨w1.heap.size,0,none⟩ (.bool (z.1)))∧KeepsFrom X3.heap.size W (W1.setCell ⟨w1.heap.size,0,none⟩ (.bool (z.1)))∧KpB LB W (W1.setCell ⟨w1.heap.size,0,none⟩ (.bool (z.1)))∧W1.heap[w1.heap.size]?=some (.cells #[.bool z.1] 4 (0,0))):=by
     refine hide (fun W1 v' hC hS=>?_);obtain⟨a1,a2,a3,a4⟩:=HD.out.1.put hx hC hS (z.1) HD.out.2;rw[hst1];exact⟨⟨_,a1⟩,(kb_keepsFrom (L:=[]) (Kb.refl [] W).drew (by simp) _).trans (a2 _),fun b hb=>(a3 b hb),a4⟩
    clear hst1;gi_wp2
    refine wpIn_nrmG (K:=fun a Y=>(HpJ X3 Bp bp n pv w1.heap.size (hstep i z x) Y∧KeepsFrom X3.heap.size W Y∧KpB LB W Y)∧∃z32 z33 z34 z35 z36 z37 z38 z39 z40 z41,a={ tmps:=#[.pointer (some ⟨G.bg,0,none⟩),.slice (some ⟨bp,0,none⟩) n n,.int .u64 (i:Int),.int .u64 (ld:Int),undef,.pointer (some ⟨w.heap.size,0,none⟩),.pointer (some ⟨w.heap.size+1,0,none⟩),.pointer (some ⟨w.heap.size+1+1,0,none⟩),.bool false,.pointer (some ⟨w1.heap.size,0,none⟩),.pointer (some ⟨b6,0,none⟩),.pointer (some ⟨b7,0,none⟩),.int .u64 (x:Int),undef,.slice (some ⟨bp,0,none⟩) n n,.int .u64 (i:Int),.pointer (some ⟨bp,i,none⟩),.bool false,y18,y19,y20,y21,y22,y23,y24,y25,y26,y27,y28,y29,.func (.func 127) #[] #[.pointer (some ⟨bw,0,none⟩)],.int .u64 (x:Int),z32,z33,z34,z35,z36,z37,z38,z39,z40,z41,undef,undef,undef,undef,undef,undef,undef,undef,undef,undef,undef],defers:=[] }) ?_ ?_
    ·skip
     refine wpIn_region_any (by kernel_rfl) ?_
     (try (change wpAnyIn _ _ _ _ _ _ _ _ _ (World.drew _)))
     change wpAnyIn (Fence.wide.inRound l) _ _ _ _ _ _ _ _ _;refine wpAnyIn_round (by kernel_rfl) _ _ _ _ ?_
     refine wpAnyIn_take (i:=1) (v:=?_) rfl rfl (by kernel_rfl) (by kernel_rfl) (by kernel_rfl) (fun _ _ _ h=>h) ⟨Or.inl ⟨by rfl,?_⟩,fun _=>rfl⟩ ?_
     rotate_left
     ·(intro w;go_simp;try (with_reducible rfl))
     try simp only[Act.put,List.setIfInBounds_toArray,List.set_cons_zero,List.set_cons_succ]
     refine wpAnyIn_ready (rs:=[0,3,4]) (by kernel_rfl) (by simp) ?_
     refine AllReadyIn.cons rfl (fun K hK=>?_) ?_
     ·go_simp
      refine hK _ _ ?_
      clear hK K;refine wpAnyIn_take (i:=2) (v:=?_) rfl rfl (by kernel_rfl) (by kernel_rfl) (by kernel_rfl) (fun _ _ _ h=>h) ⟨Or.inl ⟨by rfl,?_⟩,fun _=>rfl⟩ ?_
      rotate_left
      ·(intro w;go_simp;try (with_reducible rfl))
      try simp only[Act.put,List.setIfInBounds_toArray,List.set_cons_zero,List.set_cons_succ]
      refine wpAnyIn_ready (rs:=[3,4]) (by kernel_rfl) (by simp) ?_
      refine AllReadyIn.cons rfl (fun K hK=>?_) ?_
      ·go_simp
       refine hK _ _ ?_
       clear hK K;refine wpAnyIn_ready (rs:=[4]) (by kernel_rfl) (by simp) ?_
       refine AllReadyIn.cons rfl (fun K hK=>?_) ?_
       ·go_simp
        refine hK _ _ ?_
        clear hK K;refine wpAnyIn_take (i:=5) (v:=?_) rfl rfl (by kernel_rfl) (by kernel_rfl) (by kernel_rfl) (fun _ _ _ h=>h) ⟨Or.inl ⟨by rfl,?_⟩,fun _=>rfl⟩ ?_
        rotate_left
        ·(intro w;go_simp;try (with_reducible rfl))
        try simp only[Act.put,List.setIfInBounds_toArray,List.set_cons_zero,List.set_cons_succ]
        refine wpAnyIn_ready (rs:=[6]) (by kernel_rfl) (by simp) ?_
        refine AllReadyIn.cons rfl (fun K hK=>?_) ?_
        ·go_simp
         refine⟨trivial,?_⟩;refine(callsIn_wide.2 HUn).mono ?_
         clear HUn;rintro e W1 ⟨rfl,v1,hS1,hC1⟩;obtain⟨g1,g2,g3,g4⟩:=HPut.out W1 v1 hC1 hS1;have c9:W1.cell? ⟨w1.heap.size,0,none⟩=some (.bool z.1):=by rw[cell_at g4];rfl
         have f9:W1.frozen? ⟨w1.heap.size,0,none⟩=false:=frozen_at g4 0;have HG:=hide (And.intro g1 (And.intro g2 g3));clear g1 g2 g3 g4 hS1 hC1;refine hK _ _ ?_
         clear hK K;refine wpAnyIn_take (i:=7) (v:=?_) rfl rfl (by kernel_rfl) (by kernel_rfl) (by kernel_rfl) (fun _ _ _ h=>h) ⟨Or.inl ⟨by rfl,?_⟩,fun _=>rfl⟩ ?_
         rotate_left
         ·(intro w;go_simp;try (with_reducible rfl))
         try simp only[Act.put,List.setIfInBounds_toArray,List.set_cons_zero,List.set_cons_succ]
         refine wpAnyIn_ready (rs:=[8]) (by kernel_rfl) (by simp) ?_
         refine AllReadyIn.cons rfl (fun K hK=>?_) ?_
         ·go_simp
          refine hK _ _ ?_
          clear hK K;refine wpAnyIn_take (i:=9) (v:=?_) rfl rfl (by kernel_rfl) (by kernel_rfl) (by kernel_rfl) (fun _ _ _ h=>h) ⟨Or.inl ⟨by rfl,?_⟩,fun _=>rfl⟩ ?_
          rotate_left
          ·(intro w;go_simp;try (with_reducible rfl))
          try simp only[Act.put,List.setIfInBounds_toArray,List.set_cons_zero,List.set_cons_succ]
          refine wpAnyIn_ready (rs:=[10]) (by kernel_rfl) (by simp) ?_
          refine AllReadyIn.cons rfl (fun K hK=>?_) ?_
          ·go_simp
           refine hK _ _ ?_
           clear hK K;refine wpAnyIn_done (by kernel_rfl) ?_ _;exact⟨⟨HG.out.1,HG.out.2.1,HG.out.2.2⟩,_,_,_,_,_,_,_,_,_,_,rfl⟩
          exact AllReadyIn.nil
         exact AllReadyIn.nil
        exact AllReadyIn.nil
       exact AllReadyIn.nil
      refine AllReadyIn.cons rfl (fun K hK=>?_) ?_
      ·go_simp
       refine hK _ _ ?_
       clear hK K;refine wpAnyIn_ready (rs:=[3]) (by kernel_rfl) (by simp) ?_
       refine AllReadyIn.cons rfl (fun K hK=>?_) ?_
       ·go_simp
        refine hK _ _ ?_
        clear hK K;refine wpAnyIn_take (i:=5) (v:=?_) rfl rfl (by kernel_rfl) (by kernel_rfl) (by kernel_rfl) (fun _ _ _ h=>h) ⟨Or.inl ⟨by rfl,?_⟩,fun _=>rfl⟩ ?_
        rotate_left
        ·(intro w;go_simp;try (with_reducible rfl))
        try simp only[Act.put,List.setIfInBounds_toArray,List.set_cons_zero,List.set_cons_succ]
        refine wpAnyIn_ready (rs:=[6]) (by kernel_rfl) (by simp) ?_
        refine AllReadyIn.cons rfl (fun K hK=>?_) ?_
        ·go_simp
         refine⟨trivial,?_⟩;refine(callsIn_wide.2 HUn).mono ?_
         clear HUn;rintro e W1 ⟨rfl,v1,hS1,hC1⟩;obtain⟨g1,g2,g3,g4⟩:=HPut.out W1 v1 hC1 hS1;have c9:W1.cell? ⟨w1.heap.size,0,none⟩=some (.bool z.1):=by rw[cell_at g4];rfl
         have f9:W1.frozen? ⟨w1.heap.size,0,none⟩=false:=frozen_at g4 0;have HG:=hide (And.intro g1 (And.intro g2 g3));clear g1 g2 g3 g4 hS1 hC1;refine hK _ _ ?_
         clear hK K;refine wpAnyIn_take (i:=7) (v:=?_) rfl rfl (by kernel_rfl) (by kernel_rfl) (by kernel_rfl) (fun _ _ _ h=>h) ⟨Or.inl ⟨by rfl,?_⟩,fun _=>rfl⟩ ?_
         rotate_left
         ·(intro w;go_simp;try (with_reducible rfl))
         try simp only[Act.put,List.setIfInBounds_toArray,List.set_cons_zero,List.set_cons_succ]
         refine wpAnyIn_ready (rs:=[8]) (by kernel_rfl) (by simp) ?_
         refine AllReadyIn.cons rfl (fun K hK=>?_) ?_
         ·go_simp
          refine hK _ _ ?_
          clear hK K;refine wpAnyIn_take (i:=9) (v:=?_) rfl rfl (by kernel_rfl) (by kernel_rfl) (by kernel_rfl) (fun _ _ _ h=>h) ⟨Or.inl ⟨by rfl,?_⟩,fun _=>rfl⟩ ?_
          rotate_left
          ·(intro w;go_simp;try (with_reducible rfl))
          try simp only[Act.put,List.setIfInBounds_toArray,List.set_cons_zero,List.set_cons_succ]
          refine wpAnyIn_ready (rs:=[10]) (by kernel_rfl) (by simp) ?_
          refine AllReadyIn.cons rfl (fun K hK=>?_) ?_
          ·go_simp
           refine hK _ _ ?_
           clear hK K;refine wpAnyIn_done (by kernel_rfl) ?_ _;exact⟨⟨HG.out.1,HG.out.2.1,HG.out.2.2⟩,_,_,_,_,_,_,_,_,_,_,rfl⟩
          exact AllReadyIn.nil
         exact AllReadyIn.nil
        exact AllReadyIn.nil
       exact AllReadyIn.nil
      exact AllReadyIn.nil
     refine AllReadyIn.cons rfl (fun K hK=>?_) ?_
     ·go_simp
      refine hK _ _ ?_
      clear hK K;refine wpAnyIn_ready (rs:=[0,4]) (by kernel_rfl) (by simp) ?_
      refine AllReadyIn.cons rfl (fun K hK=>?_) ?_
      ·go_simp
       refine hK _ _ ?_
       clear hK K;refine wpAnyIn_take (i:=2) (v:=?_) rfl rfl (by kernel_rfl) (by kernel_rfl) (by kernel_rfl) (fun _ _ _ h=>h) ⟨Or.inl ⟨by rfl,?_⟩,fun _=>rfl⟩ ?_
       rotate_left
       ·(intro w;go_simp;try (with_reducible rfl))
       try simp only[Act.put,List.setIfInBounds_toArray,List.set_cons_zero,List.set_cons_succ]
       refine wpAnyIn_ready (rs:=[4]) (by kernel_rfl) (by simp) ?_
       refine AllReadyIn.cons rfl (fun K hK=>?_) ?_
       ·go_simp
        refine hK _ _ ?_
        clear hK K;refine wpAnyIn_take (i:=5) (v:=?_) rfl rfl (by kernel_rfl) (by kernel_rfl) (by kernel_rfl) (fun _ _ _ h=>h) ⟨Or.inl ⟨by rfl,?_⟩,fun _=>rfl⟩ ?_
        rotate_left
        ·(intro w;go_simp;try (with_reducible rfl))
        try simp only[Act.put,List.setIfInBounds_toArray,List.set_cons_zero,List.set_cons_succ]
        refine wpAnyIn_ready (rs:=[6]) (by kernel_rfl) (by simp) ?_
        refine AllReadyIn.cons rfl (fun K hK=>?_) ?_
        ·go_simp
         refine⟨trivial,?_⟩;refine(callsIn_wide.2 HUn).mono ?_
         clear HUn;rintro e W1 ⟨rfl,v1,hS1,hC1⟩;obtain⟨g1,g2,g3,g4⟩:=HPut.out W1 v1 hC1 hS1;have c9:W1.cell? ⟨w1.heap.size,0,none⟩=some (.bool z.1):=by rw[cell_at g4];rfl
         have f9:W1.frozen? ⟨w1.heap.size,0,none⟩=false:=frozen_at g4 0;have HG:=hide (And.intro g1 (And.intro g2 g3));clear g1 g2 g3 g4 hS1 hC1;refine hK _ _ ?_
         clear hK K;refine wpAnyIn_take (i:=7) (v:=?_) rfl rfl (by kernel_rfl) (by kernel_rfl) (by kernel_rfl) (fun _ _ _ h=>h) ⟨Or.inl ⟨by rfl,?_⟩,fun _=>rfl⟩ ?_
         rotate_left
         ·(intro w;go_simp;try (with_reducible rfl))
         try simp only[Act.put,List.setIfInBounds_toArray,List.set_cons_zero,List.set_cons_succ]
         refine wpAnyIn_ready (rs:=[8]) (by kernel_rfl) (by simp) ?_
         refine AllReadyIn.cons rfl (fun K hK=>?_) ?_
         ·go_simp
          refine hK _ _ ?_
          clear hK K;refine wpAnyIn_take (i:=9) (v:=?_) rfl rfl (by kernel_rfl) (by kernel_rfl) (by kernel_rfl) (fun _ _ _ h=>h) ⟨Or.inl ⟨by rfl,?_⟩,fun _=>rfl⟩ ?_
          rotate_left
          ·(intro w;go_simp;try (with_reducible rfl))
          try simp only[Act.put,List.setIfInBounds_toArray,List.set_cons_zero,List.set_cons_succ]
          refine wpAnyIn_ready (rs:=[10]) (by kernel_rfl) (by simp) ?_
          refine AllReadyIn.cons rfl (fun K hK=>?_) ?_
          ·go_simp
           refine hK _ _ ?_
           clear hK K;refine wpAnyIn_done (by kernel_rfl) ?_ _;exact⟨⟨HG.out.1,HG.out.2.1,HG.out.2.2⟩,_,_,_,_,_,_,_,_,_,_,rfl⟩
          exact AllReadyIn.nil
         exact AllReadyIn.nil
        exact AllReadyIn.nil
       exact AllReadyIn.nil
      refine AllReadyIn.cons rfl (fun K hK=>?_) ?_
      ·go_simp
       refine hK _ _ ?_
       clear hK K;refine wpAnyIn_take (i:=5) (v:=?_) rfl rfl (by kernel_rfl) (by kernel_rfl) (by kernel_rfl) (fun _ _ _ h=>h) ⟨Or.inl ⟨by rfl,?_⟩,fun _=>rfl⟩ ?_
       rotate_left
       ·(intro w;go_simp;try (with_reducible rfl))
       try simp only[Act.put,List.setIfInBounds_toArray,List.set_cons_zero,List.set_cons_succ]
       refine wpAnyIn_ready (rs:=[0]) (by kernel_rfl) (by simp) ?_
       refine AllReadyIn.cons rfl (fun K hK=>?_) ?_
       ·go_simp
        refine hK _ _ ?_
        clear hK K;refine wpAnyIn_take (i:=2) (v:=?_) rfl rfl (by kernel_rfl) (by kernel_rfl) (by kernel_rfl) (fun _ _ _ h=>h) ⟨Or.inl ⟨by rfl,?_⟩,fun _=>rfl⟩ ?_
        rotate_left
        ·(intro w;go_simp;try (with_reducible rfl))
        try simp only[Act.put,List.setIfInBounds_toArray,List.set_cons_zero,List.set_cons_succ]
        refine wpAnyIn_ready (rs:=[6]) (by kernel_rfl) (by simp) ?_
        refine AllReadyIn.cons rfl (fun K hK=>?_) ?_
        ·go_simp
         refine⟨trivial,?_⟩;refine(callsIn_wide.2 HUn).mono ?_
         clear HUn;rintro e W1 ⟨rfl,v1,hS1,hC1⟩;obtain⟨g1,g2,g3,g4⟩:=HPut.out W1 v1 hC1 hS1;have c9:W1.cell? ⟨w1.heap.size,0,none⟩=some (.bool z.1):=by rw[cell_at g4];rfl
         have f9:W1.frozen? ⟨w1.heap.size,0,none⟩=false:=frozen_at g4 0;have HG:=hide (And.intro g1 (And.intro g2 g3));clear g1 g2 g3 g4 hS1 hC1;refine hK _ _ ?_
         clear hK K;refine wpAnyIn_take (i:=7) (v:=?_) rfl rfl (by kernel_rfl) (by kernel_rfl) (by kernel_rfl) (fun _ _ _ h=>h) ⟨Or.inl ⟨by rfl,?_⟩,fun _=>rfl⟩ ?_
         rotate_left
         ·(intro w;go_simp;try (with_reducible rfl))
         try simp only[Act.put,List.setIfInBounds_toArray,List.set_cons_zero,List.set_cons_succ]
         refine wpAnyIn_ready (rs:=[8]) (by kernel_rfl) (by simp) ?_
         refine AllReadyIn.cons rfl (fun K hK=>?_) ?_
         ·go_simp
          refine hK _ _ ?_
          clear hK K;refine wpAnyIn_take (i:=9) (v:=?_) rfl rfl (by kernel_rfl) (by kernel_rfl) (by kernel_rfl) (fun _ _ _ h=>h) ⟨Or.inl ⟨by rfl,?_⟩,fun _=>rfl⟩ ?_
          rotate_left
          ·(intro w;go_simp;try (with_reducible rfl))
          try simp only[Act.put,List.setIfInBounds_toArray,List.set_cons_zero,List.set_cons_succ]
          refine wpAnyIn_ready (rs:=[10]) (by kernel_rfl) (by simp) ?_
          refine AllReadyIn.cons rfl (fun K hK=>?_) ?_
          ·go_simp
           refine hK _ _ ?_
           clear hK K;refine wpAnyIn_done (by kernel_rfl) ?_ _;exact⟨⟨HG.out.1,HG.out.2.1,HG.out.2.2⟩,_,_,_,_,_,_,_,_,_,_,rfl⟩
          exact AllReadyIn.nil
         exact AllReadyIn.nil
        exact AllReadyIn.nil
       exact AllReadyIn.nil
      exact AllReadyIn.nil
     refine AllReadyIn.cons rfl (fun K hK=>?_) ?_
     ·go_simp
      refine hK _ _ ?_
      clear hK K;refine wpAnyIn_ready (rs:=[0,3]) (by kernel_rfl) (by simp) ?_
      refine AllReadyIn.cons rfl (fun K hK=>?_) ?_
      ·go_simp
       refine hK _ _ ?_
       clear hK K;refine wpAnyIn_take (i:=2) (v:=?_) rfl rfl (by kernel_rfl) (by kernel_rfl) (by kernel_rfl) (fun _ _ _ h=>h) ⟨Or.inl ⟨by rfl,?_⟩,fun _=>rfl⟩ ?_
       rotate_left
       ·(intro w;go_simp;try (with_reducible rfl))
       try simp only[Act.put,List.setIfInBounds_toArray,List.set_cons_zero,List.set_cons_succ]
       refine wpAnyIn_ready (rs:=[3]) (by kernel_rfl) (by simp) ?_
       refine AllReadyIn.cons rfl (fun K hK=>?_) ?_
       ·go_simp
        refine hK _ _ ?_
        clear hK K;refine wpAnyIn_take (i:=5) (v:=?_) rfl rfl (by kernel_rfl) (by kernel_rfl) (by kernel_rfl) (fun _ _ _ h=>h) ⟨Or.inl ⟨by rfl,?_⟩,fun _=>rfl⟩ ?_
        rotate_left
        ·(intro w;go_simp;try (with_reducible rfl))
        try simp only[Act.put,List.setIfInBounds_toArray,List.set_cons_zero,List.set_cons_succ]
        refine wpAnyIn_ready (rs:=[6]) (by kernel_rfl) (by simp) ?_
        refine AllReadyIn.cons rfl (fun K hK=>?_) ?_
        ·go_simp
         refine⟨trivial,?_⟩;refine(callsIn_wide.2 HUn).mono ?_
         clear HUn;rintro e W1 ⟨rfl,v1,hS1,hC1⟩;obtain⟨g1,g2,g3,g4⟩:=HPut.out W1 v1 hC1 hS1;have c9:W1.cell? ⟨w1.heap.size,0,none⟩=some (.bool z.1):=by rw[cell_at g4];rfl
         have f9:W1.frozen? ⟨w1.heap.size,0,none⟩=false:=frozen_at g4 0;have HG:=hide (And.intro g1 (And.intro g2 g3));clear g1 g2 g3 g4 hS1 hC1;refine hK _ _ ?_
         clear hK K;refine wpAnyIn_take (i:=7) (v:=?_) rfl rfl (by kernel_rfl) (by kernel_rfl) (by kernel_rfl) (fun _ _ _ h=>h) ⟨Or.inl ⟨by rfl,?_⟩,fun _=>rfl⟩ ?_
         rotate_left
         ·(intro w;go_simp;try (with_reducible rfl))
         try simp only[Act.put,List.setIfInBounds_toArray,List.set_cons_zero,List.set_cons_succ]
         refine wpAnyIn_ready (rs:=[8]) (by kernel_rfl) (by simp) ?_
         refine AllReadyIn.cons rfl (fun K hK=>?_) ?_
         ·go_simp
          refine hK _ _ ?_
          clear hK K;refine wpAnyIn_take (i:=9) (v:=?_) rfl rfl (by kernel_rfl) (by kernel_rfl) (by kernel_rfl) (fun _ _ _ h=>h) ⟨Or.inl ⟨by rfl,?_⟩,fun _=>rfl⟩ ?_
          rotate_left
          ·(intro w;go_simp;try (with_reducible rfl))
          try simp only[Act.put,List.setIfInBounds_toArray,List.set_cons_zero,List.set_cons_succ]
          refine wpAnyIn_ready (rs:=[10]) (by kernel_rfl) (by simp) ?_
          refine AllReadyIn.cons rfl (fun K hK=>?_) ?_
          ·go_simp
           refine hK _ _ ?_
           clear hK K;refine wpAnyIn_done (by kernel_rfl) ?_ _;exact⟨⟨HG.out.1,HG.out.2.1,HG.out.2.2⟩,_,_,_,_,_,_,_,_,_,_,rfl⟩
          exact AllReadyIn.nil
         exact AllReadyIn.nil
        exact AllReadyIn.nil
       exact AllReadyIn.nil
      refine AllReadyIn.cons rfl (fun K hK=>?_) ?_
      ·go_simp
       refine hK _ _ ?_
       clear hK K;refine wpAnyIn_take (i:=5) (v:=?_) rfl rfl (by kernel_rfl) (by kernel_rfl) (by kernel_rfl) (fun _ _ _ h=>h) ⟨Or.inl ⟨by rfl,?_⟩,fun _=>rfl⟩ ?_
       rotate_left
       ·(intro w;go_simp;try (with_reducible rfl))
       try simp only[Act.put,List.setIfInBounds_toArray,List.set_cons_zero,List.set_cons_succ]
       refine wpAnyIn_ready (rs:=[0]) (by kernel_rfl) (by simp) ?_
       refine AllReadyIn.cons rfl (fun K hK=>?_) ?_
       ·go_simp
        refine hK _ _ ?_
        clear hK K;refine wpAnyIn_take (i:=2) (v:=?_) rfl rfl (by kernel_rfl) (by kernel_rfl) (by kernel_rfl) (fun _ _ _ h=>h) ⟨Or.inl ⟨by rfl,?_⟩,fun _=>rfl⟩ ?_
        rotate_left
        ·(intro w;go_simp;try (with_reducible rfl))
        try simp only[Act.put,List.setIfInBounds_toArray,List.set_cons_zero,List.set_cons_succ]
        refine wpAnyIn_ready (rs:=[6]) (by kernel_rfl) (by simp) ?_
        refine AllReadyIn.cons rfl (fun K hK=>?_) ?_
        ·go_simp
         refine⟨trivial,?_⟩;refine(callsIn_wide.2 HUn).mono ?_
         clear HUn;rintro e W1 ⟨rfl,v1,hS1,hC1⟩;obtain⟨g1,g2,g3,g4⟩:=HPut.out W1 v1 hC1 hS1;have c9:W1.cell? ⟨w1.heap.size,0,none⟩=some (.bool z.1):=by rw[cell_at g4];rfl
         have f9:W1.frozen? ⟨w1.heap.size,0,none⟩=false:=frozen_at g4 0;have HG:=hide (And.intro g1 (And.intro g2 g3));clear g1 g2 g3 g4 hS1 hC1;refine hK _ _ ?_
         clear hK K;refine wpAnyIn_take (i:=7) (v:=?_) rfl rfl (by kernel_rfl) (by kernel_rfl) (by kernel_rfl) (fun _ _ _ h=>h) ⟨Or.inl ⟨by rfl,?_⟩,fun _=>rfl⟩ ?_
         rotate_left
         ·(intro w;go_simp;try (with_reducible rfl))
         try simp only[Act.put,List.setIfInBounds_toArray,List.set_cons_zero,List.set_cons_succ]
         refine wpAnyIn_ready (rs:=[8]) (by kernel_rfl) (by simp) ?_
         refine AllReadyIn.cons rfl (fun K hK=>?_) ?_
         ·go_simp
          refine hK _ _ ?_
          clear hK K;refine wpAnyIn_take (i:=9) (v:=?_) rfl rfl (by kernel_rfl) (by kernel_rfl) (by kernel_rfl) (fun _ _ _ h=>h) ⟨Or.inl ⟨by rfl,?_⟩,fun _=>rfl⟩ ?_
          rotate_left
          ·(intro w;go_simp;try (with_reducible rfl))
          try simp only[Act.put,List.setIfInBounds_toArray,List.set_cons_zero,List.set_cons_succ]
          refine wpAnyIn_ready (rs:=[10]) (by kernel_rfl) (by simp) ?_
          refine AllReadyIn.cons rfl (fun K hK=>?_) ?_
          ·go_simp
           refine hK _ _ ?_
           clear hK K;refine wpAnyIn_done (by kernel_rfl) ?_ _;exact⟨⟨HG.out.1,HG.out.2.1,HG.out.2.2⟩,_,_,_,_,_,_,_,_,_,_,rfl⟩
          exact AllReadyIn.nil
         exact AllReadyIn.nil
        exact AllReadyIn.nil
       exact AllReadyIn.nil
      exact AllReadyIn.nil
     exact AllReadyIn.nil
    rintro a Y ⟨⟨HJ,kf,kp⟩,z32,z33,z34,z35,z36,z37,z38,z39,z40,z41,rfl⟩;have HJ2:=hide HJ;clear HJ HPut;gi_wp2
    refine⟨kf,kp,?_⟩;show HpJ _ _ _ _ _ _ _ _;rw[HE9.out];exact HJ2.out
   ·have hst1:hstep i z x=(true,z.2.set x (uniS (z.2.getD x []) (z.2.getD i []))):=by unfold hstep;rw[hnew];rfl
    have HPut:Hid (∀W1 v',SetCh W.drew W1 bp x pv'.toArray TP (pv'.getD x nilV) v'→SetV W1 Bp v' (uniS (z.2.getD x []) (z.2.getD i []))→HpJ X3 Bp bp n pv w1.heap.size (hstep i z x) (W1.setCell ⟨w1.heap.size,0,none⟩ (.bool (true)))∧KeepsFrom X3.heap.size W (W1.setCell ⟨w1.heap.size,0,none⟩ (.bool (true)))∧KpB LB W (W1.setCell ⟨w1.heap.size,0,none⟩ (.bool (true)))∧W1.heap[w1.heap.size]?=some (.cells #[.bool z.1] 4 (0,0))):=by
     refine hide (fun W1 v' hC hS=>?_);obtain⟨a1,a2,a3,a4⟩:=HD.out.1.put hx hC hS (true) HD.out.2;rw[hst1];exact⟨⟨_,a1⟩,(kb_keepsFrom (L:=[]) (Kb.refl [] W).drew (by simp) _).trans (a2 _),fun b hb=>(a3 b hb),a4⟩
    clear hst1;gi_wp2
    refine wpIn_nrmG (K:=fun a Y=>(HpJ X3 Bp bp n pv w1.heap.size (hstep i z x) Y∧KeepsFrom X3.heap.size W Y∧KpB LB W Y)∧∃z32 z33 z34 z35 z36 z37 z38 z39 z40 z41,a={ tmps:=#[.pointer (some ⟨G.bg,0,none⟩),.slice (some ⟨bp,0,none⟩) n n,.int .u64 (i:Int),.int .u64 (ld:Int),undef,.pointer (some ⟨w.heap.size,0,none⟩),.pointer (some ⟨w.heap.size+1,0,none⟩),.pointer (some ⟨w.heap.size+1+1,0,none⟩),.bool false,.pointer (some ⟨w1.heap.size,0,none⟩),.pointer (some ⟨b6,0,none⟩),.pointer (some ⟨b7,0,none⟩),.int .u64 (x:Int),undef,.slice (some ⟨bp,0,none⟩) n n,.int .u64 (i:Int),.pointer (some ⟨bp,i,none⟩),.bool false,y18,y19,y20,y21,y22,y23,y24,y25,y26,y27,y28,y29,.func (.func 127) #[] #[.pointer (some ⟨bw,0,none⟩)],.int .u64 (x:Int),z32,z33,z34,z35,z36,z37,z38,z39,z40,z41,undef,undef,undef,undef,undef,undef,undef,undef,undef,undef,undef],defers:=[] }) ?_ ?_
    ·skip
     refine wpIn_region_any (by kernel_rfl) ?_
     (try (change wpAnyIn _ _ _ _ _ _ _ _ _ (World.drew _)))
     change wpAnyIn (Fence.wide.inRound l) _ _ _ _ _ _ _ _ _;refine wpAnyIn_round (by kernel_rfl) _ _ _ _ ?_
     refine wpAnyIn_take (i:=1) (v:=?_) rfl rfl (by kernel_rfl) (by kernel_rfl) (by kernel_rfl) (fun _ _ _ h=>h) ⟨Or.inl ⟨by rfl,?_⟩,fun _=>rfl⟩ ?_
     rotate_left
     ·(intro w;go_simp;try (with_reducible rfl))
     try simp only[Act.put,List.setIfInBounds_toArray,List.set_cons_zero,List.set_cons_succ]
     refine wpAnyIn_ready (rs:=[0,3,4]) (by kernel_rfl) (by simp) ?_
     refine AllReadyIn.cons rfl (fun K hK=>?_) ?_
     ·go_simp
      refine hK _ _ ?_
      clear hK K;refine wpAnyIn_take (i:=2) (v:=?_) rfl rfl (by kernel_rfl) (by kernel_rfl) (by kernel_rfl) (fun _ _ _ h=>h) ⟨Or.inl ⟨by rfl,?_⟩,fun _=>rfl⟩ ?_
      rotate_left
      ·(intro w;go_simp;try (with_reducible rfl))
      try simp only[Act.put,List.setIfInBounds_toArray,List.set_cons_zero,List.set_cons_succ]
      refine wpAnyIn_ready (rs:=[3,4]) (by kernel_rfl) (by simp) ?_
      refine AllReadyIn.cons rfl (fun K hK=>?_) ?_
      ·go_simp
       refine hK _ _ ?_
       clear hK K;refine wpAnyIn_ready (rs:=[4]) (by kernel_rfl) (by simp) ?_
       refine AllReadyIn.cons rfl (fun K hK=>?_) ?_
       ·go_simp
        refine hK _ _ ?_
        clear hK K;refine wpAnyIn_take (i:=5) (v:=?_) rfl rfl (by kernel_rfl) (by kernel_rfl) (by kernel_rfl) (fun _ _ _ h=>h) ⟨Or.inl ⟨by rfl,?_⟩,fun _=>rfl⟩ ?_
        rotate_left
        ·(intro w;go_simp;try (with_reducible rfl))
        try simp only[Act.put,List.setIfInBounds_toArray,List.set_cons_zero,List.set_cons_succ]
        refine wpAnyIn_ready (rs:=[6]) (by kernel_rfl) (by simp) ?_
        refine AllReadyIn.cons rfl (fun K hK=>?_) ?_
        ·go_simp
         refine⟨trivial,?_⟩;refine(callsIn_wide.2 HUn).mono ?_
         clear HUn;rintro e W1 ⟨rfl,v1,hS1,hC1⟩;obtain⟨g1,g2,g3,g4⟩:=HPut.out W1 v1 hC1 hS1;have c9:W1.cell? ⟨w1.heap.size,0,none⟩=some (.bool z.1):=by rw[cell_at g4];rfl
         have f9:W1.frozen? ⟨w1.heap.size,0,none⟩=false:=frozen_at g4 0;have HG:=hide (And.intro g1 (And.intro g2 g3));clear g1 g2 g3 g4 hS1 hC1;refine hK _ _ ?_
         clear hK K;refine wpAnyIn_take (i:=7) (v:=?_) rfl rfl (by kernel_rfl) (by kernel_rfl) (by kernel_rfl) (fun _ _ _ h=>h) ⟨Or.inl ⟨by rfl,?_⟩,fun _=>rfl⟩ ?_
         rotate_left
         ·(intro w;go_simp;try (with_reducible rfl))
         try simp only[Act.put,List.setIfInBounds_toArray,List.set_cons_zero,List.set_cons_succ]
         refine wpAnyIn_take (i:=8) (v:=undef) rfl rfl (by kernel_rfl) (by kernel_rfl) (by kernel_rfl) (fun _ _ _ h=>h) ⟨Or.inr ⟨by rfl,rfl⟩,fun _=>rfl⟩ ?_
         try simp only[Act.put,List.setIfInBounds_toArray,List.set_cons_zero,List.set_cons_succ]
         refine wpAnyIn_take (i:=9) (v:=?_) rfl rfl (by kernel_rfl) (by kernel_rfl) (by kernel_rfl) (fun _ _ _ h=>h) ⟨Or.inl ⟨by rfl,?_⟩,fun _=>rfl⟩ ?_
         rotate_left
         ·(intro w;go_simp;try (with_reducible rfl))
         try simp only[Act.put,List.setIfInBounds_toArray,List.set_cons_zero,List.set_cons_succ]
         refine wpAnyIn_ready (rs:=[10]) (by kernel_rfl) (by simp) ?_
         refine AllReadyIn.cons rfl (fun K hK=>?_) ?_
         ·go_simp
          refine hK _ _ ?_
          clear hK K;refine wpAnyIn_done (by kernel_rfl) ?_ _;exact⟨⟨HG.out.1,HG.out.2.1,HG.out.2.2⟩,_,_,_,_,_,_,_,_,_,_,rfl⟩
         exact AllReadyIn.nil
        exact AllReadyIn.nil
       exact AllReadyIn.nil
      refine AllReadyIn.cons rfl (fun K hK=>?_) ?_
      ·go_simp
       refine hK _ _ ?_
       clear hK K;refine wpAnyIn_ready (rs:=[3]) (by kernel_rfl) (by simp) ?_
       refine AllReadyIn.cons rfl (fun K hK=>?_) ?_
       ·go_simp
        refine hK _ _ ?_
        clear hK K;refine wpAnyIn_take (i:=5) (v:=?_) rfl rfl (by kernel_rfl) (by kernel_rfl) (by kernel_rfl) (fun _ _ _ h=>h) ⟨Or.inl ⟨by rfl,?_⟩,fun _=>rfl⟩ ?_
        rotate_left
        ·(intro w;go_simp;try (with_reducible rfl))
        try simp only[Act.put,List.setIfInBounds_toArray,List.set_cons_zero,List.set_cons_succ]
        refine wpAnyIn_ready (rs:=[6]) (by kernel_rfl) (by simp) ?_
        refine AllReadyIn.cons rfl (fun K hK=>?_) ?_
        ·go_simp
         refine⟨trivial,?_⟩;refine(callsIn_wide.2 HUn).mono ?_
         clear HUn;rintro e W1 ⟨rfl,v1,hS1,hC1⟩;obtain⟨g1,g2,g3,g4⟩:=HPut.out W1 v1 hC1 hS1;have c9:W1.cell? ⟨w1.heap.size,0,none⟩=some (.bool z.1):=by rw[cell_at g4];rfl
         have f9:W1.frozen? ⟨w1.heap.size,0,none⟩=false:=frozen_at g4 0;have HG:=hide (And.intro g1 (And.intro g2 g3));clear g1 g2 g3 g4 hS1 hC1;refine hK _ _ ?_
         clear hK K;refine wpAnyIn_take (i:=7) (v:=?_) rfl rfl (by kernel_rfl) (by kernel_rfl) (by kernel_rfl) (fun _ _ _ h=>h) ⟨Or.inl ⟨by rfl,?_⟩,fun _=>rfl⟩ ?_
         rotate_left
         ·(intro w;go_simp;try (with_reducible rfl))
         try simp only[Act.put,List.setIfInBounds_toArray,List.set_cons_zero,List.set_cons_succ]
         refine wpAnyIn_take (i:=8) (v:=undef) rfl rfl (by kernel_rfl) (by kernel_rfl) (by kernel_rfl) (fun _ _ _ h=>h) ⟨Or.inr ⟨by rfl,rfl⟩,fun _=>rfl⟩ ?_
         try simp only[Act.put,List.setIfInBounds_toArray,List.set_cons_zero,List.set_cons_succ]
         refine wpAnyIn_take (i:=9) (v:=?_) rfl rfl (by kernel_rfl) (by kernel_rfl) (by kernel_rfl) (fun _ _ _ h=>h) ⟨Or.inl ⟨by rfl,?_⟩,fun _=>rfl⟩ ?_
         rotate_left
         ·(intro w;go_simp;try (with_reducible rfl))
         try simp only[Act.put,List.setIfInBounds_toArray,List.set_cons_zero,List.set_cons_succ]
         refine wpAnyIn_ready (rs:=[10]) (by kernel_rfl) (by simp) ?_
         refine AllReadyIn.cons rfl (fun K hK=>?_) ?_
         ·go_simp
          refine hK _ _ ?_
          clear hK K;refine wpAnyIn_done (by kernel_rfl) ?_ _;exact⟨⟨HG.out.1,HG.out.2.1,HG.out.2.2⟩,_,_,_,_,_,_,_,_,_,_,rfl⟩
         exact AllReadyIn.nil
        exact AllReadyIn.nil
       exact AllReadyIn.nil
      exact AllReadyIn.nil
     refine AllReadyIn.cons rfl (fun K hK=>?_) ?_
     ·go_simp
      refine hK _ _ ?_
      clear hK K;refine wpAnyIn_ready (rs:=[0,4]) (by kernel_rfl) (by simp) ?_
      refine AllReadyIn.cons rfl (fun K hK=>?_) ?_
      ·go_simp
       refine hK _ _ ?_
       clear hK K;refine wpAnyIn_take (i:=2) (v:=?_) rfl rfl (by kernel_rfl) (by kernel_rfl) (by kernel_rfl) (fun _ _ _ h=>h) ⟨Or.inl ⟨by rfl,?_⟩,fun _=>rfl⟩ ?_
       rotate_left
       ·(intro w;go_simp;try (with_reducible rfl))
       try simp only[Act.put,List.setIfInBounds_toArray,List.set_cons_zero,List.set_cons_succ]
       refine wpAnyIn_ready (rs:=[4]) (by kernel_rfl) (by simp) ?_
       refine AllReadyIn.cons rfl (fun K hK=>?_) ?_
       ·go_simp
        refine hK _ _ ?_
        clear hK K;refine wpAnyIn_take (i:=5) (v:=?_) rfl rfl (by kernel_rfl) (by kernel_rfl) (by kernel_rfl) (fun _ _ _ h=>h) ⟨Or.inl ⟨by rfl,?_⟩,fun _=>rfl⟩ ?_
        rotate_left
        ·(intro w;go_simp;try (with_reducible rfl))
        try simp only[Act.put,List.setIfInBounds_toArray,List.set_cons_zero,List.set_cons_succ]
        refine wpAnyIn_ready (rs:=[6]) (by kernel_rfl) (by simp) ?_
        refine AllReadyIn.cons rfl (fun K hK=>?_) ?_
        ·go_simp
         refine⟨trivial,?_⟩;refine(callsIn_wide.2 HUn).mono ?_
         clear HUn;rintro e W1 ⟨rfl,v1,hS1,hC1⟩;obtain⟨g1,g2,g3,g4⟩:=HPut.out W1 v1 hC1 hS1;have c9:W1.cell? ⟨w1.heap.size,0,none⟩=some (.bool z.1):=by rw[cell_at g4];rfl
         have f9:W1.frozen? ⟨w1.heap.size,0,none⟩=false:=frozen_at g4 0;have HG:=hide (And.intro g1 (And.intro g2 g3));clear g1 g2 g3 g4 hS1 hC1;refine hK _ _ ?_
         clear hK K;refine wpAnyIn_take (i:=7) (v:=?_) rfl rfl (by kernel_rfl) (by kernel_rfl) (by kernel_rfl) (fun _ _ _ h=>h) ⟨Or.inl ⟨by rfl,?_⟩,fun _=>rfl⟩ ?_
         rotate_left
         ·(intro w;go_simp;try (with_reducible rfl))
         try simp only[Act.put,List.setIfInBounds_toArray,List.set_cons_zero,List.set_cons_succ]
         refine wpAnyIn_take (i:=8) (v:=undef) rfl rfl (by kernel_rfl) (by kernel_rfl) (by kernel_rfl) (fun _ _ _ h=>h) ⟨Or.inr ⟨by rfl,rfl⟩,fun _=>rfl⟩ ?_
         try simp only[Act.put,List.setIfInBounds_toArray,List.set_cons_zero,List.set_cons_succ]
         refine wpAnyIn_take (i:=9) (v:=?_) rfl rfl (by kernel_rfl) (by kernel_rfl) (by kernel_rfl) (fun _ _ _ h=>h) ⟨Or.inl ⟨by rfl,?_⟩,fun _=>rfl⟩ ?_
         rotate_left
         ·(intro w;go_simp;try (with_reducible rfl))
         try simp only[Act.put,List.setIfInBounds_toArray,List.set_cons_zero,List.set_cons_succ]
         refine wpAnyIn_ready (rs:=[10]) (by kernel_rfl) (by simp) ?_
         refine AllReadyIn.cons rfl (fun K hK=>?_) ?_
         ·go_simp
          refine hK _ _ ?_
          clear hK K;refine wpAnyIn_done (by kernel_rfl) ?_ _;exact⟨⟨HG.out.1,HG.out.2.1,HG.out.2.2⟩,_,_,_,_,_,_,_,_,_,_,rfl⟩
         exact AllReadyIn.nil
        exact AllReadyIn.nil
       exact AllReadyIn.nil
      refine AllReadyIn.cons rfl (fun K hK=>?_) ?_
      ·go_simp
       refine hK _ _ ?_
       clear hK K;refine wpAnyIn_take (i:=5) (v:=?_) rfl rfl (by kernel_rfl) (by kernel_rfl) (by kernel_rfl) (fun _ _ _ h=>h) ⟨Or.inl ⟨by rfl,?_⟩,fun _=>rfl⟩ ?_
       rotate_left
       ·(intro w;go_simp;try (with_reducible rfl))
       try simp only[Act.put,List.setIfInBounds_toArray,List.set_cons_zero,List.set_cons_succ]
       refine wpAnyIn_ready (rs:=[0]) (by kernel_rfl) (by simp) ?_
       refine AllReadyIn.cons rfl (fun K hK=>?_) ?_
       ·go_simp
        refine hK _ _ ?_
        clear hK K;refine wpAnyIn_take (i:=2) (v:=?_) rfl rfl (by kernel_rfl) (by kernel_rfl) (by kernel_rfl) (fun _ _ _ h=>h) ⟨Or.inl ⟨by rfl,?_⟩,fun _=>rfl⟩ ?_
        rotate_left
        ·(intro w;go_simp;try (with_reducible rfl))
        try simp only[Act.put,List.setIfInBounds_toArray,List.set_cons_zero,List.set_cons_succ]
        refine wpAnyIn_ready (rs:=[6]) (by kernel_rfl) (by simp) ?_
        refine AllReadyIn.cons rfl (fun K hK=>?_) ?_
        ·go_simp
         refine⟨trivial,?_⟩;refine(callsIn_wide.2 HUn).mono ?_
         clear HUn;rintro e W1 ⟨rfl,v1,hS1,hC1⟩;obtain⟨g1,g2,g3,g4⟩:=HPut.out W1 v1 hC1 hS1;have c9:W1.cell? ⟨w1.heap.size,0,none⟩=some (.bool z.1):=by rw[cell_at g4];rfl
         have f9:W1.frozen? ⟨w1.heap.size,0,none⟩=false:=frozen_at g4 0;have HG:=hide (And.intro g1 (And.intro g2 g3));clear g1 g2 g3 g4 hS1 hC1;refine hK _ _ ?_
         clear hK K;refine wpAnyIn_take (i:=7) (v:=?_) rfl rfl (by kernel_rfl) (by kernel_rfl) (by kernel_rfl) (fun _ _ _ h=>h) ⟨Or.inl ⟨by rfl,?_⟩,fun _=>rfl⟩ ?_
         rotate_left
         ·(intro w;go_simp;try (with_reducible rfl))
         try simp only[Act.put,List.setIfInBounds_toArray,List.set_cons_zero,List.set_cons_succ]
         refine wpAnyIn_take (i:=8) (v:=undef) rfl rfl (by kernel_rfl) (by kernel_rfl) (by kernel_rfl) (fun _ _ _ h=>h) ⟨Or.inr ⟨by rfl,rfl⟩,fun _=>rfl⟩ ?_
         try simp only[Act.put,List.setIfInBounds_toArray,List.set_cons_zero,List.set_cons_succ]
         refine wpAnyIn_take (i:=9) (v:=?_) rfl rfl (by kernel_rfl) (by kernel_rfl) (by kernel_rfl) (fun _ _ _ h=>h) ⟨Or.inl ⟨by rfl,?_⟩,fun _=>rfl⟩ ?_
         rotate_left
         ·(intro w;go_simp;try (with_reducible rfl))
         try simp only[Act.put,List.setIfInBounds_toArray,List.set_cons_zero,List.set_cons_succ]
         refine wpAnyIn_ready (rs:=[10]) (by kernel_rfl) (by simp) ?_
         refine AllReadyIn.cons rfl (fun K hK=>?_) ?_
         ·go_simp
          refine hK _ _ ?_
          clear hK K;refine wpAnyIn_done (by kernel_rfl) ?_ _;exact⟨⟨HG.out.1,HG.out.2.1,HG.out.2.2⟩,_,_,_,_,_,_,_,_,_,_,rfl⟩
         exact AllReadyIn.nil
        exact AllReadyIn.nil
       exact AllReadyIn.nil
      exact AllReadyIn.nil
     refine AllReadyIn.cons rfl (fun K hK=>?_) ?_
     ·go_simp
      refine hK _ _ ?_
      clear hK K;refine wpAnyIn_ready (rs:=[0,3]) (by kernel_rfl) (by simp) ?_
      refine AllReadyIn.cons rfl (fun K hK=>?_) ?_
      ·go_simp
       refine hK _ _ ?_
       clear hK K;refine wpAnyIn_take (i:=2) (v:=?_) rfl rfl (by kernel_rfl) (by kernel_rfl) (by kernel_rfl) (fun _ _ _ h=>h) ⟨Or.inl ⟨by rfl,?_⟩,fun _=>rfl⟩ ?_
       rotate_left
       ·(intro w;go_simp;try (with_reducible rfl))
       try simp only[Act.put,List.setIfInBounds_toArray,List.set_cons_zero,List.set_cons_succ]
       refine wpAnyIn_ready (rs:=[3]) (by kernel_rfl) (by simp) ?_
       refine AllReadyIn.cons rfl (fun K hK=>?_) ?_
       ·go_simp
        refine hK _ _ ?_
        clear hK K;refine wpAnyIn_take (i:=5) (v:=?_) rfl rfl (by kernel_rfl) (by kernel_rfl) (by kernel_rfl) (fun _ _ _ h=>h) ⟨Or.inl ⟨by rfl,?_⟩,fun _=>rfl⟩ ?_
        rotate_left
        ·(intro w;go_simp;try (with_reducible rfl))
        try simp only[Act.put,List.setIfInBounds_toArray,List.set_cons_zero,List.set_cons_succ]
        refine wpAnyIn_ready (rs:=[6]) (by kernel_rfl) (by simp) ?_
        refine AllReadyIn.cons rfl (fun K hK=>?_) ?_
        ·go_simp
         refine⟨trivial,?_⟩;refine(callsIn_wide.2 HUn).mono ?_
         clear HUn;rintro e W1 ⟨rfl,v1,hS1,hC1⟩;obtain⟨g1,g2,g3,g4⟩:=HPut.out W1 v1 hC1 hS1;have c9:W1.cell? ⟨w1.heap.size,0,none⟩=some (.bool z.1):=by rw[cell_at g4];rfl
         have f9:W1.frozen? ⟨w1.heap.size,0,none⟩=false:=frozen_at g4 0;have HG:=hide (And.intro g1 (And.intro g2 g3));clear g1 g2 g3 g4 hS1 hC1;refine hK _ _ ?_
         clear hK K;refine wpAnyIn_take (i:=7) (v:=?_) rfl rfl (by kernel_rfl) (by kernel_rfl) (by kernel_rfl) (fun _ _ _ h=>h) ⟨Or.inl ⟨by rfl,?_⟩,fun _=>rfl⟩ ?_
         rotate_left
         ·(intro w;go_simp;try (with_reducible rfl))
         try simp only[Act.put,List.setIfInBounds_toArray,List.set_cons_zero,List.set_cons_succ]
         refine wpAnyIn_take (i:=8) (v:=undef) rfl rfl (by kernel_rfl) (by kernel_rfl) (by kernel_rfl) (fun _ _ _ h=>h) ⟨Or.inr ⟨by rfl,rfl⟩,fun _=>rfl⟩ ?_
         try simp only[Act.put,List.setIfInBounds_toArray,List.set_cons_zero,List.set_cons_succ]
         refine wpAnyIn_take (i:=9) (v:=?_) rfl rfl (by kernel_rfl) (by kernel_rfl) (by kernel_rfl) (fun _ _ _ h=>h) ⟨Or.inl ⟨by rfl,?_⟩,fun _=>rfl⟩ ?_
         rotate_left
         ·(intro w;go_simp;try (with_reducible rfl))
         try simp only[Act.put,List.setIfInBounds_toArray,List.set_cons_zero,List.set_cons_succ]
         refine wpAnyIn_ready (rs:=[10]) (by kernel_rfl) (by simp) ?_
         refine AllReadyIn.cons rfl (fun K hK=>?_) ?_
         ·go_simp
          refine hK _ _ ?_
          clear hK K;refine wpAnyIn_done (by kernel_rfl) ?_ _;exact⟨⟨HG.out.1,HG.out.2.1,HG.out.2.2⟩,_,_,_,_,_,_,_,_,_,_,rfl⟩
         exact AllReadyIn.nil
        exact AllReadyIn.nil
       exact AllReadyIn.nil
      refine AllReadyIn.cons rfl (fun K hK=>?_) ?_
      ·go_simp
       refine hK _ _ ?_
       clear hK K;refine wpAnyIn_take (i:=5) (v:=?_) rfl rfl (by kernel_rfl) (by kernel_rfl) (by kernel_rfl) (fun _ _ _ h=>h) ⟨Or.inl ⟨by rfl,?_⟩,fun _=>rfl⟩ ?_
       rotate_left
       ·(intro w;go_simp;try (with_reducible rfl))
       try simp only[Act.put,List.setIfInBounds_toArray,List.set_cons_zero,List.set_cons_succ]
       refine wpAnyIn_ready (rs:=[0]) (by kernel_rfl) (by simp) ?_
       refine AllReadyIn.cons rfl (fun K hK=>?_) ?_
       ·go_simp
        refine hK _ _ ?_
        clear hK K;refine wpAnyIn_take (i:=2) (v:=?_) rfl rfl (by kernel_rfl) (by kernel_rfl) (by kernel_rfl) (fun _ _ _ h=>h) ⟨Or.inl ⟨by rfl,?_⟩,fun _=>rfl⟩ ?_
        rotate_left
        ·(intro w;go_simp;try (with_reducible rfl))
        try simp only[Act.put,List.setIfInBounds_toArray,List.set_cons_zero,List.set_cons_succ]
        refine wpAnyIn_ready (rs:=[6]) (by kernel_rfl) (by simp) ?_
        refine AllReadyIn.cons rfl (fun K hK=>?_) ?_
        ·go_simp
         refine⟨trivial,?_⟩;refine(callsIn_wide.2 HUn).mono ?_
         clear HUn;rintro e W1 ⟨rfl,v1,hS1,hC1⟩;obtain⟨g1,g2,g3,g4⟩:=HPut.out W1 v1 hC1 hS1;have c9:W1.cell? ⟨w1.heap.size,0,none⟩=some (.bool z.1):=by rw[cell_at g4];rfl
         have f9:W1.frozen? ⟨w1.heap.size,0,none⟩=false:=frozen_at g4 0;have HG:=hide (And.intro g1 (And.intro g2 g3));clear g1 g2 g3 g4 hS1 hC1;refine hK _ _ ?_
         clear hK K;refine wpAnyIn_take (i:=7) (v:=?_) rfl rfl (by kernel_rfl) (by kernel_rfl) (by kernel_rfl) (fun _ _ _ h=>h) ⟨Or.inl ⟨by rfl,?_⟩,fun _=>rfl⟩ ?_
         rotate_left
         ·(intro w;go_simp;try (with_reducible rfl))
         try simp only[Act.put,List.setIfInBounds_toArray,List.set_cons_zero,List.set_cons_succ]
         refine wpAnyIn_take (i:=8) (v:=undef) rfl rfl (by kernel_rfl) (by kernel_rfl) (by kernel_rfl) (fun _ _ _ h=>h) ⟨Or.inr ⟨by rfl,rfl⟩,fun _=>rfl⟩ ?_
         try simp only[Act.put,List.setIfInBounds_toArray,List.set_cons_zero,List.set_cons_succ]
         refine wpAnyIn_take (i:=9) (v:=?_) rfl rfl (by kernel_rfl) (by kernel_rfl) (by kernel_rfl) (fun _ _ _ h=>h) ⟨Or.inl ⟨by rfl,?_⟩,fun _=>rfl⟩ ?_
         rotate_left
         ·(intro w;go_simp;try (with_reducible rfl))
         try simp only[Act.put,List.setIfInBounds_toArray,List.set_cons_zero,List.set_cons_succ]
         refine wpAnyIn_ready (rs:=[10]) (by kernel_rfl) (by simp) ?_
         refine AllReadyIn.cons rfl (fun K hK=>?_) ?_
         ·go_simp
          refine hK _ _ ?_
          clear hK K;refine wpAnyIn_done (by kernel_rfl) ?_ _;exact⟨⟨HG.out.1,HG.out.2.1,HG.out.2.2⟩,_,_,_,_,_,_,_,_,_,_,rfl⟩
         exact AllReadyIn.nil
        exact AllReadyIn.nil
       exact AllReadyIn.nil
      exact AllReadyIn.nil
     exact AllReadyIn.nil
    rintro a Y ⟨⟨HJ,kf,kp⟩,z32,z33,z34,z35,z36,z37,z38,z39,z40,z41,rfl⟩;have HJ2:=hide HJ;clear HJ HPut;gi_wp2
    refine⟨kf,kp,?_⟩;show HpJ _ _ _ _ _ _ _ _;rw[HE9.out];exact HJ2.out
  case done=>
   rintro D xs W hD hxs ⟨pv1,p1⟩ hK;have hxv:valsM xs=s.heirsOf i:=hxs;rw[hxv]at p1;have HZ1:Hid (s.handParts ps i ld=(s.standing (s.ld i)).foldl (lstep ld) ((s.heirsOf i).foldl (hstep i) (false,ps))):=hide (handParts_eq s ps i ld hem);generalize (s.heirsOf i).foldl (hstep i) (false,ps)=z1 at *;obtain⟨I0,L3,x5,x6⟩:=HI0.out;have hw3:=HW1.out;have np:∀b,w.heap.size≤b→b≠w1.heap.size→b ∉ w1.heap.size::pft bp pv:=fun b hb hne hm=>by
    rcases List.mem_cons.1 hm with e|hm
    ·exact hne e
    ·have:=(hplt _ hm).2;omega
   have z9:=HZ0.out.1;have q9:=(L3.bx (w1.heap.size,#[.bool false],4) (by rw[HBo.out];simp));have q7:=(L3.bx (b7,#[vs],TSet) (by simp)).1;have n7:b7≠w1.heap.size:=ne_types q7 q9.1 (by dsimp only;decide);have s7:=(L3.vt (vs,s.standing (s.ld i),w.heap.size) (by simp)).1;have q7W:=p1.kb.heap q7 (np _ (by omega) n7);have s7W:=s7.kb p1.kb (fun g hg e=>np g (s7.lt e).1 (fun e2=>s7.ne q9.1 (by dsimp only;decide) (e2 ▸ e)) hg);have x5W:=p1.kb.heap x5 (np _ (Nat.le_refl _) (by omega));have x7:=(L3.bx (w.heap.size+2,#[.int .u64 (ld:Int)],232) (by rw[HBo.out];simp)).1;have x7W:=p1.kb.heap x7 (np _ (by dsimp only;omega) (by dsimp only;omega));have hTW:TabAt W:=(TT.out L3.ch).kb p1.kb (fun hm=>by
    rcases List.mem_cons.1 hm with e|hm
    ·omega
    ·have:=(hplt _ hm).1;omega)
   have HA2:=all_any w.heap.size b7 0 #[vs] TSet vs (s.standing (s.ld i)) W q7W rfl s7W;have HP1:=hide (And.intro p1 (And.intro hTW (And.intro x5W (And.intro x7W (And.intro hK q9.2)))));have HL3:=hide (And.intro L3.gm L3.ch);clear p1 hTW x5W x7W I0 L3 x5 x6 x7 q9 q7 s7 q7W s7W np hK HI0;gi_wp2
   refine⟨trivial,?_⟩;refine(callsIn_wide.2 HA2).mono ?_
   clear HA2;rintro e W3 ⟨bw2,vb,rfl,hbw2,hbwc2,hvb,k3⟩;obtain⟨p1,hTW,x5W,x7W,hK,q9f⟩:=HP1.out;have hX3W:=p1.kb.size;have hWW3:=k3.size;have I2:HpI W3 Bp bp n pv1 w1.heap.size z1 pv1 W3:=⟨p1.ps.kb k3 (by simp),Kb.refl _ _,fun b hb=>.inl hb,k3.heap p1.fl (by simp),p1.nf',by have:=lt_of_heap p1.fl;omega⟩;have hK3:=(k3.block D (lt_of_heap hK) (by simp)).trans hK;have hDW:=lt_of_heap hK;have x53:=k3.heap x5W (by simp);have x73:=k3.heap x7W (by simp);have hp1b:∀b∈pft bp pv1,Bp≤b∧b<W.heap.size:=fun b hb=>⟨(p1.ps.cells hb).1,(p1.ps.cells hb).2.1⟩
   have hpn:∀b,b<X3.heap.size→w.heap.size≤b→b ∉ pft bp pv1:=fun b hb hbw hm=>by
    rcases p1.pf b hm with h1|h1
    ·have:=(hplt _ h1).2;omega
    ·omega
   obtain⟨LB2,hLB2⟩:∃LB2,LB2=0::vb.ownBlock.toList:=⟨_,rfl⟩;have hLBp2:∀b∈LB2,b<W3.heap.size∧b≠w1.heap.size∧b ∉ pft bp pv1:=by
    intro b hb;rw[hLB2]at hb;rcases List.mem_cons.1 hb with rfl|hb
    ·exact⟨by omega,by omega,fun hm=>by have:=(hp1b _ hm).1;omega⟩
    ·simp at hb;have:=(hvb.lt hb).1;exact⟨(hvb.lt hb).2,by omega,fun hm=>by have:=(hp1b _ hm).2;omega⟩
   have hLBlt2:∀b∈LB2,b<W3.heap.size:=fun b hb=>(hLBp2 b hb).1
   have hst2:=all_stops 29 bw2 W.heap.size vb (s.standing (s.ld i)) LB2 W3 hbwc2 hvb (hTW.kb k3 (by simp)) (fun g hg=>by rw[hLB2];simp[hg]) (by rw[hLB2];simp);have HI2:=hide (And.intro I2 (And.intro hK3 (And.intro x53 x73)));have HP2:=hide (And.intro p1 k3);clear p1 hTW x5W x7W hK I2 hK3 x53 x73 hbwc2 hvb k3 hLB2 HP1;gi_wp2
   refine wpIn_rangeFunc_ownH (α:=Mem (s.standing (s.ld i))) (hro:=rfl) (h1:=by omega) (gf:=127) (lb:=#[.pointer (some ⟨bw2,0,none⟩)]) rfl trivial (enters_of Tryz.func127 (by kernel_rfl) rfl) hst2 (fun h1 h2=>h1.trans h2) (kpB_b hLBlt2) (Below.refl _ _) (fun _=>rfl)
    (fun pre W=>HpJ W3 Bp bp n pv1 w1.heap.size ((valsM pre).foldl (lstep ld) z1) W∧W.heap[D]?=some (.deferred (some [])))
    (fun _ _ _=>False) ?hI2 (fun _ _ _ _ _ hs _ _=>hs) ⟨⟨pv1,HI2.out.1⟩,HI2.out.2.1⟩
    (fun x a' _=>a'={ tmps:=#[.pointer (some ⟨G.bg,0,none⟩),.slice (some ⟨bp,0,none⟩) n n,.int .u64 (i:Int),.int .u64 (ld:Int),undef,.pointer (some ⟨w.heap.size,0,none⟩),.pointer (some ⟨w.heap.size+1,0,none⟩),.pointer (some ⟨w.heap.size+1+1,0,none⟩),.bool false,.pointer (some ⟨w1.heap.size,0,none⟩),.pointer (some ⟨b6,0,none⟩),.pointer (some ⟨b7,0,none⟩),undef,.int .u64 (x.1:Int),.slice (some ⟨bp,0,none⟩) n n,.int .u64 (i:Int),.pointer (some ⟨bp,i,none⟩),.bool false,y18,y19,y20,y21,y22,y23,y24,y25,y26,y27,y28,y29,.func (.func 127) #[] #[.pointer (some ⟨bw,0,none⟩)],undef,undef,undef,undef,undef,undef,undef,undef,undef,undef,undef,.func (.func 127) #[] #[.pointer (some ⟨bw2,0,none⟩)],.int .u64 (x.1:Int),undef,undef,undef,undef,undef,undef,undef,undef,undef],defers:=[] }) ?hAx2 ?assign2 ?body2 ?done2 ?stop2
   case hI2=>
    rintro pre W W' row ⟨⟨pv',p1⟩,hd⟩ hg hr;refine⟨⟨pv',p1.own hg hr⟩,((kb_grown hg).block D (lt_of_heap hd) (fun hm=>?_)).trans hd⟩;have:=(hr D (by simpa using hm)).1;omega
   case hAx2=>
    rintro x a' _ W W' row rfl hg hr;rfl
   case assign2=>
    rintro l pre x W K hi hK;dsimp only[encN,Array.zip,Array.foldl];gi_wp2
    exact hK _ _ (KeepsFrom.refl _ _) (KpB.refl _ _) hi rfl
   case stop2=>
    rintro D cc pre X _ _ hF _;exact hF.elim
   case body2=>
    rintro l pre ⟨x,hxT⟩ a' W hl ⟨r,hr⟩ ⟨⟨pv',p1⟩,hkd⟩ rfl hlen;have hx:=hw.standLt (k:=7*i+3) hxT;have e9:(valsM (pre++[(⟨x,hxT⟩:Mem (s.standing (s.ld i)))])).foldl (lstep ld) z1=lstep ld ((valsM pre).foldl (lstep ld) z1) x:=by unfold valsM;rw[List.map_append,List.foldl_append];rfl
    have HE9:=hide e9;have HKD:=hide hkd;clear e9 hkd;generalize (valsM pre).foldl (lstep ld) z1=z at *;have c5:W.cell? ⟨w.heap.size,0,none⟩=some (.slice (some ⟨bp,0,none⟩) n n):=by
     rw[cell_at (p1.kb.heap HI2.out.2.2.1 (fun hm=>?_))]
     ·rfl
     ·rcases List.mem_cons.1 hm with e|hm
      ·omega
      ·exact hpn _ (by omega) (Nat.le_refl _) hm
    have c7:W.cell? ⟨w.heap.size+1+1,0,none⟩=some (.int .u64 (ld:Int)):=by
     rw[cell_at (p1.kb.heap HI2.out.2.2.2 (fun hm=>?_))]
     ·rfl
     ·rcases List.mem_cons.1 hm with e|hm
      ·omega
      ·exact hpn _ (by omega) (by omega) hm
    have pd:=p1.beside (Kb.refl [] W).drew (by simp);have hxn:(x:Int)<(n:Int):=by omega
    have HAd:=padd_any Bp bp x pv'.toArray TP _ _ ld W.drew (by have:=pd.ps.lp;have:=lt_of_heap pd.ps.hb;omega) (by decide) pd.ps.hb (pd.ps.get hx) (pd.ps.st x hx) hld;have HD:Hid (HpI W3 Bp bp n pv1 w1.heap.size z pv' W.drew∧∀b∈LB2,b<W.drew.heap.size∧b≠w1.heap.size∧b ∉ pft bp pv'):=by
     refine hide ⟨pd,fun b hb=>⟨Nat.lt_of_lt_of_le (hLBlt2 b hb) p1.kb.size,(hLBp2 b hb).2.1,fun hm=>?_⟩⟩;rcases p1.pf b hm with h1|h1
     ·exact(hLBp2 b hb).2.2 h1
     ·have:=hLBlt2 b hb;omega
    clear pd p1;cases hnew:!(z.2.getD x []).contains ld<;>rw[hnew]at HAd
    ·have hst1:lstep ld z x=(z.1,z.2.set x (addS ld (z.2.getD x []))):=by unfold lstep;rw[hnew];rfl
     have HPut:Hid (∀W1 v',SetCh W.drew W1 bp x pv'.toArray TP (pv'.getD x nilV) v'→SetV W1 Bp v' (addS ld (z.2.getD x []))→HpJ W3 Bp bp n pv1 w1.heap.size (lstep ld z x) (W1.setCell ⟨w1.heap.size,0,none⟩ (.bool (z.1)))∧KeepsFrom W3.heap.size W (W1.setCell ⟨w1.heap.size,0,none⟩ (.bool (z.1)))∧(KpB LB2 W (W1.setCell ⟨w1.heap.size,0,none⟩ (.bool (z.1)))∧KeepsFrom X3.heap.size W (W1.setCell ⟨w1.heap.size,0,none⟩ (.bool (z.1))))∧W1.heap[w1.heap.size]?=some (.cells #[.bool z.1] 4 (0,0))):=by
      refine hide (fun W1 v' hC hS=>?_);obtain⟨a1,a2,a3,a4⟩:=HD.out.1.put hx hC hS (z.1) HD.out.2;rw[hst1];exact⟨⟨_,a1⟩,(kb_keepsFrom (L:=[]) (Kb.refl [] W).drew (by simp) _).trans (a2 _),⟨fun b hb=>(a3 b hb),(kb_keepsFrom (L:=[]) (Kb.refl [] W).drew (by simp) _).trans (a2 _)⟩,a4⟩
     clear hst1;gi_wp2
     refine wpIn_nrmG (K:=fun a Y=>(HpJ W3 Bp bp n pv1 w1.heap.size (lstep ld z x) Y∧KeepsFrom W3.heap.size W Y∧KpB LB2 W Y∧KeepsFrom X3.heap.size W Y)∧∃z44 z45 z46 z47 z48 z49 z50 z51,a={ tmps:=#[.pointer (some ⟨G.bg,0,none⟩),.slice (some ⟨bp,0,none⟩) n n,.int .u64 (i:Int),.int .u64 (ld:Int),undef,.pointer (some ⟨w.heap.size,0,none⟩),.pointer (some ⟨w.heap.size+1,0,none⟩),.pointer (some ⟨w.heap.size+1+1,0,none⟩),.bool false,.pointer (some ⟨w1.heap.size,0,none⟩),.pointer (some ⟨b6,0,none⟩),.pointer (some ⟨b7,0,none⟩),undef,.int .u64 (x:Int),.slice (some ⟨bp,0,none⟩) n n,.int .u64 (i:Int),.pointer (some ⟨bp,i,none⟩),.bool false,y18,y19,y20,y21,y22,y23,y24,y25,y26,y27,y28,y29,.func (.func 127) #[] #[.pointer (some ⟨bw,0,none⟩)],undef,undef,undef,undef,undef,undef,undef,undef,undef,undef,undef,.func (.func 127) #[] #[.pointer (some ⟨bw2,0,none⟩)],.int .u64 (x:Int),z44,z45,z46,z47,z48,z49,z50,z51,undef],defers:=[] }) ?_ ?_
     ·skip
      refine wpIn_region_any (by kernel_rfl) ?_
      (try (change wpAnyIn _ _ _ _ _ _ _ _ _ (World.drew _)))
      change wpAnyIn (Fence.wide.inRound l) _ _ _ _ _ _ _ _ _;refine wpAnyIn_round (by kernel_rfl) _ _ _ _ ?_
      refine wpAnyIn_take (i:=1) (v:=?_) rfl rfl (by kernel_rfl) (by kernel_rfl) (by kernel_rfl) (fun _ _ _ h=>h) ⟨Or.inl ⟨by rfl,?_⟩,fun _=>rfl⟩ ?_
      rotate_left
      ·(intro w;go_simp;try (with_reducible rfl))
      try simp only[Act.put,List.setIfInBounds_toArray,List.set_cons_zero,List.set_cons_succ]
      refine wpAnyIn_ready (rs:=[0,3]) (by kernel_rfl) (by simp) ?_
      refine AllReadyIn.cons rfl (fun K hK=>?_) ?_
      ·go_simp
       refine hK _ _ ?_
       clear hK K;refine wpAnyIn_take (i:=2) (v:=?_) rfl rfl (by kernel_rfl) (by kernel_rfl) (by kernel_rfl) (fun _ _ _ h=>h) ⟨Or.inl ⟨by rfl,?_⟩,fun _=>rfl⟩ ?_
       rotate_left
       ·(intro w;go_simp;try (with_reducible rfl))
       try simp only[Act.put,List.setIfInBounds_toArray,List.set_cons_zero,List.set_cons_succ]
       refine wpAnyIn_ready (rs:=[3]) (by kernel_rfl) (by simp) ?_
       refine AllReadyIn.cons rfl (fun K hK=>?_) ?_
       ·go_simp
        refine hK _ _ ?_
        clear hK K;refine wpAnyIn_ready (rs:=[4]) (by kernel_rfl) (by simp) ?_
        refine AllReadyIn.cons rfl (fun K hK=>?_) ?_
        ·go_simp
         refine⟨trivial,?_⟩;refine(callsIn_wide.2 HAd).mono ?_
         clear HAd;rintro e W1 ⟨rfl,v1,hS1,hC1⟩;obtain⟨g1,g2,g3,g4⟩:=HPut.out W1 v1 hC1 hS1;have c9:W1.cell? ⟨w1.heap.size,0,none⟩=some (.bool z.1):=by rw[cell_at g4];rfl
         have f9:W1.frozen? ⟨w1.heap.size,0,none⟩=false:=frozen_at g4 0;have HG:=hide (And.intro g1 (And.intro g2 g3));clear g1 g2 g3 g4 hS1 hC1;refine hK _ _ ?_
         clear hK K;refine wpAnyIn_take (i:=5) (v:=?_) rfl rfl (by kernel_rfl) (by kernel_rfl) (by kernel_rfl) (fun _ _ _ h=>h) ⟨Or.inl ⟨by rfl,?_⟩,fun _=>rfl⟩ ?_
         rotate_left
         ·(intro w;go_simp;try (with_reducible rfl))
         try simp only[Act.put,List.setIfInBounds_toArray,List.set_cons_zero,List.set_cons_succ]
         refine wpAnyIn_ready (rs:=[6]) (by kernel_rfl) (by simp) ?_
         refine AllReadyIn.cons rfl (fun K hK=>?_) ?_
         ·go_simp
          refine hK _ _ ?_
          clear hK K;refine wpAnyIn_take (i:=7) (v:=?_) rfl rfl (by kernel_rfl) (by kernel_rfl) (by kernel_rfl) (fun _ _ _ h=>h) ⟨Or.inl ⟨by rfl,?_⟩,fun _=>rfl⟩ ?_
          rotate_left
          ·(intro w;go_simp;try (with_reducible rfl))
          try simp only[Act.put,List.setIfInBounds_toArray,List.set_cons_zero,List.set_cons_succ]
          refine wpAnyIn_ready (rs:=[8]) (by kernel_rfl) (by simp) ?_
          refine AllReadyIn.cons rfl (fun K hK=>?_) ?_
          ·go_simp
           refine hK _ _ ?_
           clear hK K;refine wpAnyIn_done (by kernel_rfl) ?_ _;exact⟨⟨HG.out.1,HG.out.2.1,HG.out.2.2⟩,_,_,_,_,_,_,_,_,rfl⟩
          exact AllReadyIn.nil
         exact AllReadyIn.nil
        exact AllReadyIn.nil
       exact AllReadyIn.nil
      refine AllReadyIn.cons rfl (fun K hK=>?_) ?_
      ·go_simp
       refine hK _ _ ?_
       clear hK K;refine wpAnyIn_ready (rs:=[0]) (by kernel_rfl) (by simp) ?_
       refine AllReadyIn.cons rfl (fun K hK=>?_) ?_
       ·go_simp
        refine hK _ _ ?_
        clear hK K;refine wpAnyIn_take (i:=2) (v:=?_) rfl rfl (by kernel_rfl) (by kernel_rfl) (by kernel_rfl) (fun _ _ _ h=>h) ⟨Or.inl ⟨by rfl,?_⟩,fun _=>rfl⟩ ?_
        rotate_left
        ·(intro w;go_simp;try (with_reducible rfl))
        try simp only[Act.put,List.setIfInBounds_toArray,List.set_cons_zero,List.set_cons_succ]
        refine wpAnyIn_ready (rs:=[4]) (by kernel_rfl) (by simp) ?_
        refine AllReadyIn.cons rfl (fun K hK=>?_) ?_
        ·go_simp
         refine⟨trivial,?_⟩;refine(callsIn_wide.2 HAd).mono ?_
         clear HAd;rintro e W1 ⟨rfl,v1,hS1,hC1⟩;obtain⟨g1,g2,g3,g4⟩:=HPut.out W1 v1 hC1 hS1;have c9:W1.cell? ⟨w1.heap.size,0,none⟩=some (.bool z.1):=by rw[cell_at g4];rfl
         have f9:W1.frozen? ⟨w1.heap.size,0,none⟩=false:=frozen_at g4 0;have HG:=hide (And.intro g1 (And.intro g2 g3));clear g1 g2 g3 g4 hS1 hC1;refine hK _ _ ?_
         clear hK K;refine wpAnyIn_take (i:=5) (v:=?_) rfl rfl (by kernel_rfl) (by kernel_rfl) (by kernel_rfl) (fun _ _ _ h=>h) ⟨Or.inl ⟨by rfl,?_⟩,fun _=>rfl⟩ ?_
         rotate_left
         ·(intro w;go_simp;try (with_reducible rfl))
         try simp only[Act.put,List.setIfInBounds_toArray,List.set_cons_zero,List.set_cons_succ]
         refine wpAnyIn_ready (rs:=[6]) (by kernel_rfl) (by simp) ?_
         refine AllReadyIn.cons rfl (fun K hK=>?_) ?_
         ·go_simp
          refine hK _ _ ?_
          clear hK K;refine wpAnyIn_take (i:=7) (v:=?_) rfl rfl (by kernel_rfl) (by kernel_rfl) (by kernel_rfl) (fun _ _ _ h=>h) ⟨Or.inl ⟨by rfl,?_⟩,fun _=>rfl⟩ ?_
          rotate_left
          ·(intro w;go_simp;try (with_reducible rfl))
          try simp only[Act.put,List.setIfInBounds_toArray,List.set_cons_zero,List.set_cons_succ]
          refine wpAnyIn_ready (rs:=[8]) (by kernel_rfl) (by simp) ?_
          refine AllReadyIn.cons rfl (fun K hK=>?_) ?_
          ·go_simp
           refine hK _ _ ?_
           clear hK K;refine wpAnyIn_done (by kernel_rfl) ?_ _;exact⟨⟨HG.out.1,HG.out.2.1,HG.out.2.2⟩,_,_,_,_,_,_,_,_,rfl⟩
          exact AllReadyIn.nil
         exact AllReadyIn.nil
        exact AllReadyIn.nil
       exact AllReadyIn.nil
      exact AllReadyIn.nil
     rintro a Y ⟨⟨HJ,kf,kp,kf3⟩,z44,z45,z46,z47,z48,z49,z50,z51,rfl⟩;have HJ2:=hide (And.intro HJ (kf3.same D _ hD HKD.out rfl));clear HJ HPut kf3;gi_wp2
     refine⟨kf,kp,?_⟩;show HpJ _ _ _ _ _ _ _ _∧_;rw[HE9.out];exact HJ2.out
    ·have hst1:lstep ld z x=(true,z.2.set x (addS ld (z.2.getD x []))):=by unfold lstep;rw[hnew];rfl
     have HPut:Hid (∀W1 v',SetCh W.drew W1 bp x pv'.toArray TP (pv'.getD x nilV) v'→SetV W1 Bp v' (addS ld (z.2.getD x []))→HpJ W3 Bp bp n pv1 w1.heap.size (lstep ld z x) (W1.setCell ⟨w1.heap.size,0,none⟩ (.bool (true)))∧KeepsFrom W3.heap.size W (W1.setCell ⟨w1.heap.size,0,none⟩ (.bool (true)))∧(KpB LB2 W (W1.setCell ⟨w1.heap.size,0,none⟩ (.bool (true)))∧KeepsFrom X3.heap.size W (W1.setCell ⟨w1.heap.size,0,none⟩ (.bool (true))))∧W1.heap[w1.heap.size]?=some (.cells #[.bool z.1] 4 (0,0))):=by
      refine hide (fun W1 v' hC hS=>?_);obtain⟨a1,a2,a3,a4⟩:=HD.out.1.put hx hC hS (true) HD.out.2;rw[hst1];exact⟨⟨_,a1⟩,(kb_keepsFrom (L:=[]) (Kb.refl [] W).drew (by simp) _).trans (a2 _),⟨fun b hb=>(a3 b hb),(kb_keepsFrom (L:=[]) (Kb.refl [] W).drew (by simp) _).trans (a2 _)⟩,a4⟩
     clear hst1;gi_wp2
     refine wpIn_nrmG (K:=fun a Y=>(HpJ W3 Bp bp n pv1 w1.heap.size (lstep ld z x) Y∧KeepsFrom W3.heap.size W Y∧KpB LB2 W Y∧KeepsFrom X3.heap.size W Y)∧∃z44 z45 z46 z47 z48 z49 z50 z51,a={ tmps:=#[.pointer (some ⟨G.bg,0,none⟩),.slice (some ⟨bp,0,none⟩) n n,.int .u64 (i:Int),.int .u64 (ld:Int),undef,.pointer (some ⟨w.heap.size,0,none⟩),.pointer (some ⟨w.heap.size+1,0,none⟩),.pointer (some ⟨w.heap.size+1+1,0,none⟩),.bool false,.pointer (some ⟨w1.heap.size,0,none⟩),.pointer (some ⟨b6,0,none⟩),.pointer (some ⟨b7,0,none⟩),undef,.int .u64 (x:Int),.slice (some ⟨bp,0,none⟩) n n,.int .u64 (i:Int),.pointer (some ⟨bp,i,none⟩),.bool false,y18,y19,y20,y21,y22,y23,y24,y25,y26,y27,y28,y29,.func (.func 127) #[] #[.pointer (some ⟨bw,0,none⟩)],undef,undef,undef,undef,undef,undef,undef,undef,undef,undef,undef,.func (.func 127) #[] #[.pointer (some ⟨bw2,0,none⟩)],.int .u64 (x:Int),z44,z45,z46,z47,z48,z49,z50,z51,undef],defers:=[] }) ?_ ?_
     ·skip
      refine wpIn_region_any (by kernel_rfl) ?_
      (try (change wpAnyIn _ _ _ _ _ _ _ _ _ (World.drew _)))
      change wpAnyIn (Fence.wide.inRound l) _ _ _ _ _ _ _ _ _;refine wpAnyIn_round (by kernel_rfl) _ _ _ _ ?_
      refine wpAnyIn_take (i:=1) (v:=?_) rfl rfl (by kernel_rfl) (by kernel_rfl) (by kernel_rfl) (fun _ _ _ h=>h) ⟨Or.inl ⟨by rfl,?_⟩,fun _=>rfl⟩ ?_
      rotate_left
      ·(intro w;go_simp;try (with_reducible rfl))
      try simp only[Act.put,List.setIfInBounds_toArray,List.set_cons_zero,List.set_cons_succ]
      refine wpAnyIn_ready (rs:=[0,3]) (by kernel_rfl) (by simp) ?_
      refine AllReadyIn.cons rfl (fun K hK=>?_) ?_
      ·go_simp
       refine hK _ _ ?_
       clear hK K;refine wpAnyIn_take (i:=2) (v:=?_) rfl rfl (by kernel_rfl) (by kernel_rfl) (by kernel_rfl) (fun _ _ _ h=>h) ⟨Or.inl ⟨by rfl,?_⟩,fun _=>rfl⟩ ?_
       rotate_left
       ·(intro w;go_simp;try (with_reducible rfl))
       try simp only[Act.put,List.setIfInBounds_toArray,List.set_cons_zero,List.set_cons_succ]
       refine wpAnyIn_ready (rs:=[3]) (by kernel_rfl) (by simp) ?_
       refine AllReadyIn.cons rfl (fun K hK=>?_) ?_
       ·go_simp
        refine hK _ _ ?_
        clear hK K;refine wpAnyIn_ready (rs:=[4]) (by kernel_rfl) (by simp) ?_
        refine AllReadyIn.cons rfl (fun K hK=>?_) ?_
        ·go_simp
         refine⟨trivial,?_⟩;refine(callsIn_wide.2 HAd).mono ?_
         clear HAd;rintro e W1 ⟨rfl,v1,hS1,hC1⟩;obtain⟨g1,g2,g3,g4⟩:=HPut.out W1 v1 hC1 hS1;have c9:W1.cell? ⟨w1.heap.size,0,none⟩=some (.bool z.1):=by rw[cell_at g4];rfl
         have f9:W1.frozen? ⟨w1.heap.size,0,none⟩=false:=frozen_at g4 0;have HG:=hide (And.intro g1 (And.intro g2 g3));clear g1 g2 g3 g4 hS1 hC1;refine hK _ _ ?_
         clear hK K;refine wpAnyIn_take (i:=5) (v:=?_) rfl rfl (by kernel_rfl) (by kernel_rfl) (by kernel_rfl) (fun _ _ _ h=>h) ⟨Or.inl ⟨by rfl,?_⟩,fun _=>rfl⟩ ?_
         rotate_left
         ·(intro w;go_simp;try (with_reducible rfl))
         try simp only[Act.put,List.setIfInBounds_toArray,List.set_cons_zero,List.set_cons_succ]
         refine wpAnyIn_take (i:=6) (v:=undef) rfl rfl (by kernel_rfl) (by kernel_rfl) (by kernel_rfl) (fun _ _ _ h=>h) ⟨Or.inr ⟨by rfl,rfl⟩,fun _=>rfl⟩ ?_
         try simp only[Act.put,List.setIfInBounds_toArray,List.set_cons_zero,List.set_cons_succ]
         refine wpAnyIn_take (i:=7) (v:=?_) rfl rfl (by kernel_rfl) (by kernel_rfl) (by kernel_rfl) (fun _ _ _ h=>h) ⟨Or.inl ⟨by rfl,?_⟩,fun _=>rfl⟩ ?_
         rotate_left
         ·(intro w;go_simp;try (with_reducible rfl))
         try simp only[Act.put,List.setIfInBounds_toArray,List.set_cons_zero,List.set_cons_succ]
         refine wpAnyIn_ready (rs:=[8]) (by kernel_rfl) (by simp) ?_
         refine AllReadyIn.cons rfl (fun K hK=>?_) ?_
         ·go_simp
          refine hK _ _ ?_
          clear hK K;refine wpAnyIn_done (by kernel_rfl) ?_ _;exact⟨⟨HG.out.1,HG.out.2.1,HG.out.2.2⟩,_,_,_,_,_,_,_,_,rfl⟩
         exact AllReadyIn.nil
        exact AllReadyIn.nil
       exact AllReadyIn.nil
      refine AllReadyIn.cons rfl (fun K hK=>?_) ?_
      ·go_simp
       refine hK _ _ ?_
       clear hK K;refine wpAnyIn_ready (rs:=[0]) (by kernel_rfl) (by simp) ?_
       refine AllReadyIn.cons rfl (fun K hK=>?_) ?_
       ·go_simp
        refine hK _ _ ?_
        clear hK K;refine wpAnyIn_take (i:=2) (v:=?_) rfl rfl (by kernel_rfl) (by kernel_rfl) (by kernel_rfl) (fun _ _ _ h=>h) ⟨Or.inl ⟨by rfl,?_⟩,fun _=>rfl⟩ ?_
        rotate_left
        ·(intro w;go_simp;try (with_reducible rfl))
        try simp only[Act.put,List.setIfInBounds_toArray,List.set_cons_zero,List.set_cons_succ]
        refine wpAnyIn_ready (rs:=[4]) (by kernel_rfl) (by simp) ?_
        refine AllReadyIn.cons rfl (fun K hK=>?_) ?_
        ·go_simp
         refine⟨trivial,?_⟩;refine(callsIn_wide.2 HAd).mono ?_
         clear HAd;rintro e W1 ⟨rfl,v1,hS1,hC1⟩;obtain⟨g1,g2,g3,g4⟩:=HPut.out W1 v1 hC1 hS1;have c9:W1.cell? ⟨w1.heap.size,0,none⟩=some (.bool z.1):=by rw[cell_at g4];rfl
         have f9:W1.frozen? ⟨w1.heap.size,0,none⟩=false:=frozen_at g4 0;have HG:=hide (And.intro g1 (And.intro g2 g3));clear g1 g2 g3 g4 hS1 hC1;refine hK _ _ ?_
         clear hK K;refine wpAnyIn_take (i:=5) (v:=?_) rfl rfl (by kernel_rfl) (by kernel_rfl) (by kernel_rfl) (fun _ _ _ h=>h) ⟨Or.inl ⟨by rfl,?_⟩,fun _=>rfl⟩ ?_
         rotate_left
         ·(intro w;go_simp;try (with_reducible rfl))
         try simp only[Act.put,List.setIfInBounds_toArray,List.set_cons_zero,List.set_cons_succ]
         refine wpAnyIn_take (i:=6) (v:=undef) rfl rfl (by kernel_rfl) (by kernel_rfl) (by kernel_rfl) (fun _ _ _ h=>h) ⟨Or.inr ⟨by rfl,rfl⟩,fun _=>rfl⟩ ?_
         try simp only[Act.put,List.setIfInBounds_toArray,List.set_cons_zero,List.set_cons_succ]
         refine wpAnyIn_take (i:=7) (v:=?_) rfl rfl (by kernel_rfl) (by kernel_rfl) (by kernel_rfl) (fun _ _ _ h=>h) ⟨Or.inl ⟨by rfl,?_⟩,fun _=>rfl⟩ ?_
         rotate_left
         ·(intro w;go_simp;try (with_reducible rfl))
         try simp only[Act.put,List.setIfInBounds_toArray,List.set_cons_zero,List.set_cons_succ]
         refine wpAnyIn_ready (rs:=[8]) (by kernel_rfl) (by simp) ?_
         refine AllReadyIn.cons rfl (fun K hK=>?_) ?_
         ·go_simp
          refine hK _ _ ?_
          clear hK K;refine wpAnyIn_done (by kernel_rfl) ?_ _;exact⟨⟨HG.out.1,HG.out.2.1,HG.out.2.2⟩,_,_,_,_,_,_,_,_,rfl⟩
         exact AllReadyIn.nil
        exact AllReadyIn.nil
       exact AllReadyIn.nil
      exact AllReadyIn.nil
     rintro a Y ⟨⟨HJ,kf,kp,kf3⟩,z44,z45,z46,z47,z48,z49,z50,z51,rfl⟩;have HJ2:=hide (And.intro HJ (kf3.same D _ hD HKD.out rfl));clear HJ HPut kf3;gi_wp2
     refine⟨kf,kp,?_⟩;show HpJ _ _ _ _ _ _ _ _∧_;rw[HE9.out];exact HJ2.out
   case done2=>
    rintro D2 xs2 W4 hD2 hxs2 ⟨⟨pv2,p2⟩,hkd⟩ hK2;have hxv2:valsM xs2=s.standing (s.ld i):=hxs2;rw[hxv2,← HZ1.out]at p2;obtain⟨p1,k3⟩:=HP2.out;obtain⟨f1,f2,f3,f4⟩:=hp_end (D:=D) (D2:=D2) HL3.out.1 HL3.out.2 q9f (by omega) hdX p1 k3 p2 hD (by omega) hkd hK2 (by omega);have c9:W4.cell? ⟨w1.heap.size,0,none⟩=some (.bool (s.handParts ps i ld).1):=by rw[cell_at p2.fl];rfl
    have HF:=hide (And.intro f2 (And.intro f3 f4));have HK:=hide (And.intro hK2 f1);obtain⟨fl,hfl⟩:∃fl,fl=(s.handParts ps i ld).1:=⟨_,rfl⟩;rw[← hfl]at c9;have HFL:=hide hfl;clear f1 f2 f3 f4 p1 p2 k3 hkd hK2 hfl HP2;gi_wp2
    refine⟨by simp,.inl ⟨_,_,rfl,run_takeDeferred HK.out.1,?_⟩⟩;refine⟨by simp,.inl ⟨_,_,rfl,run_takeDeferred HK.out.2,?_⟩⟩;exact⟨_,results_tmp rfl _ _ _,by rw[← HFL.out];rfl,_,_,HF.out.1,HF.out.2.1,HF.out.2.2⟩
 ·have eH:s.handParts ps i ld=(false,ps):=by
   unfold St.handParts;rw[if_pos hem]
  have HF:=hide (And.intro L1.gm (And.intro (HP0.out.2.1.kb k01 (by simp)) (And.intro L1.ch k01)));clear L1;gi_wp2
  exact⟨_,results_tmp rfl _ _ _,by rw[eH];rfl,G,pv,HF.out.1,by rw[eH];exact HF.out.2.1,HF.out.2.2.2.mono (by simp),fun b hb=>.inl hb,fun b hb=>.inl hb,HP0.out.2.2,rfl,rfl,rfl⟩
end
end Go.Proofs.YtiamlbhkiehilaaGreatDoor
