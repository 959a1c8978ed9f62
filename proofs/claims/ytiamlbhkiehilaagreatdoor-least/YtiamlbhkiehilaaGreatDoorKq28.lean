import Derived.Test.YtiamlbhkiehilaaGreatDoorKq26
import Derived.Test.YtiamlbhkiehilaaGreatDoorKq27
namespace Go.Proofs.YtiamlbhkiehilaaGreatDoor
section
open Go.RowKit Go.Shelf
attribute [local go_sem] Oper.semAt_some
variable {B:Nat} {c:Way} {n:Nat} {s:St}
abbrev TP:TypeId:=230
abbrev TPs:TypeId:=210
def sstep(ps:List (List Nat))(a:Nat)(x:Bool × St)(b:Nat):Bool × St:=if a<b && ps.getD a [] == ps.getD b []then mstep a x b else x
def sround(ps:List (List Nat))(al:List Nat)(x:Bool × St)(a:Nat):Bool × St:=al.foldl (sstep ps a) x
theorem mergeSame_eq(s:St)(n:Nat)(ps:List (List Nat)):s.mergeSame n ps=(s.all n).foldl (sround ps (s.all n)) (false,s):=rfl
theorem WF.ssteps{ps:List (List Nat)}{a:Nat}(ha:a<n):∀(l:List Nat) (x:Bool × St),WF n x.2→(∀b∈l,b<n)→WF n (l.foldl (sstep ps a) x).2∧(l.foldl (sstep ps a) x).2.un≤x.2.un+l.length:=by
 intro l;induction l with
 |nil=>exact fun x h _=>⟨h,Nat.le_refl _⟩
 |cons b r ih=>
  intro x h hl;have hb:=hl b List.mem_cons_self;have key:WF n (sstep ps a x b).2∧(sstep ps a x b).2.un≤x.2.un+1:=by
   unfold sstep;split
   ·exact⟨h.merge ha hb,St.merge_un x.2 h.len (h.lt ha) (h.lt hb)⟩
   ·exact⟨h,Nat.le_succ _⟩
  obtain⟨i1,i2⟩:=ih (sstep ps a x b) key.1 (fun y hy=>hl y (List.mem_cons_of_mem _ hy));refine⟨i1,?_⟩;simp only[List.foldl_cons,List.length_cons];have:=key.2;omega
theorem WF.srounds{ps:List (List Nat)}{al:List Nat}(ht:∀b∈al,b<n)(hl:al.length≤40):∀(l:List Nat) (x:Bool × St),WF n x.2→(∀b∈l,b<n)→WF n (l.foldl (sround ps al) x).2∧(l.foldl (sround ps al) x).2.un≤x.2.un+l.length*40:=by
 intro l;induction l with
 |nil=>exact fun x h _=>⟨h,by simp⟩
 |cons b r ih=>
  intro x h hr;obtain⟨j1,j2⟩:=WF.ssteps (ps:=ps) (hr b List.mem_cons_self) al x h ht;obtain⟨i1,i2⟩:=ih (sround ps al x b) j1 (fun y hy=>hr y (List.mem_cons_of_mem _ hy));refine⟨i1,?_⟩;simp only[List.foldl_cons,List.length_cons];have:(sround ps al x b).2.un≤x.2.un+al.length:=j2;rw[Nat.succ_mul];omega
def pvts(n:Nat)(pv:List Value)(ps:List (List Nat))(B2:Nat):List (Value × List Nat × Nat):=(List.range n).map fun i=>(pv.getD i (.slice none 0 0),ps.getD i [],B2)
def MsO(w:World)(B:Nat)(c:Way)(n:Nat)(G:GV)(ps:List (List Nat))(al:List Nat)(s:St)(L:List Nat)(bxs:Bool→List (Nat × Array Value × TypeId))(vts:List (Value × List Nat × Nat))(pre:List Nat)(W:World):Prop:=
 ∃G',LI w B c n G L (bxs (pre.foldl (sround ps al) (false,s)).1) vts W (pre.foldl (sround ps al) (false,s)).2 G'
def MsN(w:World)(B:Nat)(c:Way)(n:Nat)(G:GV)(ps:List (List Nat))(x:Nat)(y0:Bool × St)(L L2:List Nat)(bxs:Bool→List (Nat × Array Value × TypeId))(vts:List (Value × List Nat × Nat))(pre2:List Nat)(D:Nat)(W Y:World):Prop:=
 ∃G',LI w B c n G L2 (bxs (pre2.foldl (sstep ps x) y0).1) vts Y (pre2.foldl (sstep ps x) y0).2 G'∧KeepsFrom D W Y∧KpB L W Y
set_option linter.unusedSimpArgs false in
set_option maxRecDepth 100000 in
set_option maxHeartbeats 8000000 in
theorem gsame_any(bp B2:Nat)(pv:List Value)(ps:List (List Nat))(w:World)(G:GV)(h:GM w B c n G s)(hw:WF n s)(hT:TabAt w)(hTl:0<B)(hp:w.heap[bp]?=some (.cells pv.toArray TP (0,0)))(hpl:pv.length=n)(hps:∀i,i<n→SetV w B2 (pv.getD i (.slice none 0 0)) (ps.getD i []))(hpf:bp ∉ G.foot)(hvf:∀v∈pv,∀g,v.ownBlock=some g→g ∉ G.foot)(hu:s.un+20000<4611686018427387904) :
  Calls Tryz.prog 151 #[.pointer (some ⟨G.bg,0,none⟩),.slice (some ⟨bp,0,none⟩) n n] w fun e w'=>e=.returned (.bool (s.mergeSame n ps).1)∧∃G',GM w' B c n G' (s.mergeSame n ps).2∧GCh w w' G G':=by
 have hn:=h.n40;have TT:Hid (∀ {W:World} {G':GV},GCh w W G G'→TabAt W):=hide (fun hc=>hT.kb hc.kb (fun hm=>by have:=(h.cells hm).1;omega));obtain⟨W0,hW0⟩:∃W0,W0=((w.alloc (.cells #[.pointer (some ⟨G.bg,0,none⟩)] 101)).alloc (.cells #[.slice (some ⟨bp,0,none⟩) n n] TPs)).alloc (.cells #[.bool false] 4):=⟨_,rfl⟩;have k0:Kb [] w W0:=by rw[hW0];exact(((Kb.refl [] w).alloc _).alloc _).alloc _
 have h0:=h.fresh k0;have z0:W0.heap.size=w.heap.size+3:=by rw[hW0];simp
 have x0:W0.heap[w.heap.size]?=some (.cells #[.pointer (some ⟨G.bg,0,none⟩)] 101 (0,0)):=by rw[hW0];exact heap_old (heap_old (heap_new _ _) _) _
 have p0:W0.heap[w.heap.size+1]?=some (.cells #[.slice (some ⟨bp,0,none⟩) n n] TPs (0,0)):=by
  rw[hW0];have:=heap_new (w.alloc (.cells #[.pointer (some ⟨G.bg,0,none⟩)] 101)) (.cells #[.slice (some ⟨bp,0,none⟩) n n] TPs);rw[World.size_alloc]at this;exact heap_old this _
 have m0:W0.heap[w.heap.size+2]?=some (.cells #[.bool false] 4 (0,0)):=by
  rw[hW0];have:=heap_new ((w.alloc (.cells #[.pointer (some ⟨G.bg,0,none⟩)] 101)).alloc (.cells #[.slice (some ⟨bp,0,none⟩) n n] TPs)) (.cells #[.bool false] 4);rw[World.size_alloc,World.size_alloc]at this;exact this
 have cx0:W0.cell? ⟨w.heap.size,0,none⟩=some (.pointer (some ⟨G.bg,0,none⟩)):=by rw[cell_at x0];rfl
 have HAl:=gall_any W0 G h0 hw.rep;have nf:∀b,w.heap.size≤b→b ∉ G.foot:=fun b hb hm=>by have:=h.footlt b hm;omega
 have LP:LI w B c n G [] [(bp,pv.toArray,TP)] (pvts n pv ps B2) w s G:=by
  refine⟨h,GCh.refl _ _,fun q hq=>?_,fun q hq=>?_,by simp⟩
  ·rw[List.mem_singleton.1 hq];exact⟨hp,hpf⟩
  ·unfold pvts at hq;obtain⟨i,hi,rfl⟩:=List.mem_map.1 hq;rw[List.mem_range]at hi;refine⟨hps i hi,fun g hg=>hvf _ ?_ g hg⟩;have hil:i<pv.length:=by omega
   dsimp only;rw[List.getD_eq_getElem?_getD,List.getElem?_eq_getElem hil];exact List.getElem_mem hil
 have L1:=(((LP.fresh k0).1.addBox p0 (nf _ (by omega))).addBox x0 (nf _ (Nat.le_refl _))).addBox m0 (nf _ (by omega));refine(callsIn_wide (n:=30)).1 ?_
 refine callsIn_of_wp_marks Tryz.func151 rfl trivial ?_ rfl;simp only[Tryz.ntmps151,List.size_toArray,List.length_cons,List.length_nil,Nat.reduceAdd,Nat.reduceSub,Array.replicate_succ,Array.replicate_zero,List.push_toArray,List.append_toArray,List.nil_append,List.cons_append];rw[hW0]at HAl cx0;have HL1:=hide L1;have HPs:=hide hps;clear L1 LP hps x0 p0 m0;gi_wp2
 refine⟨trivial,?_⟩;refine(callsIn_wide.2 HAl).mono ?_
 clear HAl;rintro e V1 ⟨G1,v,rfl,hG1,hC1,hN1⟩;rw[← hW0]at hC1 hN1;obtain⟨uo,ul,uc,rfl⟩:=hN1.set.form;obtain⟨V2,hV2⟩:∃V2,V2=V1.alloc (.cells #[.slice uo ul uc] TSet):=⟨_,rfl⟩;have kV:Kb [] V1 V2:=by rw[hV2];exact(Kb.refl [] V1).alloc _
 have aV:V2.heap[V1.heap.size]?=some (.cells #[.slice uo ul uc] TSet (0,0)):=by rw[hV2];exact heap_new _ _
 have hN2:=hN1.set.kb kV (by simp);have L2:=((((HL1.out.call hG1 hC1).1.fresh kV).1.addBox aV (fun hm=>by have:=hG1.footlt _ hm;omega))).addSet hN2 hN1.out;have hz1:=hC1.kb.size;have hz2:=kV.size;have HA:=all_any W0.heap.size V1.heap.size 0 #[.slice uo ul uc] TSet (.slice uo ul uc) (s.all n) V2 aV rfl hN2;rw[hV2]at HA;have hal:(s.all n).length≤40:=by have:=hN2.len (fun x hx=>hw.allLt hx);omega
 have HL2:=hide L2;clear L2 hG1 hC1 hN1 kV aV h0 HL1 hN2;gi_wp2
 refine⟨trivial,?_⟩;refine(callsIn_wide.2 HA).mono ?_
 clear HA;rintro e W1 ⟨bw,va,rfl,hbw,hbwc,hva,k1⟩;rw[← hV2]at hva k1 hbw;have L1':=(HL2.out.fresh k1).1;obtain⟨L,hL⟩:∃L,L=0::va.ownBlock.toList:=⟨_,rfl⟩;have hwB:=h.hB;have hLp:∀b∈L,b ∉ G1.foot∧b<W1.heap.size∧b≠w.heap.size+2:=by
  intro b hb;rw[hL]at hb;rcases List.mem_cons.1 hb with rfl|hb
  ·exact⟨fun hm=>by have:=(L1'.gm.cells hm).1;omega,by have:=L1'.gm.hB;omega,by omega⟩
  ·simp at hb;have:=(hva.lt hb).1;exact⟨HL2.out.newer (hva.lt hb).1,(hva.lt hb).2,by omega⟩
 have hLlt:∀b∈L,b<W1.heap.size:=fun b hb=>(hLp b hb).2.1
 have hLm:w.heap.size+2 ∉ L:=fun hm=>(hLp _ hm).2.2 rfl
 have hst:=all_stops 29 bw V2.heap.size va (s.all n) L W1 hbwc hva (TT.out L1'.ch) (fun g hg=>by rw[hL];simp[hg]) (by rw[hL];simp);have hsz:=L1'.ch.kb.size;obtain⟨bxs,hbxs⟩:∃bxs:Bool→List (Nat × Array Value × TypeId),bxs=fun f=>[(w.heap.size+2,#[.bool f],4),(w.heap.size,#[.pointer (some ⟨G.bg,0,none⟩)],101),(w.heap.size+1,#[.slice (some ⟨bp,0,none⟩) n n],TPs),(V1.heap.size,#[.slice uo ul uc],TSet),(bp,pv.toArray,TP)]:=⟨_,rfl⟩
 obtain⟨vts,hvts⟩:∃vts,vts=(Value.slice uo ul uc,s.all n,W0.heap.size)::pvts n pv ps B2:=⟨_,rfl⟩;have LL:LI w B c n G L (bxs false) vts W1 s G1:=by
  refine⟨L1'.gm,L1'.ch,fun q hq=>L1'.bx q ?_,fun q hq=>L1'.vt q (by rw[hvts]at hq;exact hq),fun b hb=>⟨(hLp b hb).1,(hLp b hb).2.1⟩⟩;rw[hbxs]at hq;simp only[List.mem_cons,List.not_mem_nil,or_false]at hq ⊢;rcases hq with rfl|rfl|rfl|rfl|rfl
  ·exact .inr (.inl rfl)
  ·exact .inr (.inr (.inl rfl))
  ·exact .inr (.inr (.inr (.inl rfl)))
  ·exact .inl rfl
  ·exact .inr (.inr (.inr (.inr rfl)))
 have HLL:=hide LL;have HLo:=hide hL;have HB:=hide hbxs;have HV:=hide hvts;have hz3:=k1.size;clear hva hbwc k1 hbw hW0 cx0 k0 L1' hL hLp LL HL2 hV2 hbxs hvts;gi_wp2
 refine wpIn_rangeFunc_ownH (α:=Mem (s.all n)) (hro:=rfl) (h1:=by omega) (gf:=127) (lb:=#[.pointer (some ⟨bw,0,none⟩)]) rfl trivial (enters_of Tryz.func127 (by kernel_rfl) rfl) hst (fun h1 h2=>h1.trans h2) (kpB_b hLlt) (Below.refl _ _) (fun _=>rfl)
  (fun pre W=>MsO w B c n G ps (s.all n) s L bxs vts (valsM pre) W)
  (fun _ _ _=>False) ?hI (fun _ _ _ _ _ hs _ _=>hs) ⟨G1,HLL.out⟩
  (fun x a' W=>∃Bx G0 s0,W.heap[Bx]?=some (.cells #[.int .u64 (x.1:Int)] TN (0,0))∧GM W B c n G0 s0∧G0.bg=G.bg∧Bx ∉ G0.foot∧a'={ tmps:=#[.pointer (some ⟨G.bg,0,none⟩),.slice (some ⟨bp,0,none⟩) n n,.pointer (some ⟨w.heap.size,0,none⟩),.pointer (some ⟨w.heap.size+1,0,none⟩),.bool false,.pointer (some ⟨w.heap.size+1+1,0,none⟩),.pointer (some ⟨V1.heap.size,0,none⟩),.pointer (some ⟨Bx,0,none⟩),undef,.pointer (some ⟨G.bg,0,none⟩),.agg #[.slice uo ul uc],.func (.func 127) #[] #[.pointer (some ⟨bw,0,none⟩)],.int .u64 (x.1:Int),undef,undef,undef,undef,undef,undef,undef,undef,undef,undef,undef,undef,undef,undef,undef,undef,undef,undef,undef,undef,undef,undef],defers:=[] }) ?hAx ?assign ?body ?done ?stop
 case hI=>
  rintro pre W W' row ⟨G',p1⟩ hg hr;exact⟨G',p1.own hsz hg hr⟩
 case hAx=>
  rintro x a' _ W W' row ⟨Bx,G0,s0,q2,q3,q4,q5,q6⟩ hg hr;have hk:=kb_grown hg;refine⟨Bx,G0,s0,hk.heap q2 (fun hm=>?_),q3.beside hk (fun b hb=>?_),q4,q5,q6⟩
  ·obtain⟨_,o,ho,hc⟩:=hr Bx (by simpa using hm);rw[q2]at ho;cases ho;cases hc
  ·obtain⟨_,o,ho,hc⟩:=hr b (by simpa using hb);exact q3.notfoot ho hc
 case assign=>
  rintro l pre x W K ⟨G',p1⟩ hK;have kA:Kb [] W (W.alloc (.cells #[.int .u64 (x.1:Int)] TN)):=(Kb.refl [] W).alloc _;obtain⟨z1,z2,z3⟩:=p1.fresh kA;dsimp only[encN,Array.zip,Array.foldl];gi_wp2
  exact hK _ _ (z2 _) z3 ⟨G',z1⟩ ⟨W.heap.size,G',_,heap_new _ _,z1.gm,p1.ch.e1,p1.newer (Nat.le_refl _),rfl⟩
 case stop=>
  rintro D cc pre X _ _ hF _;exact hF.elim
 case done=>
  rintro D xs W hD hxs ⟨G',p1⟩ hK;have hxv:valsM xs=s.all n:=hxs;rw[hxv,← mergeSame_eq]at p1;have cm:=p1.cell (b:=w.heap.size+1+1) (v:=.bool (s.mergeSame n ps).1) (T:=4) (by rw[HB.out];simp);have p9:=p1.turned hK rfl (by omega) (.deferred none);have HF:=hide (And.intro p9.gm p9.ch);clear p1 p9;obtain⟨fl,hfl⟩:∃fl,fl=(s.mergeSame n ps).1:=⟨_,rfl⟩;rw[← hfl]at cm;have HFL:=hide hfl;clear hfl;gi_wp2
  refine⟨by simp,.inl ⟨_,_,rfl,run_takeDeferred hK,?_⟩⟩;exact⟨_,results_tmp rfl _ _ _,by rw[← HFL.out];rfl,_,HF.out.1,HF.out.2⟩
 case body=>
  rintro l pre ⟨x,hxT⟩ a' W hl ⟨r,hr⟩ ⟨G',p1⟩ ⟨Bx,G0,s0,q2,q3,q4,q5,rfl⟩ hlen;have hx:=hw.allLt hxT;have hBx:Bx ∉ G'.foot:=by rw[p1.gm.foot_eq q3 (p1.ch.e1.trans q4.symm)];exact q5
  have hvl0:(valsM pre).length=pre.length:=by unfold valsM;rw[List.length_map]
  obtain⟨wf,hun⟩:=WF.srounds (ps:=ps) (fun b hb=>hw.allLt hb) hal (valsM pre) (false,s) hw (by intro b hb;obtain⟨y,_,rfl⟩:=List.mem_map.1 hb;exact hw.allLt y.2);have e9:(valsM (pre++[(⟨x,hxT⟩:Mem (s.all n))])).foldl (sround ps (s.all n)) (false,s)=(s.all n).foldl (sstep ps x) ((valsM pre).foldl (sround ps (s.all n)) (false,s)):=by unfold valsM;rw[List.map_append,List.foldl_append];rfl
  have HE9:=hide e9;have hplen:pre.length<(s.all n).length:=hlen;have hpu:((valsM pre).foldl (sround ps (s.all n)) (false,s)).2.un≤s.un+1600:=by
   have h9:(false,s).2.un=s.un:=rfl;rw[h9,hvl0]at hun;have:pre.length*40≤40*40:=Nat.mul_le_mul_right 40 (by omega);omega
  clear e9 hun;generalize (valsM pre).foldl (sround ps (s.all n)) (false,s)=y0 at *;have P1:=p1.addBox q2 hBx;have HAl:=all_any W0.heap.size V1.heap.size 0 #[.slice uo ul uc] TSet (.slice uo ul uc) (s.all n) W (p1.bx (V1.heap.size,#[.slice uo ul uc],TSet) (by rw[HB.out];simp)).1 rfl (p1.vt (.slice uo ul uc,s.all n,W0.heap.size) (by rw[HV.out];simp)).1;have hBw:Bx≠w.heap.size+2:=fun e=>ne_types q2 (p1.bx (w.heap.size+2,#[.bool y0.1],4) (by rw[HB.out];simp)).1 (by dsimp only;decide) e
  have HP1:=hide P1;clear p1 P1 q2 q3 q4 q5 hBx;gi_wp2
  refine⟨trivial,?_⟩;refine(CallsIn.inRound l (callsIn_wide.2 HAl)).mono ?_
  clear HAl;rintro e X3 ⟨bwb,vb,rfl,hbwb,hbwbc,hvb,k3⟩;obtain⟨Q4,Q4a,Q4b⟩:=HP1.out.fresh k3;have hr3:X3.heap[l]?=some (.loop r):=(Q4a W1.heap.size).same l _ hl hr rfl;obtain⟨L2,hL2⟩:∃L2,L2=0::(va.ownBlock.toList++vb.ownBlock.toList):=⟨_,rfl⟩;have hLL:∀b∈L,b∈L2:=by
   intro b hb;rw[HLo.out]at hb;rw[hL2];rcases List.mem_cons.1 hb with rfl|hb
   ·exact List.mem_cons_self
   ·exact List.mem_cons_of_mem _ (List.mem_append.2 (.inl hb))
  have hWw:=HP1.out.ch.kb.size;have hmW:w.heap.size+2<W.heap.size:=lt_of_heap (HP1.out.bx (w.heap.size+2,#[.bool y0.1],4) (by rw[HB.out];simp)).1;have hLp2:∀b∈L2,b ∉ G'.foot∧b<X3.heap.size∧b≠w.heap.size+2:=by
   intro b hb;by_cases hbL:b∈L
   ·exact⟨(Q4.lb b hbL).1,(Q4.lb b hbL).2,fun e=>hLm (e ▸ hbL)⟩
   ·have hbv:vb.ownBlock=some b:=by
     rw[hL2]at hb;rw[HLo.out]at hbL;rcases List.mem_cons.1 hb with rfl|hb
     ·exact absurd List.mem_cons_self hbL
     ·rcases List.mem_append.1 hb with hb|hb
      ·exact absurd (List.mem_cons_of_mem _ hb) hbL
      ·simpa using hb
    exact⟨HP1.out.newer (hvb.lt hbv).1,(hvb.lt hbv).2,by have:=(hvb.lt hbv).1;omega⟩
  have hLlt2:∀b∈L2,b<X3.heap.size:=fun b hb=>(hLp2 b hb).2.1
  have hLm2:w.heap.size+2 ∉ L2:=fun hm=>(hLp2 _ hm).2.2 rfl
  have hstI:=all_stops 27 bwb W.heap.size vb (s.all n) L2 X3 hbwbc hvb (TT.out Q4.ch) (fun g hg=>by rw[hL2];simp[hg]) (by rw[hL2];simp);obtain⟨bxs2,hbxs2⟩:∃bxs2:Bool→List (Nat × Array Value × TypeId),bxs2=fun f=>(w.heap.size+2,#[.bool f],4)::(Bx,#[.int .u64 (x:Int)],TN)::(bxs false).tail:=⟨_,rfl⟩
  have A8:LI w B c n G L2 (bxs2 y0.1) vts X3 y0.2 G':=by
   refine⟨Q4.gm,Q4.ch,fun q hq=>Q4.bx q ?_,Q4.vt,fun b hb=>⟨(hLp2 b hb).1,(hLp2 b hb).2.1⟩⟩;rw[hbxs2,HB.out]at hq;rw[HB.out];simp only[List.tail_cons,List.mem_cons,List.not_mem_nil,or_false]at hq ⊢;rcases hq with rfl|rfl|rfl|rfl|rfl|rfl
   ·exact .inr (.inl rfl)
   ·exact .inl rfl
   ·exact .inr (.inr (.inl rfl))
   ·exact .inr (.inr (.inr (.inl rfl)))
   ·exact .inr (.inr (.inr (.inr (.inl rfl))))
   ·exact .inr (.inr (.inr (.inr (.inr rfl))))
  have HB2:=hide hbxs2;have hWX:W.heap.size≤X3.heap.size:=k3.size;have HA8:=hide (And.intro A8 (And.intro (Q4a W1.heap.size) Q4b));clear Q4 Q4a Q4b A8 hbwbc hvb k3 hLp2 hL2 hbxs2 HP1;gi_wp2
  refine wpIn_rangeFunc_ownN (α:=Mem (s.all n)) (l₀:=l) (r₀:=r) rfl hr3 (by omega) (gf:=127) (lb:=#[.pointer (some ⟨bwb,0,none⟩)]) rfl trivial (enters_of Tryz.func127 (by kernel_rfl) rfl) (hstI.inRound l) (fun h1 h2=>h1.trans h2) (kpB_b hLlt2) (Below.refl _ _) (fun _=>rfl)
   (fun pre2 Y=>MsN w B c n G ps x y0 L L2 bxs2 vts (valsM pre2) W1.heap.size W Y)
   (fun _ _ _=>False) ?hI2 (fun _ _ _ _ _ hs _ _=>hs) ⟨G',HA8.out.1,HA8.out.2.1,HA8.out.2.2⟩
   (fun y a'' _=>a''={ tmps:=#[.pointer (some ⟨G.bg,0,none⟩),.slice (some ⟨bp,0,none⟩) n n,.pointer (some ⟨w.heap.size,0,none⟩),.pointer (some ⟨w.heap.size+1,0,none⟩),.bool false,.pointer (some ⟨w.heap.size+1+1,0,none⟩),.pointer (some ⟨V1.heap.size,0,none⟩),.pointer (some ⟨Bx,0,none⟩),.int .u64 (y.1:Int),.pointer (some ⟨G.bg,0,none⟩),.agg #[.slice uo ul uc],.func (.func 127) #[] #[.pointer (some ⟨bw,0,none⟩)],.int .u64 (x:Int),.func (.func 127) #[] #[.pointer (some ⟨bwb,0,none⟩)],.int .u64 (y.1:Int),undef,undef,undef,undef,undef,undef,undef,undef,undef,undef,undef,undef,undef,undef,undef,undef,undef,undef,undef,undef],defers:=[] }) (fun _ _ _ _ _ _ hs _ _=>hs) ?assign2 ?body2 ?done2 ?stop2
  case hI2=>
   rintro pre2 Y Y' row ⟨G4,c1,c2,c3⟩ hg hr2;refine⟨G4,c1.own (by omega) hg hr2,ownFrom_keepsFrom (w₀:=W) (B':=X3.heap.size) hWX pre2 Y Y' row c2 hg hr2,fun b hb=>?_⟩;rw[← c3 b hb];refine(kb_grown hg).block b (c1.lb b (hLL b hb)).2 (fun hm=>?_);have h8:=(hr2 b (by simpa using hm)).1;have h9:=hLlt2 b (hLL b hb);omega
  case assign2=>
   rintro l2 pre2 y Y K hi hK;dsimp only[encN,Array.zip,Array.foldl];gi_wp2
   exact hK _ _ (KeepsFrom.refl _ _) (KpB.refl _ _) hi rfl
  case stop2=>
   rintro cc pre2 Y _ hF;exact hF.elim
  case done2=>
   rintro xs Y hxs ⟨G4,c1,c2,c3⟩;have hxv:valsM xs=s.all n:=hxs;rw[hxv]at c1;have c5:LI w B c n G L (bxs ((s.all n).foldl (sstep ps x) y0).1) vts Y ((s.all n).foldl (sstep ps x) y0).2 G4:=by
    refine⟨c1.gm,c1.ch,fun q hq=>c1.bx q ?_,c1.vt,fun b hb=>c1.lb b (hLL b hb)⟩;rw[HB.out]at hq;rw[HB2.out,HB.out];simp only[List.tail_cons,List.mem_cons,List.not_mem_nil,or_false]at hq ⊢;rcases hq with rfl|rfl|rfl|rfl|rfl
    ·exact .inl rfl
    ·exact .inr (.inr (.inl rfl))
    ·exact .inr (.inr (.inr (.inl rfl)))
    ·exact .inr (.inr (.inr (.inr (.inl rfl))))
    ·exact .inr (.inr (.inr (.inr (.inr rfl))))
   have HF:=hide (And.intro c2 (And.intro c3 c5));clear c1 c2 c3 c5 hxv;gi_wp2
   refine⟨HF.out.1,HF.out.2.1,G4,?_⟩;rw[HE9.out];exact HF.out.2.2
  case body2=>
   rintro l2 pre2 ⟨y,hyT⟩ a'' Y _ _ ⟨G4,c1,c2,c3⟩ rfl hlen2;have hy:=hw.allLt hyT;obtain⟨wf2,hun2⟩:=WF.ssteps (ps:=ps) hx (valsM pre2) y0 wf (by intro b hb;obtain⟨u,_,rfl⟩:=List.mem_map.1 hb;exact hw.allLt u.2);have hvl:(valsM pre2).length=pre2.length:=by unfold valsM;rw[List.length_map]
   have hp2:pre2.length<(s.all n).length:=hlen2;have e8:(valsM (pre2++[(⟨y,hyT⟩:Mem (s.all n))])).foldl (sstep ps x) y0=sstep ps x ((valsM pre2).foldl (sstep ps x) y0) y:=by unfold valsM;rw[List.map_append,List.foldl_append];rfl
   have HE8:=hide e8;have hun3:((valsM pre2).foldl (sstep ps x) y0).2.un+1<4611686018427387904:=by omega
   clear e8 hun2;generalize (valsM pre2).foldl (sstep ps x) y0=z0 at *;have cg:=c1.cell (b:=w.heap.size) (v:=.pointer (some ⟨G.bg,0,none⟩)) (T:=101) (by rw[HB2.out,HB.out];simp);have cp:=c1.cell (b:=w.heap.size+1) (v:=.slice (some ⟨bp,0,none⟩) n n) (T:=TPs) (by rw[HB2.out,HB.out];simp);have cB:=c1.cell (b:=Bx) (v:=.int .u64 (x:Int)) (T:=TN) (by rw[HB2.out];simp);have hpb:=(c1.bx (bp,pv.toArray,TP) (by rw[HB2.out,HB.out];simp)).1;have spx:=(c1.vt (pv.getD x (.slice none 0 0),ps.getD x [],B2) (by rw[HV.out];exact List.mem_cons_of_mem _ (List.mem_map.2 ⟨x,List.mem_range.2 hx,rfl⟩))).1;have spy:=(c1.vt (pv.getD y (.slice none 0 0),ps.getD y [],B2) (by rw[HV.out];exact List.mem_cons_of_mem _ (List.mem_map.2 ⟨y,List.mem_range.2 hy,rfl⟩))).1;have gpx:∀j,j<n→pv.toArray[j]?=some (pv.getD j (.slice none 0 0)):=fun j hj=>by
    have hjl:j<pv.length:=by omega
    simp[List.getD_eq_getElem?_getD,hjl]
   have hxn:(x:Int)<(n:Int):=by omega
   have hyn:(y:Int)<(n:Int):=by omega
   have HEq:=pequal_any B2 B2 bp x bp y pv.toArray pv.toArray TP TP _ _ _ _ Y.drew hpb (gpx x hx) hpb (gpx y hy) spx spy;have HC:=hide (And.intro c1 (And.intro c2 c3));clear c1 c2 c3 hpb spx spy gpx;gi_wp2
   by_cases hab:(x:Int)<(y:Int)
   ·refine wpIn_nrmG (K:=fun a X=>Kb [] Y X∧∃y15 y16 y17 y18 y19 y20 y21 y22 y23 y24 y25,a={ tmps:=#[.pointer (some ⟨G.bg,0,none⟩),.slice (some ⟨bp,0,none⟩) n n,.pointer (some ⟨w.heap.size,0,none⟩),.pointer (some ⟨w.heap.size+1,0,none⟩),.bool false,.pointer (some ⟨w.heap.size+1+1,0,none⟩),.pointer (some ⟨V1.heap.size,0,none⟩),.pointer (some ⟨Bx,0,none⟩),.int .u64 (y:Int),.pointer (some ⟨G.bg,0,none⟩),.agg #[.slice uo ul uc],.func (.func 127) #[] #[.pointer (some ⟨bw,0,none⟩)],.int .u64 (x:Int),.func (.func 127) #[] #[.pointer (some ⟨bwb,0,none⟩)],.int .u64 (y:Int),y15,y16,y17,y18,y19,y20,y21,y22,y23,y24,y25,.bool (ps.getD x [] == ps.getD y []),undef,undef,undef,undef,undef,undef,undef,undef],defers:=[] }) ?_ ?_
    ·skip
     refine wpIn_region_any (by kernel_rfl) ?_
     (try (change wpAnyIn _ _ _ _ _ _ _ _ _ (World.drew _)))
     change wpAnyIn (Fence.wide.inRound l2) _ _ _ _ _ _ _ _ _;refine wpAnyIn_round (by kernel_rfl) _ _ _ _ ?_
     refine wpAnyIn_take (i:=1) (v:=?_) rfl rfl (by kernel_rfl) (by kernel_rfl) (by kernel_rfl) (fun _ _ _ h=>h) ⟨Or.inl ⟨by rfl,?_⟩,fun _=>rfl⟩ ?_
     rotate_left
     ·(intro w;go_simp;try (with_reducible rfl))
     try simp only[Act.put,List.setIfInBounds_toArray,List.set_cons_zero,List.set_cons_succ]
     refine wpAnyIn_ready (rs:=[0]) (by kernel_rfl) (by simp) ?_
     refine AllReadyIn.cons rfl (fun K hK=>?_) ?_
     ·go_simp
      refine hK _ _ ?_
      clear hK K;refine wpAnyIn_take (i:=2) (v:=?_) rfl rfl (by kernel_rfl) (by kernel_rfl) (by kernel_rfl) (fun _ _ _ h=>h) ⟨Or.inl ⟨by rfl,?_⟩,fun _=>rfl⟩ ?_
      rotate_left
      ·(intro w;go_simp;try (with_reducible rfl))
      try simp only[Act.put,List.setIfInBounds_toArray,List.set_cons_zero,List.set_cons_succ]
      refine wpAnyIn_take (i:=3) (v:=?_) rfl rfl (by kernel_rfl) (by kernel_rfl) (by kernel_rfl) (fun _ _ _ h=>h) ⟨Or.inl ⟨by rfl,?_⟩,fun _=>rfl⟩ ?_
      rotate_left
      ·(intro w;go_simp;try (with_reducible rfl))
      try simp only[Act.put,List.setIfInBounds_toArray,List.set_cons_zero,List.set_cons_succ]
      refine wpAnyIn_take (i:=8) (v:=?_) rfl rfl (by kernel_rfl) (by kernel_rfl) (by kernel_rfl) (fun _ _ _ h=>h) ⟨Or.inl ⟨by rfl,?_⟩,fun _=>rfl⟩ ?_
      rotate_left
      ·(intro w;go_simp;try (with_reducible rfl))
      try simp only[Act.put,List.setIfInBounds_toArray,List.set_cons_zero,List.set_cons_succ]
      refine wpAnyIn_ready (rs:=[4,5,7]) (by kernel_rfl) (by simp) ?_
      refine AllReadyIn.cons rfl (fun K hK=>?_) ?_
      ·go_simp
       refine hK _ _ ?_
       clear hK K;refine wpAnyIn_ready (rs:=[5,7]) (by kernel_rfl) (by simp) ?_
       refine AllReadyIn.cons rfl (fun K hK=>?_) ?_
       ·go_simp
        refine hK _ _ ?_
        clear hK K;refine wpAnyIn_take (i:=6) (v:=?_) rfl rfl (by kernel_rfl) (by kernel_rfl) (by kernel_rfl) (fun _ _ _ h=>h) ⟨Or.inl ⟨by rfl,?_⟩,fun _=>rfl⟩ ?_
        rotate_left
        ·(intro w;go_simp;try (with_reducible rfl))
        try simp only[Act.put,List.setIfInBounds_toArray,List.set_cons_zero,List.set_cons_succ]
        refine wpAnyIn_ready (rs:=[7]) (by kernel_rfl) (by simp) ?_
        refine AllReadyIn.cons rfl (fun K hK=>?_) ?_
        ·go_simp
         refine hK _ _ ?_
         clear hK K;refine wpAnyIn_take (i:=9) (v:=?_) rfl rfl (by kernel_rfl) (by kernel_rfl) (by kernel_rfl) (fun _ _ _ h=>h) ⟨Or.inl ⟨by rfl,?_⟩,fun _=>rfl⟩ ?_
         rotate_left
         ·(intro w;go_simp;try (with_reducible rfl))
         try simp only[Act.put,List.setIfInBounds_toArray,List.set_cons_zero,List.set_cons_succ]
         refine wpAnyIn_ready (rs:=[10]) (by kernel_rfl) (by simp) ?_
         refine AllReadyIn.cons rfl (fun K hK=>?_) ?_
         ·go_simp
          refine⟨trivial,?_⟩;refine(callsIn_wide.2 HEq).mono ?_
          clear HEq;rintro e X ⟨rfl,q,rfl⟩;refine hK _ _ ?_
          clear hK K;refine wpAnyIn_take (i:=11) (v:=?_) rfl rfl (by kernel_rfl) (by kernel_rfl) (by kernel_rfl) (fun _ _ _ h=>h) ⟨Or.inl ⟨by rfl,?_⟩,fun _=>rfl⟩ ?_
          rotate_left
          ·(intro w;go_simp;try (with_reducible rfl))
          try simp only[Act.put,List.setIfInBounds_toArray,List.set_cons_zero,List.set_cons_succ]
          refine wpAnyIn_done (by kernel_rfl) ?_ _;exact⟨((Kb.refl [] Y).drew).drewN q,_,_,_,_,_,_,_,_,_,_,_,rfl⟩
         exact AllReadyIn.nil
        exact AllReadyIn.nil
       refine AllReadyIn.cons rfl (fun K hK=>?_) ?_
       ·go_simp
        refine hK _ _ ?_
        clear hK K;refine wpAnyIn_take (i:=9) (v:=?_) rfl rfl (by kernel_rfl) (by kernel_rfl) (by kernel_rfl) (fun _ _ _ h=>h) ⟨Or.inl ⟨by rfl,?_⟩,fun _=>rfl⟩ ?_
        rotate_left
        ·(intro w;go_simp;try (with_reducible rfl))
        try simp only[Act.put,List.setIfInBounds_toArray,List.set_cons_zero,List.set_cons_succ]
        refine wpAnyIn_ready (rs:=[5]) (by kernel_rfl) (by simp) ?_
        refine AllReadyIn.cons rfl (fun K hK=>?_) ?_
        ·go_simp
         refine hK _ _ ?_
         clear hK K;refine wpAnyIn_take (i:=6) (v:=?_) rfl rfl (by kernel_rfl) (by kernel_rfl) (by kernel_rfl) (fun _ _ _ h=>h) ⟨Or.inl ⟨by rfl,?_⟩,fun _=>rfl⟩ ?_
         rotate_left
         ·(intro w;go_simp;try (with_reducible rfl))
         try simp only[Act.put,List.setIfInBounds_toArray,List.set_cons_zero,List.set_cons_succ]
         refine wpAnyIn_ready (rs:=[10]) (by kernel_rfl) (by simp) ?_
         refine AllReadyIn.cons rfl (fun K hK=>?_) ?_
         ·go_simp
          refine⟨trivial,?_⟩;refine(callsIn_wide.2 HEq).mono ?_
          clear HEq;rintro e X ⟨rfl,q,rfl⟩;refine hK _ _ ?_
          clear hK K;refine wpAnyIn_take (i:=11) (v:=?_) rfl rfl (by kernel_rfl) (by kernel_rfl) (by kernel_rfl) (fun _ _ _ h=>h) ⟨Or.inl ⟨by rfl,?_⟩,fun _=>rfl⟩ ?_
          rotate_left
          ·(intro w;go_simp;try (with_reducible rfl))
          try simp only[Act.put,List.setIfInBounds_toArray,List.set_cons_zero,List.set_cons_succ]
          refine wpAnyIn_done (by kernel_rfl) ?_ _;exact⟨((Kb.refl [] Y).drew).drewN q,_,_,_,_,_,_,_,_,_,_,_,rfl⟩
         exact AllReadyIn.nil
        exact AllReadyIn.nil
       exact AllReadyIn.nil
      refine AllReadyIn.cons rfl (fun K hK=>?_) ?_
      ·go_simp
       refine hK _ _ ?_
       clear hK K;refine wpAnyIn_ready (rs:=[4,7]) (by kernel_rfl) (by simp) ?_
       refine AllReadyIn.cons rfl (fun K hK=>?_) ?_
       ·go_simp
        refine hK _ _ ?_
        clear hK K;refine wpAnyIn_take (i:=6) (v:=?_) rfl rfl (by kernel_rfl) (by kernel_rfl) (by kernel_rfl) (fun _ _ _ h=>h) ⟨Or.inl ⟨by rfl,?_⟩,fun _=>rfl⟩ ?_
        rotate_left
        ·(intro w;go_simp;try (with_reducible rfl))
        try simp only[Act.put,List.setIfInBounds_toArray,List.set_cons_zero,List.set_cons_succ]
        refine wpAnyIn_ready (rs:=[7]) (by kernel_rfl) (by simp) ?_
        refine AllReadyIn.cons rfl (fun K hK=>?_) ?_
        ·go_simp
         refine hK _ _ ?_
         clear hK K;refine wpAnyIn_take (i:=9) (v:=?_) rfl rfl (by kernel_rfl) (by kernel_rfl) (by kernel_rfl) (fun _ _ _ h=>h) ⟨Or.inl ⟨by rfl,?_⟩,fun _=>rfl⟩ ?_
         rotate_left
         ·(intro w;go_simp;try (with_reducible rfl))
         try simp only[Act.put,List.setIfInBounds_toArray,List.set_cons_zero,List.set_cons_succ]
         refine wpAnyIn_ready (rs:=[10]) (by kernel_rfl) (by simp) ?_
         refine AllReadyIn.cons rfl (fun K hK=>?_) ?_
         ·go_simp
          refine⟨trivial,?_⟩;refine(callsIn_wide.2 HEq).mono ?_
          clear HEq;rintro e X ⟨rfl,q,rfl⟩;refine hK _ _ ?_
          clear hK K;refine wpAnyIn_take (i:=11) (v:=?_) rfl rfl (by kernel_rfl) (by kernel_rfl) (by kernel_rfl) (fun _ _ _ h=>h) ⟨Or.inl ⟨by rfl,?_⟩,fun _=>rfl⟩ ?_
          rotate_left
          ·(intro w;go_simp;try (with_reducible rfl))
          try simp only[Act.put,List.setIfInBounds_toArray,List.set_cons_zero,List.set_cons_succ]
          refine wpAnyIn_done (by kernel_rfl) ?_ _;exact⟨((Kb.refl [] Y).drew).drewN q,_,_,_,_,_,_,_,_,_,_,_,rfl⟩
         exact AllReadyIn.nil
        exact AllReadyIn.nil
       refine AllReadyIn.cons rfl (fun K hK=>?_) ?_
       ·go_simp
        refine hK _ _ ?_
        clear hK K;refine wpAnyIn_take (i:=9) (v:=?_) rfl rfl (by kernel_rfl) (by kernel_rfl) (by kernel_rfl) (fun _ _ _ h=>h) ⟨Or.inl ⟨by rfl,?_⟩,fun _=>rfl⟩ ?_
        rotate_left
        ·(intro w;go_simp;try (with_reducible rfl))
        try simp only[Act.put,List.setIfInBounds_toArray,List.set_cons_zero,List.set_cons_succ]
        refine wpAnyIn_ready (rs:=[4]) (by kernel_rfl) (by simp) ?_
        refine AllReadyIn.cons rfl (fun K hK=>?_) ?_
        ·go_simp
         refine hK _ _ ?_
         clear hK K;refine wpAnyIn_take (i:=6) (v:=?_) rfl rfl (by kernel_rfl) (by kernel_rfl) (by kernel_rfl) (fun _ _ _ h=>h) ⟨Or.inl ⟨by rfl,?_⟩,fun _=>rfl⟩ ?_
         rotate_left
         ·(intro w;go_simp;try (with_reducible rfl))
         try simp only[Act.put,List.setIfInBounds_toArray,List.set_cons_zero,List.set_cons_succ]
         refine wpAnyIn_ready (rs:=[10]) (by kernel_rfl) (by simp) ?_
         refine AllReadyIn.cons rfl (fun K hK=>?_) ?_
         ·go_simp
          refine⟨trivial,?_⟩;refine(callsIn_wide.2 HEq).mono ?_
          clear HEq;rintro e X ⟨rfl,q,rfl⟩;refine hK _ _ ?_
          clear hK K;refine wpAnyIn_take (i:=11) (v:=?_) rfl rfl (by kernel_rfl) (by kernel_rfl) (by kernel_rfl) (fun _ _ _ h=>h) ⟨Or.inl ⟨by rfl,?_⟩,fun _=>rfl⟩ ?_
          rotate_left
          ·(intro w;go_simp;try (with_reducible rfl))
          try simp only[Act.put,List.setIfInBounds_toArray,List.set_cons_zero,List.set_cons_succ]
          refine wpAnyIn_done (by kernel_rfl) ?_ _;exact⟨((Kb.refl [] Y).drew).drewN q,_,_,_,_,_,_,_,_,_,_,_,rfl⟩
         exact AllReadyIn.nil
        exact AllReadyIn.nil
       exact AllReadyIn.nil
      refine AllReadyIn.cons rfl (fun K hK=>?_) ?_
      ·go_simp
       refine hK _ _ ?_
       clear hK K;refine wpAnyIn_take (i:=9) (v:=?_) rfl rfl (by kernel_rfl) (by kernel_rfl) (by kernel_rfl) (fun _ _ _ h=>h) ⟨Or.inl ⟨by rfl,?_⟩,fun _=>rfl⟩ ?_
       rotate_left
       ·(intro w;go_simp;try (with_reducible rfl))
       try simp only[Act.put,List.setIfInBounds_toArray,List.set_cons_zero,List.set_cons_succ]
       refine wpAnyIn_ready (rs:=[4,5]) (by kernel_rfl) (by simp) ?_
       refine AllReadyIn.cons rfl (fun K hK=>?_) ?_
       ·go_simp
        refine hK _ _ ?_
        clear hK K;refine wpAnyIn_ready (rs:=[5]) (by kernel_rfl) (by simp) ?_
        refine AllReadyIn.cons rfl (fun K hK=>?_) ?_
        ·go_simp
         refine hK _ _ ?_
         clear hK K;refine wpAnyIn_take (i:=6) (v:=?_) rfl rfl (by kernel_rfl) (by kernel_rfl) (by kernel_rfl) (fun _ _ _ h=>h) ⟨Or.inl ⟨by rfl,?_⟩,fun _=>rfl⟩ ?_
         rotate_left
         ·(intro w;go_simp;try (with_reducible rfl))
         try simp only[Act.put,List.setIfInBounds_toArray,List.set_cons_zero,List.set_cons_succ]
         refine wpAnyIn_ready (rs:=[10]) (by kernel_rfl) (by simp) ?_
         refine AllReadyIn.cons rfl (fun K hK=>?_) ?_
         ·go_simp
          refine⟨trivial,?_⟩;refine(callsIn_wide.2 HEq).mono ?_
          clear HEq;rintro e X ⟨rfl,q,rfl⟩;refine hK _ _ ?_
          clear hK K;refine wpAnyIn_take (i:=11) (v:=?_) rfl rfl (by kernel_rfl) (by kernel_rfl) (by kernel_rfl) (fun _ _ _ h=>h) ⟨Or.inl ⟨by rfl,?_⟩,fun _=>rfl⟩ ?_
          rotate_left
          ·(intro w;go_simp;try (with_reducible rfl))
          try simp only[Act.put,List.setIfInBounds_toArray,List.set_cons_zero,List.set_cons_succ]
          refine wpAnyIn_done (by kernel_rfl) ?_ _;exact⟨((Kb.refl [] Y).drew).drewN q,_,_,_,_,_,_,_,_,_,_,_,rfl⟩
         exact AllReadyIn.nil
        exact AllReadyIn.nil
       refine AllReadyIn.cons rfl (fun K hK=>?_) ?_
       ·go_simp
        refine hK _ _ ?_
        clear hK K;refine wpAnyIn_ready (rs:=[4]) (by kernel_rfl) (by simp) ?_
        refine AllReadyIn.cons rfl (fun K hK=>?_) ?_
        ·go_simp
         refine hK _ _ ?_
         clear hK K;refine wpAnyIn_take (i:=6) (v:=?_) rfl rfl (by kernel_rfl) (by kernel_rfl) (by kernel_rfl) (fun _ _ _ h=>h) ⟨Or.inl ⟨by rfl,?_⟩,fun _=>rfl⟩ ?_
         rotate_left
         ·(intro w;go_simp;try (with_reducible rfl))
         try simp only[Act.put,List.setIfInBounds_toArray,List.set_cons_zero,List.set_cons_succ]
         refine wpAnyIn_ready (rs:=[10]) (by kernel_rfl) (by simp) ?_
         refine AllReadyIn.cons rfl (fun K hK=>?_) ?_
         ·go_simp
          refine⟨trivial,?_⟩;refine(callsIn_wide.2 HEq).mono ?_
          clear HEq;rintro e X ⟨rfl,q,rfl⟩;refine hK _ _ ?_
          clear hK K;refine wpAnyIn_take (i:=11) (v:=?_) rfl rfl (by kernel_rfl) (by kernel_rfl) (by kernel_rfl) (fun _ _ _ h=>h) ⟨Or.inl ⟨by rfl,?_⟩,fun _=>rfl⟩ ?_
          rotate_left
          ·(intro w;go_simp;try (with_reducible rfl))
          try simp only[Act.put,List.setIfInBounds_toArray,List.set_cons_zero,List.set_cons_succ]
          refine wpAnyIn_done (by kernel_rfl) ?_ _;exact⟨((Kb.refl [] Y).drew).drewN q,_,_,_,_,_,_,_,_,_,_,_,rfl⟩
         exact AllReadyIn.nil
        exact AllReadyIn.nil
       exact AllReadyIn.nil
      exact AllReadyIn.nil
     exact AllReadyIn.nil
    rintro a X ⟨kX,y15,y16,y17,y18,y19,y20,y21,y22,y23,y24,y25,rfl⟩;obtain⟨C1,C2,C3⟩:=HC.out.1.fresh kX;cases hq:(ps.getD x [] == ps.getD y [])
    ·have ez:sstep ps x z0 y=z0:=by unfold sstep;rw[hq,Bool.and_false,if_neg (by simp)]
     have HF:=hide (And.intro C1 (And.intro C2 C3));clear C1 C2 C3 HEq;gi_wp2
     refine⟨HF.out.2.1 _,HF.out.2.2,G4,?_,HC.out.2.1.trans (HF.out.2.1 _),HC.out.2.2.trans (fun b hb=>HF.out.2.2 b (hLL b hb))⟩;rw[HE8.out,ez];exact HF.out.1
    ·have ez:sstep ps x z0 y=mstep x z0 y:=by
      unfold sstep;have hxy:x<y:=by omega
      rw[hq,if_pos (by simp[hxy])]
     have cg1:=C1.cell (b:=w.heap.size) (v:=.pointer (some ⟨G.bg,0,none⟩)) (T:=101) (by rw[HB2.out,HB.out];simp);have cB1:=C1.cell (b:=Bx) (v:=.int .u64 (x:Int)) (T:=TN) (by rw[HB2.out];simp);have HM:=merge_ok B c n z0.2 x y X G4 C1.gm wf2 hx hy hun3;rw[C1.ch.e1]at HM;have HF:=hide (And.intro C1 (And.intro C2 C3));clear C1 C2 C3 HEq;gi_wp2
     refine⟨trivial,?_⟩;refine(CallsIn.inRound l2 (CallsIn.inRound l (callsIn_wide.2 HM))).mono ?_
     clear HM;rintro e X1 ⟨rfl,G5,hG5,hC5⟩;obtain⟨d1,d2,d3⟩:=HF.out.1.call hG5 hC5;rw[HB2.out]at d1;obtain⟨bm1,bm2⟩:=d1.bx (w.heap.size+2,#[.bool z0.1],4) (by simp);have cm:X1.cell? ⟨w.heap.size+1+1,0,none⟩=some (.bool z0.1):=by rw[cell_at bm1];rfl
     have fm:X1.frozen? ⟨w.heap.size+1+1,0,none⟩=false:=frozen_at bm1 0;have hset:∀f,LI w B c n G L2 (bxs2 f) vts (X1.setCell ⟨w.heap.size+1+1,0,none⟩ (.bool f)) (z0.2.merge x y).2 G5∧(∀D,KeepsFrom D X1 (X1.setCell ⟨w.heap.size+1+1,0,none⟩ (.bool f)))∧KpB L2 X1 (X1.setCell ⟨w.heap.size+1+1,0,none⟩ (.bool f)):=by
      intro f;rw[HB2.out];refine d1.setBox (.bool f) (by omega) (fun q hq2=>?_) (fun q hq2=>?_) hLm2
      ·have hq1:=(d1.bx q (List.mem_cons_of_mem _ hq2)).1;intro e;rcases List.mem_cons.1 hq2 with rfl|hq2
       ·exact hBw e
       ·rw[HB.out]at hq2;simp only[List.tail_cons,List.mem_cons,List.not_mem_nil,or_false]at hq2;rcases hq2 with rfl|rfl|rfl|rfl
        ·exact ne_types hq1 bm1 (by dsimp only;decide) e
        ·exact ne_types hq1 bm1 (by dsimp only;decide) e
        ·exact ne_types hq1 bm1 (by dsimp only;decide) e
        ·exact ne_types hq1 bm1 (by dsimp only;decide) e
      ·exact(d1.vt q hq2).1.ne bm1 (by dsimp only;decide)
     have HSet:=hide hset;have HD:=hide (And.intro d2 d3);clear d1 d2 d3 bm1 bm2 hset hG5 hC5;have HE:Hid (mstep x z0 y=((z0.2.merge x y).1 || z0.1,(z0.2.merge x y).2)):=hide rfl;cases hfm:(z0.2.merge x y).1
     ·gi_wp2
      obtain⟨f1,f2,f3⟩:=HSet.out z0.1;refine⟨((HF.out.2.1 _).trans (HD.out.1 _)).trans (f2 _),(HF.out.2.2.trans HD.out.2).trans f3,G5,?_,HC.out.2.1.trans (((HF.out.2.1 _).trans (HD.out.1 _)).trans (f2 _)),HC.out.2.2.trans (fun b hb=>((HF.out.2.2.trans HD.out.2).trans f3) b (hLL b hb))⟩;rw[HE8.out,ez,HE.out,hfm,Bool.false_or];exact f1
     ·gi_wp2
      obtain⟨f1,f2,f3⟩:=HSet.out true;refine⟨((HF.out.2.1 _).trans (HD.out.1 _)).trans (f2 _),(HF.out.2.2.trans HD.out.2).trans f3,G5,?_,HC.out.2.1.trans (((HF.out.2.1 _).trans (HD.out.1 _)).trans (f2 _)),HC.out.2.2.trans (fun b hb=>((HF.out.2.2.trans HD.out.2).trans f3) b (hLL b hb))⟩;rw[HE8.out,ez,HE.out,hfm,Bool.true_or];exact f1
   ·refine wpIn_nrmG (K:=fun a X=>Kb [] Y X∧∃y15 y16 y17 y18 y19 y20 y21 y22 y23 y24 y25,a={ tmps:=#[.pointer (some ⟨G.bg,0,none⟩),.slice (some ⟨bp,0,none⟩) n n,.pointer (some ⟨w.heap.size,0,none⟩),.pointer (some ⟨w.heap.size+1,0,none⟩),.bool false,.pointer (some ⟨w.heap.size+1+1,0,none⟩),.pointer (some ⟨V1.heap.size,0,none⟩),.pointer (some ⟨Bx,0,none⟩),.int .u64 (y:Int),.pointer (some ⟨G.bg,0,none⟩),.agg #[.slice uo ul uc],.func (.func 127) #[] #[.pointer (some ⟨bw,0,none⟩)],.int .u64 (x:Int),.func (.func 127) #[] #[.pointer (some ⟨bwb,0,none⟩)],.int .u64 (y:Int),y15,y16,y17,y18,y19,y20,y21,y22,y23,y24,y25,.bool (false),undef,undef,undef,undef,undef,undef,undef,undef],defers:=[] }) ?_ ?_
    ·skip
     refine wpIn_region_any (by kernel_rfl) ?_
     (try (change wpAnyIn _ _ _ _ _ _ _ _ _ (World.drew _)))
     change wpAnyIn (Fence.wide.inRound l2) _ _ _ _ _ _ _ _ _;refine wpAnyIn_round (by kernel_rfl) _ _ _ _ ?_
     refine wpAnyIn_take (i:=1) (v:=?_) rfl rfl (by kernel_rfl) (by kernel_rfl) (by kernel_rfl) (fun _ _ _ h=>h) ⟨Or.inl ⟨by rfl,?_⟩,fun _=>rfl⟩ ?_
     rotate_left
     ·(intro w;go_simp;try (with_reducible rfl))
     try simp only[Act.put,List.setIfInBounds_toArray,List.set_cons_zero,List.set_cons_succ]
     refine wpAnyIn_ready (rs:=[0]) (by kernel_rfl) (by simp) ?_
     refine AllReadyIn.cons rfl (fun K hK=>?_) ?_
     ·go_simp
      refine hK _ _ ?_
      clear hK K;refine wpAnyIn_take (i:=2) (v:=?_) rfl rfl (by kernel_rfl) (by kernel_rfl) (by kernel_rfl) (fun _ _ _ h=>h) ⟨Or.inl ⟨by rfl,?_⟩,fun _=>rfl⟩ ?_
      rotate_left
      ·(intro w;go_simp;try (with_reducible rfl))
      try simp only[Act.put,List.setIfInBounds_toArray,List.set_cons_zero,List.set_cons_succ]
      refine wpAnyIn_take (i:=3) (v:=?_) rfl rfl (by kernel_rfl) (by kernel_rfl) (by kernel_rfl) (fun _ _ _ h=>h) ⟨Or.inl ⟨by rfl,?_⟩,fun _=>rfl⟩ ?_
      rotate_left
      ·(intro w;go_simp;try (with_reducible rfl))
      try simp only[Act.put,List.setIfInBounds_toArray,List.set_cons_zero,List.set_cons_succ]
      refine wpAnyIn_take (i:=4) (v:=undef) rfl rfl (by kernel_rfl) (by kernel_rfl) (by kernel_rfl) (fun _ _ _ h=>h) ⟨Or.inr ⟨by rfl,rfl⟩,fun _=>rfl⟩ ?_
      try simp only[Act.put,List.setIfInBounds_toArray,List.set_cons_zero,List.set_cons_succ]
      refine wpAnyIn_take (i:=5) (v:=undef) rfl rfl (by kernel_rfl) (by kernel_rfl) (by kernel_rfl) (fun _ _ _ h=>h) ⟨Or.inr ⟨by rfl,rfl⟩,fun _=>rfl⟩ ?_
      try simp only[Act.put,List.setIfInBounds_toArray,List.set_cons_zero,List.set_cons_succ]
      refine wpAnyIn_take (i:=6) (v:=undef) rfl rfl (by kernel_rfl) (by kernel_rfl) (by kernel_rfl) (fun _ _ _ h=>h) ⟨Or.inr ⟨by rfl,rfl⟩,fun _=>rfl⟩ ?_
      try simp only[Act.put,List.setIfInBounds_toArray,List.set_cons_zero,List.set_cons_succ]
      refine wpAnyIn_take (i:=7) (v:=undef) rfl rfl (by kernel_rfl) (by kernel_rfl) (by kernel_rfl) (fun _ _ _ h=>h) ⟨Or.inr ⟨by rfl,rfl⟩,fun _=>rfl⟩ ?_
      try simp only[Act.put,List.setIfInBounds_toArray,List.set_cons_zero,List.set_cons_succ]
      refine wpAnyIn_take (i:=8) (v:=undef) rfl rfl (by kernel_rfl) (by kernel_rfl) (by kernel_rfl) (fun _ _ _ h=>h) ⟨Or.inr ⟨by rfl,rfl⟩,fun _=>rfl⟩ ?_
      try simp only[Act.put,List.setIfInBounds_toArray,List.set_cons_zero,List.set_cons_succ]
      refine wpAnyIn_take (i:=9) (v:=undef) rfl rfl (by kernel_rfl) (by kernel_rfl) (by kernel_rfl) (fun _ _ _ h=>h) ⟨Or.inr ⟨by rfl,rfl⟩,fun _=>rfl⟩ ?_
      try simp only[Act.put,List.setIfInBounds_toArray,List.set_cons_zero,List.set_cons_succ]
      refine wpAnyIn_ready (rs:=[10]) (by kernel_rfl) (by simp) ?_
      refine AllReadyIn.cons rfl (fun K hK=>?_) ?_
      ·go_simp
       refine⟨trivial,?_⟩;refine hK _ _ ?_
       clear hK K;refine wpAnyIn_take (i:=11) (v:=?_) rfl rfl (by kernel_rfl) (by kernel_rfl) (by kernel_rfl) (fun _ _ _ h=>h) ⟨Or.inl ⟨by rfl,?_⟩,fun _=>rfl⟩ ?_
       rotate_left
       ·(intro w;go_simp;try (with_reducible rfl))
       try simp only[Act.put,List.setIfInBounds_toArray,List.set_cons_zero,List.set_cons_succ]
       refine wpAnyIn_done (by kernel_rfl) ?_ _;exact⟨(Kb.refl [] Y).drew,_,_,_,_,_,_,_,_,_,_,_,rfl⟩
      exact AllReadyIn.nil
     exact AllReadyIn.nil
    rintro a X ⟨kX,y15,y16,y17,y18,y19,y20,y21,y22,y23,y24,y25,rfl⟩;obtain⟨C1,C2,C3⟩:=HC.out.1.fresh kX;have ez:sstep ps x z0 y=z0:=by
     unfold sstep;have hxy:¬x<y:=by omega
     rw[if_neg (by simp[hxy])]
    have HF:=hide (And.intro C1 (And.intro C2 C3));clear C1 C2 C3 HEq;gi_wp2
    refine⟨HF.out.2.1 _,HF.out.2.2,G4,?_,HC.out.2.1.trans (HF.out.2.1 _),HC.out.2.2.trans (fun b hb=>HF.out.2.2 b (hLL b hb))⟩;rw[HE8.out,ez];exact HF.out.1
end
end Go.Proofs.YtiamlbhkiehilaaGreatDoor
