import Derived.Test.YtiamlbhkiehilaaGreatDoorKq23
import Derived.Deep.RegionWith
import Derived.Deep.RegionHeld3
namespace Go.Proofs.YtiamlbhkiehilaaGreatDoor
section
open Go.RowKit Go.Shelf
attribute [local go_sem] Oper.semAt_some
variable {B:Nat} {c:Way} {n:Nat} {s:St}
def TwK(w:World)(B:Nat)(c:Way)(n:Nat)(G:GV)(s:St)(i:Nat)(bxs:List (Nat × Array Value × TypeId))(b6 b7:Nat)(X:World):Prop:=
 w.heap.size+3≤b6∧w.heap.size+3≤b7∧∃vl vs G2,LI w B c n G [] ((b7,#[vs],TSet)::(b6,#[vl],TSet)::bxs) [(vl,s.standing (s.ld i),w.heap.size),(vs,s.standing (s.sr i),w.heap.size)] X s G2
theorem LI.box{w:World}{G:GV}{bxs:List (Nat × Array Value × TypeId)}{vts:List (Value × List Nat × Nat)}{W:World}{st:St}{G':GV}(h:LI w B c n G [] bxs vts W st G')(v:Value):LI w B c n G [] ((W.heap.size,#[v],TSet)::bxs) vts (W.alloc (.cells #[v] TSet)) st G':=
 (h.fresh ((Kb.refl [] W).alloc _)).1.addBox (heap_new _ _) (h.newer (Nat.le_refl _))
theorem LI.boxF{w:World}{G:GV}{bxs:List (Nat × Array Value × TypeId)}{vts:List (Value × List Nat × Nat)}{W:World}{st:St}{G':GV}(h:LI w B c n G [] bxs vts W st G'):(∀b,(b,#[Value.slice none 0 0],TSet)∈bxs→W.cell? ⟨b,0,none⟩=some (.slice none 0 0))∧(∀b,(b,#[Value.slice none 0 0],TSet)∈bxs→W.frozen? ⟨b,0,none⟩=false)∧(∀o b,(b,#[Value.slice none 0 0],TSet)∈bxs→(W.alloc o).cell? ⟨b,0,none⟩=some (.slice none 0 0))∧(∀o b,(b,#[Value.slice none 0 0],TSet)∈bxs→(W.alloc o).frozen? ⟨b,0,none⟩=false):=
 ⟨fun b hb=>by rw[cell_at (h.bx _ hb).1];rfl,fun b hb=>frozen_at (h.bx _ hb).1 0,fun o b hb=>by rw[cell_at (heap_old (h.bx _ hb).1 o)];rfl,fun o b hb=>frozen_at (heap_old (h.bx _ hb).1 o) 0⟩
theorem tw_fin{w:World}{G:GV}{bxs bx2:List (Nat × Array Value × TypeId)}{i Z:Nat}{vl vs:Value}{X Xf:World}{G2:GV}{b6 b7:Nat}(L:LI w B c n G [] bx2 [(vs,s.standing (s.ss.getD (7*i+4) []),w.heap.size),(vl,s.standing (s.ss.getD (7*i+3) []),w.heap.size)] X s G2)(hsub:∀q∈bxs,q∈bx2)(hZ:∀q∈bxs,q.1<Z)(hw:w.heap.size+3≤Z)
  (hk:Kb [b6,b7] X Xf) (h6:Xf.heap[b6]?=some (.cells #[vl] TSet (0,0))) (h7:Xf.heap[b7]?=some (.cells #[vs] TSet (0,0))) (c6:X.heap.size≤b6∨(b6,#[Value.slice none 0 0],TSet)∈bx2) (c7:X.heap.size≤b7∨(b7,#[Value.slice none 0 0],TSet)∈bx2) (l6:Z≤b6) (l7:Z≤b7):TwK w B c n G s i bxs b6 b7 Xf:=by
 have key:∀b,(X.heap.size≤b∨(b,#[Value.slice none 0 0],TSet)∈bx2)→b ∉ G2.foot∧∀(v:Value) t B',SetV X B' v t→v.ownBlock≠some b:=by
  intro b hb;rcases hb with hb|hb
  ·exact⟨L.newer hb,fun v t B' hv e=>by have:=(hv.lt e).2;omega⟩
  ·obtain⟨q1,q2⟩:=L.bx _ hb;exact⟨q2,fun v t B' hv e=>hv.ne q1 (by dsimp only;decide) e⟩
 obtain⟨n6,t6⟩:=key b6 c6;obtain⟨n7,t7⟩:=key b7 c7;have nb:∀b∈[b6,b7],b ∉ G2.foot∧w.heap.size≤b∧(∀q∈bxs,q.1≠b)∧∀(v:Value) t B',SetV X B' v t→v.ownBlock≠some b:=by
  intro b hb;rcases List.mem_cons.1 hb with rfl|hb
  ·exact⟨n6,by omega,fun q hq e=>by have:=hZ q hq;omega,t6⟩
  ·rw[List.mem_singleton.1 hb];exact⟨n7,by omega,fun q hq e=>by have:=hZ q hq;omega,t7⟩
 obtain⟨s1,s1o⟩:=L.vt (vs,s.standing (s.ss.getD (7*i+4) []),w.heap.size) (by simp);obtain⟨s2,s2o⟩:=L.vt (vl,s.standing (s.ss.getD (7*i+3) []),w.heap.size) (by simp);refine⟨by omega,by omega,vl,vs,G2,L.gm.beside hk (fun b hb=>(nb b hb).1),L.ch.beside hk (fun b hb=>(nb b hb).2.1),fun q hq=>?_,fun q hq=>?_,by simp⟩
 ·rcases List.mem_cons.1 hq with rfl|hq
  ·exact⟨h7,n7⟩
  ·rcases List.mem_cons.1 hq with rfl|hq
   ·exact⟨h6,n6⟩
   ·obtain⟨q1,q2⟩:=L.bx q (hsub q hq);exact⟨hk.heap q1 (fun hm=>(nb _ hm).2.2.1 q hq rfl),q2⟩
 ·simp only[List.mem_cons,List.not_mem_nil,or_false]at hq;rcases hq with rfl|rfl
  ·exact⟨s2.kb hk (fun g hg e=>(nb g hg).2.2.2 _ _ _ s2 e),s2o⟩
  ·exact⟨s1.kb hk (fun g hg e=>(nb g hg).2.2.2 _ _ _ s1 e),s1o⟩
theorem heap_new2(X:World)(a b:Obj):((X.alloc a).alloc b).heap[X.heap.size+1]?=some b:=by
 have:=heap_new (X.alloc a) b;rw[World.size_alloc]at this;exact this
theorem kb_new2(X:World)(a b:Obj)(p q:Nat):Kb [p,q] X ((X.alloc a).alloc b):=(((Kb.refl [] X).alloc _).alloc _).mono (by simp)
theorem two_set{Y:World}{b6 b7:Nat}{u6 u7 vl vs:Value}(y6:Y.heap[b6]?=some (.cells #[u6] TSet (0,0)))(y7:Y.heap[b7]?=some (.cells #[u7] TSet (0,0)))(hne:b6≠b7) :
  ((Y.setCell ⟨b6,0,none⟩ vl).setCell ⟨b7,0,none⟩ vs).heap[b6]?=some (.cells #[vl] TSet (0,0))∧((Y.setCell ⟨b6,0,none⟩ vl).setCell ⟨b7,0,none⟩ vs).heap[b7]?=some (.cells #[vs] TSet (0,0))∧Kb [b6,b7] Y ((Y.setCell ⟨b6,0,none⟩ vl).setCell ⟨b7,0,none⟩ vs):=by
 have a1:=heap_set y6 0 vl;have k1:Kb [b6] Y (Y.setCell ⟨b6,0,none⟩ vl):=(Kb.refl _ _).setCell (p:=⟨b6,0,none⟩) (.inl (by simp)) _;have a2:=k1.heap y7 (by simp;omega);have k2:Kb [b7] (Y.setCell ⟨b6,0,none⟩ vl) ((Y.setCell ⟨b6,0,none⟩ vl).setCell ⟨b7,0,none⟩ vs):=(Kb.refl _ _).setCell (p:=⟨b7,0,none⟩) (.inl (by simp)) _;exact⟨k2.heap a1 (by simp;omega),heap_set a2 0 vs,(k1.mono (by intro k _ hk;simp at hk;simp[hk])).trans (k2.mono (by intro k _ hk;simp at hk;simp[hk]))⟩
theorem tw_B{w:World}{G:GV}{bxs bx2:List (Nat × Array Value × TypeId)}{i Z:Nat}{vl vs:Value}{X:World}{G2:GV}{b6 b7:Nat}(L:LI w B c n G [] bx2 [(vs,s.standing (s.ss.getD (7*i+4) []),w.heap.size),(vl,s.standing (s.ss.getD (7*i+3) []),w.heap.size)] X s G2)(hsub:∀q∈bxs,q∈bx2)(hZ:∀q∈bxs,q.1<Z)(hw:w.heap.size+3≤Z)
  (c6:(b6,#[Value.slice none 0 0],TSet)∈bx2) (c7:(b7,#[Value.slice none 0 0],TSet)∈bx2) (l6:Z≤b6) (l7:Z≤b7) (hne:b6≠b7):TwK w B c n G s i bxs b6 b7 ((X.setCell ⟨b6,0,none⟩ vl).setCell ⟨b7,0,none⟩ vs):=by
 obtain⟨p1,p2,p3⟩:=two_set (vl:=vl) (vs:=vs) (L.bx _ c6).1 (L.bx _ c7).1 hne;exact tw_fin L hsub hZ hw p3 p1 p2 (.inr c6) (.inr c7) l6 l7
theorem tw_A{w:World}{G:GV}{bxs bx2:List (Nat × Array Value × TypeId)}{i Z:Nat}{vl vs:Value}{X:World}{G2:GV}{b6:Nat}(L:LI w B c n G [] bx2 [(vs,s.standing (s.ss.getD (7*i+4) []),w.heap.size),(vl,s.standing (s.ss.getD (7*i+3) []),w.heap.size)] X s G2)(hsub:∀q∈bxs,q∈bx2)(hZ:∀q∈bxs,q.1<Z)(hw:w.heap.size+3≤Z)
  (c6:(b6,#[Value.slice none 0 0],TSet)∈bx2) (l6:Z≤b6) (l7:Z≤X.heap.size):TwK w B c n G s i bxs b6 X.heap.size (((X.alloc (.cells #[.slice none 0 0] TSet)).setCell ⟨b6,0,none⟩ vl).setCell ⟨X.heap.size,0,none⟩ vs):=by
 have hlt:=lt_of_heap (L.bx _ c6).1;obtain⟨p1,p2,p3⟩:=two_set (vl:=vl) (vs:=vs) (heap_old (L.bx _ c6).1 (.cells #[.slice none 0 0] TSet)) (heap_new X (.cells #[.slice none 0 0] TSet)) (by dsimp only at hlt;omega);exact tw_fin L hsub hZ hw ((((Kb.refl [] X).alloc _).mono (by simp)).trans p3) p1 p2 (.inr c6) (.inl (Nat.le_refl _)) l6 l7
theorem tw_C{w:World}{G:GV}{bxs bx2:List (Nat × Array Value × TypeId)}{i Z:Nat}{vl vs:Value}{X:World}{G2:GV}{b7:Nat}(L:LI w B c n G [] bx2 [(vs,s.standing (s.ss.getD (7*i+4) []),w.heap.size),(vl,s.standing (s.ss.getD (7*i+3) []),w.heap.size)] X s G2)(hsub:∀q∈bxs,q∈bx2)(hZ:∀q∈bxs,q.1<Z)(hw:w.heap.size+3≤Z)
  (c7:(b7,#[Value.slice none 0 0],TSet)∈bx2) (l6:Z≤X.heap.size) (l7:Z≤b7):TwK w B c n G s i bxs X.heap.size b7 ((X.alloc (.cells #[vl] TSet)).setCell ⟨b7,0,none⟩ vs):=by
 have hlt:=lt_of_heap (L.bx _ c7).1;have k2:Kb [b7] (X.alloc (.cells #[vl] TSet)) ((X.alloc (.cells #[vl] TSet)).setCell ⟨b7,0,none⟩ vs):=(Kb.refl _ _).setCell (p:=⟨b7,0,none⟩) (.inl (by simp)) _;exact tw_fin L hsub hZ hw ((((Kb.refl [] X).alloc _).mono (by simp)).trans (k2.mono (by intro k _ hk;simp at hk;simp[hk]))) (k2.heap (heap_new X _) (by simp;dsimp only at hlt;omega)) (heap_set (heap_old (L.bx _ c7).1 _) 0 vs) (.inl (Nat.le_refl _)) (.inr c7) l6 l7
set_option maxRecDepth 100000 in
set_option maxHeartbeats 4000000 in
theorem gtwins_any(k i:Nat)(t:List Nat)(w:World)(G:GV)(h:GM w B c n G s)(hw:WF n s)(hT:TabAt w)(hTl:0<B)(hi:i<n)(ht:s.twinsOf k n i=some t) :
  Calls Tryz.prog 154 #[.pointer (some ⟨G.bg,0,none⟩),.int .u64 (i:Int)] w fun e w'=>∃G' v',e=.returned (.agg #[v'])∧GM w' B c n G' s∧GCh w w' G G'∧NewS w w' G' v' t:=by
 have hn:=h.n40;have hmf:∀(fn:Fn) (first cap:Array Value) (w:World),(Instr.makeFunc fn first cap).run Tryz.prog w=.ok (.func fn first cap) w:=fun _ _ _ _=>rfl
 have TT:Hid (∀ {W:World} {G':GV},GCh w W G G'→TabAt W):=hide (fun hc=>hT.kb hc.kb (fun hm=>by have:=(h.cells hm).1;omega));obtain⟨W0,hW0⟩:∃W0,W0=((w.alloc (.cells #[.pointer (some ⟨G.bg,0,none⟩)] 101)).alloc (.cells #[.slice none 0 0] TSet)).alloc (.cells #[.int .u64 (n:Int)] TN):=⟨_,rfl⟩;have k0:Kb [] w W0:=by rw[hW0];exact(((Kb.refl [] w).alloc _).alloc _).alloc _
 have z0:W0.heap.size=w.heap.size+3:=by rw[hW0];simp
 have x0:W0.heap[w.heap.size]?=some (.cells #[.pointer (some ⟨G.bg,0,none⟩)] 101 (0,0)):=by rw[hW0];exact heap_old (heap_old (heap_new _ _) _) _
 have y0:W0.heap[w.heap.size+1]?=some (.cells #[.slice none 0 0] TSet (0,0)):=by
  rw[hW0];have:=heap_new (w.alloc (.cells #[.pointer (some ⟨G.bg,0,none⟩)] 101)) (.cells #[.slice none 0 0] TSet);rw[World.size_alloc]at this;exact heap_old this _
 have s0:W0.heap[w.heap.size+2]?=some (.cells #[.int .u64 (n:Int)] TN (0,0)):=by
  rw[hW0];have:=heap_new ((w.alloc (.cells #[.pointer (some ⟨G.bg,0,none⟩)] 101)).alloc (.cells #[.slice none 0 0] TSet)) (.cells #[.int .u64 (n:Int)] TN);rw[World.size_alloc,World.size_alloc]at this;exact this
 have nf:∀b,w.heap.size≤b→b ∉ G.foot:=fun b hb hm=>by have:=h.footlt b hm;omega
 have L0:=((((LI.start h).fresh k0).1.addBox x0 (nf _ (Nat.le_refl _))).addBox y0 (nf _ (by omega))).addBox s0 (nf _ (by omega));have hnw:IntKind.u64.wrap (n:Int)=(n:Int):=by rw[IntKind.wrap_u64];omega
 obtain⟨r0,r1,r2,r3,r4,r5,r7,r9,r9f⟩:=h.reads;have r5a:(w.alloc (.cells #[.pointer (some ⟨G.bg,0,none⟩)] 101)).cell? ⟨G.bg,5,none⟩=some (.slice (some ⟨G.bn,0,none⟩) n G.cap):=(h.fresh ((Kb.refl [] w).alloc _)).reads.2.2.2.2.2.1;have r5b:((w.alloc (.cells #[.pointer (some ⟨G.bg,0,none⟩)] 101)).alloc (.cells #[.slice none 0 0] TSet)).cell? ⟨G.bg,5,none⟩=some (.slice (some ⟨G.bn,0,none⟩) n G.cap):=(h.fresh (((Kb.refl [] w).alloc _).alloc _)).reads.2.2.2.2.2.1;have HL0:=hide L0;clear L0 x0 y0 s0 r0 r1 r2 r3 r4 r7 r9 r9f;go_enter Tryz.func154,Tryz.ntmps154
 go_wp2_with fail
 rw[← hW0];obtain⟨bxs,hbxs⟩:∃bxs:List (Nat × Array Value × TypeId),bxs=[(w.heap.size+2,#[.int .u64 (n:Int)],TN),(w.heap.size+1,#[.slice none 0 0],TSet),(w.heap.size,#[.pointer (some ⟨G.bg,0,none⟩)],101)]:=⟨_,rfl⟩;rw[← hbxs]at HL0;clear hW0;have HBo:=hide hbxs;clear hbxs;have HSt:Hid (∀(fld:Nat) (W:World) (G1:GV) (bx2:List (Nat × Array Value × TypeId)) (vts:List (Value × List Nat × Nat)),fld<7→G1.cap=G.cap→LI w B c n G [] bx2 vts W s G1→(∀q∈bxs,q∈bx2)→Calls Tryz.prog 157 #[.pointer (some ⟨G.bg,0,none⟩),.pointer (some ⟨G.bn,i*7+fld,none⟩)] W fun e W'=>∃G2 uo ul uc,e=.returned (.agg #[.slice uo ul uc])∧W.heap.size≤W'.heap.size∧G2.cap=G.cap∧(W'.cell? ⟨w.heap.size,0,none⟩=some (.pointer (some ⟨G.bg,0,none⟩))∧W'.cell? ⟨G.bg,5,none⟩=some (.slice (some ⟨G.bn,0,none⟩) n G.cap))∧LI w B c n G [] bx2 ((.slice uo ul uc,s.standing (s.ss.getD (7*i+fld) []),w.heap.size)::vts) W' s G2):=by
  refine hide (fun fld W G1 bx2 vts hfl hcap hL hb=>?_);obtain⟨v,q,q',qs⟩:=hL.gm.get (k:=7*i+fld) (by omega);have:=gstanding_cap G1.bn (7*i+fld) _ TNd v B _ W G1 hL.gm (TT.out hL.ch) hTl hL.gm.hbn q' qs hw.rep;rw[hL.ch.e1,hL.ch.e2,hcap,show 7*i+fld=i*7+fld by omega]at this;rw[show 7*i+fld=i*7+fld by omega];refine this.mono ?_
  rintro e W' ⟨G2,v',p1,p2,p3,p4,p5,p6⟩;obtain⟨uo,ul,uc,rfl⟩:=p4.form;have L9:=(hL.call p2 p3).1.addSet (p4.low hL.ch.kb.size) p5;exact⟨G2,uo,ul,uc,p1,p3.kb.size,p2.capOf L9.ch.e1 p6,⟨L9.cell (b:=w.heap.size) (v:=.pointer (some ⟨G.bg,0,none⟩)) (T:=101) (hb _ (by rw[HBo.out];simp)),p6⟩,L9⟩
 have L0d:=(HL0.out.fresh (W':=W0.drew) (Kb.refl [] W0).drew).1;have cg0:=HL0.out.cell (b:=w.heap.size) (v:=.pointer (some ⟨G.bg,0,none⟩)) (T:=101) (by rw[HBo.out];simp);have cn0:=HL0.out.gm.reads.2.2.2.2.2.1;have hin:(i:Int)<(n:Int):=by omega
 have hZb:∀q∈bxs,q.1<W0.heap.size:=by
  intro q hq;rw[HBo.out]at hq;simp only[List.mem_cons,List.not_mem_nil,or_false]at hq;rcases hq with rfl|rfl|rfl<;>(dsimp only;omega)
 have hZw:w.heap.size+3≤W0.heap.size:=by omega
 have hd0:W0.drew.heap.size=W0.heap.size:=rfl;have hbgl:G.bg<w.heap.size:=lt_of_heap h.hbg;have m1:¬W0.heap.size=w.heap.size:=by omega
 have m2:¬w.heap.size=W0.heap.size:=by omega
 have m3:¬W0.heap.size=G.bg:=by omega
 have m4:¬G.bg=W0.heap.size:=by omega
 have m5:¬W0.heap.size+1=w.heap.size:=by omega
 have m6:¬w.heap.size=W0.heap.size+1:=by omega
 have m7:¬W0.heap.size+1=G.bg:=by omega
 have m8:¬G.bg=W0.heap.size+1:=by omega
 have HZ0:=hide z0;clear r5a r5b r5 z0;refine wp_nrm (K:=fun a X=>∃b6 b7,TwK w B c n G s i bxs b6 b7 X∧∃y15 y16 y17 y18 y19 y20 y21 y22 y23 y24 y25 y26 y27 y28 y29 y30 y31 y32,a={ tmps:=#[.pointer (some ⟨G.bg,0,none⟩),.int .u64 (i:Int),.pointer (some ⟨w.heap.size,0,none⟩),undef,.pointer (some ⟨w.heap.size+1,0,none⟩),.pointer (some ⟨w.heap.size+1+1,0,none⟩),.pointer (some ⟨b6,0,none⟩),.pointer (some ⟨b7,0,none⟩),undef,.pointer (some ⟨G.bg,0,none⟩),.pointer (some ⟨G.bg,0,none⟩),.pointer (some ⟨G.bg,5,none⟩),.slice (some ⟨G.bn,0,none⟩) n G.cap,.int .i64 (n:Int),.int .u64 (n:Int),y15,y16,y17,y18,y19,y20,y21,y22,y23,y24,y25,y26,y27,y28,y29,y30,y31,y32,undef,undef,undef,undef,undef,undef],defers:=[] }) ?_ ?_
 ·go_region_held3 (fun W=>W.cell? ⟨w.heap.size,0,none⟩=some (.pointer (some ⟨G.bg,0,none⟩))∧W.cell? ⟨G.bg,5,none⟩=some (.slice (some ⟨G.bn,0,none⟩) n G.cap)) (go_keep)
   (first
   |(with_reducible (show Calls Tryz.prog _ #[_,.pointer (some ⟨_,i*7+3,none⟩)] _ _);refine(HSt.out 3 _ G _ [] (by omega) rfl (by first|with_reducible exact L0d|with_reducible exact((HL0.out.box _).fresh (Kb.refl [] _).drew).1|with_reducible exact(((HL0.out.box _).box _).fresh (Kb.refl [] _).drew).1) (by intro q hq;simp[hq])).mono ?_;rintro e X1 ⟨G1,uo,ul,uc,rfl,hs1,hc1,hS1,L1⟩;have z0:=HZ0.out;(try simp only[World.size_alloc]at hs1);(try rw[World.size_drew]at hs1);(try simp only[World.size_alloc]at hs1);have HS1:=hide hs1;(try have:¬X1.heap.size=w.heap.size:=by omega);(try have:¬w.heap.size=X1.heap.size:=by omega);(try have:¬X1.heap.size=G.bg:=by omega);(try have:¬G.bg=X1.heap.size:=by omega);(try have:¬(X1.heap.size+1)=w.heap.size:=by omega);(try have:¬w.heap.size=(X1.heap.size+1):=by omega);(try have:¬(X1.heap.size+1)=G.bg:=by omega);(try have:¬G.bg=(X1.heap.size+1):=by omega);(try have:¬X1.heap.size=W0.heap.size:=by omega);(try have:¬W0.heap.size=X1.heap.size:=by omega);(try have:¬X1.heap.size=(W0.heap.size+1):=by omega);(try have:¬(W0.heap.size+1)=X1.heap.size:=by omega);clear L0d z0)
   | (with_reducible (show Calls Tryz.prog _ #[_,.pointer (some ⟨_,i*7+4,none⟩)] _ _);refine(HSt.out 4 _ G1 _ _ (by omega) hc1 (by first|with_reducible exact L1|with_reducible exact(L1).box _|with_reducible exact((L1).box _).box _) (by intro q hq;simp[hq])).mono ?_;rintro e X2 ⟨G2,xo,xl,xc,rfl,hs2,hc2,hS2,L2⟩;obtain⟨e1,e2,e3,e4⟩:=L2.boxF;have z0:=HZ0.out;have hs1':=HS1.out;(try simp only[World.size_alloc]at hs2);(try have:¬X2.heap.size=w.heap.size:=by omega);(try have:¬w.heap.size=X2.heap.size:=by omega);(try have:¬X2.heap.size=G.bg:=by omega);(try have:¬G.bg=X2.heap.size:=by omega);(try have:¬(X2.heap.size+1)=w.heap.size:=by omega);(try have:¬w.heap.size=(X2.heap.size+1):=by omega);(try have:¬(X2.heap.size+1)=G.bg:=by omega);(try have:¬G.bg=(X2.heap.size+1):=by omega);(try have:¬X2.heap.size=X1.heap.size:=by omega);(try have:¬X1.heap.size=X2.heap.size:=by omega);(try have:¬X2.heap.size=(X1.heap.size+1):=by omega);(try have:¬(X1.heap.size+1)=X2.heap.size:=by omega);(try have:¬X2.heap.size=W0.heap.size:=by omega);(try have:¬W0.heap.size=X2.heap.size:=by omega);(try have:¬X2.heap.size=(W0.heap.size+1):=by omega);(try have:¬(W0.heap.size+1)=X2.heap.size:=by omega);clear L1 z0 hs1'))
  all_goals have z0:=HZ0.out
  all_goals (try have hs1':=HS1.out)
  ·exact⟨X2.heap.size,X2.heap.size+1,tw_fin (Z:=W0.heap.size) L2 (by intro q hq;simp[hq]) hZb hZw (kb_new2 _ _ _ _ _) (heap_old (heap_new _ _) _) (heap_new2 _ _ _) (.inl (Nat.le_refl _)) (.inl (by omega)) (by omega) (by omega),_,_,_,_,_,_,_,_,_,_,_,_,_,_,_,_,_,_,rfl⟩
  ·exact⟨X2.heap.size+1,X2.heap.size,tw_fin (Z:=W0.heap.size) L2 (by intro q hq;simp[hq]) hZb hZw (kb_new2 _ _ _ _ _) (heap_new2 _ _ _) (heap_old (heap_new _ _) _) (.inl (by omega)) (.inl (Nat.le_refl _)) (by omega) (by omega),_,_,_,_,_,_,_,_,_,_,_,_,_,_,_,_,_,_,rfl⟩
  ·exact⟨X1.heap.size,X2.heap.size,tw_A (Z:=W0.heap.size) L2 (by intro q hq;simp[hq]) hZb hZw (by simp) (by omega) (by omega),_,_,_,_,_,_,_,_,_,_,_,_,_,_,_,_,_,_,rfl⟩
  ·exact⟨X1.heap.size,X1.heap.size+1,tw_B (Z:=W0.heap.size) L2 (by intro q hq;simp[hq]) hZb hZw (by simp) (by simp) (by omega) (by omega) (by omega),_,_,_,_,_,_,_,_,_,_,_,_,_,_,_,_,_,_,rfl⟩
  ·exact⟨X2.heap.size,X1.heap.size,tw_C (Z:=W0.heap.size) L2 (by intro q hq;simp[hq]) hZb hZw (by simp) (by omega) (by omega),_,_,_,_,_,_,_,_,_,_,_,_,_,_,_,_,_,_,rfl⟩
  ·exact⟨X1.heap.size+1,X1.heap.size,tw_B (Z:=W0.heap.size) L2 (by intro q hq;simp[hq]) hZb hZw (by simp) (by simp) (by omega) (by omega) (by omega),_,_,_,_,_,_,_,_,_,_,_,_,_,_,_,_,_,_,rfl⟩
  ·exact⟨W0.heap.size,X2.heap.size,tw_A (Z:=W0.heap.size) L2 (by intro q hq;simp[hq]) hZb hZw (by simp) (by omega) (by omega),_,_,_,_,_,_,_,_,_,_,_,_,_,_,_,_,_,_,rfl⟩
  ·exact⟨W0.heap.size,X1.heap.size,tw_B (Z:=W0.heap.size) L2 (by intro q hq;simp[hq]) hZb hZw (by simp) (by simp) (by omega) (by omega) (by omega),_,_,_,_,_,_,_,_,_,_,_,_,_,_,_,_,_,_,rfl⟩
  ·exact⟨W0.heap.size,W0.heap.size+1,tw_B (Z:=W0.heap.size) L2 (by intro q hq;simp[hq]) hZb hZw (by simp) (by simp) (by omega) (by omega) (by omega),_,_,_,_,_,_,_,_,_,_,_,_,_,_,_,_,_,_,rfl⟩
  ·exact⟨X2.heap.size,W0.heap.size,tw_C (Z:=W0.heap.size) L2 (by intro q hq;simp[hq]) hZb hZw (by simp) (by omega) (by omega),_,_,_,_,_,_,_,_,_,_,_,_,_,_,_,_,_,_,rfl⟩
  ·exact⟨X1.heap.size,W0.heap.size,tw_B (Z:=W0.heap.size) L2 (by intro q hq;simp[hq]) hZb hZw (by simp) (by simp) (by omega) (by omega) (by omega),_,_,_,_,_,_,_,_,_,_,_,_,_,_,_,_,_,_,rfl⟩
  ·exact⟨W0.heap.size+1,W0.heap.size,tw_B (Z:=W0.heap.size) L2 (by intro q hq;simp[hq]) hZb hZw (by simp) (by simp) (by omega) (by omega) (by omega),_,_,_,_,_,_,_,_,_,_,_,_,_,_,_,_,_,_,rfl⟩
 rintro a X ⟨b6,b7,⟨l6,l7,vl,vs,G2,L⟩,y15,y16,y17,y18,y19,y20,y21,y22,y23,y24,y25,y26,y27,y28,y29,y30,y31,y32,rfl⟩;obtain⟨q2,q2f⟩:=L.bx (w.heap.size,#[.pointer (some ⟨G.bg,0,none⟩)],101) (by rw[HBo.out];simp);obtain⟨q5,q5f⟩:=L.bx (w.heap.size+1+1,#[.int .u64 (n:Int)],TN) (by rw[HBo.out];simp);obtain⟨q4,q4f⟩:=L.bx (w.heap.size+1,#[.slice none 0 0],TSet) (by rw[HBo.out];simp);obtain⟨q6,q6f⟩:=L.bx (b6,#[vl],TSet) (by simp);obtain⟨q7,q7f⟩:=L.bx (b7,#[vs],TSet) (by simp);obtain⟨sl,slo⟩:=L.vt (vl,s.standing (s.ld i),w.heap.size) (by simp);obtain⟨ss,sso⟩:=L.vt (vs,s.standing (s.sr i),w.heap.size) (by simp);have hP:TwP B c n G s i w.heap.size w.heap.size (w.heap.size+1+1) b6 b7 vl vs G2 X:=⟨L.gm,L.ch.e1,L.ch.e2,L.ch.e3,q2,q5,q6,q7,sl,ss,by
  rintro b (rfl|rfl|rfl|rfl|e|e)
  ·exact q2f
  ·exact q5f
  ·exact q6f
  ·exact q7f
  ·exact slo b e
  ·exact sso b e⟩
 obtain⟨R,hR,htR⟩:∃R,around k n (twNx s n i)=some R∧t=delS n R:=by
  have h9:(around k n (twNx s n i)).map (delS n)=some t:=ht;cases e:around k n (twNx s n i)with
  |none=>rw[e]at h9;cases h9
  |some R=>rw[e]at h9;cases h9;exact⟨R,rfl,rfl⟩
 have hst:∀k x,x∈s.standing (s.ss.getD k [])→x<n:=by
  intro k x hx;obtain⟨_,y,hy,rfl⟩:=mem_standing.1 hx;exact hw.lt (hw.bd k y hy)
 have hbd:∀x y,x<n+1→y∈twNx s n i x→y<n+1:=by
  intro x y _ hy;unfold twNx at hy;split at hy
  ·exact Nat.lt_succ_of_lt (hst _ _ hy)
  ·split at hy
   ·rcases(mem_addS.1 hy).2 with rfl|hy
    ·omega
    ·exact Nat.lt_succ_of_lt (hw.heirsLt hy)
   ·exact Nat.lt_succ_of_lt (hw.heirsLt hy)
 have hXB:=L.gm.hB;have hwB:=h.hB;have hxw:=L.ch.kb.size;have hge:∀b,(b=w.heap.size∨b=w.heap.size+1+1∨b=b6∨b=b7∨vl.ownBlock=some b∨vs.ownBlock=some b)→w.heap.size≤b:=by
  rintro b (rfl|rfl|rfl|rfl|e|e)
  ·omega
  ·omega
  ·omega
  ·omega
  ·exact(sl.lt e).1
  ·exact(ss.lt e).1
 have HAr:=around_any 177 #[] #[.pointer (some ⟨w.heap.size+1+1,0,none⟩),.pointer (some ⟨b6,0,none⟩),.pointer (some ⟨w.heap.size,0,none⟩),.pointer (some ⟨b7,0,none⟩)] (n+1) (twNx s n i) (twI_nx (B:=B) (c:=c) (n:=n) (G0:=G) (s:=s) (i:=i) (B0:=w.heap.size) (b2:=w.heap.size) (b5:=w.heap.size+1+1) (b6:=b6) (b7:=b7) (vl:=vl) (vs:=vs)) (twI_ok hTl hw) (enters_of Tryz.func177 (by kernel_rfl) rfl) hbd (by omega) k n R X _ ⟨G2,hP,rfl⟩ (TT.out L.ch) (by omega) (fun hm=>by
  rcases mem_tw.1 hm with h9|h9
  ·have:=(L.gm.cells h9).1;omega
  ·have:=hge _ h9;omega) (Nat.zero_le _) (by omega) hR
 have c5:X.cell? ⟨w.heap.size+1+1,0,none⟩=some (.int .u64 (n:Int)):=by rw[cell_at q5];rfl
 have q4n:w.heap.size+1 ∉ G2.foot++(w.heap.size::(w.heap.size+1+1)::b6::b7::(vl.ownBlock.toList++vs.ownBlock.toList)):=by
  intro hm;rcases mem_tw.1 hm with h9|h9|h9|h9|h9|h9|h9
  ·exact q4f h9
  ·omega
  ·omega
  ·omega
  ·omega
  ·exact sl.ne q4 (by dsimp only;decide) h9
  ·exact ss.ne q4 (by dsimp only;decide) h9
 have HK:=hide (And.intro hP (And.intro L (And.intro hge (And.intro q4 q4n))));clear hP L hge q2 q2f q5 q5f q4 q4f q6 q6f q7 q7f sl slo ss sso q4n hst hbd hR ht HL0 HBo HSt L0d cg0 cn0 hZb m1 m2 m3 m4 m5 m6 m7 m8;go_wp2_with fail
 refine HAr.mono ?_
 clear HAr;rintro e W1 ⟨v,F1,rfl,hv,hI,hk1,hf1,ho1⟩;obtain⟨uo,ul,uc,rfl⟩:=hv.form;obtain⟨G1,hP1,rfl⟩:=hI;obtain⟨hP,L,hge,q4,q4n⟩:=HK.out;have hC1:GCh w W1 G G1:=by
  refine⟨⟨hk1.os.trans L.ch.kb.os,hk1.tape.trans L.ch.kb.tape,hk1.output.trans L.ch.kb.output,Nat.le_trans L.ch.kb.size hk1.size,fun j hj hl=>?_⟩,fun b hb=>?_,hP1.e1,hP1.e2,hP1.e3⟩
  ·refine(hk1.block j (by omega) (fun hm=>?_)).trans (L.ch.kb.block j hj hl);rcases mem_tw.1 hm with h9|h9
   ·rcases L.ch.ft j h9 with h8|h8
    ·exact hl h8
    ·omega
   ·have:=hge _ h9;omega
  ·rcases hf1 b (mem_tw.2 (.inl hb))with h9|h9
   ·rcases mem_tw.1 h9 with h8|h8
    ·exact L.ch.ft b h8
    ·exact .inr (hge b h8)
   ·exact .inr (by omega)
 have q41:=hk1.heap q4 q4n;have q4f:w.heap.size+1 ∉ G1.foot:=fun hm=>by
  rcases hf1 _ (mem_tw.2 (.inl hm))with h9|h9
  ·exact q4n h9
  ·have:=lt_of_heap q4;omega
 have hw1:=hk1.size;have h4x:=lt_of_heap q4;obtain⟨W2,hW2⟩:∃W2,W2=W1.alloc (.cells #[.slice uo ul uc] TSet):=⟨_,rfl⟩;have k2:Kb [] W1 W2:=by rw[hW2];exact(Kb.refl [] W1).alloc _
 have a2:W2.heap[W1.heap.size]?=some (.cells #[.slice uo ul uc] TSet (0,0)):=by rw[hW2];exact heap_new _ _
 have hv2:=hv.kb k2 (by simp);have c52:W2.cell? ⟨w.heap.size+1+1,0,none⟩=some (.int .u64 (n:Int)):=by rw[cell_at (hP1.kb k2 (by simp)).c5];rfl
 have HRm:=remove_any X.heap.size W1.heap.size 0 #[.slice uo ul uc] TSet (.slice uo ul uc) R n W2 (by decide) a2 rfl hv2 (by omega);have q42:=k2.heap q41 (by simp);have of1:∀g,(Value.slice uo ul uc).ownBlock=some g→g ∉ G1.foot:=fun g hg hm=>ho1 g hg (mem_tw.2 (.inl hm))
 have z2:W2.heap.size=W1.heap.size+1:=by rw[hW2];simp
 have HD:=hide (And.intro (hP1.gm.beside k2 (by simp)) (And.intro (hC1.beside k2 (by simp)) (And.intro q42 (And.intro of1 (And.intro hP1.gm.footlt hv)))));clear hP L hge q4 q4n HK hP1 hk1 hf1 ho1 hC1 q41 q42 k2 hv2 hv a2 of1 c5;rw[hW2]at HRm c52;go_wp2_with fail
 refine HRm.mono ?_
 clear HRm;rintro e W3 ⟨rfl,v3,hS3,hC3⟩;rw[← hW2]at hC3;obtain⟨xo,xl,xc,rfl⟩:=hS3.form;obtain⟨g2,ch2,q42,of1,flt,hv⟩:=HD.out;have nin:∀b∈W1.heap.size::(Value.slice uo ul uc).ownBlock.toList,b ∉ G1.foot∧X.heap.size≤b:=by
  intro b hb;rcases List.mem_cons.1 hb with rfl|hb
  ·exact⟨fun hm=>by have:=flt _ hm;omega,by omega⟩
  ·simp at hb;exact⟨of1 b hb,(hv.lt hb).1⟩
 have hn4:w.heap.size+1 ∉ W1.heap.size::(Value.slice uo ul uc).ownBlock.toList:=fun hm=>by have:=(nin _ hm).2;omega
 have q43:=hC3.kb.heap q42 hn4;have cz:W3.cell? ⟨w.heap.size+1,0,none⟩=some (.slice none 0 0):=by rw[cell_at q43];rfl
 have fz:W3.frozen? ⟨w.heap.size+1,0,none⟩=false:=frozen_at q43 0;have c8:W3.cell? ⟨W1.heap.size,0,none⟩=some (.slice xo xl xc):=by rw[cell_at hC3.blk];rfl
 obtain⟨W4,hW4⟩:∃W4,W4=W3.setCell ⟨w.heap.size+1,0,none⟩ (.slice xo xl xc):=⟨_,rfl⟩;have k4:Kb [w.heap.size+1] W3 W4:=by rw[hW4];exact(Kb.refl _ _).setCell (p:=⟨w.heap.size+1,0,none⟩) (.inl (by simp)) _
 have hcell:W4.cell? ⟨w.heap.size+1,0,none⟩=some (.slice xo xl xc):=by rw[hW4,cell_at (heap_set q43 0 _)];rfl
 have g3:=g2.beside hC3.kb (fun b hb=>(nin b hb).1);have g4:=g3.beside k4 (fun b hb=>by rw[List.mem_singleton.1 hb];exact q4f);have ch3:=ch2.beside hC3.kb (fun b hb=>by have:=(nin b hb).2;omega);have ch4:=ch3.beside k4 (fun b hb=>by rw[List.mem_singleton.1 hb];omega);have s4:SetV W4 w.heap.size (.slice xo xl xc) t:=by
  rw[htR];exact(hS3.kb k4 (fun g hg e=>by
   rw[List.mem_singleton.1 hg]at e;exact hS3.ne q43 (by decide) e)).low hxw
 have o4:∀g,(Value.slice xo xl xc).ownBlock=some g→g ∉ G1.foot:=by
  intro g hg hm;rcases hC3.lies with h9|⟨g',h9,h8⟩
  ·exact of1 g (h9 ▸ hg) hm
  ·have:g=g':=Option.some.inj (hg.symm.trans h9);have:=flt g hm;omega
 have HF:=hide (And.intro g4 (And.intro ch4 (NewS.mk s4 o4)));clear g2 ch2 q42 of1 flt hv nin hn4 q43 g3 ch3 k4 g4 ch4 s4 o4 HD hS3 hC3;go_wp2;rw[← hW4];refine bodyPost_ret (v:=.agg #[.slice xo xl xc]) (by simp[results,Tryz.results154,go_sem,hcell]) rfl ?_
 exact⟨G1,_,rfl,HF.out.1,HF.out.2.1,HF.out.2.2⟩
end
end Go.Proofs.YtiamlbhkiehilaaGreatDoor
