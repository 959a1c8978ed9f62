import Derived.Test.YtiamlbhkiehilaaGreatDoorKq31
import Derived.Sort.LoopGhostIn
import Derived.Deep.RegionWith
namespace Go.Proofs.YtiamlbhkiehilaaGreatDoor
section
open Go.RowKit Go.Shelf
attribute [local go_sem] Oper.semAt_some
variable {B:Nat} {c:Way} {n:Nat} {s:St}
theorem PaI.flag{w:World}{G:GV}{bp:Nat}{L:List Nat}{bxs:List (Nat × Array Value × TypeId)}{vts:List (Value × List Nat × Nat)}{ds:List Nat}{W:World}{G':GV}{pv:List Value}{ps:List (List Nat)}{b:Nat}{f:Bool}
  (h:PaI w B c n G s bp L ((b,#[.bool f],4)::bxs) vts ds W G' pv ps) (hb:w.heap.size≤b) (hL:b ∉ L) (hx:∀q∈bxs,q.1≠b) (g:Bool) :
  PaI w B c n G s bp L ((b,#[.bool g],4)::bxs) vts ds (W.setCell ⟨b,0,none⟩ (.bool g)) G' pv ps∧(∀D,KeepsFrom D W (W.setCell ⟨b,0,none⟩ (.bool g)))∧KpB L W (W.setCell ⟨b,0,none⟩ (.bool g)):=by
 obtain⟨a1,a2⟩:=h.li.bx (b,#[.bool f],4) List.mem_cons_self;have np:b ∉ pft bp pv:=fun hm=>h.db b hm _ List.mem_cons_self rfl
 have k2:Kb [b] W (W.setCell ⟨b,0,none⟩ (.bool g)):=(Kb.refl _ _).setCell (p:=⟨b,0,none⟩) (.inl (by simp)) _;obtain⟨p1,p2,p3⟩:=(h.subB (bxs':=bxs) (fun k hk=>List.mem_cons_of_mem _ hk)).side k2 (fun x hx2=>by
  rw[List.mem_singleton.1 hx2];exact⟨hb,a2,np,hL,hx,fun q hq=>(h.li.vt q hq).1.ne a1 (by dsimp only;decide),_,_,a1⟩)
 exact⟨p1.addBox (by rw[heap_set a1];rfl) a2 np,p2,p3⟩
theorem partsLoop_zero{s:St}{n:Nat}{al:List Nat}{ps psF:List (List Nat)}(h:s.partsLoop n al 0 ps=some psF):False:=by cases h
theorem partsLoop_succ{s:St}{n k:Nat}{al:List Nat}{ps psF:List (List Nat)}(h:s.partsLoop n al (k+1) ps=some psF):((s.partsRound n al ps).1=true→s.partsLoop n al k (s.partsRound n al ps).2=some psF)∧((s.partsRound n al ps).1=false→(s.partsRound n al ps).2=psF):=by
 rw[St.partsLoop]at h;refine⟨fun e=>?_,fun e=>?_⟩
 ·rw[if_pos e]at h;exact h
 ·rw[if_neg (by rw[e];decide)]at h;injection h
theorem all_le{s:St}{n:Nat}(hw:WF n s):∀b∈s.all n,b<n:=fun _ hb=>hw.allLt hb
def PaK(w:World)(B:Nat)(c:Way)(n:Nat)(G:GV)(s:St)(bp:Nat)(L:List Nat)(bxs:List (Nat × Array Value × TypeId))(vts:List (Value × List Nat × Nat))(ds:List Nat)(ps:List (List Nat))(X W:World):Prop:=PaJ w B c n G s bp L bxs vts ds ps W∧KpB L X W
def PaF(w:World)(B:Nat)(c:Way)(n:Nat)(G:GV)(s:St)(bp:Nat)(L:List Nat)(b9:Nat)(bxs:List (Nat × Array Value × TypeId))(vts:List (Value × List Nat × Nat))(ds:List Nat)(x:Bool × List (List Nat))(X W:World):Prop:=PaJ w B c n G s bp L ((b9,#[.bool x.1],4)::bxs) vts ds x.2 W∧KpB L X W
set_option maxRecDepth 100000 in
set_option maxHeartbeats 40000000 in
set_option linter.unusedSimpArgs false in
theorem parts_ok(hTl:0<B)(k:Nat):PartsOK B c n k:=by
 intro s psF w G h hw hT he;have hn:=h.n40;have hBw:B≤w.heap.size:=h.hB;have hrl:∀x,s.rep x≤x:=hw.rep;have TT:Hid (∀(W:World) (G':GV),GCh w W G G'→TabAt W):=hide (fun W G' hc=>hT.kb hc.kb (fun hm=>by have:=(h.cells hm).1;omega));have hnw:IntKind.u64.wrap (n:Int)=(n:Int):=by rw[IntKind.wrap_u64];omega
 have r5e:∀o1 o2 o3 o4:Obj,((((w.alloc o1).alloc o2).alloc o3).alloc o4).cell? ⟨G.bg,5,none⟩=some (.slice (some ⟨G.bn,0,none⟩) n G.cap):=fun o1 o2 o3 o4=>(h.fresh (((((Kb.refl [] w).alloc o1).alloc o2).alloc o3).alloc o4)).reads.2.2.2.2.2.1
 have r5':(w.alloc (.cells #[.pointer (some ⟨G.bg,0,none⟩)] 101)).cell? ⟨G.bg,5,none⟩=some (.slice (some ⟨G.bn,0,none⟩) n G.cap):=(h.fresh ((Kb.refl [] w).alloc _)).reads.2.2.2.2.2.1;obtain⟨NC,hNC⟩:∃NC,NC=(List.replicate n nilV).toArray:=⟨_,rfl⟩;have hmk:∀w:World,(Instr.makeSlice TPs (.int .u64 (n:Int)) (.int .u64 (n:Int))).run Tryz.prog w=.ok (.slice (some ⟨w.heap.size,0,none⟩) n n) (w.alloc (.cells NC TP)):=by
  intro w;obtain⟨i0,hi0,hz0,hz1,hz2⟩:=info_parts infoPt;have:=run_make (P:=Tryz.prog) w TPs TP i0 _ Tryz.underlying210 hi0 hz0 .u64 .u64 n n (by omega) (Int.le_refl _) (by rw[hz2];omega) (by omega);rw[this,hz1,hNC];simp only[Int.toNat_natCast];rw[made_parts]
 obtain⟨bxs0,hbxs0⟩:∃bxs0:List (Nat × Array Value × TypeId),bxs0=[(w.heap.size,#[.pointer (some ⟨G.bg,0,none⟩)],101),(w.heap.size+1,#[.int .u64 (n:Int)],232),(w.heap.size+1+1+1,#[.slice (some ⟨w.heap.size+1+1,0,none⟩) n n],TPs)]:=⟨_,rfl⟩;obtain⟨W0,hW0⟩:∃W0,W0=(((w.alloc (.cells #[.pointer (some ⟨G.bg,0,none⟩)] 101)).alloc (.cells #[.int .u64 (n:Int)] 232)).alloc (.cells NC TP)).alloc (.cells #[.slice (some ⟨w.heap.size+1+1,0,none⟩) n n] TPs):=⟨_,rfl⟩;have R0:PaI w B c n G s (w.heap.size+1+1) [] bxs0 [] [] W0 G (List.replicate n nilV) (List.replicate n []):=by
  have z1:(w.alloc (.cells #[.pointer (some ⟨G.bg,0,none⟩)] 101)).heap.size=w.heap.size+1:=by simp
  have z2:((w.alloc (.cells #[.pointer (some ⟨G.bg,0,none⟩)] 101)).alloc (.cells #[.int .u64 (n:Int)] 232)).heap.size=w.heap.size+1+1:=by simp
  have z3:(((w.alloc (.cells #[.pointer (some ⟨G.bg,0,none⟩)] 101)).alloc (.cells #[.int .u64 (n:Int)] 232)).alloc (.cells NC TP)).heap.size=w.heap.size+1+1+1:=by simp
  have y0:W0.heap[w.heap.size]?=some (.cells #[.pointer (some ⟨G.bg,0,none⟩)] 101 (0,0)):=by rw[hW0];exact heap_old (heap_old (heap_old (heap_new _ _) _) _) _
  have y1:W0.heap[w.heap.size+1]?=some (.cells #[.int .u64 (n:Int)] 232 (0,0)):=by rw[hW0,← z1];exact heap_old (heap_old (heap_new _ _) _) _
  have y2:W0.heap[w.heap.size+1+1]?=some (.cells NC TP (0,0)):=by
   have h9:=heap_old (heap_new ((w.alloc (.cells #[.pointer (some ⟨G.bg,0,none⟩)] 101)).alloc (.cells #[.int .u64 (n:Int)] 232)) (.cells NC TP)) (.cells #[.slice (some ⟨w.heap.size+1+1,0,none⟩) n n] TPs);rw[z2]at h9;rw[hW0];exact h9
  have y3:W0.heap[w.heap.size+1+1+1]?=some (.cells #[.slice (some ⟨w.heap.size+1+1,0,none⟩) n n] TPs (0,0)):=by
   have h9:=heap_new (((w.alloc (.cells #[.pointer (some ⟨G.bg,0,none⟩)] 101)).alloc (.cells #[.int .u64 (n:Int)] 232)).alloc (.cells NC TP)) (.cells #[.slice (some ⟨w.heap.size+1+1,0,none⟩) n n] TPs);rw[z3]at h9;rw[hW0];exact h9
  have k0:Kb [] w W0:=by rw[hW0];exact((((Kb.refl [] w).alloc _).alloc _).alloc _).alloc _
  have nf:∀b,w.heap.size≤b→b ∉ G.foot:=fun b hb hm=>by have:=h.footlt b hm;omega
  have l0:=((LI.start h).fresh k0).1;have l1:=((l0.addBox y3 (nf _ (by omega))).addBox y1 (nf _ (by omega))).addBox y0 (nf _ (by omega));have pf0:∀b∈pft (w.heap.size+1+1) (List.replicate n nilV),b=w.heap.size+1+1:=by
   intro b hb;rcases mem_pft.1 hb with h9|⟨j,hj,h9⟩
   ·exact h9
   ·rw[List.length_replicate]at hj;rw[List.getD_eq_getElem?_getD]at h9;simp[hj,Value.ownBlock]at h9
  refine⟨?_,PS.start (by rw[← hNC];exact y2) (by omega),fun b hb=>?_,fun _ _=>(by simp),fun b hb q hq e=>?_,fun _ _ q hq=>(by cases hq),(by simp),List.nodup_nil,(by simp)⟩
  ·rw[hbxs0];exact l1
  ·rw[pf0 b hb];exact nf _ (by omega)
  ·rw[pf0 b hb]at e;rw[hbxs0]at hq;simp only[List.mem_cons,List.not_mem_nil,or_false]at hq;rcases hq with rfl|rfl|rfl
   ·dsimp only at e;omega
   ·dsimp only at e;omega
   ·dsimp only at e;omega
 have HNC:=hide hNC;have HB0:=hide hbxs0;have HR0:=hide R0;have HE:=hide he;clear hNC hbxs0 R0 he;refine(callsIn_wide (n:=30)).1 ?_
 refine callsIn_of_wp_marks Tryz.func152 rfl trivial ?_ rfl;simp only[Tryz.ntmps152,List.size_toArray,List.length_cons,List.length_nil,Nat.reduceAdd,Nat.reduceSub,Array.replicate_succ,Array.replicate_zero,List.push_toArray,List.append_toArray,List.nil_append,List.cons_append];gi_wp2
 rw[← hW0]
 refine wpIn_loop_ghost (fun k a W=>∃i ds ps G' pv x5 x6 x7 x11 x12 x13 x14 x15 x16 x17 x18 x19 x20 x21 x22 x25 x26 x27 x28 x29 x30 x31 x32 x33 x34 x35 x36 x37 x38 x39 x40 x41 x42 x43 x44 x45 x46 x47 x48 x49 x50 x51 x52 x53,k+i=n∧PaI w B c n G s (w.heap.size+1+1) [] bxs0 [] ds W G' pv ps∧ps=(List.range i).foldl (pround s n) (List.replicate n [])∧a={ tmps:=#[.pointer (some ⟨G.bg,0,none⟩),.pointer (some ⟨w.heap.size,0,none⟩),.slice none 0 0,.pointer (some ⟨w.heap.size+1,0,none⟩),.pointer (some ⟨w.heap.size+1+1+1,0,none⟩),x5,x6,x7,undef,undef,undef,x11,x12,x13,x14,x15,x16,x17,x18,x19,x20,x21,x22,.int .i64 (n:Int),.int .i64 (i:Int),x25,x26,x27,x28,x29,x30,x31,x32,x33,x34,x35,x36,x37,x38,x39,x40,x41,x42,x43,x44,x45,x46,x47,x48,x49,x50,x51,x52,x53,undef,undef,undef,undef,undef,undef,undef,undef,undef,undef,undef,undef,undef,undef,undef,undef,undef,undef],defers:=ds.map collD }) n ⟨0,[],_,G,_,_,_,_,_,_,_,_,_,_,_,_,_,_,_,_,_,_,_,_,_,_,_,_,_,_,_,_,_,_,_,_,_,_,_,_,_,_,_,_,_,_,_,_,_,Nat.add_zero _,HR0.out,rfl,rfl⟩ ?_
 clear HR0 hW0 r5e r5' hmk;rintro kk a W ⟨i,ds,ps,G',pv,x5,x6,x7,x11,x12,x13,x14,x15,x16,x17,x18,x19,x20,x21,x22,x25,x26,x27,x28,x29,x30,x31,x32,x33,x34,x35,x36,x37,x38,x39,x40,x41,x42,x43,x44,x45,x46,x47,x48,x49,x50,x51,x52,x53,hki,R1,hps,rfl⟩;by_cases h1:i<n
 ·obtain⟨W1,hW1⟩:∃W1,W1=W.alloc (.cells #[.int .i64 (i:Int)] 3):=⟨_,rfl⟩;have k1:Kb [] W W1:=by rw[hW1];exact(Kb.refl [] W).alloc _
  have y1:W1.heap[W.heap.size]?=some (.cells #[.int .i64 (i:Int)] 3 (0,0)):=by rw[hW1];exact heap_new _ _
  have R2:=(R1.fresh (k1.trans ((Kb.refl [] W1).drew))).1;have e1:=R1.li.ch.e1;have e2:=R1.li.ch.e2;have r5:=(R1.fresh k1).1.li.gm.reads.2.2.2.2.2.1;rw[e1,e2]at r5;have cg:=(R1.fresh k1).1.li.cell (b:=w.heap.size) (v:=.pointer (some ⟨G.bg,0,none⟩)) (T:=101) (by rw[HB0.out];simp);have c5:W1.cell? ⟨W.heap.size,0,none⟩=some (.int .i64 (i:Int)):=by rw[cell_at y1];rfl
  have hin:(i:Int)<(n:Int):=by omega
  obtain⟨v,q,q',qs⟩:=R2.li.gm.get (k:=7*i) (by omega);have HAl:=all_any B G'.bn (7*i) _ TNd v _ W1.drew R2.li.gm.hbn q' qs;rw[e2,show 7*i=i*7 by omega]at HAl;have HR:=hide (And.intro R1 (And.intro R2 y1));have HPs:=hide hps;have HKi:=hide hki;clear R1 R2 k1 hps hki v q q' qs y1;gi_wp2
  rw[← hW1];refine wpIn_nrm (K:=fun a W3=>∃bwa va y25 y26 y27 y28 y29 y30 y31 y32 y33,(W1.heap.size≤bwa∧W3.heap[bwa]?=some (.cells #[va] 110 (0,0))∧SetV W3 W1.drew.heap.size va (s.ss.getD (i*7) [])∧Kb [] W1.drew W3)∧a={ tmps:=#[.pointer (some ⟨G.bg,0,none⟩),.pointer (some ⟨w.heap.size,0,none⟩),.slice none 0 0,.pointer (some ⟨w.heap.size+1,0,none⟩),.pointer (some ⟨w.heap.size+1+1+1,0,none⟩),.pointer (some ⟨W.heap.size,0,none⟩),x6,x7,undef,undef,undef,x11,x12,x13,x14,x15,x16,x17,x18,x19,x20,x21,x22,.int .i64 (n:Int),.int .i64 (i:Int),y25,y26,y27,y28,y29,y30,y31,y32,y33,.func (.func 127) #[] #[.pointer (some ⟨bwa,0,none⟩)],x35,x36,x37,x38,x39,x40,x41,x42,x43,x44,x45,x46,x47,x48,x49,x50,x51,x52,x53,undef,undef,undef,undef,undef,undef,undef,undef,undef,undef,undef,undef,undef,undef,undef,undef,undef,undef],defers:=ds.map collD }) ?_ ?_
  ·clear hW1;go_region_with (refine HAl.mono ?_;clear HAl;rintro e W3 ⟨bwa,va,rfl,hK3⟩)
   all_goals exact⟨bwa,va,_,_,_,_,_,_,_,_,_,hK3,rfl⟩
  rintro a W3 ⟨bwa,va,y25,y26,y27,y28,y29,y30,y31,y32,y33,⟨_,hbwa,hva,k3⟩,rfl⟩;obtain⟨R1,R2,y1⟩:=HR.out;have z1:W1.drew.heap.size=W.heap.size+1:=by rw[hW1];show(W.alloc _).heap.size=_;simp
  have hb3:W3.heap[W.heap.size]?=some (.cells #[.int .i64 (i:Int)] 3 (0,0)):=k3.heap y1 (by simp);have hWw:=R1.li.ch.kb.size;have R3:=((R2.fresh k3).1).addBox hb3 (R1.li.newer (Nat.le_refl _)) (fun hm=>by have:=(R1.ps.cells hm).2.1;omega);have hki:=HKi.out;have hps:=HPs.out;clear HPs HKi HAl r5 cg c5 HR;obtain⟨T,hTT⟩:∃T,T=s.ss.getD (i*7) []:=⟨_,rfl⟩;rw[← hTT]at hva;have hTn:∀x∈T,x<n:=fun x hx=>hw.bd _ x (by rw[hTT]at hx;exact hx)
  obtain⟨L,hL⟩:∃L,L=0::va.ownBlock.toList:=⟨_,rfl⟩;have hsz3:W.heap.size+1≤W3.heap.size:=by have:=k3.size;omega
  have hLp:∀k∈L,k ∉ G'.foot∧k<W3.heap.size∧k ∉ pft (w.heap.size+1+1) pv:=by
   intro k hk;rw[hL]at hk;rcases List.mem_cons.1 hk with rfl|hk
   ·exact⟨fun hm=>by have:=(R3.li.gm.cells hm).1;omega,by omega,fun hm=>by have:=(R3.ps.cells hm).1;omega⟩
   ·simp at hk;have hk1:=(hva.lt hk).1;exact⟨R1.li.newer (by omega),(hva.lt hk).2,fun hm=>by have:=(R1.ps.cells hm).2.1;omega⟩
  have hst:=all_stops 29 bwa _ va T L W3 hbwa hva (TT.out _ _ R3.li.ch) (fun g hg=>by rw[hL];simp[hg]) (by rw[hL];simp);have hLlt:∀k∈L,k<W3.heap.size:=fun k hk=>(hLp k hk).2.1
  have hdsl:∀x∈ds,x<W3.heap.size:=fun x hx=>lt_of_heap (R3.dd x hx)
  have HJ0:Hid (PaK w B c n G s (w.heap.size+1+1) L ((W.heap.size,#[.int .i64 (i:Int)],3)::bxs0) [] ds ps W3 W3):=hide ⟨⟨G',pv,R3.setL hLp⟩,KpB.refl _ _⟩;clear R1 R2 R3 hbwa hLp hb3 y1 hva k3 z1 e1 e2;gi_wp2
  refine wpIn_rangeFunc_ownG (α:=Mem T) (hro:=rfl) (h1:=by omega) (gf:=127) (lb:=#[.pointer (some ⟨bwa,0,none⟩)]) rfl trivial (enters_of Tryz.func127 (by kernel_rfl) rfl) hst (fun h1 h2=>h1.trans h2) (kpB_b hLlt) (Below.refl _ _) (fun _=>rfl)
   (fun pre X=>PaK w B c n G s (w.heap.size+1+1) L ((W.heap.size,#[.int .i64 (i:Int)],3)::bxs0) [] ds ((valsM pre).foldl (pstep s n i) ps) W3 X)
   (fun _ _ _=>False) ?hI (fun _ _ _ _ _ hs _ _=>hs) HJ0.out ?a1 ?assign ?body ?done ?stop
  case hI=>
   rintro pre X X' row ⟨⟨G4,pv4,q1⟩,q5⟩ hg hr;refine⟨⟨G4,pv4,q1.own (by omega) hdsl hg hr⟩,fun k hk=>?_⟩;rw[← q5 k hk];refine(kb_grown hg).block k (q1.li.lb k hk).2 (fun hm=>?_);have h8:=(hr k (by simpa using hm)).1;have h9:=hLlt k hk;omega
  case assign=>
   intro l x W K hK;gi_wp2
   exact hK
  case stop=>
   rintro D cc pre X _ _ hF _;exact hF.elim
  case body=>
   rintro l pre ⟨y,hyT⟩ X ⟨⟨G4,pv4,q1⟩,q5⟩ hlen;have hy:=hTn y hyT;have HE9:Hid ((valsM (pre++[(⟨y,hyT⟩:Mem T)])).foldl (pstep s n i) ps=pstep s n i ((valsM pre).foldl (pstep s n i) ps) y):=by unfold Hid valsM;rw[List.map_append,List.foldl_append];rfl
   generalize (valsM pre).foldl (pstep s n i) ps=z at *;have hP:=q1.ps;have hsw:=q1.li.ch.kb.size;have cg:=q1.li.cell (b:=w.heap.size) (v:=.pointer (some ⟨G.bg,0,none⟩)) (T:=101) (by rw[HB0.out];simp);have cp:=q1.li.cell (b:=w.heap.size+1+1+1) (v:=.slice (some ⟨w.heap.size+1+1,0,none⟩) n n) (T:=TPs) (by rw[HB0.out];simp);have ci:=q1.li.cell (b:=W.heap.size) (v:=.int .i64 (i:Int)) (T:=3) List.mem_cons_self;have HAd:=padd_any w.heap.size (w.heap.size+1+1) i pv4.toArray TP (pv4.getD i nilV) (z.getD i []) y X hsw (by decide) hP.hb (hP.get h1) (hP.st i h1) (by omega);have HQ1:=hide (And.intro q1 q5);clear q1 q5 hP;dsimp only[encN,Array.zip,Array.foldl];gi_wp2
   refine⟨trivial,?_⟩;refine(CallsIn.inRound l (callsIn_wide.2 HAd)).mono ?_
   clear HAd;rintro e X1 ⟨rfl,v1,hS1,hC1⟩;obtain⟨q1,q5⟩:=HQ1.out;obtain⟨q2,q2a,q2b⟩:=q1.put h1 hC1 hS1;have cg1:=q2.li.cell (b:=w.heap.size) (v:=.pointer (some ⟨G.bg,0,none⟩)) (T:=101) (by rw[HB0.out];simp);have HOf:=gof_any y X1 G4 q2.li.gm (by omega);rw[q2.li.ch.e1]at HOf;have HQ2:=hide (And.intro q2 (And.intro q2a (And.intro q2b q5)));clear q1 q5 q2 q2a q2b hS1 hC1 HQ1 cg cp ci;gi_wp2
   refine⟨trivial,?_⟩;refine(CallsIn.inRound l (callsIn_wide.2 HOf)).mono ?_
   clear HOf;rintro e X2 ⟨rfl,G5,hG5,hC5⟩;obtain⟨q2,q2a,q2b,q5⟩:=HQ2.out;obtain⟨q3,q3a,q3b⟩:=q2.call hG5 hC5;have hr:=hw.lt hy;have HE8:=hide (show pstep s n i z y=(z.set i (addS y (z.getD i []))).set (s.rep y) (addS (n+s.rep y) ((z.set i (addS y (z.getD i []))).getD (s.rep y) []))from rfl);generalize s.rep y=r at *;generalize z.set i (addS y (z.getD i []))=z2 at *;generalize pv4.set i v1=pv5 at *;obtain⟨m,hm⟩:∃m,m=n+r:=⟨_,rfl⟩;have hwm:IntKind.u64.wrap ((n:Int)+(r:Int))=(m:Int):=by rw[IntKind.wrap_u64];omega
   have cp:=q3.li.cell (b:=w.heap.size+1+1+1) (v:=.slice (some ⟨w.heap.size+1+1,0,none⟩) n n) (T:=TPs) (by rw[HB0.out];simp);have cn:=q3.li.cell (b:=w.heap.size+1) (v:=.int .u64 (n:Int)) (T:=232) (by rw[HB0.out];simp);obtain⟨q3d,q3e,q3f⟩:=q3.fresh (W':=X2.drew) ((Kb.refl [] X2).drew);have hrn:(r:Int)<(n:Int):=by omega
   have HAd:=padd_any w.heap.size (w.heap.size+1+1) r pv5.toArray TP (pv5.getD r nilV) (z2.getD r []) m X2.drew (Nat.le_trans hsw (Nat.le_trans (q2a 0).size (q3a 0).size)) (by decide) q3d.ps.hb (q3d.ps.get hr) (q3d.ps.st r hr) (by omega);rw[← hm]at HE8;have HPut:Hid (∀X3 v3,SetCh X2.drew X3 (w.heap.size+1+1) r pv5.toArray TP (pv5.getD r nilV) v3→SetV X3 w.heap.size v3 (addS m (z2.getD r []))→(∀D,KeepsFrom D X X3)∧KpB L X X3∧PaK w B c n G s (w.heap.size+1+1) L ((W.heap.size,#[.int .i64 (i:Int)],3)::bxs0) [] ds (pstep s n i z y) W3 X3):=by
    refine hide (fun X3 v3 hC3 hS3=>?_);obtain⟨q4,q4a,q4b⟩:=q3d.put hr hC3 hS3;have b4:KpB L X X3:=((q2b.trans q3b).trans q3f).trans q4b;refine⟨fun D=>(((q2a D).trans (q3a D)).trans (q3e D)).trans (q4a D),b4,⟨G5,pv5.set r v3,?_⟩,q5.trans b4⟩;rw[HE8.out];exact q4
   have HM:=hide hm;clear q2 q2a q2b q5 q3 q3a q3b hG5 hC5 q3d q3e q3f HQ2 cg1 hm HE8;gi_wp2
   refine wpIn_nrmG (K:=fun _ X3=>(∀D,KeepsFrom D X X3)∧KpB L X X3∧PaK w B c n G s (w.heap.size+1+1) L ((W.heap.size,#[.int .i64 (i:Int)],3)::bxs0) [] ds (pstep s n i z y) W3 X3) ?_ ?_
   ·skip
    refine wpIn_region_any (by kernel_rfl) ?_
    (try (change wpAnyIn _ _ _ _ _ _ _ _ _ (World.drew _)))
    change wpAnyIn (Fence.wide.inRound l) _ _ _ _ _ _ _ _ _;refine wpAnyIn_round (by kernel_rfl) _ _ _ _ ?_
    refine wpAnyIn_take (i:=1) (v:=?_) rfl rfl (by kernel_rfl) (by kernel_rfl) (by kernel_rfl) (fun _ _ _ h=>h) ⟨Or.inl ⟨by rfl,?_⟩,fun _=>rfl⟩ ?_
    rotate_left
    ·(intro w;go_simp;try (with_reducible rfl))
    try simp only[Act.put,List.setIfInBounds_toArray,List.set_cons_zero,List.set_cons_succ]
    refine wpAnyIn_take (i:=4) (v:=?_) rfl rfl (by kernel_rfl) (by kernel_rfl) (by kernel_rfl) (fun _ _ _ h=>h) ⟨Or.inl ⟨by rfl,?_⟩,fun _=>rfl⟩ ?_
    rotate_left
    ·(intro w;go_simp;try (with_reducible rfl))
    try simp only[Act.put,List.setIfInBounds_toArray,List.set_cons_zero,List.set_cons_succ]
    refine wpAnyIn_ready (rs:=[0,3]) (by kernel_rfl) (by simp) ?_
    refine AllReadyIn.cons rfl (fun K hK=>?_) ?_
    ·go_simp
     refine hK _ _ ?_
     clear hK K;refine wpAnyIn_take (i:=2) (v:=?_) rfl rfl (by kernel_rfl) (by kernel_rfl) (by kernel_rfl) (fun _ _ _ h=>h) ⟨Or.inl ⟨by rfl,?_⟩,fun _=>rfl⟩ ?_
     rotate_left
     ·(intro w;go_simp;try (with_reducible rfl))
     try simp only[Act.put,List.setIfInBounds_toArray,List.set_cons_zero,List.set_cons_succ]
     refine wpAnyIn_ready (rs:=[3]) (by kernel_rfl) (by simp) ?_
     refine AllReadyIn.cons rfl (fun K hK=>?_) ?_
     ·go_simp
      refine hK _ _ ?_
      clear hK K;refine wpAnyIn_take (i:=5) (v:=?_) rfl rfl (by kernel_rfl) (by kernel_rfl) (by kernel_rfl) (fun _ _ _ h=>h) ⟨Or.inl ⟨by rfl,?_⟩,fun _=>rfl⟩ ?_
      rotate_left
      ·(intro w;go_simp;try (with_reducible rfl))
      try simp only[Act.put,List.setIfInBounds_toArray,List.set_cons_zero,List.set_cons_succ]
      refine wpAnyIn_ready (rs:=[6]) (by kernel_rfl) (by simp) ?_
      refine AllReadyIn.cons rfl (fun K hK=>?_) ?_
      ·go_simp
       refine⟨trivial,?_⟩;refine(callsIn_wide.2 HAd).mono ?_
       clear HAd;rintro e X3 ⟨rfl,v3,hS3,hC3⟩;have HG:=HPut.out X3 v3 hC3 hS3;clear hS3 hC3 HPut;refine hK _ _ ?_
       clear hK K;refine wpAnyIn_done (by kernel_rfl) ?_ _;exact HG
      exact AllReadyIn.nil
     exact AllReadyIn.nil
    refine AllReadyIn.cons rfl (fun K hK=>?_) ?_
    ·go_simp
     refine hK _ _ ?_
     clear hK K;refine wpAnyIn_take (i:=5) (v:=?_) rfl rfl (by kernel_rfl) (by kernel_rfl) (by kernel_rfl) (fun _ _ _ h=>h) ⟨Or.inl ⟨by rfl,?_⟩,fun _=>rfl⟩ ?_
     rotate_left
     ·(intro w;go_simp;try (with_reducible rfl))
     try simp only[Act.put,List.setIfInBounds_toArray,List.set_cons_zero,List.set_cons_succ]
     refine wpAnyIn_ready (rs:=[0]) (by kernel_rfl) (by simp) ?_
     refine AllReadyIn.cons rfl (fun K hK=>?_) ?_
     ·go_simp
      refine hK _ _ ?_
      clear hK K;refine wpAnyIn_take (i:=2) (v:=?_) rfl rfl (by kernel_rfl) (by kernel_rfl) (by kernel_rfl) (fun _ _ _ h=>h) ⟨Or.inl ⟨by rfl,?_⟩,fun _=>rfl⟩ ?_
      rotate_left
      ·(intro w;go_simp;try (with_reducible rfl))
      try simp only[Act.put,List.setIfInBounds_toArray,List.set_cons_zero,List.set_cons_succ]
      refine wpAnyIn_ready (rs:=[6]) (by kernel_rfl) (by simp) ?_
      refine AllReadyIn.cons rfl (fun K hK=>?_) ?_
      ·go_simp
       refine⟨trivial,?_⟩;refine(callsIn_wide.2 HAd).mono ?_
       clear HAd;rintro e X3 ⟨rfl,v3,hS3,hC3⟩;have HG:=HPut.out X3 v3 hC3 hS3;clear hS3 hC3 HPut;refine hK _ _ ?_
       clear hK K;refine wpAnyIn_done (by kernel_rfl) ?_ _;exact HG
      exact AllReadyIn.nil
     exact AllReadyIn.nil
    exact AllReadyIn.nil
   rintro a X3 ⟨t1,t2,t3⟩;refine⟨t1 _,t2,?_⟩;show PaK _ _ _ _ _ _ _ _ _ _ _ _ _ _;rw[HE9.out];exact t3
  case done=>
   rintro D xs X hD hxs ⟨⟨G4,pv4,q1⟩,q5⟩ hK;have hxv:valsM xs=s.tg i:=by
    have h9:valsM xs=T:=hxs;rw[h9,hTT];unfold St.tg;rw[show 7*i=i*7 by omega]
   rw[hxv]at q1;have hF:Hid (PaI w B c n G s (w.heap.size+1+1) [] bxs0 [] (D::ds) X G4 pv4 (pround s n ps i)):=hide (((q1.setL (L':=[]) (by simp)).subB (fun q hq=>List.mem_cons_of_mem _ hq)).addD hK (fun x hx=>by have:=hdsl x hx;omega) (by omega));have HPs:Hid (pround s n ps i=(List.range (i+1)).foldl (pround s n) (List.replicate n [])):=by
    unfold Hid;rw[List.range_succ,List.foldl_append,← hps];rfl
   clear q1 q5 hK hst HJ0 hxs hxv hps;gi_wp2
   exact⟨kk-1,by omega,i+1,D::ds,_,G4,pv4,_,_,_,_,_,_,_,_,_,_,_,_,_,_,_,_,_,_,_,_,_,_,_,_,_,_,_,_,_,_,_,_,_,_,_,_,_,_,_,_,_,_,_,_,by omega,hF.out,HPs.out,rfl⟩
 ·have hie:i=n:=by omega
  have hnn:¬((i:Int)<(n:Int)):=by omega
  rw[hie,← parts0_eq]at hps;subst hps;have he:s.partsLoop n (s.all n) k (s.parts0 n)=some psF:=HE.out;have HE2:=hide he;have cg:=R1.li.cell (b:=w.heap.size) (v:=.pointer (some ⟨G.bg,0,none⟩)) (T:=101) (by rw[HB0.out];simp);have HAs:=gall_any W G' R1.li.gm hrl;rw[R1.li.ch.e1]at HAs;have HR1:=hide R1;clear R1 HE he hki h1;gi_wp2
  refine⟨trivial,?_⟩;refine(callsIn_wide.2 HAs).mono ?_
  clear HAs;rintro e W5 ⟨G5,va,rfl,hG5,hC5,hNS⟩;obtain⟨uo,ul,uc,rfl⟩:=hNS.set.form;obtain⟨W6,hW6⟩:∃W6,W6=(W5.alloc (.cells #[.slice uo ul uc] TSet)).alloc (.cells #[.bool true] 4):=⟨_,rfl⟩;obtain⟨b8,hb8⟩:∃b8,b8=W5.heap.size:=⟨_,rfl⟩;obtain⟨Wz,hWz⟩:∃Wz,Wz=W.heap.size:=⟨_,rfl⟩;obtain⟨al,hal⟩:∃al,al=s.all n:=⟨_,rfl⟩;obtain⟨va,hva⟩:∃va,va=Value.slice uo ul uc:=⟨_,rfl⟩;have haln:∀b∈al,b<n:=by rw[hal];exact all_le hw
  have hwz:w.heap.size≤W.heap.size:=HR1.out.li.ch.kb.size;have hwz5:W.heap.size≤b8:=by rw[hb8];exact hC5.kb.size
  have hb0:∀q∈bxs0,q.1<W.heap.size:=fun q hq=>lt_of_heap (HR1.out.li.bx q hq).1
  have R6:PaI w B c n G s (w.heap.size+1+1) [] ((b8+1,#[.bool true],4)::(b8,#[va],TSet)::bxs0) [(va,al,Wz)] ds W6 G5 pv (s.parts0 n):=by
   have k6:Kb [] W5 W6:=by rw[hW6];exact((Kb.refl [] W5).alloc _).alloc _
   have y8:W6.heap[b8]?=some (.cells #[va] TSet (0,0)):=by rw[hW6,hb8,hva];exact heap_old (heap_new _ _) _
   have y9:W6.heap[b8+1]?=some (.cells #[.bool true] 4 (0,0)):=by
    have h9:=heap_new (W5.alloc (.cells #[.slice uo ul uc] TSet)) (.cells #[.bool true] 4);rw[show(W5.alloc (.cells #[.slice uo ul uc] TSet)).heap.size=W5.heap.size+1 by simp]at h9;rw[hW6,hb8];exact h9
   have p5:=(HR1.out.call hG5 hC5).1;have nf:∀b,b8≤b→b ∉ G5.foot:=fun b hb hm=>by have:=hG5.footlt b hm;omega
   have np:∀b,b8≤b→b ∉ pft (w.heap.size+1+1) pv:=fun b hb hm=>by have:=(p5.ps.cells hm).2.1;omega
   have p6:=(p5.fresh k6).1;have hs6:=hNS.set.kb k6 (by simp);rw[← hva,← hal,← hWz]at hs6;refine((p6.addBox y8 (nf _ (Nat.le_refl _)) (np _ (Nat.le_refl _))).addBox y9 (nf _ (by omega)) (np _ (by omega))).addSet hs6 (by rw[hva];exact hNS.out) (fun g hg hm=>?_);have h8:=(hs6.lt hg).1;have h7:=(HR1.out.ps.cells hm).2.1;omega
  have HR6:=hide R6;rw[← hal]at HE2;have HVA:=hide hva;clear R6 hNS hG5 hC5 HR1 cg;gi_wp2
  rw[← hW6,← hb8,← hva];clear hva hW6 hb8
  refine wpIn_loop_ghost (fun j a W=>∃b9 fl ds ps G' pv z5 z6 z7 z10 z11 z12 z13 z14 z15 z16 z17 z18 z19 z20 z21 z22 z23 z24 z25 z26 z27 z28 z29 z30 z31 z32 z33 z34 z35 z36 z37 z38 z39 z40 z41 z42 z43 z44 z45 z46 z47 z48 z49 z50 z51 z52 z53 z54 z55 z56 z57 z58 z59 z60 z61 z62 z63 z64 z65 z66 z67 z68 z69 z70 z71,(b8<b9∧(fl=true→s.partsLoop n al j ps=some psF)∧(fl=false→ps=psF))∧PaI w B c n G s (w.heap.size+1+1) [] ((b9,#[.bool fl],4)::(b8,#[va],TSet)::bxs0) [(va,al,Wz)] ds W G' pv ps∧a={ tmps:=#[.pointer (some ⟨G.bg,0,none⟩),.pointer (some ⟨w.heap.size,0,none⟩),.slice none 0 0,.pointer (some ⟨w.heap.size+1,0,none⟩),.pointer (some ⟨w.heap.size+1+1+1,0,none⟩),z5,z6,z7,.pointer (some ⟨b8,0,none⟩),.pointer (some ⟨b9,0,none⟩),z10,z11,z12,z13,z14,z15,z16,z17,z18,z19,z20,z21,z22,z23,z24,z25,z26,z27,z28,z29,z30,z31,z32,z33,z34,z35,z36,z37,z38,z39,z40,z41,z42,z43,z44,z45,z46,z47,z48,z49,z50,z51,z52,z53,z54,z55,z56,z57,z58,z59,z60,z61,z62,z63,z64,z65,z66,z67,z68,z69,z70,z71],defers:=ds.map collD }) k ⟨b8+1,true,ds,_,G5,pv,_,_,_,_,_,_,_,_,_,_,_,_,_,_,_,_,_,_,_,_,_,_,_,_,_,_,_,_,_,_,_,_,_,_,_,_,_,_,_,_,_,_,_,_,_,_,_,_,_,_,_,_,_,_,_,_,_,_,_,_,_,_,_,_,_,⟨Nat.lt_succ_self _,fun _=>HE2.out,(by intro h;cases h)⟩,HR6.out,rfl⟩ ?_
  clear HR6 HE2;rintro j a W ⟨b9,fl,ds,ps,G',pv,z5,z6,z7,z10,z11,z12,z13,z14,z15,z16,z17,z18,z19,z20,z21,z22,z23,z24,z25,z26,z27,z28,z29,z30,z31,z32,z33,z34,z35,z36,z37,z38,z39,z40,z41,z42,z43,z44,z45,z46,z47,z48,z49,z50,z51,z52,z53,z54,z55,z56,z57,z58,z59,z60,z61,z62,z63,z64,z65,z66,z67,z68,z69,z70,z71,⟨hb9,hf1,hf2⟩,R1,rfl⟩;have c9:=R1.li.cell (b:=b9) (v:=.bool fl) (T:=4) List.mem_cons_self;cases fl
  ·have hpF:=hf2 rfl;subst hpF;have cp:=R1.li.cell (b:=w.heap.size+1+1+1) (v:=.slice (some ⟨w.heap.size+1+1,0,none⟩) n n) (T:=TPs) (by rw[HB0.out];simp);have HF:=hide R1.done;have HD:=hide (And.intro R1.nd R1.dd);clear R1;gi_wp2
   refine leaves_coll ds W HD.out.1 HD.out.2 ?_
   exact⟨_,results_tmp rfl _ _ _,G',w.heap.size+1+1,rfl,HF.out.1,HF.out.2.1,pv,HF.out.2.2.1,HF.out.2.2.2⟩
  ·have hpl:=hf1 rfl;obtain⟨jj,hjj⟩:∃jj,j=jj+1:=by
    cases j with
    |zero=>exact(partsLoop_zero hpl).elim
    |succ jj=>exact⟨jj,rfl⟩
   rw[hjj]at hpl;have HPl:=hide (partsLoop_succ hpl);clear hf1 hf2 hpl;have hbq:∀q∈((b8,#[va],TSet)::bxs0:List (Nat × Array Value × TypeId)),q.1≠b9:=by
    intro q hq;rcases List.mem_cons.1 hq with rfl|hq
    ·dsimp only;omega
    ·have:=hb0 q hq;omega
   obtain⟨R2,_,_⟩:=R1.flag (by omega) (by simp) hbq false;have f9:W.frozen? ⟨b9,0,none⟩=false:=frozen_at (R1.li.bx _ List.mem_cons_self).1 0;obtain⟨W2,hW2⟩:∃W2,W2=W.setCell ⟨b9,0,none⟩ (.bool false):=⟨_,rfl⟩;rw[← hW2]at R2;have HAl:=all_any Wz b8 0 #[va] TSet va al W2 (R2.li.bx (b8,#[va],TSet) (by simp)).1 rfl (R2.li.vt (va,al,Wz) (by simp)).1;rw[hW2]at HAl;have HR2:=hide R2;clear R1 R2;gi_wp2
   refine⟨trivial,?_⟩;refine(callsIn_wide.2 HAl).mono ?_
   clear HAl;rintro e W3 ⟨bwa,vc,rfl,_,hbwa,hvc,k3⟩;rw[← hW2]at hvc k3;have R3:=(HR2.out.fresh k3).1;obtain⟨L,hL⟩:∃L,L=0::vc.ownBlock.toList:=⟨_,rfl⟩;have h9lt:b9<W2.heap.size:=lt_of_heap (HR2.out.li.bx _ List.mem_cons_self).1;have hsz3:W2.heap.size≤W3.heap.size:=k3.size;have hLp:∀k∈L,k ∉ G'.foot∧k<W3.heap.size∧k ∉ pft (w.heap.size+1+1) pv:=by
    intro k hk;rw[hL]at hk;rcases List.mem_cons.1 hk with rfl|hk
    ·exact⟨fun hm=>by have:=(R3.li.gm.cells hm).1;omega,by omega,fun hm=>by have:=(R3.ps.cells hm).1;omega⟩
    ·simp at hk;have hk1:=(hvc.lt hk).1;exact⟨HR2.out.li.newer (by omega),(hvc.lt hk).2,fun hm=>by have:=(HR2.out.ps.cells hm).2.1;omega⟩
   have h9L:b9 ∉ L:=by
    rw[hL];intro hm;rcases List.mem_cons.1 hm with e|hm
    ·omega
    ·simp at hm;have:=(hvc.lt hm).1;omega
   have hst:=all_stops 29 bwa _ vc al L W3 hbwa hvc (TT.out _ _ R3.li.ch) (fun g hg=>by rw[hL];simp[hg]) (by rw[hL];simp);have hLlt:∀k∈L,k<W3.heap.size:=fun k hk=>(hLp k hk).2.1
   have hdsl:∀x∈ds,x<W3.heap.size:=fun x hx=>lt_of_heap (R3.dd x hx)
   have HJ0:Hid (PaF w B c n G s (w.heap.size+1+1) L b9 ((b8,#[va],TSet)::bxs0) [(va,al,Wz)] ds (false,ps) W3 W3):=hide ⟨⟨G',pv,R3.setL hLp⟩,KpB.refl _ _⟩;clear R3 hbwa hLp hvc k3 HR2 hW2 c9 f9 hL;gi_wp2
   refine wpIn_rangeFunc_ownG (α:=Mem al) (hro:=rfl) (h1:=by omega) (gf:=127) (lb:=#[.pointer (some ⟨bwa,0,none⟩)]) rfl trivial (enters_of Tryz.func127 (by kernel_rfl) rfl) hst (fun h1 h2=>h1.trans h2) (kpB_b hLlt) (Below.refl _ _) (fun _=>rfl)
    (fun pre X=>PaF w B c n G s (w.heap.size+1+1) L b9 ((b8,#[va],TSet)::bxs0) [(va,al,Wz)] ds ((valsM pre).foldl (rstep s n) (false,ps)) W3 X)
    (fun _ _ _=>False) ?hI2 (fun _ _ _ _ _ hs _ _=>hs) HJ0.out ?a2 ?assign2 ?body2 ?done2 ?stop2
   case hI2=>
    rintro pre X X' row ⟨⟨G4,pv4,q1⟩,q5⟩ hg hr;refine⟨⟨G4,pv4,q1.own (by omega) hdsl hg hr⟩,fun k hk=>?_⟩;rw[← q5 k hk];refine(kb_grown hg).block k (q1.li.lb k hk).2 (fun hm=>?_);have h8:=(hr k (by simpa using hm)).1;have h9:=hLlt k hk;omega
   case assign2=>
    intro l x W K hK;gi_wp2
    exact hK
   case stop2=>
    rintro D cc pre X _ _ hF _;exact hF.elim
   case body2=>
    rintro l pre ⟨y,hyT⟩ X ⟨⟨G4,pv4,q1⟩,q5⟩ hlen;have hy:=haln y hyT;have HE9:Hid ((valsM (pre++[(⟨y,hyT⟩:Mem al)])).foldl (rstep s n) (false,ps)=rstep s n ((valsM pre).foldl (rstep s n) (false,ps)) y):=by unfold Hid valsM;rw[List.map_append,List.foldl_append];rfl
    generalize (valsM pre).foldl (rstep s n) (false,ps)=z at *;obtain⟨zf,zp⟩:=z;dsimp only at q1;have cg:=q1.li.cell (b:=w.heap.size) (v:=.pointer (some ⟨G.bg,0,none⟩)) (T:=101) (by rw[HB0.out];simp);have cp:=q1.li.cell (b:=w.heap.size+1+1+1) (v:=.slice (some ⟨w.heap.size+1+1,0,none⟩) n n) (T:=TPs) (by rw[HB0.out];simp);have cn:=q1.li.cell (b:=w.heap.size+1) (v:=.int .u64 (n:Int)) (T:=232) (by rw[HB0.out];simp);obtain⟨m2,hm2⟩:∃m2,m2=2*n:=⟨_,rfl⟩;obtain⟨m3,hm3⟩:∃m3,m3=2*n+y:=⟨_,rfl⟩;have hw2:IntKind.u64.wrap (2*(n:Int))=(m2:Int):=by rw[IntKind.wrap_u64];omega
    have hw3:IntKind.u64.wrap ((m2:Int)+(y:Int))=(m3:Int):=by rw[IntKind.wrap_u64];omega
    have HHp:=ghandp_any y m3 w.heap.size (w.heap.size+1+1) pv4 zp X G4 q1.li.gm hw (TT.out _ _ q1.li.ch) hTl (by omega) hy (by omega) q1.ps q1.dj;rw[q1.li.ch.e1]at HHp;have HY:Hid (rstep s n (zf,zp) y=((s.handParts zp y m3).1 || zf,(s.handParts zp y m3).2)):=by unfold Hid rstep;rw[hm3]
    have HQ:=hide (And.intro q1 q5);clear q1 q5 hm2 hm3;dsimp only[encN,Array.zip,Array.foldl];gi_wp2
    refine⟨trivial,?_⟩;refine(CallsIn.inRound l (callsIn_wide.2 HHp)).mono ?_
    clear HHp;rintro e X1 ⟨rfl,G5,pv5,hG5,hP5,hC5⟩;generalize s.handParts zp y m3=hp at *;obtain⟨hf,hpp⟩:=hp;dsimp only at hP5 HY;obtain⟨q1,q5⟩:=HQ.out;obtain⟨q2,q2a,q2b⟩:=q1.step hG5 hP5 hC5;have c9:=q2.li.cell (b:=b9) (v:=.bool zf) (T:=4) List.mem_cons_self;have f9:X1.frozen? ⟨b9,0,none⟩=false:=frozen_at (q2.li.bx _ List.mem_cons_self).1 0;have HFl:Hid (∀g,g=(hf || zf)→(∀D,KeepsFrom D X (X1.setCell ⟨b9,0,none⟩ (.bool g)))∧KpB L X (X1.setCell ⟨b9,0,none⟩ (.bool g))∧PaF w B c n G s (w.heap.size+1+1) L b9 ((b8,#[va],TSet)::bxs0) [(va,al,Wz)] ds (rstep s n (zf,zp) y) W3 (X1.setCell ⟨b9,0,none⟩ (.bool g))):=by
     refine hide (fun g hg=>?_);obtain⟨q3,q3a,q3b⟩:=q2.flag (by omega) h9L hbq g;refine⟨fun D=>(q2a D).trans (q3a D),q2b.trans q3b,⟨G5,pv5,?_⟩,q5.trans (q2b.trans q3b)⟩;rw[HY.out,← hg];exact q3
    clear q1 q2 q2a q2b q5 HQ hG5 hP5 hC5 cg cp cn;cases hf
    ·gi_wp2
     obtain⟨t1,t2,t3⟩:=HFl.out zf (by simp);refine⟨t1 _,t2,?_⟩;show PaF _ _ _ _ _ _ _ _ _ _ _ _ _ _ _;rw[HE9.out];exact t3
    ·gi_wp2
     obtain⟨t1,t2,t3⟩:=HFl.out true (by simp);refine⟨t1 _,t2,?_⟩;show PaF _ _ _ _ _ _ _ _ _ _ _ _ _ _ _;rw[HE9.out];exact t3
   case done2=>
    rintro D xs X hD hxs ⟨⟨G4,pv4,q1⟩,q5⟩ hK;have hxv:valsM xs=al:=hxs;rw[hxv,← partsRound_eq]at q1;obtain⟨p1,p2⟩:=HPl.out;generalize s.partsRound n al ps=y at *;obtain⟨yf,yp⟩:=y;dsimp only at q1 p1 p2;have c9:=q1.li.cell (b:=b9) (v:=.bool yf) (T:=4) List.mem_cons_self;have kA:Kb [] X (X.alloc (.cells #[.bool yf] 4)):=(Kb.refl [] X).alloc _;have hsx:W3.heap.size≤X.heap.size:=Nat.le_trans hD (Nat.le_of_lt (lt_of_heap hK));have hF:Hid (PaI w B c n G s (w.heap.size+1+1) [] ((X.heap.size,#[.bool yf],4)::(b8,#[va],TSet)::bxs0) [(va,al,Wz)] (D::ds) (X.alloc (.cells #[.bool yf] 4)) G4 pv4 yp):=by
     have a1:=((q1.setL (L':=[]) (by simp)).subB (bxs':=(b8,#[va],TSet)::bxs0) (fun q hq=>List.mem_cons_of_mem _ hq)).addD hK (fun x hx=>by have:=hdsl x hx;omega) (by omega);exact hide ((a1.fresh kA).1.addBox (heap_new _ _) (a1.li.newer (Nat.le_refl _)) (fun hm=>by have:=(a1.ps.cells hm).2.1;omega))
    have HPP:=hide (And.intro p1 p2);clear q1 q5 hst HJ0 hxs hxv p1 p2 HPl;gi_wp2
    exact⟨jj,by omega,X.heap.size,yf,D::ds,yp,G4,pv4,_,_,_,_,_,_,_,_,_,_,_,_,_,_,_,_,_,_,_,_,_,_,_,_,_,_,_,_,_,_,_,_,_,_,_,_,_,_,_,_,_,_,_,_,_,_,_,_,_,_,_,_,_,_,_,_,_,_,_,_,_,_,_,_,_,⟨by omega,HPP.out.1,HPP.out.2⟩,hF.out,rfl⟩
end
end Go.Proofs.YtiamlbhkiehilaaGreatDoor
