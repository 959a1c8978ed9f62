import Derived.Test.YtiamlbhkiehilaaGreatDoorKq11
import Derived.Test.YtiamlbhkiehilaaGreatDoorKq18
import Derived.Test.YtiamlbhkiehilaaGreatDoorKq12
import Derived.Deep.RegionWith
import Derived.Sort.LoopGhostIn
namespace Go.Proofs.YtiamlbhkiehilaaGreatDoor
section
open Go.RowKit Go.Shelf
attribute [local go_sem] Oper.semAt_some
attribute [-go_sem] Builtin.append_
variable {B:Nat} {c:Way} {n:Nat} {s:St}
theorem wpIn_nrmG{F:Fence}{m:Nat}{P:Program}{c:Code}{K:Act→World→Prop}{Q:Exit→Act→World→Prop}{a:Act}{w:World}(h:c.wpIn F m P (nrm K) a w)(hK:∀a w,K a w→Q .normal a w):c.wpIn F m P Q a w:=
 Code.wpIn_mono (fun e a w h=>by cases e<;>first|exact hK _ _ h|exact h.elim) h
def rowsS(s:St)(ns:List ByteArray):List RowD:=(List.range ns.length).map fun i=>⟨ns.getD i ⟨#[]⟩,(s.tg (s.rep i)).map (fun t=>ns.getD t ⟨#[]⟩)⟩
theorem rowsS_get{s:St}{ns:List ByteArray}{i:Nat}(hi:i<ns.length):(rowsS s ns)[i]?=some ⟨ns.getD i ⟨#[]⟩,(s.tg (s.rep i)).map (fun t=>ns.getD t ⟨#[]⟩)⟩:=by
 unfold rowsS;rw[List.getElem?_map,List.getElem?_range hi];rfl
theorem rowsS_len(s:St)(ns:List ByteArray):(rowsS s ns).length=ns.length:=by simp[rowsS]
theorem LI.side{w:World}{G:GV}{L:List Nat}{bxs:List (Nat × Array Value × TypeId)}{W W':World}{st:St}{G':GV}(h:LI w B c n G L bxs [] W st G'){M:List Nat}(hk:Kb M W W')(hM:∀b∈M,w.heap.size≤b∧b ∉ G'.foot∧b ∉ L∧∀q∈bxs,q.1≠b):LI w B c n G L bxs [] W' st G':=
 ⟨h.gm.beside hk (fun b hb=>(hM b hb).2.1),h.ch.beside hk (fun b hb=>(hM b hb).1),fun q hq=>⟨hk.heap (h.bx q hq).1 (fun hm=>(hM _ hm).2.2.2 q hq rfl),(h.bx q hq).2⟩,(by intro q hq;cases hq),fun k hk2=>⟨(h.lb k hk2).1,Nat.lt_of_lt_of_le (h.lb k hk2).2 hk.size⟩⟩
set_option maxRecDepth 100000 in
set_option maxHeartbeats 40000000 in
theorem grows_any(ao:Option Addr)(cap:Nat)(ns:List ByteArray)(w:World)(G:GV)(h:GM w B c ns.length G s)(hw:WF ns.length s)(hT:TabAt w)(hTl:0<B)(hvn:IsStrs (.slice ao ns.length cap) ns w)(hnb:ns≠[]→∀a:Addr,ao=some a→a.block<B) :
  Calls Tryz.prog 60 #[.pointer (some ⟨G.bg,0,none⟩),.slice ao ns.length cap] w fun e w'=>∃vl G',e=.returned vl∧IsRows vl (rowsS s ns) w'∧GM w' B c ns.length G' s∧GCh w w' G G':=by
 obtain⟨i0,hi0,hz0,hz1,hz2⟩:=info_parts infoStr;obtain⟨j0,hj0,hy0,hy1,hy2⟩:=info_parts infoRow;have hn40:=h.n40;have HST:Hid (ns≠[]→∃b off,ao=some ⟨b,off,none⟩∧∀W G',GCh w W G G'→StrsAt b off ns W):=by
  refine hide (fun hne=>?_);obtain⟨ao2,cap2,e,_,_,h3⟩:=hvn;obtain⟨b,off,rfl,hb,hs⟩:=h3 hne;injection e with e _ _;subst e;refine⟨b,off,rfl,fun W G' hC i x hi=>?_⟩;have hbB:=hnb hne _ rfl;rw[← hs i x hi];exact World.cell?_of_block (hC.kb.block b hb (fun hm=>by have:=(h.cells hm).1;simp at hbB;omega))
 have TT:Hid (∀(W:World) (G':GV),GCh w W G G'→TabAt W):=hide (fun W G' hc=>hT.kb hc.kb (fun hm=>by have:=(h.cells hm).1;omega));obtain⟨W0,hW0⟩:∃W0,W0=w.alloc (.cells #[.slice ao ns.length cap] 44):=⟨_,rfl⟩;have k0:Kb [] w W0:=by rw[hW0];exact(Kb.refl [] w).alloc _
 have x0:W0.heap[w.heap.size]?=some (.cells #[.slice ao ns.length cap] 44 (0,0)):=by rw[hW0];exact heap_new _ _
 have R0:RI w B c ns.length G s (.slice ao ns.length cap) [] W0 G (.slice none 0 0) [] W0.heap.size []:=by
  refine⟨?_,OwnR.nil _ _ _,k0.size,Nat.le_refl _,by simp,List.nodup_nil,by simp⟩;exact((LI.start h).fresh k0).1.addBox x0 (fun hm=>by have:=h.footlt _ hm;omega)
 refine(callsIn_wide (n:=20)).1 ?_
 refine callsIn_of_wp_marks Tryz.func60 rfl trivial ?_ rfl;simp only[Tryz.ntmps60,List.size_toArray,List.length_cons,List.length_nil,Nat.reduceAdd,Nat.reduceSub,Array.replicate_succ,Array.replicate_zero,List.push_toArray,List.append_toArray,List.nil_append,List.cons_append];have HR0:=hide R0;clear R0 x0 k0 hvn;gi_wp2
 rw[← hW0];refine wpIn_loop_ghost (fun k a W=>∃i vl ps ds G' x6 x7 x8 x9 x13 x14 x15 x16 x17 x18 x19 x20 x21 x22 x23 x24 x25 x26 x27 x28 x29 x30 x31 x32 x33 x34 x35 x36 x37 x38 x39 x40 x41 x42 x43 x44 x45 x46,k+i=ns.length∧RI w B c ns.length G s (.slice ao ns.length cap) [] W G' vl ps W.heap.size ds∧ps.map Prod.fst=(rowsS s ns).take i∧a={ tmps:=#[.pointer (some ⟨G.bg,0,none⟩),.slice ao ns.length cap,undef,.pointer (some ⟨w.heap.size,0,none⟩),.slice none 0 0,vl,x6,x7,x8,x9,.slice ao ns.length cap,.int .i64 (ns.length:Int),.int .i64 (i:Int),x13,x14,x15,x16,x17,x18,x19,x20,x21,x22,x23,x24,x25,x26,x27,x28,x29,x30,x31,x32,x33,x34,x35,x36,x37,x38,x39,x40,x41,x42,x43,x44,x45,x46,undef],defers:=ds.map collD }) ns.length ⟨0,.slice none 0 0,[],[],G,_,_,_,_,_,_,_,_,_,_,_,_,_,_,_,_,_,_,_,_,_,_,_,_,_,_,_,_,_,_,_,_,_,_,_,_,_,_,Nat.add_zero _,HR0.out,rfl,rfl⟩ ?_
 clear HR0 hW0;rintro k a W ⟨i,vl,ps,ds,G',x6,x7,x8,x9,x13,x14,x15,x16,x17,x18,x19,x20,x21,x22,x23,x24,x25,x26,x27,x28,x29,x30,x31,x32,x33,x34,x35,x36,x37,x38,x39,x40,x41,x42,x43,x44,x45,x46,hki,R1,hps,rfl⟩;by_cases h1:i<ns.length
 ·obtain⟨nm,hnm⟩:∃nm,ns[i]?=some nm:=⟨_,List.getElem?_eq_getElem h1⟩;obtain⟨b,off,rfl,hS⟩:=HST.out (by intro e;rw[e]at h1;simp at h1);have c0:=hS W G' R1.li.ch i nm hnm;obtain⟨W1,hW1⟩:∃W1,W1=W.alloc (.cells #[.string nm,.slice none 0 0] 51):=⟨_,rfl⟩;have k1:Kb [] W W1:=by rw[hW1];exact(Kb.refl [] W).alloc _
  have y1:W1.heap[W.heap.size]?=some (.cells #[.string nm,.slice none 0 0] 51 (0,0)):=by rw[hW1];exact heap_new _ _
  have kd:Kb [] W1 W1.drew:=(Kb.refl [] W1).drew;have R2:=(R1.fresh (k1.trans kd)).1;have hbrf:W.heap.size ∉ G'.foot:=R1.li.newer (Nat.le_refl _);have e1:=R1.li.ch.e1;have hrep:=hw.lt h1;have r5:=(R1.fresh k1).1.li.gm.reads.2.2.2.2.2.1;rw[e1,R1.li.ch.e2]at r5;have HOf:=gof_any i W1.drew G' R2.li.gm (by omega);rw[e1]at HOf;obtain⟨Good,hGood⟩:∃Good:World→Nat→Value→Prop,Good=fun W3 bwa va=>∃G3,RI w B c ns.length G s (.slice (some ⟨b,off,none⟩) ns.length cap) [] W3 G3 vl ps W.heap.size ds∧W3.heap[W.heap.size]?=some (.cells #[.string nm,.slice none 0 0] 51 (0,0))∧W.heap.size ∉ G3.foot∧W3.heap[bwa]?=some (.cells #[va] 110 (0,0))∧SetV W3 (W.heap.size+1) va (s.tg (s.rep i))∧W.heap.size<W3.heap.size∧∀g,va.ownBlock=some g→g ∉ G3.foot:=⟨_,rfl⟩
  have HN:Hid (∀W2 G2,GM W2 B c ns.length G2 s→GCh W1.drew W2 G' G2→W2.cell? ⟨G.bg,5,none⟩=some (.slice (some ⟨G.bn,0,none⟩) ns.length G2.cap)∧Calls Tryz.prog 94 #[.pointer (some ⟨G.bn,s.rep i*7,none⟩)] W2 fun e W3=>∃bwa va,e=.returned (.func (.func 127) #[] #[.pointer (some ⟨bwa,0,none⟩)])∧Good W3 bwa va):=by
   refine hide (fun W2 G2 hG2 hC2=>?_);obtain⟨R3,_,_⟩:=R2.call hG2 hC2;have q5:=R3.li.gm.reads.2.2.2.2.2.1;rw[R3.li.ch.e1,R3.li.ch.e2]at q5;refine⟨q5,?_⟩;obtain⟨v,q,q',qs⟩:=R3.li.gm.get (k:=7*s.rep i) (by omega);have:=all_any B G2.bn (7*s.rep i) _ TNd v _ W2 R3.li.gm.hbn q' qs;rw[R3.li.ch.e2,show 7*s.rep i=s.rep i*7 by omega]at this;refine this.mono ?_
   rintro e W3 ⟨bwa,va,p1,p2,p3,p4,p5⟩;refine⟨bwa,va,p1,?_⟩;rw[hGood];have hlt:W.heap.size<W2.heap.size:=by
    have h9:=lt_of_heap y1;have h8:=hC2.kb.size;have h7:W1.drew.heap.size=W1.heap.size:=rfl;omega
   refine⟨G2,(R3.fresh p5).1,p5.heap (hC2.kb.heap y1 hbrf) (by simp),fun hm=>?_,p3,?_,Nat.lt_of_lt_of_le hlt p5.size,fun g hg hm=>by have h6:=(p4.lt hg).1;have h5:=hG2.footlt g hm;omega⟩
   ·rcases hC2.ft _ hm with h9|h9
    ·exact hbrf h9
    ·have h8:=lt_of_heap y1;have h7:W1.drew.heap.size=W1.heap.size:=rfl;omega
   ·have e9:s.tg (s.rep i)=s.ss.getD (s.rep i*7) []:=by unfold St.tg;rw[show 7*s.rep i=s.rep i*7 by omega]
    rw[e9];exact p4.low (by omega)
  have hwr:IntKind.u64.wrap (i:Int)=(i:Int):=by rw[IntKind.wrap_u64];omega
  have HR:=hide R1;have HGd:=hide hGood;have HPs:=hide hps;have HKi:=hide hki;clear R1 R2 k1 kd hbrf hGood hps hki;gi_wp2
  rw[← hW1];refine wpIn_nrm (K:=fun a W3=>∃bwa va y13 y14 y15 y16 y17 y18 y19 y20 y21 y22 y23 y24 y25 y26 y27 y28 y29 y30,Good W3 bwa va∧a={ tmps:=#[.pointer (some ⟨G.bg,0,none⟩),.slice (some ⟨b,off,none⟩) ns.length cap,undef,.pointer (some ⟨w.heap.size,0,none⟩),.slice none 0 0,vl,.int .i64 (i:Int),.string nm,.pointer (some ⟨W.heap.size,0,none⟩),x9,.slice (some ⟨b,off,none⟩) ns.length cap,.int .i64 (ns.length:Int),.int .i64 (i:Int),y13,y14,y15,y16,y17,y18,y19,y20,y21,y22,y23,y24,y25,y26,y27,y28,y29,y30,.func (.func 127) #[] #[.pointer (some ⟨bwa,0,none⟩)],x32,x33,x34,x35,x36,x37,x38,x39,x40,x41,x42,x43,x44,x45,x46,undef],defers:=ds.map collD }) ?_ ?_
  ·clear y1 hW1;go_region_with (first
    |(refine HOf.mono ?_;clear HOf;rintro e W2 ⟨rfl,G2,hG2,hC2⟩;obtain⟨q5,HAl⟩:=HN.out W2 G2 hG2 hC2;clear hG2 hC2)
    | (refine HAl.mono ?_;clear HAl;rintro e W3 ⟨bwa,va,rfl,hK3⟩))
   all_goals exact⟨bwa,va,_,_,_,_,_,_,_,_,_,_,_,_,_,_,_,_,_,_,hK3,rfl⟩
  rintro a W3 ⟨bwa,va,y13,y14,y15,y16,y17,y18,y19,y20,y21,y22,y23,y24,y25,y26,y27,y28,y29,y30,hGd,rfl⟩;have hki:=HKi.out;have hps:=HPs.out;rw[HGd.out]at hGd;obtain⟨G3,R3,hbx,hbf,hbwa,hva,hlt,hvf⟩:=hGd;clear HGd HPs HKi HN HOf hW1 y1 r5;obtain⟨T,hTT⟩:∃T,T=s.tg (s.rep i):=⟨_,rfl⟩;rw[← hTT]at hva;have hTn:∀x∈T,x<ns.length:=fun x hx=>hw.bd _ x (by rw[hTT]at hx;exact hx)
  have hTl2:T.length≤40:=by have:=hva.len hTn;omega
  obtain⟨L,hL⟩:∃L,L=0::va.ownBlock.toList:=⟨_,rfl⟩;have hboxn:=(R3.li.bx _ List.mem_cons_self).1;have hwb:w.heap.size<W.heap.size:=lt_of_heap (HR.out.li.bx _ List.mem_cons_self).1;have hBw:B≤w.heap.size:=h.hB;have hLp:∀k∈L,k ∉ G3.foot∧k<W3.heap.size:=by
   intro k hk;rw[hL]at hk;rcases List.mem_cons.1 hk with rfl|hk
   ·exact⟨fun hm=>by have:=(R3.li.gm.cells hm).1;omega,by omega⟩
   ·simp at hk;exact⟨hvf k hk,(hva.lt hk).2⟩
  have hst:=all_stops 19 bwa (W.heap.size+1) va T L W3 hbwa hva (TT.out _ _ R3.li.ch) (fun g hg=>by rw[hL];simp[hg]) (by rw[hL];simp);have hLlt:∀k∈L,k<W3.heap.size:=fun k hk=>(hLp k hk).2
  have hdsl:∀x∈ds,x<W3.heap.size:=fun x hx=>lt_of_heap (R3.dd x hx)
  have R4:=R3.setL hLp;have HJ0:=hide (And.intro R4 (And.intro hbx hbf));clear R3 R4 hbx hbf hbwa hLp hboxn;gi_wp2
  refine wpIn_rangeFunc_ownG (α:=Mem T) (hro:=rfl) (h1:=by omega) (gf:=127) (lb:=#[.pointer (some ⟨bwa,0,none⟩)]) rfl trivial (enters_of Tryz.func127 (by kernel_rfl) rfl) hst (fun h1 h2=>h1.trans h2) (kpB_b hLlt) (Below.refl _ _) (fun _=>rfl)
   (fun pre X=>∃tv G4,RI w B c ns.length G s (.slice (some ⟨b,off,none⟩) ns.length cap) L X G4 vl ps W.heap.size ds∧X.heap[W.heap.size]?=some (.cells #[.string nm,tv] 51 (0,0))∧W.heap.size ∉ G4.foot∧X.ownsRow W.heap.size 9 1 tv pre.length (cellsS (pre.map (fun x=>ns.getD x.1 ⟨#[]⟩)))∧KpB L W3 X)
   (fun _ _ _=>False) ?hI (fun _ _ _ _ _ hs _ _=>hs) ⟨.slice none 0 0,G3,HJ0.out.1,HJ0.out.2.1,HJ0.out.2.2,World.ownsRow_nil _ _ _ _,KpB.refl _ _⟩ ?a1 ?assign ?body ?done ?stop
  case hI=>
   rintro pre X X' row ⟨tv,G4,q1,q2,q3,q4,q5⟩ hg hr;have hnb:∀ {b:Nat} {cs:Array Value} {T:TypeId} {fz:Nat × Nat},X.heap[b]?=some (.cells cs T fz)→b ∉ row.toList:=by
    intro b cs T fz hb hm;obtain⟨_,o,ho,hc⟩:=hr b (by simpa using hm);rw[hb]at ho;cases ho;cases hc
   refine⟨tv,G4,q1.own (by omega) hdsl hg hr,(kb_grown hg).heap q2 (hnb q2),q3,own_kb2 q4 (kb_grown hg) (fun g hg2=>?_),fun k hk=>?_⟩
   ·obtain⟨cs,hc⟩:=own_cells q4 hg2;exact hnb hc
   ·rw[← q5 k hk];refine(kb_grown hg).block k (q1.li.lb k hk).2 (fun hm=>?_);have h8:=(hr k (by simpa using hm)).1;have h9:=hLlt k hk;omega
  case assign=>
   intro l x W K hK;gi_wp2
   exact hK
  case stop=>
   rintro D cc pre X _ _ hF _;exact hF.elim
  case body=>
   rintro l pre ⟨y,hyT⟩ X ⟨tv,G4,q1,q2,q3,q4,q5⟩ hlen;have hy:=hTn y hyT;obtain⟨ym,hym⟩:∃ym,ns[y]?=some ym:=⟨_,List.getElem?_eq_getElem hy⟩;have eym:ns.getD y ⟨#[]⟩=ym:=by simp[hym]
   have c1:=hS X G4 q1.li.ch y ym hym;have cb:=q1.li.cell (b:=w.heap.size) (v:=.slice (some ⟨b,off,none⟩) ns.length cap) (T:=44) List.mem_cons_self;have cr:X.cell? ⟨W.heap.size,1,none⟩=some tv:=by rw[cell_at q2];rfl
   have crA:(X.alloc (.cells #[.string ym] 9)).cell? ⟨W.heap.size,1,none⟩=some tv:=by rw[cell_at (heap_old q2 _)];rfl
   have kA:Kb [] X (X.drew.alloc (.cells #[.string ym] 9)):=((Kb.refl [] X).drew).alloc _;have hbase:W.heap.size≤X.heap.size:=q1.hs2;obtain⟨v',w',hrun,hown',hgrow,_⟩:=run_append_own (P:=Tryz.prog) (X.drew.alloc (.cells #[.string ym] 9)) W.heap.size 44 44 9 i0 (.string ⟨#[]⟩) 1 16 Tryz.underlying44 hi0 hz0 hz1 hz2 rfl (by decide) tv pre.length _ (own_kb2 q4 kA (by simp)) ⟨X.heap.size,0,none⟩ 1 1 [.string ym] rfl (cells_new X.drew _ _ _ rfl) (by intro u hu;simp at hu;rw[hu];rfl) (by unfold maxLen;have:pre.length<T.length:=hlen;omega) (by have:pre.length<T.length:=hlen;omega) (by simp;omega);obtain⟨ao1,cap1,e1',_⟩:=own_form hown';obtain⟨ao0,cap0,e0',_⟩:=own_form q4;subst e1' e0';have kG:=kb_grown hgrow;have hneb:∀g,(Value.slice ao0 pre.length cap0).ownBlock=some g→g≠W.heap.size:=by
    intro g hg;obtain⟨cs,hc⟩:=own_cells q4 hg;exact ne_types hc q2 (by decide)
   have b2:w'.heap[W.heap.size]?=some (.cells #[.string nm,.slice ao0 pre.length cap0] 51 (0,0)):=kG.heap (kA.heap q2 (by simp)) (fun hm=>by simp at hm;exact hneb _ hm rfl);have cr2:w'.cell? ⟨W.heap.size,1,none⟩=some (.slice ao0 pre.length cap0):=by rw[cell_at b2];rfl
   have fr2:w'.frozen? ⟨W.heap.size,1,none⟩=false:=frozen_at b2 1;have HF:Hid ((∀D,KeepsFrom D X (w'.setCell ⟨W.heap.size,1,none⟩ (.slice ao1 (pre.length+1) cap1)))∧KpB L X (w'.setCell ⟨W.heap.size,1,none⟩ (.slice ao1 (pre.length+1) cap1))∧∃tv G4,RI w B c ns.length G s (.slice (some ⟨b,off,none⟩) ns.length cap) L (w'.setCell ⟨W.heap.size,1,none⟩ (.slice ao1 (pre.length+1) cap1)) G4 vl ps W.heap.size ds∧(w'.setCell ⟨W.heap.size,1,none⟩ (.slice ao1 (pre.length+1) cap1)).heap[W.heap.size]?=some (.cells #[.string nm,tv] 51 (0,0))∧W.heap.size ∉ G4.foot∧(w'.setCell ⟨W.heap.size,1,none⟩ (.slice ao1 (pre.length+1) cap1)).ownsRow W.heap.size 9 1 tv (pre++[(⟨y,hyT⟩:Mem T)]).length (cellsS ((pre++[(⟨y,hyT⟩:Mem T)]).map (fun x=>ns.getD x.1 ⟨#[]⟩)))∧KpB L W3 (w'.setCell ⟨W.heap.size,1,none⟩ (.slice ao1 (pre.length+1) cap1))):=by
    refine hide ?_
    have kS:Kb [W.heap.size] w' (w'.setCell ⟨W.heap.size,1,none⟩ (.slice ao1 (pre.length+1) cap1)):=(Kb.refl _ _).setCell (p:=⟨W.heap.size,1,none⟩) (.inl (by simp)) _;have kk:Kb (W.heap.size::(Value.slice ao0 pre.length cap0).ownBlock.toList) X (w'.setCell ⟨W.heap.size,1,none⟩ (.slice ao1 (pre.length+1) cap1)):=((kA.mono (by simp)).trans (kG.mono (by intro k _ hk;simp[hk]))).trans (kS.mono (by intro k _ hk;simp at hk;simp[hk]));have hM:∀g∈W.heap.size::(Value.slice ao0 pre.length cap0).ownBlock.toList,W.heap.size≤g∧g≠w.heap.size∧g ∉ G4.foot∧g ∉ L∧∃cs T,X.heap[g]?=some (.cells cs T (0,0)):=by
     intro g hg;rcases List.mem_cons.1 hg with rfl|hg
     ·refine⟨Nat.le_refl _,by omega,q3,?_,_,_,q2⟩;rw[hL];intro hm;rcases List.mem_cons.1 hm with e|hm
      ·omega
      ·simp at hm;have:=(hva.lt hm).1;omega
     ·simp at hg;obtain⟨cs,hc⟩:=own_cells q4 hg;refine⟨(q4.lt g hg).1,ne_types hc (q1.li.bx _ List.mem_cons_self).1 (by dsimp only;decide),fun hm=>?_,?_,_,_,hc⟩
      ·obtain⟨cs2,T2,h8,t1,_⟩:=q1.li.gm.types hm;rw[hc]at h8;injection h8 with h8;injection h8 with _ h8 _;exact t1 h8.symm
      ·rw[hL];intro hm;rcases List.mem_cons.1 hm with e|hm
       ·have:=(q4.lt g hg).1;omega
       ·simp at hm;obtain⟨cs2,hc2⟩:=hva.block hm;have h8:=q5 g (by rw[hL];simp[hm]);rw[hc,hc2]at h8;injection h8 with h8;injection h8 with _ h8 _;exact absurd h8 (by decide)
    obtain⟨s1,s2,s3⟩:=q1.side kk hM;refine⟨s2,s3,.slice ao1 (pre.length+1) cap1,G4,s1,by rw[heap_set b2];rfl,q3,?_,q5.trans s3⟩;have h9:=own_kb2 hown' kS (fun g hg hm=>by
     rw[List.mem_singleton.1 hm]at hg;obtain⟨cs,hc⟩:=own_cells hown' hg;exact ne_types hc b2 (by decide) rfl)
    have e8:cellsS ((pre++[(⟨y,hyT⟩:Mem T)]).map (fun x=>ns.getD x.1 ⟨#[]⟩))=cellsS (pre.map (fun x=>ns.getD x.1 ⟨#[]⟩))++[.string ym]:=by
     rw[List.map_append];unfold cellsS;rw[List.map_append];simp only[List.map_cons,List.map_nil,eym]
    rw[e8,List.length_append];exact h9
   have hsz9:(X.drew.alloc (.cells #[.string ym] 9)).heap.size=X.heap.size+1:=by simp
   have hrun2:(Builtin.append_ #[44,44] 44 #[.slice ao0 pre.length cap0,.slice (some ⟨X.heap.size,0,none⟩) 1 1]).run Tryz.prog ((X.alloc (.cells #[.string ym] 9)).drew)=.ok (.slice ao1 (pre.length+1) cap1) w':=hrun;obtain⟨AP,hAP⟩:∃AP,Builtin.append_ #[44,44] 44 #[.slice ao0 pre.length cap0,.slice (some ⟨X.heap.size,0,none⟩) 1 1]=AP:=⟨_,rfl⟩;rw[hAP]at hrun2;clear q1 q2 q3 q4 q5 hown' hgrow kG kA b2 hneb eym hym hsz9 hrun;dsimp only[encN,Array.zip,Array.foldl];gi_wp2
   refine wpIn_nrmG (K:=fun _ W'=>W'=w'.setCell ⟨W.heap.size,1,none⟩ (.slice ao1 (pre.length+1) cap1)) ?_ ?_
   ·gi_region
    all_goals exact rfl
   rintro a W' rfl;exact⟨HF.out.1 _,HF.out.2.1,HF.out.2.2⟩
  case done=>
   rintro D xs X hD hxs ⟨tv,G4,q1,q2,q3,q4,q5⟩ hK;have exs:xs.map (fun x=>ns.getD x.1 ⟨#[]⟩)=T.map (fun t=>ns.getD t ⟨#[]⟩):=by
    have h9:=congrArg (List.map (fun t=>ns.getD t ⟨#[]⟩)) hxs;rw[List.map_map]at h9;exact h9
   have elen:xs.length=(T.map (fun t=>ns.getD t ⟨#[]⟩)).length:=by rw[← exs,List.length_map]
   rw[exs,elen]at q4;obtain⟨ta,tc,et,_⟩:=own_form q4;subst et;obtain⟨tv,htv⟩:∃tv,tv=Value.slice ta (T.map (fun t=>ns.getD t ⟨#[]⟩)).length tc:=⟨_,rfl⟩;rw[← htv]at q2 q4;have q4':X.ownsRow W.heap.size 9 1 tv (⟨nm,T.map (fun t=>ns.getD t ⟨#[]⟩)⟩:RowD).to.length ((⟨nm,T.map (fun t=>ns.getD t ⟨#[]⟩)⟩:RowD).to.map Value.string):=q4;have d0:X.cell? ⟨W.heap.size,0,none⟩=some (.string nm):=by rw[cell_at q2];rfl
   have d1:X.cell? ⟨W.heap.size,1,none⟩=some tv:=by rw[cell_at q2];rfl
   have hpl:ps.length=i:=by
    have h9:=congrArg List.length hps;rw[List.length_map,List.length_take,rowsS_len]at h9;omega
   have hXs:W.heap.size≤X.heap.size:=q1.hs2;have hoc:∀u∈[Value.string nm,tv],u.oneCell'=true:=by
    intro u hu;simp at hu;rcases hu with h9|h9
    ·rw[h9];rfl
    ·rw[h9,htv];rfl
   obtain⟨v',w',hrun,hown',hgrow,_⟩:=run_append_own (P:=Tryz.prog) (X.alloc (.cells #[.string nm,tv] 51)) w.heap.size 40 40 51 j0 (.agg #[.string ⟨#[]⟩,.slice none 0 0]) 2 40 Tryz.underlying40 hj0 hy0 hy1 hy2 rfl (by decide) vl ps.length _ (q1.row.row.alloc _) ⟨X.heap.size,0,none⟩ 1 1 [.string nm,tv] rfl (cells_new X _ _ _ rfl) hoc (by unfold maxLen;omega) (by omega) (by simp;omega);have hpu:=q1.row.push q1.hs1 q4' hown' hgrow;have HF:Hid (RI w B c ns.length G s (.slice (some ⟨b,off,none⟩) ns.length cap) [] w' G4 v' (ps++[(⟨nm,T.map (fun t=>ns.getD t ⟨#[]⟩)⟩,tv)]) w'.heap.size (D::ds)∧(ps++[((⟨nm,T.map (fun t=>ns.getD t ⟨#[]⟩)⟩:RowD),tv)]).map Prod.fst=(rowsS s ns).take (i+1)):=by
    have kA:Kb [] X (X.alloc (.cells #[.string nm,tv] 51)):=(Kb.refl [] X).alloc _;have kk:Kb vl.ownBlock.toList X w':=(kA.mono (by simp)).trans (kb_grown hgrow);have hty:∀g∈vl.ownBlock.toList,∃cs,X.heap[g]?=some (.cells cs 51 (0,0)):=fun g hg=>own_cells q1.row.row (by simpa using hg)
    have l1:=(q1.setL (L':=[]) (by simp)).li.side kk (fun g hg=>by
     obtain⟨cs,hc⟩:=hty g hg;refine⟨(q1.row.row.lt g (by simpa using hg)).1,fun hm=>?_,by simp,fun q hq e=>?_⟩
     ·obtain⟨cs2,T2,h8,_,t2,_⟩:=q1.li.gm.types hm;rw[hc]at h8;injection h8 with h8;injection h8 with _ h8 _;exact t2 h8.symm
     ·have h8:=(q1.li.bx q hq).1;rw[List.mem_singleton.1 hq]at h8 e;rw[← e]at hc;rw[hc]at h8;injection h8 with h8;injection h8 with _ h8 _;exact absurd h8 (by dsimp only;decide))
    have kd2:∀x:Nat,X.heap[x]?=some (Obj.deferred (some []))→w'.heap[x]?=some (Obj.deferred (some [])):=fun x hx=>kk.heap hx (fun hm=>by
     obtain⟨cs,hc⟩:=hty x hm;rw[hx]at hc;cases hc)
    refine hide ⟨⟨l1,hpu,Nat.le_trans q1.hs1 (Nat.le_trans hXs kk.size),Nat.le_refl _,fun x hx=>?_,List.nodup_cons.2 ⟨fun hm=>?_,q1.nd⟩,fun x hx=>?_⟩,?_⟩
    ·rcases List.mem_cons.1 hx with rfl|hx
     ·exact kd2 _ hK
     ·exact kd2 x (q1.dd x hx)
    ·have:=hdsl D hm;omega
    ·rcases List.mem_cons.1 hx with rfl|hx
     ·omega
     ·exact q1.lo x hx
    ·rw[List.map_append,hps,List.take_add_one,rowsS_get h1,← hTT];simp[hnm]
   have hrun2:(Builtin.append_ #[40,40] 40 #[vl,.slice (some ⟨X.heap.size,0,none⟩) 1 1]).run Tryz.prog (X.alloc (.cells #[.string nm,tv] 51))=.ok v' w':=hrun;obtain⟨AP,hAP⟩:∃AP,Builtin.append_ #[40,40] 40 #[vl,.slice (some ⟨X.heap.size,0,none⟩) 1 1]=AP:=⟨_,rfl⟩;rw[hAP]at hrun2;clear q1 q2 q3 q4 q4' q5 hown' hgrow hrun hpu exs elen HR HJ0 hst htv hoc hTT hva hxs;gi_wp2
   exact⟨k-1,by omega,i+1,v',ps++[(⟨nm,T.map (fun t=>ns.getD t ⟨#[]⟩)⟩,tv)],D::ds,G4,_,_,_,_,_,_,_,_,_,_,_,_,_,_,_,_,_,_,_,_,_,_,_,_,_,_,_,_,_,_,_,_,_,_,_,_,_,_,by omega,HF.out.1,HF.out.2,rfl⟩
 ·have hie:i=ns.length:=by omega
  rw[hie,List.take_of_length_le (by rw[rowsS_len];exact Nat.le_refl _)]at hps;have HF:Hid (IsRows vl (rowsS s ns) (ds.foldl (fun W D=>W.putObj D (.deferred none)) W)∧GM (ds.foldl (fun W D=>W.putObj D (.deferred none)) W) B c ns.length G' s∧GCh w (ds.foldl (fun W D=>W.putObj D (.deferred none)) W) G G'):=by
   have hk:=coll_kb ds W;have hnc:∀D∈ds,∀cs T fz,W.heap[D]?≠some (.cells cs T fz):=fun D hD cs T fz e=>by rw[R1.dd D hD]at e;cases e
   refine hide ⟨?_,R1.li.gm.beside hk (fun D hD=>R1.li.gm.notfoot (R1.dd D hD) rfl),R1.li.ch.beside hk R1.lo⟩;rw[← hps];exact(R1.row.kb hk (fun D hD=>.inr (fun cs T fz hc=>absurd hc (hnc D hD cs T fz)))).rows
  have HD:=hide (And.intro R1.nd R1.dd);clear R1;gi_wp2
  refine leaves_coll ds W HD.out.1 HD.out.2 ?_
  exact⟨_,results_tmp rfl _ _ _,vl,G',rfl,HF.out⟩
end
end Go.Proofs.YtiamlbhkiehilaaGreatDoor
