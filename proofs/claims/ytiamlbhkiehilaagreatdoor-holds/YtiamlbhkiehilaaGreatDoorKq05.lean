import Derived.Test.YtiamlbhkiehilaaGreatDoorKq04
namespace Go.Proofs.YtiamlbhkiehilaaGreatDoor
section
open Go.RowKit Go.Shelf
attribute [local go_sem] Oper.semAt_some
variable {B:Nat} {c:Way} {n:Nat} {s:St}
theorem kb_grown{W W':World}{row:Option Nat}(hg:W.grownBy W' row):Kb row.toList W W':=⟨hg.os,hg.tape,hg.output,hg.size,fun k hk hl=>hg.block k hk (fun e=>hl (by rw[← e];simp))⟩
theorem kb_keepsFrom{L:List Nat}{W W':World}(hk:Kb L W W')(hc:∀b∈L,∀o,W.heap[b]?=some o→o.isCells=true)(D:Nat):KeepsFrom D W W':=
 ⟨hk.size,fun k o _ ho hn=>by
  rw[← ho];exact hk.block k (lt_of_heap ho) (fun hm=>by rw[hc k hm o ho]at hn;cases hn)⟩
theorem GM.isCells{w:World}{G:GV}(h:GM w B c n G s):∀b∈G.foot,∀o,w.heap[b]?=some o→o.isCells=true:=by
 intro b hb o ho;obtain⟨_,cs,T,hc⟩:=h.cells hb;rw[hc]at ho;cases ho;rfl
theorem GM.footlt{w:World}{G:GV}(h:GM w B c n G s):∀b∈G.foot,b<w.heap.size:=by
 intro b hb;obtain⟨_,cs,T,hc⟩:=h.cells hb;exact lt_of_heap hc
theorem GM.notfoot{w:World}{G:GV}(h:GM w B c n G s){r:Nat}{o:Obj}(ho:w.heap[r]?=some o)(hn:o.isCells=false):r ∉ G.foot:=fun hm=>by rw[h.isCells r hm o ho]at hn;cases hn
structure StI(w:World)(B:Nat)(c:Way)(n:Nat)(G:GV)(s:St)(L:List Nat)(bx bf:Nat)(t:List Nat)(W:World)(G':GV)(vf:Value):Prop where
 gm:GM W B c n G' s
 ch:GCh w W G G'
 box:W.heap[bx]?=some (.cells #[.pointer (some ⟨G.bg,0,none⟩)] 101 (0,0))
 cel:W.heap[bf]?=some (.cells #[vf] 112 (0,0))
 set:SetV W w.heap.size vf t
 new:w.heap.size≤bx∧w.heap.size≤bf
 out:bx ∉ G'.foot∧bf ∉ G'.foot∧∀g,vf.ownBlock=some g→g ∉ G'.foot
 lb:∀k∈L,k ∉ G'.foot∧k<W.heap.size∧k≠bf∧vf.ownBlock≠some k
theorem StI.own{w:World}{G:GV}{L:List Nat}{bx bf:Nat}{t:List Nat}{W W':World}{G':GV}{vf:Value}(h:StI w B c n G s L bx bf t W G' vf){D:Nat}(hD:w.heap.size≤D){row:Option Nat}(hg:W.grownBy W' row)(hr:∀r,row=some r→D≤r∧∃o:Obj,W.heap[r]?=some o∧o.isCells=false):StI w B c n G s L bx bf t W' G' vf:=by
 have hk:=kb_grown hg;have hnf:∀b∈row.toList,b ∉ G'.foot:=fun b hb=>by
  obtain⟨_,o,ho,hc⟩:=hr b (by simpa using hb);exact h.gm.notfoot ho hc
 have hnb:∀ {b:Nat} {cs:Array Value} {T:TypeId} {fz:Nat × Nat},W.heap[b]?=some (.cells cs T fz)→b ∉ row.toList:=by
  intro b cs T fz hb hm;obtain⟨_,o,ho,hc⟩:=hr b (by simpa using hm);rw[hb]at ho;cases ho;cases hc
 refine⟨h.gm.beside hk hnf,?_,hk.heap h.box (hnb h.box),hk.heap h.cel (hnb h.cel),h.set.kb hk (fun g hg2 e=>?_),h.new,h.out,fun k hk2=>?_⟩
 ·refine⟨⟨hk.os.trans h.ch.kb.os,hk.tape.trans h.ch.kb.tape,hk.output.trans h.ch.kb.output,Nat.le_trans h.ch.kb.size hk.size,fun j hj hl=>?_⟩,h.ch.ft,h.ch.e1,h.ch.e2,h.ch.e3⟩;refine(hk.block j (Nat.lt_of_lt_of_le hj h.ch.kb.size) (fun hm=>?_)).trans (h.ch.kb.block j hj hl);have:=(hr j (by simpa using hm)).1;omega
 ·obtain⟨cs,hc⟩:=h.set.block e;exact hnb hc hg2
 ·obtain⟨a1,a2,a3,a4⟩:=h.lb k hk2;exact⟨a1,Nat.lt_of_lt_of_le a2 hk.size,a3,a4⟩
theorem StI.step{w:World}{G:GV}{L:List Nat}{bx bf:Nat}{t:List Nat}{W W1 W2:World}{G' G1:GV}{vf v2:Value}{m:Nat}(h:StI w B c n G s L bx bf t W G' vf)(h1:GM W1 B c n G1 s)(c1:GCh W W1 G' G1)(hS:SetV W2 w.heap.size v2 (addS m t))(hC:SetCh W1 W2 bf 0 #[vf] 112 vf v2) :
  StI w B c n G s L bx bf (addS m t) W2 G1 v2∧(∀D,KeepsFrom D W W2)∧KpB L W W2:=by
 have out1:∀b,b<W.heap.size→b ∉ G'.foot→b ∉ G1.foot:=fun b hb hn hm=>by
  rcases c1.ft b hm with h2|h2
  ·exact hn h2
  ·omega
 have ox:=out1 bx (lt_of_heap h.box) h.out.1;have of:=out1 bf (lt_of_heap h.cel) h.out.2.1;have ov:∀g,vf.ownBlock=some g→g ∉ G1.foot:=fun g hg=>out1 g (h.set.lt hg).2 (h.out.2.2 g hg)
 have cel1:W1.heap[bf]?=some (.cells #[vf] 112 (0,0)):=c1.kb.heap h.cel h.out.2.1;have box1:W1.heap[bx]?=some (.cells #[.pointer (some ⟨G.bg,0,none⟩)] 101 (0,0)):=c1.kb.heap h.box h.out.1;have set1:SetV W1 w.heap.size vf t:=h.set.kb c1.kb (fun g hg e=>h.out.2.2 g e hg);have hkl:∀b,b∈bf::vf.ownBlock.toList→b ∉ G1.foot:=by
  intro b hb;rcases List.mem_cons.1 hb with rfl|hb
  ·exact of
  ·simp at hb;exact ov b hb
 have gm2:GM W2 B c n G1 s:=h1.beside hC.kb hkl;have hlow:∀j,j<w.heap.size→j ∉ bf::vf.ownBlock.toList:=by
  intro j hj hm;rcases List.mem_cons.1 hm with e|hm
  ·have:=h.new.2;omega
  ·simp at hm;have:=(h.set.lt hm).1;omega
 refine⟨⟨gm2,?_,?_,?_,hS,h.new,⟨ox,of,fun g hg=>?_⟩,fun k hk=>?_⟩,fun D=>?_,fun k hk=>?_⟩
 ·have c0:=h.ch.trans c1;refine⟨⟨hC.kb.os.trans c0.kb.os,hC.kb.tape.trans c0.kb.tape,hC.kb.output.trans c0.kb.output,Nat.le_trans c0.kb.size hC.kb.size,fun j hj hl=>?_⟩,c0.ft,c0.e1,c0.e2,c0.e3⟩;exact(hC.kb.block j (Nat.lt_of_lt_of_le hj c0.kb.size) (hlow j hj)).trans (c0.kb.block j hj hl)
 ·refine hC.kb.heap box1 (fun hm=>?_);rcases List.mem_cons.1 hm with e|hm
  ·exact ne_types box1 cel1 (by decide) e
  ·simp at hm;exact set1.ne box1 (by decide) hm
 ·rw[hC.blk];rfl
 ·rcases hC.lies with e|⟨g',e,hg'⟩
  ·exact ov g (by rw[← e];exact hg)
  ·rw[e]at hg;cases hg;intro hm;have:=h1.footlt g hm;omega
 ·obtain⟨a1,a2,a3,a4⟩:=h.lb k hk;have a5:=Nat.lt_of_lt_of_le a2 c1.kb.size;refine⟨out1 k a2 a1,Nat.lt_of_lt_of_le a5 hC.kb.size,a3,?_⟩;rcases hC.lies with e|⟨g',e,hg'⟩
  ·rw[e];exact a4
  ·rw[e];intro e2;cases e2;omega
 ·refine(kb_keepsFrom c1.kb h.gm.isCells D).trans (kb_keepsFrom hC.kb ?_ D);intro b hb o ho;rcases List.mem_cons.1 hb with rfl|hb
  ·rw[cel1]at ho;cases ho;rfl
  ·simp at hb;obtain⟨cs,hc⟩:=set1.block hb;rw[hc]at ho;cases ho;rfl
 ·obtain⟨a1,a2,a3,a4⟩:=h.lb k hk;refine(hC.kb.block k (Nat.lt_of_lt_of_le a2 c1.kb.size) (fun hm=>?_)).trans (c1.kb.block k a2 a1);rcases List.mem_cons.1 hm with e|hm
  ·exact a3 e
  ·simp at hm;exact a4 hm
end
section
open Go.RowKit Go.Shelf
attribute [local go_sem] Oper.semAt_some
variable {B:Nat} {c:Way} {n:Nat} {s:St}
set_option maxRecDepth 100000 in
set_option maxHeartbeats 1000000 in
theorem gstanding_any(b2 o2:Nat)(cs2:Array Value)(T2:TypeId)(v2:Value)(B2:Nat)(T:List Nat)(w:World)(G:GV)(h:GM w B c n G s)(hT:TabAt w)(hTl:0<B)(hb2:w.heap[b2]?=some (.cells cs2 T2 (0,0)))(hv2:cs2[o2]?=some v2)(hS2:SetV w B2 v2 T)(hr:∀x,s.rep x≤x) :
  Calls Tryz.prog 157 #[.pointer (some ⟨G.bg,0,none⟩),.pointer (some ⟨b2,o2,none⟩)] w fun e w'=>∃G' v',e=.returned (.agg #[v'])∧GM w' B c n G' s∧GCh w w' G G'∧SetV w' w.heap.size v' (s.standing T)∧∀g,v'.ownBlock=some g→g ∉ G'.foot:=by
 have hbg:=lt_of_heap h.hbg;refine(callsIn_wide (n:=10)).1 ?_
 refine callsIn_of_wp_marks Tryz.func157 rfl trivial ?_ rfl;simp only[Tryz.ntmps157,List.size_toArray,List.length_cons,List.length_nil,Nat.reduceAdd,Nat.reduceSub,Array.replicate_succ,Array.replicate_zero,List.push_toArray,List.append_toArray,List.nil_append,List.cons_append];obtain⟨W0,hW0⟩:∃W0,W0=(((w.alloc (.cells #[.pointer (some ⟨G.bg,0,none⟩)] 101)).alloc (.cells #[.slice none 0 0] 112)).alloc (.cells #[.slice none 0 0] 112)):=⟨_,rfl⟩;have k0:Kb [] w W0:=by rw[hW0];exact(((Kb.refl [] w).alloc _).alloc _).alloc _
 have z0:W0.heap.size=w.heap.size+3:=by rw[hW0];simp
 have x0:W0.heap[w.heap.size]?=some (.cells #[.pointer (some ⟨G.bg,0,none⟩)] 101 (0,0)):=by rw[hW0];exact heap_old (heap_old (heap_new _ _) _) _
 have y0:W0.heap[w.heap.size+1]?=some (.cells #[.slice none 0 0] 112 (0,0)):=by
  rw[hW0];have:=heap_new (w.alloc (.cells #[.pointer (some ⟨G.bg,0,none⟩)] 101)) (.cells #[.slice none 0 0] 112);rw[World.size_alloc]at this;exact heap_old this _
 have f0:W0.heap[w.heap.size+2]?=some (.cells #[.slice none 0 0] 112 (0,0)):=by
  rw[hW0];have:=heap_new ((w.alloc (.cells #[.pointer (some ⟨G.bg,0,none⟩)] 101)).alloc (.cells #[.slice none 0 0] 112)) (.cells #[.slice none 0 0] 112);rw[World.size_alloc,World.size_alloc]at this;exact this
 have HA:=all_any B2 b2 o2 cs2 T2 v2 T W0 (k0.heap hb2 (by simp)) hv2 (hS2.kb k0 (by simp));have h0:=h.fresh k0;have HT:Hid (TabAt W0):=hide (hT.kb k0 (by simp));gi_wp2
 rw[← hW0];refine⟨trivial,?_⟩;refine(callsIn_wide.2 HA).mono ?_
 clear HA hW0;rintro e w1 ⟨bw,va,rfl,hbw,hbwc,hva,k1⟩;have HT1:=hide (HT.out.kb k1 (by simp));have G1:=hide (h0.fresh k1);clear h0 HT;gi_wp2
 obtain⟨L,hL⟩:∃L,L=(w.heap.size+1)::0::va.ownBlock.toList:=⟨_,rfl⟩;have hsz1:=k1.size;have hLlt:∀k∈L,k<w1.heap.size:=by
  intro k hk;rw[hL]at hk;rcases List.mem_cons.1 hk with rfl|hk
  ·omega
  ·rcases List.mem_cons.1 hk with rfl|hk
   ·omega
   ·simp at hk;exact(hva.lt hk).2
 have hfl:∀b∈G.foot,b<w.heap.size:=h.footlt;have hI0:StI w B c n G s L w.heap.size (w.heap.size+2) [] w1 G (.slice none 0 0):=by
  refine⟨G1.out,⟨(k0.trans k1).mono (by simp),fun b hb=>.inl hb,rfl,rfl,rfl⟩,k1.heap x0 (by simp),k1.heap f0 (by simp),SetV.nil _ _,⟨Nat.le_refl _,by omega⟩,⟨fun hm=>?_,fun hm=>?_,fun g hg=>by cases hg⟩,fun k hk=>⟨fun hm=>?_,hLlt k hk,?_,by simp[Value.ownBlock]⟩⟩
  ·have:=hfl _ hm;omega
  ·have:=hfl _ hm;omega
  ·have h1:=hfl _ hm;rw[hL]at hk;rcases List.mem_cons.1 hk with rfl|hk
   ·omega
   ·rcases List.mem_cons.1 hk with rfl|hk
    ·have:=(h.cells hm).1;omega
    ·simp at hk;have:=(hva.lt hk).1;omega
  ·rw[hL]at hk;rcases List.mem_cons.1 hk with rfl|hk
   ·omega
   ·rcases List.mem_cons.1 hk with rfl|hk
    ·omega
    ·simp at hk;have:=(hva.lt hk).1;omega
 have y1:w1.heap[w.heap.size+1]?=some (.cells #[.slice none 0 0] 112 (0,0)):=k1.heap y0 (by simp);have hst:=all_stops 9 bw W0.heap.size va T L w1 hbwc hva HT1.out (fun g hg=>by rw[hL];simp[hg]) (by rw[hL];simp);have hbT:∀x,x∈T→x<128:=by
  intro x hx;obtain⟨ws,_,_,e⟩:=hva;rw[e]at hx;exact(mem_mkS.1 hx).1
 have HI0:=hide hI0;have hn:=h.n40;clear hI0 x0 y0 f0 hfl hbwc;refine wpIn_rangeFunc_ownG (α:=Mem T) (hro:=rfl) (h1:=by omega) (gf:=127) (lb:=#[.pointer (some ⟨bw,0,none⟩)]) rfl trivial (enters_of Tryz.func127 (by kernel_rfl) rfl) hst (fun h1 h2=>h1.trans h2) (kpB_b hLlt) (Below.refl _ _) (fun _=>rfl)
  (fun pre W=>∃G' vf,StI w B c n G s L w.heap.size (w.heap.size+2) ((pre.map (·.1)).foldl (fun f m=>addS (s.rep m) f) []) W G' vf∧W.heap[w.heap.size+1]?=some (.cells #[.slice none 0 0] 112 (0,0)))
  (fun _ _ _=>False) ?hI (fun _ _ _ _ _ hs _ _=>hs) ⟨G,_,HI0.out,y1⟩ ?a1 ?assign ?body ?done ?stop
 case hI=>
  rintro pre W W' row ⟨G',vf,p1,p2⟩ hg hr;refine⟨G',vf,p1.own (by omega) hg hr,(kb_grown hg).heap p2 (fun hm=>?_)⟩;obtain⟨_,o,ho,hc⟩:=hr _ (by simpa using hm);rw[p2]at ho;cases ho;cases hc
 case assign=>
  intro l x W K hK;gi_wp2
  exact hK
 case body=>
  rintro l pre ⟨x,hxT⟩ W ⟨G',vf,p1,p2⟩ _;have hx:=hbT x hxT;have cb:W.cell? ⟨w.heap.size,0,none⟩=some (.pointer (some ⟨G.bg,0,none⟩)):=by rw[cell_at p1.box];rfl
  have HOf:=gof_any x W G' p1.gm hx;rw[p1.ch.e1]at HOf;have HP:=hide p1;have HP2:=hide p2;have hrx:s.rep x<128:=Nat.lt_of_le_of_lt (hr x) hx;have ht:((pre++[(⟨x,hxT⟩:Mem T)]).map (·.1)).foldl (fun f m=>addS (s.rep m) f) []=addS (s.rep x) ((pre.map (·.1)).foldl (fun f m=>addS (s.rep m) f) []):=by rw[List.map_append,List.foldl_append];rfl
  have HTt:=hide ht;clear p1 p2 ht;generalize (pre.map (·.1)).foldl (fun f m=>addS (s.rep m) f) []=t at *;dsimp only[encN,Array.zip,Array.foldl];gi_wp2
  refine⟨trivial,?_⟩;refine(CallsIn.inRound l (callsIn_wide.2 HOf)).mono ?_
  clear HOf;rintro e W1 ⟨rfl,G2,hG2,hC2⟩;have cel1:W1.heap[w.heap.size+2]?=some (.cells #[vf] 112 (0,0)):=hC2.kb.heap HP.out.cel HP.out.out.2.1;have set1:SetV W1 w.heap.size vf t:=HP.out.set.kb hC2.kb (fun g hg e=>HP.out.out.2.2 g e hg);have HAd:=sadd_any w.heap.size (w.heap.size+2) 0 #[vf] 112 vf t (s.rep x) W1 (by have:=HP.out.ch.kb.size;have:=hC2.kb.size;omega) (by decide) cel1 rfl set1 hrx;have H2:=hide (And.intro hG2 hC2);clear hG2 hC2 cel1 set1;gi_wp2
  refine⟨trivial,?_⟩;refine(CallsIn.inRound l (callsIn_wide.2 HAd)).mono ?_
  clear HAd;rintro e W2 ⟨rfl,v3,hS3,hC3⟩;obtain⟨z1,z2,z3⟩:=HP.out.step H2.out.1 H2.out.2 hS3 hC3;have HZ:=hide (And.intro z1 (And.intro z2 z3));clear z1 z2 z3 hS3 hC3 H2;gi_wp2
  refine⟨HZ.out.2.1 _,HZ.out.2.2,G2,v3,?_,?_⟩
  ·rw[HTt.out];exact HZ.out.1
  ·rw[HZ.out.2.2 (w.heap.size+1) (by rw[hL];simp)];exact HP2.out
 case done=>
  rintro D xs W hD hxs ⟨G',vf,p1,p2⟩ hK;rw[hxs]at p1;have cf:W.cell? ⟨w.heap.size+2,0,none⟩=some vf:=by rw[cell_at p1.cel];rfl
  have cr:W.cell? ⟨w.heap.size+1,0,none⟩=some (.slice none 0 0):=by rw[cell_at p2];rfl
  have fr:W.frozen? ⟨w.heap.size+1,0,none⟩=false:=frozen_at p2 0;have hform:∃ao m cap,vf=.slice ao m cap:=by
   obtain⟨ws,_,hO,_⟩:=p1.set;obtain⟨ao,cap,e,_⟩:=hO.form;exact⟨ao,_,cap,e⟩
  obtain⟨ao,m,cap,rfl⟩:=hform;have HP:=hide (And.intro p1 p2);clear p1 p2;gi_wp2
  have hK2:(W.setCell ⟨w.heap.size+1,0,none⟩ (.slice ao m cap)).heap[D]?=some (.deferred (some [])):=(KeepsOthers.setCell W _ _).same D _ hK rfl;refine⟨by simp,.inl ⟨_,_,rfl,run_takeDeferred hK2,?_⟩⟩;have kS:Kb [w.heap.size+1] W (W.setCell ⟨w.heap.size+1,0,none⟩ (.slice ao m cap)):=(Kb.refl _ _).setCell (p:=⟨w.heap.size+1,0,none⟩) (.inl (by simp)) _;have kD:Kb [D] (W.setCell ⟨w.heap.size+1,0,none⟩ (.slice ao m cap)) ((W.setCell ⟨w.heap.size+1,0,none⟩ (.slice ao m cap)).putObj D (.deferred none)):=kb_grown (grownBy_putObj' _ _ _);have kF:Kb [w.heap.size+1,D] W ((W.setCell ⟨w.heap.size+1,0,none⟩ (.slice ao m cap)).putObj D (.deferred none)):=(kS.mono (by intro k _ hk;simp at hk;simp[hk])).trans (kD.mono (by intro k _ hk;simp at hk;simp[hk]))
  have hr1:(W.setCell ⟨w.heap.size+1,0,none⟩ (.slice ao m cap)).heap[w.heap.size+1]?=some (.cells #[.slice ao m cap] 112 (0,0)):=by rw[heap_set HP.out.2];rfl
  have hDn:D≠w.heap.size+1:=by omega
  have hr2:((W.setCell ⟨w.heap.size+1,0,none⟩ (.slice ao m cap)).putObj D (.deferred none)).heap[w.heap.size+1]?=some (.cells #[.slice ao m cap] 112 (0,0)):=kD.heap hr1 (by simp;omega);have hcell:((W.setCell ⟨w.heap.size+1,0,none⟩ (.slice ao m cap)).putObj D (.deferred none)).cell? ⟨w.heap.size+1,0,none⟩=some (.slice ao m cap):=by rw[cell_at hr2];rfl
  have hDf:D ∉ G'.foot:=HP.out.1.gm.notfoot hK rfl;have hl1:=HP.out.1.lb (w.heap.size+1) (by rw[hL];simp);have hfin:∃G' v',(Ending.returned (.agg #[.slice ao m cap])=Ending.returned (.agg #[v']))∧GM ((W.setCell ⟨w.heap.size+1,0,none⟩ (.slice ao m cap)).putObj D (.deferred none)) B c n G' s∧GCh w ((W.setCell ⟨w.heap.size+1,0,none⟩ (.slice ao m cap)).putObj D (.deferred none)) G G'∧SetV ((W.setCell ⟨w.heap.size+1,0,none⟩ (.slice ao m cap)).putObj D (.deferred none)) w.heap.size v' (s.standing T)∧∀g,v'.ownBlock=some g→g ∉ G'.foot:=by
   refine⟨G',_,rfl,HP.out.1.gm.beside kF ?_,?_,HP.out.1.set.kb kF ?_,HP.out.1.out.2.2⟩
   ·intro b hb;rcases List.mem_cons.1 hb with rfl|hb
    ·exact hl1.1
    ·rw[List.mem_singleton.1 hb];exact hDf
   ·have c0:=HP.out.1.ch;refine⟨⟨kF.os.trans c0.kb.os,kF.tape.trans c0.kb.tape,kF.output.trans c0.kb.output,Nat.le_trans c0.kb.size kF.size,fun j hj hl=>?_⟩,c0.ft,c0.e1,c0.e2,c0.e3⟩;refine(kF.block j (Nat.lt_of_lt_of_le hj c0.kb.size) ?_).trans (c0.kb.block j hj hl);simp;omega
   ·intro b hb;rcases List.mem_cons.1 hb with rfl|hb
    ·exact hl1.2.2.2
    ·rw[List.mem_singleton.1 hb];intro e;obtain⟨cs,hc⟩:=HP.out.1.set.block e;rw[hK]at hc;cases hc
  refine⟨.agg #[.slice ao m cap],?_,hfin⟩;simp[results,Tryz.results157,go_sem,hcell]
 case stop=>
  rintro D cc pre W _ _ hF _;exact hF.elim
end
section
open Go.RowKit
variable {B:Nat} {c:Way} {n:Nat} {s:St}
theorem GCh.beside{w w1 w2:World}{G G1:GV}(h:GCh w w1 G G1){L:List Nat}(hk:Kb L w1 w2)(hl:∀b∈L,w.heap.size≤b):GCh w w2 G G1:=by
 refine⟨⟨hk.os.trans h.kb.os,hk.tape.trans h.kb.tape,hk.output.trans h.kb.output,Nat.le_trans h.kb.size hk.size,fun j hj hn=>?_⟩,h.ft,h.e1,h.e2,h.e3⟩;refine(hk.block j (Nat.lt_of_lt_of_le hj h.kb.size) (fun hm=>?_)).trans (h.kb.block j hj hn);have:=hl j hm;omega
theorem GCh.before{w w0 w1:World}{G G1:GV}(hk:Kb [] w w0)(h:GCh w0 w1 G G1):GCh w w1 G G1:=(GCh.trans ⟨hk.mono (by simp),fun _ hb=>.inl hb,rfl,rfl,rfl⟩ h)
structure NewS(w w':World)(G':GV)(v:Value)(t:List Nat):Prop where
 set:SetV w' w.heap.size v t
 out:∀g,v.ownBlock=some g→g ∉ G'.foot
set_option maxRecDepth 100000 in
theorem gheirs_any(m:Nat)(w:World)(G:GV)(h:GM w B c n G s)(hT:TabAt w)(hTl:0<B)(hm:m<n)(hr:∀x,s.rep x≤x) :
  Calls Tryz.prog 118 #[.pointer (some ⟨G.bg,0,none⟩),.int .u64 m] w fun e w'=>∃G' v',e=.returned (.agg #[v'])∧GM w' B c n G' s∧GCh w w' G G'∧NewS w w' G' v' (s.heirsOf m):=by
 have hn:=h.n40;obtain⟨r0,r1,r2,r3,r4,r5,r7,r9,r9f⟩:=h.reads;obtain⟨W0,hW0⟩:∃W0,W0=w.alloc (.cells #[.slice none 0 0] 112):=⟨_,rfl⟩;have k0:Kb [] w W0:=by rw[hW0];exact(Kb.refl [] w).alloc _
 have z0:W0.heap.size=w.heap.size+1:=by rw[hW0];simp
 have y0:W0.heap[w.heap.size]?=some (.cells #[.slice none 0 0] 112 (0,0)):=by rw[hW0];exact heap_new _ _
 have h0:=h.fresh k0;obtain⟨v,q,q',qs⟩:=h0.get (k:=7*m+2) (by omega);have HS:=gstanding_any G.bn (7*m+2) _ TNd v B _ W0 G h0 (hT.kb k0 (by simp)) hTl h0.hbn q' qs hr;have r5':=h0.reads.2.2.2.2.2.1;have hfl:=h.footlt;rw[show 7*m+2=m*7+2 by omega]at HS;have es:s.standing (s.ss.getD (m*7+2) [])=s.standing (s.hr m):=by unfold St.hr;rw[show m*7+2=7*m+2 by omega]
 rw[es]at HS;clear r0 r1 r2 r3 r4 r7 r9 r9f q q' qs es;go_enter Tryz.func118,Tryz.ntmps118
 rw[hW0]at HS r5';go_wp2_with fail
 refine HS.mono ?_
 clear HS;rintro e w1 ⟨G1,v1,rfl,hG1,hC1,hS1,hO1⟩;rw[← hW0]at hC1 hS1;have k1:Kb [] w1 (w1.alloc (.cells #[v1] 112)):=(Kb.refl [] w1).alloc _;have hG2:=hG1.fresh k1;have HFL1:=hide hG1.footlt;have HR:=remove_any W0.heap.size w1.heap.size 0 #[v1] 112 v1 (s.standing (s.hr m)) m (w1.alloc (.cells #[v1] 112)) (by decide) (heap_new _ _) rfl (hS1.kb k1 (by simp)) (by omega);have hform:∃ao l cap,v1=.slice ao l cap:=by
  obtain⟨ws,_,hO,_⟩:=hS1;obtain⟨ao,cap,e,_⟩:=hO.form;exact⟨ao,_,cap,e⟩
 obtain⟨ao,l,cap,rfl⟩:=hform;have yr:w1.heap[w.heap.size]?=some (.cells #[.slice none 0 0] 112 (0,0)):=hC1.kb.heap y0 (fun hmm=>by have:=hfl _ hmm;omega);have H1:=hide (And.intro hG2 (And.intro hC1 (And.intro hS1 hO1)));have hsz:=hC1.kb.size;have HY:=hide yr;have HZ:=hide z0;have HK0:=hide k0;clear hW0 hG1 hG2 hC1 hS1 hO1 yr z0 k0 y0 r5' h0;go_wp2_with fail
 refine HR.mono ?_
 clear HR;rintro e w2 ⟨rfl,v2,hS2,hC2⟩;have hform:∃ao l cap,v2=.slice ao l cap:=by
  obtain⟨ws,_,hO,_⟩:=hS2;obtain⟨ao,cap,e,_⟩:=hO.form;exact⟨ao,_,cap,e⟩
 obtain⟨ao2,l2,cap2,rfl⟩:=hform;have c2:w2.cell? ⟨w1.heap.size,0,none⟩=some (.slice ao2 l2 cap2):=by rw[cell_at hC2.blk];rfl
 have hone:(Value.slice ao l cap).ownBlock≠some w.heap.size:=by
  intro e;have:=(H1.out.2.2.1.lt e).1;rw[HZ.out]at this;omega
 have yr2:w2.heap[w.heap.size]?=some (.cells #[.slice none 0 0] 112 (0,0)):=by
  refine hC2.kb.heap (heap_old HY.out _) (fun hmm=>?_);rcases List.mem_cons.1 hmm with e|hmm
  ·have:=lt_of_heap HY.out;omega
  ·simp at hmm;exact hone hmm
 have cr:w2.cell? ⟨w.heap.size,0,none⟩=some (.slice none 0 0):=by rw[cell_at yr2];rfl
 have fr:w2.frozen? ⟨w.heap.size,0,none⟩=false:=frozen_at yr2 0;have HF:Hid (∃G',GM (w2.setCell ⟨w.heap.size,0,none⟩ (.slice ao2 l2 cap2)) B c n G' s∧GCh w (w2.setCell ⟨w.heap.size,0,none⟩ (.slice ao2 l2 cap2)) G G'∧NewS w (w2.setCell ⟨w.heap.size,0,none⟩ (.slice ao2 l2 cap2)) G' (.slice ao2 l2 cap2) (s.heirsOf m)):=by
  obtain⟨p1,p2,p3,p4⟩:=H1.out;have kS:Kb [w.heap.size] w2 (w2.setCell ⟨w.heap.size,0,none⟩ (.slice ao2 l2 cap2)):=(Kb.refl _ _).setCell (p:=⟨w.heap.size,0,none⟩) (.inl (by simp)) _;have hlow:w.heap.size ∉ G1.foot:=by
   intro hmm;rcases p2.ft _ hmm with h1|h1
   ·have:=hfl _ h1;omega
   ·rw[HZ.out]at h1;omega
  have hl2:∀b∈w1.heap.size::(Value.slice ao l cap).ownBlock.toList,b ∉ G1.foot∧w.heap.size≤b:=by
   intro b hb;rcases List.mem_cons.1 hb with rfl|hb
   ·refine⟨fun hmm=>?_,by have:=HK0.out.size;omega⟩;have:=HFL1.out _ hmm;omega
   ·simp at hb;exact⟨p4 b hb,by have:=(p3.lt hb).1;rw[HZ.out]at this;omega⟩
  have g2:=(p1.beside hC2.kb (fun b hb=>(hl2 b hb).1)).beside kS (by intro b hb;rw[List.mem_singleton.1 hb];exact hlow);have ch0:GCh w w1 G G1:=GCh.before HK0.out p2;have ch1:GCh w (w1.alloc (.cells #[.slice ao l cap] 112)) G G1:=ch0.beside ((Kb.refl [] w1).alloc _) (by simp);have ch2:=(ch1.beside hC2.kb (fun b hb=>(hl2 b hb).2)).beside kS (by intro b hb;rw[List.mem_singleton.1 hb];exact Nat.le_refl _);refine hide ⟨G1,g2,ch2,?_,?_⟩
  ·have h9:SetV (w2.setCell ⟨w.heap.size,0,none⟩ (.slice ao2 l2 cap2)) W0.heap.size (.slice ao2 l2 cap2) (delS m (s.standing (s.hr m))):=by
    refine hS2.kb kS (fun b hb e=>?_);rw[List.mem_singleton.1 hb]at e;have:=(hS2.lt e).1;rw[HZ.out]at this;omega
   obtain⟨ws,w1',hO,e⟩:=h9;refine⟨ws,w1',⟨?_,hO.2⟩,e⟩;obtain⟨o1,o2⟩:=hO.1;refine⟨o1,?_⟩;rcases o2 with o2|⟨g,cp,cur,e1,e2,rest⟩
   ·exact .inl o2
   ·exact .inr ⟨g,cp,cur,e1,by have:=HK0.out.size;omega,rest⟩
  ·intro g hg hmm;rcases hC2.lies with e|⟨g',e,hg'⟩
   ·exact p4 g (by rw[← e];exact hg) hmm
   ·rw[e]at hg;cases hg;have:=p1.footlt _ hmm;omega
 have hcl:(w2.setCell ⟨w.heap.size,0,none⟩ (.slice ao2 l2 cap2)).cell? ⟨w.heap.size,0,none⟩=some (.slice ao2 l2 cap2):=by rw[cell_at (heap_set yr2 0 _)];rfl
 have HCL:=hide hcl;clear hS2 hC2 yr2 H1 HY hcl;go_wp2;refine bodyPost_ret (v:=.agg #[.slice ao2 l2 cap2]) (by simp[results,Tryz.results118,go_sem,HCL.out]) rfl ?_
 obtain⟨G',p1,p2,p3⟩:=HF.out;exact⟨G',_,rfl,p1,p2,p3⟩
end
section
open Go.RowKit
variable {B:Nat} {c:Way} {n:Nat} {s:St}
set_option maxRecDepth 100000 in
theorem without_any(m:Nat)(v:Value)(xs:List Nat)(w:World)(h:OwnN w B v xs)(hl:xs.length≤1000) :
  Calls Tryz.prog 156 #[v,.int .u64 m] w fun e w'=>∃v',e=.returned v'∧OwnN w' B v' (xs.filter (· != m))∧Kb v.ownBlock.toList w w'∧v'.ownBlock=v.ownBlock:=by
 have k0:Kb [] w (w.alloc (.cells #[.int .u64 (m:Int)] 144)):=(Kb.refl [] w).alloc _;have HD:=deleteFunc_any B w.heap.size m v xs (w.alloc (.cells #[.int .u64 (m:Int)] 144)) (h.alloc _) hl (heap_new _ _) (fun e=>by have:=(h.lt e).2;omega);have hmf:∀(fn:Fn) (first cap:Array Value) (w:World),(Instr.makeFunc fn first cap).run Tryz.prog w=.ok (.func fn first cap) w:=fun _ _ _ _=>rfl
 clear h;go_enter Tryz.func156,Tryz.ntmps156
 go_wp2_with fail
 refine HD.mono ?_
 clear HD;rintro e w1 ⟨v',rfl,h1,h2,h3⟩;have HF:Hid (OwnN w1 B v' (xs.filter (· != m))∧Kb v.ownBlock.toList w w1∧v'.ownBlock=v.ownBlock):=hide ⟨h1,(k0.mono (by simp)).trans h2,h3⟩;clear h1 h2 h3 k0;go_wp2;go_ret
 exact⟨_,rfl,HF.out⟩
theorem setCh_put{w w1:World}{b o:Nat}{cs:Array Value}{T:TypeId}{v v':Value}{xs ys:List Nat}(hb:w.heap[b]?=some (.cells cs T (0,0)))(hT:T≠TN)(hO:OwnN w B v xs)(hk:Kb v.ownBlock.toList w w1)(h1:OwnN w1 B v' ys)(he:v'.ownBlock=v.ownBlock) :
  SetCh w (w1.setCell ⟨b,o,none⟩ v') b o cs T v v'∧OwnN (w1.setCell ⟨b,o,none⟩ v') B v' ys:=by
 have hb1:w1.heap[b]?=some (.cells cs T (0,0)):=hk.heap hb (by simp;exact hO.ne hb hT);refine⟨⟨heap_set hb1 o v',?_,.inl he⟩,h1.kb ((Kb.refl [b] w1).setCell (p:=⟨b,o,none⟩) (.inl (by simp)) _) (by intro g hg;rw[List.mem_singleton.1 hg];exact h1.ne hb1 hT)⟩;exact(hk.mono (by intro k _ hk;simp at hk;simp[hk])).setCell (p:=⟨b,o,none⟩) (.inl (by simp)) _
set_option maxRecDepth 100000 in
theorem gdrop_any(m:Nat)(w:World)(G:GV)(h:GM w B c n G s)(hm:m<128)(hln:s.now.length≤500)(hlc:s.come.length≤500) :
  Calls Tryz.prog 114 #[.pointer (some ⟨G.bl,0,none⟩),.int .u64 m] w fun e w'=>e=.returned (.tuple #[])∧∃G',GM w' B c n G' (s.drop m)∧GCh w w' G G':=by
 have HR:=remove_any B G.bl 1 (lcells c G) TL G.vi s.inside m w (by decide) h.hbl rfl h.sI hm;have H:=hide h;clear h;go_enter Tryz.func114,Tryz.ntmps114
 go_wp2_with fail
 refine HR.mono ?_
 clear HR;rintro e w1 ⟨rfl,v1,hS1,hC1⟩;obtain⟨hG1,hc1⟩:=H.out.putI hC1 hS1;clear hS1 hC1;have hb1:=hG1.hbl;have oN:=hG1.oN;have cn:w1.cell? ⟨G.bl,2,none⟩=some G.vn:=by rw[cell_at hb1];rfl
 have HW:=without_any m G.vn s.now w1 oN (by omega);have H1:=hide (And.intro hG1 hc1);clear hG1 hc1 hb1 oN;go_wp2_with fail
 refine HW.mono ?_
 clear HW;rintro e w2 ⟨v2,rfl,h2,k2,e2⟩;have hb1:=H1.out.1.hbl;obtain⟨sc2,so2⟩:=setCh_put (o:=2) hb1 (by decide) H1.out.1.oN k2 h2 e2;obtain⟨hG2,hc2⟩:=H1.out.1.putT sc2 so2 (by have:=List.length_filter_le (· != m) s.now;show(s.now.filter (· != m)).length≤1000;omega);have hb2:w2.heap[G.bl]?=some (.cells (lcells c { G with vi:=v1 }) TL (0,0)):=k2.heap hb1 (by simp;exact H1.out.1.oN.ne hb1 (by decide));have cn2:w2.cell? ⟨G.bl,2,none⟩=some G.vn:=by rw[cell_at hb2];rfl
 have fn2:w2.frozen? ⟨G.bl,2,none⟩=false:=frozen_at hb2 2;have hf2:∃ao l cap,v2=.slice ao l cap:=by obtain⟨ao,cap,e,_⟩:=h2.form;exact⟨ao,_,cap,e⟩
 obtain⟨ao2,l2,cap2,rfl⟩:=hf2;have hf0:∃ao l cap,G.vn=.slice ao l cap:=by obtain⟨ao,cap,e,_⟩:=H1.out.1.oN.form;exact⟨ao,_,cap,e⟩
 obtain⟨ao0,l0,cap0,e0⟩:=hf0;rw[e0]at cn2;have hb3:=hG2.hbl;have cc3:(w2.setCell ⟨G.bl,2,none⟩ (.slice ao2 l2 cap2)).cell? ⟨G.bl,3,none⟩=some G.vc:=by rw[cell_at hb3];rfl
 have HW:=without_any m G.vc s.come (w2.setCell ⟨G.bl,2,none⟩ (.slice ao2 l2 cap2)) hG2.oC (by omega);have H2:=hide (And.intro hG2 (H1.out.2.trans hc2));clear hG2 hc2 sc2 so2 hb1 hb2 hb3 h2 k2 e2 H1 cn;go_wp2_with fail
 refine HW.mono ?_
 clear HW;rintro e w3 ⟨v3,rfl,h3,k3,e3⟩;have hb1:=H2.out.1.hbl;obtain⟨sc3,so3⟩:=setCh_put (o:=3) hb1 (by decide) H2.out.1.oC k3 h3 e3;obtain⟨hG3,hc3⟩:=H2.out.1.putC sc3 so3 (by have:=List.length_filter_le (· != m) s.come;show(s.come.filter (· != m)).length≤1000;omega);have hb2:=k3.heap hb1 (by simp;exact H2.out.1.oC.ne hb1 (by decide));have cn3:w3.cell? ⟨G.bl,3,none⟩=some G.vc:=by rw[cell_at hb2];rfl
 have fn3:w3.frozen? ⟨G.bl,3,none⟩=false:=frozen_at hb2 3;have hf2:∃ao l cap,v3=.slice ao l cap:=by obtain⟨ao,cap,e,_⟩:=h3.form;exact⟨ao,_,cap,e⟩
 obtain⟨ao3,l3,cap3,rfl⟩:=hf2;have hf0:∃ao l cap,G.vc=.slice ao l cap:=by obtain⟨ao,cap,e,_⟩:=H2.out.1.oC.form;exact⟨ao,_,cap,e⟩
 obtain⟨ao4,l4,cap4,e4⟩:=hf0;rw[e4]at cn3;have HF:=hide (And.intro hG3 (H2.out.2.trans hc3));clear hG3 hc3 sc3 so3 hb1 hb2 h3 k3 e3 H2 cc3;go_wp2;go_end0
 exact⟨rfl,_,HF.out.1,HF.out.2⟩
end
end Go.Proofs.YtiamlbhkiehilaaGreatDoor
