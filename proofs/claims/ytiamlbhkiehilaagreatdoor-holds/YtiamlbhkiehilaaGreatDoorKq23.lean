import Derived.Test.YtiamlbhkiehilaaGreatDoorKq12
import Derived.Deep.LoopGhost
import Derived.Test.YtiamlbhkiehilaaGreatDoorKq22
import Derived.Test.YtiamlbhkiehilaaGreatDoorKq05
namespace Go.Proofs.YtiamlbhkiehilaaGreatDoor
section
open Go.RowKit
variable {B:Nat} {c:Way} {n:Nat} {s:St}
structure AlI(w:World)(B:Nat)(c:Way)(n:Nat)(G:GV)(s:St)(t:List Nat)(W:World)(G':GV)(vf:Value):Prop where
 gm:GM W B c n G' s
 ch:GCh w W G G'
 cz:W.heap[w.heap.size]?=some (.cells #[.slice none 0 0] TSet (0,0))
 cel:W.heap[w.heap.size+1]?=some (.cells #[vf] TSet (0,0))
 set:SetV W w.heap.size vf t
 out:w.heap.size ∉ G'.foot∧w.heap.size+1 ∉ G'.foot∧∀g,vf.ownBlock=some g→g ∉ G'.foot
theorem AlI.call{w:World}{G:GV}{t:List Nat}{W W':World}{G' G1:GV}{vf:Value}(h:AlI w B c n G s t W G' vf)(h1:GM W' B c n G1 s)(c1:GCh W W' G' G1):AlI w B c n G s t W' G1 vf:=by
 have out1:∀b,b<W.heap.size→b ∉ G'.foot→b ∉ G1.foot:=fun b hb hn hm=>by
  rcases c1.ft b hm with h2|h2
  ·exact hn h2
  ·omega
 exact⟨h1,h.ch.trans c1,c1.kb.heap h.cz h.out.1,c1.kb.heap h.cel h.out.2.1,h.set.kb c1.kb (fun g hg e=>h.out.2.2 g e hg),out1 _ (lt_of_heap h.cz) h.out.1,out1 _ (lt_of_heap h.cel) h.out.2.1,fun g hg=>out1 g (h.set.lt hg).2 (h.out.2.2 g hg)⟩
theorem AlI.add{w:World}{G:GV}{t t':List Nat}{W W':World}{G':GV}{vf v2:Value}(h:AlI w B c n G s t W G' vf)(hS:SetV W' w.heap.size v2 t')(hC:SetCh W W' (w.heap.size+1) 0 #[vf] TSet vf v2):AlI w B c n G s t' W' G' v2:=by
 have hX:∀b∈(w.heap.size+1)::vf.ownBlock.toList,w.heap.size<b+1∧b ∉ G'.foot:=by
  intro b hb;rcases List.mem_cons.1 hb with rfl|hb
  ·exact⟨by omega,h.out.2.1⟩
  ·simp at hb;exact⟨by have:=(h.set.lt hb).1;omega,h.out.2.2 b hb⟩
 refine⟨h.gm.beside hC.kb (fun b hb=>(hX b hb).2),h.ch.beside hC.kb (fun b hb=>by have:=(hX b hb).1;omega),hC.kb.heap h.cz (fun hm=>?_),by rw[hC.blk];rfl,hS,h.out.1,h.out.2.1,fun g hg=>?_⟩
 ·rcases List.mem_cons.1 hm with e|hm
  ·omega
  ·simp at hm;exact h.set.ne h.cz (by decide) hm
 ·rcases hC.lies with e|⟨g',e,hg'⟩
  ·exact h.out.2.2 g (by rw[← e];exact hg)
  ·rw[e]at hg;cases hg;intro hm;have:=h.gm.footlt _ hm;omega
set_option maxRecDepth 100000 in
set_option maxHeartbeats 2000000 in
theorem gall_any(w:World)(G:GV)(h:GM w B c n G s)(hr:∀x,s.rep x≤x) :
  Calls Tryz.prog 153 #[.pointer (some ⟨G.bg,0,none⟩)] w fun e w'=>∃G' v',e=.returned (.agg #[v'])∧GM w' B c n G' s∧GCh w w' G G'∧NewS w w' G' v' (s.all n):=by
 have hn:=h.n40;obtain⟨W0,hW0⟩:∃W0,W0=(w.alloc (.cells #[.slice none 0 0] TSet)).alloc (.cells #[.slice none 0 0] TSet):=⟨_,rfl⟩;have k0:Kb [] w W0:=by rw[hW0];exact((Kb.refl [] w).alloc _).alloc _
 have z0:W0.heap.size=w.heap.size+2:=by rw[hW0];simp
 have y0:W0.heap[w.heap.size]?=some (.cells #[.slice none 0 0] TSet (0,0)):=by rw[hW0];exact heap_old (heap_new _ _) _
 have f0:W0.heap[w.heap.size+1]?=some (.cells #[.slice none 0 0] TSet (0,0)):=by
  rw[hW0];have:=heap_new (w.alloc (.cells #[.slice none 0 0] TSet)) (.cells #[.slice none 0 0] TSet);rw[World.size_alloc]at this;exact this
 have h0:=h.fresh k0;have hfl:=h.footlt;have r5:=h0.reads.2.2.2.2.2.1;have I0:AlI w B c n G s [] W0 G (.slice none 0 0):=⟨h0,⟨k0.mono (by simp),fun b hb=>.inl hb,rfl,rfl,rfl⟩,y0,f0,SetV.nil _ _,fun hm=>by have:=hfl _ hm;omega,fun hm=>by have:=hfl _ hm;omega,fun g hg=>by cases hg⟩;have HI0:=hide I0;rw[hW0]at r5;clear I0 y0 f0 k0 h0;go_enter Tryz.func153,Tryz.ntmps153
 go_wp2;rw[← hW0];clear r5;go_loopg [10] n (fun k v10 wr=>∃i:Nat,v10=.int .i64 i∧i≤n∧n-i≤k∧Hid (∃G' vf,AlI w B c n G s ((List.range i).foldl (fun f m=>addS (s.rep m) f) []) wr G' vf))
 case atStart=>exact⟨0,rfl,Nat.zero_le _,Nat.le_refl _,hide ⟨G,_,HI0.out⟩⟩
 case round=>
  clear HI0;obtain⟨i,rfl,hi,hk,H⟩:=hrel;obtain⟨G',vf,p1⟩:=H.out;by_cases hlt:i<n
  ·have hltz:(i:Int)<(n:Int):=by omega
   have hwr:IntKind.u64.wrap (i:Int)=(i:Int):=by rw[IntKind.wrap_u64];omega
   have HOf:=gof_any i wr G' p1.gm (by omega);rw[p1.ch.e1]at HOf;have hri:s.rep i<128:=by have:=hr i;omega
   have ht:(List.range (i+1)).foldl (fun f m=>addS (s.rep m) f) []=addS (s.rep i) ((List.range i).foldl (fun f m=>addS (s.rep m) f) []):=by rw[List.range_succ,List.foldl_append];rfl
   have HTt:=hide ht;have HP:=hide p1;clear p1 H ht;go_wp2_with fail
   refine HOf.mono ?_
   clear HOf;rintro e W1 ⟨rfl,G2,hG2,hC2⟩;have p2:=HP.out.call hG2 hC2;have HAd:=sadd_any w.heap.size (w.heap.size+1) 0 #[vf] TSet vf _ (s.rep i) W1 p2.ch.kb.size (by decide) p2.cel rfl p2.set hri;have HP2:=hide p2;clear hG2 hC2 p2;go_wp2_with fail
   refine HAd.mono ?_
   clear HAd;rintro e W2 ⟨rfl,v3,hS3,hC3⟩;have HP3:=hide (HP2.out.add hS3 hC3);clear hS3 hC3;go_wp2;go_roundg (n-(i+1))
   case measure=>omega
   case rel=>exact⟨i+1,by first|rfl|(congr 1;omega),by omega,Nat.le_refl _,hide ⟨G2,v3,by rw[HTt.out];exact HP3.out⟩⟩
  ·have hltz:¬(i:Int)<(n:Int):=by omega
   have hie:i=n:=by omega
   obtain⟨fo,fl,fc,ev⟩:=p1.set.form;have cf:wr.cell? ⟨w.heap.size+1,0,none⟩=some (.slice fo fl fc):=by rw[cell_at p1.cel,ev];rfl
   have cz:wr.cell? ⟨w.heap.size,0,none⟩=some (.slice none 0 0):=by rw[cell_at p1.cz];rfl
   have fz:wr.frozen? ⟨w.heap.size,0,none⟩=false:=frozen_at p1.cz 0;obtain⟨W2,hW2⟩:∃W2,W2=wr.setCell ⟨w.heap.size,0,none⟩ (.slice fo fl fc):=⟨_,rfl⟩;have kS:Kb [w.heap.size] wr W2:=by rw[hW2];exact(Kb.refl _ _).setCell (p:=⟨w.heap.size,0,none⟩) (.inl (by simp)) _
   have hcell:W2.cell? ⟨w.heap.size,0,none⟩=some (.slice fo fl fc):=by rw[hW2,cell_at (heap_set p1.cz 0 _)];rfl
   have HF:Hid (GM W2 B c n G' s∧GCh w W2 G G'∧NewS w W2 G' (.slice fo fl fc) (s.all n)):=by
    refine hide ⟨p1.gm.beside kS (by intro b hb;rw[List.mem_singleton.1 hb];exact p1.out.1),p1.ch.beside kS (by intro b hb;rw[List.mem_singleton.1 hb];exact Nat.le_refl _),?_,fun g hg=>p1.out.2.2 g (by rw[ev];exact hg)⟩;have h9:=p1.set.kb kS (fun g hg e=>by
     rw[List.mem_singleton.1 hg]at e;exact p1.set.ne p1.cz (by decide) e)
    rw[ev,hie]at h9;exact h9
   clear p1 H kS ev;go_wp2;rw[← hW2];refine bodyPost_ret (v:=.agg #[.slice fo fl fc]) (by simp[results,Tryz.results153,go_sem,hcell]) rfl ?_
   exact⟨G',_,rfl,HF.out⟩
end
section
open Go.RowKit Go.Shelf
attribute [local go_sem] Oper.semAt_some
variable {B:Nat} {c:Way} {n:Nat} {s:St}
def twNx(s:St)(n i m:Nat):List Nat:=if m == n then s.standing (s.ld i)else if(s.standing (s.sr i)).contains m then addS n (s.heirsOf m)else s.heirsOf m
structure TwP(B:Nat)(c:Way)(n:Nat)(G0:GV)(s:St)(i B0 b2 b5 b6 b7:Nat)(vl vs:Value)(G:GV)(W:World):Prop where
 gm:GM W B c n G s
 e1:G.bg=G0.bg
 e2:G.bn=G0.bn
 e3:G.bl=G0.bl
 c2:W.heap[b2]?=some (.cells #[.pointer (some ⟨G0.bg,0,none⟩)] 101 (0,0))
 c5:W.heap[b5]?=some (.cells #[.int .u64 (n:Int)] TN (0,0))
 c6:W.heap[b6]?=some (.cells #[vl] TSet (0,0))
 c7:W.heap[b7]?=some (.cells #[vs] TSet (0,0))
 sl:SetV W B0 vl (s.standing (s.ld i))
 ss:SetV W B0 vs (s.standing (s.sr i))
 out:∀b,b=b2∨b=b5∨b=b6∨b=b7∨vl.ownBlock=some b∨vs.ownBlock=some b→b ∉ G.foot
def TwI(B:Nat)(c:Way)(n:Nat)(G0:GV)(s:St)(i B0 b2 b5 b6 b7:Nat)(vl vs:Value)(W:World)(F:List Nat):Prop:=
 ∃G,TwP B c n G0 s i B0 b2 b5 b6 b7 vl vs G W∧F=G.foot++(b2::b5::b6::b7::(vl.ownBlock.toList++vs.ownBlock.toList))
theorem mem_tw{G:GV}{b2 b5 b6 b7 b:Nat}{vl vs:Value}:b∈G.foot++(b2::b5::b6::b7::(vl.ownBlock.toList++vs.ownBlock.toList))↔b∈G.foot∨(b=b2∨b=b5∨b=b6∨b=b7∨vl.ownBlock=some b∨vs.ownBlock=some b):=by
 simp only[List.mem_append,List.mem_cons,Option.mem_toList]
variable {G0:GV} {i B0 b2 b5 b6 b7:Nat} {vl vs:Value}
theorem TwP.kb{G:GV}{W W':World}(h:TwP B c n G0 s i B0 b2 b5 b6 b7 vl vs G W){L:List Nat}(hk:Kb L W W')(hL:∀b∈L,b ∉ G.foot++(b2::b5::b6::b7::(vl.ownBlock.toList++vs.ownBlock.toList))):TwP B c n G0 s i B0 b2 b5 b6 b7 vl vs G W':=by
 have n1:∀b∈L,b ∉ G.foot:=fun b hb hm=>hL b hb (mem_tw.2 (.inl hm))
 have n2:∀b,(b=b2∨b=b5∨b=b6∨b=b7∨vl.ownBlock=some b∨vs.ownBlock=some b)→b ∉ L:=fun b ho hb=>hL b hb (mem_tw.2 (.inr ho))
 exact⟨h.gm.beside hk n1,h.e1,h.e2,h.e3,hk.heap h.c2 (n2 _ (.inl rfl)),hk.heap h.c5 (n2 _ (.inr (.inl rfl))),hk.heap h.c6 (n2 _ (.inr (.inr (.inl rfl)))),hk.heap h.c7 (n2 _ (.inr (.inr (.inr (.inl rfl))))),h.sl.kb hk (fun g hg e=>n2 g (.inr (.inr (.inr (.inr (.inl e))))) hg),h.ss.kb hk (fun g hg e=>n2 g (.inr (.inr (.inr (.inr (.inr e))))) hg),h.out⟩
theorem TwP.call{G G1:GV}{W W':World}(h:TwP B c n G0 s i B0 b2 b5 b6 b7 vl vs G W)(h1:GM W' B c n G1 s)(c1:GCh W W' G G1):TwP B c n G0 s i B0 b2 b5 b6 b7 vl vs G1 W':=by
 have hlt:∀b,(b=b2∨b=b5∨b=b6∨b=b7∨vl.ownBlock=some b∨vs.ownBlock=some b)→b<W.heap.size:=by
  rintro b (rfl|rfl|rfl|rfl|e|e)
  ·exact lt_of_heap h.c2
  ·exact lt_of_heap h.c5
  ·exact lt_of_heap h.c6
  ·exact lt_of_heap h.c7
  ·exact(h.sl.lt e).2
  ·exact(h.ss.lt e).2
 refine⟨h1,c1.e1.trans h.e1,c1.e2.trans h.e2,c1.e3.trans h.e3,c1.kb.heap h.c2 (h.out _ (.inl rfl)),c1.kb.heap h.c5 (h.out _ (.inr (.inl rfl))),c1.kb.heap h.c6 (h.out _ (.inr (.inr (.inl rfl)))),c1.kb.heap h.c7 (h.out _ (.inr (.inr (.inr (.inl rfl))))),h.sl.kb c1.kb (fun g hg e=>h.out g (.inr (.inr (.inr (.inr (.inl e))))) hg),h.ss.kb c1.kb (fun g hg e=>h.out g (.inr (.inr (.inr (.inr (.inr e))))) hg),fun b hb hm=>?_⟩;rcases c1.ft b hm with h2|h2
 ·exact h.out b hb h2
 ·have:=hlt b hb;omega
theorem twI_nx:NxI 0 (TwI B c n G0 s i B0 b2 b5 b6 b7 vl vs):=by
 refine⟨?_,?_,?_⟩
 ·rintro W F b ⟨G,h,rfl⟩ hb;have key:∃cs T,W.heap[b]?=some (.cells cs T (0,0)):=by
   rcases mem_tw.1 hb with h1|rfl|rfl|rfl|rfl|e|e
   ·exact(h.gm.cells h1).2
   ·exact⟨_,_,h.c2⟩
   ·exact⟨_,_,h.c5⟩
   ·exact⟨_,_,h.c6⟩
   ·exact⟨_,_,h.c7⟩
   ·obtain⟨cs,hc⟩:=h.sl.block e;exact⟨cs,_,hc⟩
   ·obtain⟨cs,hc⟩:=h.ss.block e;exact⟨cs,_,hc⟩
  obtain⟨cs,T,hc⟩:=key;exact⟨lt_of_heap hc,.inr ⟨cs,T,hc⟩⟩
 ·rintro W W' F L ⟨G,h,rfl⟩ hk hL;exact⟨G,h.kb hk hL,rfl⟩
 ·rintro W F F' ⟨G,h,rfl⟩ ⟨G2,h2,rfl⟩;rw[h.gm.foot_eq h2.gm (h.e1.trans h2.e1.symm)]
set_option maxRecDepth 100000 in
set_option maxHeartbeats 2000000 in
theorem twI_ok(hTl:0<B)(hw:WF n s):NxOK (TwI B c n G0 s i B0 b2 b5 b6 b7 vl vs) 177 #[] #[.pointer (some ⟨b5,0,none⟩),.pointer (some ⟨b6,0,none⟩),.pointer (some ⟨b2,0,none⟩),.pointer (some ⟨b7,0,none⟩)] (n+1) (twNx s n i):=by
 rintro W F m ⟨G,h,rfl⟩ hT hm;have hn:=h.gm.n40;have ea:((#[]:Array Value).push (.int .u64 ((m:Nat):Int)) ++ #[.pointer (some ⟨b5,0,none⟩),.pointer (some ⟨b6,0,none⟩),.pointer (some ⟨b2,0,none⟩),.pointer (some ⟨b7,0,none⟩)]:Array Value)=#[.int .u64 ((m:Nat):Int),.pointer (some ⟨b5,0,none⟩),.pointer (some ⟨b6,0,none⟩),.pointer (some ⟨b2,0,none⟩),.pointer (some ⟨b7,0,none⟩)]:=by simp
 rw[ea];obtain⟨W0,hW0⟩:∃W0,W0=W.alloc (.cells #[.slice none 0 0] TSet):=⟨_,rfl⟩;have k0:Kb [] W W0:=by rw[hW0];exact(Kb.refl [] W).alloc _
 have z0:W0.heap.size=W.heap.size+1:=by rw[hW0];simp
 have h0:=h.kb k0 (by simp);have y0:W0.heap[W.heap.size]?=some (.cells #[.slice none 0 0] TSet (0,0)):=by rw[hW0];exact heap_new _ _
 have r5:W0.cell? ⟨b5,0,none⟩=some (.int .u64 (n:Int)):=by rw[cell_at h0.c5];rfl
 have r2:W0.cell? ⟨b2,0,none⟩=some (.pointer (some ⟨G0.bg,0,none⟩)):=by rw[cell_at h0.c2];rfl
 by_cases hmn:m=n
 ·obtain⟨lo,ll,lc,ev⟩:=h.sl.form;have r6:W0.cell? ⟨b6,0,none⟩=some (.slice lo ll lc):=by rw[cell_at h0.c6,ev];rfl
  have hcell:(W.alloc (.cells #[.slice lo ll lc] TSet)).cell? ⟨W.heap.size,0,none⟩=some (.slice lo ll lc):=by rw[cell_at (heap_new _ _)];rfl
  have kF:Kb [] W (W.alloc (.cells #[.slice lo ll lc] TSet)):=(Kb.refl [] W).alloc _;have HF:=hide (h.kb kF (by simp));have cz:W0.cell? ⟨W.heap.size,0,none⟩=some (.slice none 0 0):=by rw[cell_at y0];rfl
  have fz:W0.frozen? ⟨W.heap.size,0,none⟩=false:=frozen_at y0 0;rw[hW0]at r5 r6 cz fz;have HE:=hide ev;subst hmn;clear h h0 k0 y0 ea r2 ev;go_enter Tryz.func177,Tryz.ntmps177
  go_wp2;refine bodyPost_ret (v:=.agg #[.slice lo ll lc]) (by simp[results,Tryz.results177,go_sem,hcell]) rfl ?_
  refine⟨.slice lo ll lc,_,rfl,?_,fun g hg=>.inl (mem_tw.2 (.inr (.inr (.inr (.inr (.inr (.inl (by rw[HE.out];exact hg)))))))),⟨G,HF.out,rfl⟩,kF.mono (by simp),fun b hb=>.inl hb⟩;unfold twNx;rw[if_pos (by simp)];have h9:=HF.out.sl.low (Nat.zero_le B0);rw[HE.out]at h9;exact h9
 ·have hmlt:m<n:=by omega
  have hne:¬(m:Int)=(n:Int):=by omega
  have HH:=gheirs_any m W0 G h0.gm (hT.kb k0 (by simp)) hTl hmlt hw.rep;rw[h0.e1]at HH;have hfl:=h.gm.footlt;have HK:=hide (And.intro h0 (And.intro k0 (And.intro y0 h)));rw[hW0]at HH r5 r2;clear h h0 k0 y0 ea;go_enter Tryz.func177,Tryz.ntmps177
  go_wp2_with fail
  refine HH.mono ?_
  clear HH;rintro e W1 ⟨G1,v1,rfl,hG1,hC1,hN1⟩;rw[← hW0]at hC1 hN1;obtain⟨uo,ul,uc,rfl⟩:=hN1.set.form;have h1:=HK.out.1.call hG1 hC1;have own_lt:∀b,(b=b2∨b=b5∨b=b6∨b=b7∨vl.ownBlock=some b∨vs.ownBlock=some b)→b<W.heap.size:=by
   have h:=HK.out.2.2.2;rintro b (rfl|rfl|rfl|rfl|e|e)
   ·exact lt_of_heap h.c2
   ·exact lt_of_heap h.c5
   ·exact lt_of_heap h.c6
   ·exact lt_of_heap h.c7
   ·exact(h.sl.lt e).2
   ·exact(h.ss.lt e).2
  have hsz1:=hC1.kb.size;obtain⟨W2,hW2⟩:∃W2,W2=W1.alloc (.cells #[.slice uo ul uc] TSet):=⟨_,rfl⟩;have k2:Kb [] W1 W2:=by rw[hW2];exact(Kb.refl [] W1).alloc _
  have z2:W2.heap.size=W1.heap.size+1:=by rw[hW2];simp
  have h2:=h1.kb k2 (by simp);have a2:W2.heap[W1.heap.size]?=some (.cells #[.slice uo ul uc] TSet (0,0)):=by rw[hW2];exact heap_new _ _
  have n2:SetV W2 W0.heap.size (.slice uo ul uc) (s.heirsOf m):=hN1.set.kb k2 (by simp);have y2:W2.heap[W.heap.size]?=some (.cells #[.slice none 0 0] TSet (0,0)):=k2.heap (hC1.kb.heap HK.out.2.2.1 (fun hm2=>by have:=hfl _ hm2;omega)) (by simp);have HHas:=has_any B0 b7 0 #[vs] TSet vs (s.standing (s.sr i)) m W2 h2.c7 rfl h2.ss (by omega);have r52:W2.cell? ⟨b5,0,none⟩=some (.int .u64 (n:Int)):=by rw[cell_at h2.c5];rfl
  -- what is left when it ends
  have FIN:Hid (∀(W4:World) (v:Value) (T:List Nat),Kb (W.heap.size::W1.heap.size::(Value.slice uo ul uc).ownBlock.toList) W2 W4→SetV W4 W0.heap.size v T→T=twNx s n i m→∃v' F',Ending.returned (.agg #[v])=.returned (.agg #[v'])∧SetV W4 0 v' (twNx s n i m)∧(∀g,v'.ownBlock=some g→g∈G.foot++(b2::b5::b6::b7::(vl.ownBlock.toList++vs.ownBlock.toList))∨W.heap.size≤g)∧TwI B c n G0 s i B0 b2 b5 b6 b7 vl vs W4 F'∧Kb (G.foot++(b2::b5::b6::b7::(vl.ownBlock.toList++vs.ownBlock.toList))) W W4∧∀b∈F',b∈G.foot++(b2::b5::b6::b7::(vl.ownBlock.toList++vs.ownBlock.toList))∨W.heap.size≤b):=by
   refine hide (fun W4 v T k4 hv hT4=>⟨v,_,rfl,?_,fun g hg=>.inr ?_,⟨G1,h2.kb k4 (fun b hb hm2=>?_),rfl⟩,?_,fun b hb=>?_⟩)
   ·rw[← hT4];exact hv.low (Nat.zero_le _)
   ·have:=(hv.lt hg).1;omega
   ·have hbl:W.heap.size≤b∧b ∉ G1.foot:=by
     rcases List.mem_cons.1 hb with rfl|hb
     ·refine⟨Nat.le_refl _,fun h9=>?_⟩;rcases hC1.ft _ h9 with h8|h8
      ·have:=hfl _ h8;omega
      ·omega
     ·rcases List.mem_cons.1 hb with rfl|hb
      ·exact⟨by omega,fun h9=>by have:=hG1.footlt _ h9;omega⟩
      ·simp at hb;exact⟨by have:=(hN1.set.lt hb).1;omega,hN1.out b hb⟩
    rcases mem_tw.1 hm2 with h9|h9
    ·exact hbl.2 h9
    ·have:=own_lt b h9;omega
   ·have ka:Kb (G.foot++(b2::b5::b6::b7::(vl.ownBlock.toList++vs.ownBlock.toList))) W W2:=((HK.out.2.1.mono (by simp)).trans (hC1.kb.mono (by intro k _ hk;exact mem_tw.2 (.inl hk)))).trans (k2.mono (by simp));refine⟨k4.os.trans ka.os,k4.tape.trans ka.tape,k4.output.trans ka.output,Nat.le_trans ka.size k4.size,fun j hj hl=>?_⟩;refine(k4.block j (Nat.lt_of_lt_of_le hj ka.size) (fun hm2=>?_)).trans (ka.block j hj hl);rcases List.mem_cons.1 hm2 with e|hm2
    ·omega
    ·rcases List.mem_cons.1 hm2 with e|hm2
     ·omega
     ·simp at hm2;have:=(hN1.set.lt hm2).1;omega
   ·rcases mem_tw.1 hb with h9|h9
    ·rcases hC1.ft b h9 with h8|h8
     ·exact .inl (mem_tw.2 (.inl h8))
     ·exact .inr (by omega)
    ·exact .inl (mem_tw.2 (.inr h9))
  have HW2:=hide hW2;rw[hW2]at HHas;have HD:=hide (And.intro a2 (And.intro n2 y2));clear h1 h2 hG1 hC1 hN1 HK hW2 k2 a2 n2 y2;go_wp2_with fail
  refine HHas.mono ?_
  clear HHas;rintro e W2' ⟨rfl,hw2⟩;rw[← HW2.out]at hw2;subst W2';have e1:twNx s n i m=if(s.standing (s.sr i)).contains m then addS n (s.heirsOf m)else s.heirsOf m:=by
   unfold twNx;rw[if_neg (by simpa using hmn)]
  cases hc:(s.standing (s.sr i)).contains m
  ·rw[hc]at e1;have cv:W2.cell? ⟨W1.heap.size,0,none⟩=some (.slice uo ul uc):=by rw[cell_at HD.out.1];rfl
   have cz:W2.cell? ⟨W.heap.size,0,none⟩=some (.slice none 0 0):=by rw[cell_at HD.out.2.2];rfl
   have fz:W2.frozen? ⟨W.heap.size,0,none⟩=false:=frozen_at HD.out.2.2 0;obtain⟨W4,hW4⟩:∃W4,W4=W2.setCell ⟨W.heap.size,0,none⟩ (.slice uo ul uc):=⟨_,rfl⟩;have k4:Kb [W.heap.size] W2 W4:=by rw[hW4];exact(Kb.refl _ _).setCell (p:=⟨W.heap.size,0,none⟩) (.inl (by simp)) _
   have hcell:W4.cell? ⟨W.heap.size,0,none⟩=some (.slice uo ul uc):=by rw[hW4,cell_at (heap_set HD.out.2.2 0 _)];rfl
   have HF:=hide (FIN.out W4 (.slice uo ul uc) (s.heirsOf m) (k4.mono (by intro k _ hk;simp at hk;simp[hk])) (HD.out.2.1.kb k4 (fun g hg e=>by
    rw[List.mem_singleton.1 hg]at e;exact HD.out.2.1.ne HD.out.2.2 (by decide) e)) (by rw[e1];rfl))
   clear FIN k4 e1;go_wp2;rw[← hW4];refine bodyPost_ret (v:=.agg #[.slice uo ul uc]) (by simp[results,Tryz.results177,go_sem,hcell]) rfl HF.out
  ·rw[hc]at e1;have HAd:=sadd_any W0.heap.size W1.heap.size 0 #[.slice uo ul uc] TSet (.slice uo ul uc) (s.heirsOf m) n W2 (by omega) (by decide) HD.out.1 rfl HD.out.2.1 (by omega);go_wp2_with fail
   refine HAd.mono ?_
   clear HAd;rintro e W3 ⟨rfl,v3,hS3,hC3⟩;obtain⟨xo,xl,xc,rfl⟩:=hS3.form;have hzn:W.heap.size ∉ W1.heap.size::(Value.slice uo ul uc).ownBlock.toList:=by
    intro hm2;rcases List.mem_cons.1 hm2 with e9|hm2
    ·omega
    ·simp at hm2;exact HD.out.2.1.ne HD.out.2.2 (by decide) hm2
   have y3:W3.heap[W.heap.size]?=some (.cells #[.slice none 0 0] TSet (0,0)):=hC3.kb.heap HD.out.2.2 hzn;have cv:W3.cell? ⟨W1.heap.size,0,none⟩=some (.slice xo xl xc):=by rw[cell_at hC3.blk];rfl
   have cz:W3.cell? ⟨W.heap.size,0,none⟩=some (.slice none 0 0):=by rw[cell_at y3];rfl
   have fz:W3.frozen? ⟨W.heap.size,0,none⟩=false:=frozen_at y3 0;obtain⟨W4,hW4⟩:∃W4,W4=W3.setCell ⟨W.heap.size,0,none⟩ (.slice xo xl xc):=⟨_,rfl⟩;have k4:Kb [W.heap.size] W3 W4:=by rw[hW4];exact(Kb.refl _ _).setCell (p:=⟨W.heap.size,0,none⟩) (.inl (by simp)) _
   have hcell:W4.cell? ⟨W.heap.size,0,none⟩=some (.slice xo xl xc):=by rw[hW4,cell_at (heap_set y3 0 _)];rfl
   have k24:Kb (W.heap.size::W1.heap.size::(Value.slice uo ul uc).ownBlock.toList) W2 W4:=(hC3.kb.mono (by intro k _ hk;exact List.mem_cons_of_mem _ hk)).trans (k4.mono (by intro k _ hk;simp at hk;simp[hk]));have HF:=hide (FIN.out W4 (.slice xo xl xc) (addS n (s.heirsOf m)) k24 (hS3.kb k4 (fun g hg e=>by
    rw[List.mem_singleton.1 hg]at e;exact hS3.ne y3 (by decide) e)) (by rw[e1];rfl))
   clear FIN k4 k24 e1 hS3 hC3 y3 hzn;go_wp2;rw[← hW4];refine bodyPost_ret (v:=.agg #[.slice xo xl xc]) (by simp[results,Tryz.results177,go_sem,hcell]) rfl HF.out
end
section
open Go.RowKit Go.Shelf
attribute [local go_sem] Oper.semAt_some
variable {B:Nat} {c:Way} {n:Nat} {s:St}
theorem gof_cap(m:Nat)(w:World)(G:GV)(h:GM w B c n G s)(hm:m<128) :
  Calls Tryz.prog 93 #[.pointer (some ⟨G.bg,6,none⟩),.int .u64 m] w fun e w'=>e=.returned (.int .u64 (s.rep m))∧∃G',GM w' B c n G' s∧GCh w w' G G'∧w'.cell? ⟨G.bg,5,none⟩=some (.slice (some ⟨G.bn,0,none⟩) n G.cap):=by
 refine(of_any B G.bg 6 (gcells c n G s.un) TG G.va G.ab s.rep m w h.hB (by decide) h.hbg rfl h.oA h.cls hm).mono ?_
 rintro e w' ⟨rfl,v',ab',_,_,hI⟩;obtain⟨h1,h2⟩:=h.putA hI;exact⟨rfl,_,h1,h2,h1.reads.2.2.2.2.2.1⟩
theorem GM.capOf{w:World}{G G':GV}(h:GM w B c n G' s)(e1:G'.bg=G.bg)(hc:w.cell? ⟨G.bg,5,none⟩=some (.slice (some ⟨G.bn,0,none⟩) n G.cap)):G'.cap=G.cap:=by
 have h1:=h.reads.2.2.2.2.2.1;rw[e1,hc]at h1;injection h1 with h1;injection h1 with _ _ h1;exact h1.symm
set_option maxRecDepth 100000 in
set_option maxHeartbeats 1000000 in
theorem gstanding_cap(b2 o2:Nat)(cs2:Array Value)(T2:TypeId)(v2:Value)(B2:Nat)(T:List Nat)(w:World)(G:GV)(h:GM w B c n G s)(hT:TabAt w)(hTl:0<B)(hb2:w.heap[b2]?=some (.cells cs2 T2 (0,0)))(hv2:cs2[o2]?=some v2)(hS2:SetV w B2 v2 T)(hr:∀x,s.rep x≤x) :
  Calls Tryz.prog 157 #[.pointer (some ⟨G.bg,0,none⟩),.pointer (some ⟨b2,o2,none⟩)] w fun e w'=>∃G' v',e=.returned (.agg #[v'])∧GM w' B c n G' s∧GCh w w' G G'∧SetV w' w.heap.size v' (s.standing T)∧(∀g,v'.ownBlock=some g→g ∉ G'.foot)∧w'.cell? ⟨G.bg,5,none⟩=some (.slice (some ⟨G.bn,0,none⟩) n G.cap):=by
 have hbg:=lt_of_heap h.hbg;refine(callsIn_wide (n:=10)).1 ?_
 refine callsIn_of_wp_marks Tryz.func157 rfl trivial ?_ rfl;simp only[Tryz.ntmps157,List.size_toArray,List.length_cons,List.length_nil,Nat.reduceAdd,Nat.reduceSub,Array.replicate_succ,Array.replicate_zero,List.push_toArray,List.append_toArray,List.nil_append,List.cons_append];obtain⟨W0,hW0⟩:∃W0,W0=(((w.alloc (.cells #[.pointer (some ⟨G.bg,0,none⟩)] 101)).alloc (.cells #[.slice none 0 0] 112)).alloc (.cells #[.slice none 0 0] 112)):=⟨_,rfl⟩;have k0:Kb [] w W0:=by rw[hW0];exact(((Kb.refl [] w).alloc _).alloc _).alloc _
 have z0:W0.heap.size=w.heap.size+3:=by rw[hW0];simp
 have x0:W0.heap[w.heap.size]?=some (.cells #[.pointer (some ⟨G.bg,0,none⟩)] 101 (0,0)):=by rw[hW0];exact heap_old (heap_old (heap_new _ _) _) _
 have y0:W0.heap[w.heap.size+1]?=some (.cells #[.slice none 0 0] 112 (0,0)):=by
  rw[hW0];have:=heap_new (w.alloc (.cells #[.pointer (some ⟨G.bg,0,none⟩)] 101)) (.cells #[.slice none 0 0] 112);rw[World.size_alloc]at this;exact heap_old this _
 have f0:W0.heap[w.heap.size+2]?=some (.cells #[.slice none 0 0] 112 (0,0)):=by
  rw[hW0];have:=heap_new ((w.alloc (.cells #[.pointer (some ⟨G.bg,0,none⟩)] 101)).alloc (.cells #[.slice none 0 0] 112)) (.cells #[.slice none 0 0] 112);rw[World.size_alloc,World.size_alloc]at this;exact this
 have HA:=all_any B2 b2 o2 cs2 T2 v2 T W0 (k0.heap hb2 (by simp)) hv2 (hS2.kb k0 (by simp));have h0:=h.fresh k0;have HT:Hid (TabAt W0):=hide (hT.kb k0 (by simp));gi_wp2
 rw[← hW0];refine⟨trivial,?_⟩;refine(callsIn_wide.2 HA).mono ?_
 clear HA hW0;rintro e w1 ⟨bw,va,rfl,hbw,hbwc,hva,k1⟩;have HT1:=hide (HT.out.kb k1 (by simp));have G1:=hide (h0.fresh k1);clear h0 HT;gi_wp2
 obtain⟨L,hL⟩:∃L,L=(w.heap.size+1)::0::va.ownBlock.toList:=⟨_,rfl⟩;have hsz1:=k1.size;have hLlt:∀k∈L,k<w1.heap.size:=by
  intro k hk;rw[hL]at hk;rcases List.mem_cons.1 hk with rfl|hk
  ·omega
  ·rcases List.mem_cons.1 hk with rfl|hk
   ·omega
   ·simp at hk;exact(hva.lt hk).2
 have hfl:∀b∈G.foot,b<w.heap.size:=h.footlt;have hI0:StI w B c n G s L w.heap.size (w.heap.size+2) [] w1 G (.slice none 0 0):=by
  refine⟨G1.out,⟨(k0.trans k1).mono (by simp),fun b hb=>.inl hb,rfl,rfl,rfl⟩,k1.heap x0 (by simp),k1.heap f0 (by simp),SetV.nil _ _,⟨Nat.le_refl _,by omega⟩,⟨fun hm=>?_,fun hm=>?_,fun g hg=>by cases hg⟩,fun k hk=>⟨fun hm=>?_,hLlt k hk,?_,by simp[Value.ownBlock]⟩⟩
  ·have:=hfl _ hm;omega
  ·have:=hfl _ hm;omega
  ·have h1:=hfl _ hm;rw[hL]at hk;rcases List.mem_cons.1 hk with rfl|hk
   ·omega
   ·rcases List.mem_cons.1 hk with rfl|hk
    ·have:=(h.cells hm).1;omega
    ·simp at hk;have:=(hva.lt hk).1;omega
  ·rw[hL]at hk;rcases List.mem_cons.1 hk with rfl|hk
   ·omega
   ·rcases List.mem_cons.1 hk with rfl|hk
    ·omega
    ·simp at hk;have:=(hva.lt hk).1;omega
 have y1:w1.heap[w.heap.size+1]?=some (.cells #[.slice none 0 0] 112 (0,0)):=k1.heap y0 (by simp);have hst:=all_stops 9 bw W0.heap.size va T L w1 hbwc hva HT1.out (fun g hg=>by rw[hL];simp[hg]) (by rw[hL];simp);have hbT:∀x,x∈T→x<128:=by
  intro x hx;obtain⟨ws,_,_,e⟩:=hva;rw[e]at hx;exact(mem_mkS.1 hx).1
 have HI0:=hide hI0;have hn:=h.n40;clear hI0 x0 y0 f0 hfl hbwc;refine wpIn_rangeFunc_ownG (α:=Mem T) (hro:=rfl) (h1:=by omega) (gf:=127) (lb:=#[.pointer (some ⟨bw,0,none⟩)]) rfl trivial (enters_of Tryz.func127 (by kernel_rfl) rfl) hst (fun h1 h2=>h1.trans h2) (kpB_b hLlt) (Below.refl _ _) (fun _=>rfl)
  (fun pre W=>∃G' vf,StI w B c n G s L w.heap.size (w.heap.size+2) ((pre.map (·.1)).foldl (fun f m=>addS (s.rep m) f) []) W G' vf∧W.heap[w.heap.size+1]?=some (.cells #[.slice none 0 0] 112 (0,0))∧W.cell? ⟨G.bg,5,none⟩=some (.slice (some ⟨G.bn,0,none⟩) n G.cap))
  (fun _ _ _=>False) ?hI (fun _ _ _ _ _ hs _ _=>hs) ⟨G,_,HI0.out,y1,HI0.out.gm.reads.2.2.2.2.2.1⟩ ?a1 ?assign ?body ?done ?stop
 case hI=>
  rintro pre W W' row ⟨G',vf,p1,p2,p3⟩ hg hr;refine⟨G',vf,p1.own (by omega) hg hr,(kb_grown hg).heap p2 (fun hm=>?_),?_⟩;rotate_left
  ·have hbgW:=p1.gm.hbg;rw[p1.ch.e1]at hbgW;rw[(kb_grown hg).cell (p:=⟨G.bg,5,none⟩) (lt_of_heap hbgW) (fun hm=>by
    obtain⟨_,o,ho,hc⟩:=hr _ (by simpa using hm);rw[hbgW]at ho;cases ho;cases hc)]
   exact p3
  obtain⟨_,o,ho,hc⟩:=hr _ (by simpa using hm);rw[p2]at ho;cases ho;cases hc
 case assign=>
  intro l x W K hK;gi_wp2
  exact hK
 case body=>
  rintro l pre ⟨x,hxT⟩ W ⟨G',vf,p1,p2,p3⟩ _;have hx:=hbT x hxT;have cb:W.cell? ⟨w.heap.size,0,none⟩=some (.pointer (some ⟨G.bg,0,none⟩)):=by rw[cell_at p1.box];rfl
  have HOf:=gof_cap x W G' p1.gm hx;rw[p1.ch.e1,p1.ch.e2,p1.gm.capOf p1.ch.e1 p3]at HOf;have HP:=hide p1;have HP2:=hide p2;have hrx:s.rep x<128:=Nat.lt_of_le_of_lt (hr x) hx;have ht:((pre++[(⟨x,hxT⟩:Mem T)]).map (·.1)).foldl (fun f m=>addS (s.rep m) f) []=addS (s.rep x) ((pre.map (·.1)).foldl (fun f m=>addS (s.rep m) f) []):=by rw[List.map_append,List.foldl_append];rfl
  have HTt:=hide ht;clear p1 p2 p3 ht;generalize (pre.map (·.1)).foldl (fun f m=>addS (s.rep m) f) []=t at *;dsimp only[encN,Array.zip,Array.foldl];gi_wp2
  refine⟨trivial,?_⟩;refine(CallsIn.inRound l (callsIn_wide.2 HOf)).mono ?_
  clear HOf;rintro e W1 ⟨rfl,G2,hG2,hC2,hcp⟩;have cel1:W1.heap[w.heap.size+2]?=some (.cells #[vf] 112 (0,0)):=hC2.kb.heap HP.out.cel HP.out.out.2.1;have set1:SetV W1 w.heap.size vf t:=HP.out.set.kb hC2.kb (fun g hg e=>HP.out.out.2.2 g e hg);have HAd:=sadd_any w.heap.size (w.heap.size+2) 0 #[vf] 112 vf t (s.rep x) W1 (by have:=HP.out.ch.kb.size;have:=hC2.kb.size;omega) (by decide) cel1 rfl set1 hrx;have H2:=hide (And.intro hG2 (And.intro hC2 hcp));clear hG2 hC2 cel1 set1 hcp;gi_wp2
  refine⟨trivial,?_⟩;refine(CallsIn.inRound l (callsIn_wide.2 HAd)).mono ?_
  clear HAd;rintro e W2 ⟨rfl,v3,hS3,hC3⟩;obtain⟨z1,z2,z3⟩:=HP.out.step H2.out.1 H2.out.2.1 hS3 hC3;have hcp3:W2.cell? ⟨G.bg,5,none⟩=some (.slice (some ⟨G.bn,0,none⟩) n G.cap):=by
   have hb1:=H2.out.1.hbg;rw[H2.out.2.1.e1,HP.out.ch.e1]at hb1;rw[hC3.kb.cell (p:=⟨G.bg,5,none⟩) (lt_of_heap hb1) (fun hm=>by
    have hfoot:G.bg∈G2.foot:=mem_foot.2 (.inl (by rw[H2.out.2.1.e1,HP.out.ch.e1]));have o1:=z1.out;rcases List.mem_cons.1 hm with e|hm
    ·exact o1.2.1 (by rw[← e];exact hfoot)
    ·simp at hm;have hnew:=(HP.out.set.lt hm).2;rcases H2.out.2.1.ft _ hfoot with h9|h9
     ·exact HP.out.out.2.2 _ hm h9
     ·exact absurd hnew (Nat.not_lt.2 h9))]
   exact H2.out.2.2
  have HZ:=hide (And.intro z1 (And.intro z2 (And.intro z3 hcp3)));clear z1 z2 z3 hS3 hC3 H2 hcp3;gi_wp2
  refine⟨HZ.out.2.1 _,HZ.out.2.2.1,G2,v3,?_,?_,HZ.out.2.2.2⟩
  ·rw[HTt.out];exact HZ.out.1
  ·rw[HZ.out.2.2.1 (w.heap.size+1) (by rw[hL];simp)];exact HP2.out
 case done=>
  rintro D xs W hD hxs ⟨G',vf,p1,p2,p3⟩ hK;rw[hxs]at p1;have cf:W.cell? ⟨w.heap.size+2,0,none⟩=some vf:=by rw[cell_at p1.cel];rfl
  have cr:W.cell? ⟨w.heap.size+1,0,none⟩=some (.slice none 0 0):=by rw[cell_at p2];rfl
  have fr:W.frozen? ⟨w.heap.size+1,0,none⟩=false:=frozen_at p2 0;have hform:∃ao m cap,vf=.slice ao m cap:=by
   obtain⟨ws,_,hO,_⟩:=p1.set;obtain⟨ao,cap,e,_⟩:=hO.form;exact⟨ao,_,cap,e⟩
  obtain⟨ao,m,cap,rfl⟩:=hform;have HP:=hide (And.intro p1 p2);have HP3:=hide p3;clear p1 p2 p3;gi_wp2
  have hK2:(W.setCell ⟨w.heap.size+1,0,none⟩ (.slice ao m cap)).heap[D]?=some (.deferred (some [])):=(KeepsOthers.setCell W _ _).same D _ hK rfl;refine⟨by simp,.inl ⟨_,_,rfl,run_takeDeferred hK2,?_⟩⟩;have kS:Kb [w.heap.size+1] W (W.setCell ⟨w.heap.size+1,0,none⟩ (.slice ao m cap)):=(Kb.refl _ _).setCell (p:=⟨w.heap.size+1,0,none⟩) (.inl (by simp)) _;have kD:Kb [D] (W.setCell ⟨w.heap.size+1,0,none⟩ (.slice ao m cap)) ((W.setCell ⟨w.heap.size+1,0,none⟩ (.slice ao m cap)).putObj D (.deferred none)):=kb_grown (grownBy_putObj' _ _ _);have kF:Kb [w.heap.size+1,D] W ((W.setCell ⟨w.heap.size+1,0,none⟩ (.slice ao m cap)).putObj D (.deferred none)):=(kS.mono (by intro k _ hk;simp at hk;simp[hk])).trans (kD.mono (by intro k _ hk;simp at hk;simp[hk]))
  have hr1:(W.setCell ⟨w.heap.size+1,0,none⟩ (.slice ao m cap)).heap[w.heap.size+1]?=some (.cells #[.slice ao m cap] 112 (0,0)):=by rw[heap_set HP.out.2];rfl
  have hDn:D≠w.heap.size+1:=by omega
  have hr2:((W.setCell ⟨w.heap.size+1,0,none⟩ (.slice ao m cap)).putObj D (.deferred none)).heap[w.heap.size+1]?=some (.cells #[.slice ao m cap] 112 (0,0)):=kD.heap hr1 (by simp;omega);have hcell:((W.setCell ⟨w.heap.size+1,0,none⟩ (.slice ao m cap)).putObj D (.deferred none)).cell? ⟨w.heap.size+1,0,none⟩=some (.slice ao m cap):=by rw[cell_at hr2];rfl
  have hDf:D ∉ G'.foot:=HP.out.1.gm.notfoot hK rfl;have hl1:=HP.out.1.lb (w.heap.size+1) (by rw[hL];simp);have hfin:∃G' v',(Ending.returned (.agg #[.slice ao m cap])=Ending.returned (.agg #[v']))∧GM ((W.setCell ⟨w.heap.size+1,0,none⟩ (.slice ao m cap)).putObj D (.deferred none)) B c n G' s∧GCh w ((W.setCell ⟨w.heap.size+1,0,none⟩ (.slice ao m cap)).putObj D (.deferred none)) G G'∧SetV ((W.setCell ⟨w.heap.size+1,0,none⟩ (.slice ao m cap)).putObj D (.deferred none)) w.heap.size v' (s.standing T)∧(∀g,v'.ownBlock=some g→g ∉ G'.foot)∧((W.setCell ⟨w.heap.size+1,0,none⟩ (.slice ao m cap)).putObj D (.deferred none)).cell? ⟨G.bg,5,none⟩=some (.slice (some ⟨G.bn,0,none⟩) n G.cap):=by
   refine⟨G',_,rfl,HP.out.1.gm.beside kF ?_,?_,HP.out.1.set.kb kF ?_,HP.out.1.out.2.2,?_⟩
   ·intro b hb;rcases List.mem_cons.1 hb with rfl|hb
    ·exact hl1.1
    ·rw[List.mem_singleton.1 hb];exact hDf
   ·have c0:=HP.out.1.ch;refine⟨⟨kF.os.trans c0.kb.os,kF.tape.trans c0.kb.tape,kF.output.trans c0.kb.output,Nat.le_trans c0.kb.size kF.size,fun j hj hl=>?_⟩,c0.ft,c0.e1,c0.e2,c0.e3⟩;refine(kF.block j (Nat.lt_of_lt_of_le hj c0.kb.size) ?_).trans (c0.kb.block j hj hl);simp;omega
   ·intro b hb;rcases List.mem_cons.1 hb with rfl|hb
    ·exact hl1.2.2.2
    ·rw[List.mem_singleton.1 hb];intro e;obtain⟨cs,hc⟩:=HP.out.1.set.block e;rw[hK]at hc;cases hc
   ·have hbgW:=HP.out.1.gm.hbg;rw[HP.out.1.ch.e1]at hbgW;rw[kF.cell (p:=⟨G.bg,5,none⟩) (lt_of_heap hbgW) (fun hm=>by
     have hfoot:G.bg∈G'.foot:=mem_foot.2 (.inl HP.out.1.ch.e1.symm);rcases List.mem_cons.1 hm with e|hm
     ·exact hl1.1 (by rw[← e];exact hfoot)
     ·exact hDf (by rw[← List.mem_singleton.1 hm];exact hfoot))]
    exact HP3.out
  refine⟨.agg #[.slice ao m cap],?_,hfin⟩;simp[results,Tryz.results157,go_sem,hcell]
 case stop=>
  rintro D cc pre W _ _ hF _;exact hF.elim
end
end Go.Proofs.YtiamlbhkiehilaaGreatDoor
