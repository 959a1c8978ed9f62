import Derived.Test.YtiamlbhkiehilaaGreatDoorKq13
import Derived.Test.YtiamlbhkiehilaaGreatDoorKq16
import Derived.Test.YtiamlbhkiehilaaGreatDoorKq20
import Derived.Test.YtiamlbhkiehilaaGreatDoorKq21
import Derived.Stop.RegionWithIn
import Derived.Sort.AtCallIn
namespace Go.Proofs.YtiamlbhkiehilaaGreatDoor
section
open Go.RowKit Go.Shelf
attribute [local go_sem] Oper.semAt_some
variable {B:Nat} {c:Way} {n:Nat} {s:St}
def HrI(B:Nat)(c:Way)(n:Nat)(G0:GV)(s:St)(W:World)(F:List Nat):Prop:=∃G:GV,GM W B c n G s∧G.bg=G0.bg∧G.bn=G0.bn∧G.bl=G0.bl∧F=G.foot
theorem hrI_nx(G0:GV):NxI 0 (HrI B c n G0 s):=by
 refine⟨?_,?_,?_⟩
 ·rintro W F b ⟨G,h,_,_,_,rfl⟩ hb;obtain⟨_,cs,T,hc⟩:=h.cells hb;exact⟨lt_of_heap hc,.inr ⟨cs,T,hc⟩⟩
 ·rintro W W' F L ⟨G,h,e1,e2,e3,rfl⟩ hk hL;exact⟨G,h.beside hk hL,e1,e2,e3,rfl⟩
 ·rintro W F F' ⟨G,h,e,_,_,rfl⟩ ⟨G2,h2,e2,_,_,rfl⟩;exact h.foot_eq h2 (e.trans e2.symm)
theorem hrI_ok(G0:GV)(hTl:0<B)(hr:∀x,s.rep x≤x):NxOK (HrI B c n G0 s) 118 #[.pointer (some ⟨G0.bg,0,none⟩)] #[] n s.heirsOf:=by
 rintro W F m ⟨G,h,e,e2,e3,rfl⟩ hT hm;have:=gheirs_any m W G h hT hTl hm hr;rw[e]at this;have ea:(#[Value.pointer (some ⟨G0.bg,0,none⟩)].push (.int .u64 ((m:Nat):Int)) ++ #[]:Array Value)=#[.pointer (some ⟨G0.bg,0,none⟩),.int .u64 ((m:Nat):Int)]:=by simp
 rw[ea];refine this.mono ?_
 rintro e9 W' ⟨G',v',p1,p2,p3,p4⟩;exact⟨v',G'.foot,p1,p4.set.low (Nat.zero_le _),fun g hg=>.inr (p4.set.lt hg).1,⟨G',p2,p3.e1.trans e,p3.e2.trans e2,p3.e3.trans e3,rfl⟩,p3.kb,p3.ft⟩
theorem HrI.ch{W W':World}{G:GV}{F':List Nat}(h:HrI B c n G s W' F')(hk:Kb G.foot W W')(hf:∀b∈F',b∈G.foot∨W.heap.size≤b):∃G',GM W' B c n G' s∧GCh W W' G G'∧F'=G'.foot:=by
 obtain⟨G',h1,e1,e2,e3,rfl⟩:=h;exact⟨G',h1,⟨hk,hf,e1,e2,e3⟩,rfl⟩
theorem gsremove_any(m:Nat)(w:World)(G:GV)(h:GM w B c n G s)(hm:m<128) :
  Calls Tryz.prog 121 #[.pointer (some ⟨G.bg,8,none⟩),.int .u64 m] w fun e w'=>e=.returned (.tuple #[])∧∃G',GM w' B c n G' { s with susp:=delS m s.susp }∧GCh w w' G G':=by
 refine(remove_any B G.bg 8 _ TG G.vs _ m w (by decide) h.hbg rfl h.sS hm).mono ?_
 rintro e w' ⟨rfl,v',hS,hC⟩;obtain⟨p1,p2⟩:=h.putS hC hS;exact⟨rfl,_,p1,p2⟩
theorem lookStep_some{k a:Nat}(hk:130≤k)(hw:WF n s):∃l,around k a ({ s with susp:=delS a s.susp }:St).heirsOf=some l∧s.lookStep k a=some (({ s with susp:=delS a s.susp }:St).mergeAll a l).2:=by
 obtain⟨l,hl⟩:=around_ends (next:=({ s with susp:=delS a s.susp }:St).heirsOf) (fun x y hy=>by
  have h1:y∈s.heirsOf x:=hy;have h2:=hw.heirsLt h1;have:=hw.hn;omega) hk a
 refine⟨l,hl,?_⟩;unfold St.lookStep;simp only[];rw[hl];rfl
theorem foldO_snoc{α β:Type}(f:α→β→Option α):∀(l:List β) (a:α) (x:β),St.foldO f a (l++[x])=(St.foldO f a l).bind fun b=>f b x:=by
 intro l;induction l with
 |nil=>
  intro a x;simp only[List.nil_append,foldO_cons,foldO_nil,Option.bind_some];cases f a x<;>rfl
 |cons y r ih=>
  intro a x;simp only[List.cons_append,foldO_cons];cases f a y with
  |none=>rfl
  |some b=>exact ih b x
def LkO(w:World)(B:Nat)(c:Way)(n:Nat)(G:GV)(s:St)(k:Nat)(L:List Nat)(bxs:List (Nat × Array Value × TypeId))(pre:List Nat)(len:Nat)(W:World):Prop:=
 ∃st G',LI w B c n G L bxs [] W st G'∧St.foldO (St.lookStep k) s pre=some st∧WF n st∧st.un≤s.un+len*40
def LkN(w:World)(B:Nat)(c:Way)(n:Nat)(G:GV)(st1:St)(x:Nat)(L L2:List Nat)(bxs:List (Nat × Array Value × TypeId))(pre2:List Nat)(D:Nat)(W Y:World):Prop:=
 ∃G',LI w B c n G L2 bxs [] Y (pre2.foldl (mstep x) (false,st1)).2 G'∧KeepsFrom D W Y∧KpB L W Y
set_option maxRecDepth 100000 in
set_option maxHeartbeats 8000000 in
theorem look_ok(hTl:0<B)(k:Nat)(hk:130≤k):LookOK B c n k:=by
 intro s s' w G h hw hT hu he;have hus:=(hw.wlook he).2;have hn:=h.n40;have TT:Hid (∀ {W:World} {G':GV},GCh w W G G'→TabAt W):=hide (fun hc=>hT.kb hc.kb (fun hm=>by have:=(h.cells hm).1;omega));have hmf:∀(fn:Fn) (first cap:Array Value) (w:World),(Instr.makeFunc fn first cap).run Tryz.prog w=.ok (.func fn first cap) w:=fun _ _ _ _=>rfl
 obtain⟨W0,hW0⟩:∃W0,W0=w.alloc (.cells #[.pointer (some ⟨G.bg,0,none⟩)] 101):=⟨_,rfl⟩;have k0:Kb [] w W0:=by rw[hW0];exact(Kb.refl [] w).alloc _
 have h0:=h.fresh k0;have x0:W0.heap[w.heap.size]?=some (.cells #[.pointer (some ⟨G.bg,0,none⟩)] 101 (0,0)):=by rw[hW0];exact heap_new _ _
 have cx0:W0.cell? ⟨w.heap.size,0,none⟩=some (.pointer (some ⟨G.bg,0,none⟩)):=by rw[cell_at x0];rfl
 have z0:W0.heap.size=w.heap.size+1:=by rw[hW0];simp
 have HA:=all_any B G.bg 8 _ TG G.vs s.susp W0 h0.hbg rfl h0.sS;refine(callsIn_wide (n:=30)).1 ?_
 refine callsIn_of_wp_marks Tryz.func92 rfl trivial ?_ rfl;simp only[Tryz.ntmps92,List.size_toArray,List.length_cons,List.length_nil,Nat.reduceAdd,Nat.reduceSub,Array.replicate_succ,Array.replicate_zero,List.push_toArray,List.append_toArray,List.nil_append,List.cons_append];rw[hW0]at HA cx0;gi_wp2
 refine⟨trivial,?_⟩;refine(callsIn_wide.2 HA).mono ?_
 clear HA;rintro e W1 ⟨bw,va,rfl,hbw,hbwc,hva,k1⟩;rw[← hW0]at hva k1 hbw;have k01:=k0.trans k1;have L1:=(((LI.start h).fresh k0).1.addBox x0 (fun hm=>by have:=h.footlt _ hm;omega));have L1':=(L1.fresh k1).1;obtain⟨L,hL⟩:∃L,L=0::va.ownBlock.toList:=⟨_,rfl⟩;have hLp:∀b∈L,b ∉ G.foot∧b<W1.heap.size:=by
  intro b hb;rw[hL]at hb;rcases List.mem_cons.1 hb with rfl|hb
  ·exact⟨fun hm=>by have:=(h.cells hm).1;omega,by have:=L1'.gm.hB;omega⟩
  ·simp at hb;exact⟨L1.newer (hva.lt hb).1,(hva.lt hb).2⟩
 have hLlt:∀b∈L,b<W1.heap.size:=fun b hb=>(hLp b hb).2
 have hst:=all_stops 29 bw W0.heap.size va s.susp L W1 hbwc hva (hT.kb k01 (by simp)) (fun g hg=>by rw[hL];simp[hg]) (by rw[hL];simp);have hsz:=k01.size;have hsz1:=k1.size;have LL:LI w B c n G L [(w.heap.size,#[.pointer (some ⟨G.bg,0,none⟩)],101)] [] W1 s G:=⟨L1'.gm,L1'.ch,L1'.bx,L1'.vt,hLp⟩;have HLL:=hide LL;have HLo:=hide hL;have hvlt:∀g,va.ownBlock=some g→W0.heap.size≤g:=fun g hg=>(hva.lt hg).1
 have hsl:s.susp.length≤40:=by have:=hva.len hw.sus;omega
 clear hva hbwc k1 hbw hW0 x0 cx0 k0 h0 L1 L1' k01 hL hLp LL;gi_wp2
 obtain⟨bxs,hbxs⟩:∃bxs:List (Nat × Array Value × TypeId),bxs=[(w.heap.size,#[.pointer (some ⟨G.bg,0,none⟩)],101)]:=⟨_,rfl⟩;rw[← hbxs]at HLL;have HBo:=hide hbxs;clear hbxs;refine wpIn_rangeFunc_ownH (α:=Mem s.susp) (hro:=rfl) (h1:=by omega) (gf:=127) (lb:=#[.pointer (some ⟨bw,0,none⟩)]) rfl trivial (enters_of Tryz.func127 (by kernel_rfl) rfl) hst (fun h1 h2=>h1.trans h2) (kpB_b hLlt) (Below.refl _ _) (fun _=>rfl)
  (fun pre W=>LkO w B c n G s k L bxs (valsM pre) pre.length W)
  (fun _ _ _=>False) ?hI (fun _ _ _ _ _ hs _ _=>hs) ⟨s,G,HLL.out,rfl,hw,by simp⟩
  (fun x a' W=>∃Bx G0 s0,W.heap[Bx]?=some (.cells #[.int .u64 (x.1:Int)] TN (0,0))∧GM W B c n G0 s0∧G0.bg=G.bg∧Bx ∉ G0.foot∧a'={ tmps:=#[.pointer (some ⟨G.bg,0,none⟩),.pointer (some ⟨w.heap.size,0,none⟩),.pointer (some ⟨Bx,0,none⟩),undef,undef,.pointer (some ⟨G.bg,0,none⟩),.pointer (some ⟨G.bg,0,none⟩),.pointer (some ⟨G.bg,8,none⟩),.func (.func 127) #[] #[.pointer (some ⟨bw,0,none⟩)],.int .u64 (x.1:Int),undef,undef,undef,undef,undef,undef,undef,undef,undef,undef,undef,undef,undef,undef,undef],defers:=[] }) ?hAx ?assign ?body ?done ?stop
 case hI=>
  rintro pre W W' row ⟨st,G',p1,p2⟩ hg hr;exact⟨st,G',p1.own hsz hg hr,p2⟩
 case hAx=>
  rintro x a' _ W W' row ⟨Bx,G0,s0,q2,q3,q4,q5,q6⟩ hg hr;have hk:=kb_grown hg;refine⟨Bx,G0,s0,hk.heap q2 (fun hm=>?_),q3.beside hk (fun b hb=>?_),q4,q5,q6⟩
  ·obtain⟨_,o,ho,hc⟩:=hr Bx (by simpa using hm);rw[q2]at ho;cases ho;cases hc
  ·obtain⟨_,o,ho,hc⟩:=hr b (by simpa using hb);exact q3.notfoot ho hc
 case assign=>
  rintro l pre x W K ⟨st,G',p1,p2⟩ hK;have kA:Kb [] W (W.alloc (.cells #[.int .u64 (x.1:Int)] TN)):=(Kb.refl [] W).alloc _;obtain⟨z1,z2,z3⟩:=p1.fresh kA;dsimp only[encN,Array.zip,Array.foldl];gi_wp2
  exact hK _ _ (z2 _) z3 ⟨st,G',z1,p2⟩ ⟨W.heap.size,G',_,heap_new _ _,z1.gm,p1.ch.e1,p1.newer (Nat.le_refl _),rfl⟩
 case stop=>
  rintro D cc pre X _ _ hF _;exact hF.elim
 case done=>
  rintro D xs W hD hxs ⟨st,G',p1,pf,pw,pu⟩ hK;have hxv:valsM xs=s.susp:=hxs;rw[hxv]at pf;have est:st=s':=by
   have h9:s.lookForCycles k=some st:=pf;rw[he]at h9;injection h9 with h9;exact h9.symm
  have p9:=p1.turned hK rfl (by omega) (.deferred none);have HF:=hide (And.intro p9.gm p9.ch);rw[est]at HF;clear p1 p9 pf pw pu;gi_wp2
  refine⟨by simp,.inl ⟨_,_,rfl,run_takeDeferred hK,?_⟩⟩;exact⟨_,results_none rfl _ _ _,rfl,_,HF.out.1,HF.out.2⟩
 case body=>
  rintro l pre ⟨x,hxT⟩ a' W hl ⟨r,hr⟩ ⟨st,G',p1,pf,pw,pu⟩ ⟨Bx,G0,s0,q2,q3,q4,q5,rfl⟩ hlen;have hx:=hw.sus x hxT;have hBx:Bx ∉ G'.foot:=by rw[p1.gm.foot_eq q3 (p1.ch.e1.trans q4.symm)];exact q5
  have P1:=p1.addBox q2 hBx;have kd:Kb [] W W.drew:=(Kb.refl [] W).drew;obtain⟨P2,P2a,P2b⟩:=P1.fresh kd;have HRm:=gsremove_any x W.drew G' P2.gm (by omega);rw[P2.ch.e1]at HRm;have cg:=P1.cell (b:=w.heap.size) (v:=.pointer (some ⟨G.bg,0,none⟩)) (T:=101) (by rw[HBo.out];simp);have cB:=P1.cell (b:=Bx) (v:=.int .u64 (x:Int)) (T:=TN) (by simp);obtain⟨lr,hlr,hls⟩:=lookStep_some (k:=k) (a:=x) hk pw;have pw1:WF n ({ st with susp:=delS x st.susp }:St):=pw.susp (fun y hy=>pw.sus y (by have h9:=mem_mkS.1 hy;simp at h9;exact h9.2.2));have HE:=hide (And.intro pf (And.intro hls (And.intro pw1 pu)));have hu1:({ st with susp:=delS x st.susp }:St).un=st.un:=rfl;have hplen:pre.length<s.susp.length:=hlen;have hpu:st.un≤s.un+40*40:=by
   have:pre.length*40≤40*40:=Nat.mul_le_mul_right 40 (by omega);omega
  generalize ({ st with susp:=delS x st.susp }:St)=st1 at *;have HP2:=hide (And.intro P2 (And.intro P2a P2b));clear p1 P1 P2 P2a P2b q2 q3 q4 q5 hBx kd pf hls pw1 pu;gi_wp2
  refine wpIn_nrmG (K:=fun a X=>(∃G2,GM X B c n G2 st1∧GCh W.drew X G' G2)∧∃y10 y11 y12 y13 y14,a={ tmps:=#[.pointer (some ⟨G.bg,0,none⟩),.pointer (some ⟨w.heap.size,0,none⟩),.pointer (some ⟨Bx,0,none⟩),undef,undef,.pointer (some ⟨G.bg,0,none⟩),.pointer (some ⟨G.bg,0,none⟩),.pointer (some ⟨G.bg,8,none⟩),.func (.func 127) #[] #[.pointer (some ⟨bw,0,none⟩)],.int .u64 (x:Int),y10,y11,y12,y13,y14,undef,undef,undef,undef,undef,undef,undef,undef,undef,undef],defers:=[] }) ?_ ?_
  ·gi_region_with (refine⟨trivial,(CallsIn.inRound l (callsIn_wide.2 HRm)).mono ?_⟩;clear HRm;rintro e X ⟨rfl,G2,hG2,hC2⟩)
   all_goals exact⟨⟨G2,hG2,hC2⟩,_,_,_,_,_,rfl⟩
  rintro a X ⟨⟨G2,hG2,hC2⟩,y10,y11,y12,y13,y14,rfl⟩;obtain⟨Q1,Q1a,Q1b⟩:=HP2.out.1.call hG2 hC2;have hkf:=fun D=>(HP2.out.2.1 D).trans (Q1a D)
  have hkp:=HP2.out.2.2.trans Q1b;have cg1:=Q1.cell (b:=w.heap.size) (v:=.pointer (some ⟨G.bg,0,none⟩)) (T:=101) (by rw[HBo.out];simp);have cB1:=Q1.cell (b:=Bx) (v:=.int .u64 (x:Int)) (T:=TN) (by simp);have hTX:=TT.out Q1.ch;have hXB:=Q1.gm.hB;have HAr:=around_any 118 #[.pointer (some ⟨G2.bg,0,none⟩)] #[] n st1.heirsOf (hrI_nx (B:=B) (c:=c) (n:=n) (s:=st1) G2) (hrI_ok G2 hTl HE.out.2.2.1.rep) (enters_of Tryz.func118 (by kernel_rfl) rfl) (fun a b _ hb=>HE.out.2.2.1.heirsLt hb) (by omega) k x lr X G2.foot ⟨G2,hG2,rfl,rfl,rfl,rfl⟩ hTX (by omega) (fun hm=>by have:=(hG2.cells hm).1;omega) (Nat.zero_le _) hx hlr;rw[Q1.ch.e1]at HAr;have HQ1:=hide (And.intro Q1 (And.intro hkf hkp));have hxw:=Q1.ch.kb.size;clear Q1 Q1a Q1b hkf hkp HP2 hG2 hC2 hTX;gi_wp2
  refine⟨trivial,?_⟩;refine(CallsIn.inRound l (callsIn_wide.2 HAr)).mono ?_
  clear HAr;rintro e X1 ⟨v,F3,rfl,hv,hi,hk3,hf3,hg3⟩;obtain⟨uo,ul,uc,rfl⟩:=hv.form;obtain⟨G3,hG3,hC3,eF3⟩:=hi.ch hk3 hf3;obtain⟨Q2,Q2a,Q2b⟩:=HQ1.out.1.call hG3 hC3;obtain⟨X2,hX2⟩:∃X2,X2=X1.alloc (.cells #[.slice uo ul uc] TSet):=⟨_,rfl⟩;have kA:Kb [] X1 X2:=by rw[hX2];exact(Kb.refl [] X1).alloc _
  have hA2:X2.heap[X1.heap.size]?=some (.cells #[.slice uo ul uc] TSet (0,0)):=by rw[hX2];exact heap_new _ _
  obtain⟨Q3,Q3a,Q3b⟩:=Q2.fresh kA;have HAl:=all_any X.heap.size X1.heap.size 0 #[.slice uo ul uc] TSet (.slice uo ul uc) lr X2 hA2 rfl (hv.kb kA (by simp));rw[hX2]at HAl;have HQ3:=hide (And.intro Q3 (And.intro (fun D=>((HQ1.out.2.1 D).trans (Q2a D)).trans (Q3a D)) ((HQ1.out.2.2.trans Q2b).trans Q3b)));clear Q2 Q2a Q2b Q3 Q3a Q3b HQ1 hi hk3 hf3 hg3 hG3 hC3 eF3 kA hA2;gi_wp2
  refine⟨trivial,?_⟩;refine(CallsIn.inRound l (callsIn_wide.2 HAl)).mono ?_
  clear HAl;rintro e X3 ⟨bwb,vb,rfl,hbwb,hbwbc,hvb,k3⟩;rw[← hX2]at hbwb hvb k3;obtain⟨Q4,Q4a,Q4b⟩:=HQ3.out.1.fresh k3;have hkf:KeepsFrom W1.heap.size W X3:=(HQ3.out.2.1 _).trans (Q4a _);have hkp:KpB L W X3:=HQ3.out.2.2.trans Q4b;have hr3:X3.heap[l]?=some (.loop r):=hkf.same l _ hl hr rfl;obtain⟨L2,hL2⟩:∃L2,L2=0::(va.ownBlock.toList++vb.ownBlock.toList):=⟨_,rfl⟩;have hLL:∀b∈L,b∈L2:=by
   intro b hb;rw[HLo.out]at hb;rw[hL2];rcases List.mem_cons.1 hb with rfl|hb
   ·exact List.mem_cons_self
   ·exact List.mem_cons_of_mem _ (List.mem_append.2 (.inl hb))
  have hLp2:∀b∈L2,b ∉ G3.foot∧b<X3.heap.size:=by
   intro b hb;by_cases hbL:b∈L
   ·exact Q4.lb b hbL
   ·have hbv:vb.ownBlock=some b:=by
     rw[hL2]at hb;rw[HLo.out]at hbL;rcases List.mem_cons.1 hb with rfl|hb
     ·exact absurd List.mem_cons_self hbL
     ·rcases List.mem_append.1 hb with hb|hb
      ·exact absurd (List.mem_cons_of_mem _ hb) hbL
      ·simpa using hb
    exact⟨HQ3.out.1.newer (hvb.lt hbv).1,(hvb.lt hbv).2⟩
  have hLlt2:∀b∈L2,b<X3.heap.size:=fun b hb=>(hLp2 b hb).2
  have hstI:=all_stops 27 bwb X2.heap.size vb lr L2 X3 hbwbc hvb (TT.out Q4.ch) (fun g hg=>by rw[hL2];simp[hg]) (by rw[hL2];simp);obtain⟨bxs2,hbxs2⟩:∃bxs2,bxs2=(Bx,#[.int .u64 (x:Int)],TN)::bxs:=⟨_,rfl⟩;have A8:LI w B c n G L2 bxs2 [] X3 st1 G3:=by
   rw[hbxs2];exact⟨Q4.gm,Q4.ch,Q4.bx,Q4.vt,hLp2⟩
  have HB2:=hide hbxs2;have hlrn:∀y∈lr,y<n:=around_bd (P:=fun y=>y<n) hlr hx (fun a b hb=>HE.out.2.2.1.heirsLt hb);have hlrl:lr.length≤40:=by have:=hvb.len hlrn;omega
  have hWX:W.heap.size≤X3.heap.size:=hkf.size;have hw3:=Q4.ch.kb.size;have HA8:=hide (And.intro A8 (And.intro hkf hkp));clear Q4 Q4a Q4b A8 hkf hkp HQ3 hbwbc hvb k3 hLp2 hX2 hL2 hbxs2;gi_wp2
  refine wpIn_rangeFunc_ownN (α:=Mem lr) (l₀:=l) (r₀:=r) rfl hr3 (by omega) (gf:=127) (lb:=#[.pointer (some ⟨bwb,0,none⟩)]) rfl trivial (enters_of Tryz.func127 (by kernel_rfl) rfl) (hstI.inRound l) (fun h1 h2=>h1.trans h2) (kpB_b hLlt2) (Below.refl _ _) (fun _=>rfl)
   (fun pre2 Y=>LkN w B c n G st1 x L L2 bxs2 (valsM pre2) W1.heap.size W Y)
   (fun _ _ _=>False) ?hI2 (fun _ _ _ _ _ hs _ _=>hs) ⟨G3,HA8.out.1,HA8.out.2.1,HA8.out.2.2⟩
   (fun y a'' _=>a''={ tmps:=#[.pointer (some ⟨G.bg,0,none⟩),.pointer (some ⟨w.heap.size,0,none⟩),.pointer (some ⟨Bx,0,none⟩),.pointer (some ⟨X1.heap.size,0,none⟩),.int .u64 (y.1:Int),.pointer (some ⟨G.bg,0,none⟩),.pointer (some ⟨G.bg,0,none⟩),.pointer (some ⟨G.bg,8,none⟩),.func (.func 127) #[] #[.pointer (some ⟨bw,0,none⟩)],.int .u64 (x:Int),y10,y11,y12,y13,y14,.int .u64 (x:Int),.pointer (some ⟨G.bg,0,none⟩),.func (.func 118) #[.pointer (some ⟨G.bg,0,none⟩)] #[],.agg #[.slice uo ul uc],.func (.func 127) #[] #[.pointer (some ⟨bwb,0,none⟩)],.int .u64 (y.1:Int),undef,undef,undef,undef],defers:=[] }) (fun _ _ _ _ _ _ hs _ _=>hs) ?assign2 ?body2 ?done2 ?stop2
  case hI2=>
   rintro pre2 Y Y' row ⟨G4,c1,c2,c3⟩ hg hr2;refine⟨G4,c1.own hw3 hg hr2,ownFrom_keepsFrom (w₀:=W) (B':=X3.heap.size) hWX pre2 Y Y' row c2 hg hr2,fun b hb=>?_⟩;rw[← c3 b hb];refine(kb_grown hg).block b (c1.lb b (hLL b hb)).2 (fun hm=>?_);have h8:=(hr2 b (by simpa using hm)).1;have h9:=hLlt2 b (hLL b hb);omega
  case assign2=>
   rintro l2 pre2 y Y K hi hK;dsimp only[encN,Array.zip,Array.foldl];gi_wp2
   exact hK _ _ (KeepsFrom.refl _ _) (KpB.refl _ _) hi rfl
  case stop2=>
   rintro cc pre2 Y _ hF;exact hF.elim
  case body2=>
   rintro l2 pre2 ⟨y,hyT⟩ a'' Y _ _ ⟨G4,c1,c2,c3⟩ rfl hlen2;have hy:=hlrn y hyT;obtain⟨wf2,hun2⟩:=WF.msteps hx (valsM pre2) (false,st1) HE.out.2.2.1 (by intro b hb;obtain⟨u,_,rfl⟩:=List.mem_map.1 hb;exact hlrn u.1 u.2);have hvl:(valsM pre2).length=pre2.length:=by unfold valsM;rw[List.length_map]
   have hp2:pre2.length<lr.length:=hlen2;have e8:(valsM (pre2++[(⟨y,hyT⟩:Mem lr)])).foldl (mstep x) (false,st1)=mstep x ((valsM pre2).foldl (mstep x) (false,st1)) y:=by unfold valsM;rw[List.map_append,List.foldl_append];rfl
   have HE8:=hide e8;have hun3:((valsM pre2).foldl (mstep x) (false,st1)).2.un+1<4611686018427387904:=by
    have h9:(false,st1).2.un=st1.un:=rfl;rw[h9]at hun2;omega
   clear e8 hun2;generalize (valsM pre2).foldl (mstep x) (false,st1)=z0 at *;have cg2:=c1.cell (b:=w.heap.size) (v:=.pointer (some ⟨G.bg,0,none⟩)) (T:=101) (by rw[HB2.out,HBo.out];simp);have cB2:=c1.cell (b:=Bx) (v:=.int .u64 (x:Int)) (T:=TN) (by rw[HB2.out];simp);have HM:=merge_ok B c n z0.2 x y Y G4 c1.gm wf2 hx hy hun3;rw[c1.ch.e1]at HM;have HC:=hide (And.intro c1 (And.intro c2 c3));clear c1 c2 c3;gi_wp2
   refine⟨trivial,?_⟩;refine(CallsIn.inRound l2 (CallsIn.inRound l (callsIn_wide.2 HM))).mono ?_
   clear HM;rintro e Y1 ⟨rfl,G5,hG5,hC5⟩;obtain⟨d1,d2,d3⟩:=HC.out.1.call hG5 hC5;have HD:=hide (And.intro d1 (And.intro d2 d3));clear d1 d2 d3 hG5 hC5;gi_wp2
   refine⟨HD.out.2.1 _,HD.out.2.2,G5,?_,HC.out.2.1.trans (HD.out.2.1 _),HC.out.2.2.trans (fun b hb=>HD.out.2.2 b (hLL b hb))⟩;rw[HE8.out];exact HD.out.1
  case done2=>
   rintro xs Y hxs ⟨G4,c1,c2,c3⟩;have hxv:valsM xs=lr:=hxs;have hpm:valsM (pre++[(⟨x,hxT⟩:Mem s.susp)])=valsM pre++[x]:=by unfold valsM;rw[List.map_append];rfl
   obtain⟨wf2,hun2⟩:=WF.msteps hx lr (false,st1) HE.out.2.2.1 hlrn;rw[hxv]at c1;have emf:(lr.foldl (mstep x) (false,st1)).2=(st1.mergeAll x lr).2:=by rw[mergeAll_flag]
   rw[emf]at c1 wf2 hun2;have c5:LI w B c n G L bxs [] Y (st1.mergeAll x lr).2 G4:=by
    rw[HB2.out]at c1;exact⟨c1.gm,c1.ch,fun q hq=>c1.bx q (List.mem_cons_of_mem _ hq),c1.vt,fun b hb=>c1.lb b (hLL b hb)⟩
   have hfo:St.foldO (St.lookStep k) s (valsM pre++[x])=some (st1.mergeAll x lr).2:=by
    rw[foldO_snoc,HE.out.1];exact HE.out.2.1
   have hfin:(st1.mergeAll x lr).2.un≤s.un+(pre.length+1)*40:=by
    have h9:(false,st1).2.un=st1.un:=rfl;rw[h9]at hun2;have:=HE.out.2.2.2;omega
   have HF:=hide (And.intro c2 (And.intro c3 (And.intro c5 (And.intro hfo (And.intro wf2 hfin)))));have HPM:=hide hpm;clear c1 c2 c3 c5 hfo hfin wf2 hun2 emf hxv hpm;gi_wp2
   refine⟨HF.out.1,HF.out.2.1,_,G4,HF.out.2.2.1,?_,HF.out.2.2.2.2.1,?_⟩
   ·rw[HPM.out];exact HF.out.2.2.2.1
   ·rw[List.length_append];exact HF.out.2.2.2.2.2
end
end Go.Proofs.YtiamlbhkiehilaaGreatDoor
