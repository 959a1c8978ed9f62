import Derived.Test.YtiamlbhkiehilaaGreatDoorKq25
namespace Go.Proofs.YtiamlbhkiehilaaGreatDoor
section
open Go.RowKit Go.Shelf
attribute [local go_sem] Oper.semAt_some
variable {B:Nat} {c:Way} {n:Nat} {s:St}
theorem GM.putNew{w0 w:World}{G0 G:GV}(h:GM w B c n G s)(hc:GCh w0 w G0 G){k:Nat}(hk:k<7*n){v:Value}{t:List Nat}(hv:SetV w B v t)(ho:∀g,v.ownBlock=some g→g ∉ G.foot)(hw0:∀g,v.ownBlock=some g→w0.heap.size≤g):∃G',GM (w.setCell ⟨G.bn,k,none⟩ v) B c n G' (s.put k t)∧GCh w0 (w.setCell ⟨G.bn,k,none⟩ v) G0 G':=by
 have hkl:k<G.nv.length:=by rw[h.lnv];exact hk
 have hK:Kb [G.bn] w (w.setCell ⟨G.bn,k,none⟩ v):=(Kb.refl _ _).setCell (p:=⟨G.bn,k,none⟩) (.inl (by simp)) _;have hset:∀(j:Nat) u,(G.nv.set k v)[j]?=some u→(j=k∧u=v)∨(j≠k∧G.nv[j]?=some u):=by
  intro j u hu;by_cases e:j=k
  ·subst e;rw[List.getElem?_set_self hkl]at hu;injection hu with hu;exact .inl ⟨rfl,hu.symm⟩
  ·rw[List.getElem?_set_ne (Ne.symm e)]at hu;exact .inr ⟨e,hu⟩
 have nb:∀ {v:Value},v.ownBlock≠some G.bn→∀g∈[G.bn],v.ownBlock≠some g:=fun hv g hg=>by rw[List.mem_singleton.1 hg];exact hv
 have ap:∀ {u:Value},(∀b,u.ownBlock=some b→b∈G.foot)→Apart v u:=fun hu g hg e=>ho g hg (hu g e)
 have an:∀ {j:Nat} {u:Value},G.nv[j]?=some u→Apart v u:=fun hu=>ap (fun b e=>mem_foot.2 (.inr (.inr (.inr (.inl ⟨_,List.mem_of_getElem? hu,e⟩)))))
 refine⟨{ G with nv:=G.nv.set k v },⟨Nat.le_trans h.hB hK.size,hK.heap h.hbg (by simp;exact ne_types h.hbg h.hbn (by decide)),?_,hK.heap h.hbl (by simp;exact ne_types h.hbl h.hbn (by decide)),by simpa using h.lnv,by simpa[St.put]using h.lss,?_,h.sS.kb hK (nb (h.sS.ne h.hbn (by decide))),h.sI.kb hK (nb (h.sI.ne h.hbn (by decide))),?_,?_,?_,h.aSI,h.oA.kb hK (nb (h.oA.ne h.hbn (by decide))),h.cls,h.oN.kb hK (nb (h.oN.ne h.hbn (by decide))),h.oC.kb hK (nb (h.oC.ne h.hbn (by decide))),h.aAN,h.aAC,h.aCN,h.lo,h.n40,h.lw,h.un,h.ord⟩,?_⟩
 ·rw[heap_set h.hbn];simp[List.setIfInBounds_toArray]
 ·intro j u t1 hu ht1;rcases hset j u hu with⟨rfl,rfl⟩|⟨hj,hu⟩
  ·have e:(s.put j t).ss[j]?=some t:=by simp[St.put,h.lss,hk]
   rw[e]at ht1;injection ht1 with ht1;subst ht1;exact hv.kb hK (nb (hv.ne h.hbn (by decide)))
  ·have e:(s.put k t).ss[j]?=s.ss[j]?:=by simp[St.put,List.getElem?_set_ne (Ne.symm hj)]
   rw[e]at ht1;have hu':=h.sN j u t1 hu ht1;exact hu'.kb hK (nb (hu'.ne h.hbn (by decide)))
 ·intro i j u u' hij hu hu';rcases hset i u hu with⟨e1,e2⟩|⟨hi,hu⟩
  ·rcases hset j u' hu' with⟨e3,e4⟩|⟨hj,hu'⟩
   ·omega
   ·rw[e2];exact an hu'
  ·rcases hset j u' hu' with⟨e1,e2⟩|⟨hj,hu'⟩
   ·rw[e2];exact(an hu).symm
   ·exact h.aNN i j u u' hij hu hu'
 ·intro j u hu;rcases hset j u hu with⟨rfl,rfl⟩|⟨hj,hu⟩
  ·exact ap (fun b e=>mem_foot.2 (.inr (.inr (.inr (.inr (.inl e))))))
  ·exact h.aNS j u hu
 ·intro j u hu;rcases hset j u hu with⟨rfl,rfl⟩|⟨hj,hu⟩
  ·exact ap (fun b e=>mem_foot.2 (.inr (.inr (.inr (.inr (.inr (.inl e)))))))
  ·exact h.aNI j u hu
 ·have hfb:G.bn∈G.foot:=mem_foot.2 (.inr (.inl rfl));refine⟨⟨hK.os.trans hc.kb.os,hK.tape.trans hc.kb.tape,hK.output.trans hc.kb.output,Nat.le_trans hc.kb.size hK.size,fun j hj hl=>?_⟩,fun b hb=>?_,hc.e1,hc.e2,hc.e3⟩
  ·refine(hK.block j (Nat.lt_of_lt_of_le hj hc.kb.size) (fun hm=>?_)).trans (hc.kb.block j hj hl);rw[List.mem_singleton.1 hm]at hl hj;rcases hc.ft _ hfb with h9|h9
   ·exact hl h9
   ·omega
  ·have old:b∈G.foot→b∈G0.foot∨w0.heap.size≤b:=hc.ft b;rcases mem_foot.1 hb with e|e|e|⟨u,hu,e⟩|e
   ·exact old (mem_foot.2 (.inl e))
   ·exact old (mem_foot.2 (.inr (.inl e)))
   ·exact old (mem_foot.2 (.inr (.inr (.inl e))))
   ·obtain⟨j,hj⟩:=List.mem_iff_getElem?.1 hu;rcases hset j u hj with⟨_,rfl⟩|⟨_,hj⟩
    ·exact .inr (hw0 b e)
    ·exact old (mem_foot.2 (.inr (.inr (.inr (.inl ⟨u,List.mem_of_getElem? hj,e⟩)))))
   ·exact old (mem_foot.2 (.inr (.inr (.inr (.inr e)))))
theorem WF.standLt(h:WF n s){k x:Nat}(hx:x∈s.standing (s.ss.getD k [])):x<n:=by
 obtain⟨_,y,hy,rfl⟩:=mem_standing.1 hx;exact h.lt (h.bd k y hy)
theorem WF.allLt(h:WF n s){x:Nat}(hx:x∈s.all n):x<n:=by
 obtain⟨_,y,hy,rfl⟩:=mem_standing.1 hx;exact h.lt (List.mem_range.1 hy)
theorem twinsOf_some{k i:Nat}(hk:130≤k)(hw:WF n s):∃t,s.twinsOf k n i=some t∧∀x∈t,x<n:=by
 have hn:=hw.hn;have hb:∀x y,y∈twNx s n i x→y<n+1:=by
  intro x y hy;unfold twNx at hy;split at hy
  ·exact Nat.lt_succ_of_lt (hw.standLt hy)
  ·split at hy
   ·rcases(mem_addS.1 hy).2 with rfl|hy
    ·omega
    ·exact Nat.lt_succ_of_lt (hw.heirsLt hy)
   ·exact Nat.lt_succ_of_lt (hw.heirsLt hy)
 obtain⟨l,hl⟩:=around_ends (next:=twNx s n i) (fun x y hy=>by have:=hb x y hy;omega) hk n;have hl1:=around_bd (P:=fun x=>x<n+1) hl (by omega) hb;refine⟨delS n l,?_,fun x hx=>?_⟩
 ·show(around k n (twNx s n i)).map (delS n)=_;rw[hl];rfl
 ·have h9:=(mem_mkS.1 hx);simp at h9;have:=hl1 x h9.2.2;have:=h9.2.1;omega
def twStep(k n:Nat)(s:St)(i:Nat):Option St:=(s.twinsOf k n i).map fun t=>s.put (7*i+5) t
def FtO(w:World)(B:Nat)(c:Way)(n:Nat)(G:GV)(s:St)(k:Nat)(L:List Nat)(bxs:List (Nat × Array Value × TypeId))(pre:List Nat)(W:World):Prop:=
 ∃st G',LI w B c n G L bxs [] W st G'∧St.foldO (twStep k n) s pre=some st∧WF n st
set_option linter.unusedSimpArgs false in
set_option maxRecDepth 100000 in
set_option maxHeartbeats 4000000 in
theorem twins_ok(hTl:0<B)(k:Nat)(hk:130≤k):TwinsOK B c n k:=by
 intro s s' w G h hw hT hu he;have hn:=h.n40;have TT:Hid (∀ {W:World} {G':GV},GCh w W G G'→TabAt W):=hide (fun hc=>hT.kb hc.kb (fun hm=>by have:=(h.cells hm).1;omega));obtain⟨W0,hW0⟩:∃W0,W0=w.alloc (.cells #[.pointer (some ⟨G.bg,0,none⟩)] 101):=⟨_,rfl⟩;have k0:Kb [] w W0:=by rw[hW0];exact(Kb.refl [] w).alloc _
 have h0:=h.fresh k0;have x0:W0.heap[w.heap.size]?=some (.cells #[.pointer (some ⟨G.bg,0,none⟩)] 101 (0,0)):=by rw[hW0];exact heap_new _ _
 have cx0:W0.cell? ⟨w.heap.size,0,none⟩=some (.pointer (some ⟨G.bg,0,none⟩)):=by rw[cell_at x0];rfl
 have z0:W0.heap.size=w.heap.size+1:=by rw[hW0];simp
 have HAl:=gall_any W0 G h0 hw.rep;refine(callsIn_wide (n:=30)).1 ?_
 refine callsIn_of_wp_marks Tryz.func112 rfl trivial ?_ rfl;simp only[Tryz.ntmps112,List.size_toArray,List.length_cons,List.length_nil,Nat.reduceAdd,Nat.reduceSub,Array.replicate_succ,Array.replicate_zero,List.push_toArray,List.append_toArray,List.nil_append,List.cons_append];rw[hW0]at HAl cx0;gi_wp2
 refine⟨trivial,?_⟩;refine(callsIn_wide.2 HAl).mono ?_
 clear HAl;rintro e V1 ⟨G1,v,rfl,hG1,hC1,hN1⟩;rw[← hW0]at hC1 hN1;obtain⟨uo,ul,uc,rfl⟩:=hN1.set.form;have L1:=(((LI.start h).fresh k0).1.addBox x0 (fun hm=>by have:=h.footlt _ hm;omega));obtain⟨V2,hV2⟩:∃V2,V2=V1.alloc (.cells #[.slice uo ul uc] TSet):=⟨_,rfl⟩;have kV:Kb [] V1 V2:=by rw[hV2];exact(Kb.refl [] V1).alloc _
 have aV:V2.heap[V1.heap.size]?=some (.cells #[.slice uo ul uc] TSet (0,0)):=by rw[hV2];exact heap_new _ _
 have L2:=((L1.call hG1 hC1).1.fresh kV).1;have hz1:=hC1.kb.size;have HA:=all_any W0.heap.size V1.heap.size 0 #[.slice uo ul uc] TSet (.slice uo ul uc) (s.all n) V2 aV rfl (hN1.set.kb kV (by simp));rw[hV2]at HA;have HL2:=hide L2;clear L1 L2 hG1 hC1 hN1 kV aV h0 x0;gi_wp2
 refine⟨trivial,?_⟩;refine(callsIn_wide.2 HA).mono ?_
 clear HA;rintro e W1 ⟨bw,va,rfl,hbw,hbwc,hva,k1⟩;rw[← hV2]at hva k1 hbw;have L1':=(HL2.out.fresh k1).1;obtain⟨L,hL⟩:∃L,L=0::va.ownBlock.toList:=⟨_,rfl⟩;have hLp:∀b∈L,b ∉ G1.foot∧b<W1.heap.size:=by
  intro b hb;rw[hL]at hb;rcases List.mem_cons.1 hb with rfl|hb
  ·exact⟨fun hm=>by have:=(L1'.gm.cells hm).1;omega,by have:=L1'.gm.hB;omega⟩
  ·simp at hb;exact⟨HL2.out.newer (hva.lt hb).1,(hva.lt hb).2⟩
 have hLlt:∀b∈L,b<W1.heap.size:=fun b hb=>(hLp b hb).2
 have hst:=all_stops 29 bw V2.heap.size va (s.all n) L W1 hbwc hva (TT.out L1'.ch) (fun g hg=>by rw[hL];simp[hg]) (by rw[hL];simp);have hsz:=L1'.ch.kb.size;have LL:LI w B c n G L [(w.heap.size,#[.pointer (some ⟨G.bg,0,none⟩)],101)] [] W1 s G1:=⟨L1'.gm,L1'.ch,L1'.bx,L1'.vt,hLp⟩;have HLL:=hide LL;have HLo:=hide hL;clear hva hbwc k1 hbw hW0 cx0 k0 L1' hL hLp LL HL2 hV2;gi_wp2
 obtain⟨bxs,hbxs⟩:∃bxs:List (Nat × Array Value × TypeId),bxs=[(w.heap.size,#[.pointer (some ⟨G.bg,0,none⟩)],101)]:=⟨_,rfl⟩;rw[← hbxs]at HLL;have HBo:=hide hbxs;clear hbxs;refine wpIn_rangeFunc_ownH (α:=Mem (s.all n)) (hro:=rfl) (h1:=by omega) (gf:=127) (lb:=#[.pointer (some ⟨bw,0,none⟩)]) rfl trivial (enters_of Tryz.func127 (by kernel_rfl) rfl) hst (fun h1 h2=>h1.trans h2) (kpB_b hLlt) (Below.refl _ _) (fun _=>rfl)
  (fun pre W=>FtO w B c n G s k L bxs (valsM pre) W)
  (fun _ _ _=>False) ?hI (fun _ _ _ _ _ hs _ _=>hs) ⟨s,G1,HLL.out,rfl,hw⟩
  (fun x a' _=>a'={ tmps:=#[.pointer (some ⟨G.bg,0,none⟩),.pointer (some ⟨w.heap.size,0,none⟩),.pointer (some ⟨V1.heap.size,0,none⟩),.int .u64 (x.1:Int),.pointer (some ⟨G.bg,0,none⟩),.agg #[.slice uo ul uc],.func (.func 127) #[] #[.pointer (some ⟨bw,0,none⟩)],.int .u64 (x.1:Int),undef,undef,undef,undef,undef,undef,undef,undef,undef,undef],defers:=[] }) ?hAx ?assign ?body ?done ?stop
 case hI=>
  rintro pre W W' row ⟨st,G',p1,p2⟩ hg hr;exact⟨st,G',p1.own hsz hg hr,p2⟩
 case hAx=>
  rintro x a' _ W W' row rfl hg hr;rfl
 case assign=>
  rintro l pre x W K hi hK;dsimp only[encN,Array.zip,Array.foldl];gi_wp2
  exact hK _ _ (KeepsFrom.refl _ _) (KpB.refl _ _) hi rfl
 case stop=>
  rintro D cc pre X _ _ hF _;exact hF.elim
 case done=>
  rintro D xs W hD hxs ⟨st,G',p1,pf,pw⟩ hK;have hxv:valsM xs=s.all n:=hxs;rw[hxv]at pf;have est:st=s':=by
   have h9:s.findTwins k n=some st:=pf;rw[he]at h9;injection h9 with h9;exact h9.symm
  have p9:=p1.turned hK rfl (by omega) (.deferred none);have HF:=hide (And.intro p9.gm p9.ch);rw[est]at HF;clear p1 p9 pf pw;gi_wp2
  refine⟨by simp,.inl ⟨_,_,rfl,run_takeDeferred hK,?_⟩⟩;exact⟨_,results_none rfl _ _ _,rfl,_,HF.out.1,HF.out.2⟩
 case body=>
  rintro l pre ⟨x,hxT⟩ a' W hl ⟨r,hr⟩ ⟨st,G',p1,pf,pw⟩ rfl hlen;have hx:=hw.allLt hxT;have kd:Kb [] W W.drew:=(Kb.refl [] W).drew;obtain⟨P2,P2a,P2b⟩:=p1.fresh kd;obtain⟨t,ht,htl⟩:=twinsOf_some (k:=k) (i:=x) hk pw;have HTw:=gtwins_any k x t W.drew G' P2.gm pw (TT.out P2.ch) hTl hx ht;rw[P2.ch.e1]at HTw;have cg:=p1.cell (b:=w.heap.size) (v:=.pointer (some ⟨G.bg,0,none⟩)) (T:=101) (by rw[HBo.out];simp);have cn:=p1.gm.reads.2.2.2.2.2.1;rw[p1.ch.e1,p1.ch.e2]at cn;have hin:(x:Int)<(n:Int):=by omega
  have hpm:valsM (pre++[(⟨x,hxT⟩:Mem (s.all n))])=valsM pre++[x]:=by unfold valsM;rw[List.map_append];rfl
  have hfo:St.foldO (twStep k n) s (valsM pre++[x])=some (st.put (7*x+5) t):=by
   rw[foldO_snoc,pf];show(st.twinsOf k n x).map _=_;rw[ht];rfl
  have HE:=hide (And.intro hpm (And.intro hfo (pw.put (k:=7*x+5) (t:=t) (by omega) htl)));have HP2:=hide (And.intro P2 (And.intro P2a P2b));have HZ:=hide p1.gm.hB;clear p1 P2 P2a P2b kd pf pw ht hpm hfo htl;gi_wp2
  refine wpIn_nrmG (K:=fun a X=>(∃G2,GM X B c n G2 (st.put (7*x+5) t)∧GCh W.drew X G' G2)∧∃y8 y9 y10 y11 y12 y13 y14 y15 y16 y17,a={ tmps:=#[.pointer (some ⟨G.bg,0,none⟩),.pointer (some ⟨w.heap.size,0,none⟩),.pointer (some ⟨V1.heap.size,0,none⟩),.int .u64 (x:Int),.pointer (some ⟨G.bg,0,none⟩),.agg #[.slice uo ul uc],.func (.func 127) #[] #[.pointer (some ⟨bw,0,none⟩)],.int .u64 (x:Int),y8,y9,y10,y11,y12,y13,y14,y15,y16,y17],defers:=[] }) ?_ ?_
  ·refine wpIn_region_any (by kernel_rfl) ?_
   (try (change wpAnyIn _ _ _ _ _ _ _ _ _ (World.drew _)))
   refine wpAnyIn_round (by kernel_rfl) _ _ _ _ ?_
   refine wpAnyIn_take (i:=4) (v:=?_) rfl rfl (by kernel_rfl) (by kernel_rfl) (by kernel_rfl) (fun _ _ _ h=>h) ⟨Or.inl ⟨by rfl,?_⟩,fun _=>rfl⟩ ?_
   rotate_left
   ·(intro w;go_simp;try (with_reducible rfl))
   try simp only[Act.put,List.setIfInBounds_toArray,List.set_cons_zero,List.set_cons_succ]
   refine wpAnyIn_take (i:=6) (v:=?_) rfl rfl (by kernel_rfl) (by kernel_rfl) (by kernel_rfl) (fun _ _ _ h=>h) ⟨Or.inl ⟨by rfl,?_⟩,fun _=>rfl⟩ ?_
   rotate_left
   ·(intro w;go_simp;try (with_reducible rfl))
   try simp only[Act.put,List.setIfInBounds_toArray,List.set_cons_zero,List.set_cons_succ]
   refine wpAnyIn_ready (rs:=[0,5]) (by kernel_rfl) (by simp) ?_
   refine AllReadyIn.cons rfl (fun K hK=>?_) ?_
   ·go_simp
    refine hK _ _ ?_
    clear hK K;refine wpAnyIn_take (i:=1) (v:=?_) rfl rfl (by kernel_rfl) (by kernel_rfl) (by kernel_rfl) (fun _ _ _ h=>h) ⟨Or.inl ⟨by rfl,?_⟩,fun _=>rfl⟩ ?_
    rotate_left
    ·(intro w;go_simp;try (with_reducible rfl))
    try simp only[Act.put,List.setIfInBounds_toArray,List.set_cons_zero,List.set_cons_succ]
    refine wpAnyIn_take (i:=2) (v:=?_) rfl rfl (by kernel_rfl) (by kernel_rfl) (by kernel_rfl) (fun _ _ _ h=>h) ⟨Or.inl ⟨by rfl,?_⟩,fun _=>rfl⟩ ?_
    rotate_left
    ·(intro w;go_simp;try (with_reducible rfl))
    try simp only[Act.put,List.setIfInBounds_toArray,List.set_cons_zero,List.set_cons_succ]
    refine wpAnyIn_ready (rs:=[3,5]) (by kernel_rfl) (by simp) ?_
    refine AllReadyIn.cons rfl (fun K hK=>?_) ?_
    ·go_simp
     refine hK _ _ ?_
     clear hK K;refine wpAnyIn_ready (rs:=[5]) (by kernel_rfl) (by simp) ?_
     refine AllReadyIn.cons rfl (fun K hK=>?_) ?_
     ·go_simp
      refine hK _ _ ?_
      clear hK K;refine wpAnyIn_ready (rs:=[7]) (by kernel_rfl) (by simp) ?_
      refine AllReadyIn.cons rfl (fun K hK=>?_) ?_
      ·go_simp
       refine⟨trivial,?_⟩;refine(callsIn_wide.2 HTw).mono ?_
       clear HTw;rintro e X ⟨G2,v',rfl,hG2,hC2,hN2⟩;obtain⟨xo,xl,xc,rfl⟩:=hN2.set.form;have Q1:=(HP2.out.1.call hG2 hC2).1;have cg1:=Q1.cell (b:=w.heap.size) (v:=.pointer (some ⟨G.bg,0,none⟩)) (T:=101) (by rw[HBo.out];simp);have cn1:=hG2.reads.2.2.2.2.2.1;rw[Q1.ch.e1,Q1.ch.e2]at cn1;obtain⟨ov,oq,oq',os⟩:=hG2.get (k:=7*x+5) (by omega);have co:X.cell? ⟨G.bn,x*7+5,none⟩=some ov:=by rw[← Q1.ch.e2,cell_at hG2.hbn,show x*7+5=7*x+5 by omega];exact oq'
       have fo:X.frozen? ⟨G.bn,x*7+5,none⟩=false:=by rw[← Q1.ch.e2];exact frozen_at hG2.hbn _
       have HX:=hide (And.intro hG2 (And.intro hC2 (And.intro hN2 Q1.ch.e2)));clear hG2 hC2 hN2 Q1 os oq oq';refine hK _ _ ?_
       clear hK K;refine wpAnyIn_take (i:=8) (v:=?_) rfl rfl (by kernel_rfl) (by kernel_rfl) (by kernel_rfl) (fun _ _ _ h=>h) ⟨Or.inl ⟨by rfl,?_⟩,fun _=>rfl⟩ ?_
       rotate_left
       ·(intro w;go_simp;try (with_reducible rfl))
       try simp only[Act.put,List.setIfInBounds_toArray,List.set_cons_zero,List.set_cons_succ]
       refine wpAnyIn_take (i:=9) (v:=?_) rfl rfl (by kernel_rfl) (by kernel_rfl) (by kernel_rfl) (fun _ _ _ h=>h) ⟨Or.inl ⟨by rfl,?_⟩,fun _=>rfl⟩ ?_
       rotate_left
       ·(intro w;go_simp;try (with_reducible rfl))
       try simp only[Act.put,List.setIfInBounds_toArray,List.set_cons_zero,List.set_cons_succ]
       refine wpAnyIn_ready (rs:=[10]) (by kernel_rfl) (by simp) ?_
       refine AllReadyIn.cons rfl (fun K hK=>?_) ?_
       ·go_simp
        refine hK _ _ ?_
        clear hK K;refine wpAnyIn_done (by kernel_rfl) ?_ _;obtain⟨g1,g2,g3,g4⟩:=HX.out;refine⟨?_,_,_,_,_,_,_,_,_,_,_,rfl⟩;rw[← g4,show x*7+5=7*x+5 by omega];exact g1.putNew g2 (by omega) (g3.set.low HZ.out) g3.out (fun g hg=>(g3.set.lt hg).1)
       exact AllReadyIn.nil
      exact AllReadyIn.nil
     exact AllReadyIn.nil
    refine AllReadyIn.cons rfl (fun K hK=>?_) ?_
    ·go_simp
     refine hK _ _ ?_
     clear hK K;refine wpAnyIn_ready (rs:=[3,7]) (by kernel_rfl) (by simp) ?_
     refine AllReadyIn.cons rfl (fun K hK=>?_) ?_
     ·go_simp
      refine hK _ _ ?_
      clear hK K;refine wpAnyIn_ready (rs:=[7]) (by kernel_rfl) (by simp) ?_
      refine AllReadyIn.cons rfl (fun K hK=>?_) ?_
      ·go_simp
       refine⟨trivial,?_⟩;refine(callsIn_wide.2 HTw).mono ?_
       clear HTw;rintro e X ⟨G2,v',rfl,hG2,hC2,hN2⟩;obtain⟨xo,xl,xc,rfl⟩:=hN2.set.form;have Q1:=(HP2.out.1.call hG2 hC2).1;have cg1:=Q1.cell (b:=w.heap.size) (v:=.pointer (some ⟨G.bg,0,none⟩)) (T:=101) (by rw[HBo.out];simp);have cn1:=hG2.reads.2.2.2.2.2.1;rw[Q1.ch.e1,Q1.ch.e2]at cn1;obtain⟨ov,oq,oq',os⟩:=hG2.get (k:=7*x+5) (by omega);have co:X.cell? ⟨G.bn,x*7+5,none⟩=some ov:=by rw[← Q1.ch.e2,cell_at hG2.hbn,show x*7+5=7*x+5 by omega];exact oq'
       have fo:X.frozen? ⟨G.bn,x*7+5,none⟩=false:=by rw[← Q1.ch.e2];exact frozen_at hG2.hbn _
       have HX:=hide (And.intro hG2 (And.intro hC2 (And.intro hN2 Q1.ch.e2)));clear hG2 hC2 hN2 Q1 os oq oq';refine hK _ _ ?_
       clear hK K;refine wpAnyIn_take (i:=8) (v:=?_) rfl rfl (by kernel_rfl) (by kernel_rfl) (by kernel_rfl) (fun _ _ _ h=>h) ⟨Or.inl ⟨by rfl,?_⟩,fun _=>rfl⟩ ?_
       rotate_left
       ·(intro w;go_simp;try (with_reducible rfl))
       try simp only[Act.put,List.setIfInBounds_toArray,List.set_cons_zero,List.set_cons_succ]
       refine wpAnyIn_take (i:=9) (v:=?_) rfl rfl (by kernel_rfl) (by kernel_rfl) (by kernel_rfl) (fun _ _ _ h=>h) ⟨Or.inl ⟨by rfl,?_⟩,fun _=>rfl⟩ ?_
       rotate_left
       ·(intro w;go_simp;try (with_reducible rfl))
       try simp only[Act.put,List.setIfInBounds_toArray,List.set_cons_zero,List.set_cons_succ]
       refine wpAnyIn_ready (rs:=[10]) (by kernel_rfl) (by simp) ?_
       refine AllReadyIn.cons rfl (fun K hK=>?_) ?_
       ·go_simp
        refine hK _ _ ?_
        clear hK K;refine wpAnyIn_done (by kernel_rfl) ?_ _;obtain⟨g1,g2,g3,g4⟩:=HX.out;refine⟨?_,_,_,_,_,_,_,_,_,_,_,rfl⟩;rw[← g4,show x*7+5=7*x+5 by omega];exact g1.putNew g2 (by omega) (g3.set.low HZ.out) g3.out (fun g hg=>(g3.set.lt hg).1)
       exact AllReadyIn.nil
      exact AllReadyIn.nil
     refine AllReadyIn.cons rfl (fun K hK=>?_) ?_
     ·go_simp
      refine⟨trivial,?_⟩;refine(callsIn_wide.2 HTw).mono ?_
      clear HTw;rintro e X ⟨G2,v',rfl,hG2,hC2,hN2⟩;obtain⟨xo,xl,xc,rfl⟩:=hN2.set.form;have Q1:=(HP2.out.1.call hG2 hC2).1;have cg1:=Q1.cell (b:=w.heap.size) (v:=.pointer (some ⟨G.bg,0,none⟩)) (T:=101) (by rw[HBo.out];simp);have cn1:=hG2.reads.2.2.2.2.2.1;rw[Q1.ch.e1,Q1.ch.e2]at cn1;obtain⟨ov,oq,oq',os⟩:=hG2.get (k:=7*x+5) (by omega);have co:X.cell? ⟨G.bn,x*7+5,none⟩=some ov:=by rw[← Q1.ch.e2,cell_at hG2.hbn,show x*7+5=7*x+5 by omega];exact oq'
      have fo:X.frozen? ⟨G.bn,x*7+5,none⟩=false:=by rw[← Q1.ch.e2];exact frozen_at hG2.hbn _
      have HX:=hide (And.intro hG2 (And.intro hC2 (And.intro hN2 Q1.ch.e2)));clear hG2 hC2 hN2 Q1 os oq oq';refine hK _ _ ?_
      clear hK K;refine wpAnyIn_ready (rs:=[3]) (by kernel_rfl) (by simp) ?_
      refine AllReadyIn.cons rfl (fun K hK=>?_) ?_
      ·go_simp
       refine hK _ _ ?_
       clear hK K;refine wpAnyIn_take (i:=8) (v:=?_) rfl rfl (by kernel_rfl) (by kernel_rfl) (by kernel_rfl) (fun _ _ _ h=>h) ⟨Or.inl ⟨by rfl,?_⟩,fun _=>rfl⟩ ?_
       rotate_left
       ·(intro w;go_simp;try (with_reducible rfl))
       try simp only[Act.put,List.setIfInBounds_toArray,List.set_cons_zero,List.set_cons_succ]
       refine wpAnyIn_take (i:=9) (v:=?_) rfl rfl (by kernel_rfl) (by kernel_rfl) (by kernel_rfl) (fun _ _ _ h=>h) ⟨Or.inl ⟨by rfl,?_⟩,fun _=>rfl⟩ ?_
       rotate_left
       ·(intro w;go_simp;try (with_reducible rfl))
       try simp only[Act.put,List.setIfInBounds_toArray,List.set_cons_zero,List.set_cons_succ]
       refine wpAnyIn_ready (rs:=[10]) (by kernel_rfl) (by simp) ?_
       refine AllReadyIn.cons rfl (fun K hK=>?_) ?_
       ·go_simp
        refine hK _ _ ?_
        clear hK K;refine wpAnyIn_done (by kernel_rfl) ?_ _;obtain⟨g1,g2,g3,g4⟩:=HX.out;refine⟨?_,_,_,_,_,_,_,_,_,_,_,rfl⟩;rw[← g4,show x*7+5=7*x+5 by omega];exact g1.putNew g2 (by omega) (g3.set.low HZ.out) g3.out (fun g hg=>(g3.set.lt hg).1)
       exact AllReadyIn.nil
      exact AllReadyIn.nil
     exact AllReadyIn.nil
    exact AllReadyIn.nil
   refine AllReadyIn.cons rfl (fun K hK=>?_) ?_
   ·go_simp
    refine hK _ _ ?_
    clear hK K;refine wpAnyIn_ready (rs:=[0,7]) (by kernel_rfl) (by simp) ?_
    refine AllReadyIn.cons rfl (fun K hK=>?_) ?_
    ·go_simp
     refine hK _ _ ?_
     clear hK K;refine wpAnyIn_take (i:=1) (v:=?_) rfl rfl (by kernel_rfl) (by kernel_rfl) (by kernel_rfl) (fun _ _ _ h=>h) ⟨Or.inl ⟨by rfl,?_⟩,fun _=>rfl⟩ ?_
     rotate_left
     ·(intro w;go_simp;try (with_reducible rfl))
     try simp only[Act.put,List.setIfInBounds_toArray,List.set_cons_zero,List.set_cons_succ]
     refine wpAnyIn_take (i:=2) (v:=?_) rfl rfl (by kernel_rfl) (by kernel_rfl) (by kernel_rfl) (fun _ _ _ h=>h) ⟨Or.inl ⟨by rfl,?_⟩,fun _=>rfl⟩ ?_
     rotate_left
     ·(intro w;go_simp;try (with_reducible rfl))
     try simp only[Act.put,List.setIfInBounds_toArray,List.set_cons_zero,List.set_cons_succ]
     refine wpAnyIn_ready (rs:=[3,7]) (by kernel_rfl) (by simp) ?_
     refine AllReadyIn.cons rfl (fun K hK=>?_) ?_
     ·go_simp
      refine hK _ _ ?_
      clear hK K;refine wpAnyIn_ready (rs:=[7]) (by kernel_rfl) (by simp) ?_
      refine AllReadyIn.cons rfl (fun K hK=>?_) ?_
      ·go_simp
       refine⟨trivial,?_⟩;refine(callsIn_wide.2 HTw).mono ?_
       clear HTw;rintro e X ⟨G2,v',rfl,hG2,hC2,hN2⟩;obtain⟨xo,xl,xc,rfl⟩:=hN2.set.form;have Q1:=(HP2.out.1.call hG2 hC2).1;have cg1:=Q1.cell (b:=w.heap.size) (v:=.pointer (some ⟨G.bg,0,none⟩)) (T:=101) (by rw[HBo.out];simp);have cn1:=hG2.reads.2.2.2.2.2.1;rw[Q1.ch.e1,Q1.ch.e2]at cn1;obtain⟨ov,oq,oq',os⟩:=hG2.get (k:=7*x+5) (by omega);have co:X.cell? ⟨G.bn,x*7+5,none⟩=some ov:=by rw[← Q1.ch.e2,cell_at hG2.hbn,show x*7+5=7*x+5 by omega];exact oq'
       have fo:X.frozen? ⟨G.bn,x*7+5,none⟩=false:=by rw[← Q1.ch.e2];exact frozen_at hG2.hbn _
       have HX:=hide (And.intro hG2 (And.intro hC2 (And.intro hN2 Q1.ch.e2)));clear hG2 hC2 hN2 Q1 os oq oq';refine hK _ _ ?_
       clear hK K;refine wpAnyIn_take (i:=8) (v:=?_) rfl rfl (by kernel_rfl) (by kernel_rfl) (by kernel_rfl) (fun _ _ _ h=>h) ⟨Or.inl ⟨by rfl,?_⟩,fun _=>rfl⟩ ?_
       rotate_left
       ·(intro w;go_simp;try (with_reducible rfl))
       try simp only[Act.put,List.setIfInBounds_toArray,List.set_cons_zero,List.set_cons_succ]
       refine wpAnyIn_take (i:=9) (v:=?_) rfl rfl (by kernel_rfl) (by kernel_rfl) (by kernel_rfl) (fun _ _ _ h=>h) ⟨Or.inl ⟨by rfl,?_⟩,fun _=>rfl⟩ ?_
       rotate_left
       ·(intro w;go_simp;try (with_reducible rfl))
       try simp only[Act.put,List.setIfInBounds_toArray,List.set_cons_zero,List.set_cons_succ]
       refine wpAnyIn_ready (rs:=[10]) (by kernel_rfl) (by simp) ?_
       refine AllReadyIn.cons rfl (fun K hK=>?_) ?_
       ·go_simp
        refine hK _ _ ?_
        clear hK K;refine wpAnyIn_done (by kernel_rfl) ?_ _;obtain⟨g1,g2,g3,g4⟩:=HX.out;refine⟨?_,_,_,_,_,_,_,_,_,_,_,rfl⟩;rw[← g4,show x*7+5=7*x+5 by omega];exact g1.putNew g2 (by omega) (g3.set.low HZ.out) g3.out (fun g hg=>(g3.set.lt hg).1)
       exact AllReadyIn.nil
      exact AllReadyIn.nil
     refine AllReadyIn.cons rfl (fun K hK=>?_) ?_
     ·go_simp
      refine⟨trivial,?_⟩;refine(callsIn_wide.2 HTw).mono ?_
      clear HTw;rintro e X ⟨G2,v',rfl,hG2,hC2,hN2⟩;obtain⟨xo,xl,xc,rfl⟩:=hN2.set.form;have Q1:=(HP2.out.1.call hG2 hC2).1;have cg1:=Q1.cell (b:=w.heap.size) (v:=.pointer (some ⟨G.bg,0,none⟩)) (T:=101) (by rw[HBo.out];simp);have cn1:=hG2.reads.2.2.2.2.2.1;rw[Q1.ch.e1,Q1.ch.e2]at cn1;obtain⟨ov,oq,oq',os⟩:=hG2.get (k:=7*x+5) (by omega);have co:X.cell? ⟨G.bn,x*7+5,none⟩=some ov:=by rw[← Q1.ch.e2,cell_at hG2.hbn,show x*7+5=7*x+5 by omega];exact oq'
      have fo:X.frozen? ⟨G.bn,x*7+5,none⟩=false:=by rw[← Q1.ch.e2];exact frozen_at hG2.hbn _
      have HX:=hide (And.intro hG2 (And.intro hC2 (And.intro hN2 Q1.ch.e2)));clear hG2 hC2 hN2 Q1 os oq oq';refine hK _ _ ?_
      clear hK K;refine wpAnyIn_ready (rs:=[3]) (by kernel_rfl) (by simp) ?_
      refine AllReadyIn.cons rfl (fun K hK=>?_) ?_
      ·go_simp
       refine hK _ _ ?_
       clear hK K;refine wpAnyIn_take (i:=8) (v:=?_) rfl rfl (by kernel_rfl) (by kernel_rfl) (by kernel_rfl) (fun _ _ _ h=>h) ⟨Or.inl ⟨by rfl,?_⟩,fun _=>rfl⟩ ?_
       rotate_left
       ·(intro w;go_simp;try (with_reducible rfl))
       try simp only[Act.put,List.setIfInBounds_toArray,List.set_cons_zero,List.set_cons_succ]
       refine wpAnyIn_take (i:=9) (v:=?_) rfl rfl (by kernel_rfl) (by kernel_rfl) (by kernel_rfl) (fun _ _ _ h=>h) ⟨Or.inl ⟨by rfl,?_⟩,fun _=>rfl⟩ ?_
       rotate_left
       ·(intro w;go_simp;try (with_reducible rfl))
       try simp only[Act.put,List.setIfInBounds_toArray,List.set_cons_zero,List.set_cons_succ]
       refine wpAnyIn_ready (rs:=[10]) (by kernel_rfl) (by simp) ?_
       refine AllReadyIn.cons rfl (fun K hK=>?_) ?_
       ·go_simp
        refine hK _ _ ?_
        clear hK K;refine wpAnyIn_done (by kernel_rfl) ?_ _;obtain⟨g1,g2,g3,g4⟩:=HX.out;refine⟨?_,_,_,_,_,_,_,_,_,_,_,rfl⟩;rw[← g4,show x*7+5=7*x+5 by omega];exact g1.putNew g2 (by omega) (g3.set.low HZ.out) g3.out (fun g hg=>(g3.set.lt hg).1)
       exact AllReadyIn.nil
      exact AllReadyIn.nil
     exact AllReadyIn.nil
    refine AllReadyIn.cons rfl (fun K hK=>?_) ?_
    ·go_simp
     refine⟨trivial,?_⟩;refine(callsIn_wide.2 HTw).mono ?_
     clear HTw;rintro e X ⟨G2,v',rfl,hG2,hC2,hN2⟩;obtain⟨xo,xl,xc,rfl⟩:=hN2.set.form;have Q1:=(HP2.out.1.call hG2 hC2).1;have cg1:=Q1.cell (b:=w.heap.size) (v:=.pointer (some ⟨G.bg,0,none⟩)) (T:=101) (by rw[HBo.out];simp);have cn1:=hG2.reads.2.2.2.2.2.1;rw[Q1.ch.e1,Q1.ch.e2]at cn1;obtain⟨ov,oq,oq',os⟩:=hG2.get (k:=7*x+5) (by omega);have co:X.cell? ⟨G.bn,x*7+5,none⟩=some ov:=by rw[← Q1.ch.e2,cell_at hG2.hbn,show x*7+5=7*x+5 by omega];exact oq'
     have fo:X.frozen? ⟨G.bn,x*7+5,none⟩=false:=by rw[← Q1.ch.e2];exact frozen_at hG2.hbn _
     have HX:=hide (And.intro hG2 (And.intro hC2 (And.intro hN2 Q1.ch.e2)));clear hG2 hC2 hN2 Q1 os oq oq';refine hK _ _ ?_
     clear hK K;refine wpAnyIn_ready (rs:=[0]) (by kernel_rfl) (by simp) ?_
     refine AllReadyIn.cons rfl (fun K hK=>?_) ?_
     ·go_simp
      refine hK _ _ ?_
      clear hK K;refine wpAnyIn_take (i:=1) (v:=?_) rfl rfl (by kernel_rfl) (by kernel_rfl) (by kernel_rfl) (fun _ _ _ h=>h) ⟨Or.inl ⟨by rfl,?_⟩,fun _=>rfl⟩ ?_
      rotate_left
      ·(intro w;go_simp;try (with_reducible rfl))
      try simp only[Act.put,List.setIfInBounds_toArray,List.set_cons_zero,List.set_cons_succ]
      refine wpAnyIn_take (i:=2) (v:=?_) rfl rfl (by kernel_rfl) (by kernel_rfl) (by kernel_rfl) (fun _ _ _ h=>h) ⟨Or.inl ⟨by rfl,?_⟩,fun _=>rfl⟩ ?_
      rotate_left
      ·(intro w;go_simp;try (with_reducible rfl))
      try simp only[Act.put,List.setIfInBounds_toArray,List.set_cons_zero,List.set_cons_succ]
      refine wpAnyIn_ready (rs:=[3]) (by kernel_rfl) (by simp) ?_
      refine AllReadyIn.cons rfl (fun K hK=>?_) ?_
      ·go_simp
       refine hK _ _ ?_
       clear hK K;refine wpAnyIn_take (i:=8) (v:=?_) rfl rfl (by kernel_rfl) (by kernel_rfl) (by kernel_rfl) (fun _ _ _ h=>h) ⟨Or.inl ⟨by rfl,?_⟩,fun _=>rfl⟩ ?_
       rotate_left
       ·(intro w;go_simp;try (with_reducible rfl))
       try simp only[Act.put,List.setIfInBounds_toArray,List.set_cons_zero,List.set_cons_succ]
       refine wpAnyIn_take (i:=9) (v:=?_) rfl rfl (by kernel_rfl) (by kernel_rfl) (by kernel_rfl) (fun _ _ _ h=>h) ⟨Or.inl ⟨by rfl,?_⟩,fun _=>rfl⟩ ?_
       rotate_left
       ·(intro w;go_simp;try (with_reducible rfl))
       try simp only[Act.put,List.setIfInBounds_toArray,List.set_cons_zero,List.set_cons_succ]
       refine wpAnyIn_ready (rs:=[10]) (by kernel_rfl) (by simp) ?_
       refine AllReadyIn.cons rfl (fun K hK=>?_) ?_
       ·go_simp
        refine hK _ _ ?_
        clear hK K;refine wpAnyIn_done (by kernel_rfl) ?_ _;obtain⟨g1,g2,g3,g4⟩:=HX.out;refine⟨?_,_,_,_,_,_,_,_,_,_,_,rfl⟩;rw[← g4,show x*7+5=7*x+5 by omega];exact g1.putNew g2 (by omega) (g3.set.low HZ.out) g3.out (fun g hg=>(g3.set.lt hg).1)
       exact AllReadyIn.nil
      exact AllReadyIn.nil
     exact AllReadyIn.nil
    exact AllReadyIn.nil
   exact AllReadyIn.nil
  rintro a X ⟨⟨G2,hG2,hC2⟩,y8,y9,y10,y11,y12,y13,y14,y15,y16,y17,rfl⟩;obtain⟨Q1,Q1a,Q1b⟩:=HP2.out.1.call hG2 hC2;have HF:=hide (And.intro (fun D=>(HP2.out.2.1 D).trans (Q1a D)) (And.intro (HP2.out.2.2.trans Q1b) Q1));clear hG2 hC2 Q1 Q1a Q1b HP2;gi_wp2
  refine⟨HF.out.1 _,HF.out.2.1,_,G2,HF.out.2.2,?_,HE.out.2.2⟩;rw[HE.out.1];exact HE.out.2.1
end
end Go.Proofs.YtiamlbhkiehilaaGreatDoor
