import Derived.Test.YtiamlbhkiehilaaGreatDoorKq07
import Derived.Deep.RegionWith
namespace Go.Proofs.YtiamlbhkiehilaaGreatDoor
section
open Go.RowKit Go.Shelf
attribute [local go_sem] Oper.semAt_some
variable {B:Nat} {c:Way} {n:Nat} {s:St}
set_option maxRecDepth 100000 in
set_option maxHeartbeats 4000000 in
theorem gwork_any(hSu:c.cycles=true→SusOK B c n)(m:Nat)(hM:s.tw m≠[]→MergeOK B c n)(w:World)(G:GV)(h:GM w B c n G s)(hw:WF n s)(hT:TabAt w)(hTl:0<B)(hm:m<n)(hu:s.un+100000<4611686018427387904) :
  Calls Tryz.prog 91 #[.pointer (some ⟨G.bg,0,none⟩),.int .u64 m] w fun e w'=>e=.returned (.tuple #[])∧∃G',GM w' B c n G' (s.work c m)∧GCh w w' G G':=by
 have hn:=h.n40;obtain⟨W0,hW0⟩:∃W0,W0=(w.alloc (.cells #[.pointer (some ⟨G.bg,0,none⟩)] 101)).alloc (.cells #[.int .u64 (m:Int)] 144):=⟨_,rfl⟩;have k0:Kb [] w W0:=by rw[hW0];exact((Kb.refl [] w).alloc _).alloc _
 have z0:W0.heap.size=w.heap.size+2:=by rw[hW0];simp
 have x0:W0.heap[w.heap.size]?=some (.cells #[.pointer (some ⟨G.bg,0,none⟩)] 101 (0,0)):=by rw[hW0];exact heap_old (heap_new _ _) _
 have y0:W0.heap[w.heap.size+1]?=some (.cells #[.int .u64 (m:Int)] 144 (0,0)):=by
  rw[hW0];have:=heap_new (w.alloc (.cells #[.pointer (some ⟨G.bg,0,none⟩)] 101)) (.cells #[.int .u64 (m:Int)] 144);rw[World.size_alloc]at this;exact this
 have h0:=h.fresh k0;have r5':=h0.reads.2.2.2.2.2.1;have cx0:W0.cell? ⟨w.heap.size,0,none⟩=some (.pointer (some ⟨G.bg,0,none⟩)):=by rw[cell_at x0];rfl
 have cy0:W0.cell? ⟨w.heap.size+1,0,none⟩=some (.int .u64 (m:Int)):=by rw[cell_at y0];rfl
 refine(callsIn_wide (n:=20)).1 ?_
 refine callsIn_of_wp_marks Tryz.func91 rfl trivial ?_ rfl;simp only[Tryz.ntmps91,List.size_toArray,List.length_cons,List.length_nil,Nat.reduceAdd,Nat.reduceSub,Array.replicate_succ,Array.replicate_zero,List.push_toArray,List.append_toArray,List.nil_append,List.cons_append];have kA:Kb [] W0 (W0.alloc (.cells #[.pointer none] 176)):=(Kb.refl [] W0).alloc _;have r5A:=(h0.fresh kA).reads.2.2.2.2.2.1;have cxA:(W0.alloc (.cells #[.pointer none] 176)).cell? ⟨w.heap.size,0,none⟩=some (.pointer (some ⟨G.bg,0,none⟩)):=by rw[cell_at (kA.heap x0 (by simp))];rfl
 have cyA:(W0.alloc (.cells #[.pointer none] 176)).cell? ⟨w.heap.size+1,0,none⟩=some (.int .u64 (m:Int)):=by rw[cell_at (kA.heap y0 (by simp))];rfl
 rw[hW0]at r5' cx0 cy0 r5A cxA cyA;gi_wp2
 gi_region
 obtain⟨W1,hW1⟩:∃W1,W1=(W0.alloc (.cells #[.pointer (some ⟨G.bn,m*7,none⟩)] 176)).drew:=⟨_,rfl⟩;rw[← hW0,← hW1];have k1:Kb [] W0 W1:=by rw[hW1];exact((Kb.refl [] W0).alloc _).drew
 have z1:W1.heap.size=w.heap.size+3:=by rw[hW1];show(W0.alloc _).heap.size=_;simp[z0]
 have t1:W1.heap[w.heap.size+2]?=some (.cells #[.pointer (some ⟨G.bn,m*7,none⟩)] 176 (0,0)):=by
  rw[hW1,← z0];exact heap_new _ _
 have x1:=k1.heap x0 (by simp);have y1:=k1.heap y0 (by simp);have L1:LI w B c n G [] [(w.heap.size+2,#[.pointer (some ⟨G.bn,m*7,none⟩)],176),(w.heap.size+1,#[.int .u64 (m:Int)],144),(w.heap.size,#[.pointer (some ⟨G.bg,0,none⟩)],101)] [] W1 s G:=by
  have h9:=((LI.start h).fresh (k0.trans k1)).1;have nf:∀b,w.heap.size≤b→b ∉ G.foot:=fun b hb hm=>by have:=h.footlt b hm;omega
  exact((h9.addBox x1 (nf _ (Nat.le_refl _))).addBox y1 (nf _ (by omega))).addBox t1 (nf _ (by omega))
 clear hW0 hW1 r5' cx0 cy0 r5A cxA cyA kA x0 y0;rw[show w.heap.size+2=w.heap.size+1+1 from rfl]at L1;obtain⟨fr,hfr⟩:∃fr,fr=subS (s.tg m) (s.hd m):=⟨_,rfl⟩;have hfn:∀x∈fr,x<n:=by
  intro x hx;rw[hfr]at hx;exact hw.bd _ x (mem_subS.1 hx).2.1
 have HST:Hid (s.work c m=if fr.isEmpty then s else if(s.collapse m fr).1 then(s.collapse m fr).2.wait ((s.collapse m fr).2.rep m)else if c.deltas then St.put (((fr.foldl (fun s t=>s.links c m t) (s.collapse m fr).2).heirsOf m).foldl (fun s h=>s.hand c fr m h) (fr.foldl (fun s t=>s.links c m t) (s.collapse m fr).2)) (7*m+1) (uniS (St.hd (((fr.foldl (fun s t=>s.links c m t) (s.collapse m fr).2).heirsOf m).foldl (fun s h=>s.hand c fr m h) (fr.foldl (fun s t=>s.links c m t) (s.collapse m fr).2)) m) fr)else(((fr.foldl (fun s t=>s.links c m t) (s.collapse m fr).2).heirsOf m).foldl (fun s h=>s.hand c fr m h) (fr.foldl (fun s t=>s.links c m t) (s.collapse m fr).2))):=hide (by rw[hfr];rfl);have HX:Hid (∀W2,Kb [] W1 W2→Calls Tryz.prog 115 #[.pointer (some ⟨G.bn,m*7,none⟩),.pointer (some ⟨G.bn,m*7+1,none⟩)] W2 fun e w'=>∃v',e=.returned (.agg #[v'])∧SetV w' W2.heap.size v' fr∧Kb [] W2 w'):=by
  refine hide (fun W2 hk=>?_);have h2:=(L1.fresh hk).1.gm;obtain⟨va,q,q',qs⟩:=h2.get (k:=7*m) (by omega);obtain⟨vb,p,p',ps⟩:=h2.get (k:=7*m+1) (by omega);have:=minus_any B B G.bn (7*m) G.bn (7*m+1) _ _ TNd TNd va vb _ _ W2 h2.hbn q' h2.hbn p' qs ps;rw[show 7*m=m*7 by omega]at this;have e1:s.tg m=s.ss.getD (m*7) []:=by unfold St.tg;rw[show m*7=7*m by omega]
  have e2:s.hd m=s.ss.getD (m*7+1) []:=by unfold St.hd;rw[show m*7=7*m by omega]
  rw[hfr,e1,e2];exact this
 clear hfr;have c1:W1.cell? ⟨w.heap.size+1+1,0,none⟩=some (.pointer (some ⟨G.bn,m*7,none⟩)):=by rw[cell_at t1];rfl
 have c1A:(W1.alloc (.cells #[.slice none 0 0] 112)).cell? ⟨w.heap.size+1+1,0,none⟩=some (.pointer (some ⟨G.bn,m*7,none⟩)):=by rw[cell_at (heap_old t1 _)];rfl
 have HA:=HX.out W1.drew (Kb.refl [] W1).drew;have HB:=HX.out ((W1.alloc (.cells #[.slice none 0 0] 112)).drew) ((Kb.refl [] W1).alloc _).drew;have Z:=hide (And.intro z0 z1);clear z0 z1;gi_wp2
 refine wpIn_nrm (K:=fun a W=>∃bF vF u11 u12 u13 u14 u15 u16 u17 u18 u19 u20 u21 u22 u23,LI w B c n G [] [(bF,#[vF],112),(w.heap.size+1+1,#[.pointer (some ⟨G.bn,m*7,none⟩)],176),(w.heap.size+1,#[.int .u64 (m:Int)],144),(w.heap.size,#[.pointer (some ⟨G.bg,0,none⟩)],101)] [(vF,fr,B)] W s G∧w.heap.size+3≤bF∧a={ tmps:=#[.pointer (some ⟨G.bg,0,none⟩),.int .u64 (m:Int),.pointer (some ⟨w.heap.size,0,none⟩),.pointer (some ⟨w.heap.size+1,0,none⟩),.pointer (some ⟨w.heap.size+1+1,0,none⟩),.pointer (some ⟨bF,0,none⟩),undef,undef,undef,undef,undef,u11,u12,u13,u14,u15,u16,u17,u18,u19,u20,u21,u22,u23,undef,undef,undef,undef,undef,undef,undef,undef,undef,undef,undef,undef,undef,undef,undef,undef,undef,undef,undef,undef,undef,undef,undef,undef,undef,undef,undef,undef,undef,undef,undef,undef,undef,undef,undef,undef,undef,undef,undef,undef,undef,undef,undef,undef,undef,undef,undef,undef,undef,undef,undef,undef],defers:=[] }) ?_ ?_
 ·go_region_with (first|(refine HA.mono ?_;rintro e w2 ⟨v2,rfl,hv2,k2⟩;obtain⟨ao,l,cap,rfl⟩:=hv2.form)|(refine HB.mono ?_;rintro e w2 ⟨v2,rfl,hv2,k2⟩;obtain⟨ao,l,cap,rfl⟩:=hv2.form;have hbk:=k2.heap (show(W1.alloc (.cells #[.slice none 0 0] 112)).drew.heap[W1.heap.size]?=_ from heap_new _ _) (by simp);have cF:w2.cell? ⟨W1.heap.size,0,none⟩=some (.slice none 0 0):=(by rw[cell_at hbk];rfl);have fF:w2.frozen? ⟨W1.heap.size,0,none⟩=false:=frozen_at hbk 0;have HBK:=hide hbk;clear hbk))
  all_goals first
   | (have HBK':=HBK.out
      refine⟨W1.heap.size,.slice ao l cap,_,_,_,_,_,_,_,_,_,_,_,_,_,?_,by rw[Z.out.2];exact Nat.le_refl _,rfl⟩;have kk:Kb [] W1 w2:=((Kb.refl [] W1).alloc _).drew.trans k2;have l2:=((L1.fresh kk).1.addBox HBK' (L1.newer (Nat.le_refl _))).addSet hv2 (fun g hg=>L1.newer (by have:=(hv2.lt hg).1;show W1.heap.size≤g;simp at this;omega));refine((l2.setBox (.slice ao l cap) (by rw[Z.out.2];omega) (fun q hq=>?_) (fun q hq=>?_) (by simp)).1.addSet ?_ ?_).subV (fun k hk=>by rw[List.mem_singleton.1 hk];exact List.mem_cons_self)
      ·have h9:=Z.out.2;simp only[List.mem_cons,List.not_mem_nil,or_false]at hq;rcases hq with rfl|rfl|rfl<;>(simp only[h9];omega)
      ·rw[List.mem_singleton.1 hq];exact hv2.ne HBK' (by decide)
      ·have hb2:B≤W1.heap.size+1:=by have:=L1.gm.hB;omega
       exact SetV.low (hv2.kb ((Kb.refl [W1.heap.size] w2).setCell (p:=⟨W1.heap.size,0,none⟩) (.inl (by simp)) _) (fun g hg=>by rw[List.mem_singleton.1 hg];exact hv2.ne HBK' (by decide))) (by simpa using hb2)
      ·exact fun g hg=>L1.newer (by have:=(hv2.lt hg).1;simp at this;omega))
   | (refine⟨w2.heap.size,.slice ao l cap,_,_,_,_,_,_,_,_,_,_,_,_,_,?_,by have:=k2.size;have h9:=Z.out.2;simp at this;omega,rfl⟩
      have kk:Kb [] W1 w2:=(Kb.refl [] W1).drew.trans k2;have kA:Kb [] w2 (w2.alloc (.cells #[.slice ao l cap] 112)):=(Kb.refl [] w2).alloc _;have l1:=(L1.fresh kk).1;have nf:∀g,(Value.slice ao l cap).ownBlock=some g→g ∉ G.foot:=fun g hg=>L1.newer (by have:=(hv2.lt hg).1;simp at this;omega)
      exact(((l1.addSet (hv2.low (by have:=L1.gm.hB;simpa using this)) nf).fresh kA).1.addBox (heap_new _ _) (l1.newer (Nat.le_refl _))))
 rintro a W2 ⟨bF,vF,u11,u12,u13,u14,u15,u16,u17,u18,u19,u20,u21,u22,u23,L2,hbF,rfl⟩;clear HA HB HX c1 c1A L1 t1 x1 y1 h0;have HE:=empty_any B bF 0 #[vF] 112 vF fr W2 (L2.bx (bF,#[vF],112) (by simp)).1 rfl (L2.vt (vF,fr,B) (by simp)).1;gi_wp2
 refine⟨trivial,?_⟩;refine(callsIn_wide.2 HE).mono ?_
 clear HE;rintro e W3 ⟨rfl,k3⟩;have L3:=(L2.fresh k3).1;clear L2 k3;obtain⟨be,hbe⟩:∃be,be=fr.isEmpty:=⟨_,rfl⟩;rw[← hbe];replace hbe:=hide hbe;cases be
 case true=>
  have HF:Hid (∃G',GM W3 B c n G' (s.work c m)∧GCh w W3 G G'):=hide ⟨G,by rw[HST.out,if_pos hbe.out.symm];exact L3.gm,L3.ch⟩;clear hbe L3 HST;gi_wp2
  exact⟨_,results_none rfl _ _ _,rfl,HF.out⟩
 have TT:Hid (∀ {W:World} {G':GV},GCh w W G G'→TabAt W):=hide (fun hc=>hT.kb hc.kb (fun hm=>by have:=(h.cells hm).1;omega));have cg:=L3.cell (b:=w.heap.size) (v:=.pointer (some ⟨G.bg,0,none⟩)) (T:=101) (by simp);have cn:=L3.cell (b:=w.heap.size+1) (v:=.int .u64 (m:Int)) (T:=144) (by simp);have HCo:=gcollapse_any m bF 0 hM #[vF] 112 vF B fr W3 G L3.gm hw (TT.out L3.ch) hTl hm (L3.bx (bF,#[vF],112) (by simp)).1 rfl (L3.vt (vF,fr,B) (by simp)).1 hfn (by omega);gi_wp2
 refine⟨trivial,?_⟩;refine(callsIn_wide.2 HCo).mono ?_
 clear HCo cg cn;rintro e W4 ⟨rfl,G4,hG4,hC4⟩;obtain⟨L4,_,_⟩:=L3.call hG4 hC4;clear L3 hG4 hC4;obtain⟨s4,hs4⟩:∃s4,s4=(s.collapse m fr).2:=⟨_,rfl⟩;obtain⟨bc,hbc⟩:∃bc,bc=(s.collapse m fr).1:=⟨_,rfl⟩;have hw4:WF n s4∧s4.un≤s.un+1600:=by
  have h1:=WF.csteps (fun b hb=>hw.bd _ b hb:∀b∈s.tw m,b<n) fr (false,s) hw hfn;rw[collapse_eq,← hs4]at h1;have h2:fr.length≤n:=(L4.vt (vF,fr,B) (by simp)).1.len hfn;obtain⟨v5,_,_,q5⟩:=h.get (k:=7*m+5) (by omega);have h3:(s.tw m).length≤n:=q5.len (fun b hb=>hw.bd _ b hb);have h4:fr.length*(s.tw m).length≤40*40:=Nat.mul_le_mul (by omega) (by omega);refine⟨h1.1,?_⟩;have:=h1.2;show s4.un≤s.un+1600;simp only at this;omega
 rw[← hs4]at L4;rw[← hbc];replace hbc:=hide hbc;replace hs4:=hide hs4;have cg:=L4.cell (b:=w.heap.size) (v:=.pointer (some ⟨G.bg,0,none⟩)) (T:=101) (by simp);have cn:=L4.cell (b:=w.heap.size+1) (v:=.int .u64 (m:Int)) (T:=144) (by simp);cases bc
 case true=>
  have e1:=L4.ch.e1;have e3:=L4.ch.e3;have r7:=L4.gm.reads.2.2.2.2.2.2.1;rw[e1,e3]at r7;have kd:Kb [] W4 W4.drew:=(Kb.refl [] W4).drew;have L4d:=(L4.fresh kd).1;have HOf:=gof_any m W4.drew G4 L4d.gm (by omega);rw[e1]at HOf;have hrm:=hw4.1.lt hm;have HL4:=hide L4d;have HF:Hid (∀W,(∃G',GM W B c n G' (s4.wait (s4.rep m))∧GCh w W G G')→(∃G',GM W B c n G' (s.work c m)∧GCh w W G G')):=by
   refine hide (fun W hh=>?_);rw[HST.out,if_neg (by rw[← hbe.out];decide),if_pos hbc.out.symm,← hs4.out];exact hh
  clear HST L4 L4d hbe hbc hs4 hM hSu;gi_wp2
  refine wpIn_nrm (K:=fun a W=>(∃G',GM W B c n G' (s4.wait (s4.rep m))∧GCh w W G G')∧a={ tmps:=#[.pointer (some ⟨G.bg,0,none⟩),.int .u64 (m:Int),.pointer (some ⟨w.heap.size,0,none⟩),.pointer (some ⟨w.heap.size+1,0,none⟩),.pointer (some ⟨w.heap.size+1+1,0,none⟩),.pointer (some ⟨bF,0,none⟩),undef,undef,undef,undef,undef,u11,u12,u13,u14,u15,u16,u17,u18,u19,u20,u21,u22,u23,.bool false,.pointer (some ⟨G.bg,0,none⟩),.int .u64 (m:Int),.bool true,.pointer (some ⟨G.bg,0,none⟩),.pointer (some ⟨G.bg,0,none⟩),.pointer (some ⟨G.bg,7,none⟩),.pointer (some ⟨G.bl,0,none⟩),.pointer (some ⟨G.bg,0,none⟩),.pointer (some ⟨G.bg,0,none⟩),.pointer (some ⟨G.bg,6,none⟩),.int .u64 (m:Int),.int .u64 ((s4.rep m:Nat):Int),.tuple #[],undef,undef,undef,undef,undef,undef,undef,undef,undef,undef,undef,undef,undef,undef,undef,undef,undef,undef,undef,undef,undef,undef,undef,undef,undef,undef,undef,undef,undef,undef,undef,undef,undef,undef,undef,undef,undef,undef],defers:=[] }) ?_ ?_
  ·go_region_with (first
    |(refine HOf.mono ?_;clear HOf;rintro e W5 ⟨rfl,G5,hG5,hC5⟩;obtain⟨L5,_,_⟩:=HL4.out.call hG5 hC5;have cg5:=L5.cell (b:=w.heap.size) (v:=.pointer (some ⟨G.bg,0,none⟩)) (T:=101) (by simp);have r75:=L5.gm.reads.2.2.2.2.2.2.1;rw[L5.ch.e1,L5.ch.e3]at r75;have HAd:=gwait_any (s4.rep m) W5 G5 L5.gm hw4.1 hrm;rw[L5.ch.e3]at HAd;have H5:=hide L5;clear L5 hG5 hC5)
    | (refine HAd.mono ?_;clear HAd;rintro e W6 ⟨rfl,G6,hG6,hC6⟩))
   all_goals exact⟨⟨G6,hG6,(H5.out.call hG6 hC6).1.ch⟩,rfl⟩
  rintro a W ⟨hh,rfl⟩;have HH:=hide (HF.out W hh);clear hh HF;gi_wp2
  exact⟨_,results_none rfl _ _ _,rfl,HH.out⟩
 have HA4:=all_any B bF 0 #[vF] 112 vF fr W4 (L4.bx (bF,#[vF],112) (by simp)).1 rfl (L4.vt (vF,fr,B) (by simp)).1;gi_wp2
 refine⟨trivial,?_⟩;refine(callsIn_wide.2 HA4).mono ?_
 clear HA4;rintro e W5 ⟨bwa,va,rfl,hbwa,hbwac,hva,k5⟩;have L5:=(L4.fresh k5).1;obtain⟨L,hL⟩:∃L,L=0::va.ownBlock.toList:=⟨_,rfl⟩;have hTabf:∀ {W:World} {st:St} {G':GV},GM W B c n G' st→0 ∉ G'.foot∧0<W.heap.size:=fun hG=>⟨fun hm=>by have:=(hG.cells hm).1;omega,by have:=hG.hB;omega⟩
 have hLp:∀k∈L,k ∉ G4.foot∧k<W5.heap.size:=by
  intro k hk;rw[hL]at hk;rcases List.mem_cons.1 hk with rfl|hk
  ·exact hTabf L5.gm
  ·simp at hk;exact⟨L4.newer (hva.lt hk).1,(hva.lt hk).2⟩
 have LL:LI w B c n G L [(bF,#[vF],112),(w.heap.size+1+1,#[.pointer (some ⟨G.bn,m*7,none⟩)],176),(w.heap.size+1,#[.int .u64 (m:Int)],144),(w.heap.size,#[.pointer (some ⟨G.bg,0,none⟩)],101)] [(vF,fr,B)] W5 s4 G4:=⟨L5.gm,L5.ch,L5.bx,L5.vt,hLp⟩;have hst:=all_stops 19 bwa W4.heap.size va fr L W5 hbwac hva (TT.out L5.ch) (fun g hg=>by rw[hL];simp[hg]) (by rw[hL];simp);have hLlt:∀k∈L,k<W5.heap.size:=fun k hk=>(hLp k hk).2
 have hflen:fr.length≤40:=by have:=hva.len hfn;omega
 have hw5:w.heap.size≤W5.heap.size:=L5.ch.kb.size;have HLL:=hide LL;clear LL L4 L5 cg cn hbwac hva k5 hLp hbwa;gi_wp2
 refine wpIn_rangeFunc_ownH (α:=Mem fr) (hro:=rfl) (h1:=by omega) (gf:=127) (lb:=#[.pointer (some ⟨bwa,0,none⟩)]) rfl trivial (enters_of Tryz.func127 (by kernel_rfl) rfl) hst (fun h1 h2=>h1.trans h2) (kpB_b hLlt) (Below.refl _ _) (fun _=>rfl)
  (fun pre W=>∃G',LI w B c n G L [(bF,#[vF],112),(w.heap.size+1+1,#[.pointer (some ⟨G.bn,m*7,none⟩)],176),(w.heap.size+1,#[.int .u64 (m:Int)],144),(w.heap.size,#[.pointer (some ⟨G.bg,0,none⟩)],101)] [(vF,fr,B)] W ((pre.map (·.1)).foldl (fun s t=>s.links c m t) s4) G'∧WF n ((pre.map (·.1)).foldl (fun s t=>s.links c m t) s4)∧((pre.map (·.1)).foldl (fun s t=>s.links c m t) s4).un≤s4.un+pre.length*80)
  (fun _ _ _=>False) ?hI (fun _ _ _ _ _ hs _ _=>hs) ⟨G4,HLL.out,hw4.1,by simp⟩
  (fun x a' W=>∃Bx G0 s0,W.heap[Bx]?=some (.cells #[.int .u64 (x.1:Int)] 144 (0,0))∧GM W B c n G0 s0∧G0.bg=G.bg∧Bx ∉ G0.foot∧a'={ tmps:=#[.pointer (some ⟨G.bg,0,none⟩),.int .u64 (m:Int),.pointer (some ⟨w.heap.size,0,none⟩),.pointer (some ⟨w.heap.size+1,0,none⟩),.pointer (some ⟨w.heap.size+1+1,0,none⟩),.pointer (some ⟨bF,0,none⟩),.pointer (some ⟨Bx,0,none⟩),undef,undef,undef,undef,u11,u12,u13,u14,u15,u16,u17,u18,u19,u20,u21,u22,u23,.bool false,.pointer (some ⟨G.bg,0,none⟩),.int .u64 (m:Int),.bool false,undef,undef,undef,undef,undef,undef,undef,undef,undef,undef,.func (.func 127) #[] #[.pointer (some ⟨bwa,0,none⟩)],.int .u64 (x.1:Int),undef,undef,undef,undef,undef,undef,undef,undef,undef,undef,undef,undef,undef,undef,undef,undef,undef,undef,undef,undef,undef,undef,undef,undef,undef,undef,undef,undef,undef,undef,undef,undef,undef,undef,undef,undef],defers:=[] }) ?hAx ?assign ?body ?done ?stop
 case hI=>
  rintro pre W W' row ⟨G',p1,p2⟩ hg hr;exact⟨G',p1.own hw5 hg hr,p2⟩
 case hAx=>
  rintro x a' _ W W' row ⟨Bx,G0,s0,q2,q3,q4,q5,q6⟩ hg hr;have hk:=kb_grown hg;refine⟨Bx,G0,s0,hk.heap q2 (fun hm=>?_),q3.beside hk (fun b hb=>?_),q4,q5,q6⟩
  ·obtain⟨_,o,ho,hc⟩:=hr Bx (by simpa using hm);rw[q2]at ho;cases ho;cases hc
  ·obtain⟨_,o,ho,hc⟩:=hr b (by simpa using hb);exact q3.notfoot ho hc
 case assign=>
  rintro l pre x W K ⟨G',p1,p2⟩ hK;have kA:Kb [] W (W.alloc (.cells #[.int .u64 (x.1:Int)] 144)):=(Kb.refl [] W).alloc _;obtain⟨z1,z2,z3⟩:=p1.fresh kA;dsimp only[encN,Array.zip,Array.foldl];gi_wp2
  refine hK _ _ (z2 _) z3 ⟨G',z1,p2⟩ ⟨W.heap.size,G',_,heap_new _ _,z1.gm,p1.ch.e1,p1.newer (Nat.le_refl _),rfl⟩
 case body=>
  rintro l pre ⟨x,hxT⟩ a' W hl ⟨r,hr⟩ ⟨G',p1,wf,hun⟩ ⟨Bx,G0,s0,q2,q3,q4,q5,rfl⟩ hlen;have hx:=hfn x hxT;have hBx:Bx ∉ G'.foot:=by rw[p1.gm.foot_eq q3 (p1.ch.e1.trans q4.symm)];exact q5
  have e9:((pre++[(⟨x,hxT⟩:Mem fr)]).map (·.1)).foldl (fun s t=>s.links c m t) s4=((pre.map (·.1)).foldl (fun s t=>s.links c m t) s4).links c m x:=by rw[List.map_append,List.foldl_append];rfl
  have hpl:pre.length*80≤40*80:=Nat.mul_le_mul (by omega) (Nat.le_refl _);have HE9:=hide e9;clear e9;generalize (pre.map (·.1)).foldl (fun s t=>s.links c m t) s4=y0 at *;have P2:=p1.addBox q2 hBx;have ci:=P2.cell (b:=w.heap.size+1+1) (v:=.pointer (some ⟨G.bn,m*7,none⟩)) (T:=176) (by simp);clear p1 q2 q3 q4 q5 hBx;have HI1:Hid (∃v,G'.nv[7*m+3]?=some v∧SetV W B v (y0.ld m)):=by
   obtain⟨v,q,_,qs⟩:=P2.gm.get (k:=7*m+3) (by omega);exact hide ⟨v,q,qs⟩
  have HAl:Calls Tryz.prog 94 #[.pointer (some ⟨G.bn,m*7+3,none⟩)] W fun e w'=>∃bw v',e=.returned (.func (.func 127) #[] #[.pointer (some ⟨bw,0,none⟩)])∧W.heap.size≤bw∧w'.heap[bw]?=some (.cells #[v'] 110 (0,0))∧SetV w' W.heap.size v' (y0.ld m)∧Kb [] W w':=by
   obtain⟨v,q,qs⟩:=HI1.out;have:=all_any B G'.bn (7*m+3) _ TNd v _ W P2.gm.hbn (by simpa using q) qs;rw[P2.ch.e2,show 7*m+3=m*7+3 by omega]at this;exact this
  clear HI1;gi_wp2
  refine⟨trivial,?_⟩;refine(CallsIn.inRound l (callsIn_wide.2 HAl)).mono ?_
  clear HAl ci;rintro e X0 ⟨bwl,vl,rfl,hbwl,hbwlc,hvl,kl⟩;obtain⟨P3,kf3,kp3⟩:=P2.fresh kl;obtain⟨L2,hL2⟩:∃L2,L2=vl.ownBlock.toList++L:=⟨_,rfl⟩;have hldn:∀x∈y0.ld m,x<n:=fun x hx=>wf.bd _ x hx
  have hldl:(y0.ld m).length≤40:=by have:=hvl.len hldn;omega
  have hL2p:∀k∈L2,k ∉ G'.foot∧k<X0.heap.size:=by
   intro k hk;rw[hL2]at hk;rcases List.mem_append.1 hk with hk|hk
   ·simp at hk;exact⟨P2.newer (hvl.lt hk).1,(hvl.lt hk).2⟩
   ·exact P3.lb k hk
  have P4:LI w B c n G L2 _ [(vF,fr,B)] X0 y0 G':=⟨P3.gm,P3.ch,P3.bx,P3.vt,hL2p⟩;have hLX:∀k∈L2,k<X0.heap.size:=fun k hk=>(hL2p k hk).2
  have hstI:=all_stops 17 bwl W.heap.size vl (y0.ld m) L2 X0 hbwlc hvl (TT.out P3.ch) (fun g hg=>by rw[hL2];simp[hg]) (by rw[hL2,hL];simp);have hrX:X0.heap[l]?=some (.loop r):=(kf3 0).same l _ (Nat.zero_le _) hr rfl;have hwX:w.heap.size≤X0.heap.size:=P3.ch.kb.size;have HP4:=hide P4;have HK3:=hide (And.intro kf3 kp3);clear P2 P3 P4 hbwlc hvl kl kf3 kp3 hL2p hr hbwl;gi_wp2
  refine wpIn_rangeFunc_ownN (α:=Mem (y0.ld m)) (l₀:=l) (r₀:=r) rfl hrX (by omega) (gf:=127) (lb:=#[.pointer (some ⟨bwl,0,none⟩)]) rfl trivial (enters_of Tryz.func127 (by kernel_rfl) rfl) (hstI.inRound l) (fun h1 h2=>h1.trans h2) (kpB_b hLX) (Below.refl _ _) (fun _=>rfl)
   (fun pre2 W'=>∃G',LI w B c n G L2 ((Bx,#[.int .u64 (x:Int)],144)::[(bF,#[vF],112),(w.heap.size+1+1,#[.pointer (some ⟨G.bn,m*7,none⟩)],176),(w.heap.size+1,#[.int .u64 (m:Int)],144),(w.heap.size,#[.pointer (some ⟨G.bg,0,none⟩)],101)]) [(vF,fr,B)] W' ((pre2.map (·.1)).foldl (fun s p=>s.link c x p) y0) G'∧(WF n ((pre2.map (·.1)).foldl (fun s p=>s.link c x p) y0)∧((pre2.map (·.1)).foldl (fun s p=>s.link c x p) y0).un≤y0.un+pre2.length)∧KeepsFrom W5.heap.size X0 W'∧KpB L2 X0 W')
   (fun _ _ _=>False) ?hI2 (fun _ _ _ _ _ hs _ _=>hs) ⟨_,HP4.out,⟨wf,by simp⟩,KeepsFrom.refl _ _,KpB.refl _ _⟩
   (fun y a'' _=>a''={ tmps:=#[.pointer (some ⟨G.bg,0,none⟩),.int .u64 (m:Int),.pointer (some ⟨w.heap.size,0,none⟩),.pointer (some ⟨w.heap.size+1,0,none⟩),.pointer (some ⟨w.heap.size+1+1,0,none⟩),.pointer (some ⟨bF,0,none⟩),.pointer (some ⟨Bx,0,none⟩),.int .u64 (y.1:Int),undef,undef,undef,u11,u12,u13,u14,u15,u16,u17,u18,u19,u20,u21,u22,u23,.bool false,.pointer (some ⟨G.bg,0,none⟩),.int .u64 (m:Int),.bool false,undef,undef,undef,undef,undef,undef,undef,undef,undef,undef,.func (.func 127) #[] #[.pointer (some ⟨bwa,0,none⟩)],.int .u64 (x:Int),.pointer (some ⟨G.bn,m*7,none⟩),.pointer (some ⟨G.bn,m*7,none⟩),.pointer (some ⟨G.bn,m*7+3,none⟩),.func (.func 127) #[] #[.pointer (some ⟨bwl,0,none⟩)],.int .u64 (y.1:Int),undef,undef,undef,undef,undef,undef,undef,undef,undef,undef,undef,undef,undef,undef,undef,undef,undef,undef,undef,undef,undef,undef,undef,undef,undef,undef,undef,undef,undef,undef,undef],defers:=[] }) (fun _ _ _ _ _ _ hs _ _=>hs) ?assign2 ?body2 ?done2 ?stop2
  case hI2=>
   rintro pre2 X Y row ⟨G',c1,cw,c2,c3⟩ hg hr2;refine⟨G',c1.own hwX hg hr2,cw,ownFrom_keepsFrom (w₀:=X0) (B':=X0.heap.size) (Nat.le_refl _) pre2 X Y row c2 hg hr2,fun k hk=>?_⟩;rw[← c3 k hk];refine(kb_grown hg).block k (Nat.lt_of_lt_of_le (hLX k hk) c2.size) (fun hm=>?_);have h8:=(hr2 k (by simpa using hm)).1;have h9:=hLX k hk;omega
  case assign2=>
   rintro l2 pre2 y X K hi hK;dsimp only[encN,Array.zip,Array.foldl];gi_wp2
   exact hK _ _ (KeepsFrom.refl _ _) (KpB.refl _ _) hi rfl
  case body2=>
   rintro l2 pre2 ⟨y,hyT⟩ a'' X _ _ ⟨G2,c1,⟨wf2,hun2⟩,c2,c3⟩ rfl hlen2;have hy:=hldn y hyT;have e8:((pre2++[(⟨y,hyT⟩:Mem (y0.ld m))]).map (·.1)).foldl (fun s p=>s.link c x p) y0=((pre2.map (·.1)).foldl (fun s p=>s.link c x p) y0).link c x y:=by rw[List.map_append,List.foldl_append];rfl
   have HE8:=hide e8;clear e8;generalize (pre2.map (·.1)).foldl (fun s p=>s.link c x p) y0=z0 at *;have cg:=c1.cell (b:=w.heap.size) (v:=.pointer (some ⟨G.bg,0,none⟩)) (T:=101) (by simp);have cx:=c1.cell (b:=Bx) (v:=.int .u64 (x:Int)) (T:=144) (by simp);have HLk:=glink_any hSu x y X G2 c1.gm wf2 hx hy (by omega);rw[c1.ch.e1]at HLk;have HC:=hide (And.intro c1 (And.intro c2 c3));clear c1 c2 c3;gi_wp2
   refine⟨trivial,?_⟩;refine(CallsIn.inRound l2 (CallsIn.inRound l (callsIn_wide.2 HLk))).mono ?_
   clear HLk;rintro e X1 ⟨rfl,G3,hG3,hC3⟩;obtain⟨d1,d2,d3⟩:=HC.out.1.call hG3 hC3;have HD:=hide (And.intro d1 (And.intro d2 d3));clear d1 d2 d3 hG3 hC3;gi_wp2
   refine⟨HD.out.2.1 _,HD.out.2.2,G3,?_,?_,HC.out.2.1.trans (HD.out.2.1 _),HC.out.2.2.trans HD.out.2.2⟩
   ·rw[HE8.out];exact HD.out.1
   ·rw[HE8.out];refine⟨wf2.link hx hy,?_⟩;have:=St.link_un z0 c x y;simp only[List.length_append,List.length_cons,List.length_nil];omega
  case stop2=>
   rintro cc pre2 X _ hF;exact hF.elim
  case done2=>
   rintro xs X hxs ⟨G2,c1,⟨wf2,hun2⟩,c2,c3⟩;have hxl:xs.length≤40:=by have:=congrArg List.length hxs;rw[List.length_map]at this;omega
   rw[hxs]at c1 wf2 hun2;have HE7:Hid (y0.links c m x=(((y0.ld m).foldl (fun s p=>s.link c x p) y0).sr m).foldl (fun s q=>s.link c q x) ((y0.ld m).foldl (fun s p=>s.link c x p) y0)):=hide rfl;generalize (y0.ld m).foldl (fun s p=>s.link c x p) y0=y1 at *;have hunl:y1.un≤y0.un+40:=by omega
   clear hun2;have hrY:X.heap[l]?=some (.loop r):=c2.same l _ (by omega) hrX rfl;have P2:=c1.subL (L':=L) (fun k hk=>by rw[hL2];exact List.mem_append_right _ hk);have kpL:KpB L X0 X:=fun k hk=>c3 k (by rw[hL2];exact List.mem_append_right _ hk)
   have HC0:=hide (And.intro c2 kpL);clear c2 c3 c1 HP4 kpL hstI hLX;have ci:=P2.cell (b:=w.heap.size+1+1) (v:=.pointer (some ⟨G.bn,m*7,none⟩)) (T:=176) (by simp);have HAl:Calls Tryz.prog 94 #[.pointer (some ⟨G.bn,m*7+4,none⟩)] X fun e w'=>∃bw v',e=.returned (.func (.func 127) #[] #[.pointer (some ⟨bw,0,none⟩)])∧X.heap.size≤bw∧w'.heap[bw]?=some (.cells #[v'] 110 (0,0))∧SetV w' X.heap.size v' (y1.sr m)∧Kb [] X w':=by
    obtain⟨v,q,q',qs⟩:=P2.gm.get (k:=7*m+4) (by omega);have:=all_any B G2.bn (7*m+4) _ TNd v _ X P2.gm.hbn q' qs;rw[P2.ch.e2]at this;have e6:y1.sr m=y1.ss.getD (7*m+4) []:=rfl;rw[e6,show m*7+4=7*m+4 by omega];exact this
   gi_wp2
   refine⟨trivial,?_⟩;refine(CallsIn.inRound l (callsIn_wide.2 HAl)).mono ?_
   clear HAl ci;rintro e Y0 ⟨bws,vs,rfl,hbws,hbwsc,hvs,ks⟩;obtain⟨P3,kf3,kp3⟩:=P2.fresh ks;obtain⟨L3,hL3⟩:∃L3,L3=vs.ownBlock.toList++L:=⟨_,rfl⟩;have hsrn:∀x∈y1.sr m,x<n:=fun x hx=>wf2.bd _ x hx
   have hsrl:(y1.sr m).length≤40:=by have:=hvs.len hsrn;omega
   have hL3p:∀k∈L3,k ∉ G2.foot∧k<Y0.heap.size:=by
    intro k hk;rw[hL3]at hk;rcases List.mem_append.1 hk with hk|hk
    ·simp at hk;exact⟨P2.newer (hvs.lt hk).1,(hvs.lt hk).2⟩
    ·exact P3.lb k hk
   have P4:LI w B c n G L3 _ [(vF,fr,B)] Y0 y1 G2:=⟨P3.gm,P3.ch,P3.bx,P3.vt,hL3p⟩;have hLY:∀k∈L3,k<Y0.heap.size:=fun k hk=>(hL3p k hk).2
   have hstJ:=all_stops 17 bws X.heap.size vs (y1.sr m) L3 Y0 hbwsc hvs (TT.out P3.ch) (fun g hg=>by rw[hL3];simp[hg]) (by rw[hL3,hL];simp);have hrZ:Y0.heap[l]?=some (.loop r):=(kf3 0).same l _ (Nat.zero_le _) hrY rfl;have hwY:w.heap.size≤Y0.heap.size:=P3.ch.kb.size;have HP4:=hide P4;have HK4:=hide (And.intro kf3 kp3);clear P2 P3 P4 hbwsc hvs ks kf3 kp3 hL3p hrY hrX hbws;gi_wp2
   refine wpIn_rangeFunc_ownN (α:=Mem (y1.sr m)) (l₀:=l) (r₀:=r) rfl hrZ (by omega) (gf:=127) (lb:=#[.pointer (some ⟨bws,0,none⟩)]) rfl trivial (enters_of Tryz.func127 (by kernel_rfl) rfl) (hstJ.inRound l) (fun h1 h2=>h1.trans h2) (kpB_b hLY) (Below.refl _ _) (fun _=>rfl)
    (fun pre2 W'=>∃G',LI w B c n G L3 ((Bx,#[.int .u64 (x:Int)],144)::[(bF,#[vF],112),(w.heap.size+1+1,#[.pointer (some ⟨G.bn,m*7,none⟩)],176),(w.heap.size+1,#[.int .u64 (m:Int)],144),(w.heap.size,#[.pointer (some ⟨G.bg,0,none⟩)],101)]) [(vF,fr,B)] W' ((pre2.map (·.1)).foldl (fun s q=>s.link c q x) y1) G'∧(WF n ((pre2.map (·.1)).foldl (fun s q=>s.link c q x) y1)∧((pre2.map (·.1)).foldl (fun s q=>s.link c q x) y1).un≤y1.un+pre2.length)∧KeepsFrom W5.heap.size Y0 W'∧KpB L3 Y0 W')
    (fun _ _ _=>False) ?hI3 (fun _ _ _ _ _ hs _ _=>hs) ⟨_,HP4.out,⟨wf2,by simp⟩,KeepsFrom.refl _ _,KpB.refl _ _⟩
    (fun y a'' _=>a''={ tmps:=#[.pointer (some ⟨G.bg,0,none⟩),.int .u64 (m:Int),.pointer (some ⟨w.heap.size,0,none⟩),.pointer (some ⟨w.heap.size+1,0,none⟩),.pointer (some ⟨w.heap.size+1+1,0,none⟩),.pointer (some ⟨bF,0,none⟩),.pointer (some ⟨Bx,0,none⟩),undef,.int .u64 (y.1:Int),undef,undef,u11,u12,u13,u14,u15,u16,u17,u18,u19,u20,u21,u22,u23,.bool false,.pointer (some ⟨G.bg,0,none⟩),.int .u64 (m:Int),.bool false,undef,undef,undef,undef,undef,undef,undef,undef,undef,undef,.func (.func 127) #[] #[.pointer (some ⟨bwa,0,none⟩)],.int .u64 (x:Int),.pointer (some ⟨G.bn,m*7,none⟩),.pointer (some ⟨G.bn,m*7,none⟩),.pointer (some ⟨G.bn,m*7+3,none⟩),.func (.func 127) #[] #[.pointer (some ⟨bwl,0,none⟩)],undef,undef,undef,undef,undef,.pointer (some ⟨G.bn,m*7,none⟩),.pointer (some ⟨G.bn,m*7,none⟩),.pointer (some ⟨G.bn,m*7+4,none⟩),.func (.func 127) #[] #[.pointer (some ⟨bws,0,none⟩)],.int .u64 (y.1:Int),undef,undef,undef,undef,undef,undef,undef,undef,undef,undef,undef,undef,undef,undef,undef,undef,undef,undef,undef,undef,undef,undef],defers:=[] }) (fun _ _ _ _ _ _ hs _ _=>hs) ?assign3 ?body3 ?done3 ?stop3
   case hI3=>
    rintro pre2 X Y row ⟨G',c1,cw,c2,c3⟩ hg hr2;refine⟨G',c1.own hwY hg hr2,cw,ownFrom_keepsFrom (w₀:=Y0) (B':=Y0.heap.size) (Nat.le_refl _) pre2 X Y row c2 hg hr2,fun k hk=>?_⟩;rw[← c3 k hk];refine(kb_grown hg).block k (Nat.lt_of_lt_of_le (hLY k hk) c2.size) (fun hm=>?_);have h8:=(hr2 k (by simpa using hm)).1;have h9:=hLY k hk;omega
   case assign3=>
    rintro l2 pre2 y X K hi hK;dsimp only[encN,Array.zip,Array.foldl];gi_wp2
    exact hK _ _ (KeepsFrom.refl _ _) (KpB.refl _ _) hi rfl
   case body3=>
    rintro l2 pre2 ⟨y,hyT⟩ a'' X _ _ ⟨G2,c1,⟨wf3,hun3⟩,c2,c3⟩ rfl hlen2;have hy:=hsrn y hyT;have e8:((pre2++[(⟨y,hyT⟩:Mem (y1.sr m))]).map (·.1)).foldl (fun s q=>s.link c q x) y1=((pre2.map (·.1)).foldl (fun s q=>s.link c q x) y1).link c y x:=by rw[List.map_append,List.foldl_append];rfl
    have HE8:=hide e8;clear e8;generalize (pre2.map (·.1)).foldl (fun s q=>s.link c q x) y1=z0 at *;have cg:=c1.cell (b:=w.heap.size) (v:=.pointer (some ⟨G.bg,0,none⟩)) (T:=101) (by simp);have cx:=c1.cell (b:=Bx) (v:=.int .u64 (x:Int)) (T:=144) (by simp);have HLk:=glink_any hSu y x X G2 c1.gm wf3 hy hx (by omega);rw[c1.ch.e1]at HLk;have HC:=hide (And.intro c1 (And.intro c2 c3));clear c1 c2 c3;gi_wp2
    refine⟨trivial,?_⟩;refine(CallsIn.inRound l2 (CallsIn.inRound l (callsIn_wide.2 HLk))).mono ?_
    clear HLk;rintro e X1 ⟨rfl,G3,hG3,hC3⟩;obtain⟨d1,d2,d3⟩:=HC.out.1.call hG3 hC3;have HD:=hide (And.intro d1 (And.intro d2 d3));clear d1 d2 d3 hG3 hC3;gi_wp2
    refine⟨HD.out.2.1 _,HD.out.2.2,G3,?_,?_,HC.out.2.1.trans (HD.out.2.1 _),HC.out.2.2.trans HD.out.2.2⟩
    ·rw[HE8.out];exact HD.out.1
    ·rw[HE8.out];refine⟨wf3.link hy hx,?_⟩;have:=St.link_un z0 c y x;simp only[List.length_append,List.length_cons,List.length_nil];omega
   case stop3=>
    rintro cc pre2 X _ hF;exact hF.elim
   case done3=>
    rintro xs2 X2 hxs2 ⟨G3,c1,⟨wf3,hun3⟩,c2,c3⟩;have hxl2:xs2.length≤40:=by have:=congrArg List.length hxs2;rw[List.length_map]at this;omega
    rw[hxs2,← HE7.out]at c1 wf3 hun3;have HF:=hide (And.intro c1 (And.intro c2 c3));clear c1 c2 c3;gi_wp2
    refine⟨(((HK3.out.1 _).trans HC0.out.1).trans (HK4.out.1 _)).trans HF.out.2.1,((HK3.out.2.trans HC0.out.2).trans HK4.out.2).trans (fun k hk=>HF.out.2.2 k (by rw[hL3];exact List.mem_append_right _ hk)),G3,?_,?_,?_⟩
    ·rw[HE9.out];exact(HF.out.1.subL (fun k hk=>by rw[hL3];exact List.mem_append_right _ hk)).subB (fun k hk=>List.mem_cons_of_mem _ hk)
    ·rw[HE9.out];exact wf3
    ·rw[HE9.out,List.length_append];simp only[List.length_cons,List.length_nil];omega
 case done=>
  rintro D xs W hD hxs ⟨G6,p1,wf,hun⟩ hK;have hxl:xs.length*80≤40*80:=Nat.mul_le_mul (by have:=congrArg List.length hxs;rw[List.length_map]at this;omega) (Nat.le_refl _);rw[hxs]at p1 wf hun;have HS2:Hid (s.work c m=if c.deltas then St.put (((fr.foldl (fun s t=>s.links c m t) s4).heirsOf m).foldl (fun s h=>s.hand c fr m h) (fr.foldl (fun s t=>s.links c m t) s4)) (7*m+1) (uniS (St.hd (((fr.foldl (fun s t=>s.links c m t) s4).heirsOf m).foldl (fun s h=>s.hand c fr m h) (fr.foldl (fun s t=>s.links c m t) s4)) m) fr)else(((fr.foldl (fun s t=>s.links c m t) s4).heirsOf m).foldl (fun s h=>s.hand c fr m h) (fr.foldl (fun s t=>s.links c m t) s4))):=by
   refine hide ?_
   rw[HST.out,if_neg (by rw[← hbe.out];decide),if_neg (by rw[← hbc.out];decide),← hs4.out]
  clear HST hbe hbc hs4;generalize fr.foldl (fun s t=>s.links c m t) s4=s5 at *;have hu5:s5.un≤s.un+4800:=by omega
  have cg:=p1.cell (b:=w.heap.size) (v:=.pointer (some ⟨G.bg,0,none⟩)) (T:=101) (by simp);have cn:=p1.cell (b:=w.heap.size+1) (v:=.int .u64 (m:Int)) (T:=144) (by simp);have HHe:=gheirs_any m W G6 p1.gm (TT.out p1.ch) hTl hm wf.rep;rw[p1.ch.e1]at HHe;gi_wp2
  refine⟨trivial,?_⟩;refine(callsIn_wide.2 HHe).mono ?_
  clear HHe cg cn;rintro e W7 ⟨G7,vh,rfl,hG7,hC7,hN7⟩;obtain⟨L7,kf7,_⟩:=p1.call hG7 hC7;have hK7:=kb_deferred kf7 hK rfl;obtain⟨ao,lh,cap,rfl⟩:=hN7.set.form;have kA:Kb [] W7 (W7.alloc (.cells #[.slice ao lh cap] 112)):=(Kb.refl [] W7).alloc _;obtain⟨L8,kf8,_⟩:=L7.fresh kA;have HAl:=all_any W.heap.size W7.heap.size 0 #[.slice ao lh cap] 112 (.slice ao lh cap) (s5.heirsOf m) (W7.alloc (.cells #[.slice ao lh cap] 112)) (heap_new _ _) rfl (hN7.set.kb kA (by simp));have hK8:=kb_deferred kf8 hK7 rfl;have HK8:=hide hK8;clear p1 hK hK7 hK8 hG7 hC7 hN7 kf7 kf8 kA L7;gi_wp2
  refine⟨trivial,?_⟩;refine(callsIn_wide.2 HAl).mono ?_
  clear HAl;rintro e W9 ⟨bwh,vh2,rfl,hbwh,hbwhc,hvh,k9⟩;obtain⟨L9,kf9,_⟩:=L8.fresh k9;have hK9:=kb_deferred kf9 HK8.out rfl;have hDs:D<W9.heap.size:=lt_of_heap hK9;obtain⟨L2,hL2⟩:∃L2,L2=0::vh2.ownBlock.toList:=⟨_,rfl⟩;have hLp:∀k∈L2,k ∉ G7.foot∧k<W9.heap.size:=by
   intro k hk;rw[hL2]at hk;rcases List.mem_cons.1 hk with rfl|hk
   ·exact hTabf L9.gm
   ·simp at hk;exact⟨L8.newer (hvh.lt hk).1,(hvh.lt hk).2⟩
  have LL:LI w B c n G L2 [(bF,#[vF],112),(w.heap.size+1+1,#[.pointer (some ⟨G.bn,m*7,none⟩)],176),(w.heap.size+1,#[.int .u64 (m:Int)],144),(w.heap.size,#[.pointer (some ⟨G.bg,0,none⟩)],101)] [(vF,fr,B)] W9 s5 G7:=⟨L9.gm,L9.ch,L9.bx,L9.vt,hLp⟩;have hstH:=all_stops 19 bwh _ vh2 (s5.heirsOf m) L2 W9 hbwhc hvh (TT.out L9.ch) (fun g hg=>by rw[hL2];simp[hg]) (by rw[hL2];simp);have hL2lt:∀k∈L2,k<W9.heap.size:=fun k hk=>(hLp k hk).2
  have hhn:∀x∈s5.heirsOf m,x<n:=fun x hx=>wf.heirs hx
  have hhlen:(s5.heirsOf m).length≤40:=by have:=hvh.len hhn;omega
  have hw9:w.heap.size≤W9.heap.size:=L9.ch.kb.size;have HL9:=hide LL;have HK9:=hide hK9;clear LL L8 L9 hbwhc hvh k9 hLp hbwh kf9 hK9 HK8;gi_wp2
  refine wpIn_rangeFunc_ownG (α:=Mem (s5.heirsOf m)) (hro:=rfl) (h1:=by omega) (gf:=127) (lb:=#[.pointer (some ⟨bwh,0,none⟩)]) rfl trivial (enters_of Tryz.func127 (by kernel_rfl) rfl) hstH (fun h1 h2=>h1.trans h2) (kpB_b hL2lt) (Below.refl _ _) (fun _=>rfl)
   (fun pre W=>∃G',LI w B c n G L2 [(bF,#[vF],112),(w.heap.size+1+1,#[.pointer (some ⟨G.bn,m*7,none⟩)],176),(w.heap.size+1,#[.int .u64 (m:Int)],144),(w.heap.size,#[.pointer (some ⟨G.bg,0,none⟩)],101)] [(vF,fr,B)] W ((pre.map (·.1)).foldl (fun s h=>s.hand c fr m h) s5) G'∧WF n ((pre.map (·.1)).foldl (fun s h=>s.hand c fr m h) s5)∧((pre.map (·.1)).foldl (fun s h=>s.hand c fr m h) s5).un≤s5.un+pre.length∧W.heap[D]?=some (.deferred (some [])))
   (fun _ _ _=>False) ?hI4 (fun _ _ _ _ _ hs _ _=>hs) ⟨G7,HL9.out,wf,by simp,HK9.out⟩ ?a4 ?assign4 ?body4 ?done4 ?stop4
  case hI4=>
   rintro pre W W' row ⟨G',q1,q2,q3,q4⟩ hg hr;refine⟨G',q1.own hw9 hg hr,q2,q3,?_⟩;rw[← q4];exact(kb_grown hg).block D (lt_of_heap q4) (fun hm=>by have:=(hr D (by simpa using hm)).1;omega)
  case assign4=>
   intro l x W K hK;gi_wp2
   exact hK
  case body4=>
   rintro l pre ⟨x,hxT⟩ W ⟨G',q1,q2,q3,q4⟩ hlen;have hx:=hhn x hxT;have e8:((pre++[(⟨x,hxT⟩:Mem (s5.heirsOf m))]).map (·.1)).foldl (fun s h=>s.hand c fr m h) s5=((pre.map (·.1)).foldl (fun s h=>s.hand c fr m h) s5).hand c fr m x:=by rw[List.map_append,List.foldl_append];rfl
   have HE8:=hide e8;clear e8;generalize (pre.map (·.1)).foldl (fun s h=>s.hand c fr m h) s5=z0 at *;have cg:=q1.cell (b:=w.heap.size) (v:=.pointer (some ⟨G.bg,0,none⟩)) (T:=101) (by simp);have cn:=q1.cell (b:=w.heap.size+1) (v:=.int .u64 (m:Int)) (T:=144) (by simp);have HHd:=ghand_any hSu bF 0 m x fr W G' q1.gm q2 hm hx hfn (q1.arg (v:=vF) (by simp) (by simp) _) (by omega);rw[q1.ch.e1]at HHd;have HQ:=hide (And.intro q1 q4);clear q1 q4;dsimp only[encN,Array.zip,Array.foldl];gi_wp2
   refine⟨trivial,?_⟩;refine(CallsIn.inRound l (callsIn_wide.2 HHd)).mono ?_
   clear HHd;rintro e X1 ⟨rfl,G3,hG3,hC3⟩;obtain⟨d1,d2,d3⟩:=HQ.out.1.call hG3 hC3;have HD:=hide (And.intro d1 (And.intro d2 d3));clear d1 d2 d3 hG3 hC3;gi_wp2
   refine⟨HD.out.2.1 _,HD.out.2.2,G3,?_,?_,?_,kb_deferred HD.out.2.1 HQ.out.2 rfl⟩
   ·rw[HE8.out];exact HD.out.1
   ·rw[HE8.out];exact q2.hand hm hx hfn
   ·rw[HE8.out,St.hand_un,List.length_append];simp only[List.length_cons,List.length_nil];omega
  case stop4=>
   rintro D2 cc pre W _ _ hF _;exact hF.elim
  case done4=>
   rintro D2 xs2 W hD2 hxs2 ⟨G8,q1,q2,q3,q4⟩ hK2;rw[hxs2]at q1;clear q2 q3;generalize (s5.heirsOf m).foldl (fun s h=>s.hand c fr m h) s5=s6 at *;have cg:=q1.cell (b:=w.heap.size) (v:=.pointer (some ⟨G.bg,0,none⟩)) (T:=101) (by simp);have ci:=q1.cell (b:=w.heap.size+1+1) (v:=.pointer (some ⟨G.bn,m*7,none⟩)) (T:=176) (by simp);have r4:=q1.gm.reads.2.2.2.2.1;rw[q1.ch.e1]at r4;have hDD:D≠D2:=by omega
   have HEnd:Hid (∀(W:World) (G9:GV) (st:St),LI w B c n G L2 [(bF,#[vF],112),(w.heap.size+1+1,#[.pointer (some ⟨G.bn,m*7,none⟩)],176),(w.heap.size+1,#[.int .u64 (m:Int)],144),(w.heap.size,#[.pointer (some ⟨G.bg,0,none⟩)],101)] [(vF,fr,B)] W st G9→W.heap[D]?=some (.deferred (some []))→W.heap[D2]?=some (.deferred (some []))→(W.putObj D2 (.deferred none)).heap[D]?=some (.deferred (some []))∧LI w B c n G L2 [(bF,#[vF],112),(w.heap.size+1+1,#[.pointer (some ⟨G.bn,m*7,none⟩)],176),(w.heap.size+1,#[.int .u64 (m:Int)],144),(w.heap.size,#[.pointer (some ⟨G.bg,0,none⟩)],101)] [(vF,fr,B)] ((W.putObj D2 (.deferred none)).putObj D (.deferred none)) st G9):=by
    refine hide (fun W G9 st l1 l2 l3=>?_);have hk:=kb_grown (grownBy_putObj' W D2 (.deferred none));have h9:=(hk.block D (lt_of_heap l2) (by simp;omega)).trans l2;exact⟨h9,(l1.turned l3 rfl (by omega) (.deferred none)).turned h9 rfl (by omega) (.deferred none)⟩
   have hdl:c.deltas=true∨c.deltas=false:=by cases c.deltas<;>simp
   rcases hdl with hdl|hdl
   ·rw[hdl]at r4;have HUn:=gunite_any (7*m+1) bF 0 fr W G8 q1.gm (by omega) (q1.arg (v:=vF) (by simp) (by simp) _);rw[q1.ch.e2,show 7*m+1=m*7+1 by omega]at HUn;rw[show m*7+1=7*m+1 by omega]at HUn;have HU2:Calls Tryz.prog 120 #[.pointer (some ⟨G.bn,m*7+1,none⟩),.pointer (some ⟨bF,0,none⟩)] W fun e w'=>(∃b,e=.returned (.bool b))∧∃G',GM w' B c n G' (s.work c m)∧GCh W w' G8 G':=by
     rw[show m*7+1=7*m+1 by omega];refine HUn.mono ?_
     rintro e w' ⟨e1,G',e2,e3⟩;refine⟨⟨_,e1⟩,G',?_,e3⟩;rw[HS2.out,if_pos hdl];exact e2
    have HQ:=hide (And.intro q1 (And.intro q4 hK2));clear q1 q4 hK2 HUn HS2;gi_wp2
    refine⟨trivial,?_⟩;refine(callsIn_wide.2 HU2).mono ?_
    clear HU2;rintro e W10 ⟨⟨bu,rfl⟩,G10,hG10,hC10⟩;obtain⟨d1,d2,_⟩:=HQ.out.1.call hG10 hC10;have hKa:=kb_deferred d2 HQ.out.2.1 rfl;have hKb:=kb_deferred d2 HQ.out.2.2 rfl;obtain⟨f1,f2⟩:=HEnd.out _ _ _ d1 hKa hKb;have HF:=hide (And.intro f2.gm f2.ch);have HK:=hide (And.intro hKb f1);clear d1 d2 hKa hKb f1 f2 hG10 hC10;gi_wp2
    refine⟨by simp,.inl ⟨_,_,rfl,run_takeDeferred HK.out.1,?_⟩⟩;refine⟨by simp,.inl ⟨_,_,rfl,run_takeDeferred HK.out.2,?_⟩⟩;exact⟨_,results_none rfl _ _ _,rfl,_,HF.out.1,HF.out.2⟩
   ·rw[hdl]at r4;obtain⟨f1,f2⟩:=HEnd.out _ _ _ q1 q4 hK2;have e6:s.work c m=s6:=by rw[HS2.out,if_neg (by rw[hdl];decide)]
    have HF:=hide (And.intro f2.gm f2.ch);have HK:=hide (And.intro hK2 f1);have HE6:=hide e6;clear q1 q4 hK2 HS2 f1 f2 e6;gi_wp2
    refine⟨by simp,.inl ⟨_,_,rfl,run_takeDeferred HK.out.1,?_⟩⟩;refine⟨by simp,.inl ⟨_,_,rfl,run_takeDeferred HK.out.2,?_⟩⟩;exact⟨_,results_none rfl _ _ _,rfl,_,by rw[HE6.out];exact HF.out.1,HF.out.2⟩
 case stop=>
  rintro D cc pre W _ _ hF _;exact hF.elim
end
end Go.Proofs.YtiamlbhkiehilaaGreatDoor
