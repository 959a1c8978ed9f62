import Derived.Test.YtiamlbhkiehilaaGreatDoorKq17
import Derived.Test.YtiamlbhkiehilaaGreatDoorKq19
import Derived.Deep.LoopGhost
namespace Go.Proofs.YtiamlbhkiehilaaGreatDoor
section
open Go.RowKit Go.Shelf
attribute [local go_sem] Oper.semAt_some
variable {B:Nat} {c:Way} {n:Nat} {s:St}
def LookOK(B:Nat)(c:Way)(n k:Nat):Prop:=∀(s s':St) (w:World) (G:GV),GM w B c n G s→WF n s→TabAt w→s'.un+100000<4611686018427387904→s.lookForCycles k=some s' →
  Calls Tryz.prog 92 #[.pointer (some ⟨G.bg,0,none⟩)] w fun e w'=>e=.returned (.tuple #[])∧∃G',GM w' B c n G' s'∧GCh w w' G G'
def SubstOK(B:Nat)(c:Way)(n k:Nat):Prop:=∀(s s':St) (w:World) (G:GV),GM w B c n G s→WF n s→TabAt w→s'.un+100000<4611686018427387904→St.substitute k n k s=some s' →
  Calls Tryz.prog 111 #[.pointer (some ⟨G.bg,0,none⟩)] w fun e w'=>e=.returned (.tuple #[])∧∃G',GM w' B c n G' s'∧GCh w w' G G'
def TwinsOK(B:Nat)(c:Way)(n k:Nat):Prop:=∀(s s':St) (w:World) (G:GV),GM w B c n G s→WF n s→TabAt w→s'.un+100000<4611686018427387904→s.findTwins k n=some s' →
  Calls Tryz.prog 112 #[.pointer (some ⟨G.bg,0,none⟩)] w fun e w'=>e=.returned (.tuple #[])∧∃G',GM w' B c n G' s'∧GCh w w' G G'
set_option maxRecDepth 100000 in
theorem look_none(w:World)(G:GV)(h:GM w B c n G s)(hT:TabAt w)(hTl:0<B)(he:s.susp=[]) :
  Calls Tryz.prog 92 #[.pointer (some ⟨G.bg,0,none⟩)] w fun e w'=>e=.returned (.tuple #[])∧∃G',GM w' B c n G' s∧GCh w w' G G':=by
 obtain⟨W0,hW0⟩:∃W0,W0=w.alloc (.cells #[.pointer (some ⟨G.bg,0,none⟩)] 101):=⟨_,rfl⟩;have k0:Kb [] w W0:=by rw[hW0];exact(Kb.refl [] w).alloc _
 have h0:=h.fresh k0;have x0:W0.heap[w.heap.size]?=some (.cells #[.pointer (some ⟨G.bg,0,none⟩)] 101 (0,0)):=by rw[hW0];exact heap_new _ _
 have cx0:W0.cell? ⟨w.heap.size,0,none⟩=some (.pointer (some ⟨G.bg,0,none⟩)):=by rw[cell_at x0];rfl
 have HA:=all_any B G.bg 8 _ TG G.vs s.susp W0 h0.hbg rfl h0.sS;rw[he]at HA;refine(callsIn_wide (n:=20)).1 ?_
 refine callsIn_of_wp_marks Tryz.func92 rfl trivial ?_ rfl;simp only[Tryz.ntmps92,List.size_toArray,List.length_cons,List.length_nil,Nat.reduceAdd,Nat.reduceSub,Array.replicate_succ,Array.replicate_zero,List.push_toArray,List.append_toArray,List.nil_append,List.cons_append];rw[hW0]at HA cx0;gi_wp2
 refine⟨trivial,?_⟩;refine(callsIn_wide.2 HA).mono ?_
 clear HA;rintro e W1 ⟨bw,va,rfl,hbw,hbwc,hva,k1⟩;rw[← hW0]at hva k1 hbw;have k01:=k0.trans k1;have L1:=((LI.start h).fresh k01).1;obtain⟨L,hL⟩:∃L,L=0::va.ownBlock.toList:=⟨_,rfl⟩;have hLlt:∀k∈L,k<W1.heap.size:=by
  intro k hk;rw[hL]at hk;rcases List.mem_cons.1 hk with rfl|hk
  ·have:=L1.gm.hB;omega
  ·simp at hk;exact(hva.lt hk).2
 have hst:=all_stops 19 bw W0.heap.size va [] L W1 hbwc hva (hT.kb k01 (by simp)) (fun g hg=>by rw[hL];simp[hg]) (by rw[hL];simp);have hsz:=k01.size;have HL1:=hide L1;clear hva hbwc k1 hbw hW0 x0 cx0 k0 h0 L1 k01;gi_wp2
 refine wpIn_rangeFunc_ownH (α:=Mem []) (hro:=rfl) (h1:=by omega) (gf:=127) (lb:=#[.pointer (some ⟨bw,0,none⟩)]) rfl trivial (enters_of Tryz.func127 (by kernel_rfl) rfl) hst (fun h1 h2=>h1.trans h2) (kpB_b hLlt) (Below.refl _ _) (fun _=>rfl)
  (fun _ W=>LI w B c n G [] [] [] W s G) (fun _ _ _=>False) ?hI (fun _ _ _ _ _ hs _ _=>hs) HL1.out (fun _ _ _=>True) (fun _ _ _ _ _ _ _ _ _=>trivial) ?assign ?body ?done ?stop
 case hI=>
  rintro pre W W' row p1 hg hr;exact p1.own hsz hg hr
 case assign=>
  rintro l pre x W K _ _;exact absurd x.2 (by simp)
 case body=>
  rintro l pre x a' W _ _ _ _ _;exact absurd x.2 (by simp)
 case stop=>
  rintro D cc pre W _ _ hF _;exact hF.elim
 case done=>
  rintro D xs W hD hxs p1 hK;have pf:=p1.turned hK rfl (by omega) (.deferred none);have HF:=hide (And.intro pf.gm pf.ch);clear p1 pf;gi_wp2
  refine⟨by simp,.inl ⟨_,_,rfl,run_takeDeferred hK,?_⟩⟩;exact⟨_,results_none rfl _ _ _,rfl,_,HF.out.1,HF.out.2⟩
set_option maxRecDepth 100000 in
theorem gahead_any(k:Nat)(hS:c.subst=true→SubstOK B c n k)(hW:c.collapse=true→TwinsOK B c n k)(s':St)(w:World)(G:GV)(h:GM w B c n G s)(hw:WF n s)(hTl:0<B)(hT:TabAt w)(hu:s'.un+100000<4611686018427387904)(he:s.lookAhead k c n=some s')
  (hmid:∀s1:St,c.subst=true→St.substitute k n k s=some s1→WU n s s1) (hmid2:∀s1:St,c.collapse=true→s1.findTwins k n=some s'→s1.un≤s'.un) :
  Calls Tryz.prog 89 #[.pointer (some ⟨G.bg,0,none⟩)] w fun e w'=>e=.returned (.tuple #[])∧∃G',GM w' B c n G' s'∧GCh w w' G G':=by
 obtain⟨r0,r1,r2,r3,r4,r5,r7,r9,r9f⟩:=h.reads;have TT:Hid (∀ {W:World} {G':GV},GCh w W G G'→TabAt W):=hide (fun hc=>hT.kb hc.kb (fun hm=>by have:=(h.cells hm).1;omega))
 -- what comes behind
 have part2:∀(s1:St) (W:World) (G1:GV),GM W B c n G1 s1→WF n s1→GCh w W G G1→(if c.collapse then s1.findTwins k n else some s1)=some s'→c.collapse=true→Calls Tryz.prog 112 #[.pointer (some ⟨G.bg,0,none⟩)] W fun e w'=>e=.returned (.tuple #[])∧∃G',GM w' B c n G' s'∧GCh w w' G G':=by
  intro s1 W G1 hG1 hw1 hC1 e1 hc;rw[if_pos hc]at e1;have:=hW hc s1 s' W G1 hG1 hw1 (TT.out hC1) hu e1;rw[hC1.e1]at this;refine this.mono ?_
  rintro e w' ⟨p1,G2,p2,p3⟩;exact⟨p1,G2,p2,hC1.trans p3⟩
 have HP2:=hide part2;clear part2 r0 r1 r4 r5 r7 r9 r9f;unfold St.lookAhead at he;have hsb:c.subst=true∨c.subst=false:=by cases c.subst<;>simp
 have hcl:c.collapse=true∨c.collapse=false:=by cases c.collapse<;>simp
 go_enter Tryz.func89,Tryz.ntmps89
 rcases hsb with hsb|hsb
 ·rw[if_pos hsb]at he;cases hs1:St.substitute k n k s with
  |none=>rw[hs1]at he;cases he
  |some s1=>
   rw[hs1]at he;have he2:(if c.collapse then s1.findTwins k n else some s1)=some s':=he;have hwu:=hmid s1 hsb hs1;have hu1:s1.un≤s'.un:=by
    rcases hcl with hcl|hcl
    ·rw[if_pos hcl]at he2;exact hmid2 s1 hcl he2
    ·rw[if_neg (by rw[hcl];decide)]at he2;cases he2;exact Nat.le_refl _
   have HSu:=hS hsb s s1 w G h hw hT (by omega) hs1;rw[hsb]at r3;clear he h;go_wp2_with fail
   refine HSu.mono ?_
   clear HSu;rintro e w1 ⟨rfl,G1,hG1,hC1⟩;have q2:=hG1.reads.2.2.1;rw[hC1.e1]at q2;rcases hcl with hcl|hcl
   ·have HT:=HP2.out s1 w1 G1 hG1 hwu.1 hC1 he2 hcl;rw[hcl]at q2;clear hG1 hC1;go_wp2_with fail
    refine HT.mono ?_
    clear HT;rintro e w2 ⟨rfl,HF⟩;replace HF:=hide HF;go_wp2;go_end0
    exact⟨rfl,HF.out⟩
   ·rw[hcl]at q2;rw[if_neg (by rw[hcl];decide)]at he2;cases he2;have HF:=hide (And.intro hG1 hC1);clear hG1 hC1;go_wp2;go_end0
    exact⟨rfl,_,HF.out⟩
 ·rw[if_neg (by rw[hsb];decide)]at he;have he2:(if c.collapse then s.findTwins k n else some s)=some s':=he;rw[hsb]at r3;clear he;rcases hcl with hcl|hcl
  ·have HT:=HP2.out s w G h hw (GCh.refl _ _) he2 hcl;rw[hcl]at r2;clear h;go_wp2_with fail
   refine HT.mono ?_
   clear HT;rintro e w2 ⟨rfl,HF⟩;replace HF:=hide HF;go_wp2;go_end0
   exact⟨rfl,HF.out⟩
  ·rw[hcl]at r2;rw[if_neg (by rw[hcl];decide)]at he2;cases he2;have HF:=hide (And.intro h (GCh.refl w G));clear h;go_wp2;go_end0
   exact⟨rfl,_,HF.out⟩
def pw(c:Way):Prop:=c.cycles=false∧c.collapse=false∧c.subst=false
def SR(w:World)(B:Nat)(c:Way)(n:Nat)(G:GV)(k:Nat)(sF:St)(vn vok:Value)(W:World)(j:Nat):Prop:=
 ∃s1 G1,GM W B c n G1 s1∧WF n s1∧GCh w W G G1∧(pw c→Plain s1) ∧
  ((vok=.bool false∧s1=sF)∨∃m,vok=.bool true∧vn=.int .u64 ((m:Nat):Int)∧m<n∧((s1.work c m).lookForCycles k).bind (St.solveL k c j)=some sF)
theorem sr_next{w:World}{G:GV}{k j:Nat}{sF s2:St}{W W':World}{G2:GV}(hw:WF n s2)(hC:GCh w W G G2)(hp:pw c→Plain s2)(he:St.solveL k c (j+1) s2=some sF){e:Ending}(h:NextR B c n s2 W G2 e W') :
  ∃vn vok,e=.returned (.tuple #[vn,vok])∧SR w B c n G k sF vn vok W' j:=by
 have h1:=hw.wnext c.order;unfold St.solveL at he;rcases h with⟨s',e1,e2,G',hG',hC'⟩|⟨m,s',e1,e2,G',hG',hC'⟩
 ·rw[e1]at he h1;refine⟨_,_,e2,s',G',hG',h1.1,hC.trans hC',fun hpw=>?_,.inl ⟨rfl,?_⟩⟩
  ·have:=(hp hpw).next c.order
   rw[e1]at this;exact this
  ·injection he
 ·have hlt:=hw.next_lt e1;rw[e1]at he h1;refine⟨_,_,e2,s',G',hG',h1.1,hC.trans hC',fun hpw=>?_,.inr ⟨m,rfl,rfl,hlt,he⟩⟩;have:=(hp hpw).next c.order
  rw[e1]at this;exact this
set_option maxRecDepth 100000 in
set_option maxHeartbeats 2000000 in
theorem gsolve_any(k:Nat)(hSo:c.order=2→SortOK B)(hN:¬pw c→SusOK B c n∧MergeOK B c n∧LookOK B c n k∧(c.subst=true→SubstOK B c n k)∧(c.collapse=true→TwinsOK B c n k))(sA sF:St)(w:World)(G:GV)(h:GM w B c n G s)(hw:WF n s)(hT:TabAt w)(hTl:0<B)(hp:pw c→Plain s)
  (hA:s.lookAhead k c n=some sA) (hwA:WU n s sA) (hF:St.solveL k c k sA=some sF) (hu:sF.un+200000<4611686018427387904)
  (hmid:∀s1:St,c.subst=true→St.substitute k n k s=some s1→WU n s s1) (hmid2:∀s1:St,c.collapse=true→s1.findTwins k n=some sA→s1.un≤sA.un) :
  Calls Tryz.prog 58 #[.pointer (some ⟨G.bg,0,none⟩)] w fun e w'=>e=.returned (.tuple #[])∧∃G',GM w' B c n G' sF∧GCh w w' G G':=by
 have hF0:=(hwA.1.wsolveL k hF).2;have TT:Hid (∀ {W:World} {G':GV},GCh w W G G'→TabAt W):=hide (fun hc=>hT.kb hc.kb (fun hm=>by have:=(h.cells hm).1;omega));have hpA:pw c→Plain sA:=by
  intro hpw;have h1:=hp hpw;unfold St.lookAhead at hA;rw[if_neg (by rw[hpw.2.2];decide)]at hA;have hA2:(if c.collapse then s.findTwins k n else some s)=some sA:=hA;rw[if_neg (by rw[hpw.2.1];decide)]at hA2;cases hA2;exact h1
 have nps:c.subst=true→¬pw c:=fun e hpw=>by rw[hpw.2.2]at e;cases e
 have npc:c.collapse=true→¬pw c:=fun e hpw=>by rw[hpw.2.1]at e;cases e
 have npy:c.cycles=true→¬pw c:=fun e hpw=>by rw[hpw.1]at e;cases e
 have HAh:=gahead_any k (fun e=>(hN (nps e)).2.2.2.1 e) (fun e=>(hN (npc e)).2.2.2.2 e) sA w G h hw hTl hT (by omega) hA hmid hmid2;have HStep:Hid (∀(s1:St) (m:Nat) (W:World) (G1:GV),GM W B c n G1 s1→WF n s1→GCh w W G G1→(pw c→Plain s1)→m<n→s1.un≤sF.un→Calls Tryz.prog 91 #[.pointer (some ⟨G.bg,0,none⟩),.int .u64 ((m:Nat):Int)] W fun e w'=>e=.returned (.tuple #[])∧∃G',GM w' B c n G' (s1.work c m)∧GCh w w' G G'):=by
  refine hide (fun s1 m W G1 hG1 hw1 hC1 hp1 hm hu1=>?_);have hMg:s1.tw m≠[]→MergeOK B c n:=by
   intro hne;by_cases hpw:pw c
   ·exact absurd ((hp1 hpw).2 m) hne
   ·exact(hN hpw).2.1
  have:=gwork_any (fun e=>(hN (npy e)).1) m hMg W G1 hG1 hw1 (TT.out hC1) hTl hm (by omega);rw[hC1.e1]at this;refine this.mono ?_
  rintro e w' ⟨p1,G2,p2,p3⟩;exact⟨p1,G2,p2,hC1.trans p3⟩
 have HLook:Hid (∀(s1 s2:St) (W:World) (G1:GV),GM W B c n G1 s1→WF n s1→GCh w W G G1→(pw c→Plain s1)→s2.un≤sF.un→s1.lookForCycles k=some s2→Calls Tryz.prog 92 #[.pointer (some ⟨G.bg,0,none⟩)] W fun e w'=>e=.returned (.tuple #[])∧∃G',GM w' B c n G' s2∧GCh w w' G G'):=by
  refine hide (fun s1 s2 W G1 hG1 hw1 hC1 hp1 hu2 he=>?_);rw[← hC1.e1];by_cases hpw:pw c
  ·rw[(hp1 hpw).look]at he;cases he;refine(look_none W G1 hG1 (TT.out hC1) hTl (hp1 hpw).1).mono ?_
   rintro e w' ⟨p1,G2,p2,p3⟩;exact⟨p1,G2,p2,hC1.trans p3⟩
  ·refine((hN hpw).2.2.1 s1 s2 W G1 hG1 hw1 (TT.out hC1) (by omega) he).mono ?_
   rintro e w' ⟨p1,G2,p2,p3⟩;exact⟨p1,G2,p2,hC1.trans p3⟩
 obtain⟨kk,hkk⟩:∃kk,k=kk+1:=by
  cases k with
  |zero=>cases hF
  |succ kk=>exact⟨kk,rfl⟩
 have HF:=hide hF;clear h hT hN hA hmid hmid2 hp hF;go_enter Tryz.func58,Tryz.ntmps58
 go_wp2_with fail
 refine HAh.mono ?_
 clear HAh;rintro e w1 ⟨rfl,G1,hG1,hC1⟩;have q7:=hG1.reads.2.2.2.2.2.2.1;rw[hC1.e1]at q7;have HNx:=gnext_any hSo w1 G1 hG1 hwA.1;have H1:=hide (And.intro hG1 hC1);clear hG1 hC1;go_wp2_with fail
 refine HNx.mono ?_
 clear HNx q7;rintro e w2 hR;obtain⟨vn,vok,rfl,hSR⟩:=sr_next (sF:=sF) (k:=k) (j:=kk) hwA.1 H1.out.2 hpA (by rw[← hkk];exact HF.out) hR;clear hR;replace hSR:=hide hSR;go_wp2_with fail
 go_loopw [2,3] (fun vn vok wr=>∃j,Hid (SR w B c n G k sF vn vok wr j)) (fun vn vok wr=>leastOf (fun j=>Hid (SR w B c n G k sF vn vok wr j)))
 case atStart=>exact⟨kk,hSR⟩
 case round=>
  have hrel2:=(leastOf_spec hrel).1;obtain⟨j,hj⟩:∃j,j=leastOf (fun j=>Hid (SR w B c n G k sF u2 u3 wr j)):=⟨_,rfl⟩;rw[← hj]at hrel2;have HJ:=hide hj;obtain⟨s1,G2,hG2,hw2,hC2,hp2,hcase⟩:=hrel2.out;clear hrel hrel2 hj;rcases hcase with⟨rfl,rfl⟩|⟨m,rfl,rfl,hm,hb⟩
  ·have HFi:=hide (And.intro hG2 hC2);clear hG2 hC2;go_wp2;go_end0
   exact⟨rfl,_,HFi.out⟩
  ·have hwk:=hw2.wwork c hm;cases hlk:(s1.work c m).lookForCycles k with
   |none=>rw[hlk]at hb;cases hb
   |some s3=>
    rw[hlk]at hb;have hb2:St.solveL k c j s3=some sF:=hb;have hwl:=hwk.1.wlook hlk;have hws:=hwl.1.wsolveL j hb2;have u1:=hwk.2;have u2:=hwl.2;have u3:=hws.2;obtain⟨jj,hjj⟩:∃jj,j=jj+1:=by
     cases j with
     |zero=>cases hb2
     |succ jj=>exact⟨jj,rfl⟩
    have HW:=HStep.out s1 m wr G2 hG2 hw2 hC2 hp2 hm (by omega);have HB2:=hide hb2;have HLK:=hide hlk;clear hG2 hC2 hb hb2 hlk;go_wp2_with fail
    refine HW.mono ?_
    clear HW;rintro e w3 ⟨rfl,G3,hG3,hC3⟩;have hp3:pw c→Plain (s1.work c m):=fun hpw=>(hp2 hpw).work hpw.1 m
    have HLo:=HLook.out (s1.work c m) s3 w3 G3 hG3 hwk.1 hC3 hp3 (by omega) HLK.out;clear hG3 hC3;go_wp2_with fail
    refine HLo.mono ?_
    clear HLo;rintro e w4 ⟨rfl,G4,hG4,hC4⟩;have hp4:pw c→Plain s3:=fun hpw=>by
     have h9:=HLK.out;rw[(hp3 hpw).look]at h9;cases h9;exact hp3 hpw
    have q7:=hG4.reads.2.2.2.2.2.2.1;rw[hC4.e1]at q7;have HNx:=gnext_any hSo w4 G4 hG4 hwl.1;have H4:=hide (And.intro hG4 hC4);clear hG4 hC4;go_wp2_with fail
    refine HNx.mono ?_
    clear HNx q7;rintro e w5 hR;obtain⟨vn2,vok2,rfl,hSR2⟩:=sr_next (sF:=sF) (k:=k) (j:=jj) hwl.1 H4.out.2 hp4 (by rw[← hjj];exact HB2.out) hR;clear hR;replace hSR2:=hide hSR2;go_wp2;go_roundw
    case rel=>exact⟨jj,hSR2⟩
    case measure=>
     have h1:=(leastOf_spec (p:=fun j=>Hid (SR w B c n G k sF vn2 vok2 w5 j)) ⟨_,hSR2⟩).2 _ hSR2;rw[← HJ.out];omega
end
end Go.Proofs.YtiamlbhkiehilaaGreatDoor
