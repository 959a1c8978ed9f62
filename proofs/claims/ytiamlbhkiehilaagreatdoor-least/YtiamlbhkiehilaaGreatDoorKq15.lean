import Derived.Test.YtiamlbhkiehilaaGreatDoorKq14
import Derived.Defers
import Derived.Deep.RegionWith
import Derived.Recover
import Derived.Laws.EntriesVeiled
namespace Go.Proofs.YtiamlbhkiehilaaGreatDoor
section
open Go.RowKit Go.Shelf
attribute [local go_sem] Oper.semAt_some
variable {B:Nat} {c:Way} {n:Nat} {s:St}
def St.joined(s:St)(i j:Nat):St:={ s with rep:=fun m=>if s.rep m == j then i else s.rep m }
theorem gjoin_same(x y:Nat)(w:World)(G:GV)(h:GM w B c n G s)(hx:x<128)(hy:y<128)(he:s.rep x=s.rep y) :
  Calls Tryz.prog 161 #[.pointer (some ⟨G.bg,6,none⟩),.int .u64 x,.int .u64 y] w fun e w'=>e=.returned (.tuple #[.int .u64 (s.rep x:Nat),.int .u64 (s.rep x:Nat),.bool false])∧∃G',GM w' B c n G' s∧GCh w w' G G':=by
 refine(join_any B G.bg 6 (gcells c n G s.un) TG G.va G.ab s.rep x y w h.hB (by decide) h.hbg rfl h.oA h.cls hx hy (s.rep x) (s.rep x) false s.rep (.inl ⟨he,rfl,rfl,rfl,rfl⟩)).mono ?_
 rintro e w' ⟨rfl,v',ab',hI⟩;obtain⟨h1,h2⟩:=h.putA hI;exact⟨rfl,_,h1,h2⟩
theorem gjoin_new(x y:Nat)(w:World)(G:GV)(h:GM w B c n G s)(hx:x<128)(hy:y<128)(i j:Nat)(he:s.rep x≠s.rep y)(hi:i=min (s.rep x) (s.rep y))(hj:j=max (s.rep x) (s.rep y)) :
  Calls Tryz.prog 161 #[.pointer (some ⟨G.bg,6,none⟩),.int .u64 x,.int .u64 y] w fun e w'=>e=.returned (.tuple #[.int .u64 (i:Nat),.int .u64 (j:Nat),.bool true])∧∃G',GM w' B c n G' (s.joined i j)∧GCh w w' G G':=by
 refine(join_any B G.bg 6 (gcells c n G s.un) TG G.va G.ab s.rep x y w h.hB (by decide) h.hbg rfl h.oA h.cls hx hy i j true (s.joined i j).rep ?_).mono ?_
 ·rcases Nat.lt_or_ge (s.rep x) (s.rep y)with h1|h1
  ·exact .inr (.inl ⟨h1,by omega,by omega,rfl,rfl⟩)
  ·exact .inr (.inr ⟨by omega,by omega,by omega,rfl,rfl⟩)
 ·rintro e w' ⟨rfl,v',ab',hI⟩;obtain⟨h1,h2⟩:=h.putA hI;exact⟨rfl,_,h1,h2⟩
theorem gmeet_any(k b2 o2:Nat)(T:List Nat)(w:World)(G:GV)(h:GM w B c n G s)(hk:k<7*n)(ha:ArgS w B G k b2 o2 T) :
  Calls Tryz.prog 163 #[.pointer (some ⟨G.bn,k,none⟩),.pointer (some ⟨b2,o2,none⟩)] w fun e w'=>e=.returned (.tuple #[])∧∃G',GM w' B c n G' (s.put k (meetS (s.ss.getD k []) T))∧GCh w w' G G':=by
 obtain⟨v1,q1,q1',q1s⟩:=h.get hk;obtain⟨cs2,T2,v2,a1,a2,a3,a4,a5,a6,a7,a8⟩:=ha.ex;refine(meet_any B G.bn k b2 o2 G.nv.toArray cs2 TNd T2 v1 v2 _ T w (by decide) a3 h.hbn q1' a1 a2 a6 q1s a7 (a8 v1 q1)).mono ?_
 rintro e w' ⟨rfl,v',hS,hC⟩;obtain⟨p1,p2⟩:=h.putN q1 hC hS;exact⟨rfl,_,p1,p2⟩
set_option maxRecDepth 100000 in
set_option maxHeartbeats 4000000 in
theorem gmerge_same(a b:Nat)(w:World)(G:GV)(h:GM w B c n G s)(ha:a<n)(hb:b<n)(he:s.rep a=s.rep b) :
  Calls Tryz.prog 123 #[.pointer (some ⟨G.bg,0,none⟩),.int .u64 a,.int .u64 b] w fun e w'=>e=.returned (.bool false)∧∃G',GM w' B c n G' s∧GCh w w' G G':=by
 have hn:=h.n40;obtain⟨W0,hW0⟩:∃W0,W0=w.alloc (.cells #[.pointer (some ⟨G.bg,0,none⟩)] 101):=⟨_,rfl⟩;have k0:Kb [] w W0:=by rw[hW0];exact(Kb.refl [] w).alloc _
 have x0:W0.heap[w.heap.size]?=some (.cells #[.pointer (some ⟨G.bg,0,none⟩)] 101 (0,0)):=by rw[hW0];exact heap_new _ _
 have L0:=((LI.start h).fresh k0).1;have HJ:=gjoin_same a b W0 G L0.gm (by omega) (by omega) he;have HL:=hide L0;clear L0 h he;go_enter_defers Tryz.func123,Tryz.ntmps123
 go_wp2_with fail
 rw[← hW0];refine HJ.mono ?_
 clear HJ hW0 k0 x0;rintro e W1 ⟨rfl,G1,hG1,hC1⟩;have L1:=((HL.out.call hG1 hC1).1.fresh ((Kb.refl [] W1).alloc (.cells #[.int .u64 (s.rep a:Nat)] 144))).1;have HF:=hide (And.intro L1.gm L1.ch);clear L1 hG1 hC1;go_wp2_with fail
 exact⟨_,results_tmp rfl _ _ _,rfl,G1,HF.out⟩
set_option maxRecDepth 100000 in
set_option maxHeartbeats 40000000 in
theorem gmerge_new(a b i j:Nat)(w:World)(G:GV)(h:GM w B c n G s)(hw:WF n s)(ha:a<n)(hb:b<n)(hu:s.un+1<4611686018427387904)(he:s.rep a≠s.rep b)(hi:i=min (s.rep a) (s.rep b))(hj:j=max (s.rep a) (s.rep b)) :
  Calls Tryz.prog 123 #[.pointer (some ⟨G.bg,0,none⟩),.int .u64 a,.int .u64 b] w fun e w'=>e=.returned (.bool true)∧∃G',GM w' B c n G' (((s.fuse i j).wait i).clear j)∧GCh w w' G G':=by
 have hn:=h.n40;have hmf:∀(fn:Fn) (first cap:Array Value) (w:World),(Instr.makeFunc fn first cap).run Tryz.prog w=.ok (.func fn first cap) w:=fun _ _ _ _=>rfl
 have hra:=hw.lt ha;have hrb:=hw.lt hb;have hin:i<n:=by omega
 have hjn:j<n:=by omega
 have hij:i<j:=by omega
 obtain⟨W0,hW0⟩:∃W0,W0=w.alloc (.cells #[.pointer (some ⟨G.bg,0,none⟩)] 101):=⟨_,rfl⟩;have k0:Kb [] w W0:=by rw[hW0];exact(Kb.refl [] w).alloc _
 have x0:W0.heap[w.heap.size]?=some (.cells #[.pointer (some ⟨G.bg,0,none⟩)] 101 (0,0)):=by rw[hW0];exact heap_new _ _
 have L0:LI w B c n G [] [(w.heap.size,#[.pointer (some ⟨G.bg,0,none⟩)],101)] [] W0 s G:=((LI.start h).fresh k0).1.addBox x0 (fun hm=>by have:=h.footlt _ hm;omega);have HJ:=gjoin_new a b W0 G L0.gm (by omega) (by omega) i j he hi hj;have HL:=hide L0;have HI:=hide (And.intro hi hj);clear L0 h hi hj he hra hrb;go_enter_defers Tryz.func123,Tryz.ntmps123
 go_wp2_with fail
 rw[← hW0];refine HJ.mono ?_
 clear HJ hW0 k0 x0;rintro e W1 ⟨rfl,G1,hG1,hC1⟩;obtain⟨W2,hW2⟩:∃W2,W2=W1.alloc (.cells #[.int .u64 (j:Nat)] 144):=⟨_,rfl⟩;have L1:=(HL.out.call hG1 hC1).1;have k2:Kb [] W1 W2:=by rw[hW2];exact(Kb.refl [] W1).alloc _
 have x2:W2.heap[W1.heap.size]?=some (.cells #[.int .u64 (j:Int)] 144 (0,0)):=by rw[hW2];exact heap_new _ _
 have L2:=(L1.fresh k2).1.addBox x2 (L1.newer (Nat.le_refl _));have e2:=L2.ch.e2;have e1:=L2.ch.e1;have cb:=L2.cell (b:=w.heap.size) (v:=.pointer (some ⟨G.bg,0,none⟩)) (T:=101) (by simp);have cj:=L2.cell (b:=W1.heap.size) (v:=.int .u64 (j:Int)) (T:=144) (by simp);have r5:=L2.gm.reads.2.2.2.2.2.1;rw[e1,e2]at r5;have HL2:=hide L2;clear L1 L2 hG1 hC1 HL k2 x2;as_aux_lemma=>
  go_wp2_with fail
  rw[← hW2];have HW2:=hide hW2;clear hW2;as_aux_lemma=>
   obtain⟨WA,hWA⟩:∃WA,WA=W2.drew:=⟨_,rfl⟩;have LA:=(HL2.out.fresh (W':=WA) (by rw[hWA];exact(Kb.refl [] W2).drew)).1;have HLA:=hide LA;have HWA:=hide hWA;clear LA HL2 hWA;have ei:i*7=7*i:=Nat.mul_comm _ _;have ej:j*7=7*j:=Nat.mul_comm _ _;have HEI:=hide (And.intro ei ej);clear ei ej;go_region
   rw[← HWA.out];clear HWA HW2 cb cj r5 e1 e2;as_aux_lemma=>
    go_wp2_with fail
    have HU0:Hid (Calls Tryz.prog 120 #[.pointer (some ⟨G.bn,i*7,none⟩),.pointer (some ⟨G.bn,j*7,none⟩)] WA.drew fun e w'=>∃v,e=.returned v∧∃G' st',LI w B c n G [] [(W1.heap.size,#[.int .u64 (j:Int)],144),(w.heap.size,#[.pointer (some ⟨G.bg,0,none⟩)],101)] [] w' st' G'∧st'=(s.joined i j).put (7*i) (uniS ((s.joined i j).ss.getD (7*i) []) ((s.joined i j).ss.getD (7*j) []))):=by
     refine hide ?_
     have L:=(HLA.out.fresh (W':=WA.drew) (Kb.refl [] _).drew).1;have h9:=gunite_any (7*i) _ (7*j) _ WA.drew _ L.gm (by omega) (ArgS.own L.gm (by omega) (by omega));rw[L.ch.e2,← HEI.out.1,← HEI.out.2]at h9;refine h9.mono ?_
     rintro e w' ⟨rfl,G',g1,g2⟩;exact⟨_,rfl,G',_,(L.call g1 g2).1,by rw[HEI.out.1,HEI.out.2]⟩
    have HX0:=HU0.out;clear HU0 HLA;refine wp_nrm ?_ (fun _ _ h=>h);go_region_with (refine HX0.mono ?_;clear HX0;rintro e W3 ⟨v0,rfl,G3,st0,L3,e0⟩)
    dsimp only[nrm];as_aux_lemma=>
     have HL3:=hide L3;have HE0:=hide e0;clear L3 e0;go_wp2_with fail
     have HU1:Hid (Calls Tryz.prog 163 #[.pointer (some ⟨G.bn,i*7+1,none⟩),.pointer (some ⟨G.bn,j*7+1,none⟩)] W3.drew fun e w'=>∃v,e=.returned v∧∃G' st',LI w B c n G [] [(W1.heap.size,#[.int .u64 (j:Int)],144),(w.heap.size,#[.pointer (some ⟨G.bg,0,none⟩)],101)] [] w' st' G'∧st'=st0.put (7*i+1) (meetS (st0.ss.getD (7*i+1) []) (st0.ss.getD (7*j+1) []))):=by
      refine hide ?_
      have L:=(HL3.out.fresh (W':=W3.drew) (Kb.refl [] _).drew).1;have h9:=gmeet_any (7*i+1) _ (7*j+1) _ W3.drew _ L.gm (by omega) (ArgS.own L.gm (by omega) (by omega));rw[L.ch.e2,← HEI.out.1,← HEI.out.2]at h9;refine h9.mono ?_
      rintro e w' ⟨rfl,G',g1,g2⟩;exact⟨_,rfl,G',_,(L.call g1 g2).1,by rw[HEI.out.1,HEI.out.2]⟩
     have HX1:=HU1.out;clear HU1 HL3;refine wp_nrm ?_ (fun _ _ h=>h);go_region_with (refine HX1.mono ?_;clear HX1;rintro e W4 ⟨v1,rfl,G4,st1,L4,e1⟩)
     dsimp only[nrm];as_aux_lemma=>
      have HL4:=hide L4;have HE1:=hide e1;clear L4 e1;go_wp2_with fail
      have HU2:Hid (Calls Tryz.prog 120 #[.pointer (some ⟨G.bn,i*7+2,none⟩),.pointer (some ⟨G.bn,j*7+2,none⟩)] W4.drew fun e w'=>∃v,e=.returned v∧∃G' st',LI w B c n G [] [(W1.heap.size,#[.int .u64 (j:Int)],144),(w.heap.size,#[.pointer (some ⟨G.bg,0,none⟩)],101)] [] w' st' G'∧st'=st1.put (7*i+2) (uniS (st1.ss.getD (7*i+2) []) (st1.ss.getD (7*j+2) []))):=by
       refine hide ?_
       have L:=(HL4.out.fresh (W':=W4.drew) (Kb.refl [] _).drew).1;have h9:=gunite_any (7*i+2) _ (7*j+2) _ W4.drew _ L.gm (by omega) (ArgS.own L.gm (by omega) (by omega));rw[L.ch.e2,← HEI.out.1,← HEI.out.2]at h9;refine h9.mono ?_
       rintro e w' ⟨rfl,G',g1,g2⟩;exact⟨_,rfl,G',_,(L.call g1 g2).1,by rw[HEI.out.1,HEI.out.2]⟩
      have HX2:=HU2.out;clear HU2 HL4;refine wp_nrm ?_ (fun _ _ h=>h);go_region_with (refine HX2.mono ?_;clear HX2;rintro e W5 ⟨v2,rfl,G5,st2,L5,e2⟩)
      dsimp only[nrm];as_aux_lemma=>
       have HL5:=hide L5;have HE2:=hide e2;clear L5 e2;go_wp2_with fail
       have HU3:Hid (Calls Tryz.prog 120 #[.pointer (some ⟨G.bn,i*7+3,none⟩),.pointer (some ⟨G.bn,j*7+3,none⟩)] W5.drew fun e w'=>∃v,e=.returned v∧∃G' st',LI w B c n G [] [(W1.heap.size,#[.int .u64 (j:Int)],144),(w.heap.size,#[.pointer (some ⟨G.bg,0,none⟩)],101)] [] w' st' G'∧st'=st2.put (7*i+3) (uniS (st2.ss.getD (7*i+3) []) (st2.ss.getD (7*j+3) []))):=by
        refine hide ?_
        have L:=(HL5.out.fresh (W':=W5.drew) (Kb.refl [] _).drew).1;have h9:=gunite_any (7*i+3) _ (7*j+3) _ W5.drew _ L.gm (by omega) (ArgS.own L.gm (by omega) (by omega));rw[L.ch.e2,← HEI.out.1,← HEI.out.2]at h9;refine h9.mono ?_
        rintro e w' ⟨rfl,G',g1,g2⟩;exact⟨_,rfl,G',_,(L.call g1 g2).1,by rw[HEI.out.1,HEI.out.2]⟩
       have HX3:=HU3.out;clear HU3 HL5;refine wp_nrm ?_ (fun _ _ h=>h);go_region_with (refine HX3.mono ?_;clear HX3;rintro e W6 ⟨v3,rfl,G6,st3,L6,e3⟩)
       dsimp only[nrm];as_aux_lemma=>
        have HL6:=hide L6;have HE3:=hide e3;clear L6 e3;go_wp2_with fail
        have HU4:Hid (Calls Tryz.prog 120 #[.pointer (some ⟨G.bn,i*7+4,none⟩),.pointer (some ⟨G.bn,j*7+4,none⟩)] W6.drew fun e w'=>∃v,e=.returned v∧∃G' st',LI w B c n G [] [(W1.heap.size,#[.int .u64 (j:Int)],144),(w.heap.size,#[.pointer (some ⟨G.bg,0,none⟩)],101)] [] w' st' G'∧st'=st3.put (7*i+4) (uniS (st3.ss.getD (7*i+4) []) (st3.ss.getD (7*j+4) []))):=by
         refine hide ?_
         have L:=(HL6.out.fresh (W':=W6.drew) (Kb.refl [] _).drew).1;have h9:=gunite_any (7*i+4) _ (7*j+4) _ W6.drew _ L.gm (by omega) (ArgS.own L.gm (by omega) (by omega));rw[L.ch.e2,← HEI.out.1,← HEI.out.2]at h9;refine h9.mono ?_
         rintro e w' ⟨rfl,G',g1,g2⟩;exact⟨_,rfl,G',_,(L.call g1 g2).1,by rw[HEI.out.1,HEI.out.2]⟩
        have HX4:=HU4.out;clear HU4 HL6;refine wp_nrm ?_ (fun _ _ h=>h);go_region_with (refine HX4.mono ?_;clear HX4;rintro e W7 ⟨v4,rfl,G7,st4,L7,e4⟩)
        dsimp only[nrm];as_aux_lemma=>
         have HL7:=hide L7;have HE4:=hide e4;clear L7 e4;go_wp2_with fail
         have HU5:Hid (Calls Tryz.prog 120 #[.pointer (some ⟨G.bn,i*7+5,none⟩),.pointer (some ⟨G.bn,j*7+5,none⟩)] W7.drew fun e w'=>∃v,e=.returned v∧∃G' st',LI w B c n G [] [(W1.heap.size,#[.int .u64 (j:Int)],144),(w.heap.size,#[.pointer (some ⟨G.bg,0,none⟩)],101)] [] w' st' G'∧st'=st4.put (7*i+5) (uniS (st4.ss.getD (7*i+5) []) (st4.ss.getD (7*j+5) []))):=by
          refine hide ?_
          have L:=(HL7.out.fresh (W':=W7.drew) (Kb.refl [] _).drew).1;have h9:=gunite_any (7*i+5) _ (7*j+5) _ W7.drew _ L.gm (by omega) (ArgS.own L.gm (by omega) (by omega));rw[L.ch.e2,← HEI.out.1,← HEI.out.2]at h9;refine h9.mono ?_
          rintro e w' ⟨rfl,G',g1,g2⟩;exact⟨_,rfl,G',_,(L.call g1 g2).1,by rw[HEI.out.1,HEI.out.2]⟩
         have HX5:=HU5.out;clear HU5 HL7;refine wp_nrm ?_ (fun _ _ h=>h);go_region_with (refine HX5.mono ?_;clear HX5;rintro e W8 ⟨v5,rfl,G8,st5,L8,e5⟩)
         dsimp only[nrm];as_aux_lemma=>
          have HL8:=hide L8;have HE5:=hide e5;clear L8 e5;go_wp2_with fail
          have HU6:Hid (Calls Tryz.prog 120 #[.pointer (some ⟨G.bn,i*7+6,none⟩),.pointer (some ⟨G.bn,j*7+6,none⟩)] W8.drew fun e w'=>∃v,e=.returned v∧∃G' st',LI w B c n G [] [(W1.heap.size,#[.int .u64 (j:Int)],144),(w.heap.size,#[.pointer (some ⟨G.bg,0,none⟩)],101)] [] w' st' G'∧st'=st5.put (7*i+6) (uniS (st5.ss.getD (7*i+6) []) (st5.ss.getD (7*j+6) []))):=by
           refine hide ?_
           have L:=(HL8.out.fresh (W':=W8.drew) (Kb.refl [] _).drew).1;have h9:=gunite_any (7*i+6) _ (7*j+6) _ W8.drew _ L.gm (by omega) (ArgS.own L.gm (by omega) (by omega));rw[L.ch.e2,← HEI.out.1,← HEI.out.2]at h9;refine h9.mono ?_
           rintro e w' ⟨rfl,G',g1,g2⟩;exact⟨_,rfl,G',_,(L.call g1 g2).1,by rw[HEI.out.1,HEI.out.2]⟩
          have HX6:=HU6.out;clear HU6 HL8;refine wp_nrm ?_ (fun _ _ h=>h);go_region_with (refine HX6.mono ?_;clear HX6;rintro e W9 ⟨v6,rfl,G9,st6,L9,e6⟩)
          dsimp only[nrm];as_aux_lemma=>
           have HL9:=hide L9;have HE6:=hide e6;clear L9 e6;have hfu:st6=s.fuse i j:=by
            rw[HE6.out,HE5.out,HE4.out,HE3.out,HE2.out,HE1.out,HE0.out];rfl
           have hwf:WF n st6:=by rw[hfu];exact hw.fuse hin hjn hij
           have HFU:=hide hfu;clear hfu;have LB:=HL9.out;have cb:=HL9.out.cell (b:=w.heap.size) (v:=.pointer (some ⟨G.bg,0,none⟩)) (T:=101) (by simp);have r7:=HL9.out.gm.reads.2.2.2.2.2.2.1;rw[HL9.out.ch.e1,HL9.out.ch.e3]at r7;have HWt:=gwait_any i W9 _ LB.gm hwf hin;rw[LB.ch.e3]at HWt;have HLB:=hide LB;have HWF:=hide hwf;clear LB hwf;go_wp2_with fail
           refine HWt.mono ?_
           clear HWt;rintro e WZ ⟨rfl,GZ,hGZ,hCZ⟩;have LZ:=(HLB.out.call hGZ hCZ).1;have hw2:=HWF.out.wait hin;have hle:=hw2.lens;have hb1:=LZ.bx (w.heap.size,#[.pointer (some ⟨G.bg,0,none⟩)],101) (by simp);have hb2:=LZ.bx (W1.heap.size,#[.int .u64 (j:Int)],144) (by simp);have hun:(st6.wait i).un=s.un:=by
            rw[HFU.out];unfold St.wait;split<;>rfl
           have HCl:=gclear_d j w.heap.size W1.heap.size .returning WZ GZ LZ.gm hjn (by rw[hun];exact hu) (by have:=hle.1;omega) (by have:=hle.2;omega) (by rw[LZ.ch.e1];exact hb1.1) hb2.1 hb1.2 hb2.2;have HCh:=hide LZ.ch;clear LZ hb1 hb2 hun hle hw2 hGZ hCZ;go_wp2_with fail
           refine leaves_cons (f:=162) (args:=#[.pointer (some ⟨w.heap.size,0,none⟩),.pointer (some ⟨W1.heap.size,0,none⟩)]) (by simp) (by simp[go_sem]) ?_
           refine HCl.mono ?_
           rintro e u' w'' ⟨rfl,rfl,G',g1,g2⟩;refine⟨_,results_tmp rfl _ _ _,rfl,G',?_,HCh.out.trans g2⟩;rw[← HFU.out];exact g1
end
end Go.Proofs.YtiamlbhkiehilaaGreatDoor
