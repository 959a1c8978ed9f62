import Derived.Test.YtiamlbhkiehilaaGreatDoorKq35
import Derived.Test.YtiamlbhkiehilaaGreatDoorKq07
import Derived.Deep.RegionWith
namespace Go.Proofs.YtiamlbhkiehilaaGreatDoor
section
open Go.RowKit
theorem wp_nrmQ{P:Program}{c:Code}{K:Act→World→Prop}{Q:Exit→Act→World→Prop}{a:Act}{w:World}(h:c.wp P (nrm K) a w)(hK:∀a w,K a w→Q .normal a w):c.wp P Q a w:=
 Code.wp_mono (fun e a w h=>by cases e<;>first|exact hK _ _ h|exact h.elim) h
def numF(ns:List ByteArray)(f:Fct):Int × Nat × Nat:=(f.k,insAt ns f.p,insAt ns f.q)
theorem infoNd:(Tryz.prog.info? 148).map (fun i=>(i.zero,i.size,i.bytes))=some (some (.agg (Array.replicate 7 (.slice none 0 0))),7,168):=by kernel_rfl
theorem made_nodes(n:Nat):madeCells (Value.agg (Array.replicate 7 (.slice none 0 0))).cells (n*7)=(List.replicate (7*n) (Value.slice none 0 0)).toArray:=by
 have e:(Value.agg (Array.replicate 7 (.slice none 0 0))).cells=Array.replicate 7 (Value.slice none 0 0):=rfl;rw[e];apply Array.ext
 ·simp[madeCells,Nat.mul_comm]
 ·intro i h1 h2;simp only[madeCells,Array.getElem_map,Array.getElem_range,Array.size_replicate];rw[getElem!_pos _ _ (by simp;omega)];simp
theorem wf_st0{n:Nat}(hn:n≤40):WF n (st0 n):=by
 refine⟨hn,by simp[st0],by simp[st0],by simp[st0],by simp[st0],fun k x hx=>?_,by simp[st0],fun i=>Nat.le_refl _⟩;simp only[st0,List.getD_eq_getElem?_getD,List.getElem?_replicate]at hx;split at hx<;>simp at hx
theorem WF.lay{n:Nat}{s:St}(h:WF n s){k:Int}{p q:Nat}(hp:p<n)(hq:q<n):WF n (s.lay k p q):=by
 unfold St.lay;split
 ·exact h.addAt (by omega) hq
 ·split
  ·exact h.addAt (by omega) hp
  ·split
   ·exact h.addAt (by omega) hp
   ·split
    ·exact h.addAt (by omega) hq
    ·exact h
theorem three_new(W0:World)(o1 o2 o3:Obj):(((W0.alloc o1).alloc o2).alloc o3).heap[W0.heap.size]?=some o1∧(((W0.alloc o1).alloc o2).alloc o3).heap[W0.heap.size+1]?=some o2∧(((W0.alloc o1).alloc o2).alloc o3).heap[W0.heap.size+1+1]?=some o3:=by
 refine⟨heap_old (heap_old (heap_new _ _) _) _,?_,?_⟩
 ·have:=heap_new (W0.alloc o1) o2;rw[World.size_alloc]at this;exact heap_old this _
 ·have:=heap_new ((W0.alloc o1).alloc o2) o3;rw[World.size_alloc,World.size_alloc]at this;exact this
theorem gm_new{W:World}{B:Nat}{c:Way}{n bg bn bl:Nat}(hn:n≤40)(ho:0≤c.order∧c.order≤2)(hB:B≤W.heap.size)(b1:B≤bg)(b2:B≤bn)(b3:B≤bl)
  (h1:W.heap[bg]?=some (.cells #[.int .i64 c.order,.bool c.cycles,.bool c.collapse,.bool c.subst,.bool c.deltas,.slice (some ⟨bn,0,none⟩) n n,.slice none 0 0,.pointer (some ⟨bl,0,none⟩),.slice none 0 0,.int .i64 0] TG (0,0)))
  (h2:W.heap[bn]?=some (.cells (List.replicate (7*n) (Value.slice none 0 0)).toArray TNd (0,0)))
  (h3:W.heap[bl]?=some (.cells #[.int .i64 c.order,.slice none 0 0,.slice none 0 0,.slice none 0 0] TL (0,0))) :
  GM W B c n ⟨bg,bn,bl,n,List.replicate (7*n) (.slice none 0 0),.slice none 0 0,.slice none 0 0,.slice none 0 0,.slice none 0 0,.slice none 0 0,[]⟩ (st0 n):=by
 have ap:∀v,Apart (.slice none 0 0) v:=fun v g hg=>by cases hg
 refine⟨hB,h1,h2,h3,by simp,by simp[st0],fun k v t hv ht=>?_,SetV.nil _ _,SetV.nil _ _,fun j k v v' _ hv _=>?_,fun k v hv=>?_,fun k v hv=>?_,ap _,OwnN.nil _ _,ClsR.nil,OwnN.nil _ _,OwnN.nil _ _,ap _,ap _,ap _,⟨b1,b2,b3⟩,hn,by simp[st0],by simp[st0],ho⟩
 ·rw[List.getElem?_replicate]at hv;simp only[st0,List.getElem?_replicate]at ht;split at hv
  ·cases hv;rw[if_pos (by assumption)]at ht;cases ht;exact SetV.nil _ _
  ·cases hv
 ·rw[List.getElem?_replicate]at hv;split at hv
  ·cases hv;exact ap _
  ·cases hv
 ·rw[List.getElem?_replicate]at hv;split at hv
  ·cases hv;exact ap _
  ·cases hv
 ·rw[List.getElem?_replicate]at hv;split at hv
  ·cases hv;exact ap _
  ·cases hv
set_option maxRecDepth 100000 in
set_option maxHeartbeats 40000000 in
theorem newGraph_any(v vn:Value)(fs:List Fct)(ns:List ByteArray)(c:Way)(w:World)(hlen:fs.length≤1000)(hv:IsFacts v fs w)(hvn:IsStrs vn ns w)(hns:ns.length≤40)(ha:Asc ns)(hin:∀f∈fs,(1≤f.k∧f.k≤4)∧f.p∈ns∧f.q∈ns)(ho:0≤c.order∧c.order≤2) :
  Calls Tryz.prog 57 #[v,vn,.agg #[.int .i64 c.order,.bool c.cycles,.bool c.collapse,.bool c.subst,.bool c.deltas]] w fun e w'=>∃G,e=.returned (.pointer (some ⟨G.bg,0,none⟩))∧GM w' w.heap.size c ns.length G (St.start ns.length (fs.map (numF ns)))∧Below w.heap.size w w':=by
 have HVN:=hide hvn;have HV:=hide hv;obtain⟨ao,cap,rfl,h1,h2,h3⟩:=hvn;obtain⟨ao2,cap2,rfl,g1,g2,g3⟩:=hv;clear h1 h2 h3 g1 g2 g3;obtain⟨W0,hW0⟩:∃W0,W0=w.alloc (.cells #[.int .i64 c.order,.bool c.cycles,.bool c.collapse,.bool c.subst,.bool c.deltas] 24):=⟨_,rfl⟩;have b0:Below w.heap.size w W0:=by rw[hW0];exact(Below.refl _ _).alloc (Nat.le_refl _) _
 have y0:W0.heap[w.heap.size]?=some (.cells #[.int .i64 c.order,.bool c.cycles,.bool c.collapse,.bool c.subst,.bool c.deltas] 24 (0,0)):=by rw[hW0];exact heap_new _ _
 obtain⟨NC,hNC⟩:∃NC,NC=(List.replicate (7*ns.length) (Value.slice none 0 0)).toArray:=⟨_,rfl⟩;have hmk:∀w:World,(Instr.makeSlice 105 (.int .i64 (ns.length:Int)) (.int .i64 (ns.length:Int))).run Tryz.prog w=.ok (.slice (some ⟨w.heap.size,0,none⟩) ns.length ns.length) (w.alloc (.cells NC 148)):=by
  intro w;obtain⟨i0,hi0,hz0,hz1,hz2⟩:=info_parts infoNd;have:=run_make (P:=Tryz.prog) w 105 148 i0 _ Tryz.underlying105 hi0 hz0 .i64 .i64 ns.length ns.length (by omega) (Int.le_refl _) (by rw[hz2];omega) (by omega);rw[this,hz1,hNC];simp only[Int.toNat_natCast];rw[made_nodes]
 have HK:=wnew_any c.order;go_enter Tryz.func57,Tryz.ntmps57
 go_wp2_with fail
 rw[← hW0];refine wp_nrm (K:=fun a W=>∃G u11 u12 u13 u14 u15 u16 u17 u18 u19,GM W w.heap.size c ns.length G (st0 ns.length)∧Below w.heap.size w W∧a={ tmps:=#[.slice ao2 fs.length cap2,.slice ao ns.length cap,.agg #[.int .i64 c.order,.bool c.cycles,.bool c.collapse,.bool c.subst,.bool c.deltas],undef,undef,.pointer (some ⟨w.heap.size,0,none⟩),.pointer none,.pointer (some ⟨G.bg,0,none⟩),undef,undef,undef,u11,u12,u13,u14,u15,u16,u17,u18,u19,undef,undef,undef,undef,undef,undef,undef,undef,undef,undef,undef,undef,undef,undef,undef,undef,undef,undef,undef,undef,undef,undef,undef,undef,undef,undef,undef,undef,undef,undef,undef,undef,undef,undef,undef,undef,undef,undef,undef,undef,undef,undef,undef,undef,undef],defers:=[] }) ?_ ?_
 ·have c0:W0.cell? ⟨w.heap.size,0,none⟩=some (.int .i64 c.order):=by rw[cell_at y0];rfl
  have c1:W0.cell? ⟨w.heap.size,1,none⟩=some (.bool c.cycles):=by rw[cell_at y0];rfl
  have c2:W0.cell? ⟨w.heap.size,2,none⟩=some (.bool c.collapse):=by rw[cell_at y0];rfl
  have c3:W0.cell? ⟨w.heap.size,3,none⟩=some (.bool c.subst):=by rw[cell_at y0];rfl
  have c4:W0.cell? ⟨w.heap.size,4,none⟩=some (.bool c.deltas):=by rw[cell_at y0];rfl
  have d0:=fun o=>cell_at (heap_old y0 o)
  have d1:=fun o o'=>cell_at (heap_old (heap_old y0 o) o')
  have hsz:=b0.size;clear y0 hW0;have HNC:=hide hNC;clear hNC;go_region_with (refine(HK _).mono ?_;rintro e w2 ⟨rfl,rfl⟩)
  all_goals first
   | (refine⟨⟨W0.heap.size+1+1,W0.heap.size,W0.heap.size+1,ns.length,List.replicate (7*ns.length) (.slice none 0 0),.slice none 0 0,.slice none 0 0,.slice none 0 0,.slice none 0 0,.slice none 0 0,[]⟩,_,_,_,_,_,_,_,_,_,gm_new hns ho ?_ ?_ ?_ ?_ (three_new W0.drew _ _ _).2.2 (by rw[← HNC.out];exact(three_new W0.drew _ _ _).1) (three_new W0.drew _ _ _).2.1,?_,rfl⟩
      ·simp;omega
      ·omega
      ·omega
      ·omega
      ·exact(((b0.drew.alloc (by exact hsz) _).alloc (by simp;omega) _).alloc (by simp;omega) _))
   | (refine⟨⟨W0.heap.size+1+1,W0.heap.size+1,W0.heap.size,ns.length,List.replicate (7*ns.length) (.slice none 0 0),.slice none 0 0,.slice none 0 0,.slice none 0 0,.slice none 0 0,.slice none 0 0,[]⟩,_,_,_,_,_,_,_,_,_,gm_new hns ho ?_ ?_ ?_ ?_ (three_new W0.drew _ _ _).2.2 (by rw[← HNC.out];exact(three_new W0.drew _ _ _).2.1) (three_new W0.drew _ _ _).1,?_,rfl⟩
      ·simp;omega
      ·omega
      ·omega
      ·omega
      ·exact(((b0.drew.alloc (by exact hsz) _).alloc (by simp;omega) _).alloc (by simp;omega) _))
 rintro a W ⟨G,u11,u12,u13,u14,u15,u16,u17,u18,u19,hG,hb,rfl⟩;clear hW0 y0 hNC hmk HK b0;go_wp2;have HFin:Hid (St.start ns.length (fs.map (numF ns))=(List.range ns.length).foldl (fun s i=>if(s.tg i).isEmpty then s else s.wait i) (fs.foldl (fun s f=>s.lay f.k (insAt ns f.p) (insAt ns f.q)) (st0 ns.length))):=by
  refine hide ?_
  unfold St.start;rw[List.foldl_map];rfl
 go_loopw [22] (fun iv wr=>∃i:Nat,∃G',iv=.int .i64 i∧i≤fs.length∧GM wr w.heap.size c ns.length G' ((fs.take i).foldl (fun s f=>s.lay f.k (insAt ns f.p) (insAt ns f.q)) (st0 ns.length))∧Below w.heap.size w wr∧G'.bg=G.bg∧WF ns.length ((fs.take i).foldl (fun s f=>s.lay f.k (insAt ns f.p) (insAt ns f.q)) (st0 ns.length))) (fun iv _=>fs.length-(intOf iv).toNat)
 case atStart=>exact⟨0,G,rfl,Nat.zero_le _,hG,hb,rfl,wf_st0 hns⟩
 case round=>
  obtain⟨i,G',rfl,hi,hG',hb',eb,hwf⟩:=hrel;by_cases h1:i<fs.length
  ·obtain⟨f,hr⟩:∃f,fs[i]?=some f:=⟨_,List.getElem?_eq_getElem h1⟩;have hnil:fs≠[]:=by intro e;rw[e]at h1;simp at h1
   obtain⟨ao3,cap3,e3,_,_,hne⟩:=HV.out;obtain⟨b,off,e4,hbb,hc⟩:=hne hnil;injection e3 with e3 _ e5;subst e3 e4 e5;obtain⟨a0,a1,a2⟩:=hc i f.k f.p f.q hr;have c0:=(hb'.cell (p:=⟨b,_,none⟩) hbb).trans a0;have c1:=(hb'.cell (p:=⟨b,_,none⟩) hbb).trans a1;have c2:=(hb'.cell (p:=⟨b,_,none⟩) hbb).trans a2;obtain⟨hk,hp,hq⟩:=hin f (List.mem_of_getElem? hr);have hst:(fs.take (i+1)).foldl (fun s f=>s.lay f.k (insAt ns f.p) (insAt ns f.q)) (st0 ns.length)=((fs.take i).foldl (fun s f=>s.lay f.k (insAt ns f.p) (insAt ns f.q)) (st0 ns.length)).lay f.k (insAt ns f.p) (insAt ns f.q):=by
    rw[take_next hr,List.foldl_append];rfl
   have HST:=hide hst;generalize (fs.take i).foldl (fun s f=>s.lay f.k (insAt ns f.p) (insAt ns f.q)) (st0 ns.length)=st at *;clear hst a0 a1 a2 hc hr hne;obtain⟨k,p,q⟩:=f;simp only at *;have kp:insAt ns p<ns.length:=(List.getElem?_eq_some_iff.1 (asc_mem ha hp)).1;have kq:insAt ns q<ns.length:=(List.getElem?_eq_some_iff.1 (asc_mem ha hq)).1;obtain⟨X,hX⟩:∃X,X=wr.alloc (.cells #[.int .i64 k,.string p,.string q] 48):=⟨_,rfl⟩;have x0:X.heap[wr.heap.size]?=some (.cells #[.int .i64 k,.string p,.string q] 48 (0,0)):=by rw[hX];exact heap_new _ _
   have HGd:Hid (∀W W':World,(W.heap[wr.heap.size]?=some (.cells #[.int .i64 k,.string p,.string q] 48 (0,0))∧Below w.heap.size w W∧GM W w.heap.size c ns.length G' st)→Below W.heap.size W W'→(W'.heap[wr.heap.size]?=some (.cells #[.int .i64 k,.string p,.string q] 48 (0,0))∧Below w.heap.size w W'∧GM W' w.heap.size c ns.length G' st)):=
    hide (fun W W' h hB=>⟨(hB.block _ (lt_of_heap h.1)).trans h.1,h.2.1.trans (hB.mono h.2.1.size),h.2.2.fresh (Kb.of_below hB [])⟩)
   have g0:(X.drew.heap[wr.heap.size]?=some (.cells #[.int .i64 k,.string p,.string q] 48 (0,0))∧Below w.heap.size w X.drew∧GM X.drew w.heap.size c ns.length G' st):=by
    refine⟨x0,?_,?_⟩
    ·rw[hX];exact(hb'.alloc hb'.size _).drew
    ·rw[hX];exact hG'.fresh ((Kb.refl [] wr).alloc _).drew
   have HNm:Hid (∀(t:ByteArray) (W:World),t∈ns→Below w.heap.size w W→Calls Tryz.prog 86 #[.string t,.slice ao ns.length cap] W fun e w'=>e=.returned (.int .u64 ((insAt ns t:Nat):Int))∧Below W.heap.size W w'):=hide (fun t W ht hW=>number_any _ ns t W (by omega) (HVN.out.below hW) ha ht);have HP:=HNm.out p X.drew hp g0.2.1;have m0:X.cell? ⟨wr.heap.size,0,none⟩=some (.int .i64 k):=by rw[cell_at x0];rfl
   have m1:X.cell? ⟨wr.heap.size,1,none⟩=some (.string p):=by rw[cell_at x0];rfl
   have m2:X.cell? ⟨wr.heap.size,2,none⟩=some (.string q):=by rw[cell_at x0];rfl
   have HG0:=hide g0;clear hG' x0 g0;have HQ:Hid (∀w2,Below X.drew.heap.size X.drew w2→Calls Tryz.prog 86 #[.string q,.slice ao ns.length cap] w2 (fun e w'=>e=.returned (.int .u64 ((insAt ns q:Nat):Int))∧Below w2.heap.size w2 w')∧w2.cell? ⟨wr.heap.size,0,none⟩=some (.int .i64 k)∧w2.cell? ⟨wr.heap.size,2,none⟩=some (.string q)):=by
    refine hide (fun w2 hB=>?_);have g:=HGd.out _ _ HG0.out hB;exact⟨HNm.out q w2 hq g.2.1,by rw[cell_at g.1];rfl,by rw[cell_at g.1];rfl⟩
   have HL:Hid (∀w2 w3,Below X.drew.heap.size X.drew w2→Below w2.heap.size w2 w3→Calls Tryz.prog 85 #[.pointer (some ⟨G.bg,0,none⟩),.int .i64 k,.int .u64 ((insAt ns p:Nat):Int),.int .u64 ((insAt ns q:Nat):Int)] w3 (fun e w'=>e=.returned (.tuple #[])∧∃G4,GM w' w.heap.size c ns.length G4 (st.lay k (insAt ns p) (insAt ns q))∧Below w.heap.size w w'∧G4.bg=G.bg)∧w3.cell? ⟨wr.heap.size,0,none⟩=some (.int .i64 k)):=by
    refine hide (fun w2 w3 hB hB3=>?_);have g:=HGd.out _ _ (HGd.out _ _ HG0.out hB) hB3;refine⟨?_,by rw[cell_at g.1];rfl⟩;rw[← eb];refine(glay_any k (insAt ns p) (insAt ns q) w3 G' g.2.2 kp kq hk).mono ?_
    rintro e w' ⟨e1,G4,g4,c4⟩;refine⟨e1,G4,g4,?_,c4.e1⟩;exact⟨c4.kb.os.trans g.2.1.os,c4.kb.tape.trans g.2.1.tape,c4.kb.output.trans g.2.1.output,Nat.le_trans g.2.1.size c4.kb.size,fun j hj=>(c4.kb.block j (Nat.lt_of_lt_of_le hj g.2.1.size) (fun hm=>by have:=(g.2.2.cells hm).1;omega)).trans (g.2.1.block j hj)⟩
   clear HGd HNm HG0;go_wp2;rw[← hX];replace hX:=hide hX
   refine wp_nrmQ (K:=fun a W=>∃G4 x24 x25 x26 x27 x28 x29 x30 x31 x32 x33 x34 x35 x36 x37,GM W w.heap.size c ns.length G4 (st.lay k (insAt ns p) (insAt ns q))∧Below w.heap.size w W∧G4.bg=G.bg∧a={ tmps:=#[.slice (some ⟨b,off,none⟩) fs.length cap2,.slice ao ns.length cap,.agg #[.int .i64 c.order,.bool c.cycles,.bool c.collapse,.bool c.subst,.bool c.deltas],undef,undef,.pointer (some ⟨w.heap.size,0,none⟩),.pointer none,.pointer (some ⟨G.bg,0,none⟩),undef,.pointer (some ⟨wr.heap.size,0,none⟩),undef,u11,u12,u13,u14,u15,u16,u17,u18,u19,.slice (some ⟨b,off,none⟩) fs.length cap2,.int .i64 (fs.length:Int),.int .i64 (i:Int),.bool true,x24,x25,x26,x27,x28,x29,x30,x31,x32,x33,x34,x35,x36,x37,u38,undef,undef,undef,undef,undef,undef,undef,undef,undef,undef,undef,undef,undef,undef,undef,undef,undef,undef,undef,undef,undef,undef,undef,undef,undef,undef],defers:=[] }) ?_ ?_
   ·go_region_with (first
     |(refine HP.mono ?_;clear HP;rintro e w2 ⟨rfl,hb2⟩;obtain⟨HQ2,n0,n2⟩:=HQ.out w2 hb2)
     |(refine HQ2.mono ?_;clear HQ2;rintro e w3 ⟨rfl,hb3⟩;obtain⟨HL3,o0⟩:=HL.out w2 w3 hb2 hb3;clear hb2 hb3)
     | (refine HL3.mono ?_;clear HL3;rintro e w4 ⟨rfl,G4,hG4,hB4,e4⟩))
    all_goals exact⟨G4,_,_,_,_,_,_,_,_,_,_,_,_,_,_,hG4,hB4,e4,rfl⟩
   rintro a w4 ⟨G4,x24,x25,x26,x27,x28,x29,x30,x31,x32,x33,x34,x35,x36,x37,hG4,hB4,e4,rfl⟩;have HF:=hide (And.intro hG4 (And.intro hB4 e4));clear hG4 hB4 e4 HP HQ HL m0 m1 m2;go_wp2;go_roundw
   case rel=>exact⟨i+1,G4,by go_num,by omega,by rw[HST.out];exact HF.out.1,HF.out.2.1,HF.out.2.2,by rw[HST.out];exact hwf.lay kp kq⟩
   case measure=>simp[intOf];omega
  ·have hie:i=fs.length:=by omega
   subst hie;rw[List.take_of_length_le (Nat.le_refl _)]at hG' hwf;generalize fs.foldl (fun s f=>s.lay f.k (insAt ns f.p) (insAt ns f.q)) (st0 ns.length)=s1 at *;have r5:=hG'.reads.2.2.2.2.2.1;rw[eb]at r5;have h4:=hb';clear hG hb hi h1;go_wp2;go_loopw [44] (fun iv wx=>∃j:Nat,∃G2,iv=.int .i64 j∧j≤ns.length∧GM wx w.heap.size c ns.length G2 ((List.range j).foldl (fun s i=>if(s.tg i).isEmpty then s else s.wait i) s1)∧Below w.heap.size w wx∧G2.bg=G.bg∧WF ns.length ((List.range j).foldl (fun s i=>if(s.tg i).isEmpty then s else s.wait i) s1)) (fun iv _=>ns.length-(intOf iv).toNat)
   case atStart=>exact⟨0,G',rfl,Nat.zero_le _,hG',hb',eb,hwf⟩
   case round=>
    obtain⟨j,G2,rfl,hj,hG2,hb2,eb2,hwf2⟩:=hrel;by_cases h1:j<ns.length
    ·have hst:(List.range (j+1)).foldl (fun s i=>if(s.tg i).isEmpty then s else s.wait i) s1=if(((List.range j).foldl (fun s i=>if(s.tg i).isEmpty then s else s.wait i) s1).tg j).isEmpty then(List.range j).foldl (fun s i=>if(s.tg i).isEmpty then s else s.wait i) s1 else((List.range j).foldl (fun s i=>if(s.tg i).isEmpty then s else s.wait i) s1).wait j:=by
      rw[List.range_succ,List.foldl_append];rfl
     have HST:=hide hst;generalize (List.range j).foldl (fun s i=>if(s.tg i).isEmpty then s else s.wait i) s1=st at *;clear hst;have q5:=hG2.reads.2.2.2.2.2.1;rw[eb2]at q5;have HE:=gempty_any (7*j) wr G2 hG2 (by omega);rw[show 7*j=j*7 by omega]at HE;have eE:(st.ss.getD (j*7) []).isEmpty=(st.tg j).isEmpty:=by unfold St.tg;rw[show j*7=7*j by omega]
     rw[eE]at HE;have HG2:=hide (And.intro hG2 hb2);clear hG2 hb2 eE;go_wp2_with fail
     refine HE.mono ?_
     clear HE;rintro e w3 ⟨rfl,hG3,hC3⟩;have hb3:Below w.heap.size w w3:=by
      have h9:=HG2.out.2;exact⟨hC3.kb.os.trans h9.os,hC3.kb.tape.trans h9.tape,hC3.kb.output.trans h9.output,Nat.le_trans h9.size hC3.kb.size,fun j hj=>(hC3.kb.block j (Nat.lt_of_lt_of_le hj h9.size) (fun hm=>by have:=(HG2.out.1.cells hm).1;omega)).trans (h9.block j hj)⟩
     clear hC3;cases hem:(st.tg j).isEmpty
     ·have q7:=hG3.reads.2.2.2.2.2.2.1;rw[eb2]at q7;have HWt:=gwait_any j w3 G2 hG3 hwf2 h1;have HG3:=hide (And.intro hG3 hb3);clear hG3 hb3;have HEM:=hide hem;clear hem;go_wp2_with fail
      refine HWt.mono ?_
      clear HWt;rintro e w4 ⟨rfl,G4,hG4,hC4⟩;have hb4:Below w.heap.size w w4:=by
       have h9:=HG3.out.2;exact⟨hC4.kb.os.trans h9.os,hC4.kb.tape.trans h9.tape,hC4.kb.output.trans h9.output,Nat.le_trans h9.size hC4.kb.size,fun j hj=>(hC4.kb.block j (Nat.lt_of_lt_of_le hj h9.size) (fun hm=>by have:=(HG3.out.1.cells hm).1;omega)).trans (h9.block j hj)⟩
      have HF:=hide (And.intro hG4 (And.intro hb4 (hC4.e1.trans eb2)));clear hG4 hC4 hb4;go_wp2;go_roundw
      case rel=>
       have e8:=HST.out;rw[HEM.out]at e8;exact⟨j+1,G4,by go_num,by omega,by rw[e8];exact HF.out.1,HF.out.2.1,HF.out.2.2,by rw[e8];exact hwf2.wait h1⟩
      case measure=>simp[intOf];omega
     ·have HG3:=hide (And.intro hG3 hb3);clear hG3 hb3;have HEM:=hide hem;clear hem;go_wp2;go_roundw
      case rel=>
       have e8:=HST.out;rw[HEM.out]at e8;exact⟨j+1,G2,by go_num,by omega,by rw[e8];exact HG3.out.1,HG3.out.2,eb2,by rw[e8];exact hwf2⟩
      case measure=>simp[intOf];omega
    ·have hje:j=ns.length:=by omega
     have HF:Hid (GM wr w.heap.size c ns.length G2 (St.start ns.length (fs.map (numF ns)))∧Below w.heap.size w wr):=by
      refine hide ⟨?_,hb2⟩;rw[HFin.out,← hje];exact(by rw[hje]at hG2 ⊢;exact hG2)
     clear hG2 hb2 hwf2;go_wp2;go_ret
     exact⟨G2,by rw[eb2];rfl,HF.out⟩
end
end Go.Proofs.YtiamlbhkiehilaaGreatDoor
