import Derived.Test.YtiamlbhkiehilaaGreatDoorKa37
open Array renaming replicate→LC
open Go renaming World→vF,undef→lZ
open Go.Proofs.Tryz renaming prog→hE
open Go.Value renaming slice→E2
open Go.World renaming size_alloc→IW
open List renaming replicate→A3,getElem?_replicate→Jk,range→IQ,foldl_append→JE,getElem?_eq_some_iff→II
open Nat renaming le_refl→gO,le_trans→IH,lt_of_lt_of_le→A2
namespace Go.Proofs.YtiamlbhkiehilaaGreatDoor
section
open Go.RowKit
theorem GD{P:Program}{c:Code}{K:Act→vF→Prop}{Q:Exit→Act→vF→Prop}{a:Act}{w:vF}(h:c.wp P (nrm K) a w)(b:∀a w,K a w→Q .normal a w):c.wp P Q a w:=
 Code.wp_mono (fun e a w h=>by cases e<;>first|exact b _ _ h|exact h.elim) h
def lW(a:List ByteArray)(f:Fct):Int × Nat × Nat:=(f.k,aX a f.p,aX a f.q)
theorem Hq:(hE.info? 148).map (fun i=>(i.zero,i.size,i.bytes))=some (some (.agg (LC 7 (.slice none 0 0))),7,168):=by kernel_rfl
theorem BR(n:Nat):madeCells (Value.agg (LC 7 (.slice none 0 0))).cells (n*7)=(A3 (7*n) (E2 none 0 0)).toArray:=by
 have e:(Value.agg (LC 7 (.slice none 0 0))).cells=LC 7 (E2 none 0 0):=rfl;rw[e];apply Array.ext
 ·simp[madeCells,Nat.mul_comm]
 ·intro i a b;simp only[madeCells,Array.getElem_map,Array.getElem_range,Array.size_replicate];rw[getElem!_pos _ _ (by simp;omega)];simp
theorem Fm{n:Nat}(b:n≤40):WF n (st0 n):=by refine⟨b,by simp[st0],by simp[st0],by simp[st0],by simp[st0],fun k x a=>?_,by simp[st0],fun i=>gO _⟩;simp only[st0,List.getD_eq_getElem?_getD,Jk]at a;split at a<;>simp at a
theorem WF.lay{n:Nat}{s:St}(h:WF n s){k:Int}{p q:Nat}(a:p<n)(b:q<n):WF n (s.lay k p q):=by
 unfold St.lay;split
 ·exact h.addAt (by omega) b
 ·split
  ·exact h.addAt (by omega) a
  ·split
   ·exact h.addAt (by omega) a
   ·split
    ·exact h.addAt (by omega) b
    ·exact h
theorem jK(a:vF)(b c d:Obj):(((a.alloc b).alloc c).alloc d).heap[a.heap.size]?=some b∧(((a.alloc b).alloc c).alloc d).heap[a.heap.size+1]?=some c∧(((a.alloc b).alloc c).alloc d).heap[a.heap.size+1+1]?=some d:=by
 refine⟨aF (aF (aD _ _) _) _,?_,?_⟩
 ·have:=aD (a.alloc b) c;rw[IW]at this;exact aF this _
 ·have:=aD ((a.alloc b).alloc c) d;rw[IW,IW]at this;exact this
theorem Fo{W:vF}{B:Nat}{c:Way}{n f d e:Nat}(i:n≤40)(l:0≤c.order∧c.order≤2)(m:B≤W.heap.size)(o:B≤f)(b2:B≤d)(p:B≤e)
  (h1:W.heap[f]?=some (.cells #[.int .i64 c.order,.bool c.cycles,.bool c.collapse,.bool c.subst,.bool c.deltas,.slice (some ⟨d,0,none⟩) n n,.slice none 0 0,.pointer (some ⟨e,0,none⟩),.slice none 0 0,.int .i64 0] TG (0,0)))
  (h2:W.heap[d]?=some (.cells (A3 (7*n) (E2 none 0 0)).toArray TNd (0,0)))
  (h3:W.heap[e]?=some (.cells #[.int .i64 c.order,.slice none 0 0,.slice none 0 0,.slice none 0 0] TL (0,0))) :
  GM W B c n ⟨f,d,e,n,A3 (7*n) (.slice none 0 0),.slice none 0 0,.slice none 0 0,.slice none 0 0,.slice none 0 0,.slice none 0 0,[]⟩ (st0 n):=by
 have b:∀v,eR (.slice none 0 0) v:=fun v g q=>by cases q
 refine⟨m,h1,h2,h3,by simp,by simp[st0],fun k v t a h=>?_,aO.nil _ _,aO.nil _ _,fun j k v r _ a _=>?_,fun k v a=>?_,fun k v a=>?_,b _,cI.nil _ _,ClsR.nil,cI.nil _ _,cI.nil _ _,b _,b _,b _,⟨o,b2,p⟩,i,by simp[st0],by simp[st0],l⟩
 ·rw[Jk]at a;simp only[st0,Jk]at h;split at a
  ·cases a;rw[if_pos (by assumption)]at h;cases h;exact aO.nil _ _
  ·cases a
 ·rw[Jk]at a;split at a
  ·cases a;exact b _
  ·cases a
 ·rw[Jk]at a;split at a
  ·cases a;exact b _
  ·cases a
 ·rw[Jk]at a;split at a
  ·cases a;exact b _
  ·cases a
set_option maxRecDepth 100000 in
set_option maxHeartbeats 40000000 in
theorem yE(v vn:Value)(h:List Fct)(d:List ByteArray)(c:Way)(w:vF)(bt:h.length≤1000)(hv:cV v h w)(am:cY vn d w)(ae:d.length≤40)(ha:Asc d)(be:∀f∈h,(1≤f.k∧f.k≤4)∧f.p∈d∧f.q∈d)(ho:0≤c.order∧c.order≤2) :
  Calls hE 57 #[v,vn,.agg #[.int .i64 c.order,.bool c.cycles,.bool c.collapse,.bool c.subst,.bool c.deltas]] w fun e w'=>∃G,e=.returned (.pointer (some ⟨G.bg,0,none⟩))∧GM w' w.heap.size c d.length G (St.start d.length (h.map (lW d)))∧Below w.heap.size w w':=by
 have bf:=aA am;have HV:=aA hv;obtain⟨ao,a7,rfl,t,h2,h3⟩:=am;obtain⟨bg,af,rfl,g1,g2,g3⟩:=hv;clear t h2 h3 g1 g2 g3;obtain⟨l,S⟩:∃l,l=w.alloc (.cells #[.int .i64 c.order,.bool c.cycles,.bool c.collapse,.bool c.subst,.bool c.deltas] 24):=⟨_,rfl⟩;have b0:Below w.heap.size w l:=by rw[S];exact(Below.refl _ _).alloc (gO _) _
 have u:l.heap[w.heap.size]?=some (.cells #[.int .i64 c.order,.bool c.cycles,.bool c.collapse,.bool c.subst,.bool c.deltas] 24 (0,0)):=by rw[S];exact aD _ _
 obtain⟨NC,a8⟩:∃NC,NC=(A3 (7*d.length) (E2 none 0 0)).toArray:=⟨_,rfl⟩;have bh:∀w:vF,(Instr.makeSlice 105 (.int .i64 (d.length:Int)) (.int .i64 (d.length:Int))).run hE w=.ok (.slice (some ⟨w.heap.size,0,none⟩) d.length d.length) (w.alloc (.cells NC 148)):=by intro w;obtain⟨i0,bi,bj,bk,bl⟩:=info_parts Hq;have:=run_make (P:=hE) w 105 148 i0 _ Tryz.underlying105 bi bj .i64 .i64 d.length d.length (by omega) (Int.le_refl _) (by rw[bl];omega) (by omega);rw[this,bk,a8];simp only[Int.toNat_natCast];rw[BR]
 have HK:=Fk c.order;go_enter Tryz.func57,Tryz.ntmps57
 go_wp2_with fail
 rw[← S];refine jP (K:=fun a W=>∃G u11 u12 u13 u14 u15 u16 u17 u18 u19,GM W w.heap.size c d.length G (st0 d.length)∧Below w.heap.size w W∧a={ tmps:=#[.slice bg h.length af,.slice ao d.length a7,.agg #[.int .i64 c.order,.bool c.cycles,.bool c.collapse,.bool c.subst,.bool c.deltas],lZ,lZ,.pointer (some ⟨w.heap.size,0,none⟩),.pointer none,.pointer (some ⟨G.bg,0,none⟩),lZ,lZ,lZ,u11,u12,u13,u14,u15,u16,u17,u18,u19,lZ,lZ,lZ,lZ,lZ,lZ,lZ,lZ,lZ,lZ,lZ,lZ,lZ,lZ,lZ,lZ,lZ,lZ,lZ,lZ,lZ,lZ,lZ,lZ,lZ,lZ,lZ,lZ,lZ,lZ,lZ,lZ,lZ,lZ,lZ,lZ,lZ,lZ,lZ,lZ,lZ,lZ,lZ,lZ,lZ],defers:=[] }) ?_ ?_
 ·have c0:l.cell? ⟨w.heap.size,0,none⟩=some (.int .i64 c.order):=by rw[aC u];rfl
  have c1:l.cell? ⟨w.heap.size,1,none⟩=some (.bool c.cycles):=by rw[aC u];rfl
  have c2:l.cell? ⟨w.heap.size,2,none⟩=some (.bool c.collapse):=by rw[aC u];rfl
  have c3:l.cell? ⟨w.heap.size,3,none⟩=some (.bool c.subst):=by rw[aC u];rfl
  have D:l.cell? ⟨w.heap.size,4,none⟩=some (.bool c.deltas):=by rw[aC u];rfl
  have d0:=fun ag=>aC (aF u ag)
  have d1:=fun ag o'=>aC (aF (aF u ag) o')
  have an:=b0.size;clear u S;have ap:=aA a8;clear a8;go_region_with (refine(HK _).mono ?_;rintro e m ⟨rfl,rfl⟩)
  all_goals first
   | (refine⟨⟨l.heap.size+1+1,l.heap.size,l.heap.size+1,d.length,A3 (7*d.length) (.slice none 0 0),.slice none 0 0,.slice none 0 0,.slice none 0 0,.slice none 0 0,.slice none 0 0,[]⟩,_,_,_,_,_,_,_,_,_,Fo ae ho ?_ ?_ ?_ ?_ (jK l.drew _ _ _).2.2 (by rw[← ap.out];exact(jK l.drew _ _ _).1) (jK l.drew _ _ _).2.1,?_,rfl⟩
      ·simp;omega
      ·omega
      ·omega
      ·omega
      ·exact(((b0.drew.alloc (by exact an) _).alloc (by simp;omega) _).alloc (by simp;omega) _))
   | (refine⟨⟨l.heap.size+1+1,l.heap.size+1,l.heap.size,d.length,A3 (7*d.length) (.slice none 0 0),.slice none 0 0,.slice none 0 0,.slice none 0 0,.slice none 0 0,.slice none 0 0,[]⟩,_,_,_,_,_,_,_,_,_,Fo ae ho ?_ ?_ ?_ ?_ (jK l.drew _ _ _).2.2 (by rw[← ap.out];exact(jK l.drew _ _ _).2.1) (jK l.drew _ _ _).1,?_,rfl⟩
      ·simp;omega
      ·omega
      ·omega
      ·omega
      ·exact(((b0.drew.alloc (by exact an) _).alloc (by simp;omega) _).alloc (by simp;omega) _))
 rintro a W ⟨G,u11,u12,u13,u14,u15,u16,u17,u18,u19,hG,hb,rfl⟩;clear S u a8 bh HK b0;go_wp2;have bp:Hid (St.start d.length (h.map (lW d))=(IQ d.length).foldl (fun s i=>if(s.tg i).isEmpty then s else s.wait i) (h.foldl (fun s f=>s.lay f.k (aX d f.p) (aX d f.q)) (st0 d.length))):=by
  refine aA ?_
  unfold St.start;rw[List.foldl_map];rfl
 go_loopw [22] (fun E wr=>∃i:Nat,∃A,E=.int .i64 i∧i≤h.length∧GM wr w.heap.size c d.length A ((h.take i).foldl (fun s f=>s.lay f.k (aX d f.p) (aX d f.q)) (st0 d.length))∧Below w.heap.size w wr∧A.bg=G.bg∧WF d.length ((h.take i).foldl (fun s f=>s.lay f.k (aX d f.p) (aX d f.q)) (st0 d.length))) (fun E _=>h.length-(intOf E).toNat)
 case atStart=>exact⟨0,G,rfl,Nat.zero_le _,hG,hb,rfl,Fm ae⟩
 case round=>
  obtain⟨i,A,rfl,hi,T,F,eb,ah⟩:=hrel;by_cases t:i<h.length
  ·obtain⟨f,hr⟩:∃f,h[i]?=some f:=⟨_,List.getElem?_eq_getElem t⟩;have bq:h≠[]:=by intro e;rw[e]at t;simp at t
   obtain⟨bv,bw,e3,_,_,aq⟩:=HV.out;obtain⟨b,ar,O,ai,hc⟩:=aq bq;injection e3 with e3 _ e5;subst e3 O e5;obtain⟨a0,a1,a2⟩:=hc i f.k f.p f.q hr;have c0:=(F.cell (p:=⟨b,_,none⟩) ai).trans a0;have c1:=(F.cell (p:=⟨b,_,none⟩) ai).trans a1;have c2:=(F.cell (p:=⟨b,_,none⟩) ai).trans a2;obtain⟨hk,hp,hq⟩:=be f (List.mem_of_getElem? hr);have U:(h.take (i+1)).foldl (fun s f=>s.lay f.k (aX d f.p) (aX d f.q)) (st0 d.length)=((h.take i).foldl (fun s f=>s.lay f.k (aX d f.p) (aX d f.q)) (st0 d.length)).lay f.k (aX d f.p) (aX d f.q):=by rw[bG hr,JE];rfl
   have V:=aA U;generalize (h.take i).foldl (fun s f=>s.lay f.k (aX d f.p) (aX d f.q)) (st0 d.length)=x at *;clear U a0 a1 a2 hc hr aq;obtain⟨k,p,q⟩:=f;simp only at *;have kp:aX d p<d.length:=(II.1 (fH ha hp)).1;have kq:aX d q<d.length:=(II.1 (fH ha hq)).1;obtain⟨X,P⟩:∃X,X=wr.alloc (.cells #[.int .i64 k,.string p,.string q] 48):=⟨_,rfl⟩;have Y:X.heap[wr.heap.size]?=some (.cells #[.int .i64 k,.string p,.string q] 48 (0,0)):=by rw[P];exact aD _ _
   have a9:Hid (∀W Z:vF,(W.heap[wr.heap.size]?=some (.cells #[.int .i64 k,.string p,.string q] 48 (0,0))∧Below w.heap.size w W∧GM W w.heap.size c d.length A x)→Below W.heap.size W Z→(Z.heap[wr.heap.size]?=some (.cells #[.int .i64 k,.string p,.string q] 48 (0,0))∧Below w.heap.size w Z∧GM Z w.heap.size c d.length A x)):=
    aA (fun W Z a3 H=>⟨(H.block _ (aB a3.1)).trans a3.1,a3.2.1.trans (H.mono a3.2.1.size),a3.2.2.fresh (Kb.gi H [])⟩)
   have g0:(X.drew.heap[wr.heap.size]?=some (.cells #[.int .i64 k,.string p,.string q] 48 (0,0))∧Below w.heap.size w X.drew∧GM X.drew w.heap.size c d.length A x):=by
    refine⟨Y,?_,?_⟩
    ·rw[P];exact(F.alloc F.size _).drew
    ·rw[P];exact T.fresh ((Kb.refl [] wr).alloc _).drew
   have aj:Hid (∀(a4:ByteArray) (W:vF),a4∈d→Below w.heap.size w W→Calls hE 86 #[.string a4,.slice ao d.length a7] W fun e w'=>e=.returned (.int .u64 ((aX d a4:Nat):Int))∧Below W.heap.size W w'):=aA (fun a4 W ht hW=>BQ _ d a4 W (by omega) (bf.out.below hW) ha ht);have HP:=aj.out p X.drew hp g0.2.1;have m0:X.cell? ⟨wr.heap.size,0,none⟩=some (.int .i64 k):=by rw[aC Y];rfl
   have m1:X.cell? ⟨wr.heap.size,1,none⟩=some (.string p):=by rw[aC Y];rfl
   have m2:X.cell? ⟨wr.heap.size,2,none⟩=some (.string q):=by rw[aC Y];rfl
   have ak:=aA g0;clear T Y g0;have HQ:Hid (∀m,Below X.drew.heap.size X.drew m→Calls hE 86 #[.string q,.slice ao d.length a7] m (fun e w'=>e=.returned (.int .u64 ((aX d q:Nat):Int))∧Below m.heap.size m w')∧m.cell? ⟨wr.heap.size,0,none⟩=some (.int .i64 k)∧m.cell? ⟨wr.heap.size,2,none⟩=some (.string q)):=by refine aA (fun m H=>?_);have g:=a9.out _ _ ak.out H;exact⟨aj.out q m hq g.2.1,by rw[aC g.1];rfl,by rw[aC g.1];rfl⟩
   have HL:Hid (∀m r,Below X.drew.heap.size X.drew m→Below m.heap.size m r→Calls hE 85 #[.pointer (some ⟨G.bg,0,none⟩),.int .i64 k,.int .u64 ((aX d p:Nat):Int),.int .u64 ((aX d q:Nat):Int)] r (fun e w'=>e=.returned (.tuple #[])∧∃n,GM w' w.heap.size c d.length n (x.lay k (aX d p) (aX d q))∧Below w.heap.size w w'∧n.bg=G.bg)∧r.cell? ⟨wr.heap.size,0,none⟩=some (.int .i64 k)):=by
    refine aA (fun m r H br=>?_);have g:=a9.out _ _ (a9.out _ _ ak.out H) br;refine⟨?_,by rw[aC g.1];rfl⟩;rw[← eb];refine(Fl k (aX d p) (aX d q) r A g.2.2 kp kq hk).mono ?_
    rintro e w' ⟨e1,n,g4,D⟩;refine⟨e1,n,g4,?_,D.e1⟩;exact⟨D.kb.os.trans g.2.1.os,D.kb.tape.trans g.2.1.tape,D.kb.output.trans g.2.1.output,IH g.2.1.size D.kb.size,fun j y=>(D.kb.block j (A2 y g.2.1.size) (fun hm=>by have:=(g.2.2.cells hm).1;omega)).trans (g.2.1.block j y)⟩
   clear a9 aj ak;go_wp2;rw[← P];replace P:=aA P
   refine GD (K:=fun a W=>∃n au av aw ax ay az aV b1 b2 b3 b4 b5 b6 b7,GM W w.heap.size c d.length n (x.lay k (aX d p) (aX d q))∧Below w.heap.size w W∧n.bg=G.bg∧a={ tmps:=#[.slice (some ⟨b,ar,none⟩) h.length af,.slice ao d.length a7,.agg #[.int .i64 c.order,.bool c.cycles,.bool c.collapse,.bool c.subst,.bool c.deltas],lZ,lZ,.pointer (some ⟨w.heap.size,0,none⟩),.pointer none,.pointer (some ⟨G.bg,0,none⟩),lZ,.pointer (some ⟨wr.heap.size,0,none⟩),lZ,u11,u12,u13,u14,u15,u16,u17,u18,u19,.slice (some ⟨b,ar,none⟩) h.length af,.int .i64 (h.length:Int),.int .i64 (i:Int),.bool true,au,av,aw,ax,ay,az,aV,b1,b2,b3,b4,b5,b6,b7,u38,lZ,lZ,lZ,lZ,lZ,lZ,lZ,lZ,lZ,lZ,lZ,lZ,lZ,lZ,lZ,lZ,lZ,lZ,lZ,lZ,lZ,lZ,lZ,lZ,lZ,lZ],defers:=[] }) ?_ ?_
   ·go_region_with (first
     |(refine HP.mono ?_;clear HP;rintro e m ⟨rfl,B⟩;obtain⟨b8,n0,n2⟩:=HQ.out m B)
     |(refine b8.mono ?_;clear b8;rintro e r ⟨rfl,I⟩;obtain⟨b9,o0⟩:=HL.out m r B I;clear B I)
     | (refine b9.mono ?_;clear b9;rintro e w4 ⟨rfl,n,J,aa,O⟩))
    all_goals exact⟨n,_,_,_,_,_,_,_,_,_,_,_,_,_,_,J,aa,O,rfl⟩
   rintro a w4 ⟨n,au,av,aw,ax,ay,az,aV,b1,b2,b3,b4,b5,b6,b7,J,aa,O,rfl⟩;have z:=aA (And.intro J (And.intro aa O));clear J aa O HP HQ HL m0 m1 m2;go_wp2;go_roundw
   case rel=>exact⟨i+1,n,by go_num,by omega,by rw[V.out];exact z.out.1,z.out.2.1,z.out.2.2,by rw[V.out];exact ah.lay kp kq⟩
   case measure=>simp[intOf];omega
  ·have bs:i=h.length:=by omega
   subst bs;rw[List.take_of_length_le (gO _)]at T ah;generalize h.foldl (fun s f=>s.lay f.k (aX d f.p) (aX d f.q)) (st0 d.length)=K at *;have r5:=T.reads.2.2.2.2.2.1;rw[eb]at r5;have h4:=F;clear hG hb hi t;go_wp2;go_loopw [44] (fun E wx=>∃j:Nat,∃C,E=.int .i64 j∧j≤d.length∧GM wx w.heap.size c d.length C ((IQ j).foldl (fun s i=>if(s.tg i).isEmpty then s else s.wait i) K)∧Below w.heap.size w wx∧C.bg=G.bg∧WF d.length ((IQ j).foldl (fun s i=>if(s.tg i).isEmpty then s else s.wait i) K)) (fun E _=>d.length-(intOf E).toNat)
   case atStart=>exact⟨0,A,rfl,Nat.zero_le _,T,F,eb,ah⟩
   case round=>
    obtain⟨j,C,rfl,y,L,B,a5,ab⟩:=hrel;by_cases t:j<d.length
    ·have U:(IQ (j+1)).foldl (fun s i=>if(s.tg i).isEmpty then s else s.wait i) K=if(((IQ j).foldl (fun s i=>if(s.tg i).isEmpty then s else s.wait i) K).tg j).isEmpty then(IQ j).foldl (fun s i=>if(s.tg i).isEmpty then s else s.wait i) K else((IQ j).foldl (fun s i=>if(s.tg i).isEmpty then s else s.wait i) K).wait j:=by
      rw[List.range_succ,JE];rfl
     have V:=aA U;generalize (IQ j).foldl (fun s i=>if(s.tg i).isEmpty then s else s.wait i) K=x at *;clear U;have q5:=L.reads.2.2.2.2.2.1;rw[a5]at q5;have HE:=tP (7*j) wr C L (by omega);rw[show 7*j=j*7 by omega]at HE;have eE:(x.ss.getD (j*7) []).isEmpty=(x.tg j).isEmpty:=by unfold St.tg;rw[show j*7=7*j by omega]
     rw[eE]at HE;have ba:=aA (And.intro L B);clear L B eE;go_wp2_with fail
     refine HE.mono ?_
     clear HE;rintro e r ⟨rfl,Q,R⟩;have I:Below w.heap.size w r:=by have o:=ba.out.2;exact⟨R.kb.os.trans o.os,R.kb.tape.trans o.tape,R.kb.output.trans o.output,IH o.size R.kb.size,fun j y=>(R.kb.block j (A2 y o.size) (fun hm=>by have:=(ba.out.1.cells hm).1;omega)).trans (o.block j y)⟩
     clear R;cases ad:(x.tg j).isEmpty
     ·have q7:=Q.reads.2.2.2.2.2.2.1;rw[a5]at q7;have bb:=oB j r C Q ab t;have a6:=aA (And.intro Q I);clear Q I;have al:=aA ad;clear ad;go_wp2_with fail
      refine bb.mono ?_
      clear bb;rintro e w4 ⟨rfl,n,J,M⟩;have bc:Below w.heap.size w w4:=by have o:=a6.out.2;exact⟨M.kb.os.trans o.os,M.kb.tape.trans o.tape,M.kb.output.trans o.output,IH o.size M.kb.size,fun j y=>(M.kb.block j (A2 y o.size) (fun hm=>by have:=(a6.out.1.cells hm).1;omega)).trans (o.block j y)⟩
      have z:=aA (And.intro J (And.intro bc (M.e1.trans a5)));clear J M bc;go_wp2;go_roundw
      case rel=>have N:=V.out;rw[al.out]at N;exact⟨j+1,n,by go_num,by omega,by rw[N];exact z.out.1,z.out.2.1,z.out.2.2,by rw[N];exact ab.wait t⟩
      case measure=>simp[intOf];omega
     ·have a6:=aA (And.intro Q I);clear Q I;have al:=aA ad;clear ad;go_wp2;go_roundw
      case rel=>have N:=V.out;rw[al.out]at N;exact⟨j+1,C,by go_num,by omega,by rw[N];exact a6.out.1,a6.out.2,a5,by rw[N];exact ab⟩
      case measure=>simp[intOf];omega
    ·have bd:j=d.length:=by omega
     have z:Hid (GM wr w.heap.size c d.length C (St.start d.length (h.map (lW d)))∧Below w.heap.size w wr):=by refine aA ⟨?_,B⟩;rw[bp.out,← bd];exact(by rw[bd]at L ⊢;exact L)
     clear L B ab;go_wp2;go_ret
     exact⟨C,by rw[a5];rfl,z.out⟩
end
end Go.Proofs.YtiamlbhkiehilaaGreatDoor
