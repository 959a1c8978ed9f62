import Derived.Test.YtiamlbhkiehilaaGreatDoorKa31
open Go renaming World→vF,Value→sA,TypeId→I1,callsIn_wide→IV,undef→lZ,wpIn_rangeFunc_ownH→OS,KeepsFrom→Ju,wpIn_region_any→Mi,wpAnyIn→Mv,AllReadyIn→NE,wpAnyIn_take→IX,wpAnyIn_ready→IP,wpAnyIn_done→MW
open Go.Act renaming put→J2
open Go.Fence renaming wide→Kt
open Go.KeepsFrom renaming refl→KB
open Go.Proofs.Tryz renaming prog→hE
open Go.Value renaming slice→E2
open Go.World renaming size_alloc→IW,drew→MV
open List renaming mem_cons→sT,mem_singleton→A1,mem_cons_of_mem→C1,mem_append→IK,mem_range→Lt,map_append→Jp,foldl_append→JE,setIfInBounds_toArray→I8,set_cons_zero→Jo,set_cons_succ→Jq
open Nat renaming le_refl→gO,le_trans→IH,lt_of_lt_of_le→A2
namespace Go.Proofs.YtiamlbhkiehilaaGreatDoor
section
open Go.RowKit Go.Shelf
attribute [local go_sem] Oper.semAt_some
variable {B:Nat} {c:Way} {n:Nat} {s:St}
structure PCh(w w':World)(G G':GV)(bp:Nat)(pv pv':List Value):Prop where
 kb:Kb (G.foot++pft bp pv) w w'
 ft:∀b,b∈G'.foot→b∈G.foot∨w.heap.size≤b
 pf:∀b,b∈pft bp pv'→b∈pft bp pv∨w.heap.size≤b
 dj:∀b,b∈pft bp pv'→b ∉ G'.foot
 e1:G'.bg=G.bg
 e2:G'.bn=G.bn
 e3:G'.bl=G.bl
def HpK(w:vF)(B:Nat)(c:Way)(n:Nat)(G:GV)(s:St)(d e:List Nat)(f:List (Nat × Array sA × I1))(g:List (sA × List Nat × Nat))(b6 b7 Z:Nat)(X:vF):Prop:=
 Z≤b6∧Z≤b7∧b6≠b7∧∃a b h,LI w B c n G [] ((b7,#[b],aL)::(b6,#[a],aL)::f) ((a,d,w.heap.size)::(b,e,w.heap.size)::g) X s h
theorem uS{w:vF}{G:GV}{i f:List (Nat × Array sA × I1)}{o:List (sA × List Nat × Nat)}{p r:List Nat}{Z:Nat}{vl vs:sA}{X j:vF}{k:GV}{b6 b7:Nat}(L:LI w B c n G [] f ((vs,r,w.heap.size)::(vl,p,w.heap.size)::o) X s k)(F:∀q∈i,q∈f)(z:∀q∈i,q.1<Z)(T:w.heap.size≤Z)
  (l:Kb [b6,b7] X j) (H:j.heap[b6]?=some (.cells #[vl] aL (0,0))) (I:j.heap[b7]?=some (.cells #[vs] aL (0,0))) (c6:X.heap.size≤b6∨(b6,#[E2 none 0 0],aL)∈f) (c7:X.heap.size≤b7∨(b7,#[E2 none 0 0],aL)∈f) (J:Z≤b6) (K:Z≤b7) (M:b6≠b7):HpK w B c n G s p r i o b6 b7 Z j:=by
 have A:∀b,(X.heap.size≤b∨(b,#[E2 none 0 0],aL)∈f)→b ∉ k.foot∧∀(v:sA) t h,aO X h v t→v.ownBlock≠some b:=by
  intro b d;rcases d with d|d
  ·exact⟨L.gg d,fun v t h u e=>by have:=(u.lt e).2;omega⟩
  ·obtain⟨x,y⟩:=L.bx _ d;exact⟨y,fun v t h u e=>u.ne x (by dsimp only;decide) e⟩
 obtain⟨C,N⟩:=A b6 c6;obtain⟨D,O⟩:=A b7 c7;have m:∀b∈[b6,b7],b ∉ k.foot∧w.heap.size≤b∧(∀q∈i,q.1≠b)∧∀(v:sA) t h,aO X h v t→v.ownBlock≠some b:=by
  intro b d;rcases sT.1 d with rfl|d
  ·exact⟨C,by omega,fun q a e=>by have:=z q a;omega,N⟩
  ·rw[A1.1 d];exact⟨D,by omega,fun q a e=>by have:=z q a;omega,O⟩
 refine⟨J,K,M,vl,vs,k,L.gm.beside l (fun b d=>(m b d).1),L.ch.beside l (fun b d=>(m b d).2.1),fun q a=>?_,fun q a=>?_,by simp⟩
 ·rcases sT.1 a with rfl|a
  ·exact⟨I,D⟩
  ·rcases sT.1 a with rfl|a
   ·exact⟨H,C⟩
   ·obtain⟨x,y⟩:=L.bx q (F q a);exact⟨l.heap x (fun P=>(m _ P).2.2.1 q a rfl),y⟩
 ·have Q:q∈(vs,r,w.heap.size)::(vl,p,w.heap.size)::o:=by
   rcases sT.1 a with rfl|a
   ·simp
   ·rcases sT.1 a with rfl|a
    ·simp
    ·simp[a]
  obtain⟨E,R⟩:=L.vt q Q;exact⟨E.kb l (fun g S e=>(m g S).2.2.2 _ _ _ E e),R⟩
theorem DI{w:vF}{G:GV}{b a:List (Nat × Array sA × I1)}{d:List (sA × List Nat × Nat)}{e f:List Nat}{Z:Nat}{vl vs:sA}{X:vF}{h:GV}{b6 b7:Nat}(L:LI w B c n G [] a ((vs,f,w.heap.size)::(vl,e,w.heap.size)::d) X s h)(i:∀q∈b,q∈a)(j:∀q∈b,q.1<Z)(k:w.heap.size≤Z)
  (c6:(b6,#[E2 none 0 0],aL)∈a) (c7:(b7,#[E2 none 0 0],aL)∈a) (l:Z≤b6) (m:Z≤b7) (g:b6≠b7):HpK w B c n G s e f b d b6 b7 Z ((X.setCell ⟨b6,0,none⟩ vl).setCell ⟨b7,0,none⟩ vs):=by
 obtain⟨o,p,r⟩:=tD (vl:=vl) (vs:=vs) (L.bx _ c6).1 (L.bx _ c7).1 g;exact uS L i j k r o p (.inr c6) (.inr c7) l m g
theorem Ik{w:vF}{G:GV}{a b:List (Nat × Array sA × I1)}{d:List (sA × List Nat × Nat)}{e f:List Nat}{Z:Nat}{vl vs:sA}{X:vF}{h:GV}{b6:Nat}(L:LI w B c n G [] b ((vs,f,w.heap.size)::(vl,e,w.heap.size)::d) X s h)(i:∀q∈a,q∈b)(j:∀q∈a,q.1<Z)(k:w.heap.size≤Z)
  (c6:(b6,#[E2 none 0 0],aL)∈b) (l:Z≤b6) (m:Z≤X.heap.size):HpK w B c n G s e f a d b6 X.heap.size Z (((X.alloc (.cells #[.slice none 0 0] aL)).setCell ⟨b6,0,none⟩ vl).setCell ⟨X.heap.size,0,none⟩ vs):=by
 have o:=aB (L.bx _ c6).1;have g:b6≠X.heap.size:=by dsimp only at o;omega
 obtain⟨p,r,t⟩:=tD (vl:=vl) (vs:=vs) (aF (L.bx _ c6).1 (.cells #[.slice none 0 0] aL)) (aD X (.cells #[.slice none 0 0] aL)) g;exact uS L i j k ((((Kb.refl [] X).alloc _).mono (by simp)).trans t) p r (.inr c6) (.inl (gO _)) l m g
theorem Il{w:vF}{G:GV}{a b:List (Nat × Array sA × I1)}{d:List (sA × List Nat × Nat)}{e f:List Nat}{Z:Nat}{vl vs:sA}{X:vF}{i:GV}{b7:Nat}(L:LI w B c n G [] b ((vs,f,w.heap.size)::(vl,e,w.heap.size)::d) X s i)(j:∀q∈a,q∈b)(l:∀q∈a,q.1<Z)(m:w.heap.size≤Z)
  (c7:(b7,#[E2 none 0 0],aL)∈b) (o:Z≤X.heap.size) (r:Z≤b7):HpK w B c n G s e f a d X.heap.size b7 Z ((X.alloc (.cells #[vl] aL)).setCell ⟨b7,0,none⟩ vs):=by
 have t:=aB (L.bx _ c7).1;have u:X.heap.size≠b7:=by dsimp only at t;omega
 have g:Kb [b7] (X.alloc (.cells #[vl] aL)) ((X.alloc (.cells #[vl] aL)).setCell ⟨b7,0,none⟩ vs):=(Kb.refl _ _).setCell (p:=⟨b7,0,none⟩) (.inl (by simp)) _;exact uS L j l m ((((Kb.refl [] X).alloc _).mono (by simp)).trans (g.mono (by intro k _ h;simp at h;simp[h]))) (g.heap (aD X _) (by simp;omega)) (aI (aF (L.bx _ c7).1 _) 0 vs) (.inl (gO _)) (.inr c7) o r u
theorem Hn{w o W F f:vF}{G p:GV}{A i q D D2:Nat}{pv C y:List sA}{M H:Bool × List (List Nat)}(I:GM o B c n p s)(h:GCh w o G p)(N:q ∉ p.foot)(V:w.heap.size≤q)(J:∀b∈pft i pv,b ∉ p.foot)(l:HpI o A i n pv q M C W)(x:Kb [] W F)(k:HpI F A i n C q H y f)(X:o.heap.size≤D)(Y:o.heap.size≤D2)(E:f.heap[D]?=some (.deferred (some [])))(O:f.heap[D2]?=some (.deferred (some [])))(Z:D≠D2) :
  (f.putObj D2 (.deferred none)).heap[D]?=some (.deferred (some []))∧GM ((f.putObj D2 (.deferred none)).putObj D (.deferred none)) B c n p s∧PS ((f.putObj D2 (.deferred none)).putObj D (.deferred none)) A i n y H.2∧PCh w ((f.putObj D2 (.deferred none)).putObj D (.deferred none)) G p i pv y:=by
 have m:Kb [D2] f (f.putObj D2 (.deferred none)):=aS (grownBy_putObj' f D2 (.deferred none));have r:Kb [D] (f.putObj D2 (.deferred none)) ((f.putObj D2 (.deferred none)).putObj D (.deferred none)):=aS (grownBy_putObj' (f.putObj D2 (.deferred none)) D (.deferred none));have P:=(m.block D (aB E) (by simp;omega)).trans E;have Q:=l.kb.size;have R:=x.size;have S:=k.kb.size;have K:∀b,b∈pft i y→b≠D∧b≠D2:=fun b g=>by
  obtain⟨_,_,cs,a0,a⟩:=k.ps.cells g;constructor
  ·intro e;rw[e,E]at a;cases a
  ·intro e;rw[e,O]at a;cases a
 have t:Kb (q::pft i pv) o ((f.putObj D2 (.deferred none)).putObj D (.deferred none)):=by
  refine⟨r.os.trans (m.os.trans (k.kb.os.trans (x.os.trans l.kb.os))),r.tape.trans (m.tape.trans (k.kb.tape.trans (x.tape.trans l.kb.tape))),r.output.trans (m.output.trans (k.kb.output.trans (x.output.trans l.kb.output))),IH (IH (IH Q R) S) (IH m.size r.size),fun j z u=>?_⟩;have T:j ∉ q::pft i C:=fun d=>by
   rcases sT.1 d with rfl|d
   ·exact u List.mem_cons_self
   ·rcases l.pf j d with a|a
    ·exact u (C1 _ a)
    ·omega
  have s4:=m.size;exact(r.block j (by omega) (by simp;omega)).trans ((m.block j (by omega) (by simp;omega)).trans ((k.kb.block j (by omega) T).trans ((x.block j (by omega) (by simp)).trans (l.kb.block j z u))))
 refine⟨P,I.beside t (fun b g=>?_),(k.ps.kb m (fun b g d=>?_)).kb r (fun b g d=>?_),⟨⟨t.os.trans h.kb.os,t.tape.trans h.kb.tape,t.output.trans h.kb.output,IH h.kb.size t.size,fun j z u=>?_⟩,h.ft,fun b g=>?_,fun b g=>?_,h.e1,h.e2,h.e3⟩⟩
 ·rcases sT.1 g with rfl|g
  ·exact N
  ·exact J b g
 ·exact(K b d).2 (A1.1 g)
 ·exact(K b d).1 (A1.1 g)
 ·refine(t.block j (A2 z h.kb.size) (fun d=>?_)).trans (h.kb.block j z (fun d=>u (IK.2 (.inl d))));rcases sT.1 d with e|d
  ·omega
  ·exact u (IK.2 (.inr d))
 ·have:=h.kb.size;rcases k.pf b g with a|a
  ·rcases l.pf b a with L|L
   ·exact .inl L
   ·exact .inr (by omega)
  ·exact .inr (by omega)
 ·have U:b∈pft i pv∨o.heap.size≤b:=by
   rcases k.pf b g with a|a
   ·exact l.pf b a
   ·exact .inr (by omega)
  rcases U with a|a
  ·exact J b a
  ·exact fun d=>by have:=I.gh b d;omega
set_option linter.unusedSimpArgs false in
set_option maxRecDepth 100000 in
set_option maxHeartbeats 8000000 in
theorem BK(i ld t d:Nat)(pv:List sA)(ps:List (List Nat))(w:vF)(G:GV)(h:GM w B c n G s)(hw:WF n s)(hT:bN w)(cz:0<B)(ec:0<t)(hi:i<n)(df:ld<128)(J:PS w t d n pv ps)(b2:∀b∈pft d pv,b ∉ G.foot) :
  Calls hE 176 #[.pointer (some ⟨G.bg,0,none⟩),.slice (some ⟨d,0,none⟩) n n,.int .u64 (i:Int),.int .u64 (ld:Int)] w fun e w'=>e=.returned (.bool (s.handParts ps i ld).1)∧∃G' A,GM w' B c n G' s∧PS w' t d n A (s.handParts ps i ld).2∧PCh w w' G G' d pv A:=by
 have hn:=h.n40;have TT:Hid (∀ {W:vF} {G':GV},GCh w W G G'→bN W):=aA (fun hc=>hT.kb hc.kb (fun l=>by have:=(h.cells l).1;omega));obtain⟨W0,af⟩:∃W0,W0=((w.alloc (.cells #[.slice (some ⟨d,0,none⟩) n n] TPs)).alloc (.cells #[.int .u64 (i:Int)] TN)).alloc (.cells #[.int .u64 (ld:Int)] 232):=⟨_,rfl⟩;have k0:Kb [] w W0:=by rw[af];exact(((Kb.refl [] w).alloc _).alloc _).alloc _
 have z0:W0.heap.size=w.heap.size+3:=by rw[af];simp
 have x0:W0.heap[w.heap.size]?=some (.cells #[.slice (some ⟨d,0,none⟩) n n] TPs (0,0)):=by rw[af];exact aF (aF (aD _ _) _) _
 have y0:W0.heap[w.heap.size+1]?=some (.cells #[.int .u64 (i:Int)] TN (0,0)):=by rw[af];have:=aD (w.alloc (.cells #[.slice (some ⟨d,0,none⟩) n n] TPs)) (.cells #[.int .u64 (i:Int)] TN);rw[IW]at this;exact aF this _
 have s0:W0.heap[w.heap.size+2]?=some (.cells #[.int .u64 (ld:Int)] 232 (0,0)):=by rw[af];have:=aD ((w.alloc (.cells #[.slice (some ⟨d,0,none⟩) n n] TPs)).alloc (.cells #[.int .u64 (i:Int)] TN)) (.cells #[.int .u64 (ld:Int)] 232);rw[IW,IW]at this;exact this
 have nf:∀b,w.heap.size≤b→b ∉ G.foot:=fun b g l=>by have:=h.gh b l;omega
 have LP:LI w B c n G [] [(d,pv.toArray,TP)] (BJ n pv ps t) w s G:=by
  refine⟨h,GCh.refl _ _,fun q o=>?_,fun q o=>?_,by simp⟩
  ·rw[A1.1 o];exact⟨J.hb,b2 _ (gZ.2 (.inl rfl))⟩
  ·unfold BJ at o;obtain⟨a7,hj,rfl⟩:=List.mem_map.1 o;rw[Lt]at hj;exact⟨J.st a7 hj,fun b7 Q=>b2 b7 (J.own hj Q)⟩
 have L0:=((((LP.fresh k0).1.fk x0 (nf _ (gO _))).fk y0 (nf _ (by omega))).fk s0 (nf _ (by omega)));have P0:=J.kb k0 (by simp);have ci:=BI t d i pv.toArray TP _ _ W0 P0.hb (P0.get hi) (P0.st i hi);have cA:W0.cell? ⟨w.heap.size,0,none⟩=some (.slice (some ⟨d,0,none⟩) n n):=by rw[aC x0];rfl
 have cB:W0.cell? ⟨w.heap.size+1,0,none⟩=some (.int .u64 (i:Int)):=by rw[aC y0];rfl
 have ed:(i:Int)<(n:Int):=by omega
 refine(IV (n:=30)).1 ?_
 refine callsIn_of_wp_marks Tryz.func176 rfl trivial ?_ rfl;simp only[Tryz.ntmps176,List.size_toArray,List.length_cons,List.length_nil,Nat.reduceAdd,Nat.reduceSub,Array.replicate_succ,Array.replicate_zero,List.push_toArray,List.append_toArray,List.nil_append,List.cons_append];rw[af]at ci cA cB;have dg:=aA L0;have c4:=aA (And.intro P0 (And.intro J b2));clear L0 P0 LP x0 y0 s0 J b2;gi_wp2
 refine⟨trivial,?_⟩;refine(IV.2 ci).mono ?_
 clear ci;rintro e f ⟨rfl,k1⟩;rw[← af]at k1;obtain⟨L1,_,_⟩:=dg.out.fresh k1;have cj:=k0.trans k1;cases cC:(ps.getD i []).isEmpty
 ·have dh:=k1.size;obtain⟨k,b8⟩:∃k,k=f.alloc (.cells #[.bool false] 4):=⟨_,rfl⟩;have k9:Kb [] f k:=by rw[b8];exact(Kb.refl [] f).alloc _
  have m9:k.heap[f.heap.size]?=some (.cells #[.bool false] 4 (0,0)):=by rw[b8];exact aD _ _
  have L9:=((L1.fresh k9).1.fk m9 (L1.gg (gO _)));have z9:k.heap.size=f.heap.size+1:=by rw[b8];simp
  have aw:=aA L9;clear L1 L9 m9;gi_wp2
  rw[← b8];clear b8 af cA cB;obtain⟨ax,ck⟩:∃ax:List (Nat × Array sA × I1),ax=[(f.heap.size,#[.bool false],4),(w.heap.size+2,#[.int .u64 (ld:Int)],232),(w.heap.size+1,#[.int .u64 (i:Int)],TN),(w.heap.size,#[.slice (some ⟨d,0,none⟩) n n],TPs),(d,pv.toArray,TP)]:=⟨_,rfl⟩;rw[← ck]at aw;have V:=aA ck;clear ck;obtain⟨c8,cl⟩:∃c8,c8=BJ n pv ps t:=⟨_,rfl⟩;rw[← cl]at aw;have di:=aA cl;clear cl
  have cF:Hid (∀(W:vF) (X:GV) (ae:List (Nat × Array sA × I1)) (ay:List (sA × List Nat × Nat)),X.cap=G.cap→LI w B c n G [] ae ay W s X→(∀q∈ax,q∈ae)→Calls hE 118 #[.pointer (some ⟨G.bg,0,none⟩),.int .u64 (i:Int)] W fun e H=>∃Z uo ul uc,e=.returned (.agg #[.slice uo ul uc])∧W.heap.size≤H.heap.size∧Z.cap=G.cap∧(H.cell? ⟨w.heap.size+1,0,none⟩=some (.int .u64 (i:Int))∧H.cell? ⟨G.bg,5,none⟩=some (.slice (some ⟨G.bn,0,none⟩) n G.cap))∧LI w B c n G [] ae ((.slice uo ul uc,s.heirsOf i,w.heap.size)::ay) H s Z):=by
   refine aA (fun W X ae ay cm L g=>?_);have:=tQ i W X L.gm (TT.out L.ch) cz hi hw.rep;rw[L.ch.e1,L.ch.e2,cm]at this;refine this.mono ?_
   rintro e H ⟨Z,E,m,p2,p3,p4,p6⟩;obtain⟨uo,ul,uc,rfl⟩:=p4.set.form;have L9:=(L.call p2 p3).1.ia (p4.set.low L.ch.kb.size) p4.out;exact⟨Z,uo,ul,uc,m,p3.kb.size,p2.capOf L9.ch.e1 p6,⟨L9.cell (b:=w.heap.size+1) (v:=.int .u64 (i:Int)) (T:=TN) (g _ (by rw[V.out];simp)),p6⟩,L9⟩
  have cO:Hid (∀(W:vF) (X:GV) (ae:List (Nat × Array sA × I1)) (ay:List (sA × List Nat × Nat)),X.cap=G.cap→LI w B c n G [] ae ay W s X→(∀q∈ax,q∈ae)→Calls hE 157 #[.pointer (some ⟨G.bg,0,none⟩),.pointer (some ⟨G.bn,i*7+3,none⟩)] W fun e H=>∃Z uo ul uc,e=.returned (.agg #[.slice uo ul uc])∧W.heap.size≤H.heap.size∧Z.cap=G.cap∧(H.cell? ⟨w.heap.size+1,0,none⟩=some (.int .u64 (i:Int))∧H.cell? ⟨G.bg,5,none⟩=some (.slice (some ⟨G.bn,0,none⟩) n G.cap))∧LI w B c n G [] ae ((.slice uo ul uc,s.standing (s.ld i),w.heap.size)::ay) H s Z):=by
   refine aA (fun W X ae ay cm L g=>?_);obtain⟨v,q,q',qs⟩:=L.gm.get (k:=7*i+3) (by omega);have:=iH X.bn (7*i+3) _ TNd v B _ W X L.gm (TT.out L.ch) cz L.gm.hbn q' qs hw.rep;rw[L.ch.e1,L.ch.e2,cm,show s.ss.getD (7*i+3) []=s.ld i from rfl,show 7*i+3=i*7+3 by omega]at this;refine this.mono ?_
   rintro e H ⟨Z,E,m,p2,p3,p4,p5,p6⟩;obtain⟨uo,ul,uc,rfl⟩:=p4.form;have L9:=(L.call p2 p3).1.ia (p4.low L.ch.kb.size) p5;exact⟨Z,uo,ul,uc,m,p3.kb.size,p2.capOf L9.ch.e1 p6,⟨L9.cell (b:=w.heap.size+1) (v:=.int .u64 (i:Int)) (T:=TN) (g _ (by rw[V.out];simp)),p6⟩,L9⟩
  have cn:=(aw.out.fresh (W':=k.drew) (Kb.refl [] k).drew).1;have dk:=aw.out.cell (b:=w.heap.size+1) (v:=.int .u64 (i:Int)) (T:=TN) (by rw[V.out];simp);have dl:=aw.out.gm.reads.2.2.2.2.2.1;have ee:d<w.heap.size:=aB c4.out.2.1.hb;have S:∀q∈ax,q.1<k.heap.size:=by intro q o;rw[V.out]at o;simp only[sT,List.not_mem_nil,or_false]at o;rcases o with rfl|rfl|rfl|rfl|rfl<;>(dsimp only;omega)
  have a0:w.heap.size≤k.heap.size:=by omega
  have dm:k.drew.heap.size=k.heap.size:=rfl;have co:G.bg<w.heap.size:=aB h.hbg;have az:w.heap.size+4≤k.heap.size:=by omega
  have m1:¬k.heap.size=w.heap.size+1:=by omega
  have m9:¬k.heap.size=w.heap.size:=by omega
  have dp:¬w.heap.size=k.heap.size:=by omega
  have m2:¬w.heap.size+1=k.heap.size:=by omega
  have m3:¬k.heap.size=G.bg:=by omega
  have m4:¬G.bg=k.heap.size:=by omega
  have m5:¬k.heap.size+1=w.heap.size+1:=by omega
  have m6:¬w.heap.size+1=k.heap.size+1:=by omega
  have m7:¬k.heap.size+1=G.bg:=by omega
  have m8:¬G.bg=k.heap.size+1:=by omega
  have b9:=aA (And.intro az co);have cp:Hid (w.heap.size+3≤f.heap.size):=aA (by omega);clear z9 z0 dh k9 k0 cj k1 az
  refine nG (K:=fun a ag=>∃b6 T,HpK w B c n G s (s.heirsOf i) (s.standing (s.ld i)) ax c8 b6 T k.heap.size ag∧∃ah ai aj ak al am an ao ap aq ar au,a={ tmps:=#[.pointer (some ⟨G.bg,0,none⟩),.slice (some ⟨d,0,none⟩) n n,.int .u64 (i:Int),.int .u64 (ld:Int),lZ,.pointer (some ⟨w.heap.size,0,none⟩),.pointer (some ⟨w.heap.size+1,0,none⟩),.pointer (some ⟨w.heap.size+1+1,0,none⟩),.bool false,.pointer (some ⟨f.heap.size,0,none⟩),.pointer (some ⟨b6,0,none⟩),.pointer (some ⟨T,0,none⟩),lZ,lZ,.slice (some ⟨d,0,none⟩) n n,.int .u64 (i:Int),.pointer (some ⟨d,i,none⟩),.bool false,ah,ai,aj,ak,al,am,an,ao,ap,aq,ar,au,lZ,lZ,lZ,lZ,lZ,lZ,lZ,lZ,lZ,lZ,lZ,lZ,lZ,lZ,lZ,lZ,lZ,lZ,lZ,lZ,lZ,lZ,lZ],defers:=[] }) ?_ ?_
  ·go_region_held3 (fun W=>W.cell? ⟨w.heap.size+1,0,none⟩=some (.int .u64 (i:Int))∧W.cell? ⟨G.bg,5,none⟩=some (.slice (some ⟨G.bn,0,none⟩) n G.cap)) (go_keep)
    (first
    |(with_reducible (show Calls hE 118 #[_,_] _ _);refine(cF.out _ G _ c8 rfl (by first|with_reducible exact cn|with_reducible exact((aw.out.box _).fresh (Kb.refl [] _).drew).1|with_reducible exact(((aw.out.box _).box _).fresh (Kb.refl [] _).drew).1) (by intro q o;simp[o])).mono ?_;rintro e p ⟨X,uo,ul,uc,rfl,ca,dq,a5,L1⟩;obtain⟨az,co⟩:=b9.out;(try simp only[IW]at ca);(try rw[World.size_drew]at ca);(try simp only[IW]at ca);have cS:=aA ca;(try have:¬p.heap.size=w.heap.size+1:=by omega);(try have:¬p.heap.size=w.heap.size:=by omega);(try have:¬w.heap.size=p.heap.size:=by omega);(try have:¬w.heap.size+1=p.heap.size:=by omega);(try have:¬p.heap.size+1=w.heap.size+1:=by omega);(try have:¬w.heap.size+1=p.heap.size+1:=by omega);(try have:¬p.heap.size=G.bg:=by omega);(try have:¬G.bg=p.heap.size:=by omega);(try have:¬p.heap.size+1=G.bg:=by omega);(try have:¬G.bg=p.heap.size+1:=by omega);(try have:¬p.heap.size=k.heap.size:=by omega);(try have:¬k.heap.size=p.heap.size:=by omega);(try have:¬p.heap.size+1=k.heap.size:=by omega);(try have:¬k.heap.size=p.heap.size+1:=by omega);(try have:¬p.heap.size=k.heap.size+1:=by omega);(try have:¬k.heap.size+1=p.heap.size:=by omega);(try have:¬p.heap.size+1=k.heap.size+1:=by omega);(try have:¬k.heap.size+1=p.heap.size+1:=by omega);clear cn az)
    | (with_reducible (show Calls hE 157 #[_,_] _ _);refine(cO.out _ X _ _ dq (by first|with_reducible exact L1|with_reducible exact(L1).box _|with_reducible exact((L1).box _).box _) (by intro q o;simp[o])).mono ?_;rintro e r ⟨Z,xo,xl,xc,rfl,dr,ef,eg,U⟩;obtain⟨e1,e2,e3,e4⟩:=U.l5;obtain⟨az,co⟩:=b9.out;have cW:=cS.out;(try simp only[IW]at dr);(try have:¬r.heap.size=w.heap.size+1:=by omega);(try have:¬r.heap.size=w.heap.size:=by omega);(try have:¬w.heap.size=r.heap.size:=by omega);(try have:¬w.heap.size+1=r.heap.size:=by omega);(try have:¬r.heap.size+1=w.heap.size+1:=by omega);(try have:¬w.heap.size+1=r.heap.size+1:=by omega);(try have:¬r.heap.size=G.bg:=by omega);(try have:¬G.bg=r.heap.size:=by omega);(try have:¬r.heap.size+1=G.bg:=by omega);(try have:¬G.bg=r.heap.size+1:=by omega);(try have:¬r.heap.size=p.heap.size:=by omega);(try have:¬p.heap.size=r.heap.size:=by omega);(try have:¬r.heap.size+1=p.heap.size:=by omega);(try have:¬p.heap.size=r.heap.size+1:=by omega);(try have:¬r.heap.size=p.heap.size+1:=by omega);(try have:¬p.heap.size+1=r.heap.size:=by omega);(try have:¬r.heap.size+1=p.heap.size+1:=by omega);(try have:¬p.heap.size+1=r.heap.size+1:=by omega);(try have:¬r.heap.size=k.heap.size:=by omega);(try have:¬k.heap.size=r.heap.size:=by omega);(try have:¬r.heap.size+1=k.heap.size:=by omega);(try have:¬k.heap.size=r.heap.size+1:=by omega);(try have:¬r.heap.size=k.heap.size+1:=by omega);(try have:¬k.heap.size+1=r.heap.size:=by omega);(try have:¬r.heap.size+1=k.heap.size+1:=by omega);(try have:¬k.heap.size+1=r.heap.size+1:=by omega);clear L1 az cW))
   all_goals have az:=b9.out.1
   all_goals (try have cW:=cS.out)
   ·exact⟨r.heap.size,r.heap.size+1,uS U (by intro q o;simp[o]) S a0 (tC _ _ _ _ _) (aF (aD _ _) _) (oI _ _ _) (.inl (gO _)) (.inl (by omega)) (by omega) (by omega) (by omega),_,_,_,_,_,_,_,_,_,_,_,_,rfl⟩
   ·exact⟨r.heap.size+1,r.heap.size,uS U (by intro q o;simp[o]) S a0 (tC _ _ _ _ _) (oI _ _ _) (aF (aD _ _) _) (.inl (by omega)) (.inl (gO _)) (by omega) (by omega) (by omega),_,_,_,_,_,_,_,_,_,_,_,_,rfl⟩
   ·exact⟨p.heap.size,r.heap.size,Ik U (by intro q o;simp[o]) S a0 (by simp) (by omega) (by omega),_,_,_,_,_,_,_,_,_,_,_,_,rfl⟩
   ·exact⟨p.heap.size,p.heap.size+1,DI U (by intro q o;simp[o]) S a0 (by simp) (by simp) (by omega) (by omega) (by omega),_,_,_,_,_,_,_,_,_,_,_,_,rfl⟩
   ·exact⟨r.heap.size,p.heap.size,Il U (by intro q o;simp[o]) S a0 (by simp) (by omega) (by omega),_,_,_,_,_,_,_,_,_,_,_,_,rfl⟩
   ·exact⟨p.heap.size+1,p.heap.size,DI U (by intro q o;simp[o]) S a0 (by simp) (by simp) (by omega) (by omega) (by omega),_,_,_,_,_,_,_,_,_,_,_,_,rfl⟩
   ·exact⟨k.heap.size,r.heap.size,Ik U (by intro q o;simp[o]) S a0 (by simp) (by omega) (by omega),_,_,_,_,_,_,_,_,_,_,_,_,rfl⟩
   ·exact⟨k.heap.size,p.heap.size,DI U (by intro q o;simp[o]) S a0 (by simp) (by simp) (by omega) (by omega) (by omega),_,_,_,_,_,_,_,_,_,_,_,_,rfl⟩
   ·exact⟨k.heap.size,k.heap.size+1,DI U (by intro q o;simp[o]) S a0 (by simp) (by simp) (by omega) (by omega) (by omega),_,_,_,_,_,_,_,_,_,_,_,_,rfl⟩
   ·exact⟨r.heap.size,k.heap.size,Il U (by intro q o;simp[o]) S a0 (by simp) (by omega) (by omega),_,_,_,_,_,_,_,_,_,_,_,_,rfl⟩
   ·exact⟨p.heap.size,k.heap.size,DI U (by intro q o;simp[o]) S a0 (by simp) (by simp) (by omega) (by omega) (by omega),_,_,_,_,_,_,_,_,_,_,_,_,rfl⟩
   ·exact⟨k.heap.size+1,k.heap.size,DI U (by intro q o;simp[o]) S a0 (by simp) (by simp) (by omega) (by omega) (by omega),_,_,_,_,_,_,_,_,_,_,_,_,rfl⟩
  rintro a ag ⟨b6,T,⟨l6,l7,eh,vl,vs,Z,I⟩,ah,ai,aj,ak,al,am,an,ao,ap,aq,ar,au,rfl⟩;rw[di.out]at I;obtain⟨P0,J,b2⟩:=c4.out;have q6:=(I.bx (b6,#[vl],aL) (by simp)).1;have sl:=(I.vt (vl,s.heirsOf i,w.heap.size) (by simp)).1;have cq:(d,pv.toArray,TP)∈(T,#[vs],aL)::(b6,#[vl],aL)::ax:=by rw[V.out];simp
  have cr:∀a7,a7<n→(pv.getD a7 fP,ps.getD a7 [],t)∈(vl,s.heirsOf i,w.heap.size)::(vs,s.standing (s.ld i),w.heap.size)::BJ n pv ps t:=fun a7 hj=>C1 _ (C1 _ (List.mem_map.2 ⟨a7,Lt.2 hj,rfl⟩))
  have PX:PS ag t d n pv ps:=⟨(I.bx _ cq).1,J.lp,J.ln,J.lq,fun a7 hj=>(I.vt _ (cr a7 hj)).1,J.ap⟩;have cb:∀b∈pft d pv,b ∉ Z.foot:=by
   intro b g;rcases gZ.1 g with rfl|⟨a7,hj,e⟩
   ·exact(I.bx _ cq).2
   ·exact(I.vt _ (cr a7 (by rw[← J.ln];exact hj))).2 b e
  have HA:=dN w.heap.size b6 0 #[vl] aL vl (s.heirsOf i) ag q6 rfl sl;have av:∀b∈pft d pv,t≤b∧b<w.heap.size:=fun b g=>⟨(J.cells g).1,(J.cells g).2.1⟩
  have ei:w.heap.size≤f.heap.size:=by have:=aB (I.bx (w.heap.size+2,#[.int .u64 (ld:Int)],232) (by rw[V.out];simp)).1;have h9:=b9.out.1;have:=cp.out;omega
  have ej:f.heap.size<ag.heap.size:=aB (I.bx (f.heap.size,#[.bool false],4) (by rw[V.out];simp)).1;have ds:=aA (And.intro I (And.intro PX cb));clear I PX cb q6 sl cq cr P0 J b2 cn dk dl S m1 m2 m3 m4 m5 m6 m7 m8 m9 dp cF cO dm;gi_wp2
  refine⟨trivial,?_⟩;refine(IV.2 HA).mono ?_
  clear HA;rintro e C ⟨bw,va,rfl,dt,d0,cd,F⟩;obtain⟨I,PX,cb⟩:=ds.out;have M:=(I.fresh F).1;have ek:=F.size;have el:=h.hB;have I0:HpI C t d n pv f.heap.size (false,ps) pv C:=⟨PX.kb F (by simp),Kb.refl _ _,fun b g=>.inl g,(M.bx (f.heap.size,#[.bool false],4) (by rw[V.out];simp)).1,fun l=>by have:=(av _ l).2;omega,by omega⟩;obtain⟨LB,ce⟩:∃LB,LB=0::va.ownBlock.toList:=⟨_,rfl⟩;have cs:∀b∈LB,b<C.heap.size∧b≠f.heap.size∧b ∉ pft d pv:=by
   intro b g;rw[ce]at g;rcases sT.1 g with rfl|g
   ·exact⟨by omega,by omega,fun l=>by have:=(av _ l).1;omega⟩
   ·simp at g;have:=(cd.lt g).1;exact⟨(cd.lt g).2,by omega,fun l=>by have:=(av _ l).2;have:=I.ch.kb.size;omega⟩
  have ct:∀b∈LB,b<C.heap.size:=fun b g=>(cs b g).1
  have du:=bZ 29 bw ag.heap.size va (s.heirsOf i) LB C d0 cd (TT.out M.ch) (fun b7 Q=>by rw[ce];simp[Q]) (by rw[ce];simp);have x5:=(M.bx (w.heap.size,#[.slice (some ⟨d,0,none⟩) n n],TPs) (by rw[V.out];simp)).1;have x6:=(M.bx (w.heap.size+1,#[.int .u64 (i:Int)],TN) (by rw[V.out];simp)).1;have ba:=aA (And.intro I0 (And.intro M (And.intro x5 x6)));have em:=I.ch.kb.size;clear I PX M I0 x5 x6 d0 cd F ce;gi_wp2
  refine OS (α:=Mem (s.heirsOf i)) (hro:=rfl) (h1:=by omega) (gf:=127) (lb:=#[.pointer (some ⟨bw,0,none⟩)]) rfl trivial (enters_of Tryz.func127 (by kernel_rfl) rfl) du (fun R h2=>R.trans h2) (fZ ct) (Below.refl _ _) (fun _=>rfl)
   (fun pre W=>HpJ C t d n pv f.heap.size ((aR pre).foldl (fS i) (false,ps)) W)
   (fun _ _ _=>False) ?hI (fun _ _ _ _ _ hs _ _=>hs) ⟨pv,ba.out.1⟩
   (fun x a' _=>a'={ tmps:=#[.pointer (some ⟨G.bg,0,none⟩),.slice (some ⟨d,0,none⟩) n n,.int .u64 (i:Int),.int .u64 (ld:Int),lZ,.pointer (some ⟨w.heap.size,0,none⟩),.pointer (some ⟨w.heap.size+1,0,none⟩),.pointer (some ⟨w.heap.size+1+1,0,none⟩),.bool false,.pointer (some ⟨f.heap.size,0,none⟩),.pointer (some ⟨b6,0,none⟩),.pointer (some ⟨T,0,none⟩),.int .u64 (x.1:Int),lZ,.slice (some ⟨d,0,none⟩) n n,.int .u64 (i:Int),.pointer (some ⟨d,i,none⟩),.bool false,ah,ai,aj,ak,al,am,an,ao,ap,aq,ar,au,.func (.func 127) #[] #[.pointer (some ⟨bw,0,none⟩)],.int .u64 (x.1:Int),lZ,lZ,lZ,lZ,lZ,lZ,lZ,lZ,lZ,lZ,lZ,lZ,lZ,lZ,lZ,lZ,lZ,lZ,lZ,lZ,lZ],defers:=[] }) ?hAx ?assign ?body ?done ?stop
  case hI=>rintro pre W H cu ⟨A,m⟩ Q hr;exact⟨A,m.own Q hr⟩
  case hAx=>rintro x a' _ W H cu rfl Q hr;rfl
  case assign=>
   rintro aV pre x W K hi u;dsimp only[jO,Array.zip,Array.foldl];gi_wp2
   exact u _ _ (KB _ _) (KpB.refl _ _) hi rfl
  case stop=>rintro ab cc pre ag _ _ hF _;exact hF.elim
  case body=>
   rintro aV pre ⟨x,b5⟩ a' W hl ⟨dx,hr⟩ ⟨A,m⟩ rfl dy;have hx:=hw.gp b5;have d1:x≠i:=by obtain⟨_,h2,_⟩:=fI.1 b5;exact h2
   have e9:(aR (pre++[(⟨x,b5⟩:Mem (s.heirsOf i))])).foldl (fS i) (false,ps)=fS i ((aR pre).foldl (fS i) (false,ps)) x:=by unfold aR;rw[Jp,JE];rfl
   have bb:=aA e9;clear e9;generalize (aR pre).foldl (fS i) (false,ps)=z at *;have dz:=cp.out;have c5:W.cell? ⟨w.heap.size,0,none⟩=some (.slice (some ⟨d,0,none⟩) n n):=by
    rw[aC (m.kb.heap ba.out.2.2.1 (fun l=>?_))]
    ·rfl
    ·rcases sT.1 l with e|l
     ·omega
     ·have:=(av _ l).2;omega
   have c6:W.cell? ⟨w.heap.size+1,0,none⟩=some (.int .u64 (i:Int)):=by
    rw[aC (m.kb.heap ba.out.2.2.2 (fun l=>?_))]
    ·rfl
    ·rcases sT.1 l with e|l
     ·omega
     ·have:=(av _ l).2;omega
   have D:=m.beside (Kb.refl [] W).drew (by simp);have dF:(x:Int)<(n:Int):=by omega
   have bc:=BH t d x d i A.toArray A.toArray TP TP _ _ _ _ W.drew (by have:=D.ps.lp;have:=aB D.ps.hb;omega) (by decide) (by decide) D.ps.hb (D.ps.get hx) D.ps.hb (D.ps.get hi) (.inr (Ne.symm d1)) (D.ps.st x hx) (D.ps.st i hi) (D.ps.ap x i hx hi d1);have HD:Hid (HpI C t d n pv f.heap.size z A W.drew∧∀b∈LB,b<W.drew.heap.size∧b≠f.heap.size∧b ∉ pft d A):=by
    refine aA ⟨D,fun b g=>⟨A2 (ct b g) m.kb.size,(cs b g).2.1,fun l=>?_⟩⟩;rcases m.pf b l with R|R
    ·exact(cs b g).2.2 R
    ·have:=ct b g;omega
   clear D m;cases b0:iM (z.2.getD x []) (z.2.getD i [])<;>rw[b0]at bc
   ·have a8:fS i z x=(z.1,z.2.set x (cP (z.2.getD x []) (z.2.getD i []))):=by unfold fS;rw[b0];rfl
    have a9:Hid (∀j E,SetCh W.drew j d x A.toArray TP (A.getD x fP) E→aO j t E (cP (z.2.getD x []) (z.2.getD i []))→HpJ C t d n pv f.heap.size (fS i z x) (j.setCell ⟨f.heap.size,0,none⟩ (.bool (z.1)))∧Ju C.heap.size W (j.setCell ⟨f.heap.size,0,none⟩ (.bool (z.1)))∧KpB LB W (j.setCell ⟨f.heap.size,0,none⟩ (.bool (z.1)))∧j.heap[f.heap.size]?=some (.cells #[.bool z.1] 4 (0,0))):=by refine aA (fun j E hC hS=>?_);obtain⟨a1,a2,a3,a4⟩:=HD.out.1.put hx hC hS (z.1) HD.out.2;rw[a8];exact⟨⟨_,a1⟩,(bO (L:=[]) (Kb.refl [] W).drew (by simp) _).trans (a2 _),fun b g=>(a3 b g),a4⟩
    clear a8;gi_wp2
    refine fB (K:=fun a Y=>(HpJ C t d n pv f.heap.size (fS i z x) Y∧Ju C.heap.size W Y∧KpB LB W Y)∧∃be bf bg bh bi bj bk bl bm bn,a={ tmps:=#[.pointer (some ⟨G.bg,0,none⟩),.slice (some ⟨d,0,none⟩) n n,.int .u64 (i:Int),.int .u64 (ld:Int),lZ,.pointer (some ⟨w.heap.size,0,none⟩),.pointer (some ⟨w.heap.size+1,0,none⟩),.pointer (some ⟨w.heap.size+1+1,0,none⟩),.bool false,.pointer (some ⟨f.heap.size,0,none⟩),.pointer (some ⟨b6,0,none⟩),.pointer (some ⟨T,0,none⟩),.int .u64 (x:Int),lZ,.slice (some ⟨d,0,none⟩) n n,.int .u64 (i:Int),.pointer (some ⟨d,i,none⟩),.bool false,ah,ai,aj,ak,al,am,an,ao,ap,aq,ar,au,.func (.func 127) #[] #[.pointer (some ⟨bw,0,none⟩)],.int .u64 (x:Int),be,bf,bg,bh,bi,bj,bk,bl,bm,bn,lZ,lZ,lZ,lZ,lZ,lZ,lZ,lZ,lZ,lZ,lZ],defers:=[] }) ?_ ?_
    ·skip
     refine Mi (by kernel_rfl) ?_
     (try (change Mv _ _ _ _ _ _ _ _ _ (MV _)))
     change Mv (Kt.inRound aV) _ _ _ _ _ _ _ _ _;refine dZ (by kernel_rfl) _ _ _ _ ?_
     repeat' first
      |(with_reducible (show NE _ _ _ _ _ _ _ _ _ _ _);first|exact AllReadyIn.nil|refine AllReadyIn.cons rfl (fun K u=>?_) ?_)
      | (replace u:=u
         go_simp
         try
          refine⟨trivial,?_⟩;refine(IV.2 bc).mono ?_
          clear bc;rintro e j ⟨rfl,v1,a5,aa⟩;obtain⟨g1,g2,g3,N⟩:=a9.out j v1 aa a5;have c9:j.cell? ⟨f.heap.size,0,none⟩=some (.bool z.1):=by rw[aC N];rfl
          have f9:j.frozen? ⟨f.heap.size,0,none⟩=false:=aE N 0;have O:=aA (And.intro g1 (And.intro g2 g3));clear g1 g2 g3 N a5 aa
         refine u _ _ ?_
         clear u K)
      | (first|refine IX (i:=1) (v:=?_) rfl rfl (by kernel_rfl) (by decide +kernel) (by decide +kernel) (fun _ _ _ h=>h) ⟨Or.inl ⟨by rfl,?_⟩,fun _=>rfl⟩ ?_|refine IX (i:=2) (v:=?_) rfl rfl (by kernel_rfl) (by decide +kernel) (by decide +kernel) (fun _ _ _ h=>h) ⟨Or.inl ⟨by rfl,?_⟩,fun _=>rfl⟩ ?_|refine IX (i:=5) (v:=?_) rfl rfl (by kernel_rfl) (by decide +kernel) (by decide +kernel) (fun _ _ _ h=>h) ⟨Or.inl ⟨by rfl,?_⟩,fun _=>rfl⟩ ?_|refine IX (i:=7) (v:=?_) rfl rfl (by kernel_rfl) (by decide +kernel) (by decide +kernel) (fun _ _ _ h=>h) ⟨Or.inl ⟨by rfl,?_⟩,fun _=>rfl⟩ ?_|refine IX (i:=9) (v:=?_) rfl rfl (by kernel_rfl) (by decide +kernel) (by decide +kernel) (fun _ _ _ h=>h) ⟨Or.inl ⟨by rfl,?_⟩,fun _=>rfl⟩ ?_
         rotate_left
         ·(intro w;go_simp;try (with_reducible rfl))
         try simp only[J2,I8,Jo,Jq])
      |refine IP (rs:=[0,3,4]) (by decide +kernel) (by simp) ?_
      |refine IP (rs:=[3,4]) (by decide +kernel) (by simp) ?_
      |refine IP (rs:=[4]) (by decide +kernel) (by simp) ?_
      |refine IP (rs:=[6]) (by decide +kernel) (by simp) ?_
      |refine IP (rs:=[8]) (by decide +kernel) (by simp) ?_
      |refine IP (rs:=[10]) (by decide +kernel) (by simp) ?_
      |refine IP (rs:=[3]) (by decide +kernel) (by simp) ?_
      |refine IP (rs:=[0,4]) (by decide +kernel) (by simp) ?_
      |refine IP (rs:=[0]) (by decide +kernel) (by simp) ?_
      |refine IP (rs:=[0,3]) (by decide +kernel) (by simp) ?_
      |(refine MW (by decide +kernel) ?_ _;exact⟨⟨O.out.1,O.out.2.1,O.out.2.2⟩,_,_,_,_,_,_,_,_,_,_,rfl⟩)
    rintro a Y ⟨⟨HJ,kf,kp⟩,be,bf,bg,bh,bi,bj,bk,bl,bm,bn,rfl⟩;have b1:=aA HJ;clear HJ a9;gi_wp2
    refine⟨kf,kp,?_⟩;show HpJ _ _ _ _ _ _ _ _;rw[bb.out];exact b1.out
   ·have a8:fS i z x=(true,z.2.set x (cP (z.2.getD x []) (z.2.getD i []))):=by unfold fS;rw[b0];rfl
    have a9:Hid (∀j E,SetCh W.drew j d x A.toArray TP (A.getD x fP) E→aO j t E (cP (z.2.getD x []) (z.2.getD i []))→HpJ C t d n pv f.heap.size (fS i z x) (j.setCell ⟨f.heap.size,0,none⟩ (.bool (true)))∧Ju C.heap.size W (j.setCell ⟨f.heap.size,0,none⟩ (.bool (true)))∧KpB LB W (j.setCell ⟨f.heap.size,0,none⟩ (.bool (true)))∧j.heap[f.heap.size]?=some (.cells #[.bool z.1] 4 (0,0))):=by refine aA (fun j E hC hS=>?_);obtain⟨a1,a2,a3,a4⟩:=HD.out.1.put hx hC hS (true) HD.out.2;rw[a8];exact⟨⟨_,a1⟩,(bO (L:=[]) (Kb.refl [] W).drew (by simp) _).trans (a2 _),fun b g=>(a3 b g),a4⟩
    clear a8;gi_wp2
    refine fB (K:=fun a Y=>(HpJ C t d n pv f.heap.size (fS i z x) Y∧Ju C.heap.size W Y∧KpB LB W Y)∧∃be bf bg bh bi bj bk bl bm bn,a={ tmps:=#[.pointer (some ⟨G.bg,0,none⟩),.slice (some ⟨d,0,none⟩) n n,.int .u64 (i:Int),.int .u64 (ld:Int),lZ,.pointer (some ⟨w.heap.size,0,none⟩),.pointer (some ⟨w.heap.size+1,0,none⟩),.pointer (some ⟨w.heap.size+1+1,0,none⟩),.bool false,.pointer (some ⟨f.heap.size,0,none⟩),.pointer (some ⟨b6,0,none⟩),.pointer (some ⟨T,0,none⟩),.int .u64 (x:Int),lZ,.slice (some ⟨d,0,none⟩) n n,.int .u64 (i:Int),.pointer (some ⟨d,i,none⟩),.bool false,ah,ai,aj,ak,al,am,an,ao,ap,aq,ar,au,.func (.func 127) #[] #[.pointer (some ⟨bw,0,none⟩)],.int .u64 (x:Int),be,bf,bg,bh,bi,bj,bk,bl,bm,bn,lZ,lZ,lZ,lZ,lZ,lZ,lZ,lZ,lZ,lZ,lZ],defers:=[] }) ?_ ?_
    ·skip
     refine Mi (by kernel_rfl) ?_
     (try (change Mv _ _ _ _ _ _ _ _ _ (MV _)))
     change Mv (Kt.inRound aV) _ _ _ _ _ _ _ _ _;refine dZ (by kernel_rfl) _ _ _ _ ?_
     repeat' first
      |(with_reducible (show NE _ _ _ _ _ _ _ _ _ _ _);first|exact AllReadyIn.nil|refine AllReadyIn.cons rfl (fun K u=>?_) ?_)
      | (replace u:=u
         go_simp
         try
          refine⟨trivial,?_⟩;refine(IV.2 bc).mono ?_
          clear bc;rintro e j ⟨rfl,v1,a5,aa⟩;obtain⟨g1,g2,g3,N⟩:=a9.out j v1 aa a5;have c9:j.cell? ⟨f.heap.size,0,none⟩=some (.bool z.1):=by rw[aC N];rfl
          have f9:j.frozen? ⟨f.heap.size,0,none⟩=false:=aE N 0;have O:=aA (And.intro g1 (And.intro g2 g3));clear g1 g2 g3 N a5 aa
         refine u _ _ ?_
         clear u K)
      | (first|refine IX (i:=1) (v:=?_) rfl rfl (by kernel_rfl) (by decide +kernel) (by decide +kernel) (fun _ _ _ h=>h) ⟨Or.inl ⟨by rfl,?_⟩,fun _=>rfl⟩ ?_|refine IX (i:=2) (v:=?_) rfl rfl (by kernel_rfl) (by decide +kernel) (by decide +kernel) (fun _ _ _ h=>h) ⟨Or.inl ⟨by rfl,?_⟩,fun _=>rfl⟩ ?_|refine IX (i:=5) (v:=?_) rfl rfl (by kernel_rfl) (by decide +kernel) (by decide +kernel) (fun _ _ _ h=>h) ⟨Or.inl ⟨by rfl,?_⟩,fun _=>rfl⟩ ?_|refine IX (i:=7) (v:=?_) rfl rfl (by kernel_rfl) (by decide +kernel) (by decide +kernel) (fun _ _ _ h=>h) ⟨Or.inl ⟨by rfl,?_⟩,fun _=>rfl⟩ ?_|refine IX (i:=9) (v:=?_) rfl rfl (by kernel_rfl) (by decide +kernel) (by decide +kernel) (fun _ _ _ h=>h) ⟨Or.inl ⟨by rfl,?_⟩,fun _=>rfl⟩ ?_
         rotate_left
         ·(intro w;go_simp;try (with_reducible rfl))
         try simp only[J2,I8,Jo,Jq])
      |(refine IX (i:=8) (v:=lZ) rfl rfl (by kernel_rfl) (by decide +kernel) (by decide +kernel) (fun _ _ _ h=>h) ⟨Or.inr ⟨by rfl,rfl⟩,fun _=>rfl⟩ ?_;try simp only[J2,I8,Jo,Jq])
      |refine IP (rs:=[0,3,4]) (by decide +kernel) (by simp) ?_
      |refine IP (rs:=[3,4]) (by decide +kernel) (by simp) ?_
      |refine IP (rs:=[4]) (by decide +kernel) (by simp) ?_
      |refine IP (rs:=[6]) (by decide +kernel) (by simp) ?_
      |refine IP (rs:=[10]) (by decide +kernel) (by simp) ?_
      |refine IP (rs:=[3]) (by decide +kernel) (by simp) ?_
      |refine IP (rs:=[0,4]) (by decide +kernel) (by simp) ?_
      |refine IP (rs:=[0]) (by decide +kernel) (by simp) ?_
      |refine IP (rs:=[0,3]) (by decide +kernel) (by simp) ?_
      |(refine MW (by decide +kernel) ?_ _;exact⟨⟨O.out.1,O.out.2.1,O.out.2.2⟩,_,_,_,_,_,_,_,_,_,_,rfl⟩)
    rintro a Y ⟨⟨HJ,kf,kp⟩,be,bf,bg,bh,bi,bj,bk,bl,bm,bn,rfl⟩;have b1:=aA HJ;clear HJ a9;gi_wp2
    refine⟨kf,kp,?_⟩;show HpJ _ _ _ _ _ _ _ _;rw[bb.out];exact b1.out
  case done=>
   rintro ab xs W hD dL ⟨a6,m⟩ u;have dT:aR xs=s.heirsOf i:=dL;rw[dT]at m;have dW:Hid (s.handParts ps i ld=(s.standing (s.ld i)).foldl (kH ld) ((s.heirsOf i).foldl (fS i) (false,ps))):=aA (yD s ps i ld cC);generalize (s.heirsOf i).foldl (fS i) (false,ps)=z1 at *;obtain⟨I0,M,x5,x6⟩:=ba.out;have dz:=cp.out;have np:∀b,w.heap.size≤b→b≠f.heap.size→b ∉ f.heap.size::pft d pv:=fun b g e0 l=>by
    rcases sT.1 l with e|l
    ·exact e0 e
    ·have:=(av _ l).2;omega
   have z9:=b9.out.1;have q9:=(M.bx (f.heap.size,#[.bool false],4) (by rw[V.out];simp));have q7:=(M.bx (T,#[vs],aL) (by simp)).1;have n7:T≠f.heap.size:=aP q7 q9.1 (by dsimp only;decide);have s7:=(M.vt (vs,s.standing (s.ld i),w.heap.size) (by simp)).1;have d2:=m.kb.heap q7 (np _ (by omega) n7);have d3:=s7.kb m.kb (fun b7 Q e=>np b7 (s7.lt e).1 (fun e2=>s7.ne q9.1 (by dsimp only;decide) (e2 ▸ e)) Q);have bo:=m.kb.heap x5 (np _ (gO _) (by omega));have x7:=(M.bx (w.heap.size+2,#[.int .u64 (ld:Int)],232) (by rw[V.out];simp)).1;have bp:=m.kb.heap x7 (np _ (by dsimp only;omega) (by dsimp only;omega));have bq:bN W:=(TT.out M.ch).kb m.kb (fun l=>by
    rcases sT.1 l with e|l
    ·omega
    ·have:=(av _ l).1;omega)
   have d4:=dN w.heap.size T 0 #[vs] aL vs (s.standing (s.ld i)) W d2 rfl d3;have d5:=aA (And.intro m (And.intro bq (And.intro bo (And.intro bp (And.intro u q9.2)))));have d6:=aA (And.intro M.gm M.ch);clear m bq bo bp I0 M x5 x6 x7 q9 q7 s7 d2 d3 np u ba;gi_wp2
   refine⟨trivial,?_⟩;refine(IV.2 d4).mono ?_
   clear d4;rintro e P ⟨br,vb,rfl,en,d7,cf,F⟩;obtain⟨m,bq,bo,bp,u,e5⟩:=d5.out;have eo:=m.kb.size;have ep:=F.size;have I2:HpI P t d n a6 f.heap.size z1 a6 P:=⟨m.ps.kb F (by simp),Kb.refl _ _,fun b g=>.inl g,F.heap m.fl (by simp),m.nf',by have:=aB m.fl;omega⟩;have d8:=(F.block ab (aB u) (by simp)).trans u;have eq:=aB u;have d9:=F.heap bo (by simp);have da:=F.heap bp (by simp);have db:∀b∈pft d a6,t≤b∧b<W.heap.size:=fun b g=>⟨(m.ps.cells g).1,(m.ps.cells g).2.1⟩
   have dc:∀b,b<C.heap.size→w.heap.size≤b→b ∉ pft d a6:=fun b g dt l=>by
    rcases m.pf b l with R|R
    ·have:=(av _ R).2;omega
    ·omega
   obtain⟨ad,cg⟩:∃ad,ad=0::vb.ownBlock.toList:=⟨_,rfl⟩;have cv:∀b∈ad,b<P.heap.size∧b≠f.heap.size∧b ∉ pft d a6:=by
    intro b g;rw[cg]at g;rcases sT.1 g with rfl|g
    ·exact⟨by omega,by omega,fun l=>by have:=(db _ l).1;omega⟩
    ·simp at g;have:=(cf.lt g).1;exact⟨(cf.lt g).2,by omega,fun l=>by have:=(db _ l).2;omega⟩
   have cw:∀b∈ad,b<P.heap.size:=fun b g=>(cv b g).1
   have e6:=bZ 29 br W.heap.size vb (s.standing (s.ld i)) ad P d7 cf (bq.kb F (by simp)) (fun b7 Q=>by rw[cg];simp[Q]) (by rw[cg];simp);have ch:=aA (And.intro I2 (And.intro d8 (And.intro d9 da)));have dd:=aA (And.intro m F);clear m bq bo bp u I2 d8 d9 da d7 cf F cg d5;gi_wp2
   refine OS (α:=Mem (s.standing (s.ld i))) (hro:=rfl) (h1:=by omega) (gf:=127) (lb:=#[.pointer (some ⟨br,0,none⟩)]) rfl trivial (enters_of Tryz.func127 (by kernel_rfl) rfl) e6 (fun R h2=>R.trans h2) (fZ cw) (Below.refl _ _) (fun _=>rfl)
    (fun pre W=>HpJ P t d n a6 f.heap.size ((aR pre).foldl (kH ld) z1) W∧W.heap[ab]?=some (.deferred (some [])))
    (fun _ _ _=>False) ?hI2 (fun _ _ _ _ _ hs _ _=>hs) ⟨⟨a6,ch.out.1⟩,ch.out.2.1⟩
    (fun x a' _=>a'={ tmps:=#[.pointer (some ⟨G.bg,0,none⟩),.slice (some ⟨d,0,none⟩) n n,.int .u64 (i:Int),.int .u64 (ld:Int),lZ,.pointer (some ⟨w.heap.size,0,none⟩),.pointer (some ⟨w.heap.size+1,0,none⟩),.pointer (some ⟨w.heap.size+1+1,0,none⟩),.bool false,.pointer (some ⟨f.heap.size,0,none⟩),.pointer (some ⟨b6,0,none⟩),.pointer (some ⟨T,0,none⟩),lZ,.int .u64 (x.1:Int),.slice (some ⟨d,0,none⟩) n n,.int .u64 (i:Int),.pointer (some ⟨d,i,none⟩),.bool false,ah,ai,aj,ak,al,am,an,ao,ap,aq,ar,au,.func (.func 127) #[] #[.pointer (some ⟨bw,0,none⟩)],lZ,lZ,lZ,lZ,lZ,lZ,lZ,lZ,lZ,lZ,lZ,.func (.func 127) #[] #[.pointer (some ⟨br,0,none⟩)],.int .u64 (x.1:Int),lZ,lZ,lZ,lZ,lZ,lZ,lZ,lZ,lZ],defers:=[] }) ?hAx2 ?assign2 ?body2 ?done2 ?stop2
   case hI2=>rintro pre W H cu ⟨⟨A,m⟩,hd⟩ Q hr;refine⟨⟨A,m.own Q hr⟩,((aS Q).block ab (aB hd) (fun l=>?_)).trans hd⟩;have:=(hr ab (by simpa using l)).1;omega
   case hAx2=>rintro x a' _ W H cu rfl Q hr;rfl
   case assign2=>
    rintro aV pre x W K hi u;dsimp only[jO,Array.zip,Array.foldl];gi_wp2
    exact u _ _ (KB _ _) (KpB.refl _ _) hi rfl
   case stop2=>rintro ab cc pre ag _ _ hF _;exact hF.elim
   case body2=>
    rintro aV pre ⟨x,b5⟩ a' W hl ⟨dx,hr⟩ ⟨⟨A,m⟩,bs⟩ rfl dy;have hx:=hw.jo (k:=7*i+3) b5;have e9:(aR (pre++[(⟨x,b5⟩:Mem (s.standing (s.ld i)))])).foldl (kH ld) z1=kH ld ((aR pre).foldl (kH ld) z1) x:=by unfold aR;rw[Jp,JE];rfl
    have bb:=aA e9;have de:=aA bs;clear e9 bs;generalize (aR pre).foldl (kH ld) z1=z at *;have c5:W.cell? ⟨w.heap.size,0,none⟩=some (.slice (some ⟨d,0,none⟩) n n):=by
     rw[aC (m.kb.heap ch.out.2.2.1 (fun l=>?_))]
     ·rfl
     ·rcases sT.1 l with e|l
      ·omega
      ·exact dc _ (by omega) (gO _) l
    have c7:W.cell? ⟨w.heap.size+1+1,0,none⟩=some (.int .u64 (ld:Int)):=by
     rw[aC (m.kb.heap ch.out.2.2.2 (fun l=>?_))]
     ·rfl
     ·rcases sT.1 l with e|l
      ·omega
      ·exact dc _ (by omega) (by omega) l
    have D:=m.beside (Kb.refl [] W).drew (by simp);have dF:(x:Int)<(n:Int):=by omega
    have bt:=uQ t d x A.toArray TP _ _ ld W.drew (by have:=D.ps.lp;have:=aB D.ps.hb;omega) (by decide) D.ps.hb (D.ps.get hx) (D.ps.st x hx) df;have HD:Hid (HpI P t d n a6 f.heap.size z A W.drew∧∀b∈ad,b<W.drew.heap.size∧b≠f.heap.size∧b ∉ pft d A):=by
     refine aA ⟨D,fun b g=>⟨A2 (cw b g) m.kb.size,(cv b g).2.1,fun l=>?_⟩⟩;rcases m.pf b l with R|R
     ·exact(cv b g).2.2 R
     ·have:=cw b g;omega
    clear D m;cases b0:!(z.2.getD x []).contains ld<;>rw[b0]at bt
    ·have a8:kH ld z x=(z.1,z.2.set x (dB ld (z.2.getD x []))):=by unfold kH;rw[b0];rfl
     have a9:Hid (∀j E,SetCh W.drew j d x A.toArray TP (A.getD x fP) E→aO j t E (dB ld (z.2.getD x []))→HpJ P t d n a6 f.heap.size (kH ld z x) (j.setCell ⟨f.heap.size,0,none⟩ (.bool (z.1)))∧Ju P.heap.size W (j.setCell ⟨f.heap.size,0,none⟩ (.bool (z.1)))∧(KpB ad W (j.setCell ⟨f.heap.size,0,none⟩ (.bool (z.1)))∧Ju C.heap.size W (j.setCell ⟨f.heap.size,0,none⟩ (.bool (z.1))))∧j.heap[f.heap.size]?=some (.cells #[.bool z.1] 4 (0,0))):=by refine aA (fun j E hC hS=>?_);obtain⟨a1,a2,a3,a4⟩:=HD.out.1.put hx hC hS (z.1) HD.out.2;rw[a8];exact⟨⟨_,a1⟩,(bO (L:=[]) (Kb.refl [] W).drew (by simp) _).trans (a2 _),⟨fun b g=>(a3 b g),(bO (L:=[]) (Kb.refl [] W).drew (by simp) _).trans (a2 _)⟩,a4⟩
     clear a8;gi_wp2
     refine fB (K:=fun a Y=>(HpJ P t d n a6 f.heap.size (kH ld z x) Y∧Ju P.heap.size W Y∧KpB ad W Y∧Ju C.heap.size W Y)∧∃bu bv bx bz bF c0 c1 c2,a={ tmps:=#[.pointer (some ⟨G.bg,0,none⟩),.slice (some ⟨d,0,none⟩) n n,.int .u64 (i:Int),.int .u64 (ld:Int),lZ,.pointer (some ⟨w.heap.size,0,none⟩),.pointer (some ⟨w.heap.size+1,0,none⟩),.pointer (some ⟨w.heap.size+1+1,0,none⟩),.bool false,.pointer (some ⟨f.heap.size,0,none⟩),.pointer (some ⟨b6,0,none⟩),.pointer (some ⟨T,0,none⟩),lZ,.int .u64 (x:Int),.slice (some ⟨d,0,none⟩) n n,.int .u64 (i:Int),.pointer (some ⟨d,i,none⟩),.bool false,ah,ai,aj,ak,al,am,an,ao,ap,aq,ar,au,.func (.func 127) #[] #[.pointer (some ⟨bw,0,none⟩)],lZ,lZ,lZ,lZ,lZ,lZ,lZ,lZ,lZ,lZ,lZ,.func (.func 127) #[] #[.pointer (some ⟨br,0,none⟩)],.int .u64 (x:Int),bu,bv,bx,bz,bF,c0,c1,c2,lZ],defers:=[] }) ?_ ?_
     ·skip
      refine Mi (by kernel_rfl) ?_
      (try (change Mv _ _ _ _ _ _ _ _ _ (MV _)))
      change Mv (Kt.inRound aV) _ _ _ _ _ _ _ _ _;refine dZ (by kernel_rfl) _ _ _ _ ?_
      repeat' first
       |(with_reducible (show NE _ _ _ _ _ _ _ _ _ _ _);first|exact AllReadyIn.nil|refine AllReadyIn.cons rfl (fun K u=>?_) ?_)
       | (replace u:=u
          go_simp
          try
           refine⟨trivial,?_⟩;refine(IV.2 bt).mono ?_
           clear bt;rintro e j ⟨rfl,v1,a5,aa⟩;obtain⟨g1,g2,g3,N⟩:=a9.out j v1 aa a5;have c9:j.cell? ⟨f.heap.size,0,none⟩=some (.bool z.1):=by rw[aC N];rfl
           have f9:j.frozen? ⟨f.heap.size,0,none⟩=false:=aE N 0;have O:=aA (And.intro g1 (And.intro g2 g3));clear g1 g2 g3 N a5 aa
          refine u _ _ ?_
          clear u K)
       | (first|refine IX (i:=1) (v:=?_) rfl rfl (by kernel_rfl) (by decide +kernel) (by decide +kernel) (fun _ _ _ h=>h) ⟨Or.inl ⟨by rfl,?_⟩,fun _=>rfl⟩ ?_|refine IX (i:=2) (v:=?_) rfl rfl (by kernel_rfl) (by decide +kernel) (by decide +kernel) (fun _ _ _ h=>h) ⟨Or.inl ⟨by rfl,?_⟩,fun _=>rfl⟩ ?_|refine IX (i:=5) (v:=?_) rfl rfl (by kernel_rfl) (by decide +kernel) (by decide +kernel) (fun _ _ _ h=>h) ⟨Or.inl ⟨by rfl,?_⟩,fun _=>rfl⟩ ?_|refine IX (i:=7) (v:=?_) rfl rfl (by kernel_rfl) (by decide +kernel) (by decide +kernel) (fun _ _ _ h=>h) ⟨Or.inl ⟨by rfl,?_⟩,fun _=>rfl⟩ ?_
          rotate_left
          ·(intro w;go_simp;try (with_reducible rfl))
          try simp only[J2,I8,Jo,Jq])
       |refine IP (rs:=[0,3]) (by decide +kernel) (by simp) ?_
       |refine IP (rs:=[3]) (by decide +kernel) (by simp) ?_
       |refine IP (rs:=[4]) (by decide +kernel) (by simp) ?_
       |refine IP (rs:=[6]) (by decide +kernel) (by simp) ?_
       |refine IP (rs:=[8]) (by decide +kernel) (by simp) ?_
       |refine IP (rs:=[0]) (by decide +kernel) (by simp) ?_
       |(refine MW (by decide +kernel) ?_ _;exact⟨⟨O.out.1,O.out.2.1,O.out.2.2⟩,_,_,_,_,_,_,_,_,rfl⟩)
     rintro a Y ⟨⟨HJ,kf,kp,c3⟩,bu,bv,bx,bz,bF,c0,c1,c2,rfl⟩;have b1:=aA (And.intro HJ (c3.same ab _ hD de.out rfl));clear HJ a9 c3;gi_wp2
     refine⟨kf,kp,?_⟩;show HpJ _ _ _ _ _ _ _ _∧_;rw[bb.out];exact b1.out
    ·have a8:kH ld z x=(true,z.2.set x (dB ld (z.2.getD x []))):=by unfold kH;rw[b0];rfl
     have a9:Hid (∀j E,SetCh W.drew j d x A.toArray TP (A.getD x fP) E→aO j t E (dB ld (z.2.getD x []))→HpJ P t d n a6 f.heap.size (kH ld z x) (j.setCell ⟨f.heap.size,0,none⟩ (.bool (true)))∧Ju P.heap.size W (j.setCell ⟨f.heap.size,0,none⟩ (.bool (true)))∧(KpB ad W (j.setCell ⟨f.heap.size,0,none⟩ (.bool (true)))∧Ju C.heap.size W (j.setCell ⟨f.heap.size,0,none⟩ (.bool (true))))∧j.heap[f.heap.size]?=some (.cells #[.bool z.1] 4 (0,0))):=by refine aA (fun j E hC hS=>?_);obtain⟨a1,a2,a3,a4⟩:=HD.out.1.put hx hC hS (true) HD.out.2;rw[a8];exact⟨⟨_,a1⟩,(bO (L:=[]) (Kb.refl [] W).drew (by simp) _).trans (a2 _),⟨fun b g=>(a3 b g),(bO (L:=[]) (Kb.refl [] W).drew (by simp) _).trans (a2 _)⟩,a4⟩
     clear a8;gi_wp2
     refine fB (K:=fun a Y=>(HpJ P t d n a6 f.heap.size (kH ld z x) Y∧Ju P.heap.size W Y∧KpB ad W Y∧Ju C.heap.size W Y)∧∃bu bv bx bz bF c0 c1 c2,a={ tmps:=#[.pointer (some ⟨G.bg,0,none⟩),.slice (some ⟨d,0,none⟩) n n,.int .u64 (i:Int),.int .u64 (ld:Int),lZ,.pointer (some ⟨w.heap.size,0,none⟩),.pointer (some ⟨w.heap.size+1,0,none⟩),.pointer (some ⟨w.heap.size+1+1,0,none⟩),.bool false,.pointer (some ⟨f.heap.size,0,none⟩),.pointer (some ⟨b6,0,none⟩),.pointer (some ⟨T,0,none⟩),lZ,.int .u64 (x:Int),.slice (some ⟨d,0,none⟩) n n,.int .u64 (i:Int),.pointer (some ⟨d,i,none⟩),.bool false,ah,ai,aj,ak,al,am,an,ao,ap,aq,ar,au,.func (.func 127) #[] #[.pointer (some ⟨bw,0,none⟩)],lZ,lZ,lZ,lZ,lZ,lZ,lZ,lZ,lZ,lZ,lZ,.func (.func 127) #[] #[.pointer (some ⟨br,0,none⟩)],.int .u64 (x:Int),bu,bv,bx,bz,bF,c0,c1,c2,lZ],defers:=[] }) ?_ ?_
     ·skip
      refine Mi (by kernel_rfl) ?_
      (try (change Mv _ _ _ _ _ _ _ _ _ (MV _)))
      change Mv (Kt.inRound aV) _ _ _ _ _ _ _ _ _;refine dZ (by kernel_rfl) _ _ _ _ ?_
      repeat' first
       |(with_reducible (show NE _ _ _ _ _ _ _ _ _ _ _);first|exact AllReadyIn.nil|refine AllReadyIn.cons rfl (fun K u=>?_) ?_)
       | (replace u:=u
          go_simp
          try
           refine⟨trivial,?_⟩;refine(IV.2 bt).mono ?_
           clear bt;rintro e j ⟨rfl,v1,a5,aa⟩;obtain⟨g1,g2,g3,N⟩:=a9.out j v1 aa a5;have c9:j.cell? ⟨f.heap.size,0,none⟩=some (.bool z.1):=by rw[aC N];rfl
           have f9:j.frozen? ⟨f.heap.size,0,none⟩=false:=aE N 0;have O:=aA (And.intro g1 (And.intro g2 g3));clear g1 g2 g3 N a5 aa
          refine u _ _ ?_
          clear u K)
       | (first|refine IX (i:=1) (v:=?_) rfl rfl (by kernel_rfl) (by decide +kernel) (by decide +kernel) (fun _ _ _ h=>h) ⟨Or.inl ⟨by rfl,?_⟩,fun _=>rfl⟩ ?_|refine IX (i:=2) (v:=?_) rfl rfl (by kernel_rfl) (by decide +kernel) (by decide +kernel) (fun _ _ _ h=>h) ⟨Or.inl ⟨by rfl,?_⟩,fun _=>rfl⟩ ?_|refine IX (i:=5) (v:=?_) rfl rfl (by kernel_rfl) (by decide +kernel) (by decide +kernel) (fun _ _ _ h=>h) ⟨Or.inl ⟨by rfl,?_⟩,fun _=>rfl⟩ ?_|refine IX (i:=7) (v:=?_) rfl rfl (by kernel_rfl) (by decide +kernel) (by decide +kernel) (fun _ _ _ h=>h) ⟨Or.inl ⟨by rfl,?_⟩,fun _=>rfl⟩ ?_
          rotate_left
          ·(intro w;go_simp;try (with_reducible rfl))
          try simp only[J2,I8,Jo,Jq])
       |(refine IX (i:=6) (v:=lZ) rfl rfl (by kernel_rfl) (by decide +kernel) (by decide +kernel) (fun _ _ _ h=>h) ⟨Or.inr ⟨by rfl,rfl⟩,fun _=>rfl⟩ ?_;try simp only[J2,I8,Jo,Jq])
       |refine IP (rs:=[0,3]) (by decide +kernel) (by simp) ?_
       |refine IP (rs:=[3]) (by decide +kernel) (by simp) ?_
       |refine IP (rs:=[4]) (by decide +kernel) (by simp) ?_
       |refine IP (rs:=[8]) (by decide +kernel) (by simp) ?_
       |refine IP (rs:=[0]) (by decide +kernel) (by simp) ?_
       |(refine MW (by decide +kernel) ?_ _;exact⟨⟨O.out.1,O.out.2.1,O.out.2.2⟩,_,_,_,_,_,_,_,_,rfl⟩)
     rintro a Y ⟨⟨HJ,kf,kp,c3⟩,bu,bv,bx,bz,bF,c0,c1,c2,rfl⟩;have b1:=aA (And.intro HJ (c3.same ab _ hD de.out rfl));clear HJ a9 c3;gi_wp2
     refine⟨kf,kp,?_⟩;show HpJ _ _ _ _ _ _ _ _∧_;rw[bb.out];exact b1.out
   case done2=>
    rintro D2 e7 W4 er e8 ⟨⟨es,p2⟩,bs⟩ cx;have ea:aR e7=s.standing (s.ld i):=e8;rw[ea,← dW.out]at p2;obtain⟨m,F⟩:=dd.out;obtain⟨f1,f2,f3,f4⟩:=Hn (D:=ab) (D2:=D2) d6.out.1 d6.out.2 e5 (by omega) cb m F p2 hD (by omega) bs cx (by omega);have c9:W4.cell? ⟨f.heap.size,0,none⟩=some (.bool (s.handParts ps i ld).1):=by rw[aC p2.fl];rfl
    have HF:=aA (And.intro f2 (And.intro f3 f4));have HK:=aA (And.intro cx f1);obtain⟨fl,cy⟩:∃fl,fl=(s.handParts ps i ld).1:=⟨_,rfl⟩;rw[← cy]at c9;have eb:=aA cy;clear f1 f2 f3 f4 m p2 F bs cx cy dd;gi_wp2
    refine⟨by simp,.inl ⟨_,_,rfl,run_takeDeferred HK.out.1,?_⟩⟩;refine⟨by simp,.inl ⟨_,_,rfl,run_takeDeferred HK.out.2,?_⟩⟩;exact⟨_,results_tmp rfl _ _ _,by rw[← eb.out];rfl,_,_,HF.out.1,HF.out.2.1,HF.out.2.2⟩
 ·have eH:s.handParts ps i ld=(false,ps):=by
   unfold St.handParts;rw[if_pos cC]
  have HF:=aA (And.intro L1.gm (And.intro (c4.out.2.1.kb cj (by simp)) (And.intro L1.ch cj)));clear L1;gi_wp2
  exact⟨_,results_tmp rfl _ _ _,by rw[eH];rfl,G,pv,HF.out.1,by rw[eH];exact HF.out.2.1,HF.out.2.2.2.mono (by simp),fun b g=>.inl g,fun b g=>.inl g,c4.out.2.2,rfl,rfl,rfl⟩
end
end Go.Proofs.YtiamlbhkiehilaaGreatDoor
