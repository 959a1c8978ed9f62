import Derived.Test.YtiamlbhkiehilaaGreatDoorKa25
import Derived.Deep.RegionHeld3
open Go renaming World→vF,Value→sA,TypeId→I1,undef→lZ
open Go.Proofs.Tryz renaming prog→hE
open Go.Value renaming slice→E2
open Go.World renaming size_alloc→IW
open List renaming mem_cons→sT,mem_singleton→A1,not_mem_nil→JT
open Nat renaming le_refl→gO,lt_succ_of_lt→KD
namespace Go.Proofs.YtiamlbhkiehilaaGreatDoor
section
open Go.RowKit Go.Shelf
attribute [local go_sem] Oper.semAt_some
variable {B:Nat} {c:Way} {n:Nat} {s:St}
def TwK(w:vF)(B:Nat)(c:Way)(n:Nat)(G:GV)(s:St)(i:Nat)(d:List (Nat × Array sA × I1))(b6 b7:Nat)(X:vF):Prop:=
 w.heap.size+3≤b6∧w.heap.size+3≤b7∧∃a b e,LI w B c n G [] ((b7,#[b],aL)::(b6,#[a],aL)::d) [(a,s.standing (s.ld i),w.heap.size),(b,s.standing (s.sr i),w.heap.size)] X s e
theorem LI.box{w:vF}{G:GV}{a:List (Nat × Array sA × I1)}{b:List (sA × List Nat × Nat)}{W:vF}{d:St}{e:GV}(h:LI w B c n G [] a b W d e)(v:sA):LI w B c n G [] ((W.heap.size,#[v],aL)::a) b (W.alloc (.cells #[v] aL)) d e:=
 (h.fresh ((Kb.refl [] W).alloc _)).1.fk (aD _ _) (h.gg (gO _))
theorem LI.l5{w:vF}{G:GV}{d:List (Nat × Array sA × I1)}{e:List (sA × List Nat × Nat)}{W:vF}{f:St}{g:GV}(h:LI w B c n G [] d e W f g):(∀b,(b,#[E2 none 0 0],aL)∈d→W.cell? ⟨b,0,none⟩=some (.slice none 0 0))∧(∀b,(b,#[E2 none 0 0],aL)∈d→W.frozen? ⟨b,0,none⟩=false)∧(∀o b,(b,#[E2 none 0 0],aL)∈d→(W.alloc o).cell? ⟨b,0,none⟩=some (.slice none 0 0))∧(∀o b,(b,#[E2 none 0 0],aL)∈d→(W.alloc o).frozen? ⟨b,0,none⟩=false):=
 ⟨fun b a=>by rw[aC (h.bx _ a).1];rfl,fun b a=>aE (h.bx _ a).1 0,fun o b a=>by rw[aC (aF (h.bx _ a).1 o)];rfl,fun o b a=>aE (aF (h.bx _ a).1 o) 0⟩
theorem uO{w:vF}{G:GV}{l f:List (Nat × Array sA × I1)}{i Z:Nat}{vl vs:sA}{X m:vF}{o:GV}{b6 b7:Nat}(L:LI w B c n G [] f [(vs,s.standing (s.ss.getD (7*i+4) []),w.heap.size),(vl,s.standing (s.ss.getD (7*i+3) []),w.heap.size)] X s o)(F:∀q∈l,q∈f)(y:∀q∈l,q.1<Z)(P:w.heap.size+3≤Z)
  (h:Kb [b6,b7] X m) (H:m.heap[b6]?=some (.cells #[vl] aL (0,0))) (I:m.heap[b7]?=some (.cells #[vs] aL (0,0))) (c6:X.heap.size≤b6∨(b6,#[E2 none 0 0],aL)∈f) (c7:X.heap.size≤b7∨(b7,#[E2 none 0 0],aL)∈f) (Q:Z≤b6) (R:Z≤b7):TwK w B c n G s i l b6 b7 m:=by
 have z:∀b,(X.heap.size≤b∨(b,#[E2 none 0 0],aL)∈f)→b ∉ o.foot∧∀(v:sA) t j,aO X j v t→v.ownBlock≠some b:=by
  intro b a;rcases a with a|a
  ·exact⟨L.gg a,fun v t j p e=>by have:=(p.lt e).2;omega⟩
  ·obtain⟨r,u⟩:=L.bx _ a;exact⟨u,fun v t j p e=>p.ne r (by dsimp only;decide) e⟩
 obtain⟨A,J⟩:=z b6 c6;obtain⟨C,K⟩:=z b7 c7;have k:∀b∈[b6,b7],b ∉ o.foot∧w.heap.size≤b∧(∀q∈l,q.1≠b)∧∀(v:sA) t j,aO X j v t→v.ownBlock≠some b:=by
  intro b a;rcases sT.1 a with rfl|a
  ·exact⟨A,by omega,fun q d e=>by have:=y q d;omega,J⟩
  ·rw[A1.1 a];exact⟨C,by omega,fun q d e=>by have:=y q d;omega,K⟩
 obtain⟨D,M⟩:=L.vt (vs,s.standing (s.ss.getD (7*i+4) []),w.heap.size) (by simp);obtain⟨E,N⟩:=L.vt (vl,s.standing (s.ss.getD (7*i+3) []),w.heap.size) (by simp);refine⟨by omega,by omega,vl,vs,o,L.gm.beside h (fun b a=>(k b a).1),L.ch.beside h (fun b a=>(k b a).2.1),fun q d=>?_,fun q d=>?_,by simp⟩
 ·rcases sT.1 d with rfl|d
  ·exact⟨I,C⟩
  ·rcases sT.1 d with rfl|d
   ·exact⟨H,A⟩
   ·obtain⟨r,u⟩:=L.bx q (F q d);exact⟨h.heap r (fun O=>(k _ O).2.2.1 q d rfl),u⟩
 ·simp only[sT,JT,or_false]at d;rcases d with rfl|rfl
  ·exact⟨E.kb h (fun g x e=>(k g x).2.2.2 _ _ _ E e),N⟩
  ·exact⟨D.kb h (fun g x e=>(k g x).2.2.2 _ _ _ D e),M⟩
theorem oI(X:vF)(a b:Obj):((X.alloc a).alloc b).heap[X.heap.size+1]?=some b:=by have:=aD (X.alloc a) b;rw[IW]at this;exact this
theorem tC(X:vF)(a b:Obj)(p q:Nat):Kb [p,q] X ((X.alloc a).alloc b):=(((Kb.refl [] X).alloc _).alloc _).mono (by simp)
theorem tD{Y:vF}{b6 b7:Nat}{u6 u7 vl vs:sA}(e:Y.heap[b6]?=some (.cells #[u6] aL (0,0)))(f:Y.heap[b7]?=some (.cells #[u7] aL (0,0)))(i:b6≠b7) :
  ((Y.setCell ⟨b6,0,none⟩ vl).setCell ⟨b7,0,none⟩ vs).heap[b6]?=some (.cells #[vl] aL (0,0))∧((Y.setCell ⟨b6,0,none⟩ vl).setCell ⟨b7,0,none⟩ vs).heap[b7]?=some (.cells #[vs] aL (0,0))∧Kb [b6,b7] Y ((Y.setCell ⟨b6,0,none⟩ vl).setCell ⟨b7,0,none⟩ vs):=by
 have g:=aI e 0 vl;have b:Kb [b6] Y (Y.setCell ⟨b6,0,none⟩ vl):=(Kb.refl _ _).setCell (p:=⟨b6,0,none⟩) (.inl (by simp)) _;have h:=b.heap f (by simp;omega);have d:Kb [b7] (Y.setCell ⟨b6,0,none⟩ vl) ((Y.setCell ⟨b6,0,none⟩ vl).setCell ⟨b7,0,none⟩ vs):=(Kb.refl _ _).setCell (p:=⟨b7,0,none⟩) (.inl (by simp)) _;exact⟨d.heap g (by simp;omega),aI h 0 vs,(b.mono (by intro k _ a;simp at a;simp[a])).trans (d.mono (by intro k _ a;simp at a;simp[a]))⟩
theorem DG{w:vF}{G:GV}{b a:List (Nat × Array sA × I1)}{i Z:Nat}{vl vs:sA}{X:vF}{d:GV}{b6 b7:Nat}(L:LI w B c n G [] a [(vs,s.standing (s.ss.getD (7*i+4) []),w.heap.size),(vl,s.standing (s.ss.getD (7*i+3) []),w.heap.size)] X s d)(e:∀q∈b,q∈a)(f:∀q∈b,q.1<Z)(g:w.heap.size+3≤Z)
  (c6:(b6,#[E2 none 0 0],aL)∈a) (c7:(b7,#[E2 none 0 0],aL)∈a) (h:Z≤b6) (j:Z≤b7) (k:b6≠b7):TwK w B c n G s i b b6 b7 ((X.setCell ⟨b6,0,none⟩ vl).setCell ⟨b7,0,none⟩ vs):=by
 obtain⟨l,m,o⟩:=tD (vl:=vl) (vs:=vs) (L.bx _ c6).1 (L.bx _ c7).1 k;exact uO L e f g o l m (.inr c6) (.inr c7) h j
theorem Ii{w:vF}{G:GV}{a b:List (Nat × Array sA × I1)}{i Z:Nat}{vl vs:sA}{X:vF}{d:GV}{b6:Nat}(L:LI w B c n G [] b [(vs,s.standing (s.ss.getD (7*i+4) []),w.heap.size),(vl,s.standing (s.ss.getD (7*i+3) []),w.heap.size)] X s d)(e:∀q∈a,q∈b)(f:∀q∈a,q.1<Z)(g:w.heap.size+3≤Z)
  (c6:(b6,#[E2 none 0 0],aL)∈b) (h:Z≤b6) (j:Z≤X.heap.size):TwK w B c n G s i a b6 X.heap.size (((X.alloc (.cells #[.slice none 0 0] aL)).setCell ⟨b6,0,none⟩ vl).setCell ⟨X.heap.size,0,none⟩ vs):=by
 have k:=aB (L.bx _ c6).1;obtain⟨l,m,o⟩:=tD (vl:=vl) (vs:=vs) (aF (L.bx _ c6).1 (.cells #[.slice none 0 0] aL)) (aD X (.cells #[.slice none 0 0] aL)) (by dsimp only at k;omega);exact uO L e f g ((((Kb.refl [] X).alloc _).mono (by simp)).trans o) l m (.inr c6) (.inl (gO _)) h j
theorem Ij{w:vF}{G:GV}{a b:List (Nat × Array sA × I1)}{i Z:Nat}{vl vs:sA}{X:vF}{f:GV}{b7:Nat}(L:LI w B c n G [] b [(vs,s.standing (s.ss.getD (7*i+4) []),w.heap.size),(vl,s.standing (s.ss.getD (7*i+3) []),w.heap.size)] X s f)(g:∀q∈a,q∈b)(h:∀q∈a,q.1<Z)(j:w.heap.size+3≤Z)
  (c7:(b7,#[E2 none 0 0],aL)∈b) (l:Z≤X.heap.size) (m:Z≤b7):TwK w B c n G s i a X.heap.size b7 ((X.alloc (.cells #[vl] aL)).setCell ⟨b7,0,none⟩ vs):=by
 have o:=aB (L.bx _ c7).1;have d:Kb [b7] (X.alloc (.cells #[vl] aL)) ((X.alloc (.cells #[vl] aL)).setCell ⟨b7,0,none⟩ vs):=(Kb.refl _ _).setCell (p:=⟨b7,0,none⟩) (.inl (by simp)) _;exact uO L g h j ((((Kb.refl [] X).alloc _).mono (by simp)).trans (d.mono (by intro k _ e;simp at e;simp[e]))) (d.heap (aD X _) (by simp;dsimp only at o;omega)) (aI (aF (L.bx _ c7).1 _) 0 vs) (.inl (gO _)) (.inr c7) l m
set_option maxRecDepth 100000 in
set_option maxHeartbeats 4000000 in
theorem BF(k i:Nat)(t:List Nat)(w:vF)(G:GV)(h:GM w B c n G s)(hw:WF n s)(hT:bN w)(au:0<B)(hi:i<n)(ht:s.twinsOf k n i=some t) :
  Calls hE 154 #[.pointer (some ⟨G.bg,0,none⟩),.int .u64 (i:Int)] w fun e w'=>∃G' v',e=.returned (.agg #[v'])∧GM w' B c n G' s∧GCh w w' G G'∧NewS w w' G' v' t:=by
 have hn:=h.n40;have ce:∀(fn:Fn) (first av:Array sA) (w:vF),(Instr.makeFunc fn first av).run hE w=.ok (.func fn first av) w:=fun _ _ _ _=>rfl
 have TT:Hid (∀ {W:vF} {G':GV},GCh w W G G'→bN W):=aA (fun hc=>hT.kb hc.kb (fun m=>by have:=(h.cells m).1;omega));obtain⟨a,N⟩:∃a,a=((w.alloc (.cells #[.pointer (some ⟨G.bg,0,none⟩)] 101)).alloc (.cells #[.slice none 0 0] aL)).alloc (.cells #[.int .u64 (n:Int)] TN):=⟨_,rfl⟩;have k0:Kb [] w a:=by rw[N];exact(((Kb.refl [] w).alloc _).alloc _).alloc _
 have O:a.heap.size=w.heap.size+3:=by rw[N];simp
 have x0:a.heap[w.heap.size]?=some (.cells #[.pointer (some ⟨G.bg,0,none⟩)] 101 (0,0)):=by rw[N];exact aF (aF (aD _ _) _) _
 have y0:a.heap[w.heap.size+1]?=some (.cells #[.slice none 0 0] aL (0,0)):=by rw[N];have:=aD (w.alloc (.cells #[.pointer (some ⟨G.bg,0,none⟩)] 101)) (.cells #[.slice none 0 0] aL);rw[IW]at this;exact aF this _
 have s0:a.heap[w.heap.size+2]?=some (.cells #[.int .u64 (n:Int)] TN (0,0)):=by rw[N];have:=aD ((w.alloc (.cells #[.pointer (some ⟨G.bg,0,none⟩)] 101)).alloc (.cells #[.slice none 0 0] aL)) (.cells #[.int .u64 (n:Int)] TN);rw[IW,IW]at this;exact this
 have nf:∀b,w.heap.size≤b→b ∉ G.foot:=fun b o m=>by have:=h.gh b m;omega
 have L0:=((((LI.start h).fresh k0).1.fk x0 (nf _ (gO _))).fk y0 (nf _ (by omega))).fk s0 (nf _ (by omega));have cf:IntKind.u64.wrap (n:Int)=(n:Int):=by rw[IntKind.wrap_u64];omega
 obtain⟨r0,r1,r2,r3,r4,r5,r7,r9,bF⟩:=h.reads;have c0:(w.alloc (.cells #[.pointer (some ⟨G.bg,0,none⟩)] 101)).cell? ⟨G.bg,5,none⟩=some (.slice (some ⟨G.bn,0,none⟩) n G.cap):=(h.fresh ((Kb.refl [] w).alloc _)).reads.2.2.2.2.2.1;have c1:((w.alloc (.cells #[.pointer (some ⟨G.bg,0,none⟩)] 101)).alloc (.cells #[.slice none 0 0] aL)).cell? ⟨G.bg,5,none⟩=some (.slice (some ⟨G.bn,0,none⟩) n G.cap):=(h.fresh (((Kb.refl [] w).alloc _).alloc _)).reads.2.2.2.2.2.1;have P:=aA L0;clear L0 x0 y0 s0 r0 r1 r2 r3 r4 r7 r9 bF;go_enter Tryz.func154,Tryz.ntmps154
 go_wp2_with fail
 rw[← N];obtain⟨a7,ai⟩:∃a7:List (Nat × Array sA × I1),a7=[(w.heap.size+2,#[.int .u64 (n:Int)],TN),(w.heap.size+1,#[.slice none 0 0],aL),(w.heap.size,#[.pointer (some ⟨G.bg,0,none⟩)],101)]:=⟨_,rfl⟩;rw[← ai]at P;clear N;have Q:=aA ai;clear ai;have aj:Hid (∀(C:Nat) (W:vF) (p:GV) (ad:List (Nat × Array sA × I1)) (ak:List (sA × List Nat × Nat)),C<7→p.cap=G.cap→LI w B c n G [] ad ak W s p→(∀q∈a7,q∈ad)→Calls hE 157 #[.pointer (some ⟨G.bg,0,none⟩),.pointer (some ⟨G.bn,i*7+C,none⟩)] W fun e W'=>∃I r u x,e=.returned (.agg #[.slice r u x])∧W.heap.size≤W'.heap.size∧I.cap=G.cap∧(W'.cell? ⟨w.heap.size,0,none⟩=some (.pointer (some ⟨G.bg,0,none⟩))∧W'.cell? ⟨G.bg,5,none⟩=some (.slice (some ⟨G.bn,0,none⟩) n G.cap))∧LI w B c n G [] ad ((.slice r u x,s.standing (s.ss.getD (7*i+C) []),w.heap.size)::ak) W' s I):=by
  refine aA (fun C W p ad ak cg c2 K o=>?_);obtain⟨v,q,q',qs⟩:=K.gm.get (k:=7*i+C) (by omega);have:=iH p.bn (7*i+C) _ TNd v B _ W p K.gm (TT.out K.ch) au K.gm.hbn q' qs hw.rep;rw[K.ch.e1,K.ch.e2,c2,show 7*i+C=i*7+C by omega]at this;rw[show 7*i+C=i*7+C by omega];refine this.mono ?_
  rintro e W' ⟨I,v',p1,p2,p3,p4,p5,p6⟩;obtain⟨r,u,x,rfl⟩:=p4.form;have L9:=(K.call p2 p3).1.ia (p4.low K.ch.kb.size) p5;exact⟨I,r,u,x,p1,p3.kb.size,p2.capOf L9.ch.e1 p6,⟨L9.cell (b:=w.heap.size) (v:=.pointer (some ⟨G.bg,0,none⟩)) (T:=101) (o _ (by rw[Q.out];simp)),p6⟩,L9⟩
 have al:=(P.out.fresh (W':=a.drew) (Kb.refl [] a).drew).1;have c4:=P.out.cell (b:=w.heap.size) (v:=.pointer (some ⟨G.bg,0,none⟩)) (T:=101) (by rw[Q.out];simp);have c6:=P.out.gm.reads.2.2.2.2.2.1;have ch:(i:Int)<(n:Int):=by omega
 have y:∀q∈a7,q.1<a.heap.size:=by intro q f;rw[Q.out]at f;simp only[sT,JT,or_false]at f;rcases f with rfl|rfl|rfl<;>(dsimp only;omega)
 have A:w.heap.size+3≤a.heap.size:=by omega
 have ci:a.drew.heap.size=a.heap.size:=rfl;have cj:G.bg<w.heap.size:=aB h.hbg;have m1:¬a.heap.size=w.heap.size:=by omega
 have m2:¬w.heap.size=a.heap.size:=by omega
 have m3:¬a.heap.size=G.bg:=by omega
 have m4:¬G.bg=a.heap.size:=by omega
 have m5:¬a.heap.size+1=w.heap.size:=by omega
 have m6:¬w.heap.size=a.heap.size+1:=by omega
 have m7:¬a.heap.size+1=G.bg:=by omega
 have m8:¬G.bg=a.heap.size+1:=by omega
 have am:=aA O;clear c0 c1 r5 O;refine jP (K:=fun aw X=>∃D E,TwK w B c n G s i a7 D E X∧∃ax ay az aV b0 b1 b3 b4 b6 b7 b8 b9 ba bb bc bd be bf,aw={ tmps:=#[.pointer (some ⟨G.bg,0,none⟩),.int .u64 (i:Int),.pointer (some ⟨w.heap.size,0,none⟩),lZ,.pointer (some ⟨w.heap.size+1,0,none⟩),.pointer (some ⟨w.heap.size+1+1,0,none⟩),.pointer (some ⟨D,0,none⟩),.pointer (some ⟨E,0,none⟩),lZ,.pointer (some ⟨G.bg,0,none⟩),.pointer (some ⟨G.bg,0,none⟩),.pointer (some ⟨G.bg,5,none⟩),.slice (some ⟨G.bn,0,none⟩) n G.cap,.int .i64 (n:Int),.int .u64 (n:Int),ax,ay,az,aV,b0,b1,b3,b4,b6,b7,b8,b9,ba,bb,bc,bd,be,bf,lZ,lZ,lZ,lZ,lZ,lZ],defers:=[] }) ?_ ?_
 ·go_region_held3 (fun W=>W.cell? ⟨w.heap.size,0,none⟩=some (.pointer (some ⟨G.bg,0,none⟩))∧W.cell? ⟨G.bg,5,none⟩=some (.slice (some ⟨G.bn,0,none⟩) n G.cap)) (go_keep)
   (first
   |(with_reducible (show Calls hE _ #[_,.pointer (some ⟨_,i*7+3,none⟩)] _ _);refine(aj.out 3 _ G _ [] (by omega) rfl (by first|with_reducible exact al|with_reducible exact((P.out.box _).fresh (Kb.refl [] _).drew).1|with_reducible exact(((P.out.box _).box _).fresh (Kb.refl [] _).drew).1) (by intro q f;simp[f])).mono ?_;rintro e j ⟨p,r,u,x,rfl,ae,c7,cn,L1⟩;have O:=am.out;(try simp only[IW]at ae);(try rw[World.size_drew]at ae);(try simp only[IW]at ae);have bg:=aA ae;(try have:¬j.heap.size=w.heap.size:=by omega);(try have:¬w.heap.size=j.heap.size:=by omega);(try have:¬j.heap.size=G.bg:=by omega);(try have:¬G.bg=j.heap.size:=by omega);(try have:¬(j.heap.size+1)=w.heap.size:=by omega);(try have:¬w.heap.size=(j.heap.size+1):=by omega);(try have:¬(j.heap.size+1)=G.bg:=by omega);(try have:¬G.bg=(j.heap.size+1):=by omega);(try have:¬j.heap.size=a.heap.size:=by omega);(try have:¬a.heap.size=j.heap.size:=by omega);(try have:¬j.heap.size=(a.heap.size+1):=by omega);(try have:¬(a.heap.size+1)=j.heap.size:=by omega);clear al O)
   | (with_reducible (show Calls hE _ #[_,.pointer (some ⟨_,i*7+4,none⟩)] _ _);refine(aj.out 4 _ p _ _ (by omega) c7 (by first|with_reducible exact L1|with_reducible exact(L1).box _|with_reducible exact((L1).box _).box _) (by intro q f;simp[f])).mono ?_;rintro e l ⟨I,S,T,U,rfl,c9,co,cp,z⟩;obtain⟨e1,e2,e3,e4⟩:=z.l5;have O:=am.out;have bh:=bg.out;(try simp only[IW]at c9);(try have:¬l.heap.size=w.heap.size:=by omega);(try have:¬w.heap.size=l.heap.size:=by omega);(try have:¬l.heap.size=G.bg:=by omega);(try have:¬G.bg=l.heap.size:=by omega);(try have:¬(l.heap.size+1)=w.heap.size:=by omega);(try have:¬w.heap.size=(l.heap.size+1):=by omega);(try have:¬(l.heap.size+1)=G.bg:=by omega);(try have:¬G.bg=(l.heap.size+1):=by omega);(try have:¬l.heap.size=j.heap.size:=by omega);(try have:¬j.heap.size=l.heap.size:=by omega);(try have:¬l.heap.size=(j.heap.size+1):=by omega);(try have:¬(j.heap.size+1)=l.heap.size:=by omega);(try have:¬l.heap.size=a.heap.size:=by omega);(try have:¬a.heap.size=l.heap.size:=by omega);(try have:¬l.heap.size=(a.heap.size+1):=by omega);(try have:¬(a.heap.size+1)=l.heap.size:=by omega);clear L1 O bh))
  all_goals have O:=am.out
  all_goals (try have bh:=bg.out)
  ·exact⟨l.heap.size,l.heap.size+1,uO (Z:=a.heap.size) z (by intro q f;simp[f]) y A (tC _ _ _ _ _) (aF (aD _ _) _) (oI _ _ _) (.inl (gO _)) (.inl (by omega)) (by omega) (by omega),_,_,_,_,_,_,_,_,_,_,_,_,_,_,_,_,_,_,rfl⟩
  ·exact⟨l.heap.size+1,l.heap.size,uO (Z:=a.heap.size) z (by intro q f;simp[f]) y A (tC _ _ _ _ _) (oI _ _ _) (aF (aD _ _) _) (.inl (by omega)) (.inl (gO _)) (by omega) (by omega),_,_,_,_,_,_,_,_,_,_,_,_,_,_,_,_,_,_,rfl⟩
  ·exact⟨j.heap.size,l.heap.size,Ii (Z:=a.heap.size) z (by intro q f;simp[f]) y A (by simp) (by omega) (by omega),_,_,_,_,_,_,_,_,_,_,_,_,_,_,_,_,_,_,rfl⟩
  ·exact⟨j.heap.size,j.heap.size+1,DG (Z:=a.heap.size) z (by intro q f;simp[f]) y A (by simp) (by simp) (by omega) (by omega) (by omega),_,_,_,_,_,_,_,_,_,_,_,_,_,_,_,_,_,_,rfl⟩
  ·exact⟨l.heap.size,j.heap.size,Ij (Z:=a.heap.size) z (by intro q f;simp[f]) y A (by simp) (by omega) (by omega),_,_,_,_,_,_,_,_,_,_,_,_,_,_,_,_,_,_,rfl⟩
  ·exact⟨j.heap.size+1,j.heap.size,DG (Z:=a.heap.size) z (by intro q f;simp[f]) y A (by simp) (by simp) (by omega) (by omega) (by omega),_,_,_,_,_,_,_,_,_,_,_,_,_,_,_,_,_,_,rfl⟩
  ·exact⟨a.heap.size,l.heap.size,Ii (Z:=a.heap.size) z (by intro q f;simp[f]) y A (by simp) (by omega) (by omega),_,_,_,_,_,_,_,_,_,_,_,_,_,_,_,_,_,_,rfl⟩
  ·exact⟨a.heap.size,j.heap.size,DG (Z:=a.heap.size) z (by intro q f;simp[f]) y A (by simp) (by simp) (by omega) (by omega) (by omega),_,_,_,_,_,_,_,_,_,_,_,_,_,_,_,_,_,_,rfl⟩
  ·exact⟨a.heap.size,a.heap.size+1,DG (Z:=a.heap.size) z (by intro q f;simp[f]) y A (by simp) (by simp) (by omega) (by omega) (by omega),_,_,_,_,_,_,_,_,_,_,_,_,_,_,_,_,_,_,rfl⟩
  ·exact⟨l.heap.size,a.heap.size,Ij (Z:=a.heap.size) z (by intro q f;simp[f]) y A (by simp) (by omega) (by omega),_,_,_,_,_,_,_,_,_,_,_,_,_,_,_,_,_,_,rfl⟩
  ·exact⟨j.heap.size,a.heap.size,DG (Z:=a.heap.size) z (by intro q f;simp[f]) y A (by simp) (by simp) (by omega) (by omega) (by omega),_,_,_,_,_,_,_,_,_,_,_,_,_,_,_,_,_,_,rfl⟩
  ·exact⟨a.heap.size+1,a.heap.size,DG (Z:=a.heap.size) z (by intro q f;simp[f]) y A (by simp) (by simp) (by omega) (by omega) (by omega),_,_,_,_,_,_,_,_,_,_,_,_,_,_,_,_,_,_,rfl⟩
 rintro aw X ⟨D,E,⟨l6,l7,V,Y,I,L⟩,ax,ay,az,aV,b0,b1,b3,b4,b6,b7,b8,b9,ba,bb,bc,bd,be,bf,rfl⟩;obtain⟨q2,bi⟩:=L.bx (w.heap.size,#[.pointer (some ⟨G.bg,0,none⟩)],101) (by rw[Q.out];simp);obtain⟨q5,bj⟩:=L.bx (w.heap.size+1+1,#[.int .u64 (n:Int)],TN) (by rw[Q.out];simp);obtain⟨J,af⟩:=L.bx (w.heap.size+1,#[.slice none 0 0],aL) (by rw[Q.out];simp);obtain⟨q6,bk⟩:=L.bx (D,#[V],aL) (by simp);obtain⟨q7,bl⟩:=L.bx (E,#[Y],aL) (by simp);obtain⟨sl,bm⟩:=L.vt (V,s.standing (s.ld i),w.heap.size) (by simp);obtain⟨ss,bn⟩:=L.vt (Y,s.standing (s.sr i),w.heap.size) (by simp);have hP:TwP B c n G s i w.heap.size w.heap.size (w.heap.size+1+1) D E V Y I X:=⟨L.gm,L.ch.e1,L.ch.e2,L.ch.e3,q2,q5,q6,q7,sl,ss,by
  rintro b (rfl|rfl|rfl|rfl|e|e)
  ·exact bi
  ·exact bj
  ·exact bk
  ·exact bl
  ·exact bm b e
  ·exact bn b e⟩
 obtain⟨R,hR,ca⟩:∃R,fT k n (oQ s n i)=some R∧t=gR n R:=by
  have d:(fT k n (oQ s n i)).map (gR n)=some t:=ht;cases e:fT k n (oQ s n i)with
  |none=>rw[e]at d;cases d
  |some R=>rw[e]at d;cases d;exact⟨R,rfl,rfl⟩
 have bo:∀k a0,a0∈s.standing (s.ss.getD k [])→a0<n:=by intro k a0 hx;obtain⟨_,a8,F,rfl⟩:=dK.1 hx;exact hw.lt (hw.bd k a8 F)
 have bp:∀a0 a8,a0<n+1→a8∈oQ s n i a0→a8<n+1:=by
  intro a0 a8 _ F;unfold oQ at F;split at F
  ·exact KD (bo _ _ F)
  ·split at F
   ·rcases(bA.1 F).2 with rfl|F
    ·omega
    ·exact KD (hw.gp F)
   ·exact KD (hw.gp F)
 have cq:=L.gm.hB;have cr:=h.hB;have cb:=L.ch.kb.size;have a1:∀b,(b=w.heap.size∨b=w.heap.size+1+1∨b=D∨b=E∨V.ownBlock=some b∨Y.ownBlock=some b)→w.heap.size≤b:=by
  rintro b (rfl|rfl|rfl|rfl|e|e)
  ·omega
  ·omega
  ·omega
  ·omega
  ·exact(sl.lt e).1
  ·exact(ss.lt e).1
 have bq:=uK 177 #[] #[.pointer (some ⟨w.heap.size+1+1,0,none⟩),.pointer (some ⟨D,0,none⟩),.pointer (some ⟨w.heap.size,0,none⟩),.pointer (some ⟨E,0,none⟩)] (n+1) (oQ s n i) (Hl (B:=B) (c:=c) (n:=n) (G0:=G) (s:=s) (i:=i) (B0:=w.heap.size) (b2:=w.heap.size) (b5:=w.heap.size+1+1) (b6:=D) (b7:=E) (vl:=V) (vs:=Y)) (Hm au hw) (enters_of Tryz.func177 (by kernel_rfl) rfl) bp (by omega) k n R X _ ⟨I,hP,rfl⟩ (TT.out L.ch) (by omega) (fun m=>by
  rcases fV.1 m with d|d
  ·have:=(L.gm.cells d).1;omega
  ·have:=a1 _ d;omega) (Nat.zero_le _) (by omega) hR
 have c5:X.cell? ⟨w.heap.size+1+1,0,none⟩=some (.int .u64 (n:Int)):=by rw[aC q5];rfl
 have a5:w.heap.size+1 ∉ I.foot++(w.heap.size::(w.heap.size+1+1)::D::E::(V.ownBlock.toList++Y.ownBlock.toList)):=by
  intro m;rcases fV.1 m with d|d|d|d|d|d|d
  ·exact af d
  ·omega
  ·omega
  ·omega
  ·omega
  ·exact sl.ne J (by dsimp only;decide) d
  ·exact ss.ne J (by dsimp only;decide) d
 have HK:=aA (And.intro hP (And.intro L (And.intro a1 (And.intro J a5))));clear hP L a1 q2 bi q5 bj J af q6 bk q7 bl sl bm ss bn a5 bo bp hR ht P Q aj al c4 c6 y m1 m2 m3 m4 m5 m6 m7 m8;go_wp2_with fail
 refine bq.mono ?_
 clear bq;rintro e H ⟨v,F1,rfl,hv,hI,M,an,br⟩;obtain⟨r,u,x,rfl⟩:=hv.form;obtain⟨p,a3,rfl⟩:=hI;obtain⟨hP,L,a1,J,a5⟩:=HK.out;have bs:GCh w H G p:=by
  refine⟨⟨M.os.trans L.ch.kb.os,M.tape.trans L.ch.kb.tape,M.output.trans L.ch.kb.output,Nat.le_trans L.ch.kb.size M.size,fun ao hj hl=>?_⟩,fun b o=>?_,a3.e1,a3.e2,a3.e3⟩
  ·refine(M.block ao (by omega) (fun m=>?_)).trans (L.ch.kb.block ao hj hl);rcases fV.1 m with d|d
   ·rcases L.ch.ft ao d with h8|h8
    ·exact hl h8
    ·omega
   ·have:=a1 _ d;omega
  ·rcases an b (fV.2 (.inl o))with d|d
   ·rcases fV.1 d with h8|h8
    ·exact L.ch.ft b h8
    ·exact .inr (a1 b h8)
   ·exact .inr (by omega)
 have bt:=M.heap J a5;have af:w.heap.size+1 ∉ p.foot:=fun m=>by
  rcases an _ (fV.2 (.inl m))with d|d
  ·exact a5 d
  ·have:=aB J;omega
 have cs:=M.size;have ct:=aB J;obtain⟨W2,a9⟩:∃W2,W2=H.alloc (.cells #[.slice r u x] aL):=⟨_,rfl⟩;have k2:Kb [] H W2:=by rw[a9];exact(Kb.refl [] H).alloc _
 have a2:W2.heap[H.heap.size]?=some (.cells #[.slice r u x] aL (0,0)):=by rw[a9];exact aD _ _
 have bu:=hv.kb k2 (by simp);have cc:W2.cell? ⟨w.heap.size+1+1,0,none⟩=some (.int .u64 (n:Int)):=by rw[aC (a3.kb k2 (by simp)).c5];rfl
 have ap:=mH X.heap.size H.heap.size 0 #[.slice r u x] aL (.slice r u x) R n W2 (by decide) a2 rfl bu (by omega);have aa:=k2.heap bt (by simp);have a6:∀g,(E2 r u x).ownBlock=some g→g ∉ p.foot:=fun g hg m=>br g hg (fV.2 (.inl m))
 have z2:W2.heap.size=H.heap.size+1:=by rw[a9];simp
 have HD:=aA (And.intro (a3.gm.beside k2 (by simp)) (And.intro (bs.beside k2 (by simp)) (And.intro aa (And.intro a6 (And.intro a3.gm.gh hv)))));clear hP L a1 J a5 HK a3 M an br bs bt aa k2 bu hv a2 a6 c5;rw[a9]at ap cc;go_wp2_with fail
 refine ap.mono ?_
 clear ap;rintro e W3 ⟨rfl,v3,ag,a4⟩;rw[← a9]at a4;obtain⟨S,T,U,rfl⟩:=ag.form;obtain⟨g2,bv,aa,a6,aq,hv⟩:=HD.out;have ah:∀b∈H.heap.size::(E2 r u x).ownBlock.toList,b ∉ p.foot∧X.heap.size≤b:=by
  intro b o;rcases sT.1 o with rfl|o
  ·exact⟨fun m=>by have:=aq _ m;omega,by omega⟩
  ·simp at o;exact⟨a6 b o,(hv.lt o).1⟩
 have bw:w.heap.size+1 ∉ H.heap.size::(E2 r u x).ownBlock.toList:=fun m=>by have:=(ah _ m).2;omega
 have ab:=a4.kb.heap aa bw;have cz:W3.cell? ⟨w.heap.size+1,0,none⟩=some (.slice none 0 0):=by rw[aC ab];rfl
 have fz:W3.frozen? ⟨w.heap.size+1,0,none⟩=false:=aE ab 0;have c8:W3.cell? ⟨H.heap.size,0,none⟩=some (.slice S T U):=by rw[aC a4.blk];rfl
 obtain⟨W4,ar⟩:∃W4,W4=W3.setCell ⟨w.heap.size+1,0,none⟩ (.slice S T U):=⟨_,rfl⟩;have k4:Kb [w.heap.size+1] W3 W4:=by rw[ar];exact(Kb.refl _ _).setCell (p:=⟨w.heap.size+1,0,none⟩) (.inl (by simp)) _
 have cd:W4.cell? ⟨w.heap.size+1,0,none⟩=some (.slice S T U):=by rw[ar,aC (aI ab 0 _)];rfl
 have g3:=g2.beside a4.kb (fun b o=>(ah b o).1);have g4:=g3.beside k4 (fun b o=>by rw[A1.1 o];exact af);have bx:=bv.beside a4.kb (fun b o=>by have:=(ah b o).2;omega);have bz:=bx.beside k4 (fun b o=>by rw[A1.1 o];omega);have s4:aO W4 w.heap.size (.slice S T U) t:=by
  rw[ca];exact(ag.kb k4 (fun g hg e=>by
   rw[A1.1 hg]at e;exact ag.ne ab (by decide) e)).low cb
 have o4:∀g,(E2 S T U).ownBlock=some g→g ∉ p.foot:=by
  intro g hg m;rcases a4.lies with d|⟨g',d,h8⟩
  ·exact a6 g (d ▸ hg) m
  ·have:g=g':=Option.some.inj (hg.symm.trans d);have:=aq g m;omega
 have HF:=aA (And.intro g4 (And.intro bz (NewS.mk s4 o4)));clear g2 bv aa a6 aq hv ah bw ab g3 bx k4 g4 bz s4 o4 HD ag a4;go_wp2;rw[← ar];refine bodyPost_ret (v:=.agg #[.slice S T U]) (by simp[results,Tryz.results154,go_sem,cd]) rfl ?_
 exact⟨p,_,rfl,HF.out.1,HF.out.2.1,HF.out.2.2⟩
end
end Go.Proofs.YtiamlbhkiehilaaGreatDoor
