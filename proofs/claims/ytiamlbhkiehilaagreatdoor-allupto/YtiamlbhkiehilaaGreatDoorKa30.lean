import Derived.Test.YtiamlbhkiehilaaGreatDoorKa28
import Derived.Test.YtiamlbhkiehilaaGreatDoorKa29
open Go renaming TypeId→I1,Value→sA,callsIn_wide→IV,undef→lZ,wpAnyIn_take→IX,wpAnyIn_ready→IP
open Go.Act renaming put→J2
open Go.CallsIn renaming inRound→Je
open Go.World renaming size_alloc→IW
open List renaming mem_cons_self→Bx,mem_cons_of_mem→C1,foldl_cons→JB,length_cons→Jn,mem_map→Jf,mem_range→Lt,getD_eq_getElem?_getD→E1,mem_cons→sT,not_mem_nil→JT,length_map→JO,map_append→Jp,foldl_append→JE,mem_append→IK,tail_cons→Lm,setIfInBounds_toArray→I8,set_cons_zero→Jo,set_cons_succ→Jq
open Nat renaming le_refl→gO
namespace Go.Proofs.YtiamlbhkiehilaaGreatDoor
section
open Go.RowKit Go.Shelf
attribute [local go_sem] Oper.semAt_some
variable {B:Nat} {c:Way} {n:Nat} {s:St}
abbrev TP:I1:=230
abbrev TPs:I1:=210
def eN(ps:List (List Nat))(a:Nat)(x:Bool × St)(b:Nat):Bool × St:=if a<b && ps.getD a [] == ps.getD b []then eC a x b else x
def gY(ps:List (List Nat))(b:List Nat)(x:Bool × St)(a:Nat):Bool × St:=b.foldl (eN ps a) x
theorem qP(s:St)(n:Nat)(ps:List (List Nat)):s.mergeSame n ps=(s.all n).foldl (gY ps (s.all n)) (false,s):=rfl
theorem WF.jz{ps:List (List Nat)}{a:Nat}(d:a<n):∀(l:List Nat) (x:Bool × St),WF n x.2→(∀b∈l,b<n)→WF n (l.foldl (eN ps a) x).2∧(l.foldl (eN ps a) x).2.un≤x.2.un+l.length:=by
 intro l;induction l with
 |nil=>exact fun x h _=>⟨h,gO _⟩
 |cons b r i=>
  intro x h e;have f:=e b Bx;have g:WF n (eN ps a x b).2∧(eN ps a x b).2.un≤x.2.un+1:=by
   unfold eN;split
   ·exact⟨h.merge d f,St.jg x.2 h.len (h.lt d) (h.lt f)⟩
   ·exact⟨h,Nat.le_succ _⟩
  obtain⟨j,m⟩:=i (eN ps a x b) g.1 (fun y k=>e y (C1 _ k));refine⟨j,?_⟩;simp only[JB,Jn];have:=g.2;omega
theorem WF.j6{ps:List (List Nat)}{a:List Nat}(d:∀b∈a,b<n)(k:a.length≤40):∀(l:List Nat) (x:Bool × St),WF n x.2→(∀b∈l,b<n)→WF n (l.foldl (gY ps a) x).2∧(l.foldl (gY ps a) x).2.un≤x.2.un+l.length*40:=by
 intro l;induction l with
 |nil=>exact fun x h _=>⟨h,by simp⟩
 |cons b r e=>intro x h hr;obtain⟨f,g⟩:=WF.jz (ps:=ps) (hr b Bx) a x h d;obtain⟨i,m⟩:=e (gY ps a x b) f (fun y j=>hr y (C1 _ j));refine⟨i,?_⟩;simp only[JB,Jn];have:(gY ps a x b).2.un≤x.2.un+a.length:=g;rw[Nat.succ_mul];omega
def BJ(n:Nat)(pv:List sA)(ps:List (List Nat))(a:Nat):List (sA × List Nat × Nat):=(List.range n).map fun i=>(pv.getD i (.slice none 0 0),ps.getD i [],a)
def MsO(w:World)(B:Nat)(c:Way)(n:Nat)(G:GV)(ps:List (List Nat))(a:List Nat)(s:St)(L:List Nat)(b:Bool→List (Nat × Array sA × I1))(d:List (sA × List Nat × Nat))(pre:List Nat)(W:World):Prop:=
 ∃e,LI w B c n G L (b (pre.foldl (gY ps a) (false,s)).1) d W (pre.foldl (gY ps a) (false,s)).2 e
def MsN(w:World)(B:Nat)(c:Way)(n:Nat)(G:GV)(ps:List (List Nat))(x:Nat)(a:Bool × St)(L d:List Nat)(e:Bool→List (Nat × Array sA × I1))(f:List (sA × List Nat × Nat))(b:List Nat)(D:Nat)(W Y:World):Prop:=
 ∃g,LI w B c n G d (e (b.foldl (eN ps x) a).1) f Y (b.foldl (eN ps x) a).2 g∧KeepsFrom D W Y∧KpB L W Y
set_option linter.unusedSimpArgs false in
set_option maxRecDepth 100000 in
set_option maxHeartbeats 8000000 in
theorem DH(l B2:Nat)(pv:List sA)(ps:List (List Nat))(w:World)(G:GV)(h:GM w B c n G s)(R:WF n s)(hT:bN w)(cW:0<B)(hp:w.heap[l]?=some (.cells pv.toArray TP (0,0)))(d0:pv.length=n)(b3:∀i,i<n→aO w B2 (pv.getD i (.slice none 0 0)) (ps.getD i []))(cd:l ∉ G.foot)(ce:∀v∈pv,∀g,v.ownBlock=some g→g ∉ G.foot)(hu:s.un+20000<4611686018427387904) :
  Calls Tryz.prog 151 #[.pointer (some ⟨G.bg,0,none⟩),.slice (some ⟨l,0,none⟩) n n] w fun e w'=>e=.returned (.bool (s.mergeSame n ps).1)∧∃r,GM w' B c n r (s.mergeSame n ps).2∧GCh w w' G r:=by
 have hn:=h.n40;have TT:Hid (∀ {W:World} {r:GV},GCh w W G r→bN W):=aA (fun hc=>hT.kb hc.kb (fun t=>by have:=(h.cells t).1;omega));obtain⟨F,S⟩:∃F,F=((w.alloc (.cells #[.pointer (some ⟨G.bg,0,none⟩)] 101)).alloc (.cells #[.slice (some ⟨l,0,none⟩) n n] TPs)).alloc (.cells #[.bool false] 4):=⟨_,rfl⟩;have k0:Kb [] w F:=by rw[S];exact(((Kb.refl [] w).alloc _).alloc _).alloc _
 have h0:=h.fresh k0;have o:F.heap.size=w.heap.size+3:=by rw[S];simp
 have x0:F.heap[w.heap.size]?=some (.cells #[.pointer (some ⟨G.bg,0,none⟩)] 101 (0,0)):=by rw[S];exact aF (aF (aD _ _) _) _
 have p0:F.heap[w.heap.size+1]?=some (.cells #[.slice (some ⟨l,0,none⟩) n n] TPs (0,0)):=by rw[S];have:=aD (w.alloc (.cells #[.pointer (some ⟨G.bg,0,none⟩)] 101)) (.cells #[.slice (some ⟨l,0,none⟩) n n] TPs);rw[IW]at this;exact aF this _
 have m0:F.heap[w.heap.size+2]?=some (.cells #[.bool false] 4 (0,0)):=by rw[S];have:=aD ((w.alloc (.cells #[.pointer (some ⟨G.bg,0,none⟩)] 101)).alloc (.cells #[.slice (some ⟨l,0,none⟩) n n] TPs)) (.cells #[.bool false] 4);rw[IW,IW]at this;exact this
 have bm:F.cell? ⟨w.heap.size,0,none⟩=some (.pointer (some ⟨G.bg,0,none⟩)):=by rw[aC x0];rfl
 have a4:=uN F G h0 R.rep;have nf:∀b,w.heap.size≤b→b ∉ G.foot:=fun b a t=>by have:=h.gh b t;omega
 have LP:LI w B c n G [] [(l,pv.toArray,TP)] (BJ n pv ps B2) w s G:=by
  refine⟨h,GCh.refl _ _,fun q j=>?_,fun q j=>?_,by simp⟩
  ·rw[List.mem_singleton.1 j];exact⟨hp,cd⟩
  ·unfold BJ at j;obtain⟨i,hi,rfl⟩:=Jf.1 j;rw[Lt]at hi;refine⟨b3 i hi,fun g H=>ce _ ?_ g H⟩;have bn:i<pv.length:=by omega
   dsimp only;rw[E1,List.getElem?_eq_getElem bn];exact List.getElem_mem bn
 have L1:=(((LP.fresh k0).1.fk p0 (nf _ (by omega))).fk x0 (nf _ (gO _))).fk m0 (nf _ (by omega));refine(IV (n:=30)).1 ?_
 refine callsIn_of_wp_marks Tryz.func151 rfl trivial ?_ rfl;simp only[Tryz.ntmps151,List.size_toArray,Jn,List.length_nil,Nat.reduceAdd,Nat.reduceSub,Array.replicate_succ,Array.replicate_zero,List.push_toArray,List.append_toArray,List.nil_append,List.cons_append];rw[S]at a4 bm;have bo:=aA L1;have d4:=aA b3;clear L1 LP b3 x0 p0 m0;gi_wp2
 refine⟨trivial,?_⟩;refine(IV.2 a4).mono ?_
 clear a4;rintro e J ⟨G1,v,rfl,b4,ay,a8⟩;rw[← S]at ay a8;obtain⟨z,A,C,rfl⟩:=a8.set.form;obtain⟨V2,a9⟩:∃V2,V2=J.alloc (.cells #[.slice z A C] aL):=⟨_,rfl⟩;have kV:Kb [] J V2:=by rw[a9];exact(Kb.refl [] J).alloc _
 have aV:V2.heap[J.heap.size]?=some (.cells #[.slice z A C] aL (0,0)):=by rw[a9];exact aD _ _
 have az:=a8.set.kb kV (by simp);have D:=((((bo.out.call b4 ay).1.fresh kV).1.fk aV (fun t=>by have:=b4.gh _ t;omega))).ia az a8.out;have d5:=ay.kb.size;have d6:=kV.size;have HA:=dN F.heap.size J.heap.size 0 #[.slice z A C] aL (.slice z A C) (s.all n) V2 aV rfl az;rw[a9]at HA;have cf:(s.all n).length≤40:=by have:=az.len (fun x hx=>R.ic hx);omega
 have b5:=aA D;clear D b4 ay a8 kV aV h0 bo az;gi_wp2
 refine⟨trivial,?_⟩;refine(IV.2 HA).mono ?_
 clear HA;rintro e W1 ⟨bw,va,rfl,bp,bq,a5,k1⟩;rw[← a9]at a5 k1 bp;have P:=(b5.out.fresh k1).1;obtain⟨L,hL⟩:∃L,L=0::va.ownBlock.toList:=⟨_,rfl⟩;have d7:=h.hB;have aa:∀b∈L,b ∉ G1.foot∧b<W1.heap.size∧b≠w.heap.size+2:=by
  intro b a;rw[hL]at a;rcases sT.1 a with rfl|a
  ·exact⟨fun t=>by have:=(P.gm.cells t).1;omega,by have:=P.gm.hB;omega,by omega⟩
  ·simp at a;have:=(a5.lt a).1;exact⟨b5.out.gg (a5.lt a).1,(a5.lt a).2,by omega⟩
 have ch:∀b∈L,b<W1.heap.size:=fun b a=>(aa b a).2.1
 have ci:w.heap.size+2 ∉ L:=fun t=>(aa _ t).2.2 rfl
 have cj:=bZ 29 bw V2.heap.size va (s.all n) L W1 bq a5 (TT.out P.ch) (fun g H=>by rw[hL];simp[H]) (by rw[hL];simp);have ck:=P.ch.kb.size;obtain⟨a6,b6⟩:∃a6:Bool→List (Nat × Array sA × I1),a6=fun f=>[(w.heap.size+2,#[.bool f],4),(w.heap.size,#[.pointer (some ⟨G.bg,0,none⟩)],101),(w.heap.size+1,#[.slice (some ⟨l,0,none⟩) n n],TPs),(J.heap.size,#[.slice z A C],aL),(l,pv.toArray,TP)]:=⟨_,rfl⟩
 obtain⟨T,b7⟩:∃T,T=(Value.slice z A C,s.all n,F.heap.size)::BJ n pv ps B2:=⟨_,rfl⟩;have LL:LI w B c n G L (a6 false) T W1 s G1:=by
  refine⟨P.gm,P.ch,fun q j=>P.bx q ?_,fun q j=>P.vt q (by rw[b7]at j;exact j),fun b a=>⟨(aa b a).1,(aa b a).2.1⟩⟩;rw[b6]at j;simp only[sT,JT,or_false]at j ⊢;rcases j with rfl|rfl|rfl|rfl|rfl
  ·exact .inr (.inl rfl)
  ·exact .inr (.inr (.inl rfl))
  ·exact .inr (.inr (.inr (.inl rfl)))
  ·exact .inl rfl
  ·exact .inr (.inr (.inr (.inr rfl)))
 have cl:=aA LL;have br:=aA hL;have I:=aA b6;have HV:=aA b7;have d8:=k1.size;clear a5 bq k1 bp S bm k0 P hL aa LL b5 a9 b6 b7;gi_wp2
 refine wpIn_rangeFunc_ownH (α:=Mem (s.all n)) (hro:=rfl) (h1:=by omega) (gf:=127) (lb:=#[.pointer (some ⟨bw,0,none⟩)]) rfl trivial (enters_of Tryz.func127 (by kernel_rfl) rfl) cj (fun h1 h2=>h1.trans h2) (fZ ch) (Below.refl _ _) (fun _=>rfl)
  (fun pre W=>MsO w B c n G ps (s.all n) s L a6 T (aR pre) W)
  (fun _ _ _=>False) ?hI (fun _ _ _ _ _ hs _ _=>hs) ⟨G1,cl.out⟩
  (fun x a' W=>∃u G0 s0,W.heap[u]?=some (.cells #[.int .u64 (x.1:Int)] TN (0,0))∧GM W B c n G0 s0∧G0.bg=G.bg∧u ∉ G0.foot∧a'={ tmps:=#[.pointer (some ⟨G.bg,0,none⟩),.slice (some ⟨l,0,none⟩) n n,.pointer (some ⟨w.heap.size,0,none⟩),.pointer (some ⟨w.heap.size+1,0,none⟩),.bool false,.pointer (some ⟨w.heap.size+1+1,0,none⟩),.pointer (some ⟨J.heap.size,0,none⟩),.pointer (some ⟨u,0,none⟩),lZ,.pointer (some ⟨G.bg,0,none⟩),.agg #[.slice z A C],.func (.func 127) #[] #[.pointer (some ⟨bw,0,none⟩)],.int .u64 (x.1:Int),lZ,lZ,lZ,lZ,lZ,lZ,lZ,lZ,lZ,lZ,lZ,lZ,lZ,lZ,lZ,lZ,lZ,lZ,lZ,lZ,lZ,lZ],defers:=[] }) ?hAx ?assign ?body ?done ?stop
 case hI=>rintro pre W W' ba ⟨r,m⟩ H hr;exact⟨r,m.own ck H hr⟩
 case hAx=>
  rintro x a' _ W W' ba ⟨u,G0,s0,q2,q3,q4,q5,q6⟩ H hr;have hk:=aS H;refine⟨u,G0,s0,hk.heap q2 (fun t=>?_),q3.beside hk (fun b a=>?_),q4,q5,q6⟩
  ·obtain⟨_,co,ho,hc⟩:=hr u (by simpa using t);rw[q2]at ho;cases ho;cases hc
  ·obtain⟨_,co,ho,hc⟩:=hr b (by simpa using a);exact q3.gu ho hc
 case assign=>
  rintro a1 pre x W a2 ⟨r,m⟩ p;have kA:Kb [] W (W.alloc (.cells #[.int .u64 (x.1:Int)] TN)):=(Kb.refl [] W).alloc _;obtain⟨z1,z2,z3⟩:=m.fresh kA;dsimp only[jO,Array.zip,Array.foldl];gi_wp2
  exact p _ _ (z2 _) z3 ⟨r,z1⟩ ⟨W.heap.size,r,_,aD _ _,z1.gm,m.ch.e1,m.gg (gO _),rfl⟩
 case stop=>rintro bb cc pre X _ _ hF _;exact hF.elim
 case done=>
  rintro bb xs W hD bc ⟨r,m⟩ p;have b0:aR xs=s.all n:=bc;rw[b0,← qP]at m;have cm:=m.cell (b:=w.heap.size+1+1) (v:=.bool (s.mergeSame n ps).1) (T:=4) (by rw[I.out];simp);have p9:=m.turned p rfl (by omega) (.deferred none);have d:=aA (And.intro p9.gm p9.ch);clear m p9;obtain⟨fl,bd⟩:∃fl,fl=(s.mergeSame n ps).1:=⟨_,rfl⟩;rw[← bd]at cm;have cq:=aA bd;clear bd;gi_wp2
  refine⟨by simp,.inl ⟨_,_,rfl,run_takeDeferred p,?_⟩⟩;exact⟨_,results_tmp rfl _ _ _,by rw[← cq.out];rfl,_,d.out.1,d.out.2⟩
 case body=>
  rintro a1 pre ⟨x,bs⟩ a' W hl ⟨bt,hr⟩ ⟨r,m⟩ ⟨u,G0,s0,q2,q3,q4,q5,rfl⟩ cr;have hx:=R.ic bs;have bu:u ∉ r.foot:=by rw[m.gm.ie q3 (m.ch.e1.trans q4.symm)];exact q5
  have cs:(aR pre).length=pre.length:=by unfold aR;rw[JO]
  obtain⟨wf,bv⟩:=WF.j6 (ps:=ps) (fun b a=>R.ic a) cf (aR pre) (false,s) R (by intro b a;obtain⟨y,_,rfl⟩:=Jf.1 a;exact R.ic y.2);have e9:(aR (pre++[(⟨x,bs⟩:Mem (s.all n))])).foldl (gY ps (s.all n)) (false,s)=(s.all n).foldl (eN ps x) ((aR pre).foldl (gY ps (s.all n)) (false,s)):=by unfold aR;rw[Jp,JE];rfl
  have ct:=aA e9;have da:pre.length<(s.all n).length:=cr;have db:((aR pre).foldl (gY ps (s.all n)) (false,s)).2.un≤s.un+1600:=by have h9:(false,s).2.un=s.un:=rfl;rw[h9,cs]at bv;have:pre.length*40≤40*40:=Nat.mul_le_mul_right 40 (by omega);omega
  clear e9 bv;generalize (aR pre).foldl (gY ps (s.all n)) (false,s)=K at *;have P1:=m.fk q2 bu;have a4:=dN F.heap.size J.heap.size 0 #[.slice z A C] aL (.slice z A C) (s.all n) W (m.bx (J.heap.size,#[.slice z A C],aL) (by rw[I.out];simp)).1 rfl (m.vt (.slice z A C,s.all n,F.heap.size) (by rw[HV.out];simp)).1;have cu:u≠w.heap.size+2:=fun e=>aP q2 (m.bx (w.heap.size+2,#[.bool K.1],4) (by rw[I.out];simp)).1 (by dsimp only;decide) e
  have ad:=aA P1;clear m P1 q2 q3 q4 q5 bu;gi_wp2
  refine⟨trivial,?_⟩;refine(Je a1 (IV.2 a4)).mono ?_
  clear a4;rintro e X3 ⟨ae,vb,rfl,dc,bx,af,k3⟩;obtain⟨U,be,bz⟩:=ad.out.fresh k3;have cv:X3.heap[a1]?=some (.loop bt):=(be W1.heap.size).same a1 _ hl hr rfl;obtain⟨D,ag⟩:∃D,D=0::(va.ownBlock.toList++vb.ownBlock.toList):=⟨_,rfl⟩;have a3:∀b∈L,b∈D:=by
   intro b a;rw[br.out]at a;rw[ag];rcases sT.1 a with rfl|a
   ·exact Bx
   ·exact C1 _ (IK.2 (.inl a))
  have dd:=ad.out.ch.kb.size;have de:w.heap.size+2<W.heap.size:=aB (ad.out.bx (w.heap.size+2,#[.bool K.1],4) (by rw[I.out];simp)).1;have ah:∀b∈D,b ∉ r.foot∧b<X3.heap.size∧b≠w.heap.size+2:=by
   intro b a;by_cases a7:b∈L
   ·exact⟨(U.lb b a7).1,(U.lb b a7).2,fun e=>ci (e ▸ a7)⟩
   ·have bf:vb.ownBlock=some b:=by
     rw[ag]at a;rw[br.out]at a7;rcases sT.1 a with rfl|a
     ·exact absurd Bx a7
     ·rcases IK.1 a with a|a
      ·exact absurd (C1 _ a) a7
      ·simpa using a
    exact⟨ad.out.gg (af.lt bf).1,(af.lt bf).2,by have:=(af.lt bf).1;omega⟩
  have bF:∀b∈D,b<X3.heap.size:=fun b a=>(ah b a).2.1
  have cw:w.heap.size+2 ∉ D:=fun t=>(ah _ t).2.2 rfl
  have cx:=bZ 27 ae W.heap.size vb (s.all n) D X3 bx af (TT.out U.ch) (fun g H=>by rw[ag];simp[H]) (by rw[ag];simp);obtain⟨ai,bg⟩:∃ai:Bool→List (Nat × Array sA × I1),ai=fun f=>(w.heap.size+2,#[.bool f],4)::(u,#[.int .u64 (x:Int)],TN)::(a6 false).tail:=⟨_,rfl⟩
  have A8:LI w B c n G D (ai K.1) T X3 K.2 r:=by
   refine⟨U.gm,U.ch,fun q j=>U.bx q ?_,U.vt,fun b a=>⟨(ah b a).1,(ah b a).2.1⟩⟩;rw[bg,I.out]at j;rw[I.out];simp only[Lm,sT,JT,or_false]at j ⊢;rcases j with rfl|rfl|rfl|rfl|rfl|rfl
   ·exact .inr (.inl rfl)
   ·exact .inl rfl
   ·exact .inr (.inr (.inl rfl))
   ·exact .inr (.inr (.inr (.inl rfl)))
   ·exact .inr (.inr (.inr (.inr (.inl rfl))))
   ·exact .inr (.inr (.inr (.inr (.inr rfl))))
  have Q:=aA bg;have cy:W.heap.size≤X3.heap.size:=k3.size;have bh:=aA (And.intro A8 (And.intro (be W1.heap.size) bz));clear U be bz A8 bx af k3 ah ag bg ad;gi_wp2
  refine wpIn_rangeFunc_ownN (α:=Mem (s.all n)) (l₀:=a1) (r₀:=bt) rfl cv (by omega) (gf:=127) (lb:=#[.pointer (some ⟨ae,0,none⟩)]) rfl trivial (enters_of Tryz.func127 (by kernel_rfl) rfl) (cx.inRound a1) (fun h1 h2=>h1.trans h2) (fZ bF) (Below.refl _ _) (fun _=>rfl)
   (fun E Y=>MsN w B c n G ps x K L D ai T (aR E) W1.heap.size W Y)
   (fun _ _ _=>False) ?hI2 (fun _ _ _ _ _ hs _ _=>hs) ⟨r,bh.out.1,bh.out.2.1,bh.out.2.2⟩
   (fun y c0 _=>c0={ tmps:=#[.pointer (some ⟨G.bg,0,none⟩),.slice (some ⟨l,0,none⟩) n n,.pointer (some ⟨w.heap.size,0,none⟩),.pointer (some ⟨w.heap.size+1,0,none⟩),.bool false,.pointer (some ⟨w.heap.size+1+1,0,none⟩),.pointer (some ⟨J.heap.size,0,none⟩),.pointer (some ⟨u,0,none⟩),.int .u64 (y.1:Int),.pointer (some ⟨G.bg,0,none⟩),.agg #[.slice z A C],.func (.func 127) #[] #[.pointer (some ⟨bw,0,none⟩)],.int .u64 (x:Int),.func (.func 127) #[] #[.pointer (some ⟨ae,0,none⟩)],.int .u64 (y.1:Int),lZ,lZ,lZ,lZ,lZ,lZ,lZ,lZ,lZ,lZ,lZ,lZ,lZ,lZ,lZ,lZ,lZ,lZ,lZ,lZ],defers:=[] }) (fun _ _ _ _ _ _ hs _ _=>hs) ?assign2 ?body2 ?done2 ?stop2
  case hI2=>rintro E Y Y' ba ⟨V,k,c2,c3⟩ H bi;refine⟨V,k.own (by omega) H bi,ownFrom_keepsFrom (w₀:=W) (B':=X3.heap.size) cy E Y Y' ba c2 H bi,fun b a=>?_⟩;rw[← c3 b a];refine(aS H).block b (k.lb b (a3 b a)).2 (fun t=>?_);have h8:=(bi b (by simpa using t)).1;have h9:=bF b (a3 b a);omega
  case assign2=>
   rintro l2 E y Y a2 hi p;dsimp only[jO,Array.zip,Array.foldl];gi_wp2
   exact p _ _ (KeepsFrom.refl _ _) (KpB.refl _ _) hi rfl
  case stop2=>rintro cc E Y _ hF;exact hF.elim
  case done2=>
   rintro xs Y bc ⟨V,k,c2,c3⟩;have b0:aR xs=s.all n:=bc;rw[b0]at k;have c5:LI w B c n G L (a6 ((s.all n).foldl (eN ps x) K).1) T Y ((s.all n).foldl (eN ps x) K).2 V:=by
    refine⟨k.gm,k.ch,fun q j=>k.bx q ?_,k.vt,fun b a=>k.lb b (a3 b a)⟩;rw[I.out]at j;rw[Q.out,I.out];simp only[Lm,sT,JT,or_false]at j ⊢;rcases j with rfl|rfl|rfl|rfl|rfl
    ·exact .inl rfl
    ·exact .inr (.inr (.inl rfl))
    ·exact .inr (.inr (.inr (.inl rfl)))
    ·exact .inr (.inr (.inr (.inr (.inl rfl))))
    ·exact .inr (.inr (.inr (.inr (.inr rfl))))
   have d:=aA (And.intro c2 (And.intro c3 c5));clear k c2 c3 c5 b0;gi_wp2
   refine⟨d.out.1,d.out.2.1,V,?_⟩;rw[ct.out];exact d.out.2.2
  case body2=>
   rintro l2 E ⟨y,c1⟩ c0 Y _ _ ⟨V,k,c2,c3⟩ rfl cz;have hy:=R.ic c1;obtain⟨cA,cC⟩:=WF.jz (ps:=ps) hx (aR E) K wf (by intro b a;obtain⟨cF,_,rfl⟩:=Jf.1 a;exact R.ic cF.2);have df:(aR E).length=E.length:=by unfold aR;rw[JO]
   have dg:E.length<(s.all n).length:=cz;have e8:(aR (E++[(⟨y,c1⟩:Mem (s.all n))])).foldl (eN ps x) K=eN ps x ((aR E).foldl (eN ps x) K) y:=by unfold aR;rw[Jp,JE];rfl
   have b1:=aA e8;have cL:((aR E).foldl (eN ps x) K).2.un+1<4611686018427387904:=by omega
   clear e8 cC;generalize (aR E).foldl (eN ps x) K=o at *;have cg:=k.cell (b:=w.heap.size) (v:=.pointer (some ⟨G.bg,0,none⟩)) (T:=101) (by rw[Q.out,I.out];simp);have cp:=k.cell (b:=w.heap.size+1) (v:=.slice (some ⟨l,0,none⟩) n n) (T:=TPs) (by rw[Q.out,I.out];simp);have cB:=k.cell (b:=u) (v:=.int .u64 (x:Int)) (T:=TN) (by rw[Q.out];simp);have bj:=(k.bx (l,pv.toArray,TP) (by rw[Q.out,I.out];simp)).1;have c4:=(k.vt (pv.getD x (.slice none 0 0),ps.getD x [],B2) (by rw[HV.out];exact C1 _ (Jf.2 ⟨x,Lt.2 hx,rfl⟩))).1;have c6:=(k.vt (pv.getD y (.slice none 0 0),ps.getD y [],B2) (by rw[HV.out];exact C1 _ (Jf.2 ⟨y,Lt.2 hy,rfl⟩))).1;have bk:∀aj,aj<n→pv.toArray[aj]?=some (pv.getD aj (.slice none 0 0)):=fun aj hj=>by
    have cO:aj<pv.length:=by omega
    simp[E1,cO]
   have dh:(x:Int)<(n:Int):=by omega
   have di:(y:Int)<(n:Int):=by omega
   have HEq:=uR B2 B2 l x l y pv.toArray pv.toArray TP TP _ _ _ _ Y.drew bj (bk x hx) bj (bk y hy) c4 c6;have N:=aA (And.intro k (And.intro c2 c3));clear k c2 c3 bj c4 c6 bk;gi_wp2
   by_cases dj:(x:Int)<(y:Int)
   ·refine fB (K:=fun ak X=>Kb [] Y X∧∃al am an ao ap aq ar au av aw ax,ak={ tmps:=#[.pointer (some ⟨G.bg,0,none⟩),.slice (some ⟨l,0,none⟩) n n,.pointer (some ⟨w.heap.size,0,none⟩),.pointer (some ⟨w.heap.size+1,0,none⟩),.bool false,.pointer (some ⟨w.heap.size+1+1,0,none⟩),.pointer (some ⟨J.heap.size,0,none⟩),.pointer (some ⟨u,0,none⟩),.int .u64 (y:Int),.pointer (some ⟨G.bg,0,none⟩),.agg #[.slice z A C],.func (.func 127) #[] #[.pointer (some ⟨bw,0,none⟩)],.int .u64 (x:Int),.func (.func 127) #[] #[.pointer (some ⟨ae,0,none⟩)],.int .u64 (y:Int),al,am,an,ao,ap,aq,ar,au,av,aw,ax,.bool (ps.getD x [] == ps.getD y []),lZ,lZ,lZ,lZ,lZ,lZ,lZ,lZ],defers:=[] }) ?_ ?_
    ·skip
     refine wpIn_region_any (by kernel_rfl) ?_
     (try (change wpAnyIn _ _ _ _ _ _ _ _ _ (World.drew _)))
     change wpAnyIn (Fence.wide.inRound l2) _ _ _ _ _ _ _ _ _;refine dZ (by kernel_rfl) _ _ _ _ ?_
     repeat' first
      |(with_reducible (show AllReadyIn _ _ _ _ _ _ _ _ _ _ _);first|exact AllReadyIn.nil|refine AllReadyIn.cons rfl (fun a2 p=>?_) ?_)
      | (replace p:=p
         go_simp
         try
          refine⟨trivial,?_⟩;refine(IV.2 HEq).mono ?_
          clear HEq;rintro e X ⟨rfl,q,rfl⟩
         refine p _ _ ?_
         clear p a2)
      | (first|refine IX (i:=1) (v:=?_) rfl rfl (by kernel_rfl) (by decide +kernel) (by decide +kernel) (fun _ _ _ h=>h) ⟨Or.inl ⟨by rfl,?_⟩,fun _=>rfl⟩ ?_|refine IX (i:=2) (v:=?_) rfl rfl (by kernel_rfl) (by decide +kernel) (by decide +kernel) (fun _ _ _ h=>h) ⟨Or.inl ⟨by rfl,?_⟩,fun _=>rfl⟩ ?_|refine IX (i:=3) (v:=?_) rfl rfl (by kernel_rfl) (by decide +kernel) (by decide +kernel) (fun _ _ _ h=>h) ⟨Or.inl ⟨by rfl,?_⟩,fun _=>rfl⟩ ?_|refine IX (i:=8) (v:=?_) rfl rfl (by kernel_rfl) (by decide +kernel) (by decide +kernel) (fun _ _ _ h=>h) ⟨Or.inl ⟨by rfl,?_⟩,fun _=>rfl⟩ ?_|refine IX (i:=6) (v:=?_) rfl rfl (by kernel_rfl) (by decide +kernel) (by decide +kernel) (fun _ _ _ h=>h) ⟨Or.inl ⟨by rfl,?_⟩,fun _=>rfl⟩ ?_|refine IX (i:=9) (v:=?_) rfl rfl (by kernel_rfl) (by decide +kernel) (by decide +kernel) (fun _ _ _ h=>h) ⟨Or.inl ⟨by rfl,?_⟩,fun _=>rfl⟩ ?_|refine IX (i:=11) (v:=?_) rfl rfl (by kernel_rfl) (by decide +kernel) (by decide +kernel) (fun _ _ _ h=>h) ⟨Or.inl ⟨by rfl,?_⟩,fun _=>rfl⟩ ?_
         rotate_left
         ·(intro w;go_simp;try (with_reducible rfl))
         try simp only[J2,I8,Jo,Jq])
      |refine IP (rs:=[0]) (by decide +kernel) (by simp) ?_
      |refine IP (rs:=[4,5,7]) (by decide +kernel) (by simp) ?_
      |refine IP (rs:=[5,7]) (by decide +kernel) (by simp) ?_
      |refine IP (rs:=[7]) (by decide +kernel) (by simp) ?_
      |refine IP (rs:=[10]) (by decide +kernel) (by simp) ?_
      |refine IP (rs:=[5]) (by decide +kernel) (by simp) ?_
      |refine IP (rs:=[4,7]) (by decide +kernel) (by simp) ?_
      |refine IP (rs:=[4]) (by decide +kernel) (by simp) ?_
      |refine IP (rs:=[4,5]) (by decide +kernel) (by simp) ?_
      |(refine wpAnyIn_done (by decide +kernel) ?_ _;exact⟨((Kb.refl [] Y).drew).drewN q,_,_,_,_,_,_,_,_,_,_,_,rfl⟩)
    rintro ak X ⟨kX,al,am,an,ao,ap,aq,ar,au,av,aw,ax,rfl⟩;obtain⟨M,C2,C3⟩:=N.out.1.fresh kX;cases j:(ps.getD x [] == ps.getD y [])
    ·have ez:eN ps x o y=o:=by unfold eN;rw[j,Bool.and_false,if_neg (by simp)]
     have d:=aA (And.intro M (And.intro C2 C3));clear M C2 C3 HEq;gi_wp2
     refine⟨d.out.2.1 _,d.out.2.2,V,?_,N.out.2.1.trans (d.out.2.1 _),N.out.2.2.trans (fun b a=>d.out.2.2 b (a3 b a))⟩;rw[b1.out,ez];exact d.out.1
    ·have ez:eN ps x o y=eC x o y:=by
      unfold eN;have bl:x<y:=by omega
      rw[j,if_pos (by simp[bl])]
     have dk:=M.cell (b:=w.heap.size) (v:=.pointer (some ⟨G.bg,0,none⟩)) (T:=101) (by rw[Q.out,I.out];simp);have dl:=M.cell (b:=u) (v:=.int .u64 (x:Int)) (T:=TN) (by rw[Q.out];simp);have HM:=uL B c n o.2 x y X V M.gm cA hx hy cL;rw[M.ch.e1]at HM;have d:=aA (And.intro M (And.intro C2 C3));clear M C2 C3 HEq;gi_wp2
     refine⟨trivial,?_⟩;refine(Je l2 (Je a1 (IV.2 HM))).mono ?_
     clear HM;rintro e X1 ⟨rfl,G5,c7,c8⟩;obtain⟨d1,d2,d3⟩:=d.out.1.call c7 c8;rw[Q.out]at d1;obtain⟨Z,cS⟩:=d1.bx (w.heap.size+2,#[.bool o.1],4) (by simp);have cm:X1.cell? ⟨w.heap.size+1+1,0,none⟩=some (.bool o.1):=by rw[aC Z];rfl
     have fm:X1.frozen? ⟨w.heap.size+1+1,0,none⟩=false:=aE Z 0;have c9:∀f,LI w B c n G D (ai f) T (X1.setCell ⟨w.heap.size+1+1,0,none⟩ (.bool f)) (o.2.merge x y).2 G5∧(∀bb,KeepsFrom bb X1 (X1.setCell ⟨w.heap.size+1+1,0,none⟩ (.bool f)))∧KpB D X1 (X1.setCell ⟨w.heap.size+1+1,0,none⟩ (.bool f)):=by
      intro f;rw[Q.out];refine d1.ji (.bool f) (by omega) (fun q a0=>?_) (fun q a0=>?_) cw
      ·have b2:=(d1.bx q (C1 _ a0)).1;intro e;rcases sT.1 a0 with rfl|a0
       ·exact cu e
       ·rw[I.out]at a0;simp only[Lm,sT,JT,or_false]at a0;rcases a0 with rfl|rfl|rfl|rfl
        ·exact aP b2 Z (by dsimp only;decide) e
        ·exact aP b2 Z (by dsimp only;decide) e
        ·exact aP b2 Z (by dsimp only;decide) e
        ·exact aP b2 Z (by dsimp only;decide) e
      ·exact(d1.vt q a0).1.ne Z (by dsimp only;decide)
     have ca:=aA c9;have HD:=aA (And.intro d2 d3);clear d1 d2 d3 Z cS c9 c7 c8;have HE:Hid (eC x o y=((o.2.merge x y).1 || o.1,(o.2.merge x y).2)):=aA rfl;cases cb:(o.2.merge x y).1
     ·gi_wp2
      obtain⟨f1,f2,f3⟩:=ca.out o.1;refine⟨((d.out.2.1 _).trans (HD.out.1 _)).trans (f2 _),(d.out.2.2.trans HD.out.2).trans f3,G5,?_,N.out.2.1.trans (((d.out.2.1 _).trans (HD.out.1 _)).trans (f2 _)),N.out.2.2.trans (fun b a=>((d.out.2.2.trans HD.out.2).trans f3) b (a3 b a))⟩;rw[b1.out,ez,HE.out,cb,Bool.false_or];exact f1
     ·gi_wp2
      obtain⟨f1,f2,f3⟩:=ca.out true;refine⟨((d.out.2.1 _).trans (HD.out.1 _)).trans (f2 _),(d.out.2.2.trans HD.out.2).trans f3,G5,?_,N.out.2.1.trans (((d.out.2.1 _).trans (HD.out.1 _)).trans (f2 _)),N.out.2.2.trans (fun b a=>((d.out.2.2.trans HD.out.2).trans f3) b (a3 b a))⟩;rw[b1.out,ez,HE.out,cb,Bool.true_or];exact f1
   ·refine fB (K:=fun ak X=>Kb [] Y X∧∃al am an ao ap aq ar au av aw ax,ak={ tmps:=#[.pointer (some ⟨G.bg,0,none⟩),.slice (some ⟨l,0,none⟩) n n,.pointer (some ⟨w.heap.size,0,none⟩),.pointer (some ⟨w.heap.size+1,0,none⟩),.bool false,.pointer (some ⟨w.heap.size+1+1,0,none⟩),.pointer (some ⟨J.heap.size,0,none⟩),.pointer (some ⟨u,0,none⟩),.int .u64 (y:Int),.pointer (some ⟨G.bg,0,none⟩),.agg #[.slice z A C],.func (.func 127) #[] #[.pointer (some ⟨bw,0,none⟩)],.int .u64 (x:Int),.func (.func 127) #[] #[.pointer (some ⟨ae,0,none⟩)],.int .u64 (y:Int),al,am,an,ao,ap,aq,ar,au,av,aw,ax,.bool (false),lZ,lZ,lZ,lZ,lZ,lZ,lZ,lZ],defers:=[] }) ?_ ?_
    ·skip
     refine wpIn_region_any (by kernel_rfl) ?_
     (try (change wpAnyIn _ _ _ _ _ _ _ _ _ (World.drew _)))
     change wpAnyIn (Fence.wide.inRound l2) _ _ _ _ _ _ _ _ _;refine dZ (by kernel_rfl) _ _ _ _ ?_
     repeat' first
      |(with_reducible (show AllReadyIn _ _ _ _ _ _ _ _ _ _ _);first|exact AllReadyIn.nil|refine AllReadyIn.cons rfl (fun a2 p=>?_) ?_)
      | (replace p:=p
         go_simp
         try
          refine⟨trivial,?_⟩
         refine p _ _ ?_
         clear p a2)
      | (first|refine IX (i:=1) (v:=?_) rfl rfl (by kernel_rfl) (by decide +kernel) (by decide +kernel) (fun _ _ _ h=>h) ⟨Or.inl ⟨by rfl,?_⟩,fun _=>rfl⟩ ?_|refine IX (i:=2) (v:=?_) rfl rfl (by kernel_rfl) (by decide +kernel) (by decide +kernel) (fun _ _ _ h=>h) ⟨Or.inl ⟨by rfl,?_⟩,fun _=>rfl⟩ ?_|refine IX (i:=3) (v:=?_) rfl rfl (by kernel_rfl) (by decide +kernel) (by decide +kernel) (fun _ _ _ h=>h) ⟨Or.inl ⟨by rfl,?_⟩,fun _=>rfl⟩ ?_|refine IX (i:=11) (v:=?_) rfl rfl (by kernel_rfl) (by decide +kernel) (by decide +kernel) (fun _ _ _ h=>h) ⟨Or.inl ⟨by rfl,?_⟩,fun _=>rfl⟩ ?_
         rotate_left
         ·(intro w;go_simp;try (with_reducible rfl))
         try simp only[J2,I8,Jo,Jq])
      |(refine IX (i:=4) (v:=lZ) rfl rfl (by kernel_rfl) (by decide +kernel) (by decide +kernel) (fun _ _ _ h=>h) ⟨Or.inr ⟨by rfl,rfl⟩,fun _=>rfl⟩ ?_;try simp only[J2,I8,Jo,Jq])
      |(refine IX (i:=5) (v:=lZ) rfl rfl (by kernel_rfl) (by decide +kernel) (by decide +kernel) (fun _ _ _ h=>h) ⟨Or.inr ⟨by rfl,rfl⟩,fun _=>rfl⟩ ?_;try simp only[J2,I8,Jo,Jq])
      |(refine IX (i:=6) (v:=lZ) rfl rfl (by kernel_rfl) (by decide +kernel) (by decide +kernel) (fun _ _ _ h=>h) ⟨Or.inr ⟨by rfl,rfl⟩,fun _=>rfl⟩ ?_;try simp only[J2,I8,Jo,Jq])
      |(refine IX (i:=7) (v:=lZ) rfl rfl (by kernel_rfl) (by decide +kernel) (by decide +kernel) (fun _ _ _ h=>h) ⟨Or.inr ⟨by rfl,rfl⟩,fun _=>rfl⟩ ?_;try simp only[J2,I8,Jo,Jq])
      |(refine IX (i:=8) (v:=lZ) rfl rfl (by kernel_rfl) (by decide +kernel) (by decide +kernel) (fun _ _ _ h=>h) ⟨Or.inr ⟨by rfl,rfl⟩,fun _=>rfl⟩ ?_;try simp only[J2,I8,Jo,Jq])
      |(refine IX (i:=9) (v:=lZ) rfl rfl (by kernel_rfl) (by decide +kernel) (by decide +kernel) (fun _ _ _ h=>h) ⟨Or.inr ⟨by rfl,rfl⟩,fun _=>rfl⟩ ?_;try simp only[J2,I8,Jo,Jq])
      |refine IP (rs:=[0]) (by decide +kernel) (by simp) ?_
      |refine IP (rs:=[10]) (by decide +kernel) (by simp) ?_
      |(refine wpAnyIn_done (by decide +kernel) ?_ _;exact⟨(Kb.refl [] Y).drew,_,_,_,_,_,_,_,_,_,_,_,rfl⟩)
    rintro ak X ⟨kX,al,am,an,ao,ap,aq,ar,au,av,aw,ax,rfl⟩;obtain⟨M,C2,C3⟩:=N.out.1.fresh kX;have ez:eN ps x o y=o:=by
     unfold eN;have bl:¬x<y:=by omega
     rw[if_neg (by simp[bl])]
    have d:=aA (And.intro M (And.intro C2 C3));clear M C2 C3 HEq;gi_wp2
    refine⟨d.out.2.1 _,d.out.2.2,V,?_,N.out.2.1.trans (d.out.2.1 _),N.out.2.2.trans (fun b a=>d.out.2.2 b (a3 b a))⟩;rw[b1.out,ez];exact d.out.1
end
end Go.Proofs.YtiamlbhkiehilaaGreatDoor
