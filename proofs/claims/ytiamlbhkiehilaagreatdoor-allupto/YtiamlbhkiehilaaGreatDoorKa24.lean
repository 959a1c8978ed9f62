import Derived.Test.YtiamlbhkiehilaaGreatDoorKa15
import Derived.Test.YtiamlbhkiehilaaGreatDoorKa18
import Derived.Test.YtiamlbhkiehilaaGreatDoorKa22
import Derived.Test.YtiamlbhkiehilaaGreatDoorKa23
open Go renaming World→vF,callsIn_wide→IV,undef→lZ
open Go.CallsIn renaming inRound→Je
open List renaming nil_append→Mk,cons_append→K1,mem_cons→sT,mem_cons_self→Bx,mem_cons_of_mem→C1,mem_append→IK,map_append→Jp
namespace Go.Proofs.YtiamlbhkiehilaaGreatDoor
section
open Go.RowKit Go.Shelf
attribute [local go_sem] Oper.semAt_some
variable {B:Nat} {c:Way} {n:Nat} {s:St}
def HrI(B:Nat)(c:Way)(n:Nat)(G0:GV)(s:St)(W:vF)(F:List Nat):Prop:=∃G:GV,GM W B c n G s∧G.bg=G0.bg∧G.bn=G0.bn∧G.bl=G0.bl∧F=G.foot
theorem Hj(G0:GV):NxI 0 (HrI B c n G0 s):=by
 refine⟨?_,?_,?_⟩
 ·rintro W F b ⟨G,h,_,_,_,rfl⟩ f;obtain⟨_,g,T,d⟩:=h.cells f;exact⟨aB d,.inr ⟨g,T,d⟩⟩
 ·rintro W o F L ⟨G,h,i,a,j,rfl⟩ k l;exact⟨G,h.beside k l,i,a,j,rfl⟩
 ·rintro W F p ⟨G,h,e,_,_,rfl⟩ ⟨q,m,a,_,_,rfl⟩;exact h.ie m (e.trans a.symm)
theorem Hk(G0:GV)(f:0<B)(hr:∀x,s.rep x≤x):E5 (HrI B c n G0 s) 118 #[.pointer (some ⟨G0.bg,0,none⟩)] #[] n s.heirsOf:=by
 rintro W F m ⟨G,h,e,i,j,rfl⟩ k l;have:=oY m W G h k f l hr;rw[e]at this;have o:(#[Value.pointer (some ⟨G0.bg,0,none⟩)].push (.int .u64 ((m:Nat):Int)) ++ #[]:Array Value)=#[.pointer (some ⟨G0.bg,0,none⟩),.int .u64 ((m:Nat):Int)]:=by simp
 rw[o];refine this.mono ?_
 rintro u w ⟨b,p,q,r,a,d⟩;exact⟨p,b.foot,q,d.set.low (Nat.zero_le _),fun g t=>.inr (d.set.lt t).1,⟨b,r,a.e1.trans e,a.e2.trans i,a.e3.trans j,rfl⟩,a.kb,a.ft⟩
theorem HrI.ch{W W':vF}{G:GV}{d:List Nat}(h:HrI B c n G s W' d)(e:Kb G.foot W W')(f:∀b∈d,b∈G.foot∨W.heap.size≤b):∃a,GM W' B c n a s∧GCh W W' G a∧d=a.foot:=by obtain⟨a,g,i,j,k,rfl⟩:=h;exact⟨a,g,⟨e,f,i,j,k⟩,rfl⟩
theorem yB(m:Nat)(w:vF)(G:GV)(h:GM w B c n G s)(b:m<128) :
  Calls Tryz.prog 121 #[.pointer (some ⟨G.bg,8,none⟩),.int .u64 m] w fun e w'=>e=.returned (.tuple #[])∧∃a,GM w' B c n a { s with susp:=gR m s.susp }∧GCh w w' G a:=by
 refine(mH B G.bg 8 _ TG G.vs _ m w (by decide) h.hbg rfl h.sS b).mono ?_
 rintro e w' ⟨rfl,j,d,f⟩;obtain⟨g,i⟩:=h.lg f d;exact⟨rfl,_,g,i⟩
theorem vP{k a:Nat}(e:130≤k)(b:WF n s):∃l,fT k a ({ s with susp:=gR a s.susp }:St).heirsOf=some l∧s.lookStep k a=some (({ s with susp:=gR a s.susp }:St).mergeAll a l).2:=by
 obtain⟨l,d⟩:=kO (next:=({ s with susp:=gR a s.susp }:St).heirsOf) (fun x y f=>by
  have g:y∈s.heirsOf x:=f;have h:=b.gp g;have:=b.hn;omega) e a
 refine⟨l,d,?_⟩;unfold St.lookStep;simp only[];rw[d];rfl
theorem uM{α d:Type}(f:α→d→Option α):∀(l:List d) (a:α) (x:d),St.foldO f a (l++[x])=(St.foldO f a l).bind fun b=>f b x:=by
 intro l;induction l with
 |nil=>intro a x;simp only[Mk,mF,C7,Option.bind_some];cases f a x<;>rfl
 |cons y r e=>
  intro a x;simp only[K1,mF];cases f a y with
  |none=>rfl
  |some b=>exact e b x
def LkO(w:vF)(B:Nat)(c:Way)(n:Nat)(G:GV)(s:St)(k:Nat)(L:List Nat)(b:List (Nat × Array Value × TypeId))(pre:List Nat)(len:Nat)(W:vF):Prop:=
 ∃a d,LI w B c n G L b [] W a d∧St.foldO (St.lookStep k) s pre=some a∧WF n a∧a.un≤s.un+len*40
def LkN(w:vF)(B:Nat)(c:Way)(n:Nat)(G:GV)(a:St)(x:Nat)(L b:List Nat)(d:List (Nat × Array Value × TypeId))(e:List Nat)(D:Nat)(W Y:vF):Prop:=
 ∃f,LI w B c n G b d [] Y (e.foldl (eC x) (false,a)).2 f∧KeepsFrom D W Y∧KpB L W Y
set_option maxRecDepth 100000 in
set_option maxHeartbeats 8000000 in
theorem GB(ch:0<B)(k:Nat)(hk:130≤k):BC B c n k:=by
 intro s s' w G h hw hT hu he;have cC:=(hw.jx he).2;have hn:=h.n40;have TT:Hid (∀ {W:vF} {q:GV},GCh w W G q→bN W):=aA (fun hc=>hT.kb hc.kb (fun r=>by have:=(h.cells r).1;omega));have cF:∀(fn:Fn) (first b5:Array Value) (w:vF),(Instr.makeFunc fn first b5).run Tryz.prog w=.ok (.func fn first b5) w:=fun _ _ _ _=>rfl
 obtain⟨z,N⟩:∃z,z=w.alloc (.cells #[.pointer (some ⟨G.bg,0,none⟩)] 101):=⟨_,rfl⟩;have k0:Kb [] w z:=by rw[N];exact(Kb.refl [] w).alloc _
 have h0:=h.fresh k0;have x0:z.heap[w.heap.size]?=some (.cells #[.pointer (some ⟨G.bg,0,none⟩)] 101 (0,0)):=by rw[N];exact aD _ _
 have b6:z.cell? ⟨w.heap.size,0,none⟩=some (.pointer (some ⟨G.bg,0,none⟩)):=by rw[aC x0];rfl
 have z0:z.heap.size=w.heap.size+1:=by rw[N];simp
 have HA:=dN B G.bg 8 _ TG G.vs s.susp z h0.hbg rfl h0.sS;refine(IV (n:=30)).1 ?_
 refine callsIn_of_wp_marks Tryz.func92 rfl trivial ?_ rfl;simp only[Tryz.ntmps92,List.size_toArray,List.length_cons,List.length_nil,Nat.reduceAdd,Nat.reduceSub,Array.replicate_succ,Array.replicate_zero,List.push_toArray,List.append_toArray,Mk,K1];rw[N]at HA b6;gi_wp2
 refine⟨trivial,?_⟩;refine(IV.2 HA).mono ?_
 clear HA;rintro aa O ⟨bw,va,rfl,b7,b8,I,k1⟩;rw[← N]at I k1 b7;have ak:=k0.trans k1;have L1:=(((LI.start h).fresh k0).1.fk x0 (fun r=>by have:=h.gh _ r;omega));have P:=(L1.fresh k1).1;obtain⟨L,hL⟩:∃L,L=0::va.ownBlock.toList:=⟨_,rfl⟩;have al:∀b∈L,b ∉ G.foot∧b<O.heap.size:=by
  intro b a;rw[hL]at a;rcases sT.1 a with rfl|a
  ·exact⟨fun r=>by have:=(h.cells r).1;omega,by have:=P.gm.hB;omega⟩
  ·simp at a;exact⟨L1.gg (I.lt a).1,(I.lt a).2⟩
 have ci:∀b∈L,b<O.heap.size:=fun b a=>(al b a).2
 have cj:=bZ 29 bw z.heap.size va s.susp L O b8 I (hT.kb ak (by simp)) (fun a1 m=>by rw[hL];simp[m]) (by rw[hL];simp);have ck:=ak.size;have cL:=k1.size;have LL:LI w B c n G L [(w.heap.size,#[.pointer (some ⟨G.bg,0,none⟩)],101)] [] O s G:=⟨P.gm,P.ch,P.bx,P.vt,al⟩;have b9:=aA LL;have ba:=aA hL;have cO:∀a1,va.ownBlock=some a1→z.heap.size≤a1:=fun a1 m=>(I.lt m).1
 have cS:s.susp.length≤40:=by have:=I.len hw.sus;omega
 clear I b8 k1 b7 N x0 b6 k0 h0 L1 P ak hL al LL;gi_wp2
 obtain⟨a2,am⟩:∃a2:List (Nat × Array Value × TypeId),a2=[(w.heap.size,#[.pointer (some ⟨G.bg,0,none⟩)],101)]:=⟨_,rfl⟩;rw[← am]at b9;have an:=aA am;clear am;refine wpIn_rangeFunc_ownH (α:=Mem s.susp) (hro:=rfl) (h1:=by omega) (gf:=127) (lb:=#[.pointer (some ⟨bw,0,none⟩)]) rfl trivial (enters_of Tryz.func127 (by kernel_rfl) rfl) cj (fun h1 h2=>h1.trans h2) (fZ ci) (Below.refl _ _) (fun _=>rfl)
  (fun pre W=>LkO w B c n G s k L a2 (aR pre) pre.length W)
  (fun _ _ _=>False) ?hI (fun _ _ _ _ _ hs _ _=>hs) ⟨s,G,b9.out,rfl,hw,by simp⟩
  (fun x a' W=>∃i Q s0,W.heap[i]?=some (.cells #[.int .u64 (x.1:Int)] TN (0,0))∧GM W B c n Q s0∧Q.bg=G.bg∧i ∉ Q.foot∧a'={ tmps:=#[.pointer (some ⟨G.bg,0,none⟩),.pointer (some ⟨w.heap.size,0,none⟩),.pointer (some ⟨i,0,none⟩),lZ,lZ,.pointer (some ⟨G.bg,0,none⟩),.pointer (some ⟨G.bg,0,none⟩),.pointer (some ⟨G.bg,8,none⟩),.func (.func 127) #[] #[.pointer (some ⟨bw,0,none⟩)],.int .u64 (x.1:Int),lZ,lZ,lZ,lZ,lZ,lZ,lZ,lZ,lZ,lZ,lZ,lZ,lZ,lZ,lZ],defers:=[] }) ?hAx ?assign ?body ?done ?stop
 case hI=>rintro pre W W' ao ⟨f,q,o,p2⟩ m hr;exact⟨f,q,o.own ck m hr,p2⟩
 case hAx=>
  rintro x a' _ W W' ao ⟨i,Q,s0,q2,q3,q4,q5,q6⟩ m hr;have hk:=aS m;refine⟨i,Q,s0,hk.heap q2 (fun r=>?_),q3.beside hk (fun b a=>?_),q4,q5,q6⟩
  ·obtain⟨_,cm,ho,hc⟩:=hr i (by simpa using r);rw[q2]at ho;cases ho;cases hc
  ·obtain⟨_,cm,ho,hc⟩:=hr b (by simpa using a);exact q3.gu ho hc
 case assign=>
  rintro l pre x W bd ⟨f,q,o,p2⟩ R;have kA:Kb [] W (W.alloc (.cells #[.int .u64 (x.1:Int)] TN)):=(Kb.refl [] W).alloc _;obtain⟨z1,z2,z3⟩:=o.fresh kA;dsimp only[jO,Array.zip,Array.foldl];gi_wp2
  exact R _ _ (z2 _) z3 ⟨f,q,z1,p2⟩ ⟨W.heap.size,q,_,aD _ _,z1.gm,o.ch.e1,o.gg (Nat.le_refl _),rfl⟩
 case stop=>rintro D cc pre X _ _ hF _;exact hF.elim
 case done=>
  rintro D xs W hD ap ⟨f,q,o,S,pw,pu⟩ R;have ab:aR xs=s.susp:=ap;rw[ab]at S;have cn:f=s':=by have p:s.lookForCycles k=some f:=S;rw[he]at p;injection p with p;exact p.symm
  have p9:=o.turned R rfl (by omega) (.deferred none);have t:=aA (And.intro p9.gm p9.ch);rw[cn]at t;clear o p9 S pw pu;gi_wp2
  refine⟨by simp,.inl ⟨_,_,rfl,run_takeDeferred R,?_⟩⟩;exact⟨_,results_none rfl _ _ _,rfl,_,t.out.1,t.out.2⟩
 case body=>
  rintro l pre ⟨x,be⟩ a' W hl ⟨bf,hr⟩ ⟨f,q,o,S,pw,pu⟩ ⟨i,Q,s0,q2,q3,q4,q5,rfl⟩ co;have hx:=hw.sus x be;have bg:i ∉ q.foot:=by rw[o.gm.ie q3 (o.ch.e1.trans q4.symm)];exact q5
  have P1:=o.fk q2 bg;have kd:Kb [] W W.drew:=(Kb.refl [] W).drew;obtain⟨P2,bh,bi⟩:=P1.fresh kd;have aq:=yB x W.drew q P2.gm (by omega);rw[P2.ch.e1]at aq;have cg:=P1.cell (b:=w.heap.size) (v:=.pointer (some ⟨G.bg,0,none⟩)) (T:=101) (by rw[an.out];simp);have cB:=P1.cell (b:=i) (v:=.int .u64 (x:Int)) (T:=TN) (by simp);obtain⟨g,bj,bk⟩:=vP (k:=k) (a:=x) hk pw;have bl:WF n ({ f with susp:=gR x f.susp }:St):=pw.susp (fun y hy=>pw.sus y (by have p:=eL.1 hy;simp at p;exact p.2.2));have C:=aA (And.intro S (And.intro bk (And.intro bl pu)));have d0:({ f with susp:=gR x f.susp }:St).un=f.un:=rfl;have d4:pre.length<s.susp.length:=co;have d5:f.un≤s.un+40*40:=by have:pre.length*40≤40*40:=Nat.mul_le_mul_right 40 (by omega);omega
  generalize ({ f with susp:=gR x f.susp }:St)=d at *;have ad:=aA (And.intro P2 (And.intro bh bi));clear o P1 P2 bh bi q2 q3 q4 q5 bg kd S bk bl pu;gi_wp2
  refine fB (K:=fun a4 X=>(∃u,GM X B c n u d∧GCh W.drew X q u)∧∃ar au av aw ax,a4={ tmps:=#[.pointer (some ⟨G.bg,0,none⟩),.pointer (some ⟨w.heap.size,0,none⟩),.pointer (some ⟨i,0,none⟩),lZ,lZ,.pointer (some ⟨G.bg,0,none⟩),.pointer (some ⟨G.bg,0,none⟩),.pointer (some ⟨G.bg,8,none⟩),.func (.func 127) #[] #[.pointer (some ⟨bw,0,none⟩)],.int .u64 (x:Int),ar,au,av,aw,ax,lZ,lZ,lZ,lZ,lZ,lZ,lZ,lZ,lZ,lZ],defers:=[] }) ?_ ?_
  ·gi_region_with (refine⟨trivial,(Je l (IV.2 aq)).mono ?_⟩;clear aq;rintro aa X ⟨rfl,u,T,ae⟩)
   all_goals exact⟨⟨u,T,ae⟩,_,_,_,_,_,rfl⟩
  rintro a4 X ⟨⟨u,T,ae⟩,ar,au,av,aw,ax,rfl⟩;obtain⟨E,bn,bo⟩:=ad.out.1.call T ae;have J:=fun D=>(ad.out.2.1 D).trans (bn D)
  have a5:=ad.out.2.2.trans bo;have d6:=E.cell (b:=w.heap.size) (v:=.pointer (some ⟨G.bg,0,none⟩)) (T:=101) (by rw[an.out];simp);have d7:=E.cell (b:=i) (v:=.int .u64 (x:Int)) (T:=TN) (by simp);have bp:=TT.out E.ch;have d8:=E.gm.hB;have ay:=uK 118 #[.pointer (some ⟨u.bg,0,none⟩)] #[] n d.heirsOf (Hj (B:=B) (c:=c) (n:=n) (s:=d) u) (Hk u ch C.out.2.2.1.rep) (enters_of Tryz.func118 (by kernel_rfl) rfl) (fun a4 b _ a=>C.out.2.2.1.gp a) (by omega) k x g X u.foot ⟨u,T,rfl,rfl,rfl,rfl⟩ bp (by omega) (fun r=>by have:=(T.cells r).1;omega) (Nat.zero_le _) hx bj;rw[E.ch.e1]at ay;have af:=aA (And.intro E (And.intro J a5));have d9:=E.ch.kb.size;clear E bn bo J a5 ad T ae bp;gi_wp2
  refine⟨trivial,?_⟩;refine(Je l (IV.2 ay)).mono ?_
  clear ay;rintro aa U ⟨v,F3,rfl,hv,hi,bq,br,cp⟩;obtain⟨uo,ul,uc,rfl⟩:=hv.form;obtain⟨G3,bs,bt,cq⟩:=hi.ch bq br;obtain⟨Q2,bu,bv⟩:=af.out.1.call bs bt;obtain⟨V,a6⟩:∃V,V=U.alloc (.cells #[.slice uo ul uc] aL):=⟨_,rfl⟩;have kA:Kb [] U V:=by rw[a6];exact(Kb.refl [] U).alloc _
  have bx:V.heap[U.heap.size]?=some (.cells #[.slice uo ul uc] aL (0,0)):=by rw[a6];exact aD _ _
  obtain⟨Q3,bz,bF⟩:=Q2.fresh kA;have az:=dN X.heap.size U.heap.size 0 #[.slice uo ul uc] aL (.slice uo ul uc) g V bx rfl (hv.kb kA (by simp));rw[a6]at az;have a7:=aA (And.intro Q3 (And.intro (fun D=>((af.out.2.1 D).trans (bu D)).trans (bz D)) ((af.out.2.2.trans bv).trans bF)));clear Q2 bu bv Q3 bz bF af hi bq br cp bs bt cq kA bx;gi_wp2
  refine⟨trivial,?_⟩;refine(Je l (IV.2 az)).mono ?_
  clear az;rintro aa A ⟨aV,vb,rfl,cr,c0,Z,k3⟩;rw[← a6]at cr Z k3;obtain⟨F,c1,c2⟩:=a7.out.1.fresh k3;have J:KeepsFrom O.heap.size W A:=(a7.out.2.1 _).trans (c1 _);have a5:KpB L W A:=a7.out.2.2.trans c2;have cs:A.heap[l]?=some (.loop bf):=J.same l _ hl hr rfl;obtain⟨H,a8⟩:∃H,H=0::(va.ownBlock.toList++vb.ownBlock.toList):=⟨_,rfl⟩;have ag:∀b∈L,b∈H:=by
   intro b a;rw[ba.out]at a;rw[a8];rcases sT.1 a with rfl|a
   ·exact Bx
   ·exact C1 _ (IK.2 (.inl a))
  have b0:∀b∈H,b ∉ G3.foot∧b<A.heap.size:=by
   intro b a;by_cases ah:b∈L
   ·exact F.lb b ah
   ·have c3:vb.ownBlock=some b:=by
     rw[a8]at a;rw[ba.out]at ah;rcases sT.1 a with rfl|a
     ·exact absurd Bx ah
     ·rcases IK.1 a with a|a
      ·exact absurd (C1 _ a) ah
      ·simpa using a
    exact⟨a7.out.1.gg (Z.lt c3).1,(Z.lt c3).2⟩
  have c4:∀b∈H,b<A.heap.size:=fun b a=>(b0 b a).2
  have ct:=bZ 27 aV V.heap.size vb g H A c0 Z (TT.out F.ch) (fun a1 m=>by rw[a8];simp[m]) (by rw[a8];simp);obtain⟨ai,b1⟩:∃ai,ai=(i,#[.int .u64 (x:Int)],TN)::a2:=⟨_,rfl⟩;have A8:LI w B c n G H ai [] A d G3:=by rw[b1];exact⟨F.gm,F.ch,F.bx,F.vt,b0⟩
  have b2:=aA b1;have aj:∀y∈g,y<n:=lH (P:=fun y=>y<n) bj hx (fun a4 b a=>C.out.2.2.1.gp a);have db:g.length≤40:=by have:=Z.len aj;omega
  have cu:W.heap.size≤A.heap.size:=J.size;have cv:=F.ch.kb.size;have b3:=aA (And.intro A8 (And.intro J a5));clear F c1 c2 A8 J a5 a7 c0 Z k3 b0 a6 a8 b1;gi_wp2
  refine wpIn_rangeFunc_ownN (α:=Mem g) (l₀:=l) (r₀:=bf) rfl cs (by omega) (gf:=127) (lb:=#[.pointer (some ⟨aV,0,none⟩)]) rfl trivial (enters_of Tryz.func127 (by kernel_rfl) rfl) (ct.inRound l) (fun h1 h2=>h1.trans h2) (fZ c4) (Below.refl _ _) (fun _=>rfl)
   (fun j Y=>LkN w B c n G d x L H ai (aR j) O.heap.size W Y)
   (fun _ _ _=>False) ?hI2 (fun _ _ _ _ _ hs _ _=>hs) ⟨G3,b3.out.1,b3.out.2.1,b3.out.2.2⟩
   (fun y c6 _=>c6={ tmps:=#[.pointer (some ⟨G.bg,0,none⟩),.pointer (some ⟨w.heap.size,0,none⟩),.pointer (some ⟨i,0,none⟩),.pointer (some ⟨U.heap.size,0,none⟩),.int .u64 (y.1:Int),.pointer (some ⟨G.bg,0,none⟩),.pointer (some ⟨G.bg,0,none⟩),.pointer (some ⟨G.bg,8,none⟩),.func (.func 127) #[] #[.pointer (some ⟨bw,0,none⟩)],.int .u64 (x:Int),ar,au,av,aw,ax,.int .u64 (x:Int),.pointer (some ⟨G.bg,0,none⟩),.func (.func 118) #[.pointer (some ⟨G.bg,0,none⟩)] #[],.agg #[.slice uo ul uc],.func (.func 127) #[] #[.pointer (some ⟨aV,0,none⟩)],.int .u64 (y.1:Int),lZ,lZ,lZ,lZ],defers:=[] }) (fun _ _ _ _ _ _ hs _ _=>hs) ?assign2 ?body2 ?done2 ?stop2
  case hI2=>rintro j Y Y' ao ⟨G4,e,K,M⟩ m b4;refine⟨G4,e.own cv m b4,ownFrom_keepsFrom (w₀:=W) (B':=A.heap.size) cu j Y Y' ao K m b4,fun b a=>?_⟩;rw[← M b a];refine(aS m).block b (e.lb b (ag b a)).2 (fun r=>?_);have h8:=(b4 b (by simpa using r)).1;have p:=c4 b (ag b a);omega
  case assign2=>
   rintro l2 j y Y bd hi R;dsimp only[jO,Array.zip,Array.foldl];gi_wp2
   exact R _ _ (KeepsFrom.refl _ _) (KpB.refl _ _) hi rfl
  case stop2=>rintro cc j Y _ hF;exact hF.elim
  case body2=>
   rintro l2 j ⟨y,c7⟩ c6 Y _ _ ⟨G4,e,K,M⟩ rfl cw;have hy:=aj y c7;obtain⟨a9,a0⟩:=WF.jb hx (aR j) (false,d) C.out.2.2.1 (by intro b a;obtain⟨c8,_,rfl⟩:=List.mem_map.1 a;exact aj c8.1 c8.2);have dc:(aR j).length=j.length:=by unfold aR;rw[List.length_map]
   have dd:j.length<g.length:=cw;have e8:(aR (j++[(⟨y,c7⟩:Mem g)])).foldl (eC x) (false,d)=eC x ((aR j).foldl (eC x) (false,d)) y:=by unfold aR;rw[Jp,List.foldl_append];rfl
   have cx:=aA e8;have cy:((aR j).foldl (eC x) (false,d)).2.un+1<4611686018427387904:=by have p:(false,d).2.un=d.un:=rfl;rw[p]at a0;omega
   clear e8 a0;generalize (aR j).foldl (eC x) (false,d)=z0 at *;have de:=e.cell (b:=w.heap.size) (v:=.pointer (some ⟨G.bg,0,none⟩)) (T:=101) (by rw[b2.out,an.out];simp);have df:=e.cell (b:=i) (v:=.int .u64 (x:Int)) (T:=TN) (by rw[b2.out];simp);have HM:=uL B c n z0.2 x y Y G4 e.gm a9 hx hy cy;rw[e.ch.e1]at HM;have HC:=aA (And.intro e (And.intro K M));clear e K M;gi_wp2
   refine⟨trivial,?_⟩;refine(Je l2 (Je l (IV.2 HM))).mono ?_
   clear HM;rintro aa Y1 ⟨rfl,G5,c9,ca⟩;obtain⟨d1,d2,d3⟩:=HC.out.1.call c9 ca;have HD:=aA (And.intro d1 (And.intro d2 d3));clear d1 d2 d3 c9 ca;gi_wp2
   refine⟨HD.out.2.1 _,HD.out.2.2,G5,?_,HC.out.2.1.trans (HD.out.2.1 _),HC.out.2.2.trans (fun b a=>HD.out.2.2 b (ag b a))⟩;rw[cx.out];exact HD.out.1
  case done2=>
   rintro xs Y ap ⟨G4,e,K,M⟩;have ab:aR xs=g:=ap;have cb:aR (pre++[(⟨x,be⟩:Mem s.susp)])=aR pre++[x]:=by unfold aR;rw[Jp];rfl
   obtain⟨a9,a0⟩:=WF.jb hx g (false,d) C.out.2.2.1 aj;rw[ab]at e;have cd:(g.foldl (eC x) (false,d)).2=(d.mergeAll x g).2:=by rw[oS]
   rw[cd]at e a9 a0;have c5:LI w B c n G L a2 [] Y (d.mergeAll x g).2 G4:=by rw[b2.out]at e;exact⟨e.gm,e.ch,fun cz hq=>e.bx cz (C1 _ hq),e.vt,fun b a=>e.lb b (ag b a)⟩
   have ce:St.foldO (St.lookStep k) s (aR pre++[x])=some (d.mergeAll x g).2:=by rw[uM,C.out.1];exact C.out.2.1
   have cf:(d.mergeAll x g).2.un≤s.un+(pre.length+1)*40:=by have p:(false,d).2.un=d.un:=rfl;rw[p]at a0;have:=C.out.2.2.2;omega
   have t:=aA (And.intro K (And.intro M (And.intro c5 (And.intro ce (And.intro a9 cf)))));have cA:=aA cb;clear e K M c5 ce cf a9 a0 cd ab cb;gi_wp2
   refine⟨t.out.1,t.out.2.1,_,G4,t.out.2.2.1,?_,t.out.2.2.2.2.1,?_⟩
   ·rw[cA.out];exact t.out.2.2.2.1
   ·rw[List.length_append];exact t.out.2.2.2.2.2
end
end Go.Proofs.YtiamlbhkiehilaaGreatDoor
