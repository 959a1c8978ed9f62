import Derived.Test.YtiamlbhkiehilaaGreatDoorKa14
open Go renaming TypeId→I1,Value→sA,World→vF,ahead→JG,callsIn_wide→IV,undef→lZ
open Go.CallsIn renaming inRound→Je
open Go.Proofs.Tryz renaming prog→hE
open Go.World renaming size_alloc→IW
open List renaming range→IQ,mem_append→IK,mem_cons→sT,mem_cons_self→Bx,mem_cons_of_mem→C1,map_append→Jp,length_append→A4,mem_singleton→A1
open Nat renaming le_refl→gO,le_trans→IH,lt_of_lt_of_le→A2
namespace Go.Proofs.YtiamlbhkiehilaaGreatDoor
set_option maxRecDepth 100000
section
open Go.RowKit Go.Shelf
attribute [local go_sem] Oper.semAt_some
abbrev TFn:I1:=180
theorem E9(n b c cnt:Nat)(m:Nat→sA)(W:vF)(j:n<128)(k:W.cell? ⟨b,0,none⟩=some (.map (some c)))(h:gD W c cnt m)(o:b<W.heap.size)(q:∃ao l cap,m n=.slice ao l cap) :
  Calls hE 160 #[.int .u64 (n:Int),.pointer (some ⟨b,0,none⟩)] W fun e W'=>e=.returned (.agg #[m n])∧Kb [] W W':=by
 obtain⟨ao,l,cap,r⟩:=q;obtain⟨a,d⟩:∃a,a=W.alloc (.cells #[.slice none 0 0] aL):=⟨_,rfl⟩;have f:Kb [] W a:=by rw[d];exact(Kb.refl [] W).alloc _
 have g:a.heap[W.heap.size]?=some (.cells #[.slice none 0 0] aL (0,0)):=by rw[d];exact aD _ _
 have i:=(h.kb f (by simp)).look j;have s:a.cell? ⟨b,0,none⟩=some (.map (some c)):=by rw[f.cell (p:=⟨b,0,none⟩) o (by simp)];exact k
 have t:a.cell? ⟨W.heap.size,0,none⟩=some (.slice none 0 0):=by rw[aC g];rfl
 have u:a.frozen? ⟨W.heap.size,0,none⟩=false:=aE g 0;have w:(W.alloc (.cells #[.slice ao l cap] aL)).cell? ⟨W.heap.size,0,none⟩=some (.slice ao l cap):=by rw[aC (aD _ _)];rfl
 rw[r]at i ⊢;rw[d]at i s t u;clear h f g;go_enter Tryz.func160,Tryz.ntmps160
 go_wp2;refine bodyPost_ret (v:=.agg #[.slice ao l cap]) (by simp[results,Tryz.results160,go_sem,w]) rfl ?_
 exact⟨rfl,(Kb.refl [] W).alloc _⟩
structure BkP(I:World→List Nat→Prop)(B0 mb cnt:Nat)(m:Nat→Value)(bk:Nat→List Nat)(bxs:List (Nat × Array Value × TypeId))(F1:List Nat)(W:World):Prop where
 inv:I W F1
 bx:∀q∈bxs,W.heap[q.1]?=some (.cells q.2.1 q.2.2 (0,0))
 mp:gD W mb cnt m
 st:∀n,n<128→aO W B0 (m n) (bk n)
def BkI(I:vF→List Nat→Prop)(B0 a cnt:Nat)(m:Nat→sA)(d:Nat→List Nat)(b:List (Nat × Array sA × I1))(c:List Nat)(W:vF)(F:List Nat):Prop:=
 BkP I B0 a cnt m d b c W∧F=c++(a::(b.map (·.1)++(IQ 128).filterMap (fun n=>(m n).ownBlock)))
theorem qM{a:Nat}{m:Nat→sA}{c:List (Nat × Array sA × I1)}{d:List Nat}{b:Nat}:b∈d++(a::(c.map (·.1)++(IQ 128).filterMap (fun n=>(m n).ownBlock)))↔b∈d∨b=a∨(∃q∈c,q.1=b)∨∃n,n<128∧(m n).ownBlock=some b:=by simp only[IK,sT,List.mem_map,List.mem_filterMap,List.mem_range]
theorem Hg{M M2:Nat}{I:vF→List Nat→Prop}{B0 p cnt:Nat}{m:Nat→sA}{w:Nat→List Nat}{s:List (Nat × Array sA × I1)}{j:List Nat}(t:NxI M I)(x:p<M2)(C:M≤M2):NxI M2 (BkI I B0 p cnt m w s j):=by
 refine⟨?_,?_,?_⟩
 ·rintro W F b ⟨h,rfl⟩ f;rcases qM.1 f with a|a|⟨q,c,a⟩|⟨n,d,a⟩
  ·obtain⟨y,k⟩:=t.lt W j b h.inv a;refine⟨y,?_⟩;rcases k with k|k
   ·exact .inl (by omega)
   ·exact .inr k
  ·rw[a];exact⟨h.mp.lt,.inl x⟩
  ·rw[← a];exact⟨aB (h.bx q c),.inr ⟨_,_,h.bx q c⟩⟩
  ·obtain⟨D,u⟩:=(h.st n d).block a;exact⟨aB u,.inr ⟨_,_,u⟩⟩
 ·rintro W z F L ⟨h,rfl⟩ l A;have o:∀b∈L,b ∉ j∧b≠p∧(∀q∈s,q.1≠b)∧∀n,n<128→(m n).ownBlock≠some b:=by
   intro b f;have i:=A b f;rw[qM]at i;exact⟨fun e=>i (.inl e),fun e=>i (.inr (.inl e)),fun q c e=>i (.inr (.inr (.inl ⟨q,c,e⟩))),fun n d e=>i (.inr (.inr (.inr ⟨n,d,e⟩)))⟩
  exact⟨⟨t.kb W z j L h.inv l (fun b f=>(o b f).1),fun q c=>l.heap (h.bx q c) (fun r=>(o _ r).2.2.1 q c rfl),h.mp.kb l (fun r=>(o _ r).2.1 rfl),fun n d=>(h.st n d).kb l (fun g B=>(o g B).2.2.2 n d)⟩,rfl⟩
 ·rintro W F E ⟨h,rfl⟩ ⟨G,rfl⟩;rfl
theorem Hh{M:Nat}{I:vF→List Nat→Prop}{B0 c cnt d:Nat}{m:Nat→sA}{i:Nat→List Nat}{j:List (Nat × Array sA × I1)}{k:List Nat}(r:NxI M I){N:Nat}(w:N≤128)(f:(d,#[.map (some c)],TMp)∈j):E5 (BkI I B0 c cnt m i j k) 160 #[] #[.pointer (some ⟨d,0,none⟩)] N i:=by
 rintro W F n ⟨h,rfl⟩ _ l;have o:=h.bx _ f;have p:=h.st n (by omega);refine(E9 n d c cnt m W (by omega) (by rw[aC o];rfl) h.mp (aB o) p.form).mono ?_
 rintro e s ⟨rfl,a⟩;refine⟨m n,_,rfl,?_,fun g t=>.inl (qM.2 (.inr (.inr (.inr ⟨n,by omega,t⟩)))),⟨⟨r.kb W s k [] h.inv a (by simp),fun q u=>a.heap (h.bx q u) (by simp),h.mp.kb a (by simp),fun n l=>(h.st n l).kb a (by simp)⟩,rfl⟩,a.mono (by simp),fun b f=>.inl f⟩;exact(p.kb a (by simp)).low (Nat.zero_le _)
def aR{T:List Nat}(l:List (Mem T)):List Nat:=l.map (·.1)
def Iz(M:Nat)(I:vF→List Nat→Prop)(w:vF)(a L:List Nat)(b:Nat)(d:Nat→List Nat)(e:List (Nat × Array sA × I1))(pre:List Nat)(c:Nat)(W:vF):Prop:=
 ∃f cnt m,AS M I w a L b cnt m (bkS d pre 0 []) e f W∧cnt≤c*128
def IA(M:Nat)(I:vF→List Nat→Prop)(w:vF)(a L b:List Nat)(d:Nat)(e:Nat→List Nat)(f:List (Nat × Array sA × I1))(g pre:List Nat)(c x:Nat)(h:List Nat)(c2 D:Nat)(W X:vF):Prop:=
 ∃cnt m,AS M I w a b d cnt m (bkS e pre x h) f g X∧KeepsFrom D W X∧KpB L W X∧cnt≤c*128+c2
set_option maxHeartbeats 16000000 in
theorem uK{M:Nat}{I:vF→List Nat→Prop}(f:Nat)(P Q:Array sA)(N:Nat)(l:Nat→List Nat)(A:NxI M I)(bq:E5 I f P Q N l)(hF:∀args w,(callFunc f args).run hE w=.ok (.enter f args) w)(b3:∀x y,x<N→y∈l x→y<N)(hN:N≤128)(k C:Nat)(R:List Nat)(w:vF)(s:List Nat)(hI:I w s)(hT:bN w)(du:0<w.heap.size)(ap:0 ∉ s)(cu:M≤w.heap.size)(b5:C<N)(hr:fT k C l=some R) :
  Calls hE 122 #[.int .u64 (C:Int),.func (.func f) P Q] w fun e w'=>∃v F',e=.returned (.agg #[v])∧aO w' w.heap.size v R∧I w' F'∧Kb s w w'∧(∀b∈F',b∈s∨w.heap.size≤b)∧∀g,v.ownBlock=some g→g ∉ F':=by
 unfold fT at hr;obtain⟨JG,br,cv⟩:∃JG,fD k C l=some JG∧fD k C (mD JG l)=some R:=by
  cases e:fD k C l with
  |none=>rw[e]at hr;cases hr
  |some JG=>rw[e]at hr;exact⟨JG,rfl,hr⟩
 have b6:∀x∈JG,x<N:=iO (P:=fun x=>x<N) br b5 b3;have TT:Hid (∀W,Kb s w W→bN W):=aA (fun W a=>hT.kb a ap);have dw:∀(fn:Fn) (first bs:Array sA) (w:vF),(Instr.makeFunc fn first bs).run hE w=.ok (.func fn first bs) w:=fun _ _ _ _=>rfl
 have dx:=@run_makeMap hE;obtain⟨Y,ai⟩:∃Y,Y=Value.func (.func f) P Q:=⟨_,rfl⟩;obtain⟨J,a4⟩:∃J,J=(w.alloc (.cells #[Y] TFn)).alloc (.cells #[.slice none 0 0] aL):=⟨_,rfl⟩;have k0:Kb [] w J:=by rw[a4];exact((Kb.refl [] w).alloc _).alloc _
 have z0:J.heap.size=w.heap.size+2:=by rw[a4];simp
 have y0:J.heap[w.heap.size]?=some (.cells #[Y] TFn (0,0)):=by rw[a4];exact aF (aD _ _) _
 have f0:J.heap[w.heap.size+1]?=some (.cells #[.slice none 0 0] aL (0,0)):=by rw[a4];have:=aD (w.alloc (.cells #[Y] TFn)) (.cells #[.slice none 0 0] aL);rw[IW]at this;exact this
 have bt:J.cell? ⟨w.heap.size,0,none⟩=some (.func (.func f) P Q):=by rw[aC y0,ai];rfl
 have b7:=sK f P Q N l A bq hF b3 hN k C JG J s (A.kb w J s [] hI k0 (by simp)) (hT.kb k0 (by simp)) (by omega) ap (by omega) b5 br;have b9:∀b∈s,b<w.heap.size:=fun b c=>(A.lt w s b hI c).1
 refine(IV (n:=20)).1 ?_
 refine callsIn_of_wp_marks Tryz.func122 rfl trivial ?_ rfl;simp only[Tryz.ntmps122,List.size_toArray,List.length_cons,List.length_nil,Nat.reduceAdd,Nat.reduceSub,Array.replicate_succ,Array.replicate_zero,List.push_toArray,List.append_toArray,List.nil_append,List.cons_append];rw[a4,ai]at b7 bt;gi_wp2
 refine⟨trivial,?_⟩;refine(IV.2 b7).mono ?_
 clear b7;rintro e p ⟨v1,h,rfl,aq,bb,a8,ar,cw⟩;rw[← ai,← a4]at aq a8 ar;clear bt;obtain⟨vo,vl,vc,rfl⟩:=aq.form;obtain⟨T,a9⟩:∃T,T=p.alloc (.cells #[.slice vo vl vc] aL):=⟨_,rfl⟩;obtain⟨Z,aa⟩:∃Z,Z=T.alloc (.map #[] 0):=⟨_,rfl⟩;obtain⟨E,aj⟩:∃E,E=Z.alloc (.cells #[.map (some (p.heap.size+1))] TMp):=⟨_,rfl⟩;have k2:Kb [] p T:=by rw[a9];exact(Kb.refl [] p).alloc _
 have U:Kb [] T Z:=by rw[aa];exact(Kb.refl [] T).alloc _
 have k4:Kb [] Z E:=by rw[aj];exact(Kb.refl [] Z).alloc _
 have s2:T.heap.size=p.heap.size+1:=by rw[a9];simp
 have s3:Z.heap.size=p.heap.size+1+1:=by rw[aa,IW,s2]
 have ab:Kb [] p E:=(k2.trans U).trans k4;have a2:T.heap[p.heap.size]?=some (.cells #[.slice vo vl vc] aL (0,0)):=by rw[a9];exact aD _ _
 have b4:E.heap[p.heap.size+1+1]?=some (.cells #[.map (some (p.heap.size+1))] TMp (0,0)):=by rw[aj,← s3];exact aD _ _
 have m3:gD Z (p.heap.size+1) 0 (fun _=>.slice none 0 0):=by rw[aa,← s2];exact gD.made T
 have dy:=a8.size;have A0:AS M I w s [] (p.heap.size+1) 0 (fun _=>.slice none 0 0) (bkS l [] 0 []) [(p.heap.size+1+1,#[.map (some (p.heap.size+1))],TMp),(w.heap.size,#[Y],TFn),(w.heap.size+1,#[.slice none 0 0],aL)] h E:=by
  have bu:∀b,p.heap.size≤b→b ∉ h:=fun b c i=>by have:=(A.lt p h b bb i).1;omega
  have bv:∀b,b<J.heap.size→w.heap.size≤b→b ∉ h:=fun b c hl i=>by
   rcases ar b i with r|r
   ·have:=b9 b r;omega
   ·omega
  have kw:Kb s w E:=(k0.mono (by simp)).trans (a8.trans (ab.mono (by simp)));refine⟨A,cu,A.kb p E h [] bb ab (by simp),kw,fun b c=>?_,fun q S=>?_,m3.kb k4 (by simp),⟨bu _ (by omega),by omega⟩,fun n _=>?_,fun n g _ e=>(by cases e),fun n n' _ _ _ g e=>(by cases e),by simp⟩
  ·rcases ar b c with r|r
   ·exact .inl r
   ·exact .inr (by omega)
  ·simp only[sT,List.not_mem_nil,or_false]at S;rcases S with rfl|rfl|rfl
   ·exact⟨b4,bu _ (by dsimp only;omega),by dsimp only;omega,by dsimp only;decide⟩
   ·exact⟨ab.heap (a8.heap y0 (fun i=>by have:=b9 _ i;omega)) (by simp),bv _ (by dsimp only;omega) (gO _),gO _,by dsimp only;decide⟩
   ·exact⟨ab.heap (a8.heap f0 (fun i=>by have:=b9 _ i;omega)) (by simp),bv _ (by dsimp only;omega) (by dsimp only;omega),by dsimp only;omega,by dsimp only;decide⟩
  ·rw[Dx];exact aO.nil _ _
 have a5:=dN J.heap.size p.heap.size 0 #[.slice vo vl vc] aL (.slice vo vl vc) JG E (k4.heap (U.heap a2 (by simp)) (by simp)) rfl (aq.kb ab (by simp));have au:=aA A0;have ak:=aA (And.intro a9 (And.intro aa aj));rw[aj,aa,a9]at a5;clear A0 m3 b4 a2 k2 U k4 ab aq bb a8 ar cw y0 f0 k0 a4 a9 aa aj;gi_wp2
 refine⟨trivial,?_⟩;refine(IV.2 a5).mono ?_
 clear a5;rintro e W5 ⟨av,va,rfl,cx,bw,ad,k5⟩;rw[← ak.out.1,← ak.out.2.1,← ak.out.2.2]at cx ad k5;have s4:E.heap.size=p.heap.size+3:=by rw[ak.out.2.2,IW,s3]
 clear ak;obtain⟨j,bc⟩:∃j,j=p.heap.size+1:=⟨_,rfl⟩;obtain⟨ba,bx⟩:∃ba,ba=p.heap.size:=⟨_,rfl⟩;rw[← bc]at au;have A5:=au.out.fresh k5;have dz:=k5.size;gi_wp2
 rw[← bc,← bx];obtain⟨L,hL⟩:∃L,L=0::va.ownBlock.toList:=⟨_,rfl⟩;have bd:∀b∈L,b ∉ h∧b<W5.heap.size∧b≠j∧∀n,n<128→(Value.slice none 0 0).ownBlock≠some b:=by
  intro b c;rw[hL]at c;rcases sT.1 c with rfl|c
  ·refine⟨fun i=>?_,by omega,by omega,fun n _ e=>by cases e⟩;rcases A5.ft _ i with r|r
   ·exact ap r
   ·omega
  ·simp at c;have h8:=ad.lt c;exact⟨au.out.gg h8.1,h8.2,by omega,fun n _ e=>by cases e⟩
 have cy:∀b∈L,b<W5.heap.size:=fun b c=>(bd b c).2.1
 have cC:=bZ 19 av E.heap.size va JG L W5 bw ad (TT.out _ A5.kb) (fun g t=>by rw[hL];simp[t]) (by rw[hL];simp);have A6:=A5.il bd;have bF:j<W5.heap.size:=by omega
 have cF:=A5.kb.size;have c0:=aA A6;have dF:∀g,va.ownBlock=some g→E.heap.size≤g∧g<W5.heap.size:=fun g t=>ad.lt t
 have dL:JG.length≤128:=by have:=ad.len b6;omega
 have c1:=aA hL;clear A5 A6 au bw ad k5 bd bc bx hL;obtain⟨a0,be⟩:∃a0:List (Nat × Array sA × I1),a0=[(j+1,#[.map (some j)],TMp),(w.heap.size,#[Y],TFn),(w.heap.size+1,#[.slice none 0 0],aL)]:=⟨_,rfl⟩;rw[← be]at c0;have a6:=aA be;have cL:=aA ai;clear be ai;refine wpIn_rangeFunc_ownH (α:=Mem JG) (hro:=rfl) (h1:=by omega) (gf:=127) (lb:=#[.pointer (some ⟨av,0,none⟩)]) rfl trivial (enters_of Tryz.func127 (by kernel_rfl) rfl) cC (fun o h2=>o.trans h2) (fZ cy) (Below.refl _ _) (fun _=>rfl)
  (fun pre W=>Iz M I w s L j l a0 (aR pre) pre.length W)
  (fun _ _ _=>False) ?hI (fun _ _ _ _ _ hs _ _=>hs) ⟨h,0,_,c0.out,by simp⟩
  (fun x a' W=>∃F h,I W h∧F ∉ h∧w.heap.size≤F∧W.heap[F]?=some (.cells #[.int .u64 (x.1:Int)] TN (0,0))∧a'={ tmps:=#[.int .u64 (C:Int),.func (.func f) P Q,lZ,.pointer (some ⟨w.heap.size,0,none⟩),.pointer (some ⟨w.heap.size+1,0,none⟩),.pointer (some ⟨ba,0,none⟩),.pointer (some ⟨j+1,0,none⟩),.pointer (some ⟨F,0,none⟩),lZ,lZ,lZ,.int .u64 (C:Int),.func (.func f) P Q,.agg #[.slice vo vl vc],.map (some j),.func (.func 127) #[] #[.pointer (some ⟨av,0,none⟩)],.int .u64 (x.1:Int),lZ,lZ,lZ,lZ,lZ,lZ,lZ,lZ,lZ,lZ,lZ,lZ,lZ,lZ,lZ,lZ],defers:=[] }) ?hAx ?assign ?body ?done ?stop
 case hI=>rintro pre W W' bf B t hr;obtain⟨h,cnt,m,d,pc⟩:=B;exact⟨h,cnt,m,d.own cF bF t hr,pc⟩
 case hAx=>
  rintro x a' _ W W' bf ⟨F,u,q1,q2,q3,q4,q5⟩ t hr;have a:=aS t;refine⟨F,u,A.kb W W' u _ q1 a (fun b c i=>?_),q2,q3,a.heap q4 (fun i=>?_),q5⟩
  ·obtain⟨o,d0,ho,K⟩:=hr b (by simpa using c);rcases(A.lt W u b q1 i).2 with r|⟨cs,ae,r⟩
   ·omega
   ·rw[ho]at r;cases r;cases K
  ·obtain⟨_,d0,ho,K⟩:=hr F (by simpa using i);rw[q4]at ho;cases ho;cases K
 case assign=>
  rintro a1 pre x W d4 B hK;obtain⟨h,cnt,m,d,pc⟩:=B;have G:Kb [] W (W.alloc (.cells #[.int .u64 (x.1:Int)] TN)):=(Kb.refl [] W).alloc _;have p2:=d.fresh G;dsimp only[jO,Array.zip,Array.foldl];gi_wp2
  exact hK _ _ (bO G (by simp) _) (fun k a=>G.block k (d.lb k a).2.1 (by simp)) ⟨h,cnt,m,p2,pc⟩ ⟨W.heap.size,h,p2.inv,d.gg (gO _),d.kb.size,aD _ _,rfl⟩
 case stop=>rintro D cc pre X _ _ hF _;exact hF.elim
 case body=>
  rintro a1 pre ⟨x,c6⟩ a' W hl ⟨c7,hr⟩ B ⟨F,u,q1,q2,q3,q4,rfl⟩ d5;obtain⟨h,cnt,m,d,pc⟩:=B;have eF:u=h:=A.uniq W u h q1 d.inv;subst eF;have hx:=b6 x c6;have P1:=d.fk q4 q2 q3 (by decide);have d6:=P1.cell (b:=w.heap.size) (v:=Y) (T:=TFn) (by rw[a6.out];simp);rw[cL.out]at d6;have cB:=P1.cell (b:=F) (v:=.int .u64 (x:Int)) (T:=TN) (by simp);have HN:=bq W u x d.inv (TT.out W d.kb) hx;have c8:=aA P1;clear d P1 q1 q2 q4;gi_wp2
  refine⟨trivial,?_⟩;refine(Je a1 (IV.2 HN)).mono ?_
  clear HN;rintro e X1 ⟨v,F3,rfl,hv,d7,hi,a,hf⟩;obtain⟨Q1,Q2,Q3⟩:=c8.out.call hi a hf;obtain⟨uo,ul,uc,rfl⟩:=hv.form;obtain⟨X2,al⟩:∃X2,X2=X1.alloc (.cells #[.slice uo ul uc] aL):=⟨_,rfl⟩;have G:Kb [] X1 X2:=by rw[al];exact(Kb.refl [] X1).alloc _
  have c9:X2.heap[X1.heap.size]?=some (.cells #[.slice uo ul uc] aL (0,0)):=by rw[al];exact aD _ _
  have a5:=dN 0 X1.heap.size 0 #[.slice uo ul uc] aL (.slice uo ul uc) (l x) X2 c9 rfl (hv.kb G (by simp));rw[al]at a5;have HQ:=aA (And.intro (Q1.fresh G) (And.intro ((Q2 W5.heap.size (by omega)).trans (bO G (by simp) _)) (Q3.trans (fun k a=>G.block k (Q1.lb k a).2.1 (by simp)))));clear Q1 Q2 Q3 hv d7 hi a hf G c9 c8;gi_wp2
  refine⟨trivial,?_⟩;refine(Je a1 (IV.2 a5)).mono ?_
  clear a5;rintro e X3 ⟨bg,vb,rfl,d8,ca,am,U⟩;rw[← al]at d8 am U;have A7:=HQ.out.1.fresh U;have aw:=HQ.out.2.1.trans (bO U (by simp) W5.heap.size);have cb:KpB L W X3:=HQ.out.2.2.trans (fun k a=>U.block k (HQ.out.1.lb k a).2.1 (by simp));have d9:X3.heap[a1]?=some (.loop c7):=aw.same a1 _ hl hr rfl;obtain⟨L2,an⟩:∃L2,L2=0::(va.ownBlock.toList++vb.ownBlock.toList):=⟨_,rfl⟩;have ax:∀k∈L,k∈L2:=by
   intro k a;rw[c1.out]at a;rw[an];rcases sT.1 a with rfl|a
   ·exact Bx
   ·exact C1 _ (IK.2 (.inl a))
  have bh:∀b∈L2,b ∉ F3∧b<X3.heap.size∧b≠j∧∀n,n<128→(m n).ownBlock≠some b:=by
   intro b c;by_cases ay:b∈L
   ·exact A7.lb b ay
   ·have da:vb.ownBlock=some b:=by
     rw[an]at c;rw[c1.out]at ay;rcases sT.1 c with rfl|c
     ·exact absurd Bx ay
     ·rcases IK.1 c with c|c
      ·exact absurd (C1 _ c) ay
      ·simpa using c
    have h8:=am.lt da;refine⟨HQ.out.1.gg h8.1,h8.2,fun e=>?_,fun n hn e=>?_⟩
    ·have:=HQ.out.1.mp.lt;omega
    ·have:=((HQ.out.1.st n hn).lt e).2;omega
  have A8:=A7.il bh;have cd:∀b∈L2,b<X3.heap.size:=fun b c=>(bh b c).2.1
  have db:=bZ 17 bg X2.heap.size vb (l x) L2 X3 ca am (TT.out _ A7.kb) (fun g t=>by rw[an];simp[t]) (by rw[an];simp);have ce:∀y∈l x,y<N:=fun y hy=>b3 x y hx hy
  have dW:(l x).length≤128:=by have:=am.len ce;omega
  have cf:j<X3.heap.size:=A7.mp.lt;have dc:=A7.kb.size;obtain⟨bi,bj⟩:∃bi,bi=(F,#[.int .u64 (x:Int)],TN)::a0:=⟨_,rfl⟩;rw[← bj]at A8;have az:=aA bj;have bk:=aA (And.intro A8 (And.intro aw cb));clear bj;have e0:pre.length<JG.length:=d5;have dd:W.heap.size≤X3.heap.size:=aw.size;clear A7 A8 aw cb HQ ca am U bh al an;gi_wp2
  refine wpIn_rangeFunc_ownN (α:=Mem (l x)) (l₀:=a1) (r₀:=c7) rfl d9 (by omega) (gf:=127) (lb:=#[.pointer (some ⟨bg,0,none⟩)]) rfl trivial (enters_of Tryz.func127 (by kernel_rfl) rfl) (db.inRound a1) (fun o h2=>o.trans h2) (fZ cd) (Below.refl _ _) (fun _=>rfl)
   (fun O X=>IA M I w s L L2 j l bi F3 (aR pre) pre.length x (aR O) O.length W5.heap.size W X)
   (fun _ _ _=>False) ?hI2 (fun _ _ _ _ _ hs _ _=>hs) ⟨cnt,m,by have:=bk.out.1;rw[E7 l _ 0 x]at this;exact this,bk.out.2.1,bk.out.2.2,by simpa using pc⟩
   (fun y cg _=>cg={ tmps:=#[.int .u64 (C:Int),.func (.func f) P Q,lZ,.pointer (some ⟨w.heap.size,0,none⟩),.pointer (some ⟨w.heap.size+1,0,none⟩),.pointer (some ⟨ba,0,none⟩),.pointer (some ⟨j+1,0,none⟩),.pointer (some ⟨F,0,none⟩),.pointer (some ⟨X1.heap.size,0,none⟩),.int .u64 (y.1:Int),lZ,.int .u64 (C:Int),.func (.func f) P Q,.agg #[.slice vo vl vc],.map (some j),.func (.func 127) #[] #[.pointer (some ⟨av,0,none⟩)],.int .u64 (x:Int),.func (.func f) P Q,.int .u64 (x:Int),.agg #[.slice uo ul uc],.func (.func 127) #[] #[.pointer (some ⟨bg,0,none⟩)],.int .u64 (y.1:Int),lZ,lZ,lZ,lZ,lZ,lZ,lZ,lZ,lZ,lZ,lZ],defers:=[] }) (fun _ _ _ _ _ _ hs _ _=>hs) ?assign2 ?body2 ?done2 ?stop2
  case hI2=>rintro O X de bf B t bl;obtain⟨cnt,m,z,c2,c3,c4⟩:=B;refine⟨cnt,m,z.own dc cf t bl,ownFrom_keepsFrom (w₀:=W) (B':=X3.heap.size) dd O X de bf c2 t bl,fun k a=>?_,c4⟩;rw[← c3 k a];refine(aS t).block k (z.lb k (ax k a)).2.1 (fun i=>?_);have h8:=(bl k (by simpa using i)).1;have r:=cd k (ax k a);omega
  case assign2=>
   rintro l2 O y X d4 hi hK;dsimp only[jO,Array.zip,Array.foldl];gi_wp2
   exact hK _ _ (KeepsFrom.refl _ _) (KpB.refl _ _) hi rfl
  case body2=>
   rintro l2 O ⟨y,ch⟩ cg X _ _ B rfl df;obtain⟨cnt,m,z,c2,c3,c4⟩:=B;have hy:=ce y ch;have a7:y<128:=by omega
   have e1:O.length<(l x).length:=df;have ci:aR (O++[(⟨y,ch⟩:Mem (l x))])=aR O++[y]:=by unfold aR;rw[Jp];rfl
   have cm:=z.cell (b:=j+1) (v:=.map (some j)) (T:=TMp) (by rw[az.out,a6.out];simp);have cj:=z.mp.look a7;obtain⟨eo,el,ec,em⟩:=(z.st y a7).form;have G:Kb [] X (X.alloc (.cells #[m y] aL)):=(Kb.refl [] X).alloc _;have cA:=z.fresh G;have ck:=cA.cell (b:=F) (v:=.int .u64 (x:Int)) (T:=TN) (by rw[az.out];simp);have bm:=gS w.heap.size X.heap.size 0 #[m y] aL (m y) (bkS l (aR pre) x (aR O) y) x (X.alloc (.cells #[m y] aL)) cA.kb.size (by decide) (aD _ _) rfl (cA.st y a7) (by omega);have dg:cnt<100000:=by have:pre.length*128≤128*128:=Nat.mul_le_mul_right 128 (by omega);omega
   rw[em]at cj bm ck;have HC:=aA (And.intro z (And.intro c2 (And.intro c3 c4)));have HE:=aA (And.intro em ci);clear z c2 c3 c4 cA G em ci;gi_wp2
   refine⟨trivial,?_⟩;refine(Je l2 (Je a1 (IV.2 bm))).mono ?_
   clear bm;rintro e Y1 ⟨rfl,v3,bn,af⟩;rw[← HE.out.1]at af;obtain⟨go,gl,gc,dh⟩:=bn.form;have cl:=HC.out.1.mid a7 af;obtain⟨Y2,di,ag,cn⟩:=cl.upd a7 dg v3;obtain⟨d1,d2,d3⟩:=HC.out.1.step a7 bn af ag cn;have aV:=HC.out.1.bx (j+1,#[.map (some j)],TMp) (by rw[az.out,a6.out];simp);have co:Y1.heap[j+1]?=some (.cells #[.map (some j)] TMp (0,0)):=by
    refine af.kb.heap (aF aV.1 _) (fun i=>?_);rcases sT.1 i with e9|i
    ·have:=aB aV.1;omega
    ·simp at i;exact(HC.out.1.st y a7).ne aV.1 (by dsimp only;decide) i
   have e2:Y1.cell? ⟨j+1,0,none⟩=some (.map (some j)):=by rw[aC co];rfl
   have dj:Y1.cell? ⟨X.heap.size,0,none⟩=some v3:=by rw[aC af.blk];rfl
   have HD:=aA (And.intro d1 (And.intro d2 d3));rw[dh]at di dj;clear d1 d2 d3 bn af ag cn cl aV co cj cm ck;gi_wp2
   refine⟨HD.out.2.1 _ cf,HD.out.2.2,⟨cnt+1,(fun k=>if k=y then v3 else m k),?_,HC.out.2.1.trans (HD.out.2.1 _ bF),HC.out.2.2.1.trans (fun k a=>HD.out.2.2 k (ax k a)),?_⟩⟩
   ·rw[HE.out.2,← Gx];exact HD.out.1
   ·rw[A4];have:=HC.out.2.2.2;simp;omega
  case done2=>
   rintro xs X ao B;obtain⟨cnt,m,z,c2,c3,c4⟩:=B;have e3:xs.length=(l x).length:=by have:=congrArg List.length ao;rwa [List.length_map]at this
   have dk:aR (pre++[(⟨x,c6⟩:Mem JG)])=aR pre++[x]:=by unfold aR;rw[Jp];rfl
   have b0:aR xs=l x:=ao;rw[b0,Dy l _ x 0,← dk]at z;have c5:=(z.il (L':=L) (fun k a=>z.lb k (ax k a))).iu (bxs':=a0) (fun q S=>by rw[az.out];exact C1 _ S);have HF:=aA (And.intro c2 (And.intro c3 (And.intro c5 c4)));clear z c2 c3 c4 c5;gi_wp2
   refine⟨HF.out.1,HF.out.2.1,⟨F3,cnt,m,HF.out.2.2.1,?_⟩⟩;rw[A4];have:=HF.out.2.2.2;simp;omega
  case stop2=>rintro cc O X _ hF;exact hF.elim
 case done=>
  rintro D xs W hD ao B hK;obtain⟨h,cnt,m,d,pc⟩:=B;have b0:aR xs=JG:=ao;have cp:bkS l JG 0 []=mD JG l:=by
   funext n
   exact Gy l JG 0 n
  rw[b0,cp]at d;obtain⟨u,bo⟩:∃u,u=h++(j::(a0.map (·.1)++(IQ 128).filterMap (fun n=>(m n).ownBlock))):=⟨_,rfl⟩;have hI2:BkI I w.heap.size j cnt m (mD JG l) a0 h W u:=⟨⟨d.inv,fun q S=>(d.bx q S).1,d.mp,d.st⟩,bo⟩;have ag:∀b,b∈u↔b∈h∨b=j∨(∃q∈a0,q.1=b)∨∃n,n<128∧(m n).ownBlock=some b:=by intro b;rw[bo];exact qM
  have bp:∀b∈u,b∈s∨w.heap.size≤b:=by
   intro b c;rcases(ag b).1 c with o|o|⟨q,S,o⟩|⟨n,hn,o⟩
   ·exact d.ft b o
   ·exact .inr (by rw[o];exact d.mo.2)
   ·exact .inr (by rw[← o];exact(d.bx q S).2.2.1)
   ·exact .inr ((d.st n hn).lt o).1
  have cq:D ∉ u:=by
   intro c;rcases(ag D).1 c with o|o|⟨q,S,o⟩|⟨n,hn,o⟩
   ·exact d.nF hK rfl (by omega) o
   ·omega
   ·have:=(d.bx q S).1;rw[o,hK]at this;cases this
   ·obtain⟨cs,K⟩:=(d.st n hn).block o;rw[hK]at K;cases K
  have e5:=d.kb.size;have cr:=sK 160 #[] #[.pointer (some ⟨j+1,0,none⟩)] N (mD JG l) (Hg (M2:=W.heap.size) A d.mp.lt (by omega)) (Hh A hN (by rw[a6.out];simp)) (enters_of Tryz.func160 (by kernel_rfl) rfl)
   (fun x y _ hy=>by
    have ct:=eL.1 hy;simp only[Bool.and_eq_true,List.contains_iff_mem]at ct;exact b6 y ct.2.1) hN k C R W u hI2 (TT.out W d.kb) (by omega) (fun i=>by
    rcases bp _ i with o|o
    ·exact ap o
    ·omega) (gO _) b5 cv
  have HP:=aA (And.intro d.kb (And.intro d.ft (And.intro (d.bx (w.heap.size+1,#[.slice none 0 0],aL) (by rw[a6.out];simp)).2.1 cq)));have dl:=aA bp;have e6:=d.cell (b:=j+1) (v:=.map (some j)) (T:=TMp) (by rw[a6.out];simp);clear d hI2 ag bo bp cq cp b0 ao;gi_wp2
  refine⟨trivial,?_⟩;refine(IV.2 cr).mono ?_
  clear cr;rintro e V ⟨v,F',rfl,hv,⟨hP,dm⟩,a,hf,t⟩;obtain⟨go,gl,gc,rfl⟩:=hv.form;have bz:V.heap[w.heap.size+1]?=some (.cells #[.slice none 0 0] aL (0,0)):=hP.bx (w.heap.size+1,#[.slice none 0 0],aL) (by rw[a6.out];simp);have cz:V.cell? ⟨w.heap.size+1,0,none⟩=some (.slice none 0 0):=by rw[aC bz];rfl
  have fz:V.frozen? ⟨w.heap.size+1,0,none⟩=false:=aE bz 0;have ah:V.heap[D]?=some (.deferred (some [])):=a.heap hK HP.out.2.2.2;obtain⟨H,b1⟩:∃H,H=V.setCell ⟨w.heap.size+1,0,none⟩ (.slice go gl gc):=⟨_,rfl⟩;have k8:Kb [w.heap.size+1] V H:=by rw[b1];exact(Kb.refl _ _).setCell (p:=⟨w.heap.size+1,0,none⟩) (.inl (by simp)) _
  have dp:D≠w.heap.size+1:=fun e=>by
   rw[e,bz]at ah;cases ah
  have dq:H.heap[D]?=some (.deferred (some [])):=k8.heap ah (by simp;exact dp);have b8:H.heap[w.heap.size+1]?=some (.cells #[.slice go gl gc] aL (0,0)):=by rw[b1,aI bz];rfl
  have k9:Kb [D] H (H.putObj D (.deferred none)):=aS (grownBy_putObj' _ _ _);have a3:Kb [w.heap.size+1,D] V (H.putObj D (.deferred none)):=(k8.mono (by intro k _ a;simp at a;simp[a])).trans (k9.mono (by intro k _ a;simp at a;simp[a]));have dr:(H.putObj D (.deferred none)).cell? ⟨w.heap.size+1,0,none⟩=some (.slice go gl gc):=by rw[aC (k9.heap b8 (by simp;omega))];rfl
  have HF:Hid (aO (H.putObj D (.deferred none)) w.heap.size (.slice go gl gc) R∧I (H.putObj D (.deferred none)) h∧Kb s w (H.putObj D (.deferred none))∧(∀b∈h,b∈s∨w.heap.size≤b)∧∀g,(Value.slice go gl gc).ownBlock=some g→g ∉ h):=by
   refine aA ⟨?_,?_,?_,HP.out.2.1,fun g ds i=>t g ds (by rw[dm];exact qM.2 (.inl i))⟩
   ·refine(hv.low (by omega)).kb a3 (fun b c e=>?_);obtain⟨cs,K⟩:=hv.block e;rcases sT.1 c with e9|c
    ·rw[e9]at K;exact aP K bz (by decide) rfl
    ·rw[A1.1 c,ah]at K;cases K
   ·refine A.kb V _ h _ hP.inv a3 (fun b c=>?_);rcases sT.1 c with e9|c
    ·rw[e9];exact HP.out.2.2.1
    ·rw[A1.1 c];intro i;rcases(A.lt V h D hP.inv i).2 with r|⟨cs,ae,r⟩
     ·omega
     ·rw[ah]at r;cases r
   ·have ka:=HP.out.1;refine⟨a3.os.trans (a.os.trans ka.os),a3.tape.trans (a.tape.trans ka.tape),a3.output.trans (a.output.trans ka.output),IH ka.size (IH a.size a3.size),fun b2 hj hl=>?_⟩;refine(a3.block b2 (A2 hj (IH ka.size a.size)) (by simp;omega)).trans ((a.block b2 (A2 hj ka.size) (fun i=>?_)).trans (ka.block b2 hj hl));rcases dl.out b2 i with r|r
    ·exact hl r
    ·omega
  have dt:=aA b1;clear hv hP a hf t bz k8 b8 k9 a3 ah b1;gi_wp2
  rw[← dt.out];refine⟨by simp,.inl ⟨_,_,rfl,run_takeDeferred dq,?_⟩⟩;refine⟨.agg #[.slice go gl gc],?_,.slice go gl gc,h,rfl,HF.out⟩;simp[results,Tryz.results122,go_sem,dr]
end
end Go.Proofs.YtiamlbhkiehilaaGreatDoor
