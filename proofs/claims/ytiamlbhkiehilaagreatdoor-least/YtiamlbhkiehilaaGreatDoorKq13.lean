import Derived.Test.YtiamlbhkiehilaaGreatDoorKq12
namespace Go.Proofs.YtiamlbhkiehilaaGreatDoor
section
open Go.RowKit Go.Shelf
attribute [local go_sem] Oper.semAt_some
abbrev TFn:TypeId:=180
set_option maxRecDepth 100000 in
theorem ard1_any(n bm mb cnt:Nat)(m:Nat→Value)(W:World)(hn:n<128)(hb:W.cell? ⟨bm,0,none⟩=some (.map (some mb)))(hm:MapAt W mb cnt m)(hbl:bm<W.heap.size)(hf:∃ao l cap,m n=.slice ao l cap) :
  Calls Tryz.prog 160 #[.int .u64 (n:Int),.pointer (some ⟨bm,0,none⟩)] W fun e W'=>e=.returned (.agg #[m n])∧Kb [] W W':=by
 obtain⟨ao,l,cap,ev⟩:=hf;obtain⟨W1,hW1⟩:∃W1,W1=W.alloc (.cells #[.slice none 0 0] TSet):=⟨_,rfl⟩;have k1:Kb [] W W1:=by rw[hW1];exact(Kb.refl [] W).alloc _
 have b1:W1.heap[W.heap.size]?=some (.cells #[.slice none 0 0] TSet (0,0)):=by rw[hW1];exact heap_new _ _
 have hl:=(hm.kb k1 (by simp)).look hn;have hb1:W1.cell? ⟨bm,0,none⟩=some (.map (some mb)):=by rw[k1.cell (p:=⟨bm,0,none⟩) hbl (by simp)];exact hb
 have c1:W1.cell? ⟨W.heap.size,0,none⟩=some (.slice none 0 0):=by rw[cell_at b1];rfl
 have f1:W1.frozen? ⟨W.heap.size,0,none⟩=false:=frozen_at b1 0;have hcell:(W.alloc (.cells #[.slice ao l cap] TSet)).cell? ⟨W.heap.size,0,none⟩=some (.slice ao l cap):=by
  rw[cell_at (heap_new _ _)];rfl
 rw[ev]at hl ⊢;rw[hW1]at hl hb1 c1 f1;clear hm k1 b1;go_enter Tryz.func160,Tryz.ntmps160
 go_wp2;refine bodyPost_ret (v:=.agg #[.slice ao l cap]) (by simp[results,Tryz.results160,go_sem,hcell]) rfl ?_
 exact⟨rfl,(Kb.refl [] W).alloc _⟩
structure BkP(I:World→List Nat→Prop)(B0 mb cnt:Nat)(m:Nat→Value)(bk:Nat→List Nat)(bxs:List (Nat × Array Value × TypeId))(F1:List Nat)(W:World):Prop where
 inv:I W F1
 bx:∀q∈bxs,W.heap[q.1]?=some (.cells q.2.1 q.2.2 (0,0))
 mp:MapAt W mb cnt m
 st:∀n,n<128→SetV W B0 (m n) (bk n)
def BkI(I:World→List Nat→Prop)(B0 mb cnt:Nat)(m:Nat→Value)(bk:Nat→List Nat)(bxs:List (Nat × Array Value × TypeId))(F1:List Nat)(W:World)(F:List Nat):Prop:=
 BkP I B0 mb cnt m bk bxs F1 W∧F=F1++(mb::(bxs.map (·.1)++(List.range 128).filterMap (fun n=>(m n).ownBlock)))
theorem mem_bkI{mb:Nat}{m:Nat→Value}{bxs:List (Nat × Array Value × TypeId)}{F1:List Nat}{b:Nat}:b∈F1++(mb::(bxs.map (·.1)++(List.range 128).filterMap (fun n=>(m n).ownBlock)))↔b∈F1∨b=mb∨(∃q∈bxs,q.1=b)∨∃n,n<128∧(m n).ownBlock=some b:=by
 simp only[List.mem_append,List.mem_cons,List.mem_map,List.mem_filterMap,List.mem_range]
theorem bkI_nx{M M2:Nat}{I:World→List Nat→Prop}{B0 mb cnt:Nat}{m:Nat→Value}{bk:Nat→List Nat}{bxs:List (Nat × Array Value × TypeId)}{F1:List Nat}(hnx:NxI M I)(hmb:mb<M2)(hM:M≤M2):NxI M2 (BkI I B0 mb cnt m bk bxs F1):=by
 refine⟨?_,?_,?_⟩
 ·rintro W F b ⟨h,rfl⟩ hb;rcases mem_bkI.1 hb with h1|h1|⟨q,hq,h1⟩|⟨n,hn,h1⟩
  ·obtain⟨a1,a2⟩:=hnx.lt W F1 b h.inv h1;refine⟨a1,?_⟩;rcases a2 with a2|a2
   ·exact .inl (by omega)
   ·exact .inr a2
  ·rw[h1];exact⟨h.mp.lt,.inl hmb⟩
  ·rw[← h1];exact⟨lt_of_heap (h.bx q hq),.inr ⟨_,_,h.bx q hq⟩⟩
  ·obtain⟨cs,hc⟩:=(h.st n hn).block h1;exact⟨lt_of_heap hc,.inr ⟨_,_,hc⟩⟩
 ·rintro W W' F L ⟨h,rfl⟩ hk hL;have hnot:∀b∈L,b ∉ F1∧b≠mb∧(∀q∈bxs,q.1≠b)∧∀n,n<128→(m n).ownBlock≠some b:=by
   intro b hb;have h9:=hL b hb;rw[mem_bkI]at h9;exact⟨fun e=>h9 (.inl e),fun e=>h9 (.inr (.inl e)),fun q hq e=>h9 (.inr (.inr (.inl ⟨q,hq,e⟩))),fun n hn e=>h9 (.inr (.inr (.inr ⟨n,hn,e⟩)))⟩
  exact⟨⟨hnx.kb W W' F1 L h.inv hk (fun b hb=>(hnot b hb).1),fun q hq=>hk.heap (h.bx q hq) (fun hm=>(hnot _ hm).2.2.1 q hq rfl),h.mp.kb hk (fun hm=>(hnot _ hm).2.1 rfl),fun n hn=>(h.st n hn).kb hk (fun g hg=>(hnot g hg).2.2.2 n hn)⟩,rfl⟩
 ·rintro W F F' ⟨h,rfl⟩ ⟨h',rfl⟩;rfl
theorem bkI_ok{M:Nat}{I:World→List Nat→Prop}{B0 mb cnt bm:Nat}{m:Nat→Value}{bk:Nat→List Nat}{bxs:List (Nat × Array Value × TypeId)}{F1:List Nat}(hnx:NxI M I){N:Nat}(hN:N≤128)(hb:(bm,#[.map (some mb)],TMp)∈bxs):NxOK (BkI I B0 mb cnt m bk bxs F1) 160 #[] #[.pointer (some ⟨bm,0,none⟩)] N bk:=by
 rintro W F n ⟨h,rfl⟩ _ hn;have hbx:=h.bx _ hb;have hs:=h.st n (by omega);refine(ard1_any n bm mb cnt m W (by omega) (by rw[cell_at hbx];rfl) h.mp (lt_of_heap hbx) hs.form).mono ?_
 rintro e W' ⟨rfl,hk⟩;refine⟨m n,_,rfl,?_,fun g hg=>.inl (mem_bkI.2 (.inr (.inr (.inr ⟨n,by omega,hg⟩)))),⟨⟨hnx.kb W W' F1 [] h.inv hk (by simp),fun q hq=>hk.heap (h.bx q hq) (by simp),h.mp.kb hk (by simp),fun n hn=>(h.st n hn).kb hk (by simp)⟩,rfl⟩,hk.mono (by simp),fun b hb=>.inl hb⟩;exact(hs.kb hk (by simp)).low (Nat.zero_le _)
def valsM{T:List Nat}(l:List (Mem T)):List Nat:=l.map (·.1)
def ArdO(M:Nat)(I:World→List Nat→Prop)(w:World)(F0 L:List Nat)(mb:Nat)(nx:Nat→List Nat)(bxs:List (Nat × Array Value × TypeId))(pre:List Nat)(c:Nat)(W:World):Prop:=
 ∃F1 cnt m,AS M I w F0 L mb cnt m (bkS nx pre 0 []) bxs F1 W∧cnt≤c*128
def ArdN(M:Nat)(I:World→List Nat→Prop)(w:World)(F0 L L2:List Nat)(mb:Nat)(nx:Nat→List Nat)(bxs:List (Nat × Array Value × TypeId))(F3 pre:List Nat)(c x:Nat)(pre2:List Nat)(c2 D:Nat)(W X:World):Prop:=
 ∃cnt m,AS M I w F0 L2 mb cnt m (bkS nx pre x pre2) bxs F3 X∧KeepsFrom D W X∧KpB L W X∧cnt≤c*128+c2
set_option maxRecDepth 100000 in
set_option maxHeartbeats 16000000 in
theorem around_any{M:Nat}{I:World→List Nat→Prop}(f:Nat)(fi ca:Array Value)(N:Nat)(nx:Nat→List Nat)(hnx:NxI M I)(hok:NxOK I f fi ca N nx)(hF:∀args w,(callFunc f args).run Tryz.prog w=.ok (.enter f args) w)(hbd:∀x y,x<N→y∈nx x→y<N)(hN:N≤128)(k st:Nat)(R:List Nat)(w:World)(F0:List Nat)(hI:I w F0)(hT:TabAt w)(hTl:0<w.heap.size)(hTF:0 ∉ F0)(hMw:M≤w.heap.size)(hst:st<N)(hr:around k st nx=some R) :
  Calls Tryz.prog 122 #[.int .u64 (st:Int),.func (.func f) fi ca] w fun e w'=>∃v F',e=.returned (.agg #[v])∧SetV w' w.heap.size v R∧I w' F'∧Kb F0 w w'∧(∀b∈F',b∈F0∨w.heap.size≤b)∧∀g,v.ownBlock=some g→g ∉ F':=by
 unfold around at hr;obtain⟨ahead,hra,hrb⟩:∃ahead,reached k st nx=some ahead∧reached k st (backOf ahead nx)=some R:=by
  cases e:reached k st nx with
  |none=>rw[e]at hr;cases hr
  |some ahead=>rw[e]at hr;exact⟨ahead,rfl,hr⟩
 have hab:∀x∈ahead,x<N:=reached_inv (P:=fun x=>x<N) hra hst hbd;have TT:Hid (∀W,Kb F0 w W→TabAt W):=hide (fun W hk=>hT.kb hk hTF);have hmf:∀(fn:Fn) (first cap:Array Value) (w:World),(Instr.makeFunc fn first cap).run Tryz.prog w=.ok (.func fn first cap) w:=fun _ _ _ _=>rfl
 have hmm:=@run_makeMap Tryz.prog;obtain⟨fv,hfv⟩:∃fv,fv=Value.func (.func f) fi ca:=⟨_,rfl⟩;obtain⟨W0,hW0⟩:∃W0,W0=(w.alloc (.cells #[fv] TFn)).alloc (.cells #[.slice none 0 0] TSet):=⟨_,rfl⟩;have k0:Kb [] w W0:=by rw[hW0];exact((Kb.refl [] w).alloc _).alloc _
 have z0:W0.heap.size=w.heap.size+2:=by rw[hW0];simp
 have y0:W0.heap[w.heap.size]?=some (.cells #[fv] TFn (0,0)):=by rw[hW0];exact heap_old (heap_new _ _) _
 have f0:W0.heap[w.heap.size+1]?=some (.cells #[.slice none 0 0] TSet (0,0)):=by
  rw[hW0];have:=heap_new (w.alloc (.cells #[fv] TFn)) (.cells #[.slice none 0 0] TSet);rw[World.size_alloc]at this;exact this
 have cy0:W0.cell? ⟨w.heap.size,0,none⟩=some (.func (.func f) fi ca):=by rw[cell_at y0,hfv];rfl
 have HR1:=reached_any f fi ca N nx hnx hok hF hbd hN k st ahead W0 F0 (hnx.kb w W0 F0 [] hI k0 (by simp)) (hT.kb k0 (by simp)) (by omega) hTF (by omega) hst hra;have hlF:∀b∈F0,b<w.heap.size:=fun b hb=>(hnx.lt w F0 b hI hb).1
 refine(callsIn_wide (n:=20)).1 ?_
 refine callsIn_of_wp_marks Tryz.func122 rfl trivial ?_ rfl;simp only[Tryz.ntmps122,List.size_toArray,List.length_cons,List.length_nil,Nat.reduceAdd,Nat.reduceSub,Array.replicate_succ,Array.replicate_zero,List.push_toArray,List.append_toArray,List.nil_append,List.cons_append];rw[hW0,hfv]at HR1 cy0;gi_wp2
 refine⟨trivial,?_⟩;refine(callsIn_wide.2 HR1).mono ?_
 clear HR1;rintro e W1 ⟨v1,F1,rfl,hv1,hi1,hk1,hf1,hg1⟩;rw[← hfv,← hW0]at hv1 hk1 hf1;clear cy0;obtain⟨vo,vl,vc,rfl⟩:=hv1.form;obtain⟨W2,hW2⟩:∃W2,W2=W1.alloc (.cells #[.slice vo vl vc] TSet):=⟨_,rfl⟩;obtain⟨W3,hW3⟩:∃W3,W3=W2.alloc (.map #[] 0):=⟨_,rfl⟩;obtain⟨W4,hW4⟩:∃W4,W4=W3.alloc (.cells #[.map (some (W1.heap.size+1))] TMp):=⟨_,rfl⟩;have k2:Kb [] W1 W2:=by rw[hW2];exact(Kb.refl [] W1).alloc _
 have k3:Kb [] W2 W3:=by rw[hW3];exact(Kb.refl [] W2).alloc _
 have k4:Kb [] W3 W4:=by rw[hW4];exact(Kb.refl [] W3).alloc _
 have s2:W2.heap.size=W1.heap.size+1:=by rw[hW2];simp
 have s3:W3.heap.size=W1.heap.size+1+1:=by rw[hW3,World.size_alloc,s2]
 have k14:Kb [] W1 W4:=(k2.trans k3).trans k4;have a2:W2.heap[W1.heap.size]?=some (.cells #[.slice vo vl vc] TSet (0,0)):=by rw[hW2];exact heap_new _ _
 have b4:W4.heap[W1.heap.size+1+1]?=some (.cells #[.map (some (W1.heap.size+1))] TMp (0,0)):=by rw[hW4,← s3];exact heap_new _ _
 have m3:MapAt W3 (W1.heap.size+1) 0 (fun _=>.slice none 0 0):=by rw[hW3,← s2];exact MapAt.made W2
 have hsz1:=hk1.size;have A0:AS M I w F0 [] (W1.heap.size+1) 0 (fun _=>.slice none 0 0) (bkS nx [] 0 []) [(W1.heap.size+1+1,#[.map (some (W1.heap.size+1))],TMp),(w.heap.size,#[fv],TFn),(w.heap.size+1,#[.slice none 0 0],TSet)] F1 W4:=by
  have hnF:∀b,W1.heap.size≤b→b ∉ F1:=fun b hb hm=>by have:=(hnx.lt W1 F1 b hi1 hm).1;omega
  have hn2:∀b,b<W0.heap.size→w.heap.size≤b→b ∉ F1:=fun b hb hl hm=>by
   rcases hf1 b hm with h9|h9
   ·have:=hlF b h9;omega
   ·omega
  have kw:Kb F0 w W4:=(k0.mono (by simp)).trans (hk1.trans (k14.mono (by simp)));refine⟨hnx,hMw,hnx.kb W1 W4 F1 [] hi1 k14 (by simp),kw,fun b hb=>?_,fun q hq=>?_,m3.kb k4 (by simp),⟨hnF _ (by omega),by omega⟩,fun n _=>?_,fun n g _ e=>(by cases e),fun n n' _ _ _ g e=>(by cases e),by simp⟩
  ·rcases hf1 b hb with h9|h9
   ·exact .inl h9
   ·exact .inr (by omega)
  ·simp only[List.mem_cons,List.not_mem_nil,or_false]at hq;rcases hq with rfl|rfl|rfl
   ·exact⟨b4,hnF _ (by dsimp only;omega),by dsimp only;omega,by dsimp only;decide⟩
   ·exact⟨k14.heap (hk1.heap y0 (fun hm=>by have:=hlF _ hm;omega)) (by simp),hn2 _ (by dsimp only;omega) (Nat.le_refl _),Nat.le_refl _,by dsimp only;decide⟩
   ·exact⟨k14.heap (hk1.heap f0 (fun hm=>by have:=hlF _ hm;omega)) (by simp),hn2 _ (by dsimp only;omega) (by dsimp only;omega),by dsimp only;omega,by dsimp only;decide⟩
  ·rw[bkS_start];exact SetV.nil _ _
 have HAl:=all_any W0.heap.size W1.heap.size 0 #[.slice vo vl vc] TSet (.slice vo vl vc) ahead W4 (k4.heap (k3.heap a2 (by simp)) (by simp)) rfl (hv1.kb k14 (by simp));have HA0:=hide A0;have HWs:=hide (And.intro hW2 (And.intro hW3 hW4));rw[hW4,hW3,hW2]at HAl;clear A0 m3 b4 a2 k2 k3 k4 k14 hv1 hi1 hk1 hf1 hg1 y0 f0 k0 hW0 hW2 hW3 hW4;gi_wp2
 refine⟨trivial,?_⟩;refine(callsIn_wide.2 HAl).mono ?_
 clear HAl;rintro e W5 ⟨bwa,va,rfl,hbwa,hbwac,hva,k5⟩;rw[← HWs.out.1,← HWs.out.2.1,← HWs.out.2.2]at hbwa hva k5;have s4:W4.heap.size=W1.heap.size+3:=by rw[HWs.out.2.2,World.size_alloc,s3]
 clear HWs;obtain⟨mb,hmb⟩:∃mb,mb=W1.heap.size+1:=⟨_,rfl⟩;obtain⟨ba,hba⟩:∃ba,ba=W1.heap.size:=⟨_,rfl⟩;rw[← hmb]at HA0;have A5:=HA0.out.fresh k5;have hs5:=k5.size;gi_wp2
 rw[← hmb,← hba];obtain⟨L,hL⟩:∃L,L=0::va.ownBlock.toList:=⟨_,rfl⟩;have hLp:∀b∈L,b ∉ F1∧b<W5.heap.size∧b≠mb∧∀n,n<128→(Value.slice none 0 0).ownBlock≠some b:=by
  intro b hb;rw[hL]at hb;rcases List.mem_cons.1 hb with rfl|hb
  ·refine⟨fun hm=>?_,by omega,by omega,fun n _ e=>by cases e⟩;rcases A5.ft _ hm with h9|h9
   ·exact hTF h9
   ·omega
  ·simp at hb;have h8:=hva.lt hb;exact⟨HA0.out.newer h8.1,h8.2,by omega,fun n _ e=>by cases e⟩
 have hLlt:∀b∈L,b<W5.heap.size:=fun b hb=>(hLp b hb).2.1
 have hstO:=all_stops 19 bwa W4.heap.size va ahead L W5 hbwac hva (TT.out _ A5.kb) (fun g hg=>by rw[hL];simp[hg]) (by rw[hL];simp);have A6:=A5.setL hLp;have hmb5:mb<W5.heap.size:=by omega
 have hw5:=A5.kb.size;have HA6:=hide A6;have hvlt:∀g,va.ownBlock=some g→W4.heap.size≤g∧g<W5.heap.size:=fun g hg=>hva.lt hg
 have hahl:ahead.length≤128:=by have:=hva.len hab;omega
 have HLo:=hide hL;clear A5 A6 HA0 hbwac hva k5 hLp hmb hba hL;obtain⟨bxs,hbxs⟩:∃bxs:List (Nat × Array Value × TypeId),bxs=[(mb+1,#[.map (some mb)],TMp),(w.heap.size,#[fv],TFn),(w.heap.size+1,#[.slice none 0 0],TSet)]:=⟨_,rfl⟩;rw[← hbxs]at HA6;have HBo:=hide hbxs;have HFV:=hide hfv;clear hbxs hfv;refine wpIn_rangeFunc_ownH (α:=Mem ahead) (hro:=rfl) (h1:=by omega) (gf:=127) (lb:=#[.pointer (some ⟨bwa,0,none⟩)]) rfl trivial (enters_of Tryz.func127 (by kernel_rfl) rfl) hstO (fun h1 h2=>h1.trans h2) (kpB_b hLlt) (Below.refl _ _) (fun _=>rfl)
  (fun pre W=>ArdO M I w F0 L mb nx bxs (valsM pre) pre.length W)
  (fun _ _ _=>False) ?hI (fun _ _ _ _ _ hs _ _=>hs) ⟨F1,0,_,HA6.out,by simp⟩
  (fun x a' W=>∃Bx F1,I W F1∧Bx ∉ F1∧w.heap.size≤Bx∧W.heap[Bx]?=some (.cells #[.int .u64 (x.1:Int)] TN (0,0))∧a'={ tmps:=#[.int .u64 (st:Int),.func (.func f) fi ca,undef,.pointer (some ⟨w.heap.size,0,none⟩),.pointer (some ⟨w.heap.size+1,0,none⟩),.pointer (some ⟨ba,0,none⟩),.pointer (some ⟨mb+1,0,none⟩),.pointer (some ⟨Bx,0,none⟩),undef,undef,undef,.int .u64 (st:Int),.func (.func f) fi ca,.agg #[.slice vo vl vc],.map (some mb),.func (.func 127) #[] #[.pointer (some ⟨bwa,0,none⟩)],.int .u64 (x.1:Int),undef,undef,undef,undef,undef,undef,undef,undef,undef,undef,undef,undef,undef,undef,undef,undef],defers:=[] }) ?hAx ?assign ?body ?done ?stop
 case hI=>
  rintro pre W W' row hh hg hr;obtain⟨F1,cnt,m,p1,pc⟩:=hh;exact⟨F1,cnt,m,p1.own hw5 hmb5 hg hr,pc⟩
 case hAx=>
  rintro x a' _ W W' row ⟨Bx,F2,q1,q2,q3,q4,q5⟩ hg hr;have hk:=kb_grown hg;refine⟨Bx,F2,hnx.kb W W' F2 _ q1 hk (fun b hb hm=>?_),q2,q3,hk.heap q4 (fun hm=>?_),q5⟩
  ·obtain⟨h1,o,ho,hc⟩:=hr b (by simpa using hb);rcases(hnx.lt W F2 b q1 hm).2 with h9|⟨cs,T,h9⟩
   ·omega
   ·rw[ho]at h9;cases h9;cases hc
  ·obtain⟨_,o,ho,hc⟩:=hr Bx (by simpa using hm);rw[q4]at ho;cases ho;cases hc
 case assign=>
  rintro l pre x W K hh hK;obtain⟨F1,cnt,m,p1,pc⟩:=hh;have kA:Kb [] W (W.alloc (.cells #[.int .u64 (x.1:Int)] TN)):=(Kb.refl [] W).alloc _;have p2:=p1.fresh kA;dsimp only[encN,Array.zip,Array.foldl];gi_wp2
  exact hK _ _ (kb_keepsFrom kA (by simp) _) (fun k hk=>kA.block k (p1.lb k hk).2.1 (by simp)) ⟨F1,cnt,m,p2,pc⟩ ⟨W.heap.size,F1,p2.inv,p1.newer (Nat.le_refl _),p1.kb.size,heap_new _ _,rfl⟩
 case stop=>
  rintro D cc pre X _ _ hF _;exact hF.elim
 case body=>
  rintro l pre ⟨x,hxT⟩ a' W hl ⟨r,hr⟩ hh ⟨Bx,F2,q1,q2,q3,q4,rfl⟩ hlen;obtain⟨F1,cnt,m,p1,pc⟩:=hh;have eF:F2=F1:=hnx.uniq W F2 F1 q1 p1.inv;subst eF;have hx:=hab x hxT;have P1:=p1.addBox q4 q2 q3 (by decide);have cfn:=P1.cell (b:=w.heap.size) (v:=fv) (T:=TFn) (by rw[HBo.out];simp);rw[HFV.out]at cfn;have cB:=P1.cell (b:=Bx) (v:=.int .u64 (x:Int)) (T:=TN) (by simp);have HN:=hok W F2 x p1.inv (TT.out W p1.kb) hx;have HP1:=hide P1;clear p1 P1 q1 q2 q4;gi_wp2
  refine⟨trivial,?_⟩;refine(CallsIn.inRound l (callsIn_wide.2 HN)).mono ?_
  clear HN;rintro e X1 ⟨v,F3,rfl,hv,hvl,hi,hk,hf⟩;obtain⟨Q1,Q2,Q3⟩:=HP1.out.call hi hk hf;obtain⟨uo,ul,uc,rfl⟩:=hv.form;obtain⟨X2,hX2⟩:∃X2,X2=X1.alloc (.cells #[.slice uo ul uc] TSet):=⟨_,rfl⟩;have kA:Kb [] X1 X2:=by rw[hX2];exact(Kb.refl [] X1).alloc _
  have hA2:X2.heap[X1.heap.size]?=some (.cells #[.slice uo ul uc] TSet (0,0)):=by rw[hX2];exact heap_new _ _
  have HAl:=all_any 0 X1.heap.size 0 #[.slice uo ul uc] TSet (.slice uo ul uc) (nx x) X2 hA2 rfl (hv.kb kA (by simp));rw[hX2]at HAl;have HQ:=hide (And.intro (Q1.fresh kA) (And.intro ((Q2 W5.heap.size (by omega)).trans (kb_keepsFrom kA (by simp) _)) (Q3.trans (fun k hk=>kA.block k (Q1.lb k hk).2.1 (by simp)))));clear Q1 Q2 Q3 hv hvl hi hk hf kA hA2 HP1;gi_wp2
  refine⟨trivial,?_⟩;refine(CallsIn.inRound l (callsIn_wide.2 HAl)).mono ?_
  clear HAl;rintro e X3 ⟨bwb,vb,rfl,hbwb,hbwbc,hvb,k3⟩;rw[← hX2]at hbwb hvb k3;have A7:=HQ.out.1.fresh k3;have kf3:=HQ.out.2.1.trans (kb_keepsFrom k3 (by simp) W5.heap.size);have kp3:KpB L W X3:=HQ.out.2.2.trans (fun k hk=>k3.block k (HQ.out.1.lb k hk).2.1 (by simp));have hr3:X3.heap[l]?=some (.loop r):=kf3.same l _ hl hr rfl;obtain⟨L2,hL2⟩:∃L2,L2=0::(va.ownBlock.toList++vb.ownBlock.toList):=⟨_,rfl⟩;have hLL:∀k∈L,k∈L2:=by
   intro k hk;rw[HLo.out]at hk;rw[hL2];rcases List.mem_cons.1 hk with rfl|hk
   ·exact List.mem_cons_self
   ·exact List.mem_cons_of_mem _ (List.mem_append.2 (.inl hk))
  have hLp2:∀b∈L2,b ∉ F3∧b<X3.heap.size∧b≠mb∧∀n,n<128→(m n).ownBlock≠some b:=by
   intro b hb;by_cases hbL:b∈L
   ·exact A7.lb b hbL
   ·have hbv:vb.ownBlock=some b:=by
     rw[hL2]at hb;rw[HLo.out]at hbL;rcases List.mem_cons.1 hb with rfl|hb
     ·exact absurd List.mem_cons_self hbL
     ·rcases List.mem_append.1 hb with hb|hb
      ·exact absurd (List.mem_cons_of_mem _ hb) hbL
      ·simpa using hb
    have h8:=hvb.lt hbv;refine⟨HQ.out.1.newer h8.1,h8.2,fun e=>?_,fun n hn e=>?_⟩
    ·have:=HQ.out.1.mp.lt;omega
    ·have:=((HQ.out.1.st n hn).lt e).2;omega
  have A8:=A7.setL hLp2;have hLlt2:∀b∈L2,b<X3.heap.size:=fun b hb=>(hLp2 b hb).2.1
  have hstI:=all_stops 17 bwb X2.heap.size vb (nx x) L2 X3 hbwbc hvb (TT.out _ A7.kb) (fun g hg=>by rw[hL2];simp[hg]) (by rw[hL2];simp);have hnb:∀y∈nx x,y<N:=fun y hy=>hbd x y hx hy
  have hnl:(nx x).length≤128:=by have:=hvb.len hnb;omega
  have hmb3:mb<X3.heap.size:=A7.mp.lt;have hw3:=A7.kb.size;obtain⟨bxs2,hbxs2⟩:∃bxs2,bxs2=(Bx,#[.int .u64 (x:Int)],TN)::bxs:=⟨_,rfl⟩;rw[← hbxs2]at A8;have HB2:=hide hbxs2;have HA8:=hide (And.intro A8 (And.intro kf3 kp3));clear hbxs2;have hplen:pre.length<ahead.length:=hlen;have hWX:W.heap.size≤X3.heap.size:=kf3.size;clear A7 A8 kf3 kp3 HQ hbwbc hvb k3 hLp2 hX2 hL2;gi_wp2
  refine wpIn_rangeFunc_ownN (α:=Mem (nx x)) (l₀:=l) (r₀:=r) rfl hr3 (by omega) (gf:=127) (lb:=#[.pointer (some ⟨bwb,0,none⟩)]) rfl trivial (enters_of Tryz.func127 (by kernel_rfl) rfl) (hstI.inRound l) (fun h1 h2=>h1.trans h2) (kpB_b hLlt2) (Below.refl _ _) (fun _=>rfl)
   (fun pre2 X=>ArdN M I w F0 L L2 mb nx bxs2 F3 (valsM pre) pre.length x (valsM pre2) pre2.length W5.heap.size W X)
   (fun _ _ _=>False) ?hI2 (fun _ _ _ _ _ hs _ _=>hs) ⟨cnt,m,by have:=HA8.out.1;rw[bkS_next nx _ 0 x]at this;exact this,HA8.out.2.1,HA8.out.2.2,by simpa using pc⟩
   (fun y a'' _=>a''={ tmps:=#[.int .u64 (st:Int),.func (.func f) fi ca,undef,.pointer (some ⟨w.heap.size,0,none⟩),.pointer (some ⟨w.heap.size+1,0,none⟩),.pointer (some ⟨ba,0,none⟩),.pointer (some ⟨mb+1,0,none⟩),.pointer (some ⟨Bx,0,none⟩),.pointer (some ⟨X1.heap.size,0,none⟩),.int .u64 (y.1:Int),undef,.int .u64 (st:Int),.func (.func f) fi ca,.agg #[.slice vo vl vc],.map (some mb),.func (.func 127) #[] #[.pointer (some ⟨bwa,0,none⟩)],.int .u64 (x:Int),.func (.func f) fi ca,.int .u64 (x:Int),.agg #[.slice uo ul uc],.func (.func 127) #[] #[.pointer (some ⟨bwb,0,none⟩)],.int .u64 (y.1:Int),undef,undef,undef,undef,undef,undef,undef,undef,undef,undef,undef],defers:=[] }) (fun _ _ _ _ _ _ hs _ _=>hs) ?assign2 ?body2 ?done2 ?stop2
  case hI2=>
   rintro pre2 X Y row hh hg hr2;obtain⟨cnt,m,c1,c2,c3,c4⟩:=hh;refine⟨cnt,m,c1.own hw3 hmb3 hg hr2,ownFrom_keepsFrom (w₀:=W) (B':=X3.heap.size) hWX pre2 X Y row c2 hg hr2,fun k hk=>?_,c4⟩;rw[← c3 k hk];refine(kb_grown hg).block k (c1.lb k (hLL k hk)).2.1 (fun hm=>?_);have h8:=(hr2 k (by simpa using hm)).1;have h9:=hLlt2 k (hLL k hk);omega
  case assign2=>
   rintro l2 pre2 y X K hi hK;dsimp only[encN,Array.zip,Array.foldl];gi_wp2
   exact hK _ _ (KeepsFrom.refl _ _) (KpB.refl _ _) hi rfl
  case body2=>
   rintro l2 pre2 ⟨y,hyT⟩ a'' X _ _ hh rfl hlen2;obtain⟨cnt,m,c1,c2,c3,c4⟩:=hh;have hy:=hnb y hyT;have hy8:y<128:=by omega
   have hp2:pre2.length<(nx x).length:=hlen2;have hbm:valsM (pre2++[(⟨y,hyT⟩:Mem (nx x))])=valsM pre2++[y]:=by unfold valsM;rw[List.map_append];rfl
   have cm:=c1.cell (b:=mb+1) (v:=.map (some mb)) (T:=TMp) (by rw[HB2.out,HBo.out];simp);have hlk:=c1.mp.look hy8;obtain⟨eo,el,ec,em⟩:=(c1.st y hy8).form;have kA:Kb [] X (X.alloc (.cells #[m y] TSet)):=(Kb.refl [] X).alloc _;have cA:=c1.fresh kA;have cB2:=cA.cell (b:=Bx) (v:=.int .u64 (x:Int)) (T:=TN) (by rw[HB2.out];simp);have HAd:=sadd_any w.heap.size X.heap.size 0 #[m y] TSet (m y) (bkS nx (valsM pre) x (valsM pre2) y) x (X.alloc (.cells #[m y] TSet)) cA.kb.size (by decide) (heap_new _ _) rfl (cA.st y hy8) (by omega);have hcnt:cnt<100000:=by
    have:pre.length*128≤128*128:=Nat.mul_le_mul_right 128 (by omega);omega
   rw[em]at hlk HAd cB2;have HC:=hide (And.intro c1 (And.intro c2 (And.intro c3 c4)));have HE:=hide (And.intro em hbm);clear c1 c2 c3 c4 cA kA em hbm;gi_wp2
   refine⟨trivial,?_⟩;refine(CallsIn.inRound l2 (CallsIn.inRound l (callsIn_wide.2 HAd))).mono ?_
   clear HAd;rintro e Y1 ⟨rfl,v3,hS3,hC3⟩;rw[← HE.out.1]at hC3;obtain⟨go,gl,gc,ev3⟩:=hS3.form;have hmid:=HC.out.1.mid hy8 hC3;obtain⟨Y2,hru,hm2,hk2⟩:=hmid.upd hy8 hcnt v3;obtain⟨d1,d2,d3⟩:=HC.out.1.step hy8 hS3 hC3 hm2 hk2;have hbx1:=HC.out.1.bx (mb+1,#[.map (some mb)],TMp) (by rw[HB2.out,HBo.out];simp);have hbY:Y1.heap[mb+1]?=some (.cells #[.map (some mb)] TMp (0,0)):=by
    refine hC3.kb.heap (heap_old hbx1.1 _) (fun hm=>?_);rcases List.mem_cons.1 hm with e9|hm
    ·have:=lt_of_heap hbx1.1;omega
    ·simp at hm;exact(HC.out.1.st y hy8).ne hbx1.1 (by dsimp only;decide) hm
   have cm1:Y1.cell? ⟨mb+1,0,none⟩=some (.map (some mb)):=by rw[cell_at hbY];rfl
   have cb1:Y1.cell? ⟨X.heap.size,0,none⟩=some v3:=by rw[cell_at hC3.blk];rfl
   have HD:=hide (And.intro d1 (And.intro d2 d3));rw[ev3]at hru cb1;clear d1 d2 d3 hS3 hC3 hm2 hk2 hmid hbx1 hbY hlk cm cB2;gi_wp2
   refine⟨HD.out.2.1 _ hmb3,HD.out.2.2,⟨cnt+1,(fun k=>if k=y then v3 else m k),?_,HC.out.2.1.trans (HD.out.2.1 _ hmb5),HC.out.2.2.1.trans (fun k hk=>HD.out.2.2 k (hLL k hk)),?_⟩⟩
   ·rw[HE.out.2,← bkS_add];exact HD.out.1
   ·rw[List.length_append];have:=HC.out.2.2.2;simp;omega
  case done2=>
   rintro xs X hxs hh;obtain⟨cnt,m,c1,c2,c3,c4⟩:=hh;have hxl:xs.length=(nx x).length:=by
    have:=congrArg List.length hxs;rwa [List.length_map]at this
   have hpm:valsM (pre++[(⟨x,hxT⟩:Mem ahead)])=valsM pre++[x]:=by unfold valsM;rw[List.map_append];rfl
   have hxv:valsM xs=nx x:=hxs;rw[hxv,bkS_close nx _ x 0,← hpm]at c1;have c5:=(c1.setL (L':=L) (fun k hk=>c1.lb k (hLL k hk))).subB (bxs':=bxs) (fun q hq=>by rw[HB2.out];exact List.mem_cons_of_mem _ hq);have HF:=hide (And.intro c2 (And.intro c3 (And.intro c5 c4)));clear c1 c2 c3 c4 c5;gi_wp2
   refine⟨HF.out.1,HF.out.2.1,⟨F3,cnt,m,HF.out.2.2.1,?_⟩⟩;rw[List.length_append];have:=HF.out.2.2.2;simp;omega
  case stop2=>
   rintro cc pre2 X _ hF;exact hF.elim
 case done=>
  rintro D xs W hD hxs hh hK;obtain⟨F1,cnt,m,p1,pc⟩:=hh;have hxv:valsM xs=ahead:=hxs;have ebk:bkS nx ahead 0 []=backOf ahead nx:=by
   funext n
   exact bkS_all nx ahead 0 n
  rw[hxv,ebk]at p1;obtain⟨F2,hF2⟩:∃F2,F2=F1++(mb::(bxs.map (·.1)++(List.range 128).filterMap (fun n=>(m n).ownBlock))):=⟨_,rfl⟩;have hI2:BkI I w.heap.size mb cnt m (backOf ahead nx) bxs F1 W F2:=⟨⟨p1.inv,fun q hq=>(p1.bx q hq).1,p1.mp,p1.st⟩,hF2⟩;have hm2:∀b,b∈F2↔b∈F1∨b=mb∨(∃q∈bxs,q.1=b)∨∃n,n<128∧(m n).ownBlock=some b:=by
   intro b;rw[hF2];exact mem_bkI
  have hlo2:∀b∈F2,b∈F0∨w.heap.size≤b:=by
   intro b hb;rcases(hm2 b).1 hb with h1|h1|⟨q,hq,h1⟩|⟨n,hn,h1⟩
   ·exact p1.ft b h1
   ·exact .inr (by rw[h1];exact p1.mo.2)
   ·exact .inr (by rw[← h1];exact(p1.bx q hq).2.2.1)
   ·exact .inr ((p1.st n hn).lt h1).1
  have hDF:D ∉ F2:=by
   intro hb;rcases(hm2 D).1 hb with h1|h1|⟨q,hq,h1⟩|⟨n,hn,h1⟩
   ·exact p1.nF hK rfl (by omega) h1
   ·omega
   ·have:=(p1.bx q hq).1;rw[h1,hK]at this;cases this
   ·obtain⟨cs,hc⟩:=(p1.st n hn).block h1;rw[hK]at hc;cases hc
  have hWs:=p1.kb.size;have HR2:=reached_any 160 #[] #[.pointer (some ⟨mb+1,0,none⟩)] N (backOf ahead nx) (bkI_nx (M2:=W.heap.size) hnx p1.mp.lt (by omega)) (bkI_ok hnx hN (by rw[HBo.out];simp)) (enters_of Tryz.func160 (by kernel_rfl) rfl)
   (fun x y _ hy=>by
    have hy2:=mem_mkS.1 hy;simp only[Bool.and_eq_true,List.contains_iff_mem]at hy2;exact hab y hy2.2.1) hN k st R W F2 hI2 (TT.out W p1.kb) (by omega) (fun hm=>by
    rcases hlo2 _ hm with h1|h1
    ·exact hTF h1
    ·omega) (Nat.le_refl _) hst hrb
  have HP:=hide (And.intro p1.kb (And.intro p1.ft (And.intro (p1.bx (w.heap.size+1,#[.slice none 0 0],TSet) (by rw[HBo.out];simp)).2.1 hDF)));have HL2:=hide hlo2;have cmp:=p1.cell (b:=mb+1) (v:=.map (some mb)) (T:=TMp) (by rw[HBo.out];simp);clear p1 hI2 hm2 hF2 hlo2 hDF ebk hxv hxs;gi_wp2
  refine⟨trivial,?_⟩;refine(callsIn_wide.2 HR2).mono ?_
  clear HR2;rintro e W7 ⟨v,F',rfl,hv,⟨hP,eF'⟩,hk,hf,hg⟩;obtain⟨go,gl,gc,rfl⟩:=hv.form;have bz:W7.heap[w.heap.size+1]?=some (.cells #[.slice none 0 0] TSet (0,0)):=hP.bx (w.heap.size+1,#[.slice none 0 0],TSet) (by rw[HBo.out];simp);have cz:W7.cell? ⟨w.heap.size+1,0,none⟩=some (.slice none 0 0):=by rw[cell_at bz];rfl
  have fz:W7.frozen? ⟨w.heap.size+1,0,none⟩=false:=frozen_at bz 0;have hK7:W7.heap[D]?=some (.deferred (some [])):=hk.heap hK HP.out.2.2.2;obtain⟨W8,hW8⟩:∃W8,W8=W7.setCell ⟨w.heap.size+1,0,none⟩ (.slice go gl gc):=⟨_,rfl⟩;have k8:Kb [w.heap.size+1] W7 W8:=by rw[hW8];exact(Kb.refl _ _).setCell (p:=⟨w.heap.size+1,0,none⟩) (.inl (by simp)) _
  have hDn:D≠w.heap.size+1:=fun e=>by
   rw[e,bz]at hK7;cases hK7
  have hK8:W8.heap[D]?=some (.deferred (some [])):=k8.heap hK7 (by simp;exact hDn);have b8:W8.heap[w.heap.size+1]?=some (.cells #[.slice go gl gc] TSet (0,0)):=by rw[hW8,heap_set bz];rfl
  have k9:Kb [D] W8 (W8.putObj D (.deferred none)):=kb_grown (grownBy_putObj' _ _ _);have k79:Kb [w.heap.size+1,D] W7 (W8.putObj D (.deferred none)):=(k8.mono (by intro k _ hk;simp at hk;simp[hk])).trans (k9.mono (by intro k _ hk;simp at hk;simp[hk]));have hcell:(W8.putObj D (.deferred none)).cell? ⟨w.heap.size+1,0,none⟩=some (.slice go gl gc):=by
   rw[cell_at (k9.heap b8 (by simp;omega))];rfl
  have HF:Hid (SetV (W8.putObj D (.deferred none)) w.heap.size (.slice go gl gc) R∧I (W8.putObj D (.deferred none)) F1∧Kb F0 w (W8.putObj D (.deferred none))∧(∀b∈F1,b∈F0∨w.heap.size≤b)∧∀g,(Value.slice go gl gc).ownBlock=some g→g ∉ F1):=by
   refine hide ⟨?_,?_,?_,HP.out.2.1,fun g hg2 hm=>hg g hg2 (by rw[eF'];exact mem_bkI.2 (.inl hm))⟩
   ·refine(hv.low (by omega)).kb k79 (fun b hb e=>?_);obtain⟨cs,hc⟩:=hv.block e;rcases List.mem_cons.1 hb with e9|hb
    ·rw[e9]at hc;exact ne_types hc bz (by decide) rfl
    ·rw[List.mem_singleton.1 hb,hK7]at hc;cases hc
   ·refine hnx.kb W7 _ F1 _ hP.inv k79 (fun b hb=>?_);rcases List.mem_cons.1 hb with e9|hb
    ·rw[e9];exact HP.out.2.2.1
    ·rw[List.mem_singleton.1 hb];intro hm;rcases(hnx.lt W7 F1 D hP.inv hm).2 with h9|⟨cs,T,h9⟩
     ·omega
     ·rw[hK7]at h9;cases h9
   ·have ka:=HP.out.1;refine⟨k79.os.trans (hk.os.trans ka.os),k79.tape.trans (hk.tape.trans ka.tape),k79.output.trans (hk.output.trans ka.output),Nat.le_trans ka.size (Nat.le_trans hk.size k79.size),fun j hj hl=>?_⟩;refine(k79.block j (Nat.lt_of_lt_of_le hj (Nat.le_trans ka.size hk.size)) (by simp;omega)).trans ((hk.block j (Nat.lt_of_lt_of_le hj ka.size) (fun hm=>?_)).trans (ka.block j hj hl));rcases HL2.out j hm with h9|h9
    ·exact hl h9
    ·omega
  have HW8:=hide hW8;clear hv hP hk hf hg bz k8 b8 k9 k79 hK7 hW8;gi_wp2
  rw[← HW8.out];refine⟨by simp,.inl ⟨_,_,rfl,run_takeDeferred hK8,?_⟩⟩;refine⟨.agg #[.slice go gl gc],?_,.slice go gl gc,F1,rfl,HF.out⟩;simp[results,Tryz.results122,go_sem,hcell]
end
end Go.Proofs.YtiamlbhkiehilaaGreatDoor
