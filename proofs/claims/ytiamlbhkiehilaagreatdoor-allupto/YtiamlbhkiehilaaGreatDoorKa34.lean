import Derived.Test.YtiamlbhkiehilaaGreatDoorKa33
open Go renaming World→vF,Value→sA,KeepsFrom→Ju,callsIn_wide→IV,undef→lZ,wpIn_rangeFunc_ownG→OT,wpAnyIn_take→IX,wpAnyIn_ready→IP
open Go.CallsIn renaming inRound→Je
open Go.IntKind renaming u64→Kc,wrap_u64→JJ
open List renaming mem_cons_self→Bx,mem_cons_of_mem→C1,replicate→A3,mem_cons→sT,map_append→Jp,foldl_append→JE
open Nat renaming le_refl→gO,le_trans→IH
namespace Go.Proofs.YtiamlbhkiehilaaGreatDoor
section
open Go.RowKit Go.Shelf
attribute [local go_sem] Oper.semAt_some
variable {B:Nat} {c:Way} {n:Nat} {s:St}
theorem PaI.flag{w:vF}{G:GV}{d:Nat}{L:List Nat}{a:List (Nat × Array sA × TypeId)}{i:List (sA × List Nat × Nat)}{j:List Nat}{W:vF}{l:GV}{pv:List sA}{ps:List (List Nat)}{b:Nat}{f:Bool}
  (h:PaI w B c n G s d L ((b,#[.bool f],4)::a) i j W l pv ps) (r:w.heap.size≤b) (t:b ∉ L) (u:∀q∈a,q.1≠b) (g:Bool) :
  PaI w B c n G s d L ((b,#[.bool g],4)::a) i j (W.setCell ⟨b,0,none⟩ (.bool g)) l pv ps∧(∀D,Ju D W (W.setCell ⟨b,0,none⟩ (.bool g)))∧KpB L W (W.setCell ⟨b,0,none⟩ (.bool g)):=by
 obtain⟨e,m⟩:=h.li.bx (b,#[.bool f],4) Bx;have o:b ∉ pft d pv:=fun y=>h.db b y _ Bx rfl
 have z:Kb [b] W (W.setCell ⟨b,0,none⟩ (.bool g)):=(Kb.refl _ _).setCell (p:=⟨b,0,none⟩) (.inl (by simp)) _;obtain⟨A,C,E⟩:=(h.iu (bxs':=a) (fun k F=>C1 _ F)).side z (fun x H=>by
  rw[List.mem_singleton.1 H];exact⟨r,m,o,t,u,fun q I=>(h.li.vt q I).1.ne e (by dsimp only;decide),_,_,e⟩)
 exact⟨A.fk (by rw[aI e];rfl) m o,C,E⟩
theorem uU{s:St}{n:Nat}{a:List Nat}{ps b:List (List Nat)}(h:s.partsLoop n a 0 ps=some b):False:=by cases h
theorem uV{s:St}{n k:Nat}{a:List Nat}{ps b:List (List Nat)}(h:s.partsLoop n a (k+1) ps=some b):((s.partsRound n a ps).1=true→s.partsLoop n a k (s.partsRound n a ps).2=some b)∧((s.partsRound n a ps).1=false→(s.partsRound n a ps).2=b):=by
 rw[St.partsLoop]at h;refine⟨fun e=>?_,fun e=>?_⟩
 ·rw[if_pos e]at h;exact h
 ·rw[if_neg (by rw[e];decide)]at h;injection h
theorem Hp{s:St}{n:Nat}(a:WF n s):∀b∈s.all n,b<n:=fun _ d=>a.ic d
def PaK(w:vF)(B:Nat)(c:Way)(n:Nat)(G:GV)(s:St)(a:Nat)(L:List Nat)(b:List (Nat × Array sA × TypeId))(d:List (sA × List Nat × Nat))(e:List Nat)(ps:List (List Nat))(X W:vF):Prop:=PaJ w B c n G s a L b d e ps W∧KpB L X W
def PaF(w:vF)(B:Nat)(c:Way)(n:Nat)(G:GV)(s:St)(a:Nat)(L:List Nat)(b:Nat)(d:List (Nat × Array sA × TypeId))(e:List (sA × List Nat × Nat))(f:List Nat)(x:Bool × List (List Nat))(X W:vF):Prop:=PaJ w B c n G s a L ((b,#[.bool x.1],4)::d) e f x.2 W∧KpB L X W
set_option maxRecDepth 100000 in
set_option maxHeartbeats 40000000 in
set_option linter.unusedSimpArgs false in
theorem Fi(f5:0<B)(k:Nat):CZ B c n k:=by
 intro s bb w G h hw hT he;have hn:=h.n40;have fz:B≤w.heap.size:=h.hB;have f6:∀x,s.rep x≤x:=hw.rep;have TT:Hid (∀(W:vF) (F:GV),GCh w W G F→bN W):=aA (fun W F hc=>hT.kb hc.kb (fun d=>by have:=(h.cells d).1;omega));have fF:Kc.wrap (n:Int)=(n:Int):=by rw[JJ];omega
 have f7:∀o1 o2 o3 o4:Obj,((((w.alloc o1).alloc o2).alloc o3).alloc o4).cell? ⟨G.bg,5,none⟩=some (.slice (some ⟨G.bn,0,none⟩) n G.cap):=fun o1 o2 o3 o4=>(h.fresh (((((Kb.refl [] w).alloc o1).alloc o2).alloc o3).alloc o4)).reads.2.2.2.2.2.1
 have f8:(w.alloc (.cells #[.pointer (some ⟨G.bg,0,none⟩)] 101)).cell? ⟨G.bg,5,none⟩=some (.slice (some ⟨G.bn,0,none⟩) n G.cap):=(h.fresh ((Kb.refl [] w).alloc _)).reads.2.2.2.2.2.1;obtain⟨NC,b0⟩:∃NC,NC=(A3 n fP).toArray:=⟨_,rfl⟩;have fa:∀w:vF,(Instr.makeSlice TPs (.int .u64 (n:Int)) (.int .u64 (n:Int))).run Tryz.prog w=.ok (.slice (some ⟨w.heap.size,0,none⟩) n n) (w.alloc (.cells NC TP)):=by intro w;obtain⟨i0,fb,fc,fd,fe⟩:=info_parts Ho;have:=run_make (P:=Tryz.prog) w TPs TP i0 _ Tryz.underlying210 fb fc .u64 .u64 n n (by omega) (Int.le_refl _) (by rw[fe];omega) (by omega);rw[this,fd,b0];simp only[Int.toNat_natCast];rw[BM]
 obtain⟨A,b1⟩:∃A:List (Nat × Array sA × TypeId),A=[(w.heap.size,#[.pointer (some ⟨G.bg,0,none⟩)],101),(w.heap.size+1,#[.int .u64 (n:Int)],232),(w.heap.size+1+1+1,#[.slice (some ⟨w.heap.size+1+1,0,none⟩) n n],TPs)]:=⟨_,rfl⟩;obtain⟨W0,a8⟩:∃W0,W0=(((w.alloc (.cells #[.pointer (some ⟨G.bg,0,none⟩)] 101)).alloc (.cells #[.int .u64 (n:Int)] 232)).alloc (.cells NC TP)).alloc (.cells #[.slice (some ⟨w.heap.size+1+1,0,none⟩) n n] TPs):=⟨_,rfl⟩;have R0:PaI w B c n G s (w.heap.size+1+1) [] A [] [] W0 G (A3 n fP) (A3 n []):=by
  have z1:(w.alloc (.cells #[.pointer (some ⟨G.bg,0,none⟩)] 101)).heap.size=w.heap.size+1:=by simp
  have z2:((w.alloc (.cells #[.pointer (some ⟨G.bg,0,none⟩)] 101)).alloc (.cells #[.int .u64 (n:Int)] 232)).heap.size=w.heap.size+1+1:=by simp
  have z3:(((w.alloc (.cells #[.pointer (some ⟨G.bg,0,none⟩)] 101)).alloc (.cells #[.int .u64 (n:Int)] 232)).alloc (.cells NC TP)).heap.size=w.heap.size+1+1+1:=by simp
  have y0:W0.heap[w.heap.size]?=some (.cells #[.pointer (some ⟨G.bg,0,none⟩)] 101 (0,0)):=by rw[a8];exact aF (aF (aF (aD _ _) _) _) _
  have y1:W0.heap[w.heap.size+1]?=some (.cells #[.int .u64 (n:Int)] 232 (0,0)):=by rw[a8,← z1];exact aF (aF (aD _ _) _) _
  have y2:W0.heap[w.heap.size+1+1]?=some (.cells NC TP (0,0)):=by have C:=aF (aD ((w.alloc (.cells #[.pointer (some ⟨G.bg,0,none⟩)] 101)).alloc (.cells #[.int .u64 (n:Int)] 232)) (.cells NC TP)) (.cells #[.slice (some ⟨w.heap.size+1+1,0,none⟩) n n] TPs);rw[z2]at C;rw[a8];exact C
  have y3:W0.heap[w.heap.size+1+1+1]?=some (.cells #[.slice (some ⟨w.heap.size+1+1,0,none⟩) n n] TPs (0,0)):=by have C:=aD (((w.alloc (.cells #[.pointer (some ⟨G.bg,0,none⟩)] 101)).alloc (.cells #[.int .u64 (n:Int)] 232)).alloc (.cells NC TP)) (.cells #[.slice (some ⟨w.heap.size+1+1,0,none⟩) n n] TPs);rw[z3]at C;rw[a8];exact C
  have k0:Kb [] w W0:=by rw[a8];exact((((Kb.refl [] w).alloc _).alloc _).alloc _).alloc _
  have nf:∀b,w.heap.size≤b→b ∉ G.foot:=fun b hb d=>by have:=h.gh b d;omega
  have l0:=((LI.start h).fresh k0).1;have l1:=((l0.fk y3 (nf _ (by omega))).fk y1 (nf _ (by omega))).fk y0 (nf _ (by omega));have cl:∀b∈pft (w.heap.size+1+1) (A3 n fP),b=w.heap.size+1+1:=by
   intro b hb;rcases gZ.1 hb with C|⟨af,hj,C⟩
   ·exact C
   ·rw[List.length_replicate]at hj;rw[List.getD_eq_getElem?_getD]at C;simp[hj,Value.ownBlock]at C
  refine⟨?_,PS.start (by rw[← b0];exact y2) (by omega),fun b hb=>?_,fun _ _=>(by simp),fun b hb q H e=>?_,fun _ _ q H=>(by cases H),(by simp),List.nodup_nil,(by simp)⟩
  ·rw[b1];exact l1
  ·rw[cl b hb];exact nf _ (by omega)
  ·rw[cl b hb]at e;rw[b1]at H;simp only[sT,List.not_mem_nil,or_false]at H;rcases H with rfl|rfl|rfl
   ·dsimp only at e;omega
   ·dsimp only at e;omega
   ·dsimp only at e;omega
 have g0:=aA b0;have U:=aA b1;have cm:=aA R0;have HE:=aA he;clear b0 b1 R0 he;refine(IV (n:=30)).1 ?_
 refine callsIn_of_wp_marks Tryz.func152 rfl trivial ?_ rfl;simp only[Tryz.ntmps152,List.size_toArray,List.length_cons,List.length_nil,Nat.reduceAdd,Nat.reduceSub,Array.replicate_succ,Array.replicate_zero,List.push_toArray,List.append_toArray,List.nil_append,List.cons_append];gi_wp2
 rw[← a8]
 refine wpIn_loop_ghost (fun k a0 W=>∃i m p F M x5 x6 x7 bc bd be bf bg bh bi bj bk bl bm bn co cq cr cs ct cu cv cw cx cy bo bp bq br bs bt bu bv bw bx bz bF c0 c1 c2 c3 c4 c6 c7,k+i=n∧PaI w B c n G s (w.heap.size+1+1) [] A [] m W F M p∧p=(List.range i).foldl (uT s n) (A3 n [])∧a0={ tmps:=#[.pointer (some ⟨G.bg,0,none⟩),.pointer (some ⟨w.heap.size,0,none⟩),.slice none 0 0,.pointer (some ⟨w.heap.size+1,0,none⟩),.pointer (some ⟨w.heap.size+1+1+1,0,none⟩),x5,x6,x7,lZ,lZ,lZ,bc,bd,be,bf,bg,bh,bi,bj,bk,bl,bm,bn,.int .i64 (n:Int),.int .i64 (i:Int),co,cq,cr,cs,ct,cu,cv,cw,cx,cy,bo,bp,bq,br,bs,bt,bu,bv,bw,bx,bz,bF,c0,c1,c2,c3,c4,c6,c7,lZ,lZ,lZ,lZ,lZ,lZ,lZ,lZ,lZ,lZ,lZ,lZ,lZ,lZ,lZ,lZ,lZ,lZ],defers:=m.map uH }) n ⟨0,[],_,G,_,_,_,_,_,_,_,_,_,_,_,_,_,_,_,_,_,_,_,_,_,_,_,_,_,_,_,_,_,_,_,_,_,_,_,_,_,_,_,_,_,_,_,_,_,Nat.add_zero _,cm.out,rfl,rfl⟩ ?_
 clear cm a8 f7 f8 fa;rintro kk a0 W ⟨i,m,p,F,M,x5,x6,x7,bc,bd,be,bf,bg,bh,bi,bj,bk,bl,bm,bn,co,cq,cr,cs,ct,cu,cv,cw,cx,cy,bo,bp,bq,br,bs,bt,bu,bv,bw,bx,bz,bF,c0,c1,c2,c3,c4,c6,c7,b2,g,a9,rfl⟩;by_cases Z:i<n
 ·obtain⟨V,ag⟩:∃V,V=W.alloc (.cells #[.int .i64 (i:Int)] 3):=⟨_,rfl⟩;have k1:Kb [] W V:=by rw[ag];exact(Kb.refl [] W).alloc _
  have y1:V.heap[W.heap.size]?=some (.cells #[.int .i64 (i:Int)] 3 (0,0)):=by rw[ag];exact aD _ _
  have N:=(g.fresh (k1.trans ((Kb.refl [] V).drew))).1;have e1:=g.li.ch.e1;have e2:=g.li.ch.e2;have r5:=(g.fresh k1).1.li.gm.reads.2.2.2.2.2.1;rw[e1,e2]at r5;have cg:=(g.fresh k1).1.li.cell (b:=w.heap.size) (v:=.pointer (some ⟨G.bg,0,none⟩)) (T:=101) (by rw[U.out];simp);have c5:V.cell? ⟨W.heap.size,0,none⟩=some (.int .i64 (i:Int)):=by rw[aC y1];rfl
  have g1:(i:Int)<(n:Int):=by omega
  obtain⟨v,q,q',qs⟩:=N.li.gm.get (k:=7*i) (by omega);have a7:=dN B F.bn (7*i) _ TNd v _ V.drew N.li.gm.hbn q' qs;rw[e2,show 7*i=i*7 by omega]at a7;have HR:=aA (And.intro g (And.intro N y1));have b3:=aA a9;have cB:=aA b2;clear g N k1 a9 b2 v q q' qs y1;gi_wp2
  rw[← ag];refine nG (K:=fun a0 j=>∃Y f cC cF cL cO cS cW d0 d1 d2,(V.heap.size≤Y∧j.heap[Y]?=some (.cells #[f] 110 (0,0))∧aO j V.drew.heap.size f (s.ss.getD (i*7) [])∧Kb [] V.drew j)∧a0={ tmps:=#[.pointer (some ⟨G.bg,0,none⟩),.pointer (some ⟨w.heap.size,0,none⟩),.slice none 0 0,.pointer (some ⟨w.heap.size+1,0,none⟩),.pointer (some ⟨w.heap.size+1+1+1,0,none⟩),.pointer (some ⟨W.heap.size,0,none⟩),x6,x7,lZ,lZ,lZ,bc,bd,be,bf,bg,bh,bi,bj,bk,bl,bm,bn,.int .i64 (n:Int),.int .i64 (i:Int),cC,cF,cL,cO,cS,cW,d0,d1,d2,.func (.func 127) #[] #[.pointer (some ⟨Y,0,none⟩)],bo,bp,bq,br,bs,bt,bu,bv,bw,bx,bz,bF,c0,c1,c2,c3,c4,c6,c7,lZ,lZ,lZ,lZ,lZ,lZ,lZ,lZ,lZ,lZ,lZ,lZ,lZ,lZ,lZ,lZ,lZ,lZ],defers:=m.map uH }) ?_ ?_
  ·clear ag;go_region_with (refine a7.mono ?_;clear a7;rintro e j ⟨Y,f,rfl,ff⟩)
   all_goals exact⟨Y,f,_,_,_,_,_,_,_,_,_,ff,rfl⟩
  rintro a0 j ⟨Y,f,cC,cF,cL,cO,cS,cW,d0,d1,d2,⟨_,ai,S,k3⟩,rfl⟩;obtain⟨g,N,y1⟩:=HR.out;have z1:V.drew.heap.size=W.heap.size+1:=by rw[ag];show(W.alloc _).heap.size=_;simp
  have d3:j.heap[W.heap.size]?=some (.cells #[.int .i64 (i:Int)] 3 (0,0)):=k3.heap y1 (by simp);have g2:=g.li.ch.kb.size;have O:=((N.fresh k3).1).fk d3 (g.li.gg (gO _)) (fun d=>by have:=(g.ps.cells d).2.1;omega);have b2:=cB.out;have a9:=b3.out;clear b3 cB a7 r5 cg c5 HR;obtain⟨T,c8⟩:∃T,T=s.ss.getD (i*7) []:=⟨_,rfl⟩;rw[← c8]at S;have fg:∀x∈T,x<n:=fun x hx=>hw.bd _ x (by rw[c8]at hx;exact hx)
  obtain⟨L,hL⟩:∃L,L=0::f.ownBlock.toList:=⟨_,rfl⟩;have fh:W.heap.size+1≤j.heap.size:=by have:=k3.size;omega
  have aa:∀k∈L,k ∉ F.foot∧k<j.heap.size∧k ∉ pft (w.heap.size+1+1) M:=by
   intro k l;rw[hL]at l;rcases sT.1 l with rfl|l
   ·exact⟨fun d=>by have:=(O.li.gm.cells d).1;omega,by omega,fun d=>by have:=(O.ps.cells d).1;omega⟩
   ·simp at l;have fi:=(S.lt l).1;exact⟨g.li.gg (by omega),(S.lt l).2,fun d=>by have:=(g.ps.cells d).2.1;omega⟩
  have aj:=bZ 29 Y _ f T L j ai S (TT.out _ _ O.li.ch) (fun a2 P=>by rw[hL];simp[P]) (by rw[hL];simp);have ak:∀k∈L,k<j.heap.size:=fun k l=>(aa k l).2.1
  have al:∀x∈m,x<j.heap.size:=fun x hx=>aB (O.dd x hx)
  have am:Hid (PaK w B c n G s (w.heap.size+1+1) L ((W.heap.size,#[.int .i64 (i:Int)],3)::A) [] m p j j):=aA ⟨⟨F,M,O.il aa⟩,KpB.refl _ _⟩;clear g N O ai aa d3 y1 S k3 z1 e1 e2;gi_wp2
  refine OT (α:=Mem T) (hro:=rfl) (h1:=by omega) (gf:=127) (lb:=#[.pointer (some ⟨Y,0,none⟩)]) rfl trivial (enters_of Tryz.func127 (by kernel_rfl) rfl) aj (fun Z h2=>Z.trans h2) (fZ ak) (Below.refl _ _) (fun _=>rfl)
   (fun pre X=>PaK w B c n G s (w.heap.size+1+1) L ((W.heap.size,#[.int .i64 (i:Int)],3)::A) [] m ((aR pre).foldl (qQ s n i) p) j X)
   (fun _ _ _=>False) ?hI (fun _ _ _ _ _ hs _ _=>hs) am.out ?a1 ?assign ?body ?done ?stop
  case hI=>rintro pre X X' fm ⟨⟨Q,I,a⟩,o⟩ P hr;refine⟨⟨Q,I,a.own (by omega) al P hr⟩,fun k l=>?_⟩;rw[← o k l];refine(aS P).block k (a.li.lb k l).2 (fun d=>?_);have h8:=(hr k (by simpa using d)).1;have C:=ak k l;omega
  case assign=>
   intro ab x W ah J;gi_wp2
   exact J
  case stop=>rintro D cc pre X _ _ hF _;exact hF.elim
  case body=>
   rintro ab pre ⟨y,an⟩ X ⟨⟨Q,I,a⟩,o⟩ fn;have hy:=fg y an;have b5:Hid ((aR (pre++[(⟨y,an⟩:Mem T)])).foldl (qQ s n i) p=qQ s n i ((aR pre).foldl (qQ s n i) p) y):=by unfold Hid aR;rw[Jp,JE];rfl
   generalize (aR pre).foldl (qQ s n i) p=z at *;have hP:=a.ps;have d4:=a.li.ch.kb.size;have cg:=a.li.cell (b:=w.heap.size) (v:=.pointer (some ⟨G.bg,0,none⟩)) (T:=101) (by rw[U.out];simp);have cp:=a.li.cell (b:=w.heap.size+1+1+1) (v:=.slice (some ⟨w.heap.size+1+1,0,none⟩) n n) (T:=TPs) (by rw[U.out];simp);have ci:=a.li.cell (b:=W.heap.size) (v:=.int .i64 (i:Int)) (T:=3) Bx;have ao:=uQ w.heap.size (w.heap.size+1+1) i I.toArray TP (I.getD i fP) (z.getD i []) y X d4 (by decide) hP.hb (hP.get Z) (hP.st i Z) (by omega);have d5:=aA (And.intro a o);clear a o hP;dsimp only[jO,Array.zip,Array.foldl];gi_wp2
   refine⟨trivial,?_⟩;refine(Je ab (IV.2 ao)).mono ?_
   clear ao;rintro e X1 ⟨rfl,v1,d6,d7⟩;obtain⟨a,o⟩:=d5.out;obtain⟨R,a3,a4⟩:=a.put Z d7 d6;have fo:=R.li.cell (b:=w.heap.size) (v:=.pointer (some ⟨G.bg,0,none⟩)) (T:=101) (by rw[U.out];simp);have ca:=pU y X1 Q R.li.gm (by omega);rw[R.li.ch.e1]at ca;have d8:=aA (And.intro R (And.intro a3 (And.intro a4 o)));clear a o R a3 a4 d6 d7 d5 cg cp ci;gi_wp2
   refine⟨trivial,?_⟩;refine(Je ab (IV.2 ca)).mono ?_
   clear ca;rintro e X2 ⟨rfl,G5,a5,a6⟩;obtain⟨R,a3,a4,o⟩:=d8.out;obtain⟨q3,ap,aq⟩:=R.call a5 a6;have hr:=hw.lt hy;have cb:=aA (show qQ s n i z y=(z.set i (dB y (z.getD i []))).set (s.rep y) (dB (n+s.rep y) ((z.set i (dB y (z.getD i []))).getD (s.rep y) []))from rfl);generalize s.rep y=r at *;generalize z.set i (dB y (z.getD i []))=z2 at *;generalize I.set i v1=ad at *;obtain⟨ar,d⟩:∃ar,ar=n+r:=⟨_,rfl⟩;have g3:Kc.wrap ((n:Int)+(r:Int))=(ar:Int):=by rw[JJ];omega
   have cp:=q3.li.cell (b:=w.heap.size+1+1+1) (v:=.slice (some ⟨w.heap.size+1+1,0,none⟩) n n) (T:=TPs) (by rw[U.out];simp);have cn:=q3.li.cell (b:=w.heap.size+1) (v:=.int .u64 (n:Int)) (T:=232) (by rw[U.out];simp);obtain⟨au,d9,da⟩:=q3.fresh (W':=X2.drew) ((Kb.refl [] X2).drew);have g4:(r:Int)<(n:Int):=by omega
   have ao:=uQ w.heap.size (w.heap.size+1+1) r ad.toArray TP (ad.getD r fP) (z2.getD r []) ar X2.drew (IH d4 (IH (a3 0).size (ap 0).size)) (by decide) au.ps.hb (au.ps.get hr) (au.ps.st r hr) (by omega);rw[← d]at cb;have db:Hid (∀K v3,SetCh X2.drew K (w.heap.size+1+1) r ad.toArray TP (ad.getD r fP) v3→aO K w.heap.size v3 (dB ar (z2.getD r []))→(∀D,Ju D X K)∧KpB L X K∧PaK w B c n G s (w.heap.size+1+1) L ((W.heap.size,#[.int .i64 (i:Int)],3)::A) [] m (qQ s n i z y) j K):=by refine aA (fun K v3 b6 b7=>?_);obtain⟨q4,fp,fq⟩:=au.put hr b6 b7;have b4:KpB L X K:=((a4.trans aq).trans da).trans fq;refine⟨fun D=>(((a3 D).trans (ap D)).trans (d9 D)).trans (fp D),b4,⟨G5,ad.set r v3,?_⟩,o.trans b4⟩;rw[cb.out];exact q4
   have HM:=aA d;clear R a3 a4 o q3 ap aq a5 a6 au d9 da d8 fo d cb;gi_wp2
   refine fB (K:=fun _ K=>(∀D,Ju D X K)∧KpB L X K∧PaK w B c n G s (w.heap.size+1+1) L ((W.heap.size,#[.int .i64 (i:Int)],3)::A) [] m (qQ s n i z y) j K) ?_ ?_
   ·skip
    refine wpIn_region_any (by kernel_rfl) ?_
    (try (change wpAnyIn _ _ _ _ _ _ _ _ _ (World.drew _)))
    change wpAnyIn (Fence.wide.inRound ab) _ _ _ _ _ _ _ _ _;refine dZ (by kernel_rfl) _ _ _ _ ?_
    repeat' first
     |(with_reducible (show AllReadyIn _ _ _ _ _ _ _ _ _ _ _);first|exact AllReadyIn.nil|refine AllReadyIn.cons rfl (fun ah J=>?_) ?_)
     | (replace J:=J
        go_simp
        try
         refine⟨trivial,?_⟩;refine(IV.2 ao).mono ?_
         clear ao;rintro e K ⟨rfl,v3,b7,b6⟩;have HG:=db.out K v3 b6 b7;clear b7 b6 db
        refine J _ _ ?_
        clear J ah)
     | (first|refine IX (i:=1) (v:=?_) rfl rfl (by kernel_rfl) (by decide +kernel) (by decide +kernel) (fun _ _ _ h=>h) ⟨Or.inl ⟨by rfl,?_⟩,fun _=>rfl⟩ ?_|refine IX (i:=4) (v:=?_) rfl rfl (by kernel_rfl) (by decide +kernel) (by decide +kernel) (fun _ _ _ h=>h) ⟨Or.inl ⟨by rfl,?_⟩,fun _=>rfl⟩ ?_|refine IX (i:=2) (v:=?_) rfl rfl (by kernel_rfl) (by decide +kernel) (by decide +kernel) (fun _ _ _ h=>h) ⟨Or.inl ⟨by rfl,?_⟩,fun _=>rfl⟩ ?_|refine IX (i:=5) (v:=?_) rfl rfl (by kernel_rfl) (by decide +kernel) (by decide +kernel) (fun _ _ _ h=>h) ⟨Or.inl ⟨by rfl,?_⟩,fun _=>rfl⟩ ?_
        rotate_left
        ·(intro w;go_simp;try (with_reducible rfl))
        try simp only[Act.put,List.setIfInBounds_toArray,List.set_cons_zero,List.set_cons_succ])
     |refine IP (rs:=[0,3]) (by decide +kernel) (by simp) ?_
     |refine IP (rs:=[3]) (by decide +kernel) (by simp) ?_
     |refine IP (rs:=[6]) (by decide +kernel) (by simp) ?_
     |refine IP (rs:=[0]) (by decide +kernel) (by simp) ?_
     |(refine wpAnyIn_done (by decide +kernel) ?_ _;exact HG)
   rintro a0 K ⟨t1,t2,t3⟩;refine⟨t1 _,t2,?_⟩;show PaK _ _ _ _ _ _ _ _ _ _ _ _ _ _;rw[b5.out];exact t3
  case done=>
   rintro D xs X hD av ⟨⟨Q,I,a⟩,o⟩ J;have aw:aR xs=s.tg i:=by have C:aR xs=T:=av;rw[C,c8];unfold St.tg;rw[show 7*i=i*7 by omega]
   rw[aw]at a;have hF:Hid (PaI w B c n G s (w.heap.size+1+1) [] A [] (D::m) X Q I (uT s n p i)):=aA (((a.il (L':=[]) (by simp)).iu (fun q H=>C1 _ H)).ke J (fun x hx=>by have:=al x hx;omega) (by omega));have b3:Hid (uT s n p i=(List.range (i+1)).foldl (uT s n) (A3 n [])):=by unfold Hid;rw[List.range_succ,JE,← a9];rfl
   clear a o J aj am av aw a9;gi_wp2
   exact⟨kk-1,by omega,i+1,D::m,_,Q,I,_,_,_,_,_,_,_,_,_,_,_,_,_,_,_,_,_,_,_,_,_,_,_,_,_,_,_,_,_,_,_,_,_,_,_,_,_,_,_,_,_,_,_,_,by omega,hF.out,b3.out,rfl⟩
 ·have fr:i=n:=by omega
  have g5:¬((i:Int)<(n:Int)):=by omega
  rw[fr,← DJ]at a9;subst a9;have he:s.partsLoop n (s.all n) k (s.parts0 n)=some bb:=HE.out;have cd:=aA he;have cg:=g.li.cell (b:=w.heap.size) (v:=.pointer (some ⟨G.bg,0,none⟩)) (T:=101) (by rw[U.out];simp);have ce:=uN W F g.li.gm f6;rw[g.li.ch.e1]at ce;have ax:=aA g;clear g HE he b2 Z;gi_wp2
  refine⟨trivial,?_⟩;refine(IV.2 ce).mono ?_
  clear ce;rintro e W5 ⟨G5,f,rfl,a5,a6,b8⟩;obtain⟨uo,ul,uc,rfl⟩:=b8.set.form;obtain⟨W6,ay⟩:∃W6,W6=(W5.alloc (.cells #[.slice uo ul uc] aL)).alloc (.cells #[.bool true] 4):=⟨_,rfl⟩;obtain⟨t,az⟩:∃t,t=W5.heap.size:=⟨_,rfl⟩;obtain⟨Wz,fs⟩:∃Wz,Wz=W.heap.size:=⟨_,rfl⟩;obtain⟨E,cf⟩:∃E,E=s.all n:=⟨_,rfl⟩;obtain⟨f,S⟩:∃f,f=Value.slice uo ul uc:=⟨_,rfl⟩;have ft:∀b∈E,b<n:=by rw[cf];exact Hp hw
  have g6:w.heap.size≤W.heap.size:=ax.out.li.ch.kb.size;have g7:W.heap.size≤t:=by rw[az];exact a6.kb.size
  have fu:∀q∈A,q.1<W.heap.size:=fun q H=>aB (ax.out.li.bx q H).1
  have R6:PaI w B c n G s (w.heap.size+1+1) [] ((t+1,#[.bool true],4)::(t,#[f],aL)::A) [(f,E,Wz)] m W6 G5 M (s.parts0 n):=by
   have k6:Kb [] W5 W6:=by rw[ay];exact((Kb.refl [] W5).alloc _).alloc _
   have y8:W6.heap[t]?=some (.cells #[f] aL (0,0)):=by rw[ay,az,S];exact aF (aD _ _) _
   have y9:W6.heap[t+1]?=some (.cells #[.bool true] 4 (0,0)):=by have C:=aD (W5.alloc (.cells #[.slice uo ul uc] aL)) (.cells #[.bool true] 4);rw[show(W5.alloc (.cells #[.slice uo ul uc] aL)).heap.size=W5.heap.size+1 by simp]at C;rw[ay,az];exact C
   have p5:=(ax.out.call a5 a6).1;have nf:∀b,t≤b→b ∉ G5.foot:=fun b hb d=>by have:=a5.gh b d;omega
   have np:∀b,t≤b→b ∉ pft (w.heap.size+1+1) M:=fun b hb d=>by have:=(p5.ps.cells d).2.1;omega
   have p6:=(p5.fresh k6).1;have ch:=b8.set.kb k6 (by simp);rw[← S,← cf,← fs]at ch;refine((p6.fk y8 (nf _ (gO _)) (np _ (gO _))).fk y9 (nf _ (by omega)) (np _ (by omega))).ia ch (by rw[S];exact b8.out) (fun a2 P d=>?_);have h8:=(ch.lt P).1;have h7:=(ax.out.ps.cells d).2.1;omega
  have dc:=aA R6;rw[← cf]at cd;have g8:=aA S;clear R6 b8 a5 a6 ax cg;gi_wp2
  rw[← ay,← az,← S];clear S ay az
  refine wpIn_loop_ghost (fun af a0 W=>∃u fl m p F M z5 z6 z7 dd de df dg dh di dj dk dl dm dp dq dr ds dt du dv dw dx dy dz dF dL dT dW e0 e3 e4 e5 e6 e7 e8 e9 ea eb ec ed ee ef eg eh ei ej ek el em en eo ep eq er es et eu ev ew ex ey ez eA eE eF,(t<u∧(fl=true→s.partsLoop n E af p=some bb)∧(fl=false→p=bb))∧PaI w B c n G s (w.heap.size+1+1) [] ((u,#[.bool fl],4)::(t,#[f],aL)::A) [(f,E,Wz)] m W F M p∧a0={ tmps:=#[.pointer (some ⟨G.bg,0,none⟩),.pointer (some ⟨w.heap.size,0,none⟩),.slice none 0 0,.pointer (some ⟨w.heap.size+1,0,none⟩),.pointer (some ⟨w.heap.size+1+1+1,0,none⟩),z5,z6,z7,.pointer (some ⟨t,0,none⟩),.pointer (some ⟨u,0,none⟩),dd,de,df,dg,dh,di,dj,dk,dl,dm,dp,dq,dr,ds,dt,du,dv,dw,dx,dy,dz,dF,dL,dT,dW,e0,e3,e4,e5,e6,e7,e8,e9,ea,eb,ec,ed,ee,ef,eg,eh,ei,ej,ek,el,em,en,eo,ep,eq,er,es,et,eu,ev,ew,ex,ey,ez,eA,eE,eF],defers:=m.map uH }) k ⟨t+1,true,m,_,G5,M,_,_,_,_,_,_,_,_,_,_,_,_,_,_,_,_,_,_,_,_,_,_,_,_,_,_,_,_,_,_,_,_,_,_,_,_,_,_,_,_,_,_,_,_,_,_,_,_,_,_,_,_,_,_,_,_,_,_,_,_,_,_,_,_,_,⟨Nat.lt_succ_self _,fun _=>cd.out,(by intro h;cases h)⟩,dc.out,rfl⟩ ?_
  clear dc cd;rintro af a0 W ⟨u,fl,m,p,F,M,z5,z6,z7,dd,de,df,dg,dh,di,dj,dk,dl,dm,dp,dq,dr,ds,dt,du,dv,dw,dx,dy,dz,dF,dL,dT,dW,e0,e3,e4,e5,e6,e7,e8,e9,ea,eb,ec,ed,ee,ef,eg,eh,ei,ej,ek,el,em,en,eo,ep,eq,er,es,et,eu,ev,ew,ex,ey,ez,eA,eE,eF,⟨g9,eH,eW⟩,g,rfl⟩;have c9:=g.li.cell (b:=u) (v:=.bool fl) (T:=4) Bx;cases fl
  ·have fv:=eW rfl;subst fv;have cp:=g.li.cell (b:=w.heap.size+1+1+1) (v:=.slice (some ⟨w.heap.size+1+1,0,none⟩) n n) (T:=TPs) (by rw[U.out];simp);have HF:=aA g.done;have HD:=aA (And.intro g.nd g.dd);clear g;gi_wp2
   refine nS m W HD.out.1 HD.out.2 ?_
   exact⟨_,results_tmp rfl _ _ _,F,w.heap.size+1+1,rfl,HF.out.1,HF.out.2.1,M,HF.out.2.2.1,HF.out.2.2.2⟩
  ·have b9:=eH rfl;obtain⟨jj,fw⟩:∃jj,af=jj+1:=by
    cases af with
    |zero=>exact(uU b9).elim
    |succ jj=>exact⟨jj,rfl⟩
   rw[fw]at b9;have f0:=aA (uV b9);clear eH eW b9;have f1:∀q∈((t,#[f],aL)::A:List (Nat × Array sA × TypeId)),q.1≠u:=by
    intro q H;rcases sT.1 H with rfl|H
    ·dsimp only;omega
    ·have:=fu q H;omega
   obtain⟨N,_,_⟩:=g.flag (by omega) (by simp) f1 false;have f9:W.frozen? ⟨u,0,none⟩=false:=aE (g.li.bx _ Bx).1 0;obtain⟨W2,ba⟩:∃W2,W2=W.setCell ⟨u,0,none⟩ (.bool false):=⟨_,rfl⟩;rw[← ba]at N;have a7:=dN Wz t 0 #[f] aL f E W2 (N.li.bx (t,#[f],aL) (by simp)).1 rfl (N.li.vt (f,E,Wz) (by simp)).1;rw[ba]at a7;have aV:=aA N;clear g N;gi_wp2
   refine⟨trivial,?_⟩;refine(IV.2 a7).mono ?_
   clear a7;rintro e j ⟨Y,vc,rfl,_,ai,ae,k3⟩;rw[← ba]at ae k3;have O:=(aV.out.fresh k3).1;obtain⟨L,hL⟩:∃L,L=0::vc.ownBlock.toList:=⟨_,rfl⟩;have ga:u<W2.heap.size:=aB (aV.out.li.bx _ Bx).1;have fh:W2.heap.size≤j.heap.size:=k3.size;have aa:∀k∈L,k ∉ F.foot∧k<j.heap.size∧k ∉ pft (w.heap.size+1+1) M:=by
    intro k l;rw[hL]at l;rcases sT.1 l with rfl|l
    ·exact⟨fun d=>by have:=(O.li.gm.cells d).1;omega,by omega,fun d=>by have:=(O.ps.cells d).1;omega⟩
    ·simp at l;have fi:=(ae.lt l).1;exact⟨aV.out.li.gg (by omega),(ae.lt l).2,fun d=>by have:=(aV.out.ps.cells d).2.1;omega⟩
   have fx:u ∉ L:=by
    rw[hL];intro d;rcases sT.1 d with e|d
    ·omega
    ·simp at d;have:=(ae.lt d).1;omega
   have aj:=bZ 29 Y _ vc E L j ai ae (TT.out _ _ O.li.ch) (fun a2 P=>by rw[hL];simp[P]) (by rw[hL];simp);have ak:∀k∈L,k<j.heap.size:=fun k l=>(aa k l).2.1
   have al:∀x∈m,x<j.heap.size:=fun x hx=>aB (O.dd x hx)
   have am:Hid (PaF w B c n G s (w.heap.size+1+1) L u ((t,#[f],aL)::A) [(f,E,Wz)] m (false,p) j j):=aA ⟨⟨F,M,O.il aa⟩,KpB.refl _ _⟩;clear O ai aa ae k3 aV ba c9 f9 hL;gi_wp2
   refine OT (α:=Mem E) (hro:=rfl) (h1:=by omega) (gf:=127) (lb:=#[.pointer (some ⟨Y,0,none⟩)]) rfl trivial (enters_of Tryz.func127 (by kernel_rfl) rfl) aj (fun Z h2=>Z.trans h2) (fZ ak) (Below.refl _ _) (fun _=>rfl)
    (fun pre X=>PaF w B c n G s (w.heap.size+1+1) L u ((t,#[f],aL)::A) [(f,E,Wz)] m ((aR pre).foldl (qR s n) (false,p)) j X)
    (fun _ _ _=>False) ?hI2 (fun _ _ _ _ _ hs _ _=>hs) am.out ?a2 ?assign2 ?body2 ?done2 ?stop2
   case hI2=>rintro pre X X' fm ⟨⟨Q,I,a⟩,o⟩ P hr;refine⟨⟨Q,I,a.own (by omega) al P hr⟩,fun k l=>?_⟩;rw[← o k l];refine(aS P).block k (a.li.lb k l).2 (fun d=>?_);have h8:=(hr k (by simpa using d)).1;have C:=ak k l;omega
   case assign2=>
    intro ab x W ah J;gi_wp2
    exact J
   case stop2=>rintro D cc pre X _ _ hF _;exact hF.elim
   case body2=>
    rintro ab pre ⟨y,an⟩ X ⟨⟨Q,I,a⟩,o⟩ fn;have hy:=ft y an;have b5:Hid ((aR (pre++[(⟨y,an⟩:Mem E)])).foldl (qR s n) (false,p)=qR s n ((aR pre).foldl (qR s n) (false,p)) y):=by unfold Hid aR;rw[Jp,JE];rfl
    generalize (aR pre).foldl (qR s n) (false,p)=z at *;obtain⟨zf,zp⟩:=z;dsimp only at a;have cg:=a.li.cell (b:=w.heap.size) (v:=.pointer (some ⟨G.bg,0,none⟩)) (T:=101) (by rw[U.out];simp);have cp:=a.li.cell (b:=w.heap.size+1+1+1) (v:=.slice (some ⟨w.heap.size+1+1,0,none⟩) n n) (T:=TPs) (by rw[U.out];simp);have cn:=a.li.cell (b:=w.heap.size+1) (v:=.int .u64 (n:Int)) (T:=232) (by rw[U.out];simp);obtain⟨m2,fy⟩:∃m2,m2=2*n:=⟨_,rfl⟩;obtain⟨m3,f2⟩:∃m3,m3=2*n+y:=⟨_,rfl⟩;have gb:Kc.wrap (2*(n:Int))=(m2:Int):=by rw[JJ];omega
    have gc:Kc.wrap ((m2:Int)+(y:Int))=(m3:Int):=by rw[JJ];omega
    have cj:=BK y m3 w.heap.size (w.heap.size+1+1) I zp X Q a.li.gm hw (TT.out _ _ a.li.ch) f5 (by omega) hy (by omega) a.ps a.dj;rw[a.li.ch.e1]at cj;have HY:Hid (qR s n (zf,zp) y=((s.handParts zp y m3).1 || zf,(s.handParts zp y m3).2)):=by unfold Hid qR;rw[f2]
    have HQ:=aA (And.intro a o);clear a o fy f2;dsimp only[jO,Array.zip,Array.foldl];gi_wp2
    refine⟨trivial,?_⟩;refine(Je ab (IV.2 cj)).mono ?_
    clear cj;rintro e X1 ⟨rfl,G5,ad,a5,ck,a6⟩;generalize s.handParts zp y m3=hp at *;obtain⟨hf,gd⟩:=hp;dsimp only at ck HY;obtain⟨a,o⟩:=HQ.out;obtain⟨R,a3,a4⟩:=a.step a5 ck a6;have c9:=R.li.cell (b:=u) (v:=.bool zf) (T:=4) Bx;have f9:X1.frozen? ⟨u,0,none⟩=false:=aE (R.li.bx _ Bx).1 0;have f3:Hid (∀a2,a2=(hf || zf)→(∀D,Ju D X (X1.setCell ⟨u,0,none⟩ (.bool a2)))∧KpB L X (X1.setCell ⟨u,0,none⟩ (.bool a2))∧PaF w B c n G s (w.heap.size+1+1) L u ((t,#[f],aL)::A) [(f,E,Wz)] m (qR s n (zf,zp) y) j (X1.setCell ⟨u,0,none⟩ (.bool a2))):=by refine aA (fun a2 P=>?_);obtain⟨q3,ap,aq⟩:=R.flag (by omega) fx f1 a2;refine⟨fun D=>(a3 D).trans (ap D),a4.trans aq,⟨G5,ad,?_⟩,o.trans (a4.trans aq)⟩;rw[HY.out,← P];exact q3
    clear a R a3 a4 o HQ a5 ck a6 cg cp cn;cases hf
    ·gi_wp2
     obtain⟨t1,t2,t3⟩:=f3.out zf (by simp);refine⟨t1 _,t2,?_⟩;show PaF _ _ _ _ _ _ _ _ _ _ _ _ _ _ _;rw[b5.out];exact t3
    ·gi_wp2
     obtain⟨t1,t2,t3⟩:=f3.out true (by simp);refine⟨t1 _,t2,?_⟩;show PaF _ _ _ _ _ _ _ _ _ _ _ _ _ _ _;rw[b5.out];exact t3
   case done2=>
    rintro D xs X hD av ⟨⟨Q,I,a⟩,o⟩ J;have aw:aR xs=E:=av;rw[aw,← vQ]at a;obtain⟨p1,p2⟩:=f0.out;generalize s.partsRound n E p=y at *;obtain⟨yf,yp⟩:=y;dsimp only at a p1 p2;have c9:=a.li.cell (b:=u) (v:=.bool yf) (T:=4) Bx;have kA:Kb [] X (X.alloc (.cells #[.bool yf] 4)):=(Kb.refl [] X).alloc _;have ge:j.heap.size≤X.heap.size:=IH hD (Nat.le_of_lt (aB J));have hF:Hid (PaI w B c n G s (w.heap.size+1+1) [] ((X.heap.size,#[.bool yf],4)::(t,#[f],aL)::A) [(f,E,Wz)] (D::m) (X.alloc (.cells #[.bool yf] 4)) Q I yp):=by have a1:=((a.il (L':=[]) (by simp)).iu (bxs':=(t,#[f],aL)::A) (fun q H=>C1 _ H)).ke J (fun x hx=>by have:=al x hx;omega) (by omega);exact aA ((a1.fresh kA).1.fk (aD _ _) (a1.li.gg (gO _)) (fun d=>by have:=(a1.ps.cells d).2.1;omega))
    have f4:=aA (And.intro p1 p2);clear a o aj am av aw p1 p2 f0;gi_wp2
    exact⟨jj,by omega,X.heap.size,yf,D::m,yp,Q,I,_,_,_,_,_,_,_,_,_,_,_,_,_,_,_,_,_,_,_,_,_,_,_,_,_,_,_,_,_,_,_,_,_,_,_,_,_,_,_,_,_,_,_,_,_,_,_,_,_,_,_,_,_,_,_,_,_,_,_,_,_,_,_,_,_,⟨by omega,f4.out.1,f4.out.2⟩,hF.out,rfl⟩
end
end Go.Proofs.YtiamlbhkiehilaaGreatDoor
