import Derived.Test.YtiamlbhkiehilaaGreatDoorKa27
open Go renaming callsIn_wide→IV,undef→lZ,wpAnyIn_take→IX,wpAnyIn_ready→IP
open List renaming getElem?_set_ne→Jt,mem_singleton→A1,mem_of_getElem?→IJ,setIfInBounds_toArray→I8
open Nat renaming lt_succ_of_lt→KD
namespace Go.Proofs.YtiamlbhkiehilaaGreatDoor
section
open Go.RowKit Go.Shelf
attribute [local go_sem] Oper.semAt_some
variable {B:Nat} {c:Way} {n:Nat} {s:St}
theorem GM.kt{y w:World}{G0 G:GV}(h:GM w B c n G s)(l:GCh y w G0 G){k:Nat}(H:k<7*n){v:Value}{t:List Nat}(z:aO w B v t)(L:∀g,v.ownBlock=some g→g ∉ G.foot)(M:∀g,v.ownBlock=some g→y.heap.size≤g):∃I,GM (w.setCell ⟨G.bn,k,none⟩ v) B c n I (s.put k t)∧GCh y (w.setCell ⟨G.bn,k,none⟩ v) G0 I:=by
 have N:k<G.nv.length:=by rw[h.lnv];exact H
 have d:Kb [G.bn] w (w.setCell ⟨G.bn,k,none⟩ v):=(Kb.refl _ _).setCell (p:=⟨G.bn,k,none⟩) (.inl (by simp)) _;have o:∀(j:Nat) u,(G.nv.set k v)[j]?=some u→(j=k∧u=v)∨(j≠k∧G.nv[j]?=some u):=by
  intro j u a;by_cases e:j=k
  ·subst e;rw[List.getElem?_set_self N]at a;injection a with a;exact .inl ⟨rfl,a.symm⟩
  ·rw[Jt (Ne.symm e)]at a;exact .inr ⟨e,a⟩
 have q:∀ {v:Value},v.ownBlock≠some G.bn→∀g∈[G.bn],v.ownBlock≠some g:=fun z g A=>by rw[A1.1 A];exact z
 have C:∀ {u:Value},(∀b,u.ownBlock=some b→b∈G.foot)→eR v u:=fun a g A e=>L g A (a g e)
 have J:∀ {j:Nat} {u:Value},G.nv[j]?=some u→eR v u:=fun a=>C (fun b e=>aG.2 (.inr (.inr (.inr (.inl ⟨_,IJ a,e⟩)))))
 refine⟨{ G with nv:=G.nv.set k v },⟨Nat.le_trans h.hB d.size,d.heap h.hbg (by simp;exact aP h.hbg h.hbn (by decide)),?_,d.heap h.hbl (by simp;exact aP h.hbl h.hbn (by decide)),by simpa using h.lnv,by simpa[St.put]using h.lss,?_,h.sS.kb d (q (h.sS.ne h.hbn (by decide))),h.sI.kb d (q (h.sI.ne h.hbn (by decide))),?_,?_,?_,h.aSI,h.oA.kb d (q (h.oA.ne h.hbn (by decide))),h.cls,h.oN.kb d (q (h.oN.ne h.hbn (by decide))),h.oC.kb d (q (h.oC.ne h.hbn (by decide))),h.aAN,h.aAC,h.aCN,h.lo,h.n40,h.lw,h.un,h.ord⟩,?_⟩
 ·rw[aI h.hbn];simp[I8]
 ·intro j u O a r;rcases o j u a with⟨rfl,rfl⟩|⟨f,a⟩
  ·have e:(s.put j t).ss[j]?=some t:=by simp[St.put,h.lss,H]
   rw[e]at r;injection r with r;subst r;exact z.kb d (q (z.ne h.hbn (by decide)))
  ·have e:(s.put k t).ss[j]?=s.ss[j]?:=by simp[St.put,Jt (Ne.symm f)]
   rw[e]at r;have m:=h.sN j u O a r;exact m.kb d (q (m.ne h.hbn (by decide)))
 ·intro i j u D P a m;rcases o i u a with⟨Q,E⟩|⟨V,a⟩
  ·rcases o j D m with⟨X,Y⟩|⟨f,m⟩
   ·omega
   ·rw[E];exact J m
  ·rcases o j D m with⟨Q,E⟩|⟨f,m⟩
   ·rw[E];exact(J a).symm
   ·exact h.aNN i j u D P a m
 ·intro j u a;rcases o j u a with⟨rfl,rfl⟩|⟨f,a⟩
  ·exact C (fun b e=>aG.2 (.inr (.inr (.inr (.inr (.inl e))))))
  ·exact h.aNS j u a
 ·intro j u a;rcases o j u a with⟨rfl,rfl⟩|⟨f,a⟩
  ·exact C (fun b e=>aG.2 (.inr (.inr (.inr (.inr (.inr (.inl e)))))))
  ·exact h.aNI j u a
 ·have R:G.bn∈G.foot:=aG.2 (.inr (.inl rfl));refine⟨⟨d.os.trans l.kb.os,d.tape.trans l.kb.tape,d.output.trans l.kb.output,Nat.le_trans l.kb.size d.size,fun j f F=>?_⟩,fun b S=>?_,l.e1,l.e2,l.e3⟩
  ·refine(d.block j (Nat.lt_of_lt_of_le f l.kb.size) (fun T=>?_)).trans (l.kb.block j f F);rw[A1.1 T]at F f;rcases l.ft _ R with K|K
   ·exact F K
   ·omega
  ·have x:b∈G.foot→b∈G0.foot∨y.heap.size≤b:=l.ft b;rcases aG.1 S with e|e|e|⟨u,a,e⟩|e
   ·exact x (aG.2 (.inl e))
   ·exact x (aG.2 (.inr (.inl e)))
   ·exact x (aG.2 (.inr (.inr (.inl e))))
   ·obtain⟨j,f⟩:=List.mem_iff_getElem?.1 a;rcases o j u f with⟨_,rfl⟩|⟨_,f⟩
    ·exact .inr (M b e)
    ·exact x (aG.2 (.inr (.inr (.inr (.inl ⟨u,IJ f,e⟩)))))
   ·exact x (aG.2 (.inr (.inr (.inr (.inr e)))))
theorem WF.jo(h:WF n s){k x:Nat}(a:x∈s.standing (s.ss.getD k [])):x<n:=by obtain⟨_,y,b,rfl⟩:=dK.1 a;exact h.lt (h.bd k y b)
theorem WF.ic(h:WF n s){x:Nat}(a:x∈s.all n):x<n:=by obtain⟨_,y,b,rfl⟩:=dK.1 a;exact h.lt (List.mem_range.1 b)
theorem qO{k i:Nat}(g:130≤k)(b:WF n s):∃t,s.twinsOf k n i=some t∧∀x∈t,x<n:=by
 have m:=b.hn;have e:∀x y,y∈oQ s n i x→y<n+1:=by
  intro x y a;unfold oQ at a;split at a
  ·exact KD (b.jo a)
  ·split at a
   ·rcases(bA.1 a).2 with rfl|a
    ·omega
    ·exact KD (b.gp a)
   ·exact KD (b.gp a)
 obtain⟨l,f⟩:=kO (next:=oQ s n i) (fun x y a=>by have:=e x y a;omega) g n;have h:=lH (P:=fun x=>x<n+1) f (by omega) e;refine⟨gR n l,?_,fun x j=>?_⟩
 ·show(fT k n (oQ s n i)).map (gR n)=_;rw[f];rfl
 ·have d:=(eL.1 j);simp at d;have:=h x d.2.2;have:=d.2.1;omega
def Fe(k n:Nat)(s:St)(i:Nat):Option St:=(s.twinsOf k n i).map fun t=>s.put (7*i+5) t
def FtO(w:World)(B:Nat)(c:Way)(n:Nat)(G:GV)(s:St)(k:Nat)(L:List Nat)(b:List (Nat × Array Value × TypeId))(pre:List Nat)(W:World):Prop:=
 ∃a d,LI w B c n G L b [] W a d∧St.foldO (Fe k n) s pre=some a∧WF n a
set_option linter.unusedSimpArgs false in
set_option maxRecDepth 100000 in
set_option maxHeartbeats 4000000 in
theorem Ff(b0:0<B)(k:Nat)(hk:130≤k):tB B c n k:=by
 intro s s' w G h V hT hu he;have hn:=h.n40;have TT:Hid (∀ {W:World} {p:GV},GCh w W G p→bN W):=aA (fun hc=>hT.kb hc.kb (fun I=>by have:=(h.cells I).1;omega));obtain⟨j,u⟩:∃j,j=w.alloc (.cells #[.pointer (some ⟨G.bg,0,none⟩)] 101):=⟨_,rfl⟩;have Y:Kb [] w j:=by rw[u];exact(Kb.refl [] w).alloc _
 have h0:=h.fresh Y;have Z:j.heap[w.heap.size]?=some (.cells #[.pointer (some ⟨G.bg,0,none⟩)] 101 (0,0)):=by rw[u];exact aD _ _
 have a8:j.cell? ⟨w.heap.size,0,none⟩=some (.pointer (some ⟨G.bg,0,none⟩)):=by rw[aC Z];rfl
 have z0:j.heap.size=w.heap.size+1:=by rw[u];simp
 have a0:=uN j G h0 V.rep;refine(IV (n:=30)).1 ?_
 refine callsIn_of_wp_marks Tryz.func112 rfl trivial ?_ rfl;simp only[Tryz.ntmps112,List.size_toArray,List.length_cons,List.length_nil,Nat.reduceAdd,Nat.reduceSub,Array.replicate_succ,Array.replicate_zero,List.push_toArray,List.append_toArray,List.nil_append,List.cons_append];rw[u]at a0 a8;gi_wp2
 refine⟨trivial,?_⟩;refine(IV.2 a0).mono ?_
 clear a0;rintro a9 q ⟨G1,v,rfl,aa,Q,R⟩;rw[← u]at Q R;obtain⟨y,z,A,rfl⟩:=R.set.form;have L1:=(((LI.start h).fresh Y).1.fk Z (fun I=>by have:=h.gh _ I;omega));obtain⟨C,J⟩:∃C,C=q.alloc (.cells #[.slice y z A] aL):=⟨_,rfl⟩;have kV:Kb [] q C:=by rw[J];exact(Kb.refl [] q).alloc _
 have aV:C.heap[q.heap.size]?=some (.cells #[.slice y z A] aL (0,0)):=by rw[J];exact aD _ _
 have L2:=((L1.call aa Q).1.fresh kV).1;have be:=Q.kb.size;have HA:=dN j.heap.size q.heap.size 0 #[.slice y z A] aL (.slice y z A) (s.all n) C aV rfl (R.set.kb kV (by simp));rw[J]at HA;have a1:=aA L2;clear L1 L2 aa Q R kV aV h0 Z;gi_wp2
 refine⟨trivial,?_⟩;refine(IV.2 HA).mono ?_
 clear HA;rintro a9 S ⟨T,va,rfl,ab,ad,K,k1⟩;rw[← J]at K k1 ab;have f:=(a1.out.fresh k1).1;obtain⟨L,M⟩:∃L,L=0::va.ownBlock.toList:=⟨_,rfl⟩;have a2:∀b∈L,b ∉ G1.foot∧b<S.heap.size:=by
  intro b l;rw[M]at l;rcases List.mem_cons.1 l with rfl|l
  ·exact⟨fun I=>by have:=(f.gm.cells I).1;omega,by have:=f.gm.hB;omega⟩
  ·simp at l;exact⟨a1.out.gg (K.lt l).1,(K.lt l).2⟩
 have b1:∀b∈L,b<S.heap.size:=fun b l=>(a2 b l).2
 have b2:=bZ 29 T C.heap.size va (s.all n) L S ad K (TT.out f.ch) (fun b3 E=>by rw[M];simp[E]) (by rw[M];simp);have b4:=f.ch.kb.size;have LL:LI w B c n G L [(w.heap.size,#[.pointer (some ⟨G.bg,0,none⟩)],101)] [] S s G1:=⟨f.gm,f.ch,f.bx,f.vt,a2⟩;have ae:=aA LL;have bf:=aA M;clear K ad k1 ab u a8 Y f M a2 LL a1 J;gi_wp2
 obtain⟨a3,a4⟩:∃a3:List (Nat × Array Value × TypeId),a3=[(w.heap.size,#[.pointer (some ⟨G.bg,0,none⟩)],101)]:=⟨_,rfl⟩;rw[← a4]at ae;have af:=aA a4;clear a4;refine wpIn_rangeFunc_ownH (α:=Mem (s.all n)) (hro:=rfl) (h1:=by omega) (gf:=127) (lb:=#[.pointer (some ⟨T,0,none⟩)]) rfl trivial (enters_of Tryz.func127 (by kernel_rfl) rfl) b2 (fun h1 h2=>h1.trans h2) (fZ b1) (Below.refl _ _) (fun _=>rfl)
  (fun pre W=>FtO w B c n G s k L a3 (aR pre) W)
  (fun _ _ _=>False) ?hI (fun _ _ _ _ _ hs _ _=>hs) ⟨s,G1,ae.out,rfl,V⟩
  (fun x a' _=>a'={ tmps:=#[.pointer (some ⟨G.bg,0,none⟩),.pointer (some ⟨w.heap.size,0,none⟩),.pointer (some ⟨q.heap.size,0,none⟩),.int .u64 (x.1:Int),.pointer (some ⟨G.bg,0,none⟩),.agg #[.slice y z A],.func (.func 127) #[] #[.pointer (some ⟨T,0,none⟩)],.int .u64 (x.1:Int),lZ,lZ,lZ,lZ,lZ,lZ,lZ,lZ,lZ,lZ],defers:=[] }) ?hAx ?assign ?body ?done ?stop
 case hI=>rintro pre W W' b7 ⟨m,p,a,p2⟩ E hr;exact⟨m,p,a.own b4 E hr,p2⟩
 case hAx=>rintro x a' _ W W' b7 rfl E hr;rfl
 case assign=>
  rintro b8 pre x W a5 hi g;dsimp only[jO,Array.zip,Array.foldl];gi_wp2
  exact g _ _ (KeepsFrom.refl _ _) (KpB.refl _ _) hi rfl
 case stop=>rintro D cc pre X _ _ hF _;exact hF.elim
 case done=>
  rintro D xs W hD b9 ⟨m,p,a,F,pw⟩ g;have ba:aR xs=s.all n:=b9;rw[ba]at F;have bb:m=s':=by have U:s.findTwins k n=some m:=F;rw[he]at U;injection U with U;exact U.symm
  have p9:=a.turned g rfl (by omega) (.deferred none);have r:=aA (And.intro p9.gm p9.ch);rw[bb]at r;clear a p9 F pw;gi_wp2
  refine⟨by simp,.inl ⟨_,_,rfl,run_takeDeferred g,?_⟩⟩;exact⟨_,results_none rfl _ _ _,rfl,_,r.out.1,r.out.2⟩
 case body=>
  rintro b8 pre ⟨x,ag⟩ a' W hl ⟨bi,hr⟩ ⟨m,p,a,F,pw⟩ rfl bj;have hx:=V.ic ag;have kd:Kb [] W W.drew:=(Kb.refl [] W).drew;obtain⟨N,ah,ai⟩:=a.fresh kd;obtain⟨t,ht,aj⟩:=qO (k:=k) (i:=x) hk pw;have a6:=BF k x t W.drew p N.gm pw (TT.out N.ch) b0 hx ht;rw[N.ch.e1]at a6;have cg:=a.cell (b:=w.heap.size) (v:=.pointer (some ⟨G.bg,0,none⟩)) (T:=101) (by rw[af.out];simp);have cn:=a.gm.reads.2.2.2.2.2.1;rw[a.ch.e1,a.ch.e2]at cn;have bk:(x:Int)<(n:Int):=by omega
  have ak:aR (pre++[(⟨x,ag⟩:Mem (s.all n))])=aR pre++[x]:=by unfold aR;rw[List.map_append];rfl
  have al:St.foldO (Fe k n) s (aR pre++[x])=some (m.put (7*x+5) t):=by rw[uM,F];show(m.twinsOf k n x).map _=_;rw[ht];rfl
  have HE:=aA (And.intro ak (And.intro al (pw.put (k:=7*x+5) (t:=t) (by omega) aj)));have O:=aA (And.intro N (And.intro ah ai));have HZ:=aA a.gm.hB;clear a N ah ai kd F pw ht ak al aj;gi_wp2
  refine fB (K:=fun am X=>(∃P,GM X B c n P (m.put (7*x+5) t)∧GCh W.drew X p P)∧∃y8 y9 an ao ap aq ar au av aw,am={ tmps:=#[.pointer (some ⟨G.bg,0,none⟩),.pointer (some ⟨w.heap.size,0,none⟩),.pointer (some ⟨q.heap.size,0,none⟩),.int .u64 (x:Int),.pointer (some ⟨G.bg,0,none⟩),.agg #[.slice y z A],.func (.func 127) #[] #[.pointer (some ⟨T,0,none⟩)],.int .u64 (x:Int),y8,y9,an,ao,ap,aq,ar,au,av,aw],defers:=[] }) ?_ ?_
  ·refine wpIn_region_any (by kernel_rfl) ?_
   (try (change wpAnyIn _ _ _ _ _ _ _ _ _ (World.drew _)))
   refine dZ (by kernel_rfl) _ _ _ _ ?_
   repeat' first
    |(with_reducible (show AllReadyIn _ _ _ _ _ _ _ _ _ _ _);first|exact AllReadyIn.nil|refine AllReadyIn.cons rfl (fun a5 g=>?_) ?_)
    | (replace g:=g
       go_simp
       try
        refine⟨trivial,?_⟩;refine(IV.2 a6).mono ?_
        clear a6;rintro a9 X ⟨P,v',rfl,d,H,a7⟩;obtain⟨xo,xl,xc,rfl⟩:=a7.set.form;have e:=(O.out.1.call d H).1;have bl:=e.cell (b:=w.heap.size) (v:=.pointer (some ⟨G.bg,0,none⟩)) (T:=101) (by rw[af.out];simp);have bd:=d.reads.2.2.2.2.2.1;rw[e.ch.e1,e.ch.e2]at bd;obtain⟨ov,oq,ax,os⟩:=d.get (k:=7*x+5) (by omega);have co:X.cell? ⟨G.bn,x*7+5,none⟩=some ov:=by rw[← e.ch.e2,aC d.hbn,show x*7+5=7*x+5 by omega];exact ax
        have fo:X.frozen? ⟨G.bn,x*7+5,none⟩=false:=by rw[← e.ch.e2];exact aE d.hbn _
        have HX:=aA (And.intro d (And.intro H (And.intro a7 e.ch.e2)));clear d H a7 e os oq ax
       refine g _ _ ?_
       clear g a5)
    | (first|refine IX (i:=4) (v:=?_) rfl rfl (by kernel_rfl) (by decide +kernel) (by decide +kernel) (fun _ _ _ h=>h) ⟨Or.inl ⟨by rfl,?_⟩,fun _=>rfl⟩ ?_|refine IX (i:=6) (v:=?_) rfl rfl (by kernel_rfl) (by decide +kernel) (by decide +kernel) (fun _ _ _ h=>h) ⟨Or.inl ⟨by rfl,?_⟩,fun _=>rfl⟩ ?_|refine IX (i:=1) (v:=?_) rfl rfl (by kernel_rfl) (by decide +kernel) (by decide +kernel) (fun _ _ _ h=>h) ⟨Or.inl ⟨by rfl,?_⟩,fun _=>rfl⟩ ?_|refine IX (i:=2) (v:=?_) rfl rfl (by kernel_rfl) (by decide +kernel) (by decide +kernel) (fun _ _ _ h=>h) ⟨Or.inl ⟨by rfl,?_⟩,fun _=>rfl⟩ ?_|refine IX (i:=8) (v:=?_) rfl rfl (by kernel_rfl) (by decide +kernel) (by decide +kernel) (fun _ _ _ h=>h) ⟨Or.inl ⟨by rfl,?_⟩,fun _=>rfl⟩ ?_|refine IX (i:=9) (v:=?_) rfl rfl (by kernel_rfl) (by decide +kernel) (by decide +kernel) (fun _ _ _ h=>h) ⟨Or.inl ⟨by rfl,?_⟩,fun _=>rfl⟩ ?_
       rotate_left
       ·(intro w;go_simp;try (with_reducible rfl))
       try simp only[Act.put,I8,List.set_cons_zero,List.set_cons_succ])
    |refine IP (rs:=[0,5]) (by decide +kernel) (by simp) ?_
    |refine IP (rs:=[3,5]) (by decide +kernel) (by simp) ?_
    |refine IP (rs:=[5]) (by decide +kernel) (by simp) ?_
    |refine IP (rs:=[7]) (by decide +kernel) (by simp) ?_
    |refine IP (rs:=[10]) (by decide +kernel) (by simp) ?_
    |refine IP (rs:=[3,7]) (by decide +kernel) (by simp) ?_
    |refine IP (rs:=[3]) (by decide +kernel) (by simp) ?_
    |refine IP (rs:=[0,7]) (by decide +kernel) (by simp) ?_
    |refine IP (rs:=[0]) (by decide +kernel) (by simp) ?_
    | (refine wpAnyIn_done (by decide +kernel) ?_ _
       obtain⟨g1,g2,g3,g4⟩:=HX.out;refine⟨?_,_,_,_,_,_,_,_,_,_,_,rfl⟩;rw[← g4,show x*7+5=7*x+5 by omega];exact g1.kt g2 (by omega) (g3.set.low HZ.out) g3.out (fun b3 E=>(g3.set.lt E).1))
  rintro am X ⟨⟨P,d,H⟩,y8,y9,an,ao,ap,aq,ar,au,av,aw,rfl⟩;obtain⟨e,ay,az⟩:=O.out.1.call d H;have r:=aA (And.intro (fun D=>(O.out.2.1 D).trans (ay D)) (And.intro (O.out.2.2.trans az) e));clear d H e ay az O;gi_wp2
  refine⟨r.out.1 _,r.out.2.1,_,P,r.out.2.2,?_,HE.out.2.2⟩;rw[HE.out.1];exact HE.out.2.1
end
end Go.Proofs.YtiamlbhkiehilaaGreatDoor
