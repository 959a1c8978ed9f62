import Derived.Test.YtiamlbhkiehilaaGreatDoorKa23
import Derived.Test.YtiamlbhkiehilaaGreatDoorKa22
import Derived.Test.YtiamlbhkiehilaaGreatDoorKa38
import Derived.Test.YtiamlbhkiehilaaGreatDoorKa40
open Go renaming World→vF,bodyPost_ret→IG
open Go.Proofs.Tryz renaming prog→hE
open Go.World renaming cell?_of_block→J3
open List renaming mem_cons_self→Bx,mem_cons_of_mem→C1,mem_flatMap→Oq,getElem?_eq_some_iff→II
open Nat renaming le_refl→gO,lt_of_lt_of_le→A2
namespace Go.Proofs.YtiamlbhkiehilaaGreatDoor
set_option maxRecDepth 100000
set_option maxHeartbeats 4000000
section
open Go.RowKit Go.Shelf
attribute [local go_sem] Oper.semAt_some
variable {B:Nat} {c:Way} {n:Nat} {s:St}
theorem GCh.below{w w':vF}{G b:GV}(h:GCh w w' G b)(a:GM w B c n G s){N:Nat}(e:N≤B):Below N w w':=
 h.kb.below (by have:=a.hB;omega) (fun k d=>by have:=(a.cells d).1;omega)
abbrev yG(c:Way):Value:=.agg #[.int .i64 c.order,.bool c.cycles,.bool c.collapse,.bool c.subst,.bool c.deltas]
theorem Aq{n:Nat}(j:n≤40){d:List (Int × Nat × Nat)}(h:∀k p q,(k,p,q)∈d→p<n∧q<n):WF n (St.start n d):=by
 have m:∀(l:List (Int × Nat × Nat)) (s:St),WF n s→(∀k p q,(k,p,q)∈l→p<n∧q<n)→WF n (l.foldl (fun s f=>s.lay f.1 f.2.1 f.2.2) s):=by
  intro l;induction l with
  |nil=>exact fun s a _=>a
  |cons f r e=>intro s a b;obtain⟨k,p,q⟩:=f;exact e _ (a.lay (b k p q Bx).1 (b k p q Bx).2) (fun k p q o=>b k p q (C1 _ o))
 have t:∀(l:List Nat) (s:St),WF n s→(∀i∈l,i<n)→WF n (l.foldl (fun s i=>if(s.tg i).isEmpty then s else s.wait i) s):=by
  intro l;induction l with
  |nil=>exact fun s a _=>a
  |cons f r e=>
   intro s a b;refine e _ ?_ (fun i g=>b i (C1 _ g));show WF n (if(s.tg f).isEmpty then s else s.wait f);split
   ·exact a
   ·exact a.wait (b f Bx)
 exact t _ _ (m d _ (Fm j) h) (fun i g=>List.mem_range.1 g)
def Bxs(w:vF)(c:Way)(W:vF):Prop:=W.heap[w.heap.size]?=some (.cells #[.int .i64 c.order,.bool c.cycles,.bool c.collapse,.bool c.subst,.bool c.deltas] 24 (0,0))∧W.heap[w.heap.size+1]?=some (.cells #[.string ⟨#[]⟩,.int .i64 0] 31 (0,0))∧W.heap[w.heap.size+2]?=some (.cells #[.int .i64 0,.int .i64 0] 27 (0,0))∧Below w.heap.size w W
theorem Bxs.start(w:vF)(c:Way):Bxs w c (((w.alloc (.cells #[.int .i64 c.order,.bool c.cycles,.bool c.collapse,.bool c.subst,.bool c.deltas] 24)).alloc (.cells #[.string ⟨#[]⟩,.int .i64 0] 31)).alloc (.cells #[.int .i64 0,.int .i64 0] 27)):=by
 have a:(w.alloc (.cells #[.int .i64 c.order,.bool c.cycles,.bool c.collapse,.bool c.subst,.bool c.deltas] 24)).heap.size=w.heap.size+1:=by simp
 have b:((w.alloc (.cells #[.int .i64 c.order,.bool c.cycles,.bool c.collapse,.bool c.subst,.bool c.deltas] 24)).alloc (.cells #[.string ⟨#[]⟩,.int .i64 0] 31)).heap.size=w.heap.size+2:=by simp
 refine⟨aF (aF (aD _ _) _) _,aF ?_ _,?_,(((Below.refl _ _).alloc (gO _) _).alloc (by omega) _).alloc (by omega) _⟩
 ·rw[← a];exact aD _ _
 ·rw[← b];exact aD _ _
theorem Bxs.below{w W W':vF}{c:Way}(h:Bxs w c W)(a:Below W.heap.size W W'):Bxs w c W':=by obtain⟨b,d,e,f⟩:=h;exact⟨Below.fj a b (aB b),Below.fj a d (aB d),Below.fj a e (aB e),f.trans (a.mono f.size)⟩
theorem Bxs.gch{w W W':vF}{c:Way}(h:Bxs w c W){G f:GV}(e:GM W B c n G s)(a:GCh W W' G f)(m:w.heap.size+2<B):Bxs w c W':=by
 obtain⟨g,i,j,k⟩:=h;have d:∀b,b<B→b ∉ G.foot:=fun b o l=>by have:=(e.cells l).1;omega
 exact⟨a.kb.heap g (d _ (by omega)),a.kb.heap i (d _ (by omega)),a.kb.heap j (d _ (by omega)),k.trans (a.below e (by omega))⟩
theorem Ar(c:Way)(w:vF)(a:0≤c.order∧c.order≤2):Calls hE 55 #[yG c] w fun e w'=>e=.returned (.bool true)∧Below w.heap.size w w':=by
 obtain⟨b,d⟩:=a;go_enter Tryz.func55,Tryz.ntmps55
 go_wp2_with fail
 exact IG (v:=.bool true) (by simp[results,Tryz.results55,go_sem]) rfl ⟨rfl,(Below.refl _ _).alloc (gO _) _⟩
theorem GM.canon{w:vF}{G:GV}(h:GM w B c n G s)(m:Nat):s.ss.getD m []=mkS ((s.ss.getD m []).contains ·):=by
 by_cases a:m<7*n
 ·obtain⟨v,q,d,b⟩:=h.get (k:=m) a;exact b.canon
 ·have e:s.ss.getD m []=[]:=by rw[List.getD_eq_getElem?_getD,List.getElem?_eq_none (by rw[h.lss];omega)];rfl
  rw[e];simp[mkS]
theorem As(a4:ByteArray)(c:Way)(r:List Fct)(d:List ByteArray)(k:Nat)(H K sF:St)(w:vF)(m:Int)(hs:a4.size≤maxLen)(L:w.cell? ⟨1,0,none⟩=some (.int .i64 m))(av:1<w.heap.size)(M:bN w)(I:0<w.heap.size)
  (ho:0≤c.order∧c.order≤2) (hp:aW a4=(r,0,0)) (N:d=dV (bI r)) (a5:H=St.start d.length (r.map (lW d)))
  (aw:c.order=2→∀B,tR B) (hN:¬pw c→∀B,0<B→wK B c d.length∧oD B c d.length∧BC B c d.length k∧(c.subst=true→tA B c d.length k)∧(c.collapse=true→tB B c d.length k))
  (hA:H.lookAhead k c d.length=some K) (ae:WU d.length H K) (hF:St.solveL k c k K=some sF) (hu:sF.un+200000<4611686018427387904)
  (ax:∀J:St,c.subst=true→St.substitute k d.length k H=some J→WU d.length H J) (ay:∀J:St,c.collapse=true→J.findTwins k d.length=some K→J.un≤K.un)
  (RS:List RowD) (az:(∀m,sF.ss.getD m []=mkS ((sF.ss.getD m []).contains ·))→lV sF d=RS) (cq:RS.length≤1000) (aV:fitsR RS) (b4:(aJ RS).length≤1000000000000) :
  Calls hE 32 #[.string a4,yG c] w fun e w'=>e=.returned (.tuple #[.agg #[.string ⟨(aJ RS).toArray⟩,.int .i64 (sF.un:Int)],.agg #[.int .i64 0,.int .i64 0]])∧Below w.heap.size w w':=by
 have a6:=qT hp;obtain⟨cr,b5⟩:=kI a6;have b6:=pI a6;have cA:r.length≤120:=by
  rcases b5 with rfl|h
  ·simp
  ·simpa using h
 have b7:d.length≤40:=by
  rw[N,fN];rcases nW a6 with rfl|h
  ·decide
  ·simpa using h
 have a7:∀f∈r,(1≤f.k∧f.k≤4)∧f.p∈d∧f.q∈d:=by
  intro f O;refine⟨b6 f O,?_,?_⟩
  ·rw[N];exact mS.2 (Oq.2 ⟨f,O,by simp⟩)
  ·rw[N];exact mS.2 (Oq.2 ⟨f,O,by simp⟩)
 have a8:Asc d:=by rw[N];exact iE _
 have b8:WF d.length H:=by rw[a5];refine Aq b7 (fun k p cB L=>?_);obtain⟨f,O,e⟩:=List.mem_map.1 L;unfold lW at e;injection e with _ e;injection e with t P;have i:=fH a8 (a7 f O).2.1;have g:=fH a8 (a7 f O).2.2;rw[← t,← P];exact⟨(II.1 i).1,(II.1 g).1⟩
 have HP:=aA (fun(W:vF) (h:W.cell? ⟨1,0,none⟩=some (.int .i64 m))=>pH a4 W m hs h);have af:=aA (fun(v:Value) (W:vF) (u:cV v r W)=>Aj v r W (by omega) u);have ag:=aA (fun(v Q:Value) (W:vF) (u:cV v r W) (D:cY Q d W)=>yE v Q r d c W (by omega) u D b7 a8 a7 ho);rw[← a5]at ag;rw[← N]at af;have b9:WF d.length sF:=(ae.1.iz k hF).1;have ba:=aA (fun(B:Nat) (W:vF) (G:GV) (h:GM W B c d.length G H) (M:bN W) (I:0<B)=>BE (B:=B) k (fun h=>aw h B) (fun h=>hN h B I) K sF W G h b8 M I (fun _=>by rw[a5];exact Ao _ _) hA ae hF hu ax ay)
 have bb:=aA (fun(B:Nat) (o:Option Addr) (x:Nat) (W:vF) (G:GV) (h:GM W B c d.length G sF) (M:bN W) (I:0<B) (D:cY (.slice o d.length x) d W) (cs:d≠[]→∀a:Addr,o=some a→a.block<B)=>DF o x d W G h b9 M I D cs);have ah:=aA (fun(v:Value) (W:vF) (u:dP v RS W)=>xB v RS W (by unfold maxLen;omega) u aV b4);have bc:=aA az;obtain⟨X,hX⟩:∃X:ByteArray,X=⟨(aJ RS).toArray⟩:=⟨_,rfl⟩;rw[← hX]at ah ⊢;clear hX;have bd:=aA (fun W=>Ar c W ho);have be:=aA hp;have S:=aA (And.intro L (And.intro av (And.intro M I)));clear a6 cr b5 b6 a7 b8 b9 a8 az cq aV b4 ax ay hF ae hA hN aw hs hp L av M I hu N a5;have ai:=Bxs.start w c;go_enter Tryz.func32,Tryz.ntmps32
 go_wp2_with fail
 generalize ((w.alloc (.cells #[.int .i64 c.order,.bool c.cycles,.bool c.collapse,.bool c.subst,.bool c.deltas] 24)).alloc (.cells #[.string ⟨#[]⟩,.int .i64 0] 31)).alloc (.cells #[.int .i64 0,.int .i64 0] 27)=W3 at ai ⊢;refine(bd.out W3).mono ?_
 rintro e W4 ⟨rfl,bf⟩;have aj:=ai.below bf;clear ai bf;go_wp2_with fail
 refine(HP.out W4 ((aj.2.2.2.cell (p:=⟨1,0,none⟩) S.out.2.1).trans S.out.1)).mono ?_
 rintro e W5 ⟨v,rfl,ak,bg⟩;rw[be.out]at ak ⊢;have bh:=aj.below bg;have al:=bh.below ((Below.refl _ W5).alloc (gO _) (.cells #[.int .i64 0,.int .i64 0] 27));have a9:cV v r (W5.alloc (.cells #[.int .i64 0,.int .i64 0] 27)):=dY (ak.alloc _);clear aj bg bh ak;generalize am:W5.alloc (.cells #[.int .i64 0,.int .i64 0] 27)=W6 at al a9;have cC:W6.heap.size=W5.heap.size+1:=by rw[← am];simp
 have bi:=aA am;clear am;go_wp2_with fail
 rw[bi.out];refine(af.out v W6 a9).mono ?_
 rintro e j ⟨Q,rfl,D,an⟩;have E:=al.below an;have bj:=a9.below an;clear al a9 an bi;have d0:j.cell? ⟨w.heap.size,0,none⟩=some (.int .i64 c.order):=by rw[aC E.1];rfl
 have d1:j.cell? ⟨w.heap.size,1,none⟩=some (.bool c.cycles):=by rw[aC E.1];rfl
 have d2:j.cell? ⟨w.heap.size,2,none⟩=some (.bool c.collapse):=by rw[aC E.1];rfl
 have d3:j.cell? ⟨w.heap.size,3,none⟩=some (.bool c.subst):=by rw[aC E.1];rfl
 have d4:j.cell? ⟨w.heap.size,4,none⟩=some (.bool c.deltas):=by rw[aC E.1];rfl
 go_wp2_with fail
 refine(ag.out v Q j bj D).mono ?_
 rintro e W8 ⟨G,rfl,T,aa⟩;have ao:=E.below aa;have bk:w.heap.size+2<j.heap.size:=aB E.2.2.1;have ap:bN W8:=S.out.2.2.1.kb (Kb.gi ao.2.2.2 []) (by simp);have bl:cY Q d W8:=by obtain⟨o,x,t,P,e3,U⟩:=D;refine⟨o,x,t,P,e3,fun F=>?_⟩;obtain⟨b,ab,i,g,z⟩:=U F;exact⟨b,ab,i,A2 g aa.size,z.below aa g⟩
 have aq:d≠[]→∀o x,Q=.slice o d.length x→∀a:Addr,o=some a→a.block<j.heap.size:=by intro F o x e a ha;obtain⟨cF,cL,t,P,e3,U⟩:=D;rw[t]at e;injection e with e _ _;obtain⟨b,ab,i,g,z⟩:=U F;rw[← e,i]at ha;injection ha with ha;rw[← ha];exact g
 have bm:=bl;obtain⟨o,x,rfl,_⟩:=bl;clear E bj aa D d0 d1 d2 d3 d4;have cO:=S.out.2.2.2;go_wp2_with fail
 refine(ba.out j.heap.size W8 G T ap (by omega)).mono ?_
 rintro e A ⟨rfl,G9,V,C⟩;have bn:=ao.gch T C bk;have ar:∀ {b:Nat},b<j.heap.size→b ∉ G.foot:=fun {b} Y L=>by have:=(T.cells L).1;omega
 have bo:bN A:=ap.kb C.kb (ar (by omega));have bp:cY (.slice o d.length x) d A:=by obtain⟨ct,cu,t,P,e3,U⟩:=bm;refine⟨ct,cu,t,P,e3,fun F=>?_⟩;obtain⟨b,ab,i,g,z⟩:=U F;injection t with t _ _;have cv:=aq F _ _ rfl _ (t.trans i);refine⟨b,ab,i,A2 g C.kb.size,fun cw cx hi=>?_⟩;rw[← z cw cx hi];exact J3 (C.kb.block b g (ar cv))
 have ad:=bb.out j.heap.size o x A.drew G9 (V.fresh (Kb.refl [] A).drew) (bo.kb (L:=[]) (Kb.refl [] A).drew (by simp)) (by omega) bp (fun F=>aq F _ _ rfl);rw[C.e1]at ad;have cW:A.cell? ⟨G.bg,9,none⟩=some (.int .i64 (sF.un:Int)):=by rw[← C.e1];exact V.reads.2.2.2.2.2.2.2.1
 have au:Hid (∀R q,dP R (lV sF d) q→∀Z,GM q j.heap.size c d.length Z sF→GCh A.drew q G9 Z→q.cell? ⟨G.bg,9,none⟩=some (.int .i64 (sF.un:Int))∧Calls hE 59 #[R] q fun e l=>e=.returned (.string X)∧l.cell? ⟨G.bg,9,none⟩=some (.int .i64 (sF.un:Int))∧Bxs w c l):=by
  refine aA (fun R q u Z i g=>?_);have z:q.cell? ⟨G.bg,9,none⟩=some (.int .i64 (sF.un:Int)):=by rw[← C.e1,← g.e1];exact i.reads.2.2.2.2.2.2.2.1
  refine⟨z,?_⟩;refine(ah.out R q (by rw[← bc.out V.canon];exact u)).mono ?_
  rintro e l ⟨rfl,Y⟩;have cy:Bxs w c q:=Bxs.gch (B:=j.heap.size) (n:=d.length) (s:=sF) (G:=G9) (bn.below (by exact(Below.refl _ A).drew)) (V.fresh (Kb.refl [] A).drew) g bk;refine⟨rfl,?_,cy.below Y⟩;rw[← z];exact J3 (Y.block G.bg (by rw[← C.e1,← g.e1];exact aB i.hbg))
 have bq:Hid (∀l,Bxs w c l→∃y,((((l.setCell ⟨w.heap.size+1,0,none⟩ (.string X)).setCell ⟨w.heap.size+1,1,none⟩ (.int .i64 (sF.un:Int))).setCell ⟨w.heap.size+1+1,0,none⟩ (.int .i64 0)).setCell ⟨w.heap.size+1+1,1,none⟩ (.int .i64 0))=y∧y.heap[w.heap.size+1]?=some (.cells #[.string X,.int .i64 (sF.un:Int)] 31 (0,0))∧y.heap[w.heap.size+1+1]?=some (.cells #[.int .i64 0,.int .i64 0] 27 (0,0))∧Below w.heap.size w y):=by
  refine aA (fun l h=>⟨_,rfl,?_⟩);obtain⟨i,g,z,h4⟩:=h;have J:=aI g 0 (.string X);have s2:=aI J 1 (.int .i64 (sF.un:Int));have k1:Kb [w.heap.size+1] l ((l.setCell ⟨w.heap.size+1,0,none⟩ (.string X)).setCell ⟨w.heap.size+1,1,none⟩ (.int .i64 (sF.un:Int))):=((Kb.refl _ _).setCell (p:=⟨w.heap.size+1,0,none⟩) (.inl (by simp)) _).setCell (p:=⟨w.heap.size+1,1,none⟩) (.inl (by simp)) _;have t0:=k1.heap z (by simp);have t1:=aI t0 0 (.int .i64 0);have t2:=aI t1 1 (.int .i64 0);generalize (l.setCell ⟨w.heap.size+1,0,none⟩ (.string X)).setCell ⟨w.heap.size+1,1,none⟩ (.int .i64 (sF.un:Int))=y at *;have k2:Kb [w.heap.size+2] y ((y.setCell ⟨w.heap.size+2,0,none⟩ (.int .i64 0)).setCell ⟨w.heap.size+2,1,none⟩ (.int .i64 0)):=((Kb.refl _ _).setCell (p:=⟨w.heap.size+2,0,none⟩) (.inl (by simp)) _).setCell (p:=⟨w.heap.size+2,1,none⟩) (.inl (by simp)) _
  refine⟨k2.heap s2 (by simp),t2,?_⟩;have b1:Below w.heap.size l y:=k1.below h4.size (by intro k hk;simp at hk;omega);have b2:Below w.heap.size y _:=k2.below (Nat.le_trans h4.size k1.size) (by intro k hk;simp at hk;omega);exact(h4.trans b1).trans b2
 have d5:w.heap.size+2<G.bg:=by have:=(T.cells (b:=G.bg) (by unfold GV.foot;simp)).1;omega
 clear T C V bn bo bp ao ap bm aq ar bd HP af ag ba bb ah S be bc;go_wp2_with fail
 refine jP (K:=fun a W=>∃x0 x1 x2 x3 x6 x7 x8 x9 br bs bt bu bv bw bx bz bF c0 c1 c2 c3 c4 c5 c6 c7 c8 c9 ca cb cc cd ce cf cg ch ci cj ck cl cm cn,(W.heap[w.heap.size+1]?=some (.cells #[.string X,.int .i64 (sF.un:Int)] 31 (0,0))∧W.heap[w.heap.size+1+1]?=some (.cells #[.int .i64 0,.int .i64 0] 27 (0,0))∧Below w.heap.size w W)∧a={ tmps:=#[x0,x1,x2,x3,.pointer (some ⟨w.heap.size+1,0,none⟩),.pointer (some ⟨w.heap.size+1+1,0,none⟩),x6,x7,x8,x9,br,bs,bt,bu,bv,bw,bx,bz,bF,c0,c1,c2,c3,c4,c5,c6,c7,c8,c9,ca,cb,cc,cd,ce,cf,cg,ch,ci,cj,ck,cl,cm,cn],defers:=[] }) ?_ ?_
 ·go_region_with (first
   |(refine ad.mono ?_;clear ad;rintro e q ⟨R,Z,rfl,u,i,g⟩;obtain⟨d9,co⟩:=au.out R q u Z i g;clear i g u au)
   | (refine co.mono ?_;clear co;rintro e l ⟨rfl,da,cp⟩;obtain⟨y,db,cz⟩:=bq.out l cp;obtain⟨_,g1,g2,_⟩:=cp;obtain⟨a0,a1,a2,a3⟩:=aH g1;obtain⟨b0,b1,b2,b3⟩:=aH g2;clear g1 g2))
  all_goals exact⟨_,_,_,_,_,_,_,_,_,_,_,_,_,_,_,_,_,_,_,_,_,_,_,_,_,_,_,_,_,_,_,_,_,_,_,_,_,_,_,_,_,cz,rfl⟩
 rintro a W ⟨x0,x1,x2,x3,x6,x7,x8,x9,br,bs,bt,bu,bv,bw,bx,bz,bF,c0,c1,c2,c3,c4,c5,c6,c7,c8,c9,ca,cb,cc,cd,ce,cf,cg,ch,ci,cj,ck,cl,cm,cn,⟨g1,g2,Y⟩,rfl⟩;obtain⟨a0,a1,_,_⟩:=aH g1;obtain⟨b0,b1,_,_⟩:=aH g2;clear g1 g2 bq au ad;go_wp2;exact IG (v:=.tuple #[.agg #[.string X,.int .i64 (sF.un:Int)],.agg #[.int .i64 0,.int .i64 0]]) (by simp[results,Tryz.results32,go_sem,a0,a1,b0,b1]) rfl ⟨rfl,Y⟩
theorem Bxs.fin{w b:vF}{c:Way}(h:Bxs w c b)(t:ByteArray)(u k n:Int):∃a,((((b.setCell ⟨w.heap.size+1,0,none⟩ (.string t)).setCell ⟨w.heap.size+1,1,none⟩ (.int .i64 u)).setCell ⟨w.heap.size+1+1,0,none⟩ (.int .i64 k)).setCell ⟨w.heap.size+1+1,1,none⟩ (.int .i64 n))=a∧a.heap[w.heap.size+1]?=some (.cells #[.string t,.int .i64 u] 31 (0,0))∧a.heap[w.heap.size+1+1]?=some (.cells #[.int .i64 k,.int .i64 n] 27 (0,0))∧Below w.heap.size w a:=by
 refine⟨_,rfl,?_⟩;obtain⟨z,i,j,d⟩:=h;have l:=aI i 0 (.string t);have m:=aI l 1 (.int .i64 u);have e:Kb [w.heap.size+1] b ((b.setCell ⟨w.heap.size+1,0,none⟩ (.string t)).setCell ⟨w.heap.size+1,1,none⟩ (.int .i64 u)):=((Kb.refl _ _).setCell (p:=⟨w.heap.size+1,0,none⟩) (.inl (by simp)) _).setCell (p:=⟨w.heap.size+1,1,none⟩) (.inl (by simp)) _;have o:=e.heap j (by simp);have q:=aI o 0 (.int .i64 k);have r:=aI q 1 (.int .i64 n);generalize (b.setCell ⟨w.heap.size+1,0,none⟩ (.string t)).setCell ⟨w.heap.size+1,1,none⟩ (.int .i64 u)=a at *;have g:Kb [w.heap.size+2] a ((a.setCell ⟨w.heap.size+2,0,none⟩ (.int .i64 k)).setCell ⟨w.heap.size+2,1,none⟩ (.int .i64 n)):=((Kb.refl _ _).setCell (p:=⟨w.heap.size+2,0,none⟩) (.inl (by simp)) _).setCell (p:=⟨w.heap.size+2,1,none⟩) (.inl (by simp)) _;refine⟨g.heap m (by simp),r,?_⟩
 have x:Below w.heap.size b a:=e.below d.size (by intro k f;simp at f;omega);have y:Below w.heap.size a _:=g.below (Nat.le_trans d.size e.size) (by intro k f;simp at f;omega);exact(d.trans x).trans y
theorem At(f:ByteArray)(c:Way)(t:ByteArray)(u k n:Int)(w:vF)(H:∀W,Below w.heap.size w W→Calls hE 32 #[.string f,yG c] W fun e w'=>e=.returned (.tuple #[.agg #[.string t,.int .i64 u],.agg #[.int .i64 k,.int .i64 n]])∧Below W.heap.size W w') :
  Calls hE 12 #[.string f,yG c] w fun e w'=>e=.returned (.tuple #[.agg #[.string t,.int .i64 u],.agg #[.int .i64 k,.int .i64 n]])∧Below w.heap.size w w':=by
 have a:=Bxs.start w c;go_enter Tryz.func12,Tryz.ntmps12
 go_wp2_with fail
 generalize ((w.alloc (.cells #[.int .i64 c.order,.bool c.cycles,.bool c.collapse,.bool c.subst,.bool c.deltas] 24)).alloc (.cells #[.string ⟨#[]⟩,.int .i64 0] 31)).alloc (.cells #[.int .i64 0,.int .i64 0] 27)=i at a ⊢;refine(H i a.2.2.2).mono ?_
 rintro e r ⟨rfl,g⟩;have h:=a.below g;obtain⟨x,y,j⟩:=h.fin t u k n;obtain⟨_,b,d,_⟩:=h;obtain⟨z,A,C,D⟩:=aH b;obtain⟨E,F,G,I⟩:=aH d;clear b d a g H;go_wp2_with fail
 obtain⟨b,d,l⟩:=j;obtain⟨m,o,_,_⟩:=aH b;obtain⟨p,q,_,_⟩:=aH d;exact IG (v:=.tuple #[.agg #[.string t,.int .i64 u],.agg #[.int .i64 k,.int .i64 n]]) (by simp[results,Tryz.results12,go_sem,m,o,p,q]) rfl ⟨rfl,l⟩
end
end Go.Proofs.YtiamlbhkiehilaaGreatDoor
