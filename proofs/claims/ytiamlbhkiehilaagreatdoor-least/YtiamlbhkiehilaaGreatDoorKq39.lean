import Derived.Test.YtiamlbhkiehilaaGreatDoorKq21
import Derived.Test.YtiamlbhkiehilaaGreatDoorKq20
import Derived.Test.YtiamlbhkiehilaaGreatDoorKq36
import Derived.Test.YtiamlbhkiehilaaGreatDoorKq37
import Derived.Test.YtiamlbhkiehilaaGreatDoorKq38
namespace Go.Proofs.YtiamlbhkiehilaaGreatDoor
section
open Go.RowKit Go.Shelf
attribute [local go_sem] Oper.semAt_some
variable {B:Nat} {c:Way} {n:Nat} {s:St}
theorem GCh.below{w w':World}{G G':GV}(h:GCh w w' G G')(hG:GM w B c n G s){N:Nat}(hN:N≤B):Below N w w':=
 h.kb.below (by have:=hG.hB;omega) (fun k hk=>by have:=(hG.cells hk).1;omega)
abbrev wayV(c:Way):Value:=.agg #[.int .i64 c.order,.bool c.cycles,.bool c.collapse,.bool c.subst,.bool c.deltas]
theorem start_wf{n:Nat}(hn:n≤40){fs:List (Int × Nat × Nat)}(h:∀k p q,(k,p,q)∈fs→p<n∧q<n):WF n (St.start n fs):=by
 have h1:∀(l:List (Int × Nat × Nat)) (s:St),WF n s→(∀k p q,(k,p,q)∈l→p<n∧q<n)→WF n (l.foldl (fun s f=>s.lay f.1 f.2.1 f.2.2) s):=by
  intro l;induction l with
  |nil=>exact fun s hs _=>hs
  |cons f r ih=>
   intro s hs hl;obtain⟨k,p,q⟩:=f;exact ih _ (hs.lay (hl k p q List.mem_cons_self).1 (hl k p q List.mem_cons_self).2) (fun k p q hm=>hl k p q (List.mem_cons_of_mem _ hm))
 have h2:∀(l:List Nat) (s:St),WF n s→(∀i∈l,i<n)→WF n (l.foldl (fun s i=>if(s.tg i).isEmpty then s else s.wait i) s):=by
  intro l;induction l with
  |nil=>exact fun s hs _=>hs
  |cons f r ih=>
   intro s hs hl;refine ih _ ?_ (fun i hi=>hl i (List.mem_cons_of_mem _ hi));show WF n (if(s.tg f).isEmpty then s else s.wait f);split
   ·exact hs
   ·exact hs.wait (hl f List.mem_cons_self)
 exact h2 _ _ (h1 fs _ (wf_st0 hn) h) (fun i hi=>List.mem_range.1 hi)
def Bxs(w:World)(c:Way)(W:World):Prop:=W.heap[w.heap.size]?=some (.cells #[.int .i64 c.order,.bool c.cycles,.bool c.collapse,.bool c.subst,.bool c.deltas] 24 (0,0))∧W.heap[w.heap.size+1]?=some (.cells #[.string ⟨#[]⟩,.int .i64 0] 31 (0,0))∧W.heap[w.heap.size+2]?=some (.cells #[.int .i64 0,.int .i64 0] 27 (0,0))∧Below w.heap.size w W
theorem Bxs.start(w:World)(c:Way):Bxs w c (((w.alloc (.cells #[.int .i64 c.order,.bool c.cycles,.bool c.collapse,.bool c.subst,.bool c.deltas] 24)).alloc (.cells #[.string ⟨#[]⟩,.int .i64 0] 31)).alloc (.cells #[.int .i64 0,.int .i64 0] 27)):=by
 have z1:(w.alloc (.cells #[.int .i64 c.order,.bool c.cycles,.bool c.collapse,.bool c.subst,.bool c.deltas] 24)).heap.size=w.heap.size+1:=by simp
 have z2:((w.alloc (.cells #[.int .i64 c.order,.bool c.cycles,.bool c.collapse,.bool c.subst,.bool c.deltas] 24)).alloc (.cells #[.string ⟨#[]⟩,.int .i64 0] 31)).heap.size=w.heap.size+2:=by simp
 refine⟨heap_old (heap_old (heap_new _ _) _) _,heap_old ?_ _,?_,(((Below.refl _ _).alloc (Nat.le_refl _) _).alloc (by omega) _).alloc (by omega) _⟩
 ·rw[← z1];exact heap_new _ _
 ·rw[← z2];exact heap_new _ _
theorem Bxs.below{w W W':World}{c:Way}(h:Bxs w c W)(hb:Below W.heap.size W W'):Bxs w c W':=by
 obtain⟨h1,h2,h3,h4⟩:=h;exact⟨Below.heapAt hb h1 (lt_of_heap h1),Below.heapAt hb h2 (lt_of_heap h2),Below.heapAt hb h3 (lt_of_heap h3),h4.trans (hb.mono h4.size)⟩
theorem Bxs.gch{w W W':World}{c:Way}(h:Bxs w c W){G G':GV}(hG:GM W B c n G s)(hC:GCh W W' G G')(hB:w.heap.size+2<B):Bxs w c W':=by
 obtain⟨h1,h2,h3,h4⟩:=h;have hf:∀b,b<B→b ∉ G.foot:=fun b hb hm=>by have:=(hG.cells hm).1;omega
 exact⟨hC.kb.heap h1 (hf _ (by omega)),hC.kb.heap h2 (hf _ (by omega)),hC.kb.heap h3 (hf _ (by omega)),h4.trans (hC.below hG (by omega))⟩
set_option maxRecDepth 100000 in
theorem mayBe_ok(c:Way)(w:World)(ho:0≤c.order∧c.order≤2):Calls Tryz.prog 55 #[wayV c] w fun e w'=>e=.returned (.bool true)∧Below w.heap.size w w':=by
 obtain⟨h1,h2⟩:=ho;go_enter Tryz.func55,Tryz.ntmps55
 go_wp2_with fail
 exact bodyPost_ret (v:=.bool true) (by simp[results,Tryz.results55,go_sem]) rfl ⟨rfl,(Below.refl _ _).alloc (Nat.le_refl _) _⟩
theorem GM.canon{w:World}{G:GV}(h:GM w B c n G s)(m:Nat):s.ss.getD m []=mkS ((s.ss.getD m []).contains ·):=by
 by_cases hm:m<7*n
 ·obtain⟨v,q,q',qs⟩:=h.get (k:=m) hm;exact qs.canon
 ·have e:s.ss.getD m []=[]:=by rw[List.getD_eq_getElem?_getD,List.getElem?_eq_none (by rw[h.lss];omega)];rfl
  rw[e];simp[mkS]
set_option maxRecDepth 100000 in
set_option maxHeartbeats 4000000 in
theorem panalyze_ok(file:ByteArray)(c:Way)(fs:List Fct)(ns:List ByteArray)(k:Nat)(s0 sA sF:St)(w:World)(m:Int)(hs:file.size≤maxLen)(hm:w.cell? ⟨1,0,none⟩=some (.int .i64 m))(hml:1<w.heap.size)(hT:TabAt w)(hTl:0<w.heap.size)
  (ho:0≤c.order∧c.order≤2) (hp:parseB file=(fs,0,0)) (hns:ns=namesS (strsOf fs)) (hs0:s0=St.start ns.length (fs.map (numF ns)))
  (hSo:c.order=2→∀B,SortOK B) (hN:¬pw c→∀B,0<B→SusOK B c ns.length∧MergeOK B c ns.length∧LookOK B c ns.length k∧(c.subst=true→SubstOK B c ns.length k)∧(c.collapse=true→TwinsOK B c ns.length k))
  (hA:s0.lookAhead k c ns.length=some sA) (hwA:WU ns.length s0 sA) (hF:St.solveL k c k sA=some sF) (hu:sF.un+200000<4611686018427387904)
  (hmid:∀s1:St,c.subst=true→St.substitute k ns.length k s0=some s1→WU ns.length s0 s1) (hmid2:∀s1:St,c.collapse=true→s1.findTwins k ns.length=some sA→s1.un≤sA.un)
  (RS:List RowD) (hRS:(∀m,sF.ss.getD m []=mkS ((sF.ss.getD m []).contains ·))→rowsS sF ns=RS) (hRl:RS.length≤1000) (hfit:fitsR RS) (hbound:(rowsText RS).length≤1000000000000) :
  Calls Tryz.prog 32 #[.string file,wayV c] w fun e w'=>e=.returned (.tuple #[.agg #[.string ⟨(rowsText RS).toArray⟩,.int .i64 (sF.un:Int)],.agg #[.int .i64 0,.int .i64 0]])∧Below w.heap.size w w':=by
 have hok:=parse_ok hp;obtain⟨hsm,hl120⟩:=okGo_small hok;have hkd:=okGo_kinds hok;have hfl:fs.length≤120:=by
  rcases hl120 with rfl|h
  ·simp
  ·simpa using h
 have hnl:ns.length≤40:=by
  rw[hns,names_length];rcases okGo_dcount hok with rfl|h
  ·decide
  ·simpa using h
 have hin:∀f∈fs,(1≤f.k∧f.k≤4)∧f.p∈ns∧f.q∈ns:=by
  intro f hf;refine⟨hkd f hf,?_,?_⟩
  ·rw[hns];exact mem_namesS.2 (List.mem_flatMap.2 ⟨f,hf,by simp⟩)
  ·rw[hns];exact mem_namesS.2 (List.mem_flatMap.2 ⟨f,hf,by simp⟩)
 have hasc:Asc ns:=by rw[hns];exact asc_names _
 have hw0:WF ns.length s0:=by
  rw[hs0];refine start_wf hnl (fun k p q hm=>?_);obtain⟨f,hf,e⟩:=List.mem_map.1 hm;unfold numF at e;injection e with _ e;injection e with e1 e2;have h1:=asc_mem hasc (hin f hf).2.1;have h2:=asc_mem hasc (hin f hf).2.2;rw[← e1,← e2];exact⟨(List.getElem?_eq_some_iff.1 h1).1,(List.getElem?_eq_some_iff.1 h2).1⟩
 have HP:=hide (fun(W:World) (h:W.cell? ⟨1,0,none⟩=some (.int .i64 m))=>fparse_any file W m hs h);have HNm:=hide (fun(v:Value) (W:World) (hv:IsFacts v fs W)=>namesOf_any v fs W (by omega) hv);have HNG:=hide (fun(v vn:Value) (W:World) (hv:IsFacts v fs W) (hvn:IsStrs vn ns W)=>newGraph_any v vn fs ns c W (by omega) hv hvn hnl hasc hin ho);rw[← hs0]at HNG;rw[← hns]at HNm;have hwF:WF ns.length sF:=(hwA.1.wsolveL k hF).1;have HSv:=hide (fun(B:Nat) (W:World) (G:GV) (h:GM W B c ns.length G s0) (hT:TabAt W) (hTl:0<B)=>gsolve_any (B:=B) k (fun h=>hSo h B) (fun h=>hN h B hTl) sA sF W G h hw0 hT hTl (fun _=>by rw[hs0];exact plain_start _ _) hA hwA hF hu hmid hmid2)
 have HRw:=hide (fun(B:Nat) (ao:Option Addr) (cap:Nat) (W:World) (G:GV) (h:GM W B c ns.length G sF) (hT:TabAt W) (hTl:0<B) (hvn:IsStrs (.slice ao ns.length cap) ns W) (hnb:ns≠[]→∀a:Addr,ao=some a→a.block<B)=>grows_any ao cap ns W G h hwF hT hTl hvn hnb);have HWr:=hide (fun(v:Value) (W:World) (hv:IsRows v RS W)=>write_any v RS W (by unfold maxLen;omega) hv hfit hbound);have HRS:=hide hRS;obtain⟨X,hX⟩:∃X:ByteArray,X=⟨(rowsText RS).toArray⟩:=⟨_,rfl⟩;rw[← hX]at HWr ⊢;clear hX;have HMB:=hide (fun W=>mayBe_ok c W ho);have HPp:=hide hp;have HX:=hide (And.intro hm (And.intro hml (And.intro hT hTl)));clear hok hsm hl120 hkd hin hw0 hwF hasc hRS hRl hfit hbound hmid hmid2 hF hwA hA hN hSo hs hp hm hml hT hTl hu hns hs0;have hb3:=Bxs.start w c;go_enter Tryz.func32,Tryz.ntmps32
 go_wp2_with fail
 generalize ((w.alloc (.cells #[.int .i64 c.order,.bool c.cycles,.bool c.collapse,.bool c.subst,.bool c.deltas] 24)).alloc (.cells #[.string ⟨#[]⟩,.int .i64 0] 31)).alloc (.cells #[.int .i64 0,.int .i64 0] 27)=W3 at hb3 ⊢;refine(HMB.out W3).mono ?_
 rintro e W4 ⟨rfl,hb4⟩;have hB4:=hb3.below hb4;clear hb3 hb4;go_wp2_with fail
 refine(HP.out W4 ((hB4.2.2.2.cell (p:=⟨1,0,none⟩) HX.out.2.1).trans HX.out.1)).mono ?_
 rintro e W5 ⟨v,rfl,hown,hb5⟩;rw[HPp.out]at hown ⊢;have hB5:=hB4.below hb5;have hB6:=hB5.below ((Below.refl _ W5).alloc (Nat.le_refl _) (.cells #[.int .i64 0,.int .i64 0] 27));have hF6:IsFacts v fs (W5.alloc (.cells #[.int .i64 0,.int .i64 0] 27)):=facts_of_owns (hown.alloc _);clear hB4 hb5 hB5 hown;generalize hW6:W5.alloc (.cells #[.int .i64 0,.int .i64 0] 27)=W6 at hB6 hF6;have hz6:W6.heap.size=W5.heap.size+1:=by rw[← hW6];simp
 have hHW6:=hide hW6;clear hW6;go_wp2_with fail
 rw[hHW6.out];refine(HNm.out v W6 hF6).mono ?_
 rintro e W7 ⟨vn,rfl,hvn,hb7⟩;have hB7:=hB6.below hb7;have hF7:=hF6.below hb7;clear hB6 hF6 hb7 hHW6;have d0:W7.cell? ⟨w.heap.size,0,none⟩=some (.int .i64 c.order):=by rw[cell_at hB7.1];rfl
 have d1:W7.cell? ⟨w.heap.size,1,none⟩=some (.bool c.cycles):=by rw[cell_at hB7.1];rfl
 have d2:W7.cell? ⟨w.heap.size,2,none⟩=some (.bool c.collapse):=by rw[cell_at hB7.1];rfl
 have d3:W7.cell? ⟨w.heap.size,3,none⟩=some (.bool c.subst):=by rw[cell_at hB7.1];rfl
 have d4:W7.cell? ⟨w.heap.size,4,none⟩=some (.bool c.deltas):=by rw[cell_at hB7.1];rfl
 go_wp2_with fail
 refine(HNG.out v vn W7 hF7 hvn).mono ?_
 rintro e W8 ⟨G,rfl,hG,hb8⟩;have hB8:=hB7.below hb8;have hlt7:w.heap.size+2<W7.heap.size:=lt_of_heap hB7.2.2.1;have hT8:TabAt W8:=HX.out.2.2.1.kb (Kb.of_below hB8.2.2.2 []) (by simp);have hvn8:IsStrs vn ns W8:=by
  obtain⟨ao,cap,e1,e2,e3,e4⟩:=hvn;refine⟨ao,cap,e1,e2,e3,fun hne=>?_⟩;obtain⟨b,off,h1,h2,h3⟩:=e4 hne;exact⟨b,off,h1,Nat.lt_of_lt_of_le h2 hb8.size,h3.below hb8 h2⟩
 have hvb:ns≠[]→∀ao cap,vn=.slice ao ns.length cap→∀a:Addr,ao=some a→a.block<W7.heap.size:=by
  intro hne ao cap e a ha;obtain⟨ao',cap',e1,e2,e3,e4⟩:=hvn;rw[e1]at e;injection e with e _ _;obtain⟨b,off,h1,h2,h3⟩:=e4 hne;rw[← e,h1]at ha;injection ha with ha;rw[← ha];exact h2
 have hvn8':=hvn8;obtain⟨ao,cap,rfl,_⟩:=hvn8;clear hB7 hF7 hb8 hvn d0 d1 d2 d3 d4;have h0t:=HX.out.2.2.2;go_wp2_with fail
 refine(HSv.out W7.heap.size W8 G hG hT8 (by omega)).mono ?_
 rintro e W9 ⟨rfl,G9,hG9,hC9⟩;have hB9:=hB8.gch hG hC9 hlt7;have hbf:∀ {b:Nat},b<W7.heap.size→b ∉ G.foot:=fun {b} hb hm=>by have:=(hG.cells hm).1;omega
 have hT9:TabAt W9:=hT8.kb hC9.kb (hbf (by omega));have hvn9:IsStrs (.slice ao ns.length cap) ns W9:=by
  obtain⟨ao1,cap1,e1,e2,e3,e4⟩:=hvn8';refine⟨ao1,cap1,e1,e2,e3,fun hne=>?_⟩;obtain⟨b,off,h1,h2,h3⟩:=e4 hne;injection e1 with e1 _ _;have hbl:=hvb hne _ _ rfl _ (e1.trans h1);refine⟨b,off,h1,Nat.lt_of_lt_of_le h2 hC9.kb.size,fun i x hi=>?_⟩;rw[← h3 i x hi];exact World.cell?_of_block (hC9.kb.block b h2 (hbf hbl))
 have HRo:=HRw.out W7.heap.size ao cap W9.drew G9 (hG9.fresh (Kb.refl [] W9).drew) (hT9.kb (L:=[]) (Kb.refl [] W9).drew (by simp)) (by omega) hvn9 (fun hne=>hvb hne _ _ rfl);rw[hC9.e1]at HRo;have cu9:W9.cell? ⟨G.bg,9,none⟩=some (.int .i64 (sF.un:Int)):=by rw[← hC9.e1];exact hG9.reads.2.2.2.2.2.2.2.1
 have HR2:Hid (∀vl W10,IsRows vl (rowsS sF ns) W10→∀G10,GM W10 W7.heap.size c ns.length G10 sF→GCh W9.drew W10 G9 G10→W10.cell? ⟨G.bg,9,none⟩=some (.int .i64 (sF.un:Int))∧Calls Tryz.prog 59 #[vl] W10 fun e W11=>e=.returned (.string X)∧W11.cell? ⟨G.bg,9,none⟩=some (.int .i64 (sF.un:Int))∧Bxs w c W11):=by
  refine hide (fun vl W10 hv G10 h1 h2=>?_);have h3:W10.cell? ⟨G.bg,9,none⟩=some (.int .i64 (sF.un:Int)):=by rw[← hC9.e1,← h2.e1];exact h1.reads.2.2.2.2.2.2.2.1
  refine⟨h3,?_⟩;refine(HWr.out vl W10 (by rw[← HRS.out hG9.canon];exact hv)).mono ?_
  rintro e W11 ⟨rfl,hb⟩;have hB10:Bxs w c W10:=Bxs.gch (B:=W7.heap.size) (n:=ns.length) (s:=sF) (G:=G9) (hB9.below (by exact(Below.refl _ W9).drew)) (hG9.fresh (Kb.refl [] W9).drew) h2 hlt7;refine⟨rfl,?_,hB10.below hb⟩;rw[← h3];exact World.cell?_of_block (hb.block G.bg (by rw[← hC9.e1,← h2.e1];exact lt_of_heap h1.hbg))
 have HFn:Hid (∀W11,Bxs w c W11→∃W12,((((W11.setCell ⟨w.heap.size+1,0,none⟩ (.string X)).setCell ⟨w.heap.size+1,1,none⟩ (.int .i64 (sF.un:Int))).setCell ⟨w.heap.size+1+1,0,none⟩ (.int .i64 0)).setCell ⟨w.heap.size+1+1,1,none⟩ (.int .i64 0))=W12∧W12.heap[w.heap.size+1]?=some (.cells #[.string X,.int .i64 (sF.un:Int)] 31 (0,0))∧W12.heap[w.heap.size+1+1]?=some (.cells #[.int .i64 0,.int .i64 0] 27 (0,0))∧Below w.heap.size w W12):=by
  refine hide (fun W11 h=>⟨_,rfl,?_⟩);obtain⟨h1,h2,h3,h4⟩:=h;have s1:=heap_set h2 0 (.string X);have s2:=heap_set s1 1 (.int .i64 (sF.un:Int));have k1:Kb [w.heap.size+1] W11 ((W11.setCell ⟨w.heap.size+1,0,none⟩ (.string X)).setCell ⟨w.heap.size+1,1,none⟩ (.int .i64 (sF.un:Int))):=((Kb.refl _ _).setCell (p:=⟨w.heap.size+1,0,none⟩) (.inl (by simp)) _).setCell (p:=⟨w.heap.size+1,1,none⟩) (.inl (by simp)) _;have t0:=k1.heap h3 (by simp);have t1:=heap_set t0 0 (.int .i64 0);have t2:=heap_set t1 1 (.int .i64 0);generalize (W11.setCell ⟨w.heap.size+1,0,none⟩ (.string X)).setCell ⟨w.heap.size+1,1,none⟩ (.int .i64 (sF.un:Int))=W12 at *;have k2:Kb [w.heap.size+2] W12 ((W12.setCell ⟨w.heap.size+2,0,none⟩ (.int .i64 0)).setCell ⟨w.heap.size+2,1,none⟩ (.int .i64 0)):=((Kb.refl _ _).setCell (p:=⟨w.heap.size+2,0,none⟩) (.inl (by simp)) _).setCell (p:=⟨w.heap.size+2,1,none⟩) (.inl (by simp)) _
  refine⟨k2.heap s2 (by simp),t2,?_⟩;have b1:Below w.heap.size W11 W12:=k1.below h4.size (by intro k hk;simp at hk;omega);have b2:Below w.heap.size W12 _:=k2.below (Nat.le_trans h4.size k1.size) (by intro k hk;simp at hk;omega);exact(h4.trans b1).trans b2
 have hbgw:w.heap.size+2<G.bg:=by have:=(hG.cells (b:=G.bg) (by unfold GV.foot;simp)).1;omega
 clear hG hC9 hG9 hB9 hT9 hvn9 hB8 hT8 hvn8' hvb hbf HMB HP HNm HNG HSv HRw HWr HX HPp HRS;go_wp2_with fail
 refine wp_nrm (K:=fun a W=>∃x0 x1 x2 x3 x6 x7 x8 x9 x10 x11 x12 x13 x14 x15 x16 x17 x18 x19 x20 x21 x22 x23 x24 x25 x26 x27 x28 x29 x30 x31 x32 x33 x34 x35 x36 x37 x38 x39 x40 x41 x42,(W.heap[w.heap.size+1]?=some (.cells #[.string X,.int .i64 (sF.un:Int)] 31 (0,0))∧W.heap[w.heap.size+1+1]?=some (.cells #[.int .i64 0,.int .i64 0] 27 (0,0))∧Below w.heap.size w W)∧a={ tmps:=#[x0,x1,x2,x3,.pointer (some ⟨w.heap.size+1,0,none⟩),.pointer (some ⟨w.heap.size+1+1,0,none⟩),x6,x7,x8,x9,x10,x11,x12,x13,x14,x15,x16,x17,x18,x19,x20,x21,x22,x23,x24,x25,x26,x27,x28,x29,x30,x31,x32,x33,x34,x35,x36,x37,x38,x39,x40,x41,x42],defers:=[] }) ?_ ?_
 ·go_region_with (first
   |(refine HRo.mono ?_;clear HRo;rintro e W10 ⟨vl,G10,rfl,hv,h1,h2⟩;obtain⟨cu10,HW10⟩:=HR2.out vl W10 hv G10 h1 h2;clear h1 h2 hv HR2)
   | (refine HW10.mono ?_;clear HW10;rintro e W11 ⟨rfl,cu11,hBx⟩;obtain⟨W12,hW12,hFin⟩:=HFn.out W11 hBx;obtain⟨_,g1,g2,_⟩:=hBx;obtain⟨a0,a1,a2,a3⟩:=err_cells g1;obtain⟨b0,b1,b2,b3⟩:=err_cells g2;clear g1 g2))
  all_goals exact⟨_,_,_,_,_,_,_,_,_,_,_,_,_,_,_,_,_,_,_,_,_,_,_,_,_,_,_,_,_,_,_,_,_,_,_,_,_,_,_,_,_,hFin,rfl⟩
 rintro a W ⟨x0,x1,x2,x3,x6,x7,x8,x9,x10,x11,x12,x13,x14,x15,x16,x17,x18,x19,x20,x21,x22,x23,x24,x25,x26,x27,x28,x29,x30,x31,x32,x33,x34,x35,x36,x37,x38,x39,x40,x41,x42,⟨g1,g2,hb⟩,rfl⟩;obtain⟨a0,a1,_,_⟩:=err_cells g1;obtain⟨b0,b1,_,_⟩:=err_cells g2;clear g1 g2 HFn HR2 HRo;go_wp2;exact bodyPost_ret (v:=.tuple #[.agg #[.string X,.int .i64 (sF.un:Int)],.agg #[.int .i64 0,.int .i64 0]]) (by simp[results,Tryz.results32,go_sem,a0,a1,b0,b1]) rfl ⟨rfl,hb⟩
theorem Bxs.fin{w W11:World}{c:Way}(h:Bxs w c W11)(t:ByteArray)(u k n:Int):∃W12,((((W11.setCell ⟨w.heap.size+1,0,none⟩ (.string t)).setCell ⟨w.heap.size+1,1,none⟩ (.int .i64 u)).setCell ⟨w.heap.size+1+1,0,none⟩ (.int .i64 k)).setCell ⟨w.heap.size+1+1,1,none⟩ (.int .i64 n))=W12∧W12.heap[w.heap.size+1]?=some (.cells #[.string t,.int .i64 u] 31 (0,0))∧W12.heap[w.heap.size+1+1]?=some (.cells #[.int .i64 k,.int .i64 n] 27 (0,0))∧Below w.heap.size w W12:=by
 refine⟨_,rfl,?_⟩;obtain⟨h1,h2,h3,h4⟩:=h;have s1:=heap_set h2 0 (.string t);have s2:=heap_set s1 1 (.int .i64 u);have k1:Kb [w.heap.size+1] W11 ((W11.setCell ⟨w.heap.size+1,0,none⟩ (.string t)).setCell ⟨w.heap.size+1,1,none⟩ (.int .i64 u)):=((Kb.refl _ _).setCell (p:=⟨w.heap.size+1,0,none⟩) (.inl (by simp)) _).setCell (p:=⟨w.heap.size+1,1,none⟩) (.inl (by simp)) _;have t0:=k1.heap h3 (by simp);have t1:=heap_set t0 0 (.int .i64 k);have t2:=heap_set t1 1 (.int .i64 n);generalize (W11.setCell ⟨w.heap.size+1,0,none⟩ (.string t)).setCell ⟨w.heap.size+1,1,none⟩ (.int .i64 u)=W12 at *;have k2:Kb [w.heap.size+2] W12 ((W12.setCell ⟨w.heap.size+2,0,none⟩ (.int .i64 k)).setCell ⟨w.heap.size+2,1,none⟩ (.int .i64 n)):=((Kb.refl _ _).setCell (p:=⟨w.heap.size+2,0,none⟩) (.inl (by simp)) _).setCell (p:=⟨w.heap.size+2,1,none⟩) (.inl (by simp)) _;refine⟨k2.heap s2 (by simp),t2,?_⟩
 have b1:Below w.heap.size W11 W12:=k1.below h4.size (by intro k hk;simp at hk;omega);have b2:Below w.heap.size W12 _:=k2.below (Nat.le_trans h4.size k1.size) (by intro k hk;simp at hk;omega);exact(h4.trans b1).trans b2
set_option maxRecDepth 100000 in
set_option maxHeartbeats 1000000 in
theorem qanalyze_of(file:ByteArray)(c:Way)(t:ByteArray)(u k n:Int)(w:World)(H:∀W,Below w.heap.size w W→Calls Tryz.prog 32 #[.string file,wayV c] W fun e w'=>e=.returned (.tuple #[.agg #[.string t,.int .i64 u],.agg #[.int .i64 k,.int .i64 n]])∧Below W.heap.size W w') :
  Calls Tryz.prog 12 #[.string file,wayV c] w fun e w'=>e=.returned (.tuple #[.agg #[.string t,.int .i64 u],.agg #[.int .i64 k,.int .i64 n]])∧Below w.heap.size w w':=by
 have hb3:=Bxs.start w c;go_enter Tryz.func12,Tryz.ntmps12
 go_wp2_with fail
 generalize ((w.alloc (.cells #[.int .i64 c.order,.bool c.cycles,.bool c.collapse,.bool c.subst,.bool c.deltas] 24)).alloc (.cells #[.string ⟨#[]⟩,.int .i64 0] 31)).alloc (.cells #[.int .i64 0,.int .i64 0] 27)=W3 at hb3 ⊢;refine(H W3 hb3.2.2.2).mono ?_
 rintro e W4 ⟨rfl,hb4⟩;have hB4:=hb3.below hb4;obtain⟨W12,hW12,hFin⟩:=hB4.fin t u k n;obtain⟨_,g1,g2,_⟩:=hB4;obtain⟨a0,a1,a2,a3⟩:=err_cells g1;obtain⟨b0,b1,b2,b3⟩:=err_cells g2;clear g1 g2 hb3 hb4 H;go_wp2_with fail
 obtain⟨g1,g2,hb⟩:=hFin;obtain⟨c0,c1,_,_⟩:=err_cells g1;obtain⟨d0,d1,_,_⟩:=err_cells g2;exact bodyPost_ret (v:=.tuple #[.agg #[.string t,.int .i64 u],.agg #[.int .i64 k,.int .i64 n]]) (by simp[results,Tryz.results12,go_sem,c0,c1,d0,d1]) rfl ⟨rfl,hb⟩
end
end Go.Proofs.YtiamlbhkiehilaaGreatDoor
