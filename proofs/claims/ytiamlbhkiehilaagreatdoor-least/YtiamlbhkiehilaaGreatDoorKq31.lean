import Derived.Test.YtiamlbhkiehilaaGreatDoorKq30
import Derived.Test.YtiamlbhkiehilaaGreatDoorKq20
import Derived.Test.YtiamlbhkiehilaaGreatDoorKq21
namespace Go.Proofs.YtiamlbhkiehilaaGreatDoor
section
open Go.RowKit Go.Shelf
variable {B:Nat} {c:Way} {n:Nat} {s:St}
theorem WF.umono{ps:List (List Nat)}{a:Nat}(ha:a<n):∀(l:List Nat) (x:Bool × St),WF n x.2→(∀b∈l,b<n)→WF n (l.foldl (sstep ps a) x).2∧x.2.un≤(l.foldl (sstep ps a) x).2.un:=by
 intro l;induction l with
 |nil=>exact fun x h _=>⟨h,Nat.le_refl _⟩
 |cons b r ih=>
  intro x h hl;have hb:=hl b List.mem_cons_self;have key:WF n (sstep ps a x b).2∧x.2.un≤(sstep ps a x b).2.un:=by
   unfold sstep;split
   ·exact⟨h.merge ha hb,(h.wmerge ha hb).2⟩
   ·exact⟨h,Nat.le_refl _⟩
  obtain⟨i1,i2⟩:=ih (sstep ps a x b) key.1 (fun y hy=>hl y (List.mem_cons_of_mem _ hy));exact⟨i1,Nat.le_trans key.2 i2⟩
theorem WF.umonos{ps:List (List Nat)}{al:List Nat}(ht:∀b∈al,b<n):∀(l:List Nat) (x:Bool × St),WF n x.2→(∀b∈l,b<n)→WF n (l.foldl (sround ps al) x).2∧x.2.un≤(l.foldl (sround ps al) x).2.un:=by
 intro l;induction l with
 |nil=>exact fun x h _=>⟨h,Nat.le_refl _⟩
 |cons b r ih=>
  intro x h hr;obtain⟨j1,j2⟩:=WF.umono (ps:=ps) (hr b List.mem_cons_self) al x h ht;obtain⟨i1,i2⟩:=ih (sround ps al x b) j1 (fun y hy=>hr y (List.mem_cons_of_mem _ hy));exact⟨i1,Nat.le_trans j2 i2⟩
theorem WF.same(h:WF n s)(ps:List (List Nat)):WF n (s.mergeSame n ps).2∧s.un≤(s.mergeSame n ps).2.un:=by
 rw[mergeSame_eq];exact WF.umonos (fun b hb=>h.allLt hb) (s.all n) (false,s) h (fun b hb=>h.allLt hb)
theorem subst_step{k j:Nat}{s sF:St}(h:St.substitute k n (j+1) s=some sF):∃ps,s.partsOf k n=some ps∧(if(s.mergeSame n ps).1 then St.substitute k n j (s.mergeSame n ps).2 else some (s.mergeSame n ps).2)=some sF:=by
 unfold St.substitute at h;cases e:s.partsOf k n with
 |none=>rw[e]at h;cases h
 |some ps=>rw[e]at h;exact⟨ps,rfl,h⟩
theorem subst_un{k:Nat}:∀(j:Nat) {s sF:St},WF n s→St.substitute k n j s=some sF→s.un≤sF.un:=by
 intro j;induction j with
 |zero=>intro s sF _ h;cases h
 |succ j ih=>
  intro s sF hw h;obtain⟨ps,_,h2⟩:=subst_step h;obtain⟨w1,w2⟩:=hw.same ps;cases e:(s.mergeSame n ps).1
  ·rw[e]at h2;cases h2;exact w2
  ·rw[e]at h2;exact Nat.le_trans w2 (ih w1 h2)
def PartsOK(B:Nat)(c:Way)(n k:Nat):Prop:=∀(s:St) (ps:List (List Nat)) (w:World) (G:GV),GM w B c n G s→WF n s→TabAt w→s.partsOf k n=some ps →
  Calls Tryz.prog 152 #[.pointer (some ⟨G.bg,0,none⟩)] w fun e w'=>∃G' bp pv,e=.returned (.slice (some ⟨bp,0,none⟩) n n)∧GM w' B c n G' s∧GCh w w' G G'∧PS w' w.heap.size bp n pv ps∧∀b∈pft bp pv,b ∉ G'.foot
def SB(w:World)(B:Nat)(c:Way)(n:Nat)(G:GV)(k:Nat)(sF:St)(W:World)(j:Nat):Prop:=
 ∃s1 G1,GM W B c n G1 s1∧WF n s1∧GCh w W G G1∧St.substitute k n (j+1) s1=some sF
set_option maxRecDepth 100000 in
set_option maxHeartbeats 2000000 in
theorem subst_of(hTl:0<B)(k:Nat)(hPa:PartsOK B c n k):SubstOK B c n k:=by
 intro s sF w G h hw hT hu he;have hn:=h.n40;have TT:Hid (∀ {W:World} {G':GV},GCh w W G G'→TabAt W):=hide (fun hc=>hT.kb hc.kb (fun hm=>by have:=(h.cells hm).1;omega));obtain⟨kk,hkk⟩:∃kk,k=kk+1:=by
  cases k with
  |zero=>cases he
  |succ kk=>exact⟨kk,rfl⟩
 have hS0:Hid (SB w B c n G k sF w kk):=hide ⟨s,G,h,hw,GCh.refl _ _,by rw[← hkk];exact he⟩;clear hkk he;go_enter Tryz.func111,Tryz.ntmps111
 go_wp2_with fail
 go_loopw [] (fun wr=>∃j,Hid (SB w B c n G k sF wr j)) (fun wr=>leastOf (fun j=>Hid (SB w B c n G k sF wr j)))
 case atStart=>exact⟨kk,hS0⟩
 case round=>
  have hrel2:=(leastOf_spec hrel).1;obtain⟨j,hj⟩:∃j,j=leastOf (fun j=>Hid (SB w B c n G k sF wr j)):=⟨_,rfl⟩;rw[← hj]at hrel2;have HJ:=hide hj;obtain⟨s1,G1,hG1,hw1,hC1,hs1⟩:=hrel2.out;clear hrel hrel2 hj;obtain⟨ps,hps,hst⟩:=subst_step hs1;have hun:=subst_un (j+1) hw1 hs1;have HPo:=hPa s1 ps wr G1 hG1 hw1 (TT.out hC1) hps;rw[hC1.e1]at HPo;have H1:=hide (And.intro hC1 (And.intro hst hps));clear hG1 hC1 hs1 hps hst;go_wp2_with fail
  refine HPo.mono ?_
  clear HPo;rintro e w2 ⟨G2,bp,pv,rfl,hG2,hC2,hP2,hd2⟩;have hC12:=H1.out.1.trans hC2;have HMs:=gsame_any bp wr.heap.size pv ps w2 G2 hG2 hw1 (TT.out hC12) hTl hP2.hb hP2.ln hP2.st (hd2 _ (mem_pft.2 (.inl rfl))) (fun v hv g hg=>hd2 g (by unfold pft;exact List.mem_cons_of_mem _ (List.mem_filterMap.2 ⟨v,hv,hg⟩))) (by omega);rw[hC12.e1]at HMs;have H2:=hide hC12;clear hG2 hC2 hP2 hd2 hC12;go_wp2_with fail
  refine HMs.mono ?_
  clear HMs;rintro e w3 ⟨rfl,G3,hG3,hC3⟩;have hC13:=H2.out.trans hC3;have hwS:=(hw1.same ps).1;have hst:=H1.out.2.1;cases hfl:(s1.mergeSame n ps).1
  ·rw[hfl]at hst;have hst2:(s1.mergeSame n ps).2=sF:=by injection hst
   rw[hst2]at hG3;have HFi:=hide (And.intro hG3 hC13);clear hG3 hC13 hst hst2 hwS H1;go_wp2;go_end0
   exact⟨rfl,_,HFi.out⟩
  ·rw[hfl]at hst;have hst2:St.substitute k n j (s1.mergeSame n ps).2=some sF:=hst;obtain⟨jj,hjj⟩:∃jj,j=jj+1:=by
    cases j with
    |zero=>cases hst2
    |succ jj=>exact⟨jj,rfl⟩
   have hSR2:Hid (SB w B c n G k sF w3 jj):=hide ⟨_,G3,hG3,hwS,hC13,by rw[← hjj];exact hst2⟩;clear hG3 hC13 hst hst2 hwS H1;go_wp2;go_roundw
   case rel=>exact⟨jj,hSR2⟩
   case measure=>
    have h1:=(leastOf_spec (p:=fun j=>Hid (SB w B c n G k sF w3 j)) ⟨_,hSR2⟩).2 _ hSR2;rw[← HJ.out];omega
end
section
open Go.RowKit Go.Shelf
attribute [local go_sem] Oper.semAt_some
variable {B:Nat} {c:Way} {n:Nat} {s:St}
theorem infoPt:(Tryz.prog.info? TP).map (fun i=>(i.zero,i.size,i.bytes))=some (some (.agg #[.slice none 0 0]),1,24):=by kernel_rfl
theorem made_parts(n:Nat):madeCells (Value.agg #[.slice none 0 0]).cells (n*1)=(List.replicate n nilV).toArray:=by
 have e:(Value.agg #[.slice none 0 0]).cells=#[nilV]:=rfl;rw[e];apply Array.ext
 ·simp[madeCells]
 ·intro i h1 h2;simp[madeCells,Nat.mod_one]
theorem PS.start{W:World}{Bp bp n:Nat}(hb:W.heap[bp]?=some (.cells (List.replicate n nilV).toArray TP (0,0)))(hl:Bp≤bp):PS W Bp bp n (List.replicate n nilV) (List.replicate n []):=by
 have g1:∀i,i<n→(List.replicate n nilV).getD i nilV=nilV:=fun i hi=>by simp[List.getD_eq_getElem?_getD,hi]
 refine⟨hb,hl,by simp,by simp,fun i hi=>?_,fun i j hi hj _=>?_⟩
 ·rw[g1 i hi];have:(List.replicate n ([]:List Nat)).getD i []=[]:=by simp[List.getD_eq_getElem?_getD,hi]
  rw[this];exact SetV.nil _ _
 ·rw[g1 i hi];exact fun g hg=>by cases hg
def pstep(s:St)(n i:Nat)(ps:List (List Nat))(t:Nat):List (List Nat):=St.partAdd (St.partAdd ps i t) (s.rep t) (n+s.rep t)
def pround(s:St)(n:Nat)(ps:List (List Nat))(i:Nat):List (List Nat):=(s.tg i).foldl (pstep s n i) ps
theorem parts0_eq(s:St)(n:Nat):s.parts0 n=(List.range n).foldl (pround s n) (List.replicate n []):=rfl
def rstep(s:St)(n:Nat)(x:Bool × List (List Nat))(i:Nat):Bool × List (List Nat):=((s.handParts x.2 i (2*n+i)).1 || x.1,(s.handParts x.2 i (2*n+i)).2)
theorem partsRound_eq(s:St)(n:Nat)(al:List Nat)(ps:List (List Nat)):s.partsRound n al ps=al.foldl (rstep s n) (false,ps):=rfl
structure PaI(w:World)(B:Nat)(c:Way)(n:Nat)(G:GV)(s:St)(bp:Nat)(L:List Nat)(bxs:List (Nat × Array Value × TypeId))(vts:List (Value × List Nat × Nat))(ds:List Nat)(W:World)(G':GV)(pv:List Value)(ps:List (List Nat)):Prop where
 li:LI w B c n G L bxs vts W s G'
 ps:PS W w.heap.size bp n pv ps
 dj:∀b∈pft bp pv,b ∉ G'.foot
 dl:∀b∈pft bp pv,b ∉ L
 db:∀b∈pft bp pv,∀q∈bxs,q.1≠b
 dv:∀b∈pft bp pv,∀q∈vts,q.1.ownBlock≠some b
 dd:∀D∈ds,W.heap[D]?=some (.deferred (some []))
 nd:ds.Nodup
 lo:∀D∈ds,w.heap.size≤D
variable {w:World} {G:GV} {bp:Nat} {L:List Nat} {bxs:List (Nat × Array Value × TypeId)} {vts:List (Value × List Nat × Nat)} {ds:List Nat} {W W':World} {G' G1:GV} {pv pv':List Value} {ps ps':List (List Nat)}
theorem PaI.step(h:PaI w B c n G s bp L bxs vts ds W G' pv ps)(h1:GM W' B c n G1 s)(hP:PS W' w.heap.size bp n pv' ps')(hc:PCh W W' G' G1 bp pv pv') :
  PaI w B c n G s bp L bxs vts ds W' G1 pv' ps'∧(∀D,KeepsFrom D W W')∧KpB L W W':=by
 have kf:∀D,KeepsFrom D W W':=fun D=>kb_keepsFrom hc.kb (fun b hb o ho=>by
  rcases List.mem_append.1 hb with hb|hb
  ·exact h.li.gm.isCells b hb o ho
  ·obtain⟨_,_,cs,T,h2⟩:=h.ps.cells hb;rw[h2]at ho;cases ho;rfl) D
 have out1:∀b,b<W.heap.size→b ∉ G'.foot→b ∉ G1.foot:=fun b hb hn hm=>by
  rcases hc.ft b hm with h2|h2
  ·exact hn h2
  ·omega
 have nw:∀ {b:Nat},b∈pft bp pv'→b<W.heap.size→b∈pft bp pv:=fun {b} hb hl=>by
  rcases hc.pf b hb with h2|h2
  ·exact h2
  ·omega
 refine⟨⟨⟨h1,?_,fun q hq=>?_,fun q hq=>?_,fun k hk=>?_⟩,hP,hc.dj,fun b hb hm=>?_,fun b hb q hq e=>?_,fun b hb q hq e=>?_,fun D hD=>(kf D).same D _ (Nat.le_refl _) (h.dd D hD) rfl,h.nd,h.lo⟩,kf,fun k hk=>?_⟩
 ·refine⟨⟨hc.kb.os.trans h.li.ch.kb.os,hc.kb.tape.trans h.li.ch.kb.tape,hc.kb.output.trans h.li.ch.kb.output,Nat.le_trans h.li.ch.kb.size hc.kb.size,fun j hj hl=>?_⟩,fun b hb=>?_,hc.e1.trans h.li.ch.e1,hc.e2.trans h.li.ch.e2,hc.e3.trans h.li.ch.e3⟩
  ·refine(hc.kb.block j (Nat.lt_of_lt_of_le hj h.li.ch.kb.size) (fun hm=>?_)).trans (h.li.ch.kb.block j hj hl);rcases List.mem_append.1 hm with hm|hm
   ·rcases h.li.ch.ft j hm with h2|h2
    ·exact hl h2
    ·omega
   ·have:=(h.ps.cells hm).1;omega
  ·rcases hc.ft b hb with h2|h2
   ·exact h.li.ch.ft b h2
   ·exact .inr (Nat.le_trans h.li.ch.kb.size h2)
 ·obtain⟨a1,a2⟩:=h.li.bx q hq;refine⟨hc.kb.heap a1 (fun hm=>?_),out1 _ (lt_of_heap a1) a2⟩;rcases List.mem_append.1 hm with hm|hm
  ·exact a2 hm
  ·exact h.db _ hm q hq rfl
 ·obtain⟨a1,a2⟩:=h.li.vt q hq;refine⟨a1.kb hc.kb (fun g hg e=>?_),fun g hg=>out1 g (a1.lt hg).2 (a2 g hg)⟩;rcases List.mem_append.1 hg with hg|hg
  ·exact a2 g e hg
  ·exact h.dv _ hg q hq e
 ·obtain⟨a1,a2⟩:=h.li.lb k hk;exact⟨out1 k a2 a1,Nat.lt_of_lt_of_le a2 hc.kb.size⟩
 ·exact h.dl b (nw hb (h.li.lb b hm).2) hm
 ·have h2:=lt_of_heap (h.li.bx q hq).1;exact h.db b (nw hb (by omega)) q hq e
 ·exact h.dv b (nw hb ((h.li.vt q hq).1.lt e).2) q hq e
 ·refine hc.kb.block k (h.li.lb k hk).2 (fun hm=>?_);rcases List.mem_append.1 hm with hm|hm
  ·exact(h.li.lb k hk).1 hm
  ·exact h.dl k hm hk
theorem PaI.call(h:PaI w B c n G s bp L bxs vts ds W G' pv ps)(h1:GM W' B c n G1 s)(hc:GCh W W' G' G1) :
  PaI w B c n G s bp L bxs vts ds W' G1 pv ps∧(∀D,KeepsFrom D W W')∧KpB L W W':=by
 refine h.step h1 (h.ps.kb hc.kb (fun b hb hm=>h.dj b hm hb)) ⟨hc.kb.mono (fun k _ hk=>List.mem_append_left _ hk),hc.ft,fun b hb=>.inl hb,fun b hb hm=>?_,hc.e1,hc.e2,hc.e3⟩;rcases hc.ft b hm with h2|h2
 ·exact h.dj b hb h2
 ·have:=(h.ps.cells hb).2.1;omega
theorem PaI.fresh(h:PaI w B c n G s bp L bxs vts ds W G' pv ps)(hk:Kb [] W W'):PaI w B c n G s bp L bxs vts ds W' G' pv ps∧(∀D,KeepsFrom D W W')∧KpB L W W':=
 h.call (h.li.gm.fresh hk) ⟨hk.mono (by simp),fun _ hb=>.inl hb,rfl,rfl,rfl⟩
theorem PaI.put(h:PaI w B c n G s bp L bxs vts ds W G' pv ps){y:Nat}(hy:y<n){v':Value}{t:List Nat}(hC:SetCh W W' bp y pv.toArray TP (pv.getD y nilV) v')(hS:SetV W' w.heap.size v' t) :
  PaI w B c n G s bp L bxs vts ds W' G' (pv.set y v') (ps.set y t)∧(∀D,KeepsFrom D W W')∧KpB L W W':=by
 obtain⟨p1,p2,p3⟩:=h.ps.put hy hC hS;refine h.step (h.li.gm.beside p2 h.dj) p1 ⟨p2.mono (fun k _ hk=>List.mem_append_right _ hk),fun b hb=>.inl hb,p3,fun b hb hm=>?_,rfl,rfl,rfl⟩;rcases p3 b hb with h2|h2
 ·exact h.dj b h2 hm
 ·have:=h.li.gm.footlt b hm;omega
theorem PaI.own(h:PaI w B c n G s bp L bxs vts ds W G' pv ps){D:Nat}(hD:w.heap.size≤D)(hds:∀x∈ds,x<D){row:Option Nat}(hg:W.grownBy W' row)(hr:∀r,row=some r→D≤r∧∃o:Obj,W.heap[r]?=some o∧o.isCells=false):PaI w B c n G s bp L bxs vts ds W' G' pv ps:=by
 have hk:=kb_grown hg;refine⟨h.li.own hD hg hr,h.ps.kb hk (fun b hb hm=>?_),h.dj,h.dl,h.db,h.dv,fun x hx=>?_,h.nd,h.lo⟩
 ·obtain⟨_,o,ho,e⟩:=hr b (by simpa using hb);obtain⟨_,_,cs,T,h2⟩:=h.ps.cells hm;rw[ho]at h2;cases h2;cases e
 ·have h9:=h.dd x hx;rw[← h9];refine hk.block x (lt_of_heap h9) (fun hm=>?_);have:=(hr x (by simpa using hm)).1;have:=hds x hx;omega
theorem PaI.setL(h:PaI w B c n G s bp L bxs vts ds W G' pv ps){L':List Nat}(hL:∀k∈L',k ∉ G'.foot∧k<W.heap.size∧k ∉ pft bp pv):PaI w B c n G s bp L' bxs vts ds W G' pv ps:=
 ⟨⟨h.li.gm,h.li.ch,h.li.bx,h.li.vt,fun k hk=>⟨(hL k hk).1,(hL k hk).2.1⟩⟩,h.ps,h.dj,fun b hb hm=>(hL b hm).2.2 hb,h.db,h.dv,h.dd,h.nd,h.lo⟩
theorem PaI.addD(h:PaI w B c n G s bp L bxs vts ds W G' pv ps){D:Nat}(hD:W.heap[D]?=some (.deferred (some [])))(hn:∀x∈ds,x<D)(hl:w.heap.size≤D):PaI w B c n G s bp L bxs vts (D::ds) W G' pv ps:=by
 refine⟨h.li,h.ps,h.dj,h.dl,h.db,h.dv,fun x hx=>?_,List.nodup_cons.2 ⟨fun hm=>Nat.lt_irrefl _ (hn D hm),h.nd⟩,fun x hx=>?_⟩
 ·rcases List.mem_cons.1 hx with rfl|hx
  ·exact hD
  ·exact h.dd x hx
 ·rcases List.mem_cons.1 hx with rfl|hx
  ·exact hl
  ·exact h.lo x hx
theorem PaI.addBox(h:PaI w B c n G s bp L bxs vts ds W G' pv ps){b:Nat}{cs:Array Value}{T:TypeId}(hb:W.heap[b]?=some (.cells cs T (0,0)))(hn:b ∉ G'.foot)(hp:b ∉ pft bp pv):PaI w B c n G s bp L ((b,cs,T)::bxs) vts ds W G' pv ps:=by
 refine⟨h.li.addBox hb hn,h.ps,h.dj,h.dl,fun x hx q hq e=>?_,h.dv,h.dd,h.nd,h.lo⟩;rcases List.mem_cons.1 hq with rfl|hq
 ·exact hp (by rw[show b=x from e];exact hx)
 ·exact h.db x hx q hq e
theorem PaI.addSet(h:PaI w B c n G s bp L bxs vts ds W G' pv ps){v:Value}{t:List Nat}{B':Nat}(hs:SetV W B' v t)(hn:∀g,v.ownBlock=some g→g ∉ G'.foot)(hp:∀g,v.ownBlock=some g→g ∉ pft bp pv):PaI w B c n G s bp L bxs ((v,t,B')::vts) ds W G' pv ps:=by
 refine⟨h.li.addSet hs hn,h.ps,h.dj,h.dl,h.db,fun x hx q hq e=>?_,h.dd,h.nd,h.lo⟩;rcases List.mem_cons.1 hq with rfl|hq
 ·exact hp x e hx
 ·exact h.dv x hx q hq e
theorem PaI.subB(h:PaI w B c n G s bp L bxs vts ds W G' pv ps){bxs':List (Nat × Array Value × TypeId)}(hs:∀k∈bxs',k∈bxs):PaI w B c n G s bp L bxs' vts ds W G' pv ps:=
 ⟨h.li.subB hs,h.ps,h.dj,h.dl,fun b hb q hq=>h.db b hb q (hs q hq),h.dv,h.dd,h.nd,h.lo⟩
theorem PaI.side(h:PaI w B c n G s bp L bxs vts ds W G' pv ps){M:List Nat}(hk:Kb M W W')(hM:∀b∈M,w.heap.size≤b∧b ∉ G'.foot∧b ∉ pft bp pv∧b ∉ L∧(∀q∈bxs,q.1≠b)∧(∀q∈vts,q.1.ownBlock≠some b)∧∃cs T,W.heap[b]?=some (.cells cs T (0,0))) :
  PaI w B c n G s bp L bxs vts ds W' G' pv ps∧(∀D,KeepsFrom D W W')∧KpB L W W':=by
 have kf:∀D,KeepsFrom D W W':=fun D=>kb_keepsFrom hk (fun b hb o ho=>by
  obtain⟨_,_,_,_,_,_,cs,T,hc⟩:=hM b hb;rw[hc]at ho;cases ho;rfl) D
 refine⟨⟨⟨h.li.gm.beside hk (fun b hb=>(hM b hb).2.1),h.li.ch.beside hk (fun b hb=>(hM b hb).1),fun q hq=>⟨hk.heap (h.li.bx q hq).1 (fun hm=>(hM _ hm).2.2.2.2.1 q hq rfl),(h.li.bx q hq).2⟩,fun q hq=>⟨(h.li.vt q hq).1.kb hk (fun g hg=>(hM g hg).2.2.2.2.2.1 q hq),(h.li.vt q hq).2⟩,fun k hk2=>⟨(h.li.lb k hk2).1,Nat.lt_of_lt_of_le (h.li.lb k hk2).2 hk.size⟩⟩,h.ps.kb hk (fun b hb=>(hM b hb).2.2.1),h.dj,h.dl,h.db,h.dv,fun D hD=>(kf D).same D _ (Nat.le_refl _) (h.dd D hD) rfl,h.nd,h.lo⟩,kf,fun k hk2=>hk.block k (h.li.lb k hk2).2 (fun hm=>(hM k hm).2.2.2.1 hk2)⟩
theorem PaI.done(h:PaI w B c n G s bp L bxs vts ds W G' pv ps):GM (ds.foldl (fun W D=>W.putObj D (.deferred none)) W) B c n G' s∧GCh w (ds.foldl (fun W D=>W.putObj D (.deferred none)) W) G G'∧PS (ds.foldl (fun W D=>W.putObj D (.deferred none)) W) w.heap.size bp n pv ps∧∀b∈pft bp pv,b ∉ G'.foot:=by
 have hk:=coll_kb ds W;refine⟨h.li.gm.beside hk (fun D hD=>h.li.gm.notfoot (h.dd D hD) rfl),h.li.ch.beside hk h.lo,h.ps.kb hk (fun D hD hm=>?_),h.dj⟩;obtain⟨_,_,cs,T,h2⟩:=h.ps.cells hm;rw[h.dd D hD]at h2;cases h2
def PaJ(w:World)(B:Nat)(c:Way)(n:Nat)(G:GV)(s:St)(bp:Nat)(L:List Nat)(bxs:List (Nat × Array Value × TypeId))(vts:List (Value × List Nat × Nat))(ds:List Nat)(ps:List (List Nat))(W:World):Prop:=∃G' pv,PaI w B c n G s bp L bxs vts ds W G' pv ps
end
end Go.Proofs.YtiamlbhkiehilaaGreatDoor
