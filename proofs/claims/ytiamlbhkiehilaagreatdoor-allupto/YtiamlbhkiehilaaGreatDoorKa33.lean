import Derived.Test.YtiamlbhkiehilaaGreatDoorKa32
open Go renaming World→vF,KeepsFrom→Ju
open List renaming mem_cons_self→Bx,mem_cons_of_mem→C1,replicate→A3,getD_eq_getElem?_getD→E1,mem_append→IK,mem_cons→sT
open Nat renaming le_refl→gO,le_trans→IH,lt_of_lt_of_le→A2
namespace Go.Proofs.YtiamlbhkiehilaaGreatDoor
section
open Go.RowKit Go.Shelf
variable {B:Nat} {c:Way} {n:Nat} {s:St}
theorem WF.kz{ps:List (List Nat)}{a:Nat}(d:a<n):∀(l:List Nat) (x:Bool × St),WF n x.2→(∀b∈l,b<n)→WF n (l.foldl (eN ps a) x).2∧x.2.un≤(l.foldl (eN ps a) x).2.un:=by
 intro l;induction l with
 |nil=>exact fun x h _=>⟨h,gO _⟩
 |cons b r i=>
  intro x h e;have f:=e b Bx;have g:WF n (eN ps a x b).2∧x.2.un≤(eN ps a x b).2.un:=by
   unfold eN;split
   ·exact⟨h.merge d f,(h.jw d f).2⟩
   ·exact⟨h,gO _⟩
  obtain⟨j,k⟩:=i (eN ps a x b) g.1 (fun y m=>e y (C1 _ m));exact⟨j,IH g.2 k⟩
theorem WF.kn{ps:List (List Nat)}{a:List Nat}(d:∀b∈a,b<n):∀(l:List Nat) (x:Bool × St),WF n x.2→(∀b∈l,b<n)→WF n (l.foldl (gY ps a) x).2∧x.2.un≤(l.foldl (gY ps a) x).2.un:=by
 intro l;induction l with
 |nil=>exact fun x h _=>⟨h,gO _⟩
 |cons b r e=>intro x h hr;obtain⟨f,g⟩:=WF.kz (ps:=ps) (hr b Bx) a x h d;obtain⟨i,j⟩:=e (gY ps a x b) f (fun y k=>hr y (C1 _ k));exact⟨i,IH g j⟩
theorem WF.same(h:WF n s)(ps:List (List Nat)):WF n (s.mergeSame n ps).2∧s.un≤(s.mergeSame n ps).2.un:=by rw[qP];exact WF.kn (fun b a=>h.ic a) (s.all n) (false,s) h (fun b a=>h.ic a)
theorem pF{k j:Nat}{s sF:St}(h:St.substitute k n (j+1) s=some sF):∃ps,s.partsOf k n=some ps∧(if(s.mergeSame n ps).1 then St.substitute k n j (s.mergeSame n ps).2 else some (s.mergeSame n ps).2)=some sF:=by
 unfold St.substitute at h;cases e:s.partsOf k n with
 |none=>rw[e]at h;cases h
 |some ps=>rw[e]at h;exact⟨ps,rfl,h⟩
theorem Fg{k:Nat}:∀(j:Nat) {s sF:St},WF n s→St.substitute k n j s=some sF→s.un≤sF.un:=by
 intro j;induction j with
 |zero=>intro s sF _ h;cases h
 |succ j d=>
  intro s sF f h;obtain⟨ps,_,a⟩:=pF h;obtain⟨g,b⟩:=f.same ps;cases e:(s.mergeSame n ps).1
  ·rw[e]at a;cases a;exact b
  ·rw[e]at a;exact IH b (d g a)
def CZ(B:Nat)(c:Way)(n k:Nat):Prop:=∀(s:St) (ps:List (List Nat)) (w:vF) (G:GV),GM w B c n G s→WF n s→bN w→s.partsOf k n=some ps →
  Calls Tryz.prog 152 #[.pointer (some ⟨G.bg,0,none⟩)] w fun e a=>∃G' bp pv,e=.returned (.slice (some ⟨bp,0,none⟩) n n)∧GM a B c n G' s∧GCh w a G G'∧PS a w.heap.size bp n pv ps∧∀b∈pft bp pv,b ∉ G'.foot
def SB(w:vF)(B:Nat)(c:Way)(n:Nat)(G:GV)(k:Nat)(sF:St)(W:vF)(j:Nat):Prop:=
 ∃a G1,GM W B c n G1 a∧WF n a∧GCh w W G G1∧St.substitute k n (j+1) a=some sF
set_option maxRecDepth 100000 in
set_option maxHeartbeats 2000000 in
theorem Fh(Q:0<B)(k:Nat)(R:CZ B c n k):tA B c n k:=by
 intro s b w G h S T hu u;have hn:=h.n40;have I:Hid (∀ {W:vF} {G':GV},GCh w W G G'→bN W):=aA (fun U=>T.kb U.kb (fun V=>by have:=(h.cells V).1;omega));obtain⟨d,J⟩:∃d,k=d+1:=by
  cases k with
  |zero=>cases u
  |succ d=>exact⟨d,rfl⟩
 have X:Hid (SB w B c n G k b w d):=aA ⟨s,G,h,S,GCh.refl _ _,by rw[← J];exact u⟩;clear J u;go_enter Tryz.func111,Tryz.ntmps111
 go_wp2_with fail
 go_loopw [] (fun wr=>∃j,Hid (SB w B c n G k b wr j)) (fun wr=>leastOf (fun j=>Hid (SB w B c n G k b wr j)))
 case atStart=>exact⟨d,X⟩
 case round=>
  have x:=(leastOf_spec hrel).1;obtain⟨j,y⟩:∃j,j=leastOf (fun j=>Hid (SB w B c n G k b wr j)):=⟨_,rfl⟩;rw[← y]at x;have Y:=aA y;obtain⟨l,G1,K,m,o,z⟩:=x.out;clear hrel x y;obtain⟨ps,A,a⟩:=pF z;have a4:=Fg (j+1) m z;have C:=R l ps wr G1 K m (I.out o) A;rw[o.e1]at C;have p:=aA (And.intro o (And.intro a A));clear K o z A a;go_wp2_with fail
  refine C.mono ?_
  clear C;rintro e Z ⟨G2,bp,pv,rfl,M,N,q,D⟩;have r:=p.out.1.trans N;have E:=DH bp wr.heap.size pv ps Z G2 M m (I.out r) Q q.hb q.ln q.st (D _ (gZ.2 (.inl rfl))) (fun v hv a0 hg=>D a0 (by unfold pft;exact C1 _ (List.mem_filterMap.2 ⟨v,hv,hg⟩))) (by omega);rw[r.e1]at E;have H2:=aA r;clear M N q D r;go_wp2_with fail
  refine E.mono ?_
  clear E;rintro e O ⟨rfl,G3,i,a1⟩;have t:=H2.out.trans a1;have F:=(m.same ps).1;have a:=p.out.2.1;cases P:(l.mergeSame n ps).1
  ·rw[P]at a;have f:(l.mergeSame n ps).2=b:=by injection a
   rw[f]at i;have a2:=aA (And.intro i t);clear i t a f F p;go_wp2;go_end0
   exact⟨rfl,_,a2.out⟩
  ·rw[P]at a;have f:St.substitute k n j (l.mergeSame n ps).2=some b:=a;obtain⟨g,a3⟩:∃g,j=g+1:=by
    cases j with
    |zero=>cases f
    |succ g=>exact⟨g,rfl⟩
   have H:Hid (SB w B c n G k b O g):=aA ⟨_,G3,i,F,t,by rw[← a3];exact f⟩;clear i t a f F p;go_wp2;go_roundw
   case rel=>exact⟨g,H⟩
   case measure=>have h1:=(leastOf_spec (p:=fun j=>Hid (SB w B c n G k b O j)) ⟨_,H⟩).2 _ H;rw[← Y.out];omega
end
section
open Go.RowKit Go.Shelf
attribute [local go_sem] Oper.semAt_some
variable {B:Nat} {c:Way} {n:Nat} {s:St}
theorem Ho:(Tryz.prog.info? TP).map (fun i=>(i.zero,i.size,i.bytes))=some (some (.agg #[.slice none 0 0]),1,24):=by kernel_rfl
theorem BM(n:Nat):madeCells (Value.agg #[.slice none 0 0]).cells (n*1)=(A3 n fP).toArray:=by
 have e:(Value.agg #[.slice none 0 0]).cells=#[fP]:=rfl;rw[e];apply Array.ext
 ·simp[madeCells]
 ·intro i a b;simp[madeCells,Nat.mod_one]
theorem PS.start{W:vF}{b bp n:Nat}(e:W.heap[bp]?=some (.cells (A3 n fP).toArray TP (0,0)))(f:b≤bp):PS W b bp n (A3 n fP) (A3 n []):=by
 have d:∀i,i<n→(A3 n fP).getD i fP=fP:=fun i a=>by simp[E1,a]
 refine⟨e,f,by simp,by simp,fun i a=>?_,fun i j a k _=>?_⟩
 ·rw[d i a];have:(A3 n ([]:List Nat)).getD i []=[]:=by simp[E1,a]
  rw[this];exact aO.nil _ _
 ·rw[d i a];exact fun g h=>by cases h
def qQ(s:St)(n i:Nat)(ps:List (List Nat))(t:Nat):List (List Nat):=St.partAdd (St.partAdd ps i t) (s.rep t) (n+s.rep t)
def uT(s:St)(n:Nat)(ps:List (List Nat))(i:Nat):List (List Nat):=(s.tg i).foldl (qQ s n i) ps
theorem DJ(s:St)(n:Nat):s.parts0 n=(List.range n).foldl (uT s n) (A3 n []):=rfl
def qR(s:St)(n:Nat)(x:Bool × List (List Nat))(i:Nat):Bool × List (List Nat):=((s.handParts x.2 i (2*n+i)).1 || x.1,(s.handParts x.2 i (2*n+i)).2)
theorem vQ(s:St)(n:Nat)(a:List Nat)(ps:List (List Nat)):s.partsRound n a ps=a.foldl (qR s n) (false,ps):=rfl
structure PaI(w:World)(B:Nat)(c:Way)(n:Nat)(G:GV)(s:St)(bp:Nat)(L:List Nat)(bxs:List (Nat × Array Value × TypeId))(vts:List (Value × List Nat × Nat))(ds:List Nat)(W:World)(G':GV)(pv:List Value)(ps:List (List Nat)):Prop where
 li:LI w B c n G L bxs vts W s G'
 ps:PS W w.heap.size bp n pv ps
 dj:∀b∈pft bp pv,b ∉ G'.foot
 dl:∀b∈pft bp pv,b ∉ L
 db:∀b∈pft bp pv,∀q∈bxs,q.1≠b
 dv:∀b∈pft bp pv,∀q∈vts,q.1.ownBlock≠some b
 dd:∀D∈ds,W.heap[D]?=some (.deferred (some []))
 nd:ds.Nodup
 lo:∀D∈ds,w.heap.size≤D
variable {w:World} {G:GV} {bp:Nat} {L:List Nat} {bxs:List (Nat × Array Value × TypeId)} {vts:List (Value × List Nat × Nat)} {ds:List Nat} {W W':World} {G' G1:GV} {pv pv':List Value} {ps ps':List (List Nat)}
theorem PaI.step(h:PaI w B c n G s bp L bxs vts ds W G' pv ps)(h1:GM W' B c n G1 s)(C:PS W' w.heap.size bp n pv' ps')(d:PCh W W' G' G1 bp pv pv') :
  PaI w B c n G s bp L bxs vts ds W' G1 pv' ps'∧(∀D,Ju D W W')∧KpB L W W':=by
 have z:∀D,Ju D W W':=fun D=>bO d.kb (fun b f o u=>by
  rcases IK.1 f with f|f
  ·exact h.li.gm.isCells b f o u
  ·obtain⟨_,_,H,T,i⟩:=h.ps.cells f;rw[i]at u;cases u;rfl) D
 have x:∀b,b<W.heap.size→b ∉ G'.foot→b ∉ G1.foot:=fun b f E a=>by
  rcases d.ft b a with i|i
  ·exact E i
  ·omega
 have nw:∀ {b:Nat},b∈pft bp pv'→b<W.heap.size→b∈pft bp pv:=fun {b} f y=>by
  rcases d.pf b f with i|i
  ·exact i
  ·omega
 refine⟨⟨⟨h1,?_,fun q l=>?_,fun q l=>?_,fun k t=>?_⟩,C,d.dj,fun b f a=>?_,fun b f q l e=>?_,fun b f q l e=>?_,fun D F=>(z D).same D _ (gO _) (h.dd D F) rfl,h.nd,h.lo⟩,z,fun k t=>?_⟩
 ·refine⟨⟨d.kb.os.trans h.li.ch.kb.os,d.kb.tape.trans h.li.ch.kb.tape,d.kb.output.trans h.li.ch.kb.output,IH h.li.ch.kb.size d.kb.size,fun j A y=>?_⟩,fun b f=>?_,d.e1.trans h.li.ch.e1,d.e2.trans h.li.ch.e2,d.e3.trans h.li.ch.e3⟩
  ·refine(d.kb.block j (A2 A h.li.ch.kb.size) (fun a=>?_)).trans (h.li.ch.kb.block j A y);rcases IK.1 a with a|a
   ·rcases h.li.ch.ft j a with i|i
    ·exact y i
    ·omega
   ·have:=(h.ps.cells a).1;omega
  ·rcases d.ft b f with i|i
   ·exact h.li.ch.ft b i
   ·exact .inr (IH h.li.ch.kb.size i)
 ·obtain⟨r,m⟩:=h.li.bx q l;refine⟨d.kb.heap r (fun a=>?_),x _ (aB r) m⟩;rcases IK.1 a with a|a
  ·exact m a
  ·exact h.db _ a q l rfl
 ·obtain⟨r,m⟩:=h.li.vt q l;refine⟨r.kb d.kb (fun g p e=>?_),fun g p=>x g (r.lt p).2 (m g p)⟩;rcases IK.1 p with p|p
  ·exact m g e p
  ·exact h.dv _ p q l e
 ·obtain⟨r,m⟩:=h.li.lb k t;exact⟨x k m r,A2 m d.kb.size⟩
 ·exact h.dl b (nw f (h.li.lb b a).2) a
 ·have i:=aB (h.li.bx q l).1;exact h.db b (nw f (by omega)) q l e
 ·exact h.dv b (nw f ((h.li.vt q l).1.lt e).2) q l e
 ·refine d.kb.block k (h.li.lb k t).2 (fun a=>?_);rcases IK.1 a with a|a
  ·exact(h.li.lb k t).1 a
  ·exact h.dl k a t
theorem PaI.call(h:PaI w B c n G s bp L bxs vts ds W G' pv ps)(h1:GM W' B c n G1 s)(a:GCh W W' G' G1) :
  PaI w B c n G s bp L bxs vts ds W' G1 pv ps∧(∀D,Ju D W W')∧KpB L W W':=by
 refine h.step h1 (h.ps.kb a.kb (fun b d e=>h.dj b e d)) ⟨a.kb.mono (fun k _ g=>List.mem_append_left _ g),a.ft,fun b d=>.inl d,fun b d e=>?_,a.e1,a.e2,a.e3⟩;rcases a.ft b e with f|f
 ·exact h.dj b d f
 ·have:=(h.ps.cells d).2.1;omega
theorem PaI.fresh(h:PaI w B c n G s bp L bxs vts ds W G' pv ps)(a:Kb [] W W'):PaI w B c n G s bp L bxs vts ds W' G' pv ps∧(∀D,Ju D W W')∧KpB L W W':=
 h.call (h.li.gm.fresh a) ⟨a.mono (by simp),fun _ b=>.inl b,rfl,rfl,rfl⟩
theorem PaI.put(h:PaI w B c n G s bp L bxs vts ds W G' pv ps){y:Nat}(i:y<n){v':Value}{t:List Nat}(j:SetCh W W' bp y pv.toArray TP (pv.getD y fP) v')(l:aO W' w.heap.size v' t) :
  PaI w B c n G s bp L bxs vts ds W' G' (pv.set y v') (ps.set y t)∧(∀D,Ju D W W')∧KpB L W W':=by
 obtain⟨m,d,e⟩:=h.ps.put i j l;refine h.step (h.li.gm.beside d h.dj) m ⟨d.mono (fun k _ o=>List.mem_append_right _ o),fun b a=>.inl a,e,fun b a f=>?_,rfl,rfl,rfl⟩;rcases e b a with g|g
 ·exact h.dj b g f
 ·have:=h.li.gm.gh b f;omega
theorem PaI.own(h:PaI w B c n G s bp L bxs vts ds W G' pv ps){D:Nat}(l:w.heap.size≤D)(m:∀x∈ds,x<D){d:Option Nat}(f:W.grownBy W' d)(hr:∀r,d=some r→D≤r∧∃o:Obj,W.heap[r]?=some o∧o.isCells=false):PaI w B c n G s bp L bxs vts ds W' G' pv ps:=by
 have g:=aS f;refine⟨h.li.own l f hr,h.ps.kb g (fun b p a=>?_),h.dj,h.dl,h.db,h.dv,fun x i=>?_,h.nd,h.lo⟩
 ·obtain⟨_,o,q,e⟩:=hr b (by simpa using p);obtain⟨_,_,t,T,j⟩:=h.ps.cells a;rw[q]at j;cases j;cases e
 ·have k:=h.dd x i;rw[← k];refine g.block x (aB k) (fun a=>?_);have:=(hr x (by simpa using a)).1;have:=m x i;omega
theorem PaI.il(h:PaI w B c n G s bp L bxs vts ds W G' pv ps){L':List Nat}(a:∀k∈L',k ∉ G'.foot∧k<W.heap.size∧k ∉ pft bp pv):PaI w B c n G s bp L' bxs vts ds W G' pv ps:=
 ⟨⟨h.li.gm,h.li.ch,h.li.bx,h.li.vt,fun k d=>⟨(a k d).1,(a k d).2.1⟩⟩,h.ps,h.dj,fun b e f=>(a b f).2.2 e,h.db,h.dv,h.dd,h.nd,h.lo⟩
theorem PaI.ke(h:PaI w B c n G s bp L bxs vts ds W G' pv ps){D:Nat}(b:W.heap[D]?=some (.deferred (some [])))(d:∀x∈ds,x<D)(e:w.heap.size≤D):PaI w B c n G s bp L bxs vts (D::ds) W G' pv ps:=by
 refine⟨h.li,h.ps,h.dj,h.dl,h.db,h.dv,fun x a=>?_,List.nodup_cons.2 ⟨fun f=>Nat.lt_irrefl _ (d D f),h.nd⟩,fun x a=>?_⟩
 ·rcases sT.1 a with rfl|a
  ·exact b
  ·exact h.dd x a
 ·rcases sT.1 a with rfl|a
  ·exact e
  ·exact h.lo x a
theorem PaI.fk(h:PaI w B c n G s bp L bxs vts ds W G' pv ps){b:Nat}{d:Array Value}{T:TypeId}(g:W.heap[b]?=some (.cells d T (0,0)))(i:b ∉ G'.foot)(j:b ∉ pft bp pv):PaI w B c n G s bp L ((b,d,T)::bxs) vts ds W G' pv ps:=by
 refine⟨h.li.fk g i,h.ps,h.dj,h.dl,fun x f q a e=>?_,h.dv,h.dd,h.nd,h.lo⟩;rcases sT.1 a with rfl|a
 ·exact j (by rw[show b=x from e];exact f)
 ·exact h.db x f q a e
theorem PaI.ia(h:PaI w B c n G s bp L bxs vts ds W G' pv ps){v:Value}{t:List Nat}{B':Nat}(d:aO W B' v t)(f:∀g,v.ownBlock=some g→g ∉ G'.foot)(i:∀g,v.ownBlock=some g→g ∉ pft bp pv):PaI w B c n G s bp L bxs ((v,t,B')::vts) ds W G' pv ps:=by
 refine⟨h.li.ia d f,h.ps,h.dj,h.dl,h.db,fun x b q a e=>?_,h.dd,h.nd,h.lo⟩;rcases sT.1 a with rfl|a
 ·exact i x e b
 ·exact h.dv x b q a e
theorem PaI.iu(h:PaI w B c n G s bp L bxs vts ds W G' pv ps){bxs':List (Nat × Array Value × TypeId)}(a:∀k∈bxs',k∈bxs):PaI w B c n G s bp L bxs' vts ds W G' pv ps:=
 ⟨h.li.iu a,h.ps,h.dj,h.dl,fun b d q e=>h.db b d q (a q e),h.dv,h.dd,h.nd,h.lo⟩
theorem PaI.side(h:PaI w B c n G s bp L bxs vts ds W G' pv ps){M:List Nat}(a:Kb M W W')(d:∀b∈M,w.heap.size≤b∧b ∉ G'.foot∧b ∉ pft bp pv∧b ∉ L∧(∀q∈bxs,q.1≠b)∧(∀q∈vts,q.1.ownBlock≠some b)∧∃l T,W.heap[b]?=some (.cells l T (0,0))) :
  PaI w B c n G s bp L bxs vts ds W' G' pv ps∧(∀D,Ju D W W')∧KpB L W W':=by
 have m:∀D,Ju D W W':=fun D=>bO a (fun b e o p=>by
  obtain⟨_,_,_,_,_,_,l,T,r⟩:=d b e;rw[r]at p;cases p;rfl) D
 refine⟨⟨⟨h.li.gm.beside a (fun b e=>(d b e).2.1),h.li.ch.beside a (fun b e=>(d b e).1),fun q f=>⟨a.heap (h.li.bx q f).1 (fun j=>(d _ j).2.2.2.2.1 q f rfl),(h.li.bx q f).2⟩,fun q f=>⟨(h.li.vt q f).1.kb a (fun g t=>(d g t).2.2.2.2.2.1 q f),(h.li.vt q f).2⟩,fun k i=>⟨(h.li.lb k i).1,A2 (h.li.lb k i).2 a.size⟩⟩,h.ps.kb a (fun b e=>(d b e).2.2.1),h.dj,h.dl,h.db,h.dv,fun D u=>(m D).same D _ (gO _) (h.dd D u) rfl,h.nd,h.lo⟩,m,fun k i=>a.block k (h.li.lb k i).2 (fun j=>(d k j).2.2.2.1 i)⟩
theorem PaI.done(h:PaI w B c n G s bp L bxs vts ds W G' pv ps):GM (ds.foldl (fun W D=>W.putObj D (.deferred none)) W) B c n G' s∧GCh w (ds.foldl (fun W D=>W.putObj D (.deferred none)) W) G G'∧PS (ds.foldl (fun W D=>W.putObj D (.deferred none)) W) w.heap.size bp n pv ps∧∀b∈pft bp pv,b ∉ G'.foot:=by have a:=xZ ds W;refine⟨h.li.gm.beside a (fun D d=>h.li.gm.gu (h.dd D d) rfl),h.li.ch.beside a h.lo,h.ps.kb a (fun D d f=>?_),h.dj⟩;obtain⟨_,_,g,T,e⟩:=h.ps.cells f;rw[h.dd D d]at e;cases e
def PaJ(w:vF)(B:Nat)(c:Way)(n:Nat)(G:GV)(s:St)(bp:Nat)(L:List Nat)(bxs:List (Nat × Array Value × TypeId))(vts:List (Value × List Nat × Nat))(ds:List Nat)(ps:List (List Nat))(W:vF):Prop:=∃G' pv,PaI w B c n G s bp L bxs vts ds W G' pv ps
end
end Go.Proofs.YtiamlbhkiehilaaGreatDoor
