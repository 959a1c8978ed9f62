import Derived.Test.YtiamlbhkiehilaaGreatDoorKa03
open Go renaming World→vF,Value→sA,Calls→I5,callsIn_wide→IV
open Go.CallsIn renaming inRound→Je
open Go.Ending renaming returned→ME
open Go.Proofs.Tryz renaming prog→hE
open Go.World renaming size_alloc→IW
open List renaming mem_cons→sT,mem_singleton→A1,length_filter_le→Ma
open Nat renaming le_trans→IH,lt_of_lt_of_le→A2
namespace Go.Proofs.YtiamlbhkiehilaaGreatDoor
set_option maxRecDepth 100000
section
open Go.RowKit Go.Shelf
attribute [local go_sem] Oper.semAt_some
variable {B:Nat} {c:Way} {n:Nat} {s:St}
theorem aS{W W':vF}{b:Option Nat}(a:W.grownBy W' b):Kb b.toList W W':=⟨a.os,a.tape,a.output,a.size,fun k d f=>a.block k d (fun e=>f (by rw[← e];simp))⟩
theorem bO{L:List Nat}{W W':vF}(d:Kb L W W')(f:∀b∈L,∀o,W.heap[b]?=some o→o.isCells=true)(D:Nat):KeepsFrom D W W':=
 ⟨d.size,fun k o _ a e=>by
  rw[← a];exact d.block k (aB a) (fun g=>by rw[f k g o a]at e;cases e)⟩
theorem GM.isCells{w:vF}{G:GV}(h:GM w B c n G s):∀b∈G.foot,∀o,w.heap[b]?=some o→o.isCells=true:=by intro b d o a;obtain⟨_,f,T,e⟩:=h.cells d;rw[e]at a;cases a;rfl
theorem GM.gh{w:vF}{G:GV}(h:GM w B c n G s):∀b∈G.foot,b<w.heap.size:=by intro b a;obtain⟨_,e,T,d⟩:=h.cells a;exact aB d
theorem GM.gu{w:vF}{G:GV}(h:GM w B c n G s){r:Nat}{o:Obj}(b:w.heap[r]?=some o)(a:o.isCells=false):r ∉ G.foot:=fun d=>by rw[h.isCells r d o b]at a;cases a
structure StI(w:World)(B:Nat)(c:Way)(n:Nat)(G:GV)(s:St)(L:List Nat)(bx bf:Nat)(t:List Nat)(W:World)(G':GV)(vf:Value):Prop where
 gm:GM W B c n G' s
 ch:GCh w W G G'
 box:W.heap[bx]?=some (.cells #[.pointer (some ⟨G.bg,0,none⟩)] 101 (0,0))
 cel:W.heap[bf]?=some (.cells #[vf] 112 (0,0))
 set:aO W w.heap.size vf t
 new:w.heap.size≤bx∧w.heap.size≤bf
 out:bx ∉ G'.foot∧bf ∉ G'.foot∧∀g,vf.ownBlock=some g→g ∉ G'.foot
 lb:∀k∈L,k ∉ G'.foot∧k<W.heap.size∧k≠bf∧vf.ownBlock≠some k
theorem StI.own{w:vF}{G:GV}{L:List Nat}{x y:Nat}{t:List Nat}{W W':vF}{l:GV}{z:sA}(h:StI w B c n G s L x y t W l z){D:Nat}(P:w.heap.size≤D){f:Option Nat}(E:W.grownBy W' f)(hr:∀r,f=some r→D≤r∧∃o:Obj,W.heap[r]?=some o∧o.isCells=false):StI w B c n G s L x y t W' l z:=by
 have a:=aS E;have F:∀b∈f.toList,b ∉ l.foot:=fun b m=>by
  obtain⟨_,o,i,d⟩:=hr b (by simpa using m);exact h.gm.gu i d
 have p:∀ {b:Nat} {q:Array sA} {T:TypeId} {A:Nat × Nat},W.heap[b]?=some (.cells q T A)→b ∉ f.toList:=by intro b q T A m u;obtain⟨_,o,i,d⟩:=hr b (by simpa using u);rw[m]at i;cases i;cases d
 refine⟨h.gm.beside a F,?_,a.heap h.box (p h.box),a.heap h.cel (p h.cel),h.set.kb a (fun g H e=>?_),h.new,h.out,fun k I=>?_⟩
 ·refine⟨⟨a.os.trans h.ch.kb.os,a.tape.trans h.ch.kb.tape,a.output.trans h.ch.kb.output,IH h.ch.kb.size a.size,fun j C J=>?_⟩,h.ch.ft,h.ch.e1,h.ch.e2,h.ch.e3⟩;refine(a.block j (A2 C h.ch.kb.size) (fun u=>?_)).trans (h.ch.kb.block j C J);have:=(hr j (by simpa using u)).1;omega
 ·obtain⟨q,d⟩:=h.set.block e;exact p d H
 ·obtain⟨K,M,N,O⟩:=h.lb k I;exact⟨K,A2 M a.size,N,O⟩
theorem StI.step{w:vF}{G:GV}{L:List Nat}{x p:Nat}{t:List Nat}{W W1 r:vF}{C q:GV}{l E:sA}{m:Nat}(h:StI w B c n G s L x p t W C l)(h1:GM W1 B c n q s)(c1:GCh W W1 C q)(R:aO r w.heap.size E (dB m t))(d:SetCh W1 r p 0 #[l] 112 l E) :
  StI w B c n G s L x p (dB m t) r q E∧(∀D,KeepsFrom D W r)∧KpB L W r:=by
 have y:∀b,b<W.heap.size→b ∉ C.foot→b ∉ q.foot:=fun b f S a=>by
  rcases c1.ft b a with M|M
  ·exact S M
  ·omega
 have T:=y x (aB h.box) h.out.1;have N:=y p (aB h.cel) h.out.2.1;have O:∀g,l.ownBlock=some g→g ∉ q.foot:=fun g o=>y g (h.set.lt o).2 (h.out.2.2 g o)
 have P:W1.heap[p]?=some (.cells #[l] 112 (0,0)):=c1.kb.heap h.cel h.out.2.1;have F:W1.heap[x]?=some (.cells #[.pointer (some ⟨G.bg,0,none⟩)] 101 (0,0)):=c1.kb.heap h.box h.out.1;have Q:aO W1 w.heap.size l t:=h.set.kb c1.kb (fun g o e=>h.out.2.2 g e o);have U:∀b,b∈p::l.ownBlock.toList→b ∉ q.foot:=by
  intro b f;rcases sT.1 f with rfl|f
  ·exact N
  ·simp at f;exact O b f
 have V:GM r B c n q s:=h1.beside d.kb U;have X:∀j,j<w.heap.size→j ∉ p::l.ownBlock.toList:=by
  intro j z a;rcases sT.1 a with e|a
  ·have:=h.new.2;omega
  ·simp at a;have:=(h.set.lt a).1;omega
 refine⟨⟨V,?_,?_,?_,R,h.new,⟨T,N,fun g o=>?_⟩,fun k H=>?_⟩,fun D=>?_,fun k H=>?_⟩
 ·have i:=h.ch.trans c1;refine⟨⟨d.kb.os.trans i.kb.os,d.kb.tape.trans i.kb.tape,d.kb.output.trans i.kb.output,IH i.kb.size d.kb.size,fun j z Y=>?_⟩,i.ft,i.e1,i.e2,i.e3⟩;exact(d.kb.block j (A2 z i.kb.size) (X j z)).trans (i.kb.block j z Y)
 ·refine d.kb.heap F (fun a=>?_);rcases sT.1 a with e|a
  ·exact aP F P (by decide) e
  ·simp at a;exact Q.ne F (by decide) a
 ·rw[d.blk];rfl
 ·rcases d.lies with e|⟨Z,e,a0⟩
  ·exact O g (by rw[← e];exact o)
  ·rw[e]at o;cases o;intro a;have:=h1.gh g a;omega
 ·obtain⟨I,u,J,K⟩:=h.lb k H;have a5:=A2 u c1.kb.size;refine⟨y k u I,A2 a5 d.kb.size,J,?_⟩;rcases d.lies with e|⟨Z,e,a0⟩
  ·rw[e];exact K
  ·rw[e];intro e2;cases e2;omega
 ·refine(bO c1.kb h.gm.isCells D).trans (bO d.kb ?_ D);intro b f a1 A;rcases sT.1 f with rfl|f
  ·rw[P]at A;cases A;rfl
  ·simp at f;obtain⟨cs,hc⟩:=Q.block f;rw[hc]at A;cases A;rfl
 ·obtain⟨I,u,J,K⟩:=h.lb k H;refine(d.kb.block k (A2 u c1.kb.size) (fun a=>?_)).trans (c1.kb.block k u I);rcases sT.1 a with e|a
  ·exact J e
  ·simp at a;exact K a
theorem Gk(m:Nat)(w:vF)(G:GV)(h:GM w B c n G s)(d:m<128) :
  I5 hE 93 #[.pointer (some ⟨G.bg,6,none⟩),.int .u64 m] w fun e w'=>e=.returned (.int .u64 (s.rep m))∧∃a,GM w' B c n a s∧GCh w w' G a∧w'.cell? ⟨G.bg,5,none⟩=some (.slice (some ⟨G.bn,0,none⟩) n G.cap):=by
 refine(xQ B G.bg 6 (mI c n G s.un) TG G.va G.ab s.rep m w h.hB (by decide) h.hbg rfl h.oA h.cls d).mono ?_
 rintro e w' ⟨rfl,i,j,_,_,f⟩;obtain⟨b,g⟩:=h.j9 f;exact⟨rfl,_,b,g,b.reads.2.2.2.2.2.1⟩
theorem GM.capOf{w:vF}{G b:GV}(h:GM w B c n b s)(d:b.bg=G.bg)(e:w.cell? ⟨G.bg,5,none⟩=some (.slice (some ⟨G.bn,0,none⟩) n G.cap)):b.cap=G.cap:=by have a:=h.reads.2.2.2.2.2.1;rw[d,e]at a;injection a with a;injection a with _ _ a;exact a.symm
set_option maxHeartbeats 1000000 in
theorem iH(b2 Y:Nat)(Z:Array sA)(T2:TypeId)(v2:sA)(B2:Nat)(T:List Nat)(w:vF)(G:GV)(h:GM w B c n G s)(hT:bN w)(b7:0<B)(am:w.heap[b2]?=some (.cells Z T2 (0,0)))(an:Z[Y]?=some v2)(ao:aO w B2 v2 T)(hr:∀x,s.rep x≤x) :
  I5 hE 157 #[.pointer (some ⟨G.bg,0,none⟩),.pointer (some ⟨b2,Y,none⟩)] w fun e w'=>∃p v',e=.returned (.agg #[v'])∧GM w' B c n p s∧GCh w w' G p∧aO w' w.heap.size v' (s.standing T)∧(∀g,v'.ownBlock=some g→g ∉ p.foot)∧w'.cell? ⟨G.bg,5,none⟩=some (.slice (some ⟨G.bn,0,none⟩) n G.cap):=by
 have b8:=aB h.hbg;refine(IV (n:=10)).1 ?_
 refine callsIn_of_wp_marks Tryz.func157 rfl trivial ?_ rfl;simp only[Tryz.ntmps157,List.size_toArray,List.length_cons,List.length_nil,Nat.reduceAdd,Nat.reduceSub,Array.replicate_succ,Array.replicate_zero,List.push_toArray,List.append_toArray,List.nil_append,List.cons_append];obtain⟨r,E⟩:∃r,r=(((w.alloc (.cells #[.pointer (some ⟨G.bg,0,none⟩)] 101)).alloc (.cells #[.slice none 0 0] 112)).alloc (.cells #[.slice none 0 0] 112)):=⟨_,rfl⟩;have M:Kb [] w r:=by rw[E];exact(((Kb.refl [] w).alloc _).alloc _).alloc _
 have z0:r.heap.size=w.heap.size+3:=by rw[E];simp
 have x0:r.heap[w.heap.size]?=some (.cells #[.pointer (some ⟨G.bg,0,none⟩)] 101 (0,0)):=by rw[E];exact aF (aF (aD _ _) _) _
 have y0:r.heap[w.heap.size+1]?=some (.cells #[.slice none 0 0] 112 (0,0)):=by rw[E];have:=aD (w.alloc (.cells #[.pointer (some ⟨G.bg,0,none⟩)] 101)) (.cells #[.slice none 0 0] 112);rw[IW]at this;exact aF this _
 have f0:r.heap[w.heap.size+2]?=some (.cells #[.slice none 0 0] 112 (0,0)):=by rw[E];have:=aD ((w.alloc (.cells #[.pointer (some ⟨G.bg,0,none⟩)] 101)).alloc (.cells #[.slice none 0 0] 112)) (.cells #[.slice none 0 0] 112);rw[IW,IW]at this;exact this
 have HA:=dN B2 b2 Y Z T2 v2 T r (M.heap am (by simp)) an (ao.kb M (by simp));have h0:=h.fresh M;have HT:Hid (bN r):=aA (hT.kb M (by simp));gi_wp2
 rw[← E];refine⟨trivial,?_⟩;refine(IV.2 HA).mono ?_
 clear HA E;rintro e V ⟨bw,va,rfl,b9,a5,N,F⟩;have ap:=aA (HT.out.kb F (by simp));have G1:=aA (h0.fresh F);clear h0 HT;gi_wp2
 obtain⟨L,H⟩:∃L,L=(w.heap.size+1)::0::va.ownBlock.toList:=⟨_,rfl⟩;have ba:=F.size;have a6:∀k∈L,k<V.heap.size:=by
  intro k a;rw[H]at a;rcases sT.1 a with rfl|a
  ·omega
  ·rcases sT.1 a with rfl|a
   ·omega
   ·simp at a;exact(N.lt a).2
 have X:∀b∈G.foot,b<w.heap.size:=h.gh;have a7:StI w B c n G s L w.heap.size (w.heap.size+2) [] V G (.slice none 0 0):=by
  refine⟨G1.out,⟨(M.trans F).mono (by simp),fun b y=>.inl y,rfl,rfl,rfl⟩,F.heap x0 (by simp),F.heap f0 (by simp),aO.nil _ _,⟨Nat.le_refl _,by omega⟩,⟨fun l=>?_,fun l=>?_,fun g z=>by cases z⟩,fun k a=>⟨fun l=>?_,a6 k a,?_,by simp[Value.ownBlock]⟩⟩
  ·have:=X _ l;omega
  ·have:=X _ l;omega
  ·have h1:=X _ l;rw[H]at a;rcases sT.1 a with rfl|a
   ·omega
   ·rcases sT.1 a with rfl|a
    ·have:=(h.cells l).1;omega
    ·simp at a;have:=(N.lt a).1;omega
  ·rw[H]at a;rcases sT.1 a with rfl|a
   ·omega
   ·rcases sT.1 a with rfl|a
    ·omega
    ·simp at a;have:=(N.lt a).1;omega
 have y1:V.heap[w.heap.size+1]?=some (.cells #[.slice none 0 0] 112 (0,0)):=F.heap y0 (by simp);have aq:=bZ 9 bw r.heap.size va T L V a5 N ap.out (fun g z=>by rw[H];simp[z]) (by rw[H];simp);have ar:∀x,x∈T→x<128:=by intro x O;obtain⟨ws,_,_,e⟩:=N;rw[e]at O;exact(eL.1 O).1
 have a8:=aA a7;have hn:=h.n40;clear a7 x0 y0 f0 X a5;refine wpIn_rangeFunc_ownG (α:=Mem T) (hro:=rfl) (h1:=by omega) (gf:=127) (lb:=#[.pointer (some ⟨bw,0,none⟩)]) rfl trivial (enters_of Tryz.func127 (by kernel_rfl) rfl) aq (fun h1 h2=>h1.trans h2) (fZ a6) (Below.refl _ _) (fun _=>rfl)
  (fun pre W=>∃p q,StI w B c n G s L w.heap.size (w.heap.size+2) ((pre.map (·.1)).foldl (fun f m=>dB (s.rep m) f) []) W p q∧W.heap[w.heap.size+1]?=some (.cells #[.slice none 0 0] 112 (0,0))∧W.cell? ⟨G.bg,5,none⟩=some (.slice (some ⟨G.bn,0,none⟩) n G.cap))
  (fun _ _ _=>False) ?hI (fun _ _ _ _ _ hs _ _=>hs) ⟨G,_,a8.out,y1,a8.out.gm.reads.2.2.2.2.2.1⟩ ?a1 ?assign ?body ?done ?stop
 case hI=>
  rintro pre W W' bd ⟨p,q,o,t,I⟩ z hr;refine⟨p,q,o.own (by omega) z hr,(aS z).heap t (fun l=>?_),?_⟩;rotate_left
  ·have J:=o.gm.hbg;rw[o.ch.e1]at J;rw[(aS z).cell (p:=⟨G.bg,5,none⟩) (aB J) (fun l=>by
    obtain⟨_,au,P,K⟩:=hr _ (by simpa using l);rw[J]at P;cases P;cases K)]
   exact I
  obtain⟨_,au,P,K⟩:=hr _ (by simpa using l);rw[t]at P;cases P;cases K
 case assign=>
  intro a1 x W be Q;gi_wp2
  exact Q
 case body=>
  rintro a1 pre ⟨x,a9⟩ W ⟨p,q,o,t,I⟩ _;have O:=ar x a9;have cb:W.cell? ⟨w.heap.size,0,none⟩=some (.pointer (some ⟨G.bg,0,none⟩)):=by rw[aC o.box];rfl
  have a2:=Gk x W p o.gm O;rw[o.ch.e1,o.ch.e2,o.gm.capOf o.ch.e1 I]at a2;have d:=aA o;have av:=aA t;have aw:s.rep x<128:=Nat.lt_of_le_of_lt (hr x) O;have ht:((pre++[(⟨x,a9⟩:Mem T)]).map (·.1)).foldl (fun f m=>dB (s.rep m) f) []=dB (s.rep x) ((pre.map (·.1)).foldl (fun f m=>dB (s.rep m) f) []):=by rw[List.map_append,List.foldl_append];rfl
  have ax:=aA ht;clear o t I ht;generalize (pre.map (·.1)).foldl (fun f m=>dB (s.rep m) f) []=aa at *;dsimp only[jO,Array.zip,Array.foldl];gi_wp2
  refine⟨trivial,?_⟩;refine(Je a1 (IV.2 a2)).mono ?_
  clear a2;rintro e W1 ⟨rfl,G2,ab,R,ad⟩;have ae:W1.heap[w.heap.size+2]?=some (.cells #[q] 112 (0,0)):=R.kb.heap d.out.cel d.out.out.2.1;have af:aO W1 w.heap.size q aa:=d.out.set.kb R.kb (fun g z e=>d.out.out.2.2 g e z);have ag:=gS w.heap.size (w.heap.size+2) 0 #[q] 112 q aa (s.rep x) W1 (by have:=d.out.ch.kb.size;have:=R.kb.size;omega) (by decide) ae rfl af aw;have A:=aA (And.intro ab (And.intro R ad));clear ab R ae af ad;gi_wp2
  refine⟨trivial,?_⟩;refine(Je a1 (IV.2 ag)).mono ?_
  clear ag;rintro e W2 ⟨rfl,v3,ah,a3⟩;obtain⟨z1,z2,z3⟩:=d.out.step A.out.1 A.out.2.1 ah a3;have ai:W2.cell? ⟨G.bg,5,none⟩=some (.slice (some ⟨G.bn,0,none⟩) n G.cap):=by
   have aj:=A.out.1.hbg;rw[A.out.2.1.e1,d.out.ch.e1]at aj;rw[a3.kb.cell (p:=⟨G.bg,5,none⟩) (aB aj) (fun l=>by
    have S:G.bg∈G2.foot:=aG.2 (.inl (by rw[A.out.2.1.e1,d.out.ch.e1]));have o1:=z1.out;rcases sT.1 l with e|l
    ·exact o1.2.1 (by rw[← e];exact S)
    ·simp at l;have ay:=(d.out.set.lt l).2;rcases A.out.2.1.ft _ S with h9|h9
     ·exact d.out.out.2.2 _ l h9
     ·exact absurd ay (Nat.not_lt.2 h9))]
   exact A.out.2.2
  have U:=aA (And.intro z1 (And.intro z2 (And.intro z3 ai)));clear z1 z2 z3 ah a3 A ai;gi_wp2
  refine⟨U.out.2.1 _,U.out.2.2.1,G2,v3,?_,?_,U.out.2.2.2⟩
  ·rw[ax.out];exact U.out.1
  ·rw[U.out.2.2.1 (w.heap.size+1) (by rw[H];simp)];exact av.out
 case done=>
  rintro D xs W hD az ⟨p,q,o,t,I⟩ Q;rw[az]at o;have cf:W.cell? ⟨w.heap.size+2,0,none⟩=some q:=by rw[aC o.cel];rfl
  have cr:W.cell? ⟨w.heap.size+1,0,none⟩=some (.slice none 0 0):=by rw[aC t];rfl
  have fr:W.frozen? ⟨w.heap.size+1,0,none⟩=false:=aE t 0;have aV:∃i m j,q=.slice i m j:=by obtain⟨ws,_,hO,_⟩:=o.set;obtain⟨i,j,e,_⟩:=hO.form;exact⟨i,_,j,e⟩
  obtain⟨i,m,j,rfl⟩:=aV;have d:=aA (And.intro o t);have b0:=aA I;clear o t I;gi_wp2
  have b1:(W.setCell ⟨w.heap.size+1,0,none⟩ (.slice i m j)).heap[D]?=some (.deferred (some [])):=(KeepsOthers.setCell W _ _).same D _ Q rfl;refine⟨by simp,.inl ⟨_,_,rfl,run_takeDeferred b1,?_⟩⟩;have kS:Kb [w.heap.size+1] W (W.setCell ⟨w.heap.size+1,0,none⟩ (.slice i m j)):=(Kb.refl _ _).setCell (p:=⟨w.heap.size+1,0,none⟩) (.inl (by simp)) _;have kD:Kb [D] (W.setCell ⟨w.heap.size+1,0,none⟩ (.slice i m j)) ((W.setCell ⟨w.heap.size+1,0,none⟩ (.slice i m j)).putObj D (.deferred none)):=aS (grownBy_putObj' _ _ _);have C:Kb [w.heap.size+1,D] W ((W.setCell ⟨w.heap.size+1,0,none⟩ (.slice i m j)).putObj D (.deferred none)):=(kS.mono (by intro k _ a;simp at a;simp[a])).trans (kD.mono (by intro k _ a;simp at a;simp[a]))
  have b3:(W.setCell ⟨w.heap.size+1,0,none⟩ (.slice i m j)).heap[w.heap.size+1]?=some (.cells #[.slice i m j] 112 (0,0)):=by rw[aI d.out.2];rfl
  have bf:D≠w.heap.size+1:=by omega
  have b4:((W.setCell ⟨w.heap.size+1,0,none⟩ (.slice i m j)).putObj D (.deferred none)).heap[w.heap.size+1]?=some (.cells #[.slice i m j] 112 (0,0)):=kD.heap b3 (by simp;omega);have b5:((W.setCell ⟨w.heap.size+1,0,none⟩ (.slice i m j)).putObj D (.deferred none)).cell? ⟨w.heap.size+1,0,none⟩=some (.slice i m j):=by rw[aC b4];rfl
  have ak:D ∉ p.foot:=d.out.1.gm.gu Q rfl;have a4:=d.out.1.lb (w.heap.size+1) (by rw[H];simp);have b6:∃p v',(ME (.agg #[.slice i m j])=ME (.agg #[v']))∧GM ((W.setCell ⟨w.heap.size+1,0,none⟩ (.slice i m j)).putObj D (.deferred none)) B c n p s∧GCh w ((W.setCell ⟨w.heap.size+1,0,none⟩ (.slice i m j)).putObj D (.deferred none)) G p∧aO ((W.setCell ⟨w.heap.size+1,0,none⟩ (.slice i m j)).putObj D (.deferred none)) w.heap.size v' (s.standing T)∧(∀g,v'.ownBlock=some g→g ∉ p.foot)∧((W.setCell ⟨w.heap.size+1,0,none⟩ (.slice i m j)).putObj D (.deferred none)).cell? ⟨G.bg,5,none⟩=some (.slice (some ⟨G.bn,0,none⟩) n G.cap):=by
   refine⟨p,_,rfl,d.out.1.gm.beside C ?_,?_,d.out.1.set.kb C ?_,d.out.1.out.2.2,?_⟩
   ·intro b y;rcases sT.1 y with rfl|y
    ·exact a4.1
    ·rw[A1.1 y];exact ak
   ·have u:=d.out.1.ch;refine⟨⟨C.os.trans u.kb.os,C.tape.trans u.kb.tape,C.output.trans u.kb.output,IH u.kb.size C.size,fun al hj hl=>?_⟩,u.ft,u.e1,u.e2,u.e3⟩;refine(C.block al (A2 hj u.kb.size) ?_).trans (u.kb.block al hj hl);simp;omega
   ·intro b y;rcases sT.1 y with rfl|y
    ·exact a4.2.2.2
    ·rw[A1.1 y];intro e;obtain⟨cs,K⟩:=d.out.1.set.block e;rw[Q]at K;cases K
   ·have J:=d.out.1.gm.hbg;rw[d.out.1.ch.e1]at J;rw[C.cell (p:=⟨G.bg,5,none⟩) (aB J) (fun l=>by
     have S:G.bg∈p.foot:=aG.2 (.inl d.out.1.ch.e1.symm);rcases sT.1 l with e|l
     ·exact a4.1 (by rw[← e];exact S)
     ·exact ak (by rw[← A1.1 l];exact S))]
    exact b0.out
  refine⟨.agg #[.slice i m j],?_,b6⟩;simp[results,Tryz.results157,go_sem,b5]
 case stop=>rintro D cc pre W _ _ hF _;exact hF.elim
end
section
open Go.RowKit Go.Shelf
variable {B:Nat} {c:Way} {n:Nat} {s:St}
theorem Gf(b2 b:Nat)(d:Array sA)(i:TypeId)(f:sA)(j:Nat)(T:List Nat)(w:vF)(G:GV)(h:GM w B c n G s)(k:bN w)(l:0<B)(m:w.heap[b2]?=some (.cells d i (0,0)))(o:d[b]?=some f)(p:aO w j f T)(hr:∀x,s.rep x≤x) :
  I5 hE 157 #[.pointer (some ⟨G.bg,0,none⟩),.pointer (some ⟨b2,b,none⟩)] w fun e w'=>∃a v',e=.returned (.agg #[v'])∧GM w' B c n a s∧GCh w w' G a∧aO w' w.heap.size v' (s.standing T)∧∀g,v'.ownBlock=some g→g ∉ a.foot:=
 (iH b2 b d i f j T w G h k l m o p hr).mono fun _ _ ⟨a,v',q,r,t,u,y,_⟩=>⟨a,v',q,r,t,u,y⟩
theorem GCh.beside{w d e:vF}{G f:GV}(h:GCh w d G f){L:List Nat}(a:Kb L d e)(i:∀b∈L,w.heap.size≤b):GCh w e G f:=by refine⟨⟨a.os.trans h.kb.os,a.tape.trans h.kb.tape,a.output.trans h.kb.output,IH h.kb.size a.size,fun j g k=>?_⟩,h.ft,h.e1,h.e2,h.e3⟩;refine(a.block j (A2 g h.kb.size) (fun l=>?_)).trans (h.kb.block j g k);have:=i j l;omega
theorem GCh.before{w a b:vF}{G d:GV}(e:Kb [] w a)(h:GCh a b G d):GCh w b G d:=(GCh.trans ⟨e.mono (by simp),fun _ f=>.inl f,rfl,rfl,rfl⟩ h)
structure NewS(w w':World)(G':GV)(v:Value)(t:List Nat):Prop where
 set:aO w' w.heap.size v t
 out:∀g,v.ownBlock=some g→g ∉ G'.foot
theorem tQ(m:Nat)(w:vF)(G:GV)(h:GM w B c n G s)(hT:bN w)(a8:0<B)(hm:m<n)(hr:∀x,s.rep x≤x) :
  I5 hE 118 #[.pointer (some ⟨G.bg,0,none⟩),.int .u64 m] w fun e w'=>∃r v',e=.returned (.agg #[v'])∧GM w' B c n r s∧GCh w w' G r∧NewS w w' r v' (s.heirsOf m)∧w'.cell? ⟨G.bg,5,none⟩=some (.slice (some ⟨G.bn,0,none⟩) n G.cap):=by
 have hn:=h.n40;obtain⟨r0,r1,r2,r3,r4,r5,r7,r9,a9⟩:=h.reads;obtain⟨t,u⟩:∃t,t=w.alloc (.cells #[.slice none 0 0] 112):=⟨_,rfl⟩;have I:Kb [] w t:=by rw[u];exact(Kb.refl [] w).alloc _
 have z0:t.heap.size=w.heap.size+1:=by rw[u];simp
 have y0:t.heap[w.heap.size]?=some (.cells #[.slice none 0 0] 112 (0,0)):=by rw[u];exact aD _ _
 have C:=h.fresh I;obtain⟨v,aa,q',qs⟩:=C.get (k:=7*m+2) (by omega);have D:=iH G.bn (7*m+2) _ TNd v B _ t G C (hT.kb I (by simp)) a8 C.hbn q' qs hr;have a0:=C.reads.2.2.2.2.2.1;have a1:=h.gh;rw[show 7*m+2=m*7+2 by omega]at D;have es:s.standing (s.ss.getD (m*7+2) [])=s.standing (s.hr m):=by unfold St.hr;rw[show m*7+2=7*m+2 by omega]
 rw[es]at D;clear r0 r1 r2 r3 r4 r7 r9 a9 aa q' qs es;go_enter Tryz.func118,Tryz.ntmps118
 rw[u]at D a0;go_wp2_with fail
 refine D.mono ?_
 clear D;rintro e o ⟨E,F,rfl,J,y,H,a2,a3⟩;have ab:=aA (J.capOf y.e1 a3);clear a3;rw[← u]at y H;have k1:Kb [] o (o.alloc (.cells #[F] 112)):=(Kb.refl [] o).alloc _;have a4:=J.fresh k1;have ad:=aA J.gh;have HR:=mH t.heap.size o.heap.size 0 #[F] 112 F (s.standing (s.hr m)) m (o.alloc (.cells #[F] 112)) (by decide) (aD _ _) rfl (H.kb k1 (by simp)) (by omega);have P:∃p l q,F=.slice p l q:=by obtain⟨Q,_,z,_⟩:=H;obtain⟨p,q,e,_⟩:=z.form;exact⟨p,_,q,e⟩
 obtain⟨p,l,q,rfl⟩:=P;have yr:o.heap[w.heap.size]?=some (.cells #[.slice none 0 0] 112 (0,0)):=y.kb.heap y0 (fun d=>by have:=a1 _ d;omega);have R:=aA (And.intro a4 (And.intro y (And.intro H a2)));have an:=y.kb.size;have S:=aA yr;have K:=aA z0;have T:=aA I;clear u J a4 y H a2 yr z0 I y0 a0 C;go_wp2_with fail
 refine HR.mono ?_
 clear HR;rintro e f ⟨rfl,v2,L,A⟩;have P:∃p l q,v2=.slice p l q:=by obtain⟨Q,_,z,_⟩:=L;obtain⟨p,q,e,_⟩:=z.form;exact⟨p,_,q,e⟩
 obtain⟨i,j,k,rfl⟩:=P;have c2:f.cell? ⟨o.heap.size,0,none⟩=some (.slice i j k):=by rw[aC A.blk];rfl
 have ae:(Value.slice p l q).ownBlock≠some w.heap.size:=by intro e;have:=(R.out.2.2.1.lt e).1;rw[K.out]at this;omega
 have M:f.heap[w.heap.size]?=some (.cells #[.slice none 0 0] 112 (0,0)):=by
  refine A.kb.heap (aF S.out _) (fun d=>?_);rcases sT.1 d with e|d
  ·have:=aB S.out;omega
  ·simp at d;exact ae d
 have cr:f.cell? ⟨w.heap.size,0,none⟩=some (.slice none 0 0):=by rw[aC M];rfl
 have fr:f.frozen? ⟨w.heap.size,0,none⟩=false:=aE M 0;have HF:Hid (∃r,GM (f.setCell ⟨w.heap.size,0,none⟩ (.slice i j k)) B c n r s∧GCh w (f.setCell ⟨w.heap.size,0,none⟩ (.slice i j k)) G r∧NewS w (f.setCell ⟨w.heap.size,0,none⟩ (.slice i j k)) r (.slice i j k) (s.heirsOf m)∧(f.setCell ⟨w.heap.size,0,none⟩ (.slice i j k)).cell? ⟨G.bg,5,none⟩=some (.slice (some ⟨G.bn,0,none⟩) n G.cap)):=by
  obtain⟨N,O,U,p4⟩:=R.out;have V:Kb [w.heap.size] f (f.setCell ⟨w.heap.size,0,none⟩ (.slice i j k)):=(Kb.refl _ _).setCell (p:=⟨w.heap.size,0,none⟩) (.inl (by simp)) _;have af:w.heap.size ∉ E.foot:=by
   intro d;rcases O.ft _ d with X|X
   ·have:=a1 _ X;omega
   ·rw[K.out]at X;omega
  have a5:∀b∈o.heap.size::(Value.slice p l q).ownBlock.toList,b ∉ E.foot∧w.heap.size≤b:=by
   intro b a;rcases sT.1 a with rfl|a
   ·refine⟨fun d=>?_,by have:=T.out.size;omega⟩;have:=ad.out _ d;omega
   ·simp at a;exact⟨p4 b a,by have:=(U.lt a).1;rw[K.out]at this;omega⟩
  have g2:=(N.beside A.kb (fun b a=>(a5 b a).1)).beside V (by intro b a;rw[A1.1 a];exact af);have ag:GCh w o G E:=GCh.before T.out O;have ah:GCh w (o.alloc (.cells #[.slice p l q] 112)) G E:=ag.beside ((Kb.refl [] o).alloc _) (by simp);have Y:=(ah.beside A.kb (fun b a=>(a5 b a).2)).beside V (by intro b a;rw[A1.1 a];exact Nat.le_refl _);have a6:=g2.reads.2.2.2.2.2.1;rw[Y.e1,Y.e2,ab.out]at a6;refine aA ⟨E,g2,Y,⟨?_,?_⟩,a6⟩
  ·have h9:aO (f.setCell ⟨w.heap.size,0,none⟩ (.slice i j k)) t.heap.size (.slice i j k) (gR m (s.standing (s.hr m))):=by
    refine L.kb V (fun b a e=>?_);rw[A1.1 a]at e;have:=(L.lt e).1;rw[K.out]at this;omega
   obtain⟨Q,ai,z,e⟩:=h9;refine⟨Q,ai,⟨?_,z.2⟩,e⟩;obtain⟨o1,Z⟩:=z.1;refine⟨o1,?_⟩;rcases Z with Z|⟨g,cp,aj,e1,e2,ak⟩
   ·exact .inl Z
   ·exact .inr ⟨g,cp,aj,e1,by have:=T.out.size;omega,ak⟩
  ·intro g hg d;rcases A.lies with e|⟨g',e,ap⟩
   ·exact p4 g (by rw[← e];exact hg) d
   ·rw[e]at hg;cases hg;have:=N.gh _ d;omega
 have a7:(f.setCell ⟨w.heap.size,0,none⟩ (.slice i j k)).cell? ⟨w.heap.size,0,none⟩=some (.slice i j k):=by rw[aC (aI M 0 _)];rfl
 have al:=aA a7;clear L A M R S a7;go_wp2;refine bodyPost_ret (v:=.agg #[.slice i j k]) (by simp[results,Tryz.results118,go_sem,al.out]) rfl ?_
 obtain⟨r,N,O,U⟩:=HF.out;exact⟨r,_,rfl,N,O,U⟩
theorem oY(m:Nat)(w:vF)(G:GV)(h:GM w B c n G s)(b:bN w)(d:0<B)(f:m<n)(hr:∀x,s.rep x≤x) :
  I5 hE 118 #[.pointer (some ⟨G.bg,0,none⟩),.int .u64 m] w fun e w'=>∃a v',e=.returned (.agg #[v'])∧GM w' B c n a s∧GCh w w' G a∧NewS w w' a v' (s.heirsOf m):=
 (tQ m w G h b d f hr).mono fun _ _ ⟨a,v',g,i,j,k,_⟩=>⟨a,v',g,i,j,k⟩
end
section
open Go.RowKit
variable {B:Nat} {c:Way} {n:Nat} {s:St}
theorem rO(m:Nat)(v:sA)(xs:List Nat)(w:vF)(h:cI w B v xs)(l:xs.length≤1000) :
  I5 hE 156 #[v,.int .u64 m] w fun e w'=>∃v',e=.returned v'∧cI w' B v' (xs.filter (· != m))∧Kb v.ownBlock.toList w w'∧v'.ownBlock=v.ownBlock:=by
 have a:Kb [] w (w.alloc (.cells #[.int .u64 (m:Int)] 144)):=(Kb.refl [] w).alloc _;have b:=tM B w.heap.size m v xs (w.alloc (.cells #[.int .u64 (m:Int)] 144)) (h.alloc _) l (aD _ _) (fun e=>by have:=(h.lt e).2;omega);have p:∀(d:Fn) (first f:Array sA) (w:vF),(Instr.makeFunc d first f).run hE w=.ok (.func d first f) w:=fun _ _ _ _=>rfl
 clear h;go_enter Tryz.func156,Tryz.ntmps156
 go_wp2_with fail
 refine b.mono ?_
 clear b;rintro e g ⟨v',rfl,i,j,k⟩;have o:Hid (cI g B v' (xs.filter (· != m))∧Kb v.ownBlock.toList w g∧v'.ownBlock=v.ownBlock):=aA ⟨i,(a.mono (by simp)).trans j,k⟩;clear i j k a;go_wp2;go_ret
 exact⟨_,rfl,o.out⟩
theorem wN{w a:vF}{b o:Nat}{e:Array sA}{T:TypeId}{v v':sA}{xs ys:List Nat}(f:w.heap[b]?=some (.cells e T (0,0)))(h:T≠TN)(j:cI w B v xs)(d:Kb v.ownBlock.toList w a)(h1:cI a B v' ys)(l:v'.ownBlock=v.ownBlock) :
  SetCh w (a.setCell ⟨b,o,none⟩ v') b o e T v v'∧cI (a.setCell ⟨b,o,none⟩ v') B v' ys:=by
 have i:a.heap[b]?=some (.cells e T (0,0)):=d.heap f (by simp;exact j.ne f h);refine⟨⟨aI i o v',?_,.inl l⟩,h1.kb ((Kb.refl [b] a).setCell (p:=⟨b,o,none⟩) (.inl (by simp)) _) (by intro g m;rw[A1.1 m];exact h1.ne i h)⟩;exact(d.mono (by intro k _ d;simp at d;simp[d])).setCell (p:=⟨b,o,none⟩) (.inl (by simp)) _
theorem rD(m:Nat)(w:vF)(G:GV)(h:GM w B c n G s)(Z:m<128)(a4:s.now.length≤500)(a5:s.come.length≤500) :
  I5 hE 114 #[.pointer (some ⟨G.bl,0,none⟩),.int .u64 m] w fun e w'=>e=.returned (.tuple #[])∧∃z,GM w' B c n z (s.drop m)∧GCh w w' G z:=by
 have A:=mH B G.bl 1 (gG c G) TL G.vi s.inside m w (by decide) h.hbl rfl h.sI Z;have H:=aA h;clear h;go_enter Tryz.func114,Tryz.ntmps114
 go_wp2_with fail
 refine A.mono ?_
 clear A;rintro e C ⟨rfl,v1,D,E⟩;obtain⟨o,F⟩:=H.out.lj E D;clear D E;have d:=o.hbl;have I:=o.oN;have cn:C.cell? ⟨G.bl,2,none⟩=some G.vn:=by rw[aC d];rfl
 have j:=rO m G.vn s.now C I (by omega);have f:=aA (And.intro o F);clear o F d I;go_wp2_with fail
 refine j.mono ?_
 clear j;rintro e k ⟨v2,rfl,q,r,J⟩;have d:=f.out.1.hbl;obtain⟨K,L⟩:=wN (o:=2) d (by decide) f.out.1.oN r q J;obtain⟨p,M⟩:=f.out.1.jk K L (by have:=Ma (· != m) s.now;show(s.now.filter (· != m)).length≤1000;omega);have g:k.heap[G.bl]?=some (.cells (gG c { G with vi:=v1 }) TL (0,0)):=r.heap d (by simp;exact f.out.1.oN.ne d (by decide));have a1:k.cell? ⟨G.bl,2,none⟩=some G.vn:=by rw[aC g];rfl
 have a6:k.frozen? ⟨G.bl,2,none⟩=false:=aE g 2;have t:∃a l b,v2=.slice a l b:=by obtain⟨a,b,e,_⟩:=q.form;exact⟨a,_,b,e⟩
 obtain⟨N,O,P,rfl⟩:=t;have u:∃a l b,G.vn=.slice a l b:=by obtain⟨a,b,e,_⟩:=f.out.1.oN.form;exact⟨a,_,b,e⟩
 obtain⟨a7,l0,a8,e0⟩:=u;rw[e0]at a1;have Q:=p.hbl;have a2:(k.setCell ⟨G.bl,2,none⟩ (.slice N O P)).cell? ⟨G.bl,3,none⟩=some G.vc:=by rw[aC Q];rfl
 have j:=rO m G.vc s.come (k.setCell ⟨G.bl,2,none⟩ (.slice N O P)) p.oC (by omega);have i:=aA (And.intro p (f.out.2.trans M));clear p M K L d g Q q r J f cn;go_wp2_with fail
 refine j.mono ?_
 clear j;rintro e R ⟨v3,rfl,x,y,S⟩;have d:=i.out.1.hbl;obtain⟨T,U⟩:=wN (o:=3) d (by decide) i.out.1.oC y x S;obtain⟨V,X⟩:=i.out.1.lr T U (by have:=Ma (· != m) s.come;show(s.come.filter (· != m)).length≤1000;omega);have g:=y.heap d (by simp;exact i.out.1.oC.ne d (by decide));have a3:R.cell? ⟨G.bl,3,none⟩=some G.vc:=by rw[aC g];rfl
 have a9:R.frozen? ⟨G.bl,3,none⟩=false:=aE g 3;have t:∃a l b,v3=.slice a l b:=by obtain⟨a,b,e,_⟩:=x.form;exact⟨a,_,b,e⟩
 obtain⟨aa,l3,ab,rfl⟩:=t;have u:∃a l b,G.vc=.slice a l b:=by obtain⟨a,b,e,_⟩:=i.out.1.oC.form;exact⟨a,_,b,e⟩
 obtain⟨ad,l4,ae,e4⟩:=u;rw[e4]at a3;have Y:=aA (And.intro V (i.out.2.trans X));clear V X T U d g x y S i a2;go_wp2;go_end0
 exact⟨rfl,_,Y.out.1,Y.out.2⟩
end
end Go.Proofs.YtiamlbhkiehilaaGreatDoor
