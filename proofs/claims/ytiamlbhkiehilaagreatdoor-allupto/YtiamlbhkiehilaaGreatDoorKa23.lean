import Derived.Test.YtiamlbhkiehilaaGreatDoorKa20
import Derived.Test.YtiamlbhkiehilaaGreatDoorKa14
open Go renaming World→vF
open Go.Builtin renaming append_→Ka
open Go.Proofs.Tryz renaming prog→hE
open Go.Value renaming slice→E2
open List renaming getElem?_eq_getElem→hZ,mem_cons_self→Bx,mem_cons→sT,mem_singleton→A1,map_append→Jp,length_map→JO
open Nat renaming lt_of_lt_of_le→A2,le_refl→gO
namespace Go.Proofs.YtiamlbhkiehilaaGreatDoor
section
open Go.RowKit Go.Shelf
attribute [local go_sem] Oper.semAt_some
attribute [-go_sem] Builtin.append_
variable {B:Nat} {c:Way} {n:Nat} {s:St}
theorem fB{F:Fence}{m:Nat}{P:Program}{c:Code}{K:Act→vF→Prop}{Q:Exit→Act→vF→Prop}{a:Act}{w:vF}(h:c.wpIn F m P (nrm K) a w)(b:∀a w,K a w→Q .normal a w):c.wpIn F m P Q a w:=
 Code.wpIn_mono (fun e a w h=>by cases e<;>first|exact b _ _ h|exact h.elim) h
def lV(s:St)(a:List ByteArray):List RowD:=(List.range a.length).map fun i=>⟨a.getD i ⟨#[]⟩,(s.tg (s.rep i)).map (fun t=>a.getD t ⟨#[]⟩)⟩
theorem DE{s:St}{a:List ByteArray}{i:Nat}(b:i<a.length):(lV s a)[i]?=some ⟨a.getD i ⟨#[]⟩,(s.tg (s.rep i)).map (fun t=>a.getD t ⟨#[]⟩)⟩:=by unfold lV;rw[List.getElem?_map,List.getElem?_range b];rfl
theorem wZ(s:St)(a:List ByteArray):(lV s a).length=a.length:=by simp[lV]
theorem LI.side{w:vF}{G:GV}{L:List Nat}{e:List (Nat × Array Value × TypeId)}{W W':vF}{j:St}{f:GV}(h:LI w B c n G L e [] W j f){M:List Nat}(d:Kb M W W')(g:∀b∈M,w.heap.size≤b∧b ∉ f.foot∧b ∉ L∧∀q∈e,q.1≠b):LI w B c n G L e [] W' j f:=
 ⟨h.gm.beside d (fun b i=>(g b i).2.1),h.ch.beside d (fun b i=>(g b i).1),fun q a=>⟨d.heap (h.bx q a).1 (fun m=>(g _ m).2.2.2 q a rfl),(h.bx q a).2⟩,(by intro q a;cases a),fun k l=>⟨(h.lb k l).1,A2 (h.lb k l).2 d.size⟩⟩
set_option maxRecDepth 100000 in
set_option maxHeartbeats 40000000 in
theorem DF(ao:Option Addr)(cap:Nat)(d:List ByteArray)(w:vF)(G:GV)(h:GM w B c d.length G s)(hw:WF d.length s)(hT:bN w)(dw:0<B)(ba:cY (.slice ao d.length cap) d w)(ab:d≠[]→∀a:Addr,ao=some a→a.block<B) :
  Calls hE 60 #[.pointer (some ⟨G.bg,0,none⟩),.slice ao d.length cap] w fun e w'=>∃vl u,e=.returned vl∧dP vl (lV s d) w'∧GM w' B c d.length u s∧GCh w w' G u:=by
 obtain⟨i0,d4,d5,d6,d7⟩:=info_parts iJ;obtain⟨j0,d8,d9,da,db⟩:=info_parts sZ;have dx:=h.n40;have dc:Hid (d≠[]→∃b P,ao=some ⟨b,P,none⟩∧∀W u,GCh w W G u→tX b P d W):=by refine aA (fun bb=>?_);obtain⟨dy,dz,e,_,_,h3⟩:=ba;obtain⟨b,P,rfl,hb,hs⟩:=h3 bb;injection e with e _ _;subst e;refine⟨b,P,rfl,fun W u hC i x hi=>?_⟩;have dd:=ab bb _ rfl;rw[← hs i x hi];exact World.cell?_of_block (hC.kb.block b hb (fun f=>by have:=(h.cells f).1;simp at dd;omega))
 have TT:Hid (∀(W:vF) (u:GV),GCh w W G u→bN W):=aA (fun W u p=>hT.kb p.kb (fun f=>by have:=(h.cells f).1;omega));obtain⟨W0,ad⟩:∃W0,W0=w.alloc (.cells #[.slice ao d.length cap] 44):=⟨_,rfl⟩;have k0:Kb [] w W0:=by rw[ad];exact(Kb.refl [] w).alloc _
 have x0:W0.heap[w.heap.size]?=some (.cells #[.slice ao d.length cap] 44 (0,0)):=by rw[ad];exact aD _ _
 have R0:RI w B c d.length G s (.slice ao d.length cap) [] W0 G (.slice none 0 0) [] W0.heap.size []:=by refine⟨?_,OwnR.nil _ _ _,k0.size,gO _,by simp,List.nodup_nil,by simp⟩;exact((LI.start h).fresh k0).1.fk x0 (fun f=>by have:=h.gh _ f;omega)
 refine(callsIn_wide (n:=20)).1 ?_
 refine callsIn_of_wp_marks Tryz.func60 rfl trivial ?_ rfl;simp only[Tryz.ntmps60,List.size_toArray,List.length_cons,List.length_nil,Nat.reduceAdd,Nat.reduceSub,Array.replicate_succ,Array.replicate_zero,List.push_toArray,List.append_toArray,List.nil_append,List.cons_append];have bc:=aA R0;clear R0 x0 k0 ba;gi_wp2
 rw[← ad];refine wpIn_loop_ghost (fun k a W=>∃i vl Q C u x6 x7 x8 x9 bd be bf bg bh bi bj bk bl bm bn bo bp bq br bs bt bu bv ai aj ak al am an ap aq ar au av aw ax ay az,k+i=d.length∧RI w B c d.length G s (.slice ao d.length cap) [] W u vl Q W.heap.size C∧Q.map Prod.fst=(lV s d).take i∧a={ tmps:=#[.pointer (some ⟨G.bg,0,none⟩),.slice ao d.length cap,undef,.pointer (some ⟨w.heap.size,0,none⟩),.slice none 0 0,vl,x6,x7,x8,x9,.slice ao d.length cap,.int .i64 (d.length:Int),.int .i64 (i:Int),bd,be,bf,bg,bh,bi,bj,bk,bl,bm,bn,bo,bp,bq,br,bs,bt,bu,bv,ai,aj,ak,al,am,an,ap,aq,ar,au,av,aw,ax,ay,az,undef],defers:=C.map uH }) d.length ⟨0,.slice none 0 0,[],[],G,_,_,_,_,_,_,_,_,_,_,_,_,_,_,_,_,_,_,_,_,_,_,_,_,_,_,_,_,_,_,_,_,_,_,_,_,_,_,Nat.add_zero _,bc.out,rfl,rfl⟩ ?_
 clear bc ad;rintro k a W ⟨i,vl,Q,C,u,x6,x7,x8,x9,bd,be,bf,bg,bh,bi,bj,bk,bl,bm,bn,bo,bp,bq,br,bs,bt,bu,bv,ai,aj,ak,al,am,an,ap,aq,ar,au,av,aw,ax,ay,az,aV,y,a0,rfl⟩;by_cases Z:i<d.length
 ·obtain⟨q,bw⟩:∃q,d[i]?=some q:=⟨_,hZ Z⟩;obtain⟨b,P,rfl,hS⟩:=dc.out (by intro e;rw[e]at Z;simp at Z);have c0:=hS W u y.li.ch i q bw;obtain⟨O,a8⟩:∃O,O=W.alloc (.cells #[.string q,.slice none 0 0] 51):=⟨_,rfl⟩;have k1:Kb [] W O:=by rw[a8];exact(Kb.refl [] W).alloc _
  have y1:O.heap[W.heap.size]?=some (.cells #[.string q,.slice none 0 0] 51 (0,0)):=by rw[a8];exact aD _ _
  have kd:Kb [] O O.drew:=(Kb.refl [] O).drew;have R2:=(y.fresh (k1.trans kd)).1;have b0:W.heap.size ∉ u.foot:=y.li.gg (gO _);have e1:=y.li.ch.e1;have dF:=hw.lt Z;have r5:=(y.fresh k1).1.li.gm.reads.2.2.2.2.2.1;rw[e1,y.li.ch.e2]at r5;have ae:=pU i O.drew u R2.li.gm (by omega);rw[e1]at ae;obtain⟨Good,b1⟩:∃Good:vF→Nat→Value→Prop,Good=fun z I J=>∃G3,RI w B c d.length G s (.slice (some ⟨b,P,none⟩) d.length cap) [] z G3 vl Q W.heap.size C∧z.heap[W.heap.size]?=some (.cells #[.string q,.slice none 0 0] 51 (0,0))∧W.heap.size ∉ G3.foot∧z.heap[I]?=some (.cells #[J] 110 (0,0))∧aO z (W.heap.size+1) J (s.tg (s.rep i))∧W.heap.size<z.heap.size∧∀g,J.ownBlock=some g→g ∉ G3.foot:=⟨_,rfl⟩
  have HN:Hid (∀Y G2,GM Y B c d.length G2 s→GCh O.drew Y u G2→Y.cell? ⟨G.bg,5,none⟩=some (.slice (some ⟨G.bn,0,none⟩) d.length G2.cap)∧Calls hE 94 #[.pointer (some ⟨G.bn,s.rep i*7,none⟩)] Y fun e z=>∃I J,e=.returned (.func (.func 127) #[] #[.pointer (some ⟨I,0,none⟩)])∧Good z I J):=by
   refine aA (fun Y G2 a9 a1=>?_);obtain⟨K,_,_⟩:=R2.call a9 a1;have R:=K.li.gm.reads.2.2.2.2.2.1;rw[K.li.ch.e1,K.li.ch.e2]at R;refine⟨R,?_⟩;obtain⟨v,bx,q',qs⟩:=K.li.gm.get (k:=7*s.rep i) (by omega);have:=dN B G2.bn (7*s.rep i) _ TNd v _ Y K.li.gm.hbn q' qs;rw[K.li.ch.e2,show 7*s.rep i=s.rep i*7 by omega]at this;refine this.mono ?_
   rintro e z ⟨I,J,p1,p2,p3,p4,p5⟩;refine⟨I,J,p1,?_⟩;rw[b1];have bz:W.heap.size<Y.heap.size:=by have F:=aB y1;have j:=a1.kb.size;have h7:O.drew.heap.size=O.heap.size:=rfl;omega
   refine⟨G2,(K.fresh p5).1,p5.heap (a1.kb.heap y1 b0) (by simp),fun f=>?_,p3,?_,A2 bz p5.size,fun g l f=>by have h6:=(p4.lt l).1;have h5:=a9.gh g f;omega⟩
   ·rcases a1.ft _ f with F|F
    ·exact b0 F
    ·have j:=aB y1;have h7:O.drew.heap.size=O.heap.size:=rfl;omega
   ·have e9:s.tg (s.rep i)=s.ss.getD (s.rep i*7) []:=by unfold St.tg;rw[show 7*s.rep i=s.rep i*7 by omega]
    rw[e9];exact p4.low (by omega)
  have dL:IntKind.u64.wrap (i:Int)=(i:Int):=by rw[IntKind.wrap_u64];omega
  have HR:=aA y;have bF:=aA b1;have c2:=aA a0;have c3:=aA aV;clear y R2 k1 kd b0 b1 a0 aV;gi_wp2
  rw[← a8];refine nG (K:=fun a z=>∃I J c5 c6 c7 c8 c9 ca cd ce cf cg ch ci cj ck cl cm cn co,Good z I J∧a={ tmps:=#[.pointer (some ⟨G.bg,0,none⟩),.slice (some ⟨b,P,none⟩) d.length cap,undef,.pointer (some ⟨w.heap.size,0,none⟩),.slice none 0 0,vl,.int .i64 (i:Int),.string q,.pointer (some ⟨W.heap.size,0,none⟩),x9,.slice (some ⟨b,P,none⟩) d.length cap,.int .i64 (d.length:Int),.int .i64 (i:Int),c5,c6,c7,c8,c9,ca,cd,ce,cf,cg,ch,ci,cj,ck,cl,cm,cn,co,.func (.func 127) #[] #[.pointer (some ⟨I,0,none⟩)],ai,aj,ak,al,am,an,ap,aq,ar,au,av,aw,ax,ay,az,undef],defers:=C.map uH }) ?_ ?_
  ·clear y1 a8;go_region_with (first
    |(refine ae.mono ?_;clear ae;rintro e Y ⟨rfl,G2,a9,a1⟩;obtain⟨R,cp⟩:=HN.out Y G2 a9 a1;clear a9 a1)
    | (refine cp.mono ?_;clear cp;rintro e z ⟨I,J,rfl,dg⟩))
   all_goals exact⟨I,J,_,_,_,_,_,_,_,_,_,_,_,_,_,_,_,_,_,_,dg,rfl⟩
  rintro a z ⟨I,J,c5,c6,c7,c8,c9,ca,cd,ce,cf,cg,ch,ci,cj,ck,cl,cm,cn,co,cq,rfl⟩;have aV:=c3.out;have a0:=c2.out;rw[bF.out]at cq;obtain⟨G3,K,cs,ct,cu,a2,bz,dh⟩:=cq;clear bF c2 c3 HN ae a8 y1 r5;obtain⟨T,af⟩:∃T,T=s.tg (s.rep i):=⟨_,rfl⟩;rw[← af]at a2;have cv:∀x∈T,x<d.length:=fun x H=>hw.bd _ x (by rw[af]at H;exact H)
  have dT:T.length≤40:=by have:=a2.len cv;omega
  obtain⟨L,hL⟩:∃L,L=0::J.ownBlock.toList:=⟨_,rfl⟩;have di:=(K.li.bx _ Bx).1;have dW:w.heap.size<W.heap.size:=aB (HR.out.li.bx _ Bx).1;have e0:B≤w.heap.size:=h.hB;have b3:∀k∈L,k ∉ G3.foot∧k<z.heap.size:=by
   intro k r;rw[hL]at r;rcases sT.1 r with rfl|r
   ·exact⟨fun f=>by have:=(K.li.gm.cells f).1;omega,by omega⟩
   ·simp at r;exact⟨dh k r,(a2.lt r).2⟩
  have cw:=bZ 19 I (W.heap.size+1) J T L z cu a2 (TT.out _ _ K.li.ch) (fun g l=>by rw[hL];simp[l]) (by rw[hL];simp);have cx:∀k∈L,k<z.heap.size:=fun k r=>(b3 k r).2
  have cy:∀x∈C,x<z.heap.size:=fun x H=>aB (K.dd x H)
  have R4:=K.il b3;have ag:=aA (And.intro R4 (And.intro cs ct));clear K R4 cs ct cu b3 di;gi_wp2
  refine wpIn_rangeFunc_ownG (α:=Mem T) (hro:=rfl) (h1:=by omega) (gf:=127) (lb:=#[.pointer (some ⟨I,0,none⟩)]) rfl trivial (enters_of Tryz.func127 (by kernel_rfl) rfl) cw (fun Z h2=>Z.trans h2) (fZ cx) (Below.refl _ _) (fun _=>rfl)
   (fun pre X=>∃m M,RI w B c d.length G s (.slice (some ⟨b,P,none⟩) d.length cap) L X M vl Q W.heap.size C∧X.heap[W.heap.size]?=some (.cells #[.string q,m] 51 (0,0))∧W.heap.size ∉ M.foot∧X.ownsRow W.heap.size 9 1 m pre.length (nT (pre.map (fun x=>d.getD x.1 ⟨#[]⟩)))∧KpB L z X)
   (fun _ _ _=>False) ?hI (fun _ _ _ _ _ hs _ _=>hs) ⟨.slice none 0 0,G3,ag.out.1,ag.out.2.1,ag.out.2.2,World.ownsRow_nil _ _ _ _,KpB.refl _ _⟩ ?a1 ?assign ?body ?done ?stop
  case hI=>
   rintro pre X X' dj ⟨m,M,o,N,q3,E,R⟩ l hr;have ab:∀ {b:Nat} {A:Array Value} {T:TypeId} {fz:Nat × Nat},X.heap[b]?=some (.cells A T fz)→b ∉ dj.toList:=by intro b A T fz hb f;obtain⟨_,e4,ho,p⟩:=hr b (by simpa using f);rw[hb]at ho;cases ho;cases p
   refine⟨m,M,o.own (by omega) cy l hr,(aS l).heap N (ab N),q3,qL E (aS l) (fun g dk=>?_),fun k r=>?_⟩
   ·obtain⟨A,p⟩:=iF E dk;exact ab p
   ·rw[← R k r];refine(aS l).block k (o.li.lb k r).2 (fun f=>?_);have j:=(hr k (by simpa using f)).1;have F:=cx k r;omega
  case assign=>
   intro dl x W c4 hK;gi_wp2
   exact hK
  case stop=>rintro D cc pre X _ _ hF _;exact hF.elim
  case body=>
   rintro dl pre ⟨a3,ah⟩ X ⟨m,M,o,N,q3,E,R⟩ cz;have hy:=cv a3 ah;obtain⟨S,b4⟩:∃S,d[a3]?=some S:=⟨_,hZ hy⟩;have cA:d.getD a3 ⟨#[]⟩=S:=by simp[b4]
   have c1:=hS X M o.li.ch a3 S b4;have cb:=o.li.cell (b:=w.heap.size) (v:=.slice (some ⟨b,P,none⟩) d.length cap) (T:=44) Bx;have cr:X.cell? ⟨W.heap.size,1,none⟩=some m:=by rw[aC N];rfl
   have e5:(X.alloc (.cells #[.string S] 9)).cell? ⟨W.heap.size,1,none⟩=some m:=by rw[aC (aF N _)];rfl
   have kA:Kb [] X (X.drew.alloc (.cells #[.string S] 9)):=((Kb.refl [] X).drew).alloc _;have e6:W.heap.size≤X.heap.size:=o.hs2;obtain⟨v',w',aa,a4,a7,_⟩:=run_append_own (P:=hE) (X.drew.alloc (.cells #[.string S] 9)) W.heap.size 44 44 9 i0 (.string ⟨#[]⟩) 1 16 Tryz.underlying44 d4 d5 d6 d7 rfl (by decide) m pre.length _ (qL E kA (by simp)) ⟨X.heap.size,0,none⟩ 1 1 [.string S] rfl (bU X.drew _ _ _ rfl) (by intro b5 hu;simp at hu;rw[hu];rfl) (by unfold maxLen;have:pre.length<T.length:=cz;omega) (by have:pre.length<T.length:=cz;omega) (by simp;omega);obtain⟨U,V,dp,_⟩:=aQ a4;obtain⟨a5,a6,dq,_⟩:=aQ E;subst dp dq;have kG:=aS a7;have cB:∀g,(E2 a5 pre.length a6).ownBlock=some g→g≠W.heap.size:=by intro g l;obtain⟨A,p⟩:=iF E l;exact aP p N (by decide)
   have b2:w'.heap[W.heap.size]?=some (.cells #[.string q,.slice a5 pre.length a6] 51 (0,0)):=kG.heap (kA.heap N (by simp)) (fun f=>by simp at f;exact cB _ f rfl);have e7:w'.cell? ⟨W.heap.size,1,none⟩=some (.slice a5 pre.length a6):=by rw[aC b2];rfl
   have ea:w'.frozen? ⟨W.heap.size,1,none⟩=false:=aE b2 1;have HF:Hid ((∀D,KeepsFrom D X (w'.setCell ⟨W.heap.size,1,none⟩ (.slice U (pre.length+1) V)))∧KpB L X (w'.setCell ⟨W.heap.size,1,none⟩ (.slice U (pre.length+1) V))∧∃m M,RI w B c d.length G s (.slice (some ⟨b,P,none⟩) d.length cap) L (w'.setCell ⟨W.heap.size,1,none⟩ (.slice U (pre.length+1) V)) M vl Q W.heap.size C∧(w'.setCell ⟨W.heap.size,1,none⟩ (.slice U (pre.length+1) V)).heap[W.heap.size]?=some (.cells #[.string q,m] 51 (0,0))∧W.heap.size ∉ M.foot∧(w'.setCell ⟨W.heap.size,1,none⟩ (.slice U (pre.length+1) V)).ownsRow W.heap.size 9 1 m (pre++[(⟨a3,ah⟩:Mem T)]).length (nT ((pre++[(⟨a3,ah⟩:Mem T)]).map (fun x=>d.getD x.1 ⟨#[]⟩)))∧KpB L z (w'.setCell ⟨W.heap.size,1,none⟩ (.slice U (pre.length+1) V))):=by
    refine aA ?_
    have kS:Kb [W.heap.size] w' (w'.setCell ⟨W.heap.size,1,none⟩ (.slice U (pre.length+1) V)):=(Kb.refl _ _).setCell (p:=⟨W.heap.size,1,none⟩) (.inl (by simp)) _;have kk:Kb (W.heap.size::(E2 a5 pre.length a6).ownBlock.toList) X (w'.setCell ⟨W.heap.size,1,none⟩ (.slice U (pre.length+1) V)):=((kA.mono (by simp)).trans (kG.mono (by intro k _ r;simp[r]))).trans (kS.mono (by intro k _ r;simp at r;simp[r]));have hM:∀g∈W.heap.size::(E2 a5 pre.length a6).ownBlock.toList,W.heap.size≤g∧g≠w.heap.size∧g ∉ M.foot∧g ∉ L∧∃A T,X.heap[g]?=some (.cells A T (0,0)):=by
     intro g l;rcases sT.1 l with rfl|l
     ·refine⟨gO _,by omega,q3,?_,_,_,N⟩;rw[hL];intro f;rcases sT.1 f with e|f
      ·omega
      ·simp at f;have:=(a2.lt f).1;omega
     ·simp at l;obtain⟨A,p⟩:=iF E l;refine⟨(E.lt g l).1,aP p (o.li.bx _ Bx).1 (by dsimp only;decide),fun f=>?_,?_,_,_,p⟩
      ·obtain⟨cC,T2,j,t1,_⟩:=o.li.gm.types f;rw[p]at j;injection j with j;injection j with _ j _;exact t1 j.symm
      ·rw[hL];intro f;rcases sT.1 f with e|f
       ·have:=(E.lt g l).1;omega
       ·simp at f;obtain⟨cC,dr⟩:=a2.block f;have j:=R g (by rw[hL];simp[f]);rw[p,dr]at j;injection j with j;injection j with _ j _;exact absurd j (by decide)
    obtain⟨s1,s2,s3⟩:=o.side kk hM;refine⟨s2,s3,.slice U (pre.length+1) V,M,s1,by rw[aI b2];rfl,q3,?_,R.trans s3⟩;have F:=qL a4 kS (fun g l f=>by
     rw[A1.1 f]at l;obtain⟨A,p⟩:=iF a4 l;exact aP p b2 (by decide) rfl)
    have e8:nT ((pre++[(⟨a3,ah⟩:Mem T)]).map (fun x=>d.getD x.1 ⟨#[]⟩))=nT (pre.map (fun x=>d.getD x.1 ⟨#[]⟩))++[.string S]:=by rw[Jp];unfold nT;rw[Jp];simp only[List.map_cons,List.map_nil,cA]
    rw[e8,List.length_append];exact F
   have ds:(X.drew.alloc (.cells #[.string S] 9)).heap.size=X.heap.size+1:=by simp
   have b6:(Ka #[44,44] 44 #[.slice a5 pre.length a6,.slice (some ⟨X.heap.size,0,none⟩) 1 1]).run hE ((X.alloc (.cells #[.string S] 9)).drew)=.ok (.slice U (pre.length+1) V) w':=aa;obtain⟨AP,b7⟩:∃AP,Ka #[44,44] 44 #[.slice a5 pre.length a6,.slice (some ⟨X.heap.size,0,none⟩) 1 1]=AP:=⟨_,rfl⟩;rw[b7]at b6;clear o N q3 E R a4 a7 kG kA b2 cB cA b4 ds aa;dsimp only[jO,Array.zip,Array.foldl];gi_wp2
   refine fB (K:=fun _ W'=>W'=w'.setCell ⟨W.heap.size,1,none⟩ (.slice U (pre.length+1) V)) ?_ ?_
   ·gi_region
    all_goals exact rfl
   rintro a W' rfl;exact⟨HF.out.1 _,HF.out.2.1,HF.out.2.2⟩
  case done=>
   rintro D xs X hD cF ⟨m,M,o,N,q3,E,R⟩ hK;have b8:xs.map (fun x=>d.getD x.1 ⟨#[]⟩)=T.map (fun t=>d.getD t ⟨#[]⟩):=by have F:=congrArg (List.map (fun t=>d.getD t ⟨#[]⟩)) cF;rw[List.map_map]at F;exact F
   have cL:xs.length=(T.map (fun t=>d.getD t ⟨#[]⟩)).length:=by rw[← b8,JO]
   rw[b8,cL]at E;obtain⟨ta,tc,et,_⟩:=aQ E;subst et;obtain⟨m,b9⟩:∃m,m=E2 ta (T.map (fun t=>d.getD t ⟨#[]⟩)).length tc:=⟨_,rfl⟩;rw[← b9]at N E;have cO:X.ownsRow W.heap.size 9 1 m (⟨q,T.map (fun t=>d.getD t ⟨#[]⟩)⟩:RowD).to.length ((⟨q,T.map (fun t=>d.getD t ⟨#[]⟩)⟩:RowD).to.map Value.string):=E;have d0:X.cell? ⟨W.heap.size,0,none⟩=some (.string q):=by rw[aC N];rfl
   have d1:X.cell? ⟨W.heap.size,1,none⟩=some m:=by rw[aC N];rfl
   have ec:Q.length=i:=by have F:=congrArg List.length a0;rw[JO,List.length_take,wZ]at F;omega
   have dt:W.heap.size≤X.heap.size:=o.hs2;have cS:∀b5∈[Value.string q,m],b5.oneCell'=true:=by
    intro b5 hu;simp at hu;rcases hu with F|F
    ·rw[F];rfl
    ·rw[F,b9];rfl
   obtain⟨v',w',aa,a4,a7,_⟩:=run_append_own (P:=hE) (X.alloc (.cells #[.string q,m] 51)) w.heap.size 40 40 51 j0 (.agg #[.string ⟨#[]⟩,.slice none 0 0]) 2 40 Tryz.underlying40 d8 d9 da db rfl (by decide) vl Q.length _ (o.row.row.alloc _) ⟨X.heap.size,0,none⟩ 1 1 [.string q,m] rfl (bU X _ _ _ rfl) cS (by unfold maxLen;omega) (by omega) (by simp;omega);have cW:=o.row.push o.hs1 cO a4 a7;have HF:Hid (RI w B c d.length G s (.slice (some ⟨b,P,none⟩) d.length cap) [] w' M v' (Q++[(⟨q,T.map (fun t=>d.getD t ⟨#[]⟩)⟩,m)]) w'.heap.size (D::C)∧(Q++[((⟨q,T.map (fun t=>d.getD t ⟨#[]⟩)⟩:RowD),m)]).map Prod.fst=(lV s d).take (i+1)):=by
    have kA:Kb [] X (X.alloc (.cells #[.string q,m] 51)):=(Kb.refl [] X).alloc _;have kk:Kb vl.ownBlock.toList X w':=(kA.mono (by simp)).trans (aS a7);have d2:∀g∈vl.ownBlock.toList,∃A,X.heap[g]?=some (.cells A 51 (0,0)):=fun g l=>iF o.row.row (by simpa using l)
    have l1:=(o.il (L':=[]) (by simp)).li.side kk (fun g l=>by
     obtain⟨A,p⟩:=d2 g l;refine⟨(o.row.row.lt g (by simpa using l)).1,fun f=>?_,by simp,fun bx hq e=>?_⟩
     ·obtain⟨cC,T2,j,_,t2,_⟩:=o.li.gm.types f;rw[p]at j;injection j with j;injection j with _ j _;exact t2 j.symm
     ·have j:=(o.li.bx bx hq).1;rw[A1.1 hq]at j e;rw[← e]at p;rw[p]at j;injection j with j;injection j with _ j _;exact absurd j (by dsimp only;decide))
    have d3:∀x:Nat,X.heap[x]?=some (Obj.deferred (some []))→w'.heap[x]?=some (Obj.deferred (some [])):=fun x H=>kk.heap H (fun f=>by
     obtain⟨A,p⟩:=d2 x f;rw[H]at p;cases p)
    refine aA ⟨⟨l1,cW,Nat.le_trans o.hs1 (Nat.le_trans dt kk.size),gO _,fun x H=>?_,List.nodup_cons.2 ⟨fun f=>?_,o.nd⟩,fun x H=>?_⟩,?_⟩
    ·rcases sT.1 H with rfl|H
     ·exact d3 _ hK
     ·exact d3 x (o.dd x H)
    ·have:=cy D f;omega
    ·rcases sT.1 H with rfl|H
     ·omega
     ·exact o.lo x H
    ·rw[Jp,a0,List.take_add_one,DE Z,← af];simp[bw]
   have b6:(Ka #[40,40] 40 #[vl,.slice (some ⟨X.heap.size,0,none⟩) 1 1]).run hE (X.alloc (.cells #[.string q,m] 51))=.ok v' w':=aa;obtain⟨AP,b7⟩:∃AP,Ka #[40,40] 40 #[vl,.slice (some ⟨X.heap.size,0,none⟩) 1 1]=AP:=⟨_,rfl⟩;rw[b7]at b6;clear o N q3 E cO R a4 a7 aa cW b8 cL HR ag cw b9 cS af a2 cF;gi_wp2
   exact⟨k-1,by omega,i+1,v',Q++[(⟨q,T.map (fun t=>d.getD t ⟨#[]⟩)⟩,m)],D::C,M,_,_,_,_,_,_,_,_,_,_,_,_,_,_,_,_,_,_,_,_,_,_,_,_,_,_,_,_,_,_,_,_,_,_,_,_,_,_,by omega,HF.out.1,HF.out.2,rfl⟩
 ·have du:i=d.length:=by omega
  rw[du,List.take_of_length_le (by rw[wZ];exact gO _)]at a0;have HF:Hid (dP vl (lV s d) (C.foldl (fun W D=>W.putObj D (.deferred none)) W)∧GM (C.foldl (fun W D=>W.putObj D (.deferred none)) W) B c d.length u s∧GCh w (C.foldl (fun W D=>W.putObj D (.deferred none)) W) G u):=by
   have r:=xZ C W;have dv:∀D∈C,∀A T fz,W.heap[D]?≠some (.cells A T fz):=fun D hD A T fz e=>by rw[y.dd D hD]at e;cases e
   refine aA ⟨?_,y.li.gm.beside r (fun D hD=>y.li.gm.gu (y.dd D hD) rfl),y.li.ch.beside r y.lo⟩;rw[← a0];exact(y.row.kb r (fun D hD=>.inr (fun A T fz p=>absurd p (dv D hD A T fz)))).rows
  have HD:=aA (And.intro y.nd y.dd);clear y;gi_wp2
  refine nS C W HD.out.1 HD.out.2 ?_
  exact⟨_,results_tmp rfl _ _ _,vl,u,rfl,HF.out⟩
end
end Go.Proofs.YtiamlbhkiehilaaGreatDoor
