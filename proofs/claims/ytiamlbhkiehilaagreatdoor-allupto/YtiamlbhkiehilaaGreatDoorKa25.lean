import Derived.Test.YtiamlbhkiehilaaGreatDoorKa24
open Go renaming World→vF,Value→sA,bodyPost_ret→IG
open Go.Proofs.Tryz renaming results177→MO
open Go.Value renaming slice→E2
open List renaming mem_cons→sT,range→IQ,mem_singleton→A1
open Nat renaming zero_le→IM,le_refl→gO
namespace Go.Proofs.YtiamlbhkiehilaaGreatDoor
set_option maxRecDepth 100000
set_option maxHeartbeats 2000000
section
open Go.RowKit
variable {B:Nat} {c:Way} {n:Nat} {s:St}
structure AlI(w:World)(B:Nat)(c:Way)(n:Nat)(G:GV)(s:St)(t:List Nat)(W:World)(G':GV)(vf:Value):Prop where
 gm:GM W B c n G' s
 ch:GCh w W G G'
 cz:W.heap[w.heap.size]?=some (.cells #[.slice none 0 0] aL (0,0))
 cel:W.heap[w.heap.size+1]?=some (.cells #[vf] aL (0,0))
 set:aO W w.heap.size vf t
 out:w.heap.size ∉ G'.foot∧w.heap.size+1 ∉ G'.foot∧∀g,vf.ownBlock=some g→g ∉ G'.foot
theorem AlI.call{w:vF}{G:GV}{t:List Nat}{W W':vF}{f a:GV}{k:sA}(h:AlI w B c n G s t W f k)(h1:GM W' B c n a s)(c1:GCh W W' f a):AlI w B c n G s t W' a k:=by
 have j:∀b,b<W.heap.size→b ∉ f.foot→b ∉ a.foot:=fun b p m o=>by
  rcases c1.ft b o with l|l
  ·exact m l
  ·omega
 exact⟨h1,h.ch.trans c1,c1.kb.heap h.cz h.out.1,c1.kb.heap h.cel h.out.2.1,h.set.kb c1.kb (fun g d e=>h.out.2.2 g e d),j _ (aB h.cz) h.out.1,j _ (aB h.cel) h.out.2.1,fun g d=>j g (h.set.lt d).2 (h.out.2.2 g d)⟩
theorem AlI.add{w:vF}{G:GV}{t o:List Nat}{W W':vF}{k:GV}{j l:sA}(h:AlI w B c n G s t W k j)(q:aO W' w.heap.size l o)(f:SetCh W W' (w.heap.size+1) 0 #[j] aL j l):AlI w B c n G s o W' k l:=by
 have p:∀b∈(w.heap.size+1)::j.ownBlock.toList,w.heap.size<b+1∧b ∉ k.foot:=by
  intro b a;rcases sT.1 a with rfl|a
  ·exact⟨by omega,h.out.2.1⟩
  ·simp at a;exact⟨by have:=(h.set.lt a).1;omega,h.out.2.2 b a⟩
 refine⟨h.gm.beside f.kb (fun b a=>(p b a).2),h.ch.beside f.kb (fun b a=>by have:=(p b a).1;omega),f.kb.heap h.cz (fun d=>?_),by rw[f.blk];rfl,q,h.out.1,h.out.2.1,fun g m=>?_⟩
 ·rcases sT.1 d with e|d
  ·omega
  ·simp at d;exact h.set.ne h.cz (by decide) d
 ·rcases f.lies with e|⟨r,e,u⟩
  ·exact h.out.2.2 g (by rw[← e];exact m)
  ·rw[e]at m;cases m;intro d;have:=h.gm.gh _ d;omega
theorem uN(w:vF)(G:GV)(h:GM w B c n G s)(hr:∀x,s.rep x≤x) :
  Calls Tryz.prog 153 #[.pointer (some ⟨G.bg,0,none⟩)] w fun e w'=>∃d v',e=.returned (.agg #[v'])∧GM w' B c n d s∧GCh w w' G d∧NewS w w' d v' (s.all n):=by
 have hn:=h.n40;obtain⟨l,o⟩:∃l,l=(w.alloc (.cells #[.slice none 0 0] aL)).alloc (.cells #[.slice none 0 0] aL):=⟨_,rfl⟩;have D:Kb [] w l:=by rw[o];exact((Kb.refl [] w).alloc _).alloc _
 have z0:l.heap.size=w.heap.size+2:=by rw[o];simp
 have K:l.heap[w.heap.size]?=some (.cells #[.slice none 0 0] aL (0,0)):=by rw[o];exact aF (aD _ _) _
 have L:l.heap[w.heap.size+1]?=some (.cells #[.slice none 0 0] aL (0,0)):=by rw[o];have:=aD (w.alloc (.cells #[.slice none 0 0] aL)) (.cells #[.slice none 0 0] aL);rw[World.size_alloc]at this;exact this
 have E:=h.fresh D;have M:=h.gh;have N:=E.reads.2.2.2.2.2.1;have O:AlI w B c n G s [] l G (.slice none 0 0):=⟨E,⟨D.mono (by simp),fun b p=>.inl p,rfl,rfl,rfl⟩,K,L,aO.nil _ _,fun F=>by have:=M _ F;omega,fun F=>by have:=M _ F;omega,fun g q=>by cases q⟩;have P:=aA O;rw[o]at N;clear O K L D E;go_enter Tryz.func153,Tryz.ntmps153
 go_wp2;rw[← o];clear N;go_loopg [10] n (fun k Y wr=>∃i:Nat,Y=.int .i64 i∧i≤n∧n-i≤k∧Hid (∃d z,AlI w B c n G s ((IQ i).foldl (fun f m=>dB (s.rep m) f) []) wr d z))
 case atStart=>exact⟨0,rfl,IM _,gO _,aA ⟨G,_,P.out⟩⟩
 case round=>
  clear P;obtain⟨i,rfl,hi,hk,H⟩:=hrel;obtain⟨d,z,a⟩:=H.out;by_cases a6:i<n
  ·have Z:(i:Int)<(n:Int):=by omega
   have a7:IntKind.u64.wrap (i:Int)=(i:Int):=by rw[IntKind.wrap_u64];omega
   have I:=pU i wr d a.gm (by omega);rw[a.ch.e1]at I;have a0:s.rep i<128:=by have:=hr i;omega
   have Q:(IQ (i+1)).foldl (fun f m=>dB (s.rep m) f) []=dB (s.rep i) ((IQ i).foldl (fun f m=>dB (s.rep m) f) []):=by rw[List.range_succ,List.foldl_append];rfl
   have a1:=aA Q;have HP:=aA a;clear a H Q;go_wp2_with fail
   refine I.mono ?_
   clear I;rintro e W1 ⟨rfl,G2,R,S⟩;have r:=HP.out.call R S;have T:=gS w.heap.size (w.heap.size+1) 0 #[z] aL z _ (s.rep i) W1 r.ch.kb.size (by decide) r.cel rfl r.set a0;have a2:=aA r;clear R S r;go_wp2_with fail
   refine T.mono ?_
   clear T;rintro e j ⟨rfl,v3,U,V⟩;have a3:=aA (a2.out.add U V);clear U V;go_wp2;go_roundg (n-(i+1))
   case measure=>omega
   case rel=>exact⟨i+1,by first|rfl|(congr 1;omega),by omega,gO _,aA ⟨G2,v3,by rw[a1.out];exact a3.out⟩⟩
  ·have Z:¬(i:Int)<(n:Int):=by omega
   have a4:i=n:=by omega
   obtain⟨t,u,y,A⟩:=a.set.form;have cf:wr.cell? ⟨w.heap.size+1,0,none⟩=some (.slice t u y):=by rw[aC a.cel,A];rfl
   have cz:wr.cell? ⟨w.heap.size,0,none⟩=some (.slice none 0 0):=by rw[aC a.cz];rfl
   have fz:wr.frozen? ⟨w.heap.size,0,none⟩=false:=aE a.cz 0;obtain⟨j,J⟩:∃j,j=wr.setCell ⟨w.heap.size,0,none⟩ (.slice t u y):=⟨_,rfl⟩;have C:Kb [w.heap.size] wr j:=by rw[J];exact(Kb.refl _ _).setCell (p:=⟨w.heap.size,0,none⟩) (.inl (by simp)) _
   have a5:j.cell? ⟨w.heap.size,0,none⟩=some (.slice t u y):=by rw[J,aC (aI a.cz 0 _)];rfl
   have HF:Hid (GM j B c n d s∧GCh w j G d∧NewS w j d (.slice t u y) (s.all n)):=by
    refine aA ⟨a.gm.beside C (by intro b p;rw[A1.1 p];exact a.out.1),a.ch.beside C (by intro b p;rw[A1.1 p];exact gO _),?_,fun g q=>a.out.2.2 g (by rw[A];exact q)⟩;have X:=a.set.kb C (fun g q e=>by
     rw[A1.1 q]at e;exact a.set.ne a.cz (by decide) e)
    rw[A,a4]at X;exact X
   clear a H C A;go_wp2;rw[← J];refine IG (v:=.agg #[.slice t u y]) (by simp[results,Tryz.results153,go_sem,a5]) rfl ?_
   exact⟨d,_,rfl,HF.out⟩
end
section
open Go.RowKit Go.Shelf
attribute [local go_sem] Oper.semAt_some
variable {B:Nat} {c:Way} {n:Nat} {s:St}
def oQ(s:St)(n i m:Nat):List Nat:=if m == n then s.standing (s.ld i)else if(s.standing (s.sr i)).contains m then dB n (s.heirsOf m)else s.heirsOf m
structure TwP(B:Nat)(c:Way)(n:Nat)(G0:GV)(s:St)(i B0 b2 b5 b6 b7:Nat)(vl vs:Value)(G:GV)(W:World):Prop where
 gm:GM W B c n G s
 e1:G.bg=G0.bg
 e2:G.bn=G0.bn
 e3:G.bl=G0.bl
 c2:W.heap[b2]?=some (.cells #[.pointer (some ⟨G0.bg,0,none⟩)] 101 (0,0))
 c5:W.heap[b5]?=some (.cells #[.int .u64 (n:Int)] TN (0,0))
 c6:W.heap[b6]?=some (.cells #[vl] aL (0,0))
 c7:W.heap[b7]?=some (.cells #[vs] aL (0,0))
 sl:aO W B0 vl (s.standing (s.ld i))
 ss:aO W B0 vs (s.standing (s.sr i))
 out:∀b,b=b2∨b=b5∨b=b6∨b=b7∨vl.ownBlock=some b∨vs.ownBlock=some b→b ∉ G.foot
def TwI(B:Nat)(c:Way)(n:Nat)(G0:GV)(s:St)(i B0 b2 b5 b6 b7:Nat)(vl vs:sA)(W:vF)(F:List Nat):Prop:=
 ∃G,TwP B c n G0 s i B0 b2 b5 b6 b7 vl vs G W∧F=G.foot++(b2::b5::b6::b7::(vl.ownBlock.toList++vs.ownBlock.toList))
theorem fV{G:GV}{b2 b5 b6 b7 b:Nat}{vl vs:sA}:b∈G.foot++(b2::b5::b6::b7::(vl.ownBlock.toList++vs.ownBlock.toList))↔b∈G.foot∨(b=b2∨b=b5∨b=b6∨b=b7∨vl.ownBlock=some b∨vs.ownBlock=some b):=by simp only[List.mem_append,sT,Option.mem_toList]
variable {G0:GV} {i B0 b2 b5 b6 b7:Nat} {vl vs:Value}
theorem TwP.kb{G:GV}{W W':vF}(h:TwP B c n G0 s i B0 b2 b5 b6 b7 vl vs G W){L:List Nat}(a:Kb L W W')(k:∀b∈L,b ∉ G.foot++(b2::b5::b6::b7::(vl.ownBlock.toList++vs.ownBlock.toList))):TwP B c n G0 s i B0 b2 b5 b6 b7 vl vs G W':=by
 have l:∀b∈L,b ∉ G.foot:=fun b f m=>k b f (fV.2 (.inl m))
 have d:∀b,(b=b2∨b=b5∨b=b6∨b=b7∨vl.ownBlock=some b∨vs.ownBlock=some b)→b ∉ L:=fun b o f=>k b f (fV.2 (.inr o))
 exact⟨h.gm.beside a l,h.e1,h.e2,h.e3,a.heap h.c2 (d _ (.inl rfl)),a.heap h.c5 (d _ (.inr (.inl rfl))),a.heap h.c6 (d _ (.inr (.inr (.inl rfl)))),a.heap h.c7 (d _ (.inr (.inr (.inr (.inl rfl))))),h.sl.kb a (fun g j e=>d g (.inr (.inr (.inr (.inr (.inl e))))) j),h.ss.kb a (fun g j e=>d g (.inr (.inr (.inr (.inr (.inr e))))) j),h.out⟩
theorem TwP.call{G a:GV}{W W':vF}(h:TwP B c n G0 s i B0 b2 b5 b6 b7 vl vs G W)(h1:GM W' B c n a s)(c1:GCh W W' G a):TwP B c n G0 s i B0 b2 b5 b6 b7 vl vs a W':=by
 have k:∀b,(b=b2∨b=b5∨b=b6∨b=b7∨vl.ownBlock=some b∨vs.ownBlock=some b)→b<W.heap.size:=by
  rintro b (rfl|rfl|rfl|rfl|e|e)
  ·exact aB h.c2
  ·exact aB h.c5
  ·exact aB h.c6
  ·exact aB h.c7
  ·exact(h.sl.lt e).2
  ·exact(h.ss.lt e).2
 refine⟨h1,c1.e1.trans h.e1,c1.e2.trans h.e2,c1.e3.trans h.e3,c1.kb.heap h.c2 (h.out _ (.inl rfl)),c1.kb.heap h.c5 (h.out _ (.inr (.inl rfl))),c1.kb.heap h.c6 (h.out _ (.inr (.inr (.inl rfl)))),c1.kb.heap h.c7 (h.out _ (.inr (.inr (.inr (.inl rfl))))),h.sl.kb c1.kb (fun g d e=>h.out g (.inr (.inr (.inr (.inr (.inl e))))) d),h.ss.kb c1.kb (fun g d e=>h.out g (.inr (.inr (.inr (.inr (.inr e))))) d),fun b f l=>?_⟩;rcases c1.ft b l with j|j
 ·exact h.out b f j
 ·have:=k b f;omega
theorem Hl:NxI 0 (TwI B c n G0 s i B0 b2 b5 b6 b7 vl vs):=by
 refine⟨?_,?_,?_⟩
 ·rintro W F b ⟨G,h,rfl⟩ g;have j:∃a T,W.heap[b]?=some (.cells a T (0,0)):=by
   rcases fV.1 g with k|rfl|rfl|rfl|rfl|e|e
   ·exact(h.gm.cells k).2
   ·exact⟨_,_,h.c2⟩
   ·exact⟨_,_,h.c5⟩
   ·exact⟨_,_,h.c6⟩
   ·exact⟨_,_,h.c7⟩
   ·obtain⟨a,d⟩:=h.sl.block e;exact⟨a,_,d⟩
   ·obtain⟨a,d⟩:=h.ss.block e;exact⟨a,_,d⟩
  obtain⟨a,T,d⟩:=j;exact⟨aB d,.inr ⟨a,T,d⟩⟩
 ·rintro W o F L ⟨G,h,rfl⟩ l m;exact⟨G,h.kb l m,rfl⟩
 ·rintro W F p ⟨G,h,rfl⟩ ⟨q,f,rfl⟩;rw[h.gm.ie f.gm (h.e1.trans f.e1.symm)]
theorem Hm(af:0<B)(hw:WF n s):E5 (TwI B c n G0 s i B0 b2 b5 b6 b7 vl vs) 177 #[] #[.pointer (some ⟨b5,0,none⟩),.pointer (some ⟨b6,0,none⟩),.pointer (some ⟨b2,0,none⟩),.pointer (some ⟨b7,0,none⟩)] (n+1) (oQ s n i):=by
 rintro W ao m ⟨G,h,rfl⟩ hT hm;have hn:=h.gm.n40;have ea:((#[]:Array sA).push (.int .u64 ((m:Nat):Int)) ++ #[.pointer (some ⟨b5,0,none⟩),.pointer (some ⟨b6,0,none⟩),.pointer (some ⟨b2,0,none⟩),.pointer (some ⟨b7,0,none⟩)]:Array sA)=#[.int .u64 ((m:Nat):Int),.pointer (some ⟨b5,0,none⟩),.pointer (some ⟨b6,0,none⟩),.pointer (some ⟨b2,0,none⟩),.pointer (some ⟨b7,0,none⟩)]:=by simp
 rw[ea];obtain⟨j,D⟩:∃j,j=W.alloc (.cells #[.slice none 0 0] aL):=⟨_,rfl⟩;have N:Kb [] W j:=by rw[D];exact(Kb.refl [] W).alloc _
 have z0:j.heap.size=W.heap.size+1:=by rw[D];simp
 have x:=h.kb N (by simp);have O:j.heap[W.heap.size]?=some (.cells #[.slice none 0 0] aL (0,0)):=by rw[D];exact aD _ _
 have r5:j.cell? ⟨b5,0,none⟩=some (.int .u64 (n:Int)):=by rw[aC x.c5];rfl
 have r2:j.cell? ⟨b2,0,none⟩=some (.pointer (some ⟨G0.bg,0,none⟩)):=by rw[aC x.c2];rfl
 by_cases a8:m=n
 ·obtain⟨E,F,H,ev⟩:=h.sl.form;have r6:j.cell? ⟨b6,0,none⟩=some (.slice E F H):=by rw[aC x.c6,ev];rfl
  have P:(W.alloc (.cells #[.slice E F H] aL)).cell? ⟨W.heap.size,0,none⟩=some (.slice E F H):=by rw[aC (aD _ _)];rfl
  have kF:Kb [] W (W.alloc (.cells #[.slice E F H] aL)):=(Kb.refl [] W).alloc _;have I:=aA (h.kb kF (by simp));have cz:j.cell? ⟨W.heap.size,0,none⟩=some (.slice none 0 0):=by rw[aC O];rfl
  have fz:j.frozen? ⟨W.heap.size,0,none⟩=false:=aE O 0;rw[D]at r5 r6 cz fz;have HE:=aA ev;subst a8;clear h x N O ea r2 ev;go_enter Tryz.func177,Tryz.ntmps177
  go_wp2;refine IG (v:=.agg #[.slice E F H]) (by simp[results,MO,go_sem,P]) rfl ?_
  refine⟨.slice E F H,_,rfl,?_,fun g z=>.inl (fV.2 (.inr (.inr (.inr (.inr (.inr (.inl (by rw[HE.out];exact z)))))))),⟨G,I.out,rfl⟩,kF.mono (by simp),fun b t=>.inl t⟩;unfold oQ;rw[if_pos (by simp)];have k:=I.out.sl.low (IM B0);rw[HE.out]at k;exact k
 ·have ag:m<n:=by omega
  have ap:¬(m:Int)=(n:Int):=by omega
  have Z:=oY m j G x.gm (hT.kb N (by simp)) af ag hw.rep;rw[x.e1]at Z;have a9:=h.gm.gh;have Q:=aA (And.intro x (And.intro N (And.intro O h)));rw[D]at Z r5 r2;clear h x N O ea;go_enter Tryz.func177,Tryz.ntmps177
  go_wp2_with fail
  refine Z.mono ?_
  clear Z;rintro e u ⟨G1,v1,rfl,a4,y,A⟩;rw[← D]at y A;obtain⟨o,p,q,rfl⟩:=A.set.form;have h1:=Q.out.1.call a4 y;have ah:∀b,(b=b2∨b=b5∨b=b6∨b=b7∨vl.ownBlock=some b∨vs.ownBlock=some b)→b<W.heap.size:=by
   have h:=Q.out.2.2.2;rintro b (rfl|rfl|rfl|rfl|e|e)
   ·exact aB h.c2
   ·exact aB h.c5
   ·exact aB h.c6
   ·exact aB h.c7
   ·exact(h.sl.lt e).2
   ·exact(h.ss.lt e).2
  have aq:=y.kb.size;obtain⟨d,J⟩:∃d,d=u.alloc (.cells #[.slice o p q] aL):=⟨_,rfl⟩;have R:Kb [] u d:=by rw[J];exact(Kb.refl [] u).alloc _
  have z2:d.heap.size=u.heap.size+1:=by rw[J];simp
  have S:=h1.kb R (by simp);have a2:d.heap[u.heap.size]?=some (.cells #[.slice o p q] aL (0,0)):=by rw[J];exact aD _ _
  have n2:aO d j.heap.size (.slice o p q) (s.heirsOf m):=A.set.kb R (by simp);have y2:d.heap[W.heap.size]?=some (.cells #[.slice none 0 0] aL (0,0)):=R.heap (y.kb.heap Q.out.2.2.1 (fun f=>by have:=a9 _ f;omega)) (by simp);have a5:=Gg B0 b7 0 #[vs] aL vs (s.standing (s.sr i)) m d S.c7 rfl S.ss (by omega);have ar:d.cell? ⟨b5,0,none⟩=some (.int .u64 (n:Int)):=by rw[aC S.c5];rfl
  -- au is left av it aw
  have a0:Hid (∀(a:vF) (v:sA) (a6:List Nat),Kb (W.heap.size::u.heap.size::(E2 o p q).ownBlock.toList) d a→aO a j.heap.size v a6→a6=oQ s n i m→∃v' F',Ending.returned (.agg #[v])=.returned (.agg #[v'])∧aO a 0 v' (oQ s n i m)∧(∀g,v'.ownBlock=some g→g∈G.foot++(b2::b5::b6::b7::(vl.ownBlock.toList++vs.ownBlock.toList))∨W.heap.size≤g)∧TwI B c n G0 s i B0 b2 b5 b6 b7 vl vs a F'∧Kb (G.foot++(b2::b5::b6::b7::(vl.ownBlock.toList++vs.ownBlock.toList))) W a∧∀b∈F',b∈G.foot++(b2::b5::b6::b7::(vl.ownBlock.toList++vs.ownBlock.toList))∨W.heap.size≤b):=by
   refine aA (fun a v a6 l hv ai=>⟨v,_,rfl,?_,fun g z=>.inr ?_,⟨G1,S.kb l (fun b t f=>?_),rfl⟩,?_,fun b t=>?_⟩)
   ·rw[← ai];exact hv.low (IM _)
   ·have:=(hv.lt z).1;omega
   ·have aj:W.heap.size≤b∧b ∉ G1.foot:=by
     rcases sT.1 t with rfl|t
     ·refine⟨gO _,fun k=>?_⟩;rcases y.ft _ k with T|T
      ·have:=a9 _ T;omega
      ·omega
     ·rcases sT.1 t with rfl|t
      ·exact⟨by omega,fun k=>by have:=a4.gh _ k;omega⟩
      ·simp at t;exact⟨by have:=(A.set.lt t).1;omega,A.out b t⟩
    rcases fV.1 f with k|k
    ·exact aj.2 k
    ·have:=ah b k;omega
   ·have K:Kb (G.foot++(b2::b5::b6::b7::(vl.ownBlock.toList++vs.ownBlock.toList))) W d:=((Q.out.2.1.mono (by simp)).trans (y.kb.mono (by intro a7 _ w;exact fV.2 (.inl w)))).trans (R.mono (by simp));refine⟨l.os.trans K.os,l.tape.trans K.tape,l.output.trans K.output,Nat.le_trans K.size l.size,fun aa hj hl=>?_⟩;refine(l.block aa (Nat.lt_of_lt_of_le hj K.size) (fun f=>?_)).trans (K.block aa hj hl);rcases sT.1 f with e|f
    ·omega
    ·rcases sT.1 f with e|f
     ·omega
     ·simp at f;have:=(A.set.lt f).1;omega
   ·rcases fV.1 t with k|k
    ·rcases y.ft b k with T|T
     ·exact .inl (fV.2 (.inl T))
     ·exact .inr (by omega)
    ·exact .inl (fV.2 (.inr k))
  have ak:=aA J;rw[J]at a5;have r:=aA (And.intro a2 (And.intro n2 y2));clear h1 S a4 y A Q J R a2 n2 y2;go_wp2_with fail
  refine a5.mono ?_
  clear a5;rintro e al ⟨rfl,am⟩;rw[← ak.out]at am;subst al;have L:oQ s n i m=if(s.standing (s.sr i)).contains m then dB n (s.heirsOf m)else s.heirsOf m:=by unfold oQ;rw[if_neg (by simpa using a8)]
  cases hc:(s.standing (s.sr i)).contains m
  ·rw[hc]at L;have cv:d.cell? ⟨u.heap.size,0,none⟩=some (.slice o p q):=by rw[aC r.out.1];rfl
   have cz:d.cell? ⟨W.heap.size,0,none⟩=some (.slice none 0 0):=by rw[aC r.out.2.2];rfl
   have fz:d.frozen? ⟨W.heap.size,0,none⟩=false:=aE r.out.2.2 0;obtain⟨a,C⟩:∃a,a=d.setCell ⟨W.heap.size,0,none⟩ (.slice o p q):=⟨_,rfl⟩;have l:Kb [W.heap.size] d a:=by rw[C];exact(Kb.refl _ _).setCell (p:=⟨W.heap.size,0,none⟩) (.inl (by simp)) _
   have P:a.cell? ⟨W.heap.size,0,none⟩=some (.slice o p q):=by rw[C,aC (aI r.out.2.2 0 _)];rfl
   have I:=aA (a0.out a (.slice o p q) (s.heirsOf m) (l.mono (by intro a7 _ w;simp at w;simp[w])) (r.out.2.1.kb l (fun g z e=>by
    rw[A1.1 z]at e;exact r.out.2.1.ne r.out.2.2 (by decide) e)) (by rw[L];rfl))
   clear a0 l L;go_wp2;rw[← C];refine IG (v:=.agg #[.slice o p q]) (by simp[results,MO,go_sem,P]) rfl I.out
  ·rw[hc]at L;have ab:=gS j.heap.size u.heap.size 0 #[.slice o p q] aL (.slice o p q) (s.heirsOf m) n d (by omega) (by decide) r.out.1 rfl r.out.2.1 (by omega);go_wp2_with fail
   refine ab.mono ?_
   clear ab;rintro e M ⟨rfl,v3,a1,a3⟩;obtain⟨U,V,X,rfl⟩:=a1.form;have ad:W.heap.size ∉ u.heap.size::(E2 o p q).ownBlock.toList:=by
    intro f;rcases sT.1 f with e9|f
    ·omega
    ·simp at f;exact r.out.2.1.ne r.out.2.2 (by decide) f
   have Y:M.heap[W.heap.size]?=some (.cells #[.slice none 0 0] aL (0,0)):=a3.kb.heap r.out.2.2 ad;have cv:M.cell? ⟨u.heap.size,0,none⟩=some (.slice U V X):=by rw[aC a3.blk];rfl
   have cz:M.cell? ⟨W.heap.size,0,none⟩=some (.slice none 0 0):=by rw[aC Y];rfl
   have fz:M.frozen? ⟨W.heap.size,0,none⟩=false:=aE Y 0;obtain⟨a,C⟩:∃a,a=M.setCell ⟨W.heap.size,0,none⟩ (.slice U V X):=⟨_,rfl⟩;have l:Kb [W.heap.size] M a:=by rw[C];exact(Kb.refl _ _).setCell (p:=⟨W.heap.size,0,none⟩) (.inl (by simp)) _
   have P:a.cell? ⟨W.heap.size,0,none⟩=some (.slice U V X):=by rw[C,aC (aI Y 0 _)];rfl
   have ae:Kb (W.heap.size::u.heap.size::(E2 o p q).ownBlock.toList) d a:=(a3.kb.mono (by intro a7 _ w;exact List.mem_cons_of_mem _ w)).trans (l.mono (by intro a7 _ w;simp at w;simp[w]));have I:=aA (a0.out a (.slice U V X) (dB n (s.heirsOf m)) ae (a1.kb l (fun g z e=>by
    rw[A1.1 z]at e;exact a1.ne Y (by decide) e)) (by rw[L];rfl))
   clear a0 l ae L a1 a3 Y ad;go_wp2;rw[← C];refine IG (v:=.agg #[.slice U V X]) (by simp[results,MO,go_sem,P]) rfl I.out
end
end Go.Proofs.YtiamlbhkiehilaaGreatDoor
