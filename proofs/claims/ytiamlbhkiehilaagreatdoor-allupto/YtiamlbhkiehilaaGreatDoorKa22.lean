import Derived.Test.YtiamlbhkiehilaaGreatDoorKa19
import Derived.Test.YtiamlbhkiehilaaGreatDoorKa21
import Derived.Deep.LoopGhost
open Go renaming World→vF,Calls→I5
open Go.Proofs.Tryz renaming prog→hE
namespace Go.Proofs.YtiamlbhkiehilaaGreatDoor
set_option maxRecDepth 100000
section
open Go.RowKit Go.Shelf
attribute [local go_sem] Oper.semAt_some
variable {B:Nat} {c:Way} {n:Nat} {s:St}
def BC(B:Nat)(c:Way)(n k:Nat):Prop:=∀(s a:St) (w:vF) (G:GV),GM w B c n G s→WF n s→bN w→a.un+100000<4611686018427387904→s.lookForCycles k=some a →
  I5 hE 92 #[.pointer (some ⟨G.bg,0,none⟩)] w fun e b=>e=.returned (.tuple #[])∧∃d,GM b B c n d a∧GCh w b G d
def tA(B:Nat)(c:Way)(n k:Nat):Prop:=∀(s a:St) (w:vF) (G:GV),GM w B c n G s→WF n s→bN w→a.un+100000<4611686018427387904→St.substitute k n k s=some a →
  I5 hE 111 #[.pointer (some ⟨G.bg,0,none⟩)] w fun e b=>e=.returned (.tuple #[])∧∃d,GM b B c n d a∧GCh w b G d
def tB(B:Nat)(c:Way)(n k:Nat):Prop:=∀(s a:St) (w:vF) (G:GV),GM w B c n G s→WF n s→bN w→a.un+100000<4611686018427387904→s.findTwins k n=some a →
  I5 hE 112 #[.pointer (some ⟨G.bg,0,none⟩)] w fun e b=>e=.returned (.tuple #[])∧∃d,GM b B c n d a∧GCh w b G d
theorem DD(w:vF)(G:GV)(h:GM w B c n G s)(O:bN w)(Y:0<B)(P:s.susp=[]) :
  I5 hE 92 #[.pointer (some ⟨G.bg,0,none⟩)] w fun e w'=>e=.returned (.tuple #[])∧∃z,GM w' B c n z s∧GCh w w' G z:=by
 obtain⟨a,b⟩:∃a,a=w.alloc (.cells #[.pointer (some ⟨G.bg,0,none⟩)] 101):=⟨_,rfl⟩;have o:Kb [] w a:=by rw[b];exact(Kb.refl [] w).alloc _
 have p:=h.fresh o;have A:a.heap[w.heap.size]?=some (.cells #[.pointer (some ⟨G.bg,0,none⟩)] 101 (0,0)):=by rw[b];exact aD _ _
 have C:a.cell? ⟨w.heap.size,0,none⟩=some (.pointer (some ⟨G.bg,0,none⟩)):=by rw[aC A];rfl
 have f:=dN B G.bg 8 _ TG G.vs s.susp a p.hbg rfl p.sS;rw[P]at f;refine(callsIn_wide (n:=20)).1 ?_
 refine callsIn_of_wp_marks Tryz.func92 rfl trivial ?_ rfl;simp only[Tryz.ntmps92,List.size_toArray,List.length_cons,List.length_nil,Nat.reduceAdd,Nat.reduceSub,Array.replicate_succ,Array.replicate_zero,List.push_toArray,List.append_toArray,List.nil_append,List.cons_append];rw[b]at f C;gi_wp2
 refine⟨trivial,?_⟩;refine(callsIn_wide.2 f).mono ?_
 clear f;rintro e E ⟨F,H,rfl,I,J,i,q⟩;rw[← b]at i q I;have j:=o.trans q;have r:=((LI.start h).fresh j).1;obtain⟨L,t⟩:∃L,L=0::H.ownBlock.toList:=⟨_,rfl⟩;have Q:∀k∈L,k<E.heap.size:=by
  intro k d;rw[t]at d;rcases List.mem_cons.1 d with rfl|d
  ·have:=r.gm.hB;omega
  ·simp at d;exact(i.lt d).2
 have R:=bZ 19 F a.heap.size H [] L E J i (O.kb j (by simp)) (fun g u=>by rw[t];simp[u]) (by rw[t];simp);have S:=j.size;have T:=aA r;clear i J q I b A C o p r j;gi_wp2
 refine wpIn_rangeFunc_ownH (α:=Mem []) (hro:=rfl) (h1:=by omega) (gf:=127) (lb:=#[.pointer (some ⟨F,0,none⟩)]) rfl trivial (enters_of Tryz.func127 (by kernel_rfl) rfl) R (fun K U=>K.trans U) (fZ Q) (Below.refl _ _) (fun _=>rfl)
  (fun _ W=>LI w B c n G [] [] [] W s G) (fun _ _ _=>False) ?hI (fun _ _ _ _ _ V _ _=>V) T.out (fun _ _ _=>True) (fun _ _ _ _ _ _ _ _ _=>trivial) ?assign ?body ?done ?stop
 case hI=>rintro pre W W' a1 m u hr;exact m.own S u hr
 case assign=>rintro l pre x W a2 _ _;exact absurd x.2 (by simp)
 case body=>rintro l pre x a' W _ _ _ _ _;exact absurd x.2 (by simp)
 case stop=>rintro D cc pre W _ _ X _;exact X.elim
 case done=>
  rintro D xs W hD a3 m M;have y:=m.turned M rfl (by omega) (.deferred none);have N:=aA (And.intro y.gm y.ch);clear m y;gi_wp2
  refine⟨by simp,.inl ⟨_,_,rfl,run_takeDeferred M,?_⟩⟩;exact⟨_,results_none rfl _ _ _,rfl,_,N.out.1,N.out.2⟩
theorem BD(k:Nat)(H:c.subst=true→tA B c n k)(I:c.collapse=true→tB B c n k)(d:St)(w:vF)(G:GV)(h:GM w B c n G s)(x:WF n s)(a1:0<B)(y:bN w)(J:d.un+100000<4611686018427387904)(i:s.lookAhead k c n=some d)
  (K:∀a:St,c.subst=true→St.substitute k n k s=some a→WU n s a) (L:∀a:St,c.collapse=true→a.findTwins k n=some d→a.un≤d.un) :
  I5 hE 89 #[.pointer (some ⟨G.bg,0,none⟩)] w fun e w'=>e=.returned (.tuple #[])∧∃m,GM w' B c n m d∧GCh w w' G m:=by
 obtain⟨M,N,z,A,O,P,Q,R,S⟩:=h.reads;have T:Hid (∀ {W:vF} {m:GV},GCh w W G m→bN W):=aA (fun r=>y.kb r.kb (fun U=>by have:=(h.cells U).1;omega))
 -- a2 a3 a4
 have C:∀(a:St) (W:vF) (p:GV),GM W B c n p a→WF n a→GCh w W G p→(if c.collapse then a.findTwins k n else some a)=some d→c.collapse=true→I5 hE 112 #[.pointer (some ⟨G.bg,0,none⟩)] W fun e w'=>e=.returned (.tuple #[])∧∃m,GM w' B c n m d∧GCh w w' G m:=by
  intro a W p o V j D r;rw[if_pos r]at D;have:=I r a d W p o V (T.out j) J D;rw[j.e1]at this;refine this.mono ?_
  rintro e w' ⟨X,Y,Z,p3⟩;exact⟨X,Y,Z,j.trans p3⟩
 have E:=aA C;clear C M N O P Q R S;unfold St.lookAhead at i;have l:c.subst=true∨c.subst=false:=by cases c.subst<;>simp
 have b:c.collapse=true∨c.collapse=false:=by cases c.collapse<;>simp
 go_enter Tryz.func89,Tryz.ntmps89
 rcases l with l|l
 ·rw[if_pos l]at i;cases t:St.substitute k n k s with
  |none=>rw[t]at i;cases i
  |some a=>
   rw[t]at i;have f:(if c.collapse then a.findTwins k n else some a)=some d:=i;have a0:=K a l t;have a5:a.un≤d.un:=by
    rcases b with b|b
    ·rw[if_pos b]at f;exact L a b f
    ·rw[if_neg (by rw[b];decide)]at f;cases f;exact Nat.le_refl _
   have F:=H l s a w G h x y (by omega) t;rw[l]at A;clear i h;go_wp2_with fail
   refine F.mono ?_
   clear F;rintro e w1 ⟨rfl,p,o,j⟩;have u:=o.reads.2.2.1;rw[j.e1]at u;rcases b with b|b
   ·have q:=E.out a w1 p o a0.1 j f b;rw[b]at u;clear o j;go_wp2_with fail
    refine q.mono ?_
    clear q;rintro e w2 ⟨rfl,g⟩;replace g:=aA g;go_wp2;go_end0
    exact⟨rfl,g.out⟩
   ·rw[b]at u;rw[if_neg (by rw[b];decide)]at f;cases f;have g:=aA (And.intro o j);clear o j;go_wp2;go_end0
    exact⟨rfl,_,g.out⟩
 ·rw[if_neg (by rw[l];decide)]at i;have f:(if c.collapse then s.findTwins k n else some s)=some d:=i;rw[l]at A;clear i;rcases b with b|b
  ·have q:=E.out s w G h x (GCh.refl _ _) f b;rw[b]at z;clear h;go_wp2_with fail
   refine q.mono ?_
   clear q;rintro e w2 ⟨rfl,g⟩;replace g:=aA g;go_wp2;go_end0
   exact⟨rfl,g.out⟩
  ·rw[b]at z;rw[if_neg (by rw[b];decide)]at f;cases f;have g:=aA (And.intro h (GCh.refl w G));clear h;go_wp2;go_end0
   exact⟨rfl,_,g.out⟩
def pw(c:Way):Prop:=c.cycles=false∧c.collapse=false∧c.subst=false
def SR(w:vF)(B:Nat)(c:Way)(n:Nat)(G:GV)(k:Nat)(sF:St)(vn b:Value)(W:vF)(j:Nat):Prop:=
 ∃a d,GM W B c n d a∧WF n a∧GCh w W G d∧(pw c→cG a) ∧
  ((b=.bool false∧a=sF)∨∃m,b=.bool true∧vn=.int .u64 ((m:Nat):Int)∧m<n∧((a.work c m).lookForCycles k).bind (St.solveL k c j)=some sF)
theorem CX{w:vF}{G:GV}{k j:Nat}{sF d:St}{W W':vF}{r:GV}(t:WF n d)(u:GCh w W G r)(x:pw c→cG d)(b:St.solveL k c (j+1) d=some sF){e:Ending}(h:GU B c n d W r e W') :
  ∃vn y,e=.returned (.tuple #[vn,y])∧SR w B c n G k sF vn y W' j:=by
 have f:=t.kh c.order;unfold St.solveL at b;rcases h with⟨g,a,i,l,o,p⟩|⟨m,g,a,i,l,o,p⟩
 ·rw[a]at b f;refine⟨_,_,i,g,l,o,f.1,u.trans p,fun q=>?_,.inl ⟨rfl,?_⟩⟩
  ·have:=(x q).next c.order
   rw[a]at this;exact this
  ·injection b
 ·have z:=t.jr a;rw[a]at b f;refine⟨_,_,i,g,l,o,f.1,u.trans p,fun q=>?_,.inr ⟨m,rfl,rfl,z,b⟩⟩;have:=(x q).next c.order
  rw[a]at this;exact this
set_option maxHeartbeats 2000000 in
theorem BE(k:Nat)(a4:c.order=2→tR B)(p:¬pw c→wK B c n∧oD B c n∧BC B c n k∧(c.subst=true→tA B c n k)∧(c.collapse=true→tB B c n k))(l sF:St)(w:vF)(G:GV)(h:GM w B c n G s)(hw:WF n s)(S:bN w)(T:0<B)(hp:pw c→cG s)
  (u:s.lookAhead k c n=some l) (U:WU n s l) (J:St.solveL k c k l=some sF) (hu:sF.un+200000<4611686018427387904)
  (a5:∀a:St,c.subst=true→St.substitute k n k s=some a→WU n s a) (a6:∀a:St,c.collapse=true→a.findTwins k n=some l→a.un≤l.un) :
  I5 hE 58 #[.pointer (some ⟨G.bg,0,none⟩)] w fun e w'=>e=.returned (.tuple #[])∧∃g,GM w' B c n g sF∧GCh w w' G g:=by
 have az:=(U.1.iz k J).2;have V:Hid (∀ {W:vF} {g:GV},GCh w W G g→bN W):=aA (fun hc=>S.kb hc.kb (fun q=>by have:=(h.cells q).1;omega));have ag:pw c→cG l:=by intro b;have h1:=hp b;unfold St.lookAhead at u;rw[if_neg (by rw[b.2.2];decide)]at u;have a7:(if c.collapse then s.findTwins k n else some s)=some l:=u;rw[if_neg (by rw[b.2.1];decide)]at a7;cases a7;exact h1
 have ah:c.subst=true→¬pw c:=fun e b=>by rw[b.2.2]at e;cases e
 have ai:c.collapse=true→¬pw c:=fun e b=>by rw[b.2.1]at e;cases e
 have aj:c.cycles=true→¬pw c:=fun e b=>by rw[b.1]at e;cases e
 have a8:=BD k (fun e=>(p (ah e)).2.2.2.1 e) (fun e=>(p (ai e)).2.2.2.2 e) l w G h hw T S (by omega) u a5 a6;have ak:Hid (∀(a:St) (m:Nat) (W:vF) (f:GV),GM W B c n f a→WF n a→GCh w W G f→(pw c→cG a)→m<n→a.un≤sF.un→I5 hE 91 #[.pointer (some ⟨G.bg,0,none⟩),.int .u64 ((m:Nat):Int)] W fun e w'=>e=.returned (.tuple #[])∧∃g,GM w' B c n g (a.work c m)∧GCh w w' G g):=by
  refine aA (fun a m W f i X d K q aV=>?_);have al:a.tw m≠[]→oD B c n:=by
   intro am;by_cases b:pw c
   ·exact absurd ((K b).2 m) am
   ·exact(p b).2.1
  have:=DC (fun e=>(p (aj e)).1) m al W f i X (V.out d) T q (by omega);rw[d.e1]at this;refine this.mono ?_
  rintro e w' ⟨x,o,y,z⟩;exact⟨x,o,y,d.trans z⟩
 have an:Hid (∀(a A:St) (W:vF) (f:GV),GM W B c n f a→WF n a→GCh w W G f→(pw c→cG a)→A.un≤sF.un→a.lookForCycles k=some A→I5 hE 92 #[.pointer (some ⟨G.bg,0,none⟩)] W fun e w'=>e=.returned (.tuple #[])∧∃g,GM w' B c n g A∧GCh w w' G g):=by
  refine aA (fun a A W f i X d K b0 Y=>?_);rw[← d.e1];by_cases b:pw c
  ·rw[(K b).look]at Y;cases Y;refine(DD W f i (V.out d) T (K b).1).mono ?_
   rintro e w' ⟨x,o,y,z⟩;exact⟨x,o,y,d.trans z⟩
  ·refine((p b).2.2.1 a A W f i X (V.out d) (by omega) Y).mono ?_
   rintro e w' ⟨x,o,y,z⟩;exact⟨x,o,y,d.trans z⟩
 obtain⟨r,ao⟩:∃r,k=r+1:=by
  cases k with
  |zero=>cases J
  |succ r=>exact⟨r,rfl⟩
 have HF:=aA J;clear h S p u a5 a6 hp J;go_enter Tryz.func58,Tryz.ntmps58
 go_wp2_with fail
 refine a8.mono ?_
 clear a8;rintro e w1 ⟨rfl,f,i,d⟩;have C:=i.reads.2.2.2.2.2.2.1;rw[d.e1]at C;have D:=wO a4 w1 f i U.1;have H1:=aA (And.intro i d);clear i d;go_wp2_with fail
 refine D.mono ?_
 clear D C;rintro e w2 E;obtain⟨L,M,rfl,Z⟩:=CX (sF:=sF) (k:=k) (j:=r) U.1 H1.out.2 ag (by rw[← ao];exact HF.out) E;clear E;replace Z:=aA Z;go_wp2_with fail
 go_loopw [2,3] (fun L M wr=>∃j,Hid (SR w B c n G k sF L M wr j)) (fun L M wr=>leastOf (fun j=>Hid (SR w B c n G k sF L M wr j)))
 case atStart=>exact⟨r,Z⟩
 case round=>
  have a0:=(leastOf_spec hrel).1;obtain⟨j,hj⟩:∃j,j=leastOf (fun j=>Hid (SR w B c n G k sF u2 u3 wr j)):=⟨_,rfl⟩;rw[← hj]at a0;have HJ:=aA hj;obtain⟨a,o,N,a9,O,aa,ap⟩:=a0.out;clear hrel a0 hj;rcases ap with⟨rfl,rfl⟩|⟨m,rfl,rfl,q,F⟩
  ·have aq:=aA (And.intro N O);clear N O;go_wp2;go_end0
   exact⟨rfl,_,aq.out⟩
  ·have a1:=a9.kg c q;cases H:(a.work c m).lookForCycles k with
   |none=>rw[H]at F;cases F
   |some s3=>
    rw[H]at F;have P:St.solveL k c j s3=some sF:=F;have Q:=a1.1.jx H;have ar:=Q.1.iz j P;have u1:=a1.2;have u2:=Q.2;have u3:=ar.2;obtain⟨t,au⟩:∃t,j=t+1:=by
     cases j with
     |zero=>cases P
     |succ t=>exact⟨t,rfl⟩
    have HW:=ak.out a m wr o N a9 O aa q (by omega);have av:=aA P;have ab:=aA H;clear N O F P H;go_wp2_with fail
    refine HW.mono ?_
    clear HW;rintro e w3 ⟨rfl,G3,ad,ae⟩;have a2:pw c→cG (a.work c m):=fun b=>(aa b).work b.1 m
    have af:=an.out (a.work c m) s3 w3 G3 ad a1.1 ae a2 (by omega) ab.out;clear ad ae;go_wp2_with fail
    refine af.mono ?_
    clear af;rintro e w4 ⟨rfl,G4,R,a3⟩;have aw:pw c→cG s3:=fun b=>by
     have h9:=ab.out;rw[(a2 b).look]at h9;cases h9;exact a2 b
    have C:=R.reads.2.2.2.2.2.2.1;rw[a3.e1]at C;have D:=wO a4 w4 G4 R Q.1;have H4:=aA (And.intro R a3);clear R a3;go_wp2_with fail
    refine D.mono ?_
    clear D C;rintro e w5 E;obtain⟨ax,ay,rfl,I⟩:=CX (sF:=sF) (k:=k) (j:=t) Q.1 H4.out.2 aw (by rw[← au];exact av.out) E;clear E;replace I:=aA I;go_wp2;go_roundw
    case rel=>exact⟨t,I⟩
    case measure=>have h1:=(leastOf_spec (p:=fun j=>Hid (SR w B c n G k sF ax ay w5 j)) ⟨_,I⟩).2 _ I;rw[← HJ.out];omega
end
end Go.Proofs.YtiamlbhkiehilaaGreatDoor
