import Derived.Test.YtiamlbhkiehilaaGreatDoorKa06
open Go renaming bodyPost_ret→IG
open Go.Proofs.Tryz renaming results161→MN
open List renaming getElem?_eq_getElem→hZ,getElem?_set_ne→Jt,mem_singleton→A1
open Nat renaming lt_of_le_of_lt→JQ
namespace Go.Proofs.YtiamlbhkiehilaaGreatDoor
set_option maxRecDepth 100000
set_option maxHeartbeats 4000000
section
open Go.RowKit Go.Shelf
attribute [local go_sem] Oper.semAt_some
variable {B:Nat} {c:Way} {n:Nat} {s:St}
theorem ClsR.join{ab:List Nat}{rep:Nat→Nat}(h:ClsR ab rep){i j:Nat}(a:j<ab.length)(b:rep i=i)(d:rep j=j)(e:i≤j):ClsR (ab.set j i) (fun m=>if rep m == j then i else rep m):=by obtain⟨f,_,g⟩:=wE h.down a (by rw[h.top];exact b) e;refine⟨f,fun m=>?_,by rw[List.length_set];exact h.small⟩;rw[g (by rw[h.top];exact d) m,h.top];simp only[beq_iff_eq]
theorem Ak(B b o:Nat)(k:Array Value)(T:TypeId)(v:Value)(ab:List Nat)(rep:Nat→Nat)(x y:Nat)(w:World)(S:B≤w.heap.size)(K:T≠TN)(U:w.heap[b]?=some (.cells k T (0,0)))(O:k[o]?=some v)(h:cI w B v ab)(V:ClsR ab rep)(X:x<128)(Y:y<128)
  (i j:Nat) (nw:Bool) (t:Nat→Nat) (Z:(rep x=rep y∧i=rep x∧j=rep x∧nw=false∧t=rep)∨(rep x<rep y∧i=rep x∧j=rep y∧nw=true∧t=fun m=>if rep m == j then i else rep m)∨(rep y<rep x∧i=rep y∧j=rep x∧nw=true∧t=fun m=>if rep m == j then i else rep m)) :
  Calls Tryz.prog 161 #[.pointer (some ⟨b,o,none⟩),.int .u64 x,.int .u64 y] w fun e w'=>e=.returned (.tuple #[.int .u64 i,.int .u64 j,.bool nw])∧∃v' a5,SrInv w w' B b o k T v t a5 v':=by
 have P:o<k.size:=(Array.getElem?_eq_some_iff.1 O).1;have HR:=xQ B b o k T v ab rep x w S K U O h V X;have M:=aA Z;clear h V U O Z;go_enter Tryz.func161,Tryz.ntmps161
 go_wp2_with fail
 refine HR.mono ?_
 clear HR;rintro e w1 ⟨rfl,v1,a0,l1,m1,r⟩;have a1:=xQ B b o (k.setIfInBounds o v1) T v1 a0 rep y w1 (Nat.le_trans S r.ch.kb.size) K r.ch.blk (by simp[P]) r.own r.cls Y;have H1:=aA r;have L1:Hid (rep x<a0.length):=aA (JQ (r.cls.le x) l1);clear r m1 l1;go_wp2_with fail
 refine a1.mono ?_
 clear a1;rintro e C ⟨rfl,u,f,l2,m2,D⟩;have I:SrInv w C B b o k T v rep f u:=⟨D.cls,D.own,H1.out.ch.trans D.ch⟩;have Q:rep x<f.length:=Nat.lt_of_lt_of_le L1.out m2;have a2:rep y<f.length:=JQ (D.cls.le y) l2;have a3:=I.cls.idem x;have a4:=I.cls.idem y;have a6:rep x<128:=JQ (I.cls.le x) X;have ae:rep y<128:=JQ (I.cls.le y) Y;clear D H1 L1 l2 m2;have a:=aA I;have A:=aA (And.intro a3 a4);have af:=I.cls.small;clear a3 a4 I;rcases M.out with⟨N,l,p,E,q⟩|⟨N,l,p,E,q⟩|⟨N,l,p,E,q⟩
 ·have H4:=aA q;rw[N]at l p Q a6 ⊢;generalize rep y=ry at *;subst l p E;clear N q M;go_wp2;refine IG (v:=.tuple #[.int .u64 (j:Nat),.int .u64 (j:Nat),.bool false]) (by simp[results,MN,go_sem]) rfl ⟨rfl,u,f,?_⟩;rw[H4.out];exact a.out
 ·have R:Hid (∀g L d,u=.slice (some ⟨g,0,none⟩) L d→SrInv w (C.setCell ⟨g,rep y,none⟩ (.int .u64 (rep x:Int))) B b o k T v t (f.set (rep y) (rep x)) u):=by
   refine aA (fun g L d e=>a.out.set e K (by omega) ?_);rw[q,l,p];exact a.out.cls.join a2 A.out.1 A.out.2 (by omega)
  obtain⟨z,F⟩:∃z,f[rep y]?=some z:=⟨_,hZ a2⟩;obtain⟨ao,d,rfl,H⟩:=a.out.own.form;obtain⟨g,rfl,hg,a7⟩:=H _ _ F;have J:=a.out.ch.blk;have a8:C.cell? ⟨b,o,none⟩=some (.slice (some ⟨g,0,none⟩) f.length d):=by rw[aC J];simp[P]
  clear H F J q M a A;generalize rep y=ry at *;generalize rep x=rx at *;subst l p E;have a9:((i:Int) == (j:Int))=false:=by simp;omega
  have aa:min (i:Int) (j:Int)=(i:Int):=by omega
  have ad:max (i:Int) (j:Int)=(j:Int):=by omega
  go_wp2;exact IG (v:=.tuple #[.int .u64 (i:Nat),.int .u64 (j:Nat),.bool true]) (by simp[results,MN,go_sem]) rfl ⟨rfl,_,_,R.out g _ d rfl⟩
 ·have R:Hid (∀g L d,u=.slice (some ⟨g,0,none⟩) L d→SrInv w (C.setCell ⟨g,rep x,none⟩ (.int .u64 (rep y:Int))) B b o k T v t (f.set (rep x) (rep y)) u):=by
   refine aA (fun g L d e=>a.out.set e K (by omega) ?_);rw[q,l,p];exact a.out.cls.join Q A.out.2 A.out.1 (by omega)
  obtain⟨z,F⟩:∃z,f[rep x]?=some z:=⟨_,hZ Q⟩;obtain⟨ao,d,rfl,H⟩:=a.out.own.form;obtain⟨g,rfl,hg,a7⟩:=H _ _ F;have J:=a.out.ch.blk;have a8:C.cell? ⟨b,o,none⟩=some (.slice (some ⟨g,0,none⟩) f.length d):=by rw[aC J];simp[P]
  clear H F J q M a A;generalize rep y=ry at *;generalize rep x=rx at *;subst l p E;have a9:((j:Int) == (i:Int))=false:=by simp;omega
  have aa:min (j:Int) (i:Int)=(i:Int):=by omega
  have ad:max (j:Int) (i:Int)=(j:Int):=by omega
  go_wp2;exact IG (v:=.tuple #[.int .u64 (i:Nat),.int .u64 (j:Nat),.bool true]) (by simp[results,MN,go_sem]) rfl ⟨rfl,_,_,R.out g _ d rfl⟩
end
section
open Go.RowKit Go.Shelf
attribute [local go_sem] Oper.semAt_some
variable {B:Nat} {c:Way} {n:Nat} {s:St} {w:World} {G:GV}
theorem GM.ik(h:GM w B c n G s){k:Nat}(t:k<7*n):∃x,GM (w.setCell ⟨G.bn,k,none⟩ (.slice none 0 0)) B c n x (s.put k [])∧GCh w (w.setCell ⟨G.bn,k,none⟩ (.slice none 0 0)) G x:=by
 have z:k<G.nv.length:=by rw[h.lnv];exact t
 have d:Kb [G.bn] w (w.setCell ⟨G.bn,k,none⟩ (.slice none 0 0)):=(Kb.refl _ _).setCell (p:=⟨G.bn,k,none⟩) (.inl (by simp)) _;have m:∀(j:Nat) u,(G.nv.set k (.slice none 0 0))[j]?=some u→(j=k∧u=.slice none 0 0)∨(j≠k∧G.nv[j]?=some u):=by
  intro j u a;by_cases e:j=k
  ·subst e;rw[List.getElem?_set_self z]at a;injection a with a;exact .inl ⟨rfl,a.symm⟩
  ·rw[Jt (Ne.symm e)]at a;exact .inr ⟨e,a⟩
 have o:∀ {v:Value},v.ownBlock≠some G.bn→∀g∈[G.bn],v.ownBlock≠some g:=fun A g f=>by rw[A1.1 f];exact A
 refine⟨{ G with nv:=G.nv.set k (.slice none 0 0) },⟨Nat.le_trans h.hB d.size,d.heap h.hbg (by simp;exact aP h.hbg h.hbn (by decide)),?_,d.heap h.hbl (by simp;exact aP h.hbl h.hbn (by decide)),by simpa using h.lnv,by simpa[St.put]using h.lss,?_,h.sS.kb d (o (h.sS.ne h.hbn (by decide))),h.sI.kb d (o (h.sI.ne h.hbn (by decide))),?_,?_,?_,h.aSI,h.oA.kb d (o (h.oA.ne h.hbn (by decide))),h.cls,h.oN.kb d (o (h.oN.ne h.hbn (by decide))),h.oC.kb d (o (h.oC.ne h.hbn (by decide))),h.aAN,h.aAC,h.aCN,h.lo,h.n40,h.lw,h.un,h.ord⟩,?_⟩
 ·rw[aI h.hbn];simp[List.setIfInBounds_toArray]
 ·intro j u C a q;rcases m j u a with⟨rfl,rfl⟩|⟨l,a⟩
  ·have e:(s.put j []).ss[j]?=some []:=by simp[St.put,h.lss,t]
   rw[e]at q;injection q with q;subst q;exact aO.nil _ _
  ·have e:(s.put k []).ss[j]?=s.ss[j]?:=by simp[St.put,Jt (Ne.symm l)]
   rw[e]at q;have r:=h.sN j u C a q;exact r.kb d (o (r.ne h.hbn (by decide)))
 ·intro i j u y D a r;rcases m i u a with⟨rfl,rfl⟩|⟨J,a⟩
  ·exact fun g f=>by cases f
  ·rcases m j y r with⟨K,E⟩|⟨l,r⟩
   ·rw[E];exact fun g _ f=>by cases f
   ·exact h.aNN i j u y D a r
 ·intro j u a;rcases m j u a with⟨rfl,rfl⟩|⟨l,a⟩
  ·exact fun g f=>by cases f
  ·exact h.aNS j u a
 ·intro j u a;rcases m j u a with⟨rfl,rfl⟩|⟨l,a⟩
  ·exact fun g f=>by cases f
  ·exact h.aNI j u a
 ·refine⟨d.mono (fun k _ F=>by rw[A1.1 F];exact aG.2 (.inr (.inl rfl))),fun b H=>.inl ?_,rfl,rfl,rfl⟩;rcases aG.1 H with e|e|e|⟨u,a,e⟩|e
  ·exact aG.2 (.inl e)
  ·exact aG.2 (.inr (.inl e))
  ·exact aG.2 (.inr (.inr (.inl e)))
  ·obtain⟨j,l⟩:=List.mem_iff_getElem?.1 a;rcases m j u l with⟨_,rfl⟩|⟨_,l⟩
   ·cases e
   ·exact aG.2 (.inr (.inr (.inr (.inl ⟨u,List.mem_of_getElem? l,e⟩))))
  ·exact aG.2 (.inr (.inr (.inr (.inr e))))
def St.je(s:St)(j:Nat):St:=(((((((({ s with un:=s.un+1 }:St).put (7*j) []).put (7*j+1) []).put (7*j+2) []).put (7*j+3) []).put (7*j+4) []).put (7*j+5) []).put (7*j+6) [])
theorem Al(s:St)(j:Nat):s.clear j=(s.je j).drop j:=rfl
def vO(w:World)(a j:Nat):World:=((((((w.setCell ⟨a,j*7,none⟩ (.slice none 0 0)).setCell ⟨a,j*7+1,none⟩ (.slice none 0 0)).setCell ⟨a,j*7+2,none⟩ (.slice none 0 0)).setCell ⟨a,j*7+3,none⟩ (.slice none 0 0)).setCell ⟨a,j*7+4,none⟩ (.slice none 0 0)).setCell ⟨a,j*7+5,none⟩ (.slice none 0 0)).setCell ⟨a,j*7+6,none⟩ (.slice none 0 0)
theorem GM.je(h:GM w B c n G s){j:Nat}(L:j<n)(D:s.un+1<4611686018427387904):∃l,GM (vO (w.setCell ⟨G.bg,9,none⟩ (.int .i64 ((s.un:Int)+1))) G.bn j) B c n l (s.je j)∧GCh w (vO (w.setCell ⟨G.bg,9,none⟩ (.int .i64 ((s.un:Int)+1))) G.bn j) G l:=by obtain⟨E,F⟩:=h.kr D;have e:j*7=7*j:=Nat.mul_comm _ _;unfold vO St.je;rw[e];obtain⟨M,H,m⟩:=E.ik (k:=7*j) (by omega);obtain⟨N,o,p⟩:=H.ik (k:=7*j+1) (by omega);obtain⟨O,i,q⟩:=o.ik (k:=7*j+2) (by omega);obtain⟨P,g,r⟩:=i.ik (k:=7*j+3) (by omega);obtain⟨Q,f,t⟩:=g.ik (k:=7*j+4) (by omega);obtain⟨R,d,u⟩:=f.ik (k:=7*j+5) (by omega);obtain⟨I,a,J⟩:=d.ik (k:=7*j+6) (by omega);have x:=m.e2;have y:=p.e2.trans x;have z:=q.e2.trans y;have A:=r.e2.trans z;have C:=t.e2.trans A;have K:=u.e2.trans C;have b:=((((((F.trans m).trans p).trans q).trans r).trans t).trans u).trans J;rw[x]at o i g f d a b;rw[y]at i g f d a b;rw[z]at g f d a b;rw[A]at f d a b;rw[C]at d a b;rw[K]at a b;exact⟨I,a,b⟩
theorem Fb(j g b2:Nat)(u:FrameMode)(w:World)(G:GV)(h:GM w B c n G s)(L:j<n)(y:s.un+1<4611686018427387904)(M:s.now.length≤500)(N:s.come.length≤500)(i:w.heap[g]?=some (.cells #[.pointer (some ⟨G.bg,0,none⟩)] 101 (0,0)))(l:w.heap[b2]?=some (.cells #[.int .u64 (j:Int)] 144 (0,0)))(z:g ∉ G.foot)(A:b2 ∉ G.foot) :
  CallsD Tryz.prog 162 #[.pointer (some ⟨g,0,none⟩),.pointer (some ⟨b2,0,none⟩)] u w fun e O w'=>O=u∧(e=.returned (.tuple #[])∧∃C,GM w' B c n C (s.clear j)∧GCh w w' G C):=by
 have hn:=h.n40;obtain⟨P,Q,R,S,T,U,V,X,Y⟩:=h.reads;have Z:w.cell? ⟨g,0,none⟩=some (.pointer (some ⟨G.bg,0,none⟩)):=by rw[aC i];rfl
 have c2:w.cell? ⟨b2,0,none⟩=some (.int .u64 (j:Int)):=by rw[aC l];rfl
 have a3:G.bg∈G.foot:=aG.2 (.inl rfl);have a4:G.bn∈G.foot:=aG.2 (.inr (.inl rfl));have a5:G.bl∈G.foot:=aG.2 (.inr (.inr (.inl rfl)));obtain⟨a,m⟩:∃a,a=w.setCell ⟨G.bg,9,none⟩ (.int .i64 ((s.un:Int)+1)):=⟨_,rfl⟩;obtain⟨f,o⟩:=h.kr y;rw[← m]at f o;have d1:a.cell? ⟨g,0,none⟩=some (.pointer (some ⟨G.bg,0,none⟩)):=by rw[aC (o.kb.heap i z)];rfl
 have d2:a.cell? ⟨b2,0,none⟩=some (.int .u64 (j:Int)):=by rw[aC (o.kb.heap l A)];rfl
 have e5:a.cell? ⟨G.bg,5,none⟩=some (.slice (some ⟨G.bn,0,none⟩) n G.cap):=f.reads.2.2.2.2.2.1;have fz:=fun a0=>aE f.hbn a0
 have d:∀k,k<7*n→∃v,a.cell? ⟨G.bn,k,none⟩=some v:=by intro k hk;rw[aC f.hbn];exact⟨_,by rw[List.getElem?_toArray];exact hZ (by rw[f.lnv];exact hk)⟩
 obtain⟨v0,q0⟩:=d (j*7) (by omega);obtain⟨v1,q1⟩:=d (j*7+1) (by omega);obtain⟨v2,q2⟩:=d (j*7+2) (by omega);obtain⟨v3,q3⟩:=d (j*7+3) (by omega);obtain⟨v4,q4⟩:=d (j*7+4) (by omega);obtain⟨v5,q5⟩:=d (j*7+5) (by omega);obtain⟨v6,q6⟩:=d (j*7+6) (by omega);have HG:=aA f;have HH:=aA h;have r:=aA (And.intro i l);clear f h i l d o;go_enter_d Tryz.func162,Tryz.ntmps162
 go_wp2_with fail
 rw[← m];clear X Y V U P Q R S T Z c2;have D:=aA m;clear m;obtain⟨E,p,b⟩:=HH.out.je L y;rw[← D.out]at p b;have F:=p.fresh (w':=(vO a G.bn j).drew.drew) (Kb.refl [] _).drew.drew;have H:GCh w (vO a G.bn j).drew.drew G E:=⟨b.kb.drew.drew,b.ft,b.e1,b.e2,b.e3⟩;have q:=rD j _ E F (by omega) M N;rw[b.e3]at q;have I:=aA H;have x1:(vO a G.bn j).cell? ⟨g,0,none⟩=some (.pointer (some ⟨G.bg,0,none⟩)):=by rw[aC (b.kb.heap r.out.1 z)];rfl
 have x2:(vO a G.bn j).cell? ⟨b2,0,none⟩=some (.int .u64 (j:Int)):=by rw[aC (b.kb.heap r.out.2 A)];rfl
 have x7:(vO a G.bn j).cell? ⟨G.bg,7,none⟩=some (.pointer (some ⟨G.bl,0,none⟩)):=by have:=p.reads.2.2.2.2.2.2.1;rw[b.e1,b.e3]at this;exact this
 clear p b F H;obtain⟨J,t⟩:∃J,vO a G.bn j=J:=⟨_,rfl⟩;have x:=t;unfold vO at x;rw[t]at q I x1 x2 x7;have K:=aA x;clear t x;go_region
 rw[K.out];clear K d1 d2 e5 fz q0 q1 q2 q3 q4 q5 q6 D HG r;go_wp2_with fail
 go_region_with (refine q.mono ?_;clear q;rintro e w2 ⟨rfl,G2,a1,a2⟩)
 all_goals
  go_wp2;go_end0
  exact⟨rfl,G2,by rw[Al];exact a1,I.out.trans a2⟩
end
end Go.Proofs.YtiamlbhkiehilaaGreatDoor
