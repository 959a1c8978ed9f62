import Derived.Test.YtiamlbhkiehilaaGreatDoorKa02
open Go.Proofs.Tryz renaming prog→hE
namespace Go.Proofs.YtiamlbhkiehilaaGreatDoor
section
open Go.RowKit
variable {B:Nat} {c:Way} {n:Nat} {s:St}
theorem WF.addAt(h:WF n s){k m:Nat}(b:k<7*n)(d:m<n):WF n (s.addAt k m):=by
 refine h.put b (fun x a=>?_);rcases(bA.1 a).2 with rfl|a
 ·exact d
 ·exact h.bd _ x a
theorem tP(k:Nat)(w:World)(G:GV)(h:GM w B c n G s)(a:k<7*n) :
  Calls hE 87 #[.pointer (some ⟨G.bn,k,none⟩)] w fun e w'=>e=.returned (.bool (s.ss.getD k []).isEmpty)∧GM w' B c n G s∧GCh w w' G G:=by
 obtain⟨v,q,b,d⟩:=h.get a;refine(wI B G.bn k _ TNd v _ w h.hbn b d).mono ?_
 rintro e w' ⟨rfl,a⟩;exact⟨rfl,h.fresh a,a.mono (by simp),fun _ f=>.inl f,rfl,rfl,rfl⟩
set_option maxRecDepth 100000 in
set_option maxHeartbeats 1000000 in
theorem wM(hS:c.cycles=true→wK B c n)(f j:Nat)(w:World)(G:GV)(h:GM w B c n G s)(Q:WF n s)(hf:f<n)(hj:j<n)(hu:s.un+1<4611686018427387904) :
  Calls hE 117 #[.pointer (some ⟨G.bg,0,none⟩),.int .u64 f,.int .u64 j] w fun e w'=>e=.returned (.tuple #[])∧∃d,GM w' B c n d (s.link c f j)∧GCh w w' G d:=by
 have hn:=h.n40;have ai:=Q.lt hf;have a9:=Q.lt hj;have C:Hid (∀(m:Nat) (W:World) (d:GV),m<128→GCh w W G d→GM W B c n d s→Calls hE 93 #[.pointer (some ⟨G.bg,6,none⟩),.int .u64 m] W fun e w'=>e=.returned (.int .u64 (s.rep m))∧∃R,GM w' B c n R s∧GCh w w' G R):=by
  refine aA (fun m W d hm o D=>?_);rw[← o.e1];refine(pU m W d D hm).mono ?_
  rintro e w' ⟨rfl,R,E,F⟩;exact⟨rfl,R,E,o.trans F⟩
 have H:iP w w.drew:=⟨rfl,rfl,rfl,rfl⟩;have a2:=C.out f w.drew G (by omega) (GCh.same H G) (h.same H);have a3:=C.out j w.drew G (by omega) (GCh.same H G) (h.same H);have aa:Hid (∀W d,GCh w W G d→GM W B c n d s→_):=aA (fun W d h1 h2=>C.out f W d (by omega) h1 h2);have ab:Hid (∀W d,GCh w W G d→GM W B c n d s→_):=aA (fun W d h1 h2=>C.out j W d (by omega) h1 h2);clear h H C;go_enter Tryz.func117,Tryz.ntmps117
 go_wp2;go_region_with (first
  |(go_at_call 93;refine a2.mono ?_;clear a2 a3;rintro e w1 ⟨rfl,G1,I,J⟩;have HN:=ab.out w1 G1 J I;clear I J)
  |(go_at_call 93;refine a3.mono ?_;clear a2 a3;rintro e w1 ⟨rfl,G1,I,J⟩;have HN:=aa.out w1 G1 J I;clear I J)
  | (go_at_call 93;refine HN.mono ?_;clear HN;rintro e K ⟨rfl,z,S,U⟩))
 have ad:s.link c f j=if s.rep f == s.rep j || (s.hr (s.rep f)).contains (s.rep j)then s else if(if c.deltas then(s.addAt (7*s.rep f+2) (s.rep j)).hd (s.rep f)else(s.addAt (7*s.rep f+2) (s.rep j)).tg (s.rep f)).isEmpty then s.addAt (7*s.rep f+2) (s.rep j)else(s.addAt (7*s.rep f+2) (s.rep j)).hand c (if c.deltas then(s.addAt (7*s.rep f+2) (s.rep j)).hd (s.rep f)else(s.addAt (7*s.rep f+2) (s.rep j)).tg (s.rep f)) (s.rep f) (s.rep j):=rfl
 have V:=aA ad;clear ad aa ab;generalize s.rep f=a at *;generalize s.rep j=g at *;have e1:z.bg=G.bg:=U.e1;have e2:z.bn=G.bn:=U.e2;obtain⟨r0,r1,r2,r3,r4,r5,r7,r9,a4⟩:=S.reads;rw[e1]at r4 r5;rw[e2]at r5;have X:=lL (7*a+2) g K z S (by omega) (by omega);rw[e2,show 7*a+2=a*7+2 by omega]at X;rw[show a*7+2=7*a+2 by omega]at X;have Y:Calls hE 108 #[.pointer (some ⟨G.bn,a*7+2,none⟩),.int .u64 g] K fun e w'=>e=.returned (.bool (!(s.hr a).contains g))∧∃d,GM w' B c n d (s.addAt (7*a+2) g)∧GCh K w' z d:=by rw[show a*7+2=7*a+2 by omega];exact X
 have H2:=aA (And.intro S U);clear X S U r0 r1 r2 r3 r7 r9 a4;by_cases a5:a=g
 ·have l:Hid (GM K B c n z (s.link c f j)∧GCh w K G z):=by
   refine aA ?_
   rw[V.out,if_pos (by rw[a5];simp)];exact H2.out
  subst a5;clear Y;go_wp2;refine bodyPost_ret (results_none rfl _ _ _) rfl ?_
  exact⟨rfl,_,l.out⟩
 ·obtain⟨b,p⟩:∃b,b=(s.hr a).contains g:=⟨_,rfl⟩;rw[← p]at Y;have Z:=aA p;clear p;have ar:¬((a:Nat):Int)=((g:Nat):Int):=by omega
  go_wp2_with fail
  refine Y.mono ?_
  clear Y;rintro e w3 ⟨rfl,k,A,a6⟩;have o:=H2.out.2.trans a6;cases b
  ·have ae:WF n (s.addAt (7*a+2) g):=Q.addAt (by omega) a9;have aj:(s.addAt (7*a+2) g).un+1<4611686018427387904:=hu;have af:s.link c f j=if(if c.deltas then(s.addAt (7*a+2) g).hd a else(s.addAt (7*a+2) g).tg a).isEmpty then s.addAt (7*a+2) g else(s.addAt (7*a+2) g).hand c (if c.deltas then(s.addAt (7*a+2) g).hd a else(s.addAt (7*a+2) g).tg a) a g:=by
    rw[V.out,if_neg (by rw[← Z.out];simp[a5])]
   have a0:=aA af;have ag:k.bg=G.bg:=o.e1;have a7:k.bn=G.bn:=o.e2;obtain⟨r0,r1,r2,r3,a8,ah,r7,r9,a4⟩:=A.reads;rw[ag]at a8 ah;rw[a7]at ah;have H3:=aA (And.intro A o);clear af V Z A o a6 r0 r1 r2 r3 r7 r9 a4 r4 r5;generalize s.addAt (7*a+2) g=q at *;have a1:∀(r i:Nat) (T:List Nat),r=i→i<7*n→i≠7*g→q.ss.getD i []=T→(s.link c f j=if T.isEmpty then q else q.hand c T a g) →
     Calls hE 87 #[.pointer (some ⟨G.bn,r,none⟩)] w3 (fun e w'=>e=.returned (.bool T.isEmpty)∧GM w' B c n k q∧GCh w w' G k) ∧
     ∀W,GM W B c n k q→GCh w W G k→(T.isEmpty=true→GM W B c n k (s.link c f j))∧(T.isEmpty=false→Calls hE 119 #[.pointer (some ⟨G.bg,0,none⟩),.pointer (some ⟨G.bn,r,none⟩),.int .u64 a,.int .u64 g] W fun e w'=>e=.returned (.tuple #[])∧∃d,GM w' B c n d (s.link c f j)∧GCh w w' G d):=by
    intro r i T e hk ak hT L;subst e;refine⟨?_,fun W D al=>⟨fun ht=>?_,fun ht=>?_⟩⟩
    ·have:=tP r w3 k H3.out.1 hk;rw[a7,hT]at this;refine this.mono ?_
     rintro e w' ⟨rfl,E,F⟩;exact⟨rfl,E,H3.out.2.trans F⟩
    ·rw[L,if_pos ht];exact D
    ·have ha:=ArgS.own D (k:=7*g) hk ak;rw[hT]at ha;have:=wL hS k.bn r a g T W k D ae ai a9 (fun an hx=>ae.bd r an (by rw[hT];exact hx)) ha aj;rw[ag,a7]at this;refine this.mono ?_
     rintro e w' ⟨rfl,d,E,F⟩;refine⟨rfl,d,?_,al.trans F⟩;rw[L,ht];exact E
   have ao:c.deltas=true∨c.deltas=false:=by cases c.deltas<;>simp
   rcases ao with hd|hd
   ·obtain⟨t,u⟩:=a1 (a*7+1) (7*a+1) (q.hd a) (by omega) (by omega) (by omega) rfl (by rw[a0.out,hd];rfl);obtain⟨b,p⟩:∃b,b=(q.hd a).isEmpty:=⟨_,rfl⟩;rw[← p]at t u;have M:=aA u;rw[hd]at a8;clear a1 u p a0 H3;go_wp2_with fail
    refine t.mono ?_
    clear t;rintro e w4 ⟨rfl,N,x⟩;obtain⟨y,i⟩:=M.out w4 N x;clear M N;cases b
    ·have O:=i rfl;clear y i;go_wp2_with fail
     refine O.mono ?_
     clear O;rintro e w5 ⟨rfl,G5,P⟩;have l:=aA P;clear P;go_wp2;go_end0
     exact⟨rfl,_,l.out⟩
    ·have l:=aA (And.intro (y rfl) x);clear y i x;go_wp2;go_end0
     exact⟨rfl,_,l.out⟩
   ·obtain⟨t,u⟩:=a1 (a*7) (7*a) (q.tg a) (by omega) (by omega) (by omega) rfl (by rw[a0.out,hd];rfl);obtain⟨b,p⟩:∃b,b=(q.tg a).isEmpty:=⟨_,rfl⟩;rw[← p]at t u;have M:=aA u;rw[hd]at a8;clear a1 u p a0 H3;go_wp2_with fail
    refine t.mono ?_
    clear t;rintro e w4 ⟨rfl,N,x⟩;obtain⟨y,i⟩:=M.out w4 N x;clear M N;cases b
    ·have O:=i rfl;clear y i;go_wp2_with fail
     refine O.mono ?_
     clear O;rintro e w5 ⟨rfl,G5,P⟩;have l:=aA P;clear P;go_wp2;go_end0
     exact⟨rfl,_,l.out⟩
    ·have l:=aA (And.intro (y rfl) x);clear y i x;go_wp2;go_end0
     exact⟨rfl,_,l.out⟩
  ·have l:Hid (GM w3 B c n k (s.link c f j)∧GCh w w3 G k):=by
    refine aA ⟨?_,o⟩;rw[V.out,if_pos (by rw[← Z.out];simp)];have ea:s.addAt (7*a+2) g=s:=by
     have ap:s.hr a=mkS ((s.hr a).contains ·):=by obtain⟨v,au,q',qs⟩:=H2.out.1.get (k:=7*a+2) (by omega);exact qs.canon
     have:=nZ ap Z.out.symm;unfold St.addAt;rw[show s.ss.getD (7*a+2) []=s.hr a from rfl,this];unfold St.put;have e5:s.ss.set (7*a+2) (s.hr a)=s.ss:=by
      apply List.ext_getElem?;intro aq;by_cases e:aq=7*a+2
      ·subst e;have L:7*a+2<s.ss.length:=by rw[Q.len];omega
       rw[List.getElem?_set_self L];unfold St.hr;rw[List.getD_eq_getElem?_getD,List.getElem?_eq_getElem L];rfl
      ·rw[List.getElem?_set_ne (Ne.symm e)]
     rw[e5]
    rw[ea]at A;exact A
   clear A a6 o;go_wp2;refine bodyPost_ret (results_none rfl _ _ _) rfl ?_
   exact⟨rfl,_,l.out⟩
end
end Go.Proofs.YtiamlbhkiehilaaGreatDoor
