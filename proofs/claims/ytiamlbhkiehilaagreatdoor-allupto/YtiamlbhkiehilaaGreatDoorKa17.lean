import Derived.Test.YtiamlbhkiehilaaGreatDoorKa16
open Go renaming Calls→I5
open Go.Proofs.Tryz renaming prog→hE
namespace Go.Proofs.YtiamlbhkiehilaaGreatDoor
set_option maxRecDepth 100000
set_option maxHeartbeats 40000000
section
open Go.RowKit Go.Shelf
attribute [local go_sem] Oper.semAt_some
variable {B:Nat} {c:Way} {n:Nat} {s:St}
def St.iw(s:St)(i j:Nat):St:={ s with rep:=fun m=>if s.rep m == j then i else s.rep m }
theorem BA(x y:Nat)(w:World)(G:GV)(h:GM w B c n G s)(b:x<128)(d:y<128)(f:s.rep x=s.rep y) :
  I5 hE 161 #[.pointer (some ⟨G.bg,6,none⟩),.int .u64 x,.int .u64 y] w fun e w'=>e=.returned (.tuple #[.int .u64 (s.rep x:Nat),.int .u64 (s.rep x:Nat),.bool false])∧∃a,GM w' B c n a s∧GCh w w' G a:=by
 refine(Ak B G.bg 6 (mI c n G s.un) TG G.va G.ab s.rep x y w h.hB (by decide) h.hbg rfl h.oA h.cls b d (s.rep x) (s.rep x) false s.rep (.inl ⟨f,rfl,rfl,rfl,rfl⟩)).mono ?_
 rintro e w' ⟨rfl,k,l,g⟩;obtain⟨i,j⟩:=h.j9 g;exact⟨rfl,_,i,j⟩
theorem DA(x y:Nat)(w:World)(G:GV)(h:GM w B c n G s)(d:x<128)(f:y<128)(i j:Nat)(l:s.rep x≠s.rep y)(m:i=min (s.rep x) (s.rep y))(o:j=max (s.rep x) (s.rep y)) :
  I5 hE 161 #[.pointer (some ⟨G.bg,6,none⟩),.int .u64 x,.int .u64 y] w fun e w'=>e=.returned (.tuple #[.int .u64 (i:Nat),.int .u64 (j:Nat),.bool true])∧∃b,GM w' B c n b (s.iw i j)∧GCh w w' G b:=by
 refine(Ak B G.bg 6 (mI c n G s.un) TG G.va G.ab s.rep x y w h.hB (by decide) h.hbg rfl h.oA h.cls d f i j true (s.iw i j).rep ?_).mono ?_
 ·rcases Nat.lt_or_ge (s.rep x) (s.rep y)with a|a
  ·exact .inr (.inl ⟨a,by omega,by omega,rfl,rfl⟩)
  ·exact .inr (.inr ⟨by omega,by omega,by omega,rfl,rfl⟩)
 ·rintro e w' ⟨rfl,p,q,g⟩;obtain⟨a,k⟩:=h.j9 g;exact⟨rfl,_,a,k⟩
theorem DB(k b2 a:Nat)(T:List Nat)(w:World)(G:GV)(h:GM w B c n G s)(g:k<7*n)(i:ArgS w B G k b2 a T) :
  I5 hE 163 #[.pointer (some ⟨G.bn,k,none⟩),.pointer (some ⟨b2,a,none⟩)] w fun e w'=>e=.returned (.tuple #[])∧∃b,GM w' B c n b (s.put k (lD (s.ss.getD k []) T))∧GCh w w' G b:=by
 obtain⟨d,f,j,l⟩:=h.get g;obtain⟨m,o,p,q,r,t,E,F,u,x,y⟩:=i.ex;refine(EB B G.bn k b2 a G.nv.toArray m TNd o d p _ T w (by decide) t h.hbn j q r u l x (y d f)).mono ?_
 rintro e w' ⟨rfl,H,z,A⟩;obtain⟨C,D⟩:=h.j8 f A z;exact⟨rfl,_,C,D⟩
theorem Am(a b:Nat)(w:World)(G:GV)(h:GM w B c n G s)(y:a<n)(z:b<n)(j:s.rep a=s.rep b) :
  I5 hE 123 #[.pointer (some ⟨G.bg,0,none⟩),.int .u64 a,.int .u64 b] w fun e w'=>e=.returned (.bool false)∧∃k,GM w' B c n k s∧GCh w w' G k:=by
 have A:=h.n40;obtain⟨d,f⟩:∃d,d=w.alloc (.cells #[.pointer (some ⟨G.bg,0,none⟩)] 101):=⟨_,rfl⟩;have l:Kb [] w d:=by rw[f];exact(Kb.refl [] w).alloc _
 have q:d.heap[w.heap.size]?=some (.cells #[.pointer (some ⟨G.bg,0,none⟩)] 101 (0,0)):=by rw[f];exact aD _ _
 have g:=((LI.start h).fresh l).1;have m:=BA a b d G g.gm (by omega) (by omega) j;have r:=aA g;clear g h j;go_enter_defers Tryz.func123,Tryz.ntmps123
 go_wp2_with fail
 rw[← f];refine m.mono ?_
 clear m f l q;rintro e t ⟨rfl,u,o,p⟩;have i:=((r.out.call o p).1.fresh ((Kb.refl [] t).alloc (.cells #[.int .u64 (s.rep a:Nat)] 144))).1;have x:=aA (And.intro i.gm i.ch);clear i o p;go_wp2_with fail
 exact⟨_,results_tmp rfl _ _ _,rfl,u,x.out⟩
theorem BB(a b i j:Nat)(w:World)(G:GV)(h:GM w B c n G s)(F:WF n s)(ha:a<n)(hb:b<n)(hu:s.un+1<4611686018427387904)(he:s.rep a≠s.rep b)(H:i=min (s.rep a) (s.rep b))(I:j=max (s.rep a) (s.rep b)) :
  I5 hE 123 #[.pointer (some ⟨G.bg,0,none⟩),.int .u64 a,.int .u64 b] w fun e w'=>e=.returned (.bool true)∧∃d,GM w' B c n d (((s.fuse i j).wait i).clear j)∧GCh w w' G d:=by
 have hn:=h.n40;have bl:∀(fn:Fn) (first a7:Array Value) (w:World),(Instr.makeFunc fn first a7).run hE w=.ok (.func fn first a7) w:=fun _ _ _ _=>rfl
 have b6:=F.lt ha;have b7:=F.lt hb;have J:i<n:=by omega
 have a8:j<n:=by omega
 have b8:i<j:=by omega
 obtain⟨r,D⟩:∃r,r=w.alloc (.cells #[.pointer (some ⟨G.bg,0,none⟩)] 101):=⟨_,rfl⟩;have k0:Kb [] w r:=by rw[D];exact(Kb.refl [] w).alloc _
 have x0:r.heap[w.heap.size]?=some (.cells #[.pointer (some ⟨G.bg,0,none⟩)] 101 (0,0)):=by rw[D];exact aD _ _
 have K:LI w B c n G [] [(w.heap.size,#[.pointer (some ⟨G.bg,0,none⟩)],101)] [] r s G:=((LI.start h).fresh k0).1.fk x0 (fun hm=>by have:=h.gh _ hm;omega);have HJ:=DA a b r G K.gm (by omega) (by omega) i j he H I;have HL:=aA K;have HI:=aA (And.intro H I);clear K h H I he b6 b7;go_enter_defers Tryz.func123,Tryz.ntmps123
 go_wp2_with fail
 rw[← D];refine HJ.mono ?_
 clear HJ D k0 x0;rintro e l ⟨rfl,G1,a9,aa⟩;obtain⟨t,y⟩:∃t,t=l.alloc (.cells #[.int .u64 (j:Nat)] 144):=⟨_,rfl⟩;have M:=(HL.out.call a9 aa).1;have k2:Kb [] l t:=by rw[y];exact(Kb.refl [] l).alloc _
 have x2:t.heap[l.heap.size]?=some (.cells #[.int .u64 (j:Int)] 144 (0,0)):=by rw[y];exact aD _ _
 have p:=(M.fresh k2).1.fk x2 (M.gg (Nat.le_refl _));have z:=p.ch.e2;have A:=p.ch.e1;have cb:=p.cell (b:=w.heap.size) (v:=.pointer (some ⟨G.bg,0,none⟩)) (T:=101) (by simp);have cj:=p.cell (b:=l.heap.size) (v:=.int .u64 (j:Int)) (T:=144) (by simp);have r5:=p.gm.reads.2.2.2.2.2.1;rw[A,z]at r5;have ad:=aA p;clear M p a9 aa HL k2 x2;as_aux_lemma=>
  go_wp2_with fail
  rw[← y];have b9:=aA y;clear y;as_aux_lemma=>
   obtain⟨u,N⟩:∃u,u=t.drew:=⟨_,rfl⟩;have LA:=(ad.out.fresh (W':=u) (by rw[N];exact(Kb.refl [] t).drew)).1;have ae:=aA LA;have af:=aA N;clear LA ad N;have ei:i*7=7*i:=Nat.mul_comm _ _;have ej:j*7=7*j:=Nat.mul_comm _ _;have f:=aA (And.intro ei ej);clear ei ej;go_region
   rw[← af.out];clear af b9 cb cj r5 A z;as_aux_lemma=>
    go_wp2_with fail
    have ag:Hid (I5 hE 120 #[.pointer (some ⟨G.bn,i*7,none⟩),.pointer (some ⟨G.bn,j*7,none⟩)] u.drew fun e w'=>∃v,e=.returned v∧∃d g,LI w B c n G [] [(l.heap.size,#[.int .u64 (j:Int)],144),(w.heap.size,#[.pointer (some ⟨G.bg,0,none⟩)],101)] [] w' g d∧g=(s.iw i j).put (7*i) (cP ((s.iw i j).ss.getD (7*i) []) ((s.iw i j).ss.getD (7*j) []))):=by
     refine aA ?_
     have L:=(ae.out.fresh (W':=u.drew) (Kb.refl [] _).drew).1;have k:=gH (7*i) _ (7*j) _ u.drew _ L.gm (by omega) (ArgS.own L.gm (by omega) (by omega));rw[L.ch.e2,← f.out.1,← f.out.2]at k;refine k.mono ?_
     rintro e w' ⟨rfl,d,m,o⟩;exact⟨_,rfl,d,_,(L.call m o).1,by rw[f.out.1,f.out.2]⟩
    have ah:=ag.out;clear ag ae;refine jP ?_ (fun _ _ h=>h);go_region_with (refine ah.mono ?_;clear ah;rintro e O ⟨v0,rfl,G3,st0,L3,e0⟩)
    dsimp only[nrm];as_aux_lemma=>
     have ai:=aA L3;have ba:=aA e0;clear L3 e0;go_wp2_with fail
     have aj:Hid (I5 hE 163 #[.pointer (some ⟨G.bn,i*7+1,none⟩),.pointer (some ⟨G.bn,j*7+1,none⟩)] O.drew fun e w'=>∃v,e=.returned v∧∃d g,LI w B c n G [] [(l.heap.size,#[.int .u64 (j:Int)],144),(w.heap.size,#[.pointer (some ⟨G.bg,0,none⟩)],101)] [] w' g d∧g=st0.put (7*i+1) (lD (st0.ss.getD (7*i+1) []) (st0.ss.getD (7*j+1) []))):=by
      refine aA ?_
      have L:=(ai.out.fresh (W':=O.drew) (Kb.refl [] _).drew).1;have k:=DB (7*i+1) _ (7*j+1) _ O.drew _ L.gm (by omega) (ArgS.own L.gm (by omega) (by omega));rw[L.ch.e2,← f.out.1,← f.out.2]at k;refine k.mono ?_
      rintro e w' ⟨rfl,d,m,o⟩;exact⟨_,rfl,d,_,(L.call m o).1,by rw[f.out.1,f.out.2]⟩
     have ak:=aj.out;clear aj ai;refine jP ?_ (fun _ _ h=>h);go_region_with (refine ak.mono ?_;clear ak;rintro e P ⟨v1,rfl,G4,Q,L4,A⟩)
     dsimp only[nrm];as_aux_lemma=>
      have al:=aA L4;have bb:=aA A;clear L4 A;go_wp2_with fail
      have am:Hid (I5 hE 120 #[.pointer (some ⟨G.bn,i*7+2,none⟩),.pointer (some ⟨G.bn,j*7+2,none⟩)] P.drew fun e w'=>∃v,e=.returned v∧∃d g,LI w B c n G [] [(l.heap.size,#[.int .u64 (j:Int)],144),(w.heap.size,#[.pointer (some ⟨G.bg,0,none⟩)],101)] [] w' g d∧g=Q.put (7*i+2) (cP (Q.ss.getD (7*i+2) []) (Q.ss.getD (7*j+2) []))):=by
       refine aA ?_
       have L:=(al.out.fresh (W':=P.drew) (Kb.refl [] _).drew).1;have k:=gH (7*i+2) _ (7*j+2) _ P.drew _ L.gm (by omega) (ArgS.own L.gm (by omega) (by omega));rw[L.ch.e2,← f.out.1,← f.out.2]at k;refine k.mono ?_
       rintro e w' ⟨rfl,d,m,o⟩;exact⟨_,rfl,d,_,(L.call m o).1,by rw[f.out.1,f.out.2]⟩
      have an:=am.out;clear am al;refine jP ?_ (fun _ _ h=>h);go_region_with (refine an.mono ?_;clear an;rintro e R ⟨v2,rfl,G5,S,L5,z⟩)
      dsimp only[nrm];as_aux_lemma=>
       have ao:=aA L5;have bc:=aA z;clear L5 z;go_wp2_with fail
       have ap:Hid (I5 hE 120 #[.pointer (some ⟨G.bn,i*7+3,none⟩),.pointer (some ⟨G.bn,j*7+3,none⟩)] R.drew fun e w'=>∃v,e=.returned v∧∃d g,LI w B c n G [] [(l.heap.size,#[.int .u64 (j:Int)],144),(w.heap.size,#[.pointer (some ⟨G.bg,0,none⟩)],101)] [] w' g d∧g=S.put (7*i+3) (cP (S.ss.getD (7*i+3) []) (S.ss.getD (7*j+3) []))):=by
        refine aA ?_
        have L:=(ao.out.fresh (W':=R.drew) (Kb.refl [] _).drew).1;have k:=gH (7*i+3) _ (7*j+3) _ R.drew _ L.gm (by omega) (ArgS.own L.gm (by omega) (by omega));rw[L.ch.e2,← f.out.1,← f.out.2]at k;refine k.mono ?_
        rintro e w' ⟨rfl,d,m,o⟩;exact⟨_,rfl,d,_,(L.call m o).1,by rw[f.out.1,f.out.2]⟩
       have aq:=ap.out;clear ap ao;refine jP ?_ (fun _ _ h=>h);go_region_with (refine aq.mono ?_;clear aq;rintro e T ⟨v3,rfl,G6,U,L6,e3⟩)
       dsimp only[nrm];as_aux_lemma=>
        have ar:=aA L6;have bd:=aA e3;clear L6 e3;go_wp2_with fail
        have au:Hid (I5 hE 120 #[.pointer (some ⟨G.bn,i*7+4,none⟩),.pointer (some ⟨G.bn,j*7+4,none⟩)] T.drew fun e w'=>∃v,e=.returned v∧∃d g,LI w B c n G [] [(l.heap.size,#[.int .u64 (j:Int)],144),(w.heap.size,#[.pointer (some ⟨G.bg,0,none⟩)],101)] [] w' g d∧g=U.put (7*i+4) (cP (U.ss.getD (7*i+4) []) (U.ss.getD (7*j+4) []))):=by
         refine aA ?_
         have L:=(ar.out.fresh (W':=T.drew) (Kb.refl [] _).drew).1;have k:=gH (7*i+4) _ (7*j+4) _ T.drew _ L.gm (by omega) (ArgS.own L.gm (by omega) (by omega));rw[L.ch.e2,← f.out.1,← f.out.2]at k;refine k.mono ?_
         rintro e w' ⟨rfl,d,m,o⟩;exact⟨_,rfl,d,_,(L.call m o).1,by rw[f.out.1,f.out.2]⟩
        have av:=au.out;clear au ar;refine jP ?_ (fun _ _ h=>h);go_region_with (refine av.mono ?_;clear av;rintro e V ⟨v4,rfl,G7,X,L7,e4⟩)
        dsimp only[nrm];as_aux_lemma=>
         have aw:=aA L7;have be:=aA e4;clear L7 e4;go_wp2_with fail
         have ax:Hid (I5 hE 120 #[.pointer (some ⟨G.bn,i*7+5,none⟩),.pointer (some ⟨G.bn,j*7+5,none⟩)] V.drew fun e w'=>∃v,e=.returned v∧∃d g,LI w B c n G [] [(l.heap.size,#[.int .u64 (j:Int)],144),(w.heap.size,#[.pointer (some ⟨G.bg,0,none⟩)],101)] [] w' g d∧g=X.put (7*i+5) (cP (X.ss.getD (7*i+5) []) (X.ss.getD (7*j+5) []))):=by
          refine aA ?_
          have L:=(aw.out.fresh (W':=V.drew) (Kb.refl [] _).drew).1;have k:=gH (7*i+5) _ (7*j+5) _ V.drew _ L.gm (by omega) (ArgS.own L.gm (by omega) (by omega));rw[L.ch.e2,← f.out.1,← f.out.2]at k;refine k.mono ?_
          rintro e w' ⟨rfl,d,m,o⟩;exact⟨_,rfl,d,_,(L.call m o).1,by rw[f.out.1,f.out.2]⟩
         have ay:=ax.out;clear ax aw;refine jP ?_ (fun _ _ h=>h);go_region_with (refine ay.mono ?_;clear ay;rintro e Y ⟨v5,rfl,G8,Z,L8,e5⟩)
         dsimp only[nrm];as_aux_lemma=>
          have az:=aA L8;have bf:=aA e5;clear L8 e5;go_wp2_with fail
          have aV:Hid (I5 hE 120 #[.pointer (some ⟨G.bn,i*7+6,none⟩),.pointer (some ⟨G.bn,j*7+6,none⟩)] Y.drew fun e w'=>∃v,e=.returned v∧∃d g,LI w B c n G [] [(l.heap.size,#[.int .u64 (j:Int)],144),(w.heap.size,#[.pointer (some ⟨G.bg,0,none⟩)],101)] [] w' g d∧g=Z.put (7*i+6) (cP (Z.ss.getD (7*i+6) []) (Z.ss.getD (7*j+6) []))):=by
           refine aA ?_
           have L:=(az.out.fresh (W':=Y.drew) (Kb.refl [] _).drew).1;have k:=gH (7*i+6) _ (7*j+6) _ Y.drew _ L.gm (by omega) (ArgS.own L.gm (by omega) (by omega));rw[L.ch.e2,← f.out.1,← f.out.2]at k;refine k.mono ?_
           rintro e w' ⟨rfl,d,m,o⟩;exact⟨_,rfl,d,_,(L.call m o).1,by rw[f.out.1,f.out.2]⟩
          have b0:=aV.out;clear aV az;refine jP ?_ (fun _ _ h=>h);go_region_with (refine b0.mono ?_;clear b0;rintro e W9 ⟨v6,rfl,G9,a0,L9,e6⟩)
          dsimp only[nrm];as_aux_lemma=>
           have C:=aA L9;have bg:=aA e6;clear L9 e6;have a1:a0=s.fuse i j:=by rw[bg.out,bf.out,be.out,bd.out,bc.out,bb.out,ba.out];rfl
           have a2:WF n a0:=by rw[a1];exact F.fuse J a8 b8
           have b1:=aA a1;clear a1;have E:=C.out;have cb:=C.out.cell (b:=w.heap.size) (v:=.pointer (some ⟨G.bg,0,none⟩)) (T:=101) (by simp);have r7:=C.out.gm.reads.2.2.2.2.2.2.1;rw[C.out.ch.e1,C.out.ch.e3]at r7;have a3:=oB i W9 _ E.gm a2 J;rw[E.ch.e3]at a3;have bh:=aA E;have bi:=aA a2;clear E a2;go_wp2_with fail
           refine a3.mono ?_
           clear a3;rintro e WZ ⟨rfl,GZ,b2,b3⟩;have x:=(bh.out.call b2 b3).1;have b4:=bi.out.wait J;have a4:=b4.lens;have a5:=x.bx (w.heap.size,#[.pointer (some ⟨G.bg,0,none⟩)],101) (by simp);have a6:=x.bx (l.heap.size,#[.int .u64 (j:Int)],144) (by simp);have b5:(a0.wait i).un=s.un:=by rw[b1.out];unfold St.wait;split<;>rfl
           have bj:=Fb j w.heap.size l.heap.size .returning WZ GZ x.gm a8 (by rw[b5];exact hu) (by have:=a4.1;omega) (by have:=a4.2;omega) (by rw[x.ch.e1];exact a5.1) a6.1 a5.2 a6.2;have bk:=aA x.ch;clear x a5 a6 b5 a4 b4 b2 b3;go_wp2_with fail
           refine leaves_cons (f:=162) (args:=#[.pointer (some ⟨w.heap.size,0,none⟩),.pointer (some ⟨l.heap.size,0,none⟩)]) (by simp) (by simp[go_sem]) ?_
           refine bj.mono ?_
           rintro e u' bn ⟨rfl,rfl,d,m,o⟩;refine⟨_,results_tmp rfl _ _ _,rfl,d,?_,bk.out.trans o⟩;rw[← b1.out];exact m
end
end Go.Proofs.YtiamlbhkiehilaaGreatDoor
