import Derived.Test.YtiamlbhkiehilaaGreatDoorKa42
open Go renaming Value→sA,World→vF,Calls→I5,info_parts→Me,maxLen→IU,wpList_append_own→Jg,bodyPost_end→Oi,TypeId→I1
open Go.Maps renaming size→JS
open Go.Proofs.Tryz renaming prog→hE,underlying36→JN,underlying44→I7,underlying40→KZ
open Go.RowKit renaming ownsRow_setCell_below→Lg
open Go.Value renaming slice→E2,ownBlock→Jh,string→F2,int→Mj
open List renaming getElem?_eq_getElem→hZ,drop_eq_getElem_cons→KG,replicate→A3,length_replicate→Jy,getElem?_append_right→IZ,replicate_succ'→K5,append_assoc→JI,drop_length→LK,append_nil→JK,mem_of_getElem?→IJ,mem_singleton→A1,length_append→A4,getElem?_append_left→IL,mem_cons→sT,mem_append→IK,mem_iff_getElem?→J0
open Nat renaming zero_le→IM,sub_self→MB,add_sub_cancel_left→KT,le_trans→IH,le_of_lt→JA,le_refl→gO,lt_of_lt_of_le→A2,mul_mod_left→OL
open Option renaming mem_toList→I9
namespace Go.Proofs.YtiamlbhkiehilaaGreatDoor
set_option maxRecDepth 100000
set_option maxHeartbeats 2000000
section
open Go.RowKit Go.Maps
structure BookF(B kb:Nat)(Rv Tv:Value)(ls:List Value)(V:Value)(w:World):Prop where
 le:B≤kb
 head:w.heap[kb]?=some (.cells #[V,Rv,Tv] 75 (0,0))
 row:w.ownsRow B 36 1 V ls.length ls
 lists:∀(i:Nat) v,ls[i]?=some v→∃n,n≤2000000∧w.ownsRow B 48 3 v n (dJ n (sE i))
theorem vC(B kb:Nat)(J K:sA)(a:List sA)(V l:sA)(fs:List Fct)(w:vF)(ce:a.length % 4=0)(cf:a.length≤1000000000)(cg:fs.length≤1500000)(t:BookF B kb J K a V w)
  (x:w.ownsRow B 48 3 l fs.length (aY fs)) (av:∀v∈a,v.ownBlock=none∨v.ownBlock≠l.ownBlock) :
  I5 hE 41 #[.pointer (some ⟨kb,0,none⟩),l] w fun e w'=>e=.returned (.tuple #[])∧∃V' l1 l2 l3,BookF B kb J K (a++[l,l1,l2,l3]) V' w'∧(∀u∈[l1,l2,l3],u.ownBlock=l.ownBlock∨∃g,u.ownBlock=some g∧w.heap.size≤g)∧Kb (may kb V l) w w':=by
 obtain⟨i0,a7,a8,a9,aa⟩:=Me jU;obtain⟨j0,bq,br,bs,bt⟩:=Me Dt;obtain⟨L,M,rfl,_⟩:=aQ t.row;obtain⟨c,d,rfl,bu⟩:=aQ x;obtain⟨N,c1,c2,O,P,Q⟩:=aZ t.head;have ch:=aB t.head;have bv:=t.le;go_enter Tryz.func41,Tryz.ntmps41
 go_wp2_with fail
 refine(lR a.length w (by omega)).mono ?_
 rintro e p ⟨rfl,y⟩;have aw:sE a.length=[.int .i64 0,.string (bJ a.length),.string ⟨#[]⟩]:=by unfold sE noB;rw[show a.length / 4*4=a.length by omega]
 have bw:sD a.length=⟨0,bJ a.length,⟨#[]⟩⟩:=by unfold sD noB;rw[show a.length / 4*4=a.length by omega]
 go_wp2_with fail
 have S:=aD p (.cells #[.int .i64 0,.string (bJ a.length),.string ⟨#[]⟩] 48);have q:Kb ((E2 c fs.length d).ownBlock.toList) w (p.alloc (.cells #[.int .i64 0,.string (bJ a.length),.string ⟨#[]⟩] 48)):=(Kb.gi y _).alloc _;have ab:(p.alloc (.cells #[.int .i64 0,.string (bJ a.length),.string ⟨#[]⟩] 48)).ownsRow B 48 3 (.slice c fs.length d) fs.length (aY fs):=(aM x y).alloc _;have ax:∀g,c=some ⟨g,0,none⟩→g<p.heap.size:=fun g m=>((aM x y).lt g (by rw[m];rfl)).2
 have HX:=aA ax;have ay:some p.heap.size≠(E2 c fs.length d).ownBlock:=fun h=>Nat.lt_irrefl _ ((aM x y).lt _ h.symm).2
 have ad:=aA ay;have ci:w.heap.size≤p.heap.size:=y.size;generalize p.heap.size=s at *;generalize p.alloc (.cells #[.int .i64 0,.string (bJ a.length),.string ⟨#[]⟩] 48)=w3 at S q ab ⊢;have cj:=aB S;have C:=aA t;have bx:=aA av;have HL:=aA x;clear t av x y N c1 c2 O P Q ax ay;go_loopw [5] (fun iv wr=>∃i:Nat,iv=.int .i64 i∧KInv B w3 wr (.slice c fs.length d) fs (sD a.length) i∧wr.heap[s]?=some (.cells #[.int .i64 0,.string (bJ a.length),.string ⟨#[]⟩] 48 (0,0))) (fun iv _=>fs.length-(intOf iv).toNat)
 case atStart=>exact⟨0,rfl,⟨IM _,by simpa using ab,Kb.refl _ _⟩,S⟩
 case round=>
  obtain⟨i,rfl,z,U⟩:=hrel;obtain⟨x0,x1,x2,_,_,_⟩:=aZ U;by_cases X:i<fs.length
  ·obtain⟨g,rfl⟩:=bu (by omega);have ck:=HX.out g rfl;have bz:=z.kb;obtain⟨f,D⟩:∃f,fs[i]?=some f:=⟨_,hZ X⟩;have az:fs.drop i=f::fs.drop (i+1):=by
    rw[KG X];rw[hZ X]at D;injection D with D;rw[D]
   have Y:=z.own;rw[az]at Y;have hA:(A3 i (sD a.length)).length=i:=Jy;obtain⟨Z,hz⟩:=eZ Y;have e3:=mL (A3 i (sD a.length)++f::fs.drop (i+1)) i f.k f.p f.q (by rw[IZ (by rw[hA];omega),hA,MB];rfl);have a0:=Z _ _ e3.1;have E:=Z _ _ e3.2.1;have G:=Z _ _ e3.2.2;have z0:=hz (i*3);have z1:=hz (i*3+1);have z2:=hz (i*3+2);have ae:=mR (mR (mR Y (i*3) (.int .i64 0)) (i*3+1) (.string (bJ a.length))) (i*3+2) (.string ⟨#[]⟩);have e4:=Id (A3 i (sD a.length)) (fs.drop (i+1)) f 0 (bJ a.length) ⟨#[]⟩;rw[hA]at e4;rw[e4,← bw]at ae;have HO:=aA ae;clear ae e4 Z hz e3 Y az D;go_wp2;go_roundw
   case rel=>
    refine⟨i+1,by go_num,⟨X,?_,((bz.setCell (p:=⟨g,_,none⟩) (.inl (by simp[Jh])) _).setCell (p:=⟨g,_,none⟩) (.inl (by simp[Jh])) _).setCell (p:=⟨g,_,none⟩) (.inl (by simp[Jh])) _⟩,?_⟩
    ·rw[K5,JI];exact HO.out
    ·rw[Below.heap_setCell _ _ _ _ (by show s≠g;omega),Below.heap_setCell _ _ _ _ (by show s≠g;omega),Below.heap_setCell _ _ _ _ (by show s≠g;omega)];exact U
   case measure=>simp[intOf];omega
  ·have bF:i=fs.length:=by have:=z.le;omega
   subst bF;have a1:=z.own;rw[LK,JK,Bt,aw]at a1;have b1:Kb ((E2 c fs.length d).ownBlock.toList) w wr:=q.trans (z.kb.mono (fun _ _ h=>h));have af:=b1;have ag:=U;clear z q ab S U b1;go_wp2_with (first|(at_builtin;refine bS _ rfl _ _ 36 rfl B 48 i0 (.agg #[.int .i64 0,.string ⟨#[]⟩,.string ⟨#[]⟩]) 3 40 JN a7 a8 a9 aa rfl (by decide) (.slice c fs.length d) fs.length [.int .i64 0,.string (bJ a.length),.string ⟨#[]⟩] rfl rfl (a1.alloc _) ⟨wr.heap.size,0,none⟩ 1 1 (by decide) rfl (bU _ _ _ _ rfl) ?c1 ?c2 ?c3 ?c4 ?_)|go_in)
   case c1=>intro u j;simp at j;rcases j with rfl|rfl|rfl<;>rfl
   case c2=>unfold IU;omega
   case c3=>omega
   case c4=>have:=af.size;simp;omega
   intro v1 w4 ah ai b2 b3;obtain⟨E,p1,rfl,_⟩:=aQ ah;have b4:=b2 _ _ _ (a1.alloc _);have aj:Kb ((E2 c fs.length d).ownBlock.toList) w w4:=(af.alloc _).grown ai (fun a2 o=>.inl (by rw[o];simp));have a4:w4.heap[s]?=some (.cells #[.int .i64 0,.string (bJ a.length),.string ⟨#[]⟩] 48 (0,0)):=(ai.block s (by have:=aB ag;simp;omega) ad.out).trans (aF ag _);have b5:(E2 E (fs.length+1) p1).ownBlock=(E2 c fs.length d).ownBlock∨∃g,(E2 E (fs.length+1) p1).ownBlock=some g∧w.heap.size≤g:=by
    rcases b3 with h|⟨g,h,b6⟩
    ·exact .inl h
    ·exact .inr ⟨g,h,by have:=af.size;omega⟩
   obtain⟨y0,y1,y2,_,_,_⟩:=aZ a4;have ak:=aA b4;have b7:=aA ah;have c0:=aA b5;clear ah ai b2 b3 b5 x0 x1 x2 a1;go_wp2_with (first|(at_builtin;refine bS _ rfl _ _ 36 rfl B 48 i0 (.agg #[.int .i64 0,.string ⟨#[]⟩,.string ⟨#[]⟩]) 3 40 JN a7 a8 a9 aa rfl (by decide) (.slice c fs.length d) fs.length [.int .i64 0,.string (bJ a.length),.string ⟨#[]⟩] rfl rfl (ak.out.alloc _) ⟨w4.heap.size,0,none⟩ 2 2 (by decide) rfl (bU _ _ _ _ rfl) ?c1 ?c2 ?c3 ?c4 ?_)|go_in)
   case c1=>intro u j;simp at j;rcases j with rfl|rfl|rfl<;>rfl
   case c2=>unfold IU;omega
   case c3=>omega
   case c4=>have:=aj.size;simp;omega
   intro v2 w5 al am an b8;obtain⟨G,p2,rfl,_⟩:=aQ al;have b9:=an _ _ _ (ak.out.alloc _);have ba:=an _ _ _ (b7.out.alloc _);have ao:Kb ((E2 c fs.length d).ownBlock.toList) w w5:=(aj.alloc _).grown am (fun a2 o=>.inl (by rw[o];simp));have bb:w5.heap[s]?=some (.cells #[.int .i64 0,.string (bJ a.length),.string ⟨#[]⟩] 48 (0,0)):=(am.block s (by have:=aB a4;simp;omega) ad.out).trans (aF a4 _);have bc:(E2 G (fs.length+2) p2).ownBlock=(E2 c fs.length d).ownBlock∨∃g,(E2 G (fs.length+2) p2).ownBlock=some g∧w.heap.size≤g:=by
    rcases b8 with h|⟨g,h,b6⟩
    ·exact .inl h
    ·exact .inr ⟨g,h,by have:=aj.size;omega⟩
   obtain⟨x0,x1,x2,_,_,_⟩:=aZ bb;have ap:=aA b9;have bd:=aA ba;have be:=aA al;have c5:=aA bc;clear al am an b8 bc y0 y1 y2 b4 b9 ba b7 ak;go_wp2_with (first|(at_builtin;refine bS _ rfl _ _ 36 rfl B 48 i0 (.agg #[.int .i64 0,.string ⟨#[]⟩,.string ⟨#[]⟩]) 3 40 JN a7 a8 a9 aa rfl (by decide) (.slice c fs.length d) fs.length [.int .i64 0,.string (bJ a.length),.string ⟨#[]⟩] rfl rfl (ap.out.alloc _) ⟨w5.heap.size,0,none⟩ 3 3 (by decide) rfl (bU _ _ _ _ rfl) ?c1 ?c2 ?c3 ?c4 ?_)|go_in)
   case c1=>intro u j;simp at j;rcases j with rfl|rfl|rfl<;>rfl
   case c2=>unfold IU;omega
   case c3=>omega
   case c4=>have:=ao.size;simp;omega
   intro v3 A aq bf q bg;obtain⟨a3,p3,rfl,_⟩:=aQ aq;have bh:=q _ _ _ (ap.out.alloc _);have bi:=q _ _ _ (bd.out.alloc _);have bj:=q _ _ _ (be.out.alloc _);have H:Kb ((E2 c fs.length d).ownBlock.toList) w A:=(ao.alloc _).grown bf (fun a2 o=>.inl (by rw[o];simp));have bk:(E2 a3 (fs.length+3) p3).ownBlock=(E2 c fs.length d).ownBlock∨∃g,(E2 a3 (fs.length+3) p3).ownBlock=some g∧w.heap.size≤g:=by
    rcases bg with h|⟨g,h,b6⟩
    ·exact .inl h
    ·exact .inr ⟨g,h,by have:=ao.size;omega⟩
   have c6:=aA bh;have c7:=aA bi;have c8:=aA bj;have c9:=aA aq;have ca:=aA bk;have bl:∀g∈(E2 c fs.length d).ownBlock.toList,kb≠g:=by intro g m he;exact cM HL.out C.out.head (by decide) (by rw[he];simpa using(I9.1 m).symm)
   have hV:A.ownsRow B 36 1 (.slice L a.length M) a.length a:=eT C.out.row H (fun g m k=>by
    rcases gL C.out.row HL.out (by decide)with h|h
    ·rw[h]at k;cases k
    ·exact h (k.trans (I9.1 m).symm))
   have hH:A.heap[kb]?=some (.cells #[.slice L a.length M,J,K] 75 (0,0)):=H.heap C.out.head (fun hm=>bl kb hm rfl);have cb:Hid (∀(i:Nat) v,a[i]?=some v→∃n,n≤2000000∧A.ownsRow B 48 3 v n (dJ n (sE i))):=by
    intro i v b;obtain⟨n,hn,ho⟩:=C.out.lists i v b;refine⟨n,hn,eT ho H (fun g m k=>?_)⟩;rcases bx.out v (IJ b)with h|h
    ·rw[h]at k;cases k
    ·exact h (k.trans (I9.1 m).symm)
   have HV:=aA hV;have bm:=cM HV.out hH (by decide);have cc:=aA bm;obtain⟨N,c1,c2,O,P,Q⟩:=aZ hH;clear aq bf q bg bk bh bi bj x0 x1 x2 ap bd be hV bm bl ag a4 bb HX ad;go_wp2_with (first|(at_builtin;refine Jg _ rfl _ _ 72 rfl B 36 j0 (.slice none 0 0) 1 24 Tryz.underlying72 bq br bs bt rfl (by decide) (.slice L a.length M) a.length a rfl (HV.out.alloc _) ⟨A.heap.size,0,none⟩ 4 4 [.slice c fs.length d,.slice E (fs.length+1) p1,.slice G (fs.length+2) p2,.slice a3 (fs.length+3) p3] rfl rfl (bU _ _ _ _ rfl) ?c1 ?c2 ?c3 ?c4 ?_)|go_in)
   case c1=>intro u j;simp at j;rcases j with rfl|rfl|rfl|rfl<;>rfl
   case c2=>unfold IU;omega
   case c3=>omega
   case c4=>have:=H.size;simp;omega
   intro V' w7 ar au _;have a5:w7.heap[kb]?=some (.cells #[.slice L a.length M,J,K] 75 (0,0)):=(au.block kb (by have:=aB hH;simp;omega) cc.out).trans (aF hH _);clear N c1 c2 O P Q;obtain⟨N,c1,c2,O,P,Q⟩:=aZ a5;obtain⟨aV,pV,rfl,_⟩:=aQ ar;have bn:=aA ar;have bo:=aA au;clear ar au;go_wp2_with fail
   have bp:Kb [kb] w7 (w7.setCell ⟨kb,0,none⟩ (.slice aV (a.length+4) pV)):=(Kb.refl _ _).setCell (.inl (by simp)) _;have I:∀v n xs,A.ownsRow B 48 3 v n xs→(w7.setCell ⟨kb,0,none⟩ (.slice aV (a.length+4) pV)).ownsRow B 48 3 v n xs:=by intro v n xs h;have h7:=(h.alloc _).kept bo.out (gL h HV.out (by decide));refine eT h7 bp (fun g m k=>?_);rw[A1.1 m]at k;exact cM h7 a5 (by decide) k.symm
   have a6:∀r,r<4→sE (a.length+r)=[.int .i64 0,.string (bJ a.length),.string ⟨#[]⟩]:=by intro r hr;rw[← aw];unfold sE;rw[show(a.length+r) / 4*4=a.length / 4*4 by omega]
   refine Oi (v:=.tuple #[]) (by simp[results,Tryz.results41,go_sem]) rfl ?_
   refine⟨rfl,.slice aV (a.length+4) pV,.slice E (fs.length+1) p1,.slice G (fs.length+2) p2,.slice a3 (fs.length+3) p3,⟨bv,?_,?_,?_⟩,?_,?_⟩
   ·rw[aI a5];rfl
   ·rw[A4];refine eT bn.out bp (fun g m k=>?_);rw[A1.1 m]at k;exact cM bn.out a5 (by decide) k.symm
   ·intro i v b;by_cases cd:i<a.length
    ·rw[IL cd]at b;obtain⟨n,hn,ho⟩:=cb.out i v b;exact⟨n,hn,I _ _ _ ho⟩
    ·rw[IZ (by omega)]at b;obtain⟨r,rfl⟩:∃r,i=a.length+r:=⟨i-a.length,by omega⟩;rw[KT]at b;match r,b with
     |0,b=>injection b with b;subst b;exact⟨fs.length,by omega,by rw[a6 0 (by decide)];exact I _ _ _ c6.out⟩
     |1,b=>injection b with b;subst b;exact⟨(fs.length+1),by omega,by rw[a6 1 (by decide)];exact I _ _ _ c7.out⟩
     |2,b=>injection b with b;subst b;exact⟨(fs.length+2),by omega,by rw[a6 2 (by decide)];exact I _ _ _ c8.out⟩
     |3,b=>injection b with b;subst b;exact⟨(fs.length+3),by omega,by rw[a6 3 (by decide)];exact I _ _ _ c9.out⟩
     |r+4,b=>simp at b
   ·intro u j;simp at j;rcases j with rfl|rfl|rfl
    ·exact c0.out
    ·exact c5.out
    ·exact ca.out
   ·refine Kb.setCell ?_ (.inl (by simp[may])) _;refine Kb.grown ((H.mono (fun a2 _ o=>?_)).alloc _) bo.out (fun a2 o=>.inl ?_)
    ·simp only[may,sT,IK];exact .inr (.inr o)
    ·simp only[may,sT,IK];exact .inr (.inl (I9.2 o))
theorem Cp{B kb:Nat}{c d:sA}{e:List sA}{V l:sA}{w w':vF}{n:Nat}{xs:List sA}(f:Kb (may kb V l) w w')(a:BookF B kb c d e V w)(g:w.ownsRow B 48 3 l n xs):Below B w w':=by
 refine f.below (IH a.le (JA (aB a.head))) (fun k b=>?_);simp only[may,sT,IK,I9]at b;rcases b with rfl|h|h
 ·exact a.le
 ·exact(a.row.lt k h).1
 ·exact(g.lt k h).1
theorem qU{B kb b:Nat}{f g:sA}{i:List sA}{V l:sA}{w:vF}{n:Nat}{xs:List sA}{c:Array sA}{T:I1}{j:Nat × Nat}(d:BookF B kb f g i V w)(k:w.ownsRow B 48 3 l n xs)
  (a:w.heap[b]?=some (.cells c T j)) (h1:75≠T) (h2:36≠T) (h3:48≠T):b ∉ may kb V l:=by
 intro e;simp only[may,sT,IK,I9]at e;rcases e with rfl|h|h
 ·have:=d.head;rw[a]at this;injection this with this;injection this with _ this;exact h1 this.symm
 ·exact cM d.row a h2 h.symm
 ·exact cM k a h3 h.symm
theorem BookF.below{B kb:Nat}{b c:sA}{d:List sA}{V:sA}{w w':vF}(h:BookF B kb b c d V w)(a:Below w.heap.size w w'):BookF B kb b c d V w':=
 ⟨h.le,Below.fj a h.head (aB h.head),aM h.row a,fun i v e=>by
  obtain⟨n,f,g⟩:=h.lists i v e;exact⟨n,f,aM g a⟩⟩
structure BookG(B kb:Nat)(Fv:Value)(ts:List Value)(T:Value)(rs:List Value)(R:Value)(w:World):Prop where
 le:B≤kb
 head:w.heap[kb]?=some (.cells #[Fv,R,T] 75 (0,0))
 trow:w.ownsRow B 44 1 T ts.length ts
 tlists:∀(i:Nat) v,ts[i]?=some v→∃n,n≤2000000∧w.ownsRow B 9 1 v n (dJ n (uF i))
 rrow:w.ownsRow B 40 1 R rs.length rs
 rlists:∀(i:Nat) v,rs[i]?=some v→∃n,n≤2000000∧w.ownsRow B 51 2 v n (dJ n (uG i))
theorem vD(B kb:Nat)(L:sA)(ts:List sA)(T:sA)(rs:List sA)(R l:sA)(xs:List ByteArray)(w:vF)(c6:ts.length % 4=0)(c7:ts.length≤1000000000000)(c8:xs.length≤1500000)(p:BookG B kb L ts T rs R w)
  (M:w.ownsRow B 9 1 l xs.length (xs.map F2)) (an:∀v∈ts,v.ownBlock=none∨v.ownBlock≠l.ownBlock) :
  I5 hE 78 #[.pointer (some ⟨kb,0,none⟩),l] w fun e w'=>e=.returned (.tuple #[])∧∃T' l1 l2 l3,BookG B kb L (ts++[l,l1,l2,l3]) T' rs R w'∧(∀u∈[l1,l2,l3],u.ownBlock=l.ownBlock∨∃g,u.ownBlock=some g∧w.heap.size≤g)∧Kb (may kb T l) w w':=by
 obtain⟨i0,a4,a5,a6,a7⟩:=Me iJ;obtain⟨j0,be,bf,bg,bh⟩:=Me EZ;obtain⟨N,O,rfl,_⟩:=aQ p.trow;obtain⟨b,c,rfl,bi⟩:=aQ M;obtain⟨Ra,Rc,hR,_⟩:=aQ p.rrow;obtain⟨P,c1,c2,Q,S,U⟩:=aZ p.head;have c9:=aB p.head;have bj:=p.le;go_enter Tryz.func78,Tryz.ntmps78
 go_wp2_with fail
 refine(lR ts.length w (by omega)).mono ?_
 rintro e w2 ⟨rfl,a8⟩;have bk:uF ts.length=[.string (bJ ts.length)]:=by unfold uF;rw[show ts.length / 4*4=ts.length by omega]
 have q:Kb ((E2 b xs.length c).ownBlock.toList) w w2:=Kb.gi a8 _;have ao:w2.ownsRow B 9 1 (.slice b xs.length c) xs.length (xs.map F2):=aM M a8;have z:=aA p;have bl:=aA an;have HL:=aA M;clear p an M a8 P c1 c2 Q S U;go_wp2_with fail
 go_loopw [5] (fun iv wr=>∃i:Nat,iv=.int .i64 i∧KInvT B w2 wr (.slice b xs.length c) xs (bJ ts.length) i) (fun iv _=>xs.length-(intOf iv).toNat)
 case atStart=>exact⟨0,rfl,IM _,by simpa using ao,Kb.refl _ _⟩
 case round=>
  obtain⟨i,rfl,A⟩:=hrel;by_cases V:i<xs.length
  ·obtain⟨g,rfl⟩:=bi (by omega);have bm:=A.kb;obtain⟨f,C⟩:∃f,xs[i]?=some f:=⟨_,hZ V⟩;have ap:xs.drop i=f::xs.drop (i+1):=by
    rw[KG V];rw[hZ V]at C;injection C with C;rw[C]
   have X:=A.own;rw[ap]at X;have Y:(A3 i (bJ ts.length)).length=i:=Jy;obtain⟨hc,hz⟩:=eZ X;have a0:=hc i (.string f) (by rw[List.getElem?_map,IZ (by rw[Y];omega),Y,MB];rfl);have z0:=hz i;have a9:=mR X i (.string (bJ ts.length));have e4:((A3 i (bJ ts.length)++f::xs.drop (i+1)).map F2).set i (.string (bJ ts.length))=(A3 (i+1) (bJ ts.length)++xs.drop (i+1)).map F2:=by rw[← List.map_set,List.set_append_right _ _ (by rw[Y];omega),Y,MB,List.set_cons_zero,K5,JI];rfl
   rw[e4]at a9;have HO:=aA a9;clear a9 e4 hc hz X ap C;go_wp2;go_roundw
   case rel=>exact⟨i+1,by go_num,V,HO.out,bm.setCell (p:=⟨g,_,none⟩) (.inl (by simp[Jh])) _⟩
   case measure=>simp[intOf];omega
  ·have bn:i=xs.length:=by have:=A.le;omega
   subst bn;have Z:=A.own;have e5:(A3 xs.length (bJ ts.length)++xs.drop xs.length).map F2=dJ xs.length [.string (bJ ts.length)]:=by
    rw[LK,JK];generalize xs.length=n;induction n with
    |zero=>rfl
    |succ n ih=>rw[List.replicate_succ,List.map_cons,ih,jJ];rfl
   rw[e5]at Z;have aa:Kb ((E2 b xs.length c).ownBlock.toList) w wr:=q.trans (A.kb.mono (fun _ _ h=>h));clear A q ao e5;go_wp2_with (first|(at_builtin;refine bS _ rfl _ _ 44 rfl B 9 i0 (.string ⟨#[]⟩) 1 16 I7 a4 a5 a6 a7 rfl (by decide) (.slice b xs.length c) xs.length [.string (bJ ts.length)] rfl rfl (Z.alloc _) ⟨wr.heap.size,0,none⟩ 1 1 (by decide) rfl (bU _ _ _ _ rfl) ?c1 ?c2 ?c3 ?c4 ?_)|go_in)
   case c1=>intro u d;rw[A1.1 d];rfl
   case c2=>unfold IU;omega
   case c3=>omega
   case c4=>have:=aa.size;simp;omega
   intro v1 w4 ab aq ar au;obtain⟨D,E,rfl,_⟩:=aQ ab;have av:=ar _ _ _ (Z.alloc _);have ad:Kb ((E2 b xs.length c).ownBlock.toList) w w4:=(aa.alloc _).grown aq (fun k m=>.inl (by rw[m];simp));have aw:(E2 D (xs.length+1) E).ownBlock=(E2 b xs.length c).ownBlock∨∃g,(E2 D (xs.length+1) E).ownBlock=some g∧w.heap.size≤g:=by
    rcases au with h|⟨g,h,ax⟩
    ·exact .inl h
    ·exact .inr ⟨g,h,by have:=aa.size;omega⟩
   have ae:=aA av;have ay:=aA ab;have bo:=aA aw;clear ab aq ar au aw Z;go_wp2_with (first|(at_builtin;refine bS _ rfl _ _ 44 rfl B 9 i0 (.string ⟨#[]⟩) 1 16 I7 a4 a5 a6 a7 rfl (by decide) (.slice b xs.length c) xs.length [.string (bJ ts.length)] rfl rfl (ae.out.alloc _) ⟨w4.heap.size,0,none⟩ 2 2 (by decide) rfl (bU _ _ _ _ rfl) ?c1 ?c2 ?c3 ?c4 ?_)|go_in)
   case c1=>intro u d;rw[A1.1 d];rfl
   case c2=>unfold IU;omega
   case c3=>omega
   case c4=>have:=ad.size;simp;omega
   intro v2 w5 af az ag b0;obtain⟨G,H,rfl,_⟩:=aQ af;have b1:=ag _ _ _ (ae.out.alloc _);have b2:=ag _ _ _ (ay.out.alloc _);have ah:Kb ((E2 b xs.length c).ownBlock.toList) w w5:=(ad.alloc _).grown az (fun k m=>.inl (by rw[m];simp));have b3:(E2 G (xs.length+2) H).ownBlock=(E2 b xs.length c).ownBlock∨∃g,(E2 G (xs.length+2) H).ownBlock=some g∧w.heap.size≤g:=by
    rcases b0 with h|⟨g,h,ax⟩
    ·exact .inl h
    ·exact .inr ⟨g,h,by have:=ad.size;omega⟩
   have ai:=aA b1;have b4:=aA b2;have b5:=aA af;have bp:=aA b3;clear af az ag b0 b3 av b1 b2 ay ae;go_wp2_with (first|(at_builtin;refine bS _ rfl _ _ 44 rfl B 9 i0 (.string ⟨#[]⟩) 1 16 I7 a4 a5 a6 a7 rfl (by decide) (.slice b xs.length c) xs.length [.string (bJ ts.length)] rfl rfl (ai.out.alloc _) ⟨w5.heap.size,0,none⟩ 3 3 (by decide) rfl (bU _ _ _ _ rfl) ?c1 ?c2 ?c3 ?c4 ?_)|go_in)
   case c1=>intro u d;rw[A1.1 d];rfl
   case c2=>unfold IU;omega
   case c3=>omega
   case c4=>have:=ah.size;simp;omega
   intro v3 o aj b6 q b7;obtain⟨I,J,rfl,_⟩:=aQ aj;have b8:=q _ _ _ (ai.out.alloc _);have b9:=q _ _ _ (b4.out.alloc _);have ba:=q _ _ _ (b5.out.alloc _);have K:Kb ((E2 b xs.length c).ownBlock.toList) w o:=(ah.alloc _).grown b6 (fun k m=>.inl (by rw[m];simp));have bb:(E2 I (xs.length+3) J).ownBlock=(E2 b xs.length c).ownBlock∨∃g,(E2 I (xs.length+3) J).ownBlock=some g∧w.heap.size≤g:=by
    rcases b7 with h|⟨g,h,ax⟩
    ·exact .inl h
    ·exact .inr ⟨g,h,by have:=ah.size;omega⟩
   have bq:=aA b8;have br:=aA b9;have bs:=aA ba;have bt:=aA aj;have bu:=aA bb;have a1:∀ {e:I1} {JS n:Nat} {v:sA} {s:List sA},e≠9→w.ownsRow B e JS v n s→o.ownsRow B e JS v n s:=by
    intro e JS n v s ak j;refine eT j K (fun g hg t=>?_);rcases gL j HL.out ak with h|h
    ·rw[h]at t;cases t
    ·exact h (t.trans (I9.1 hg).symm)
   have hV:o.ownsRow B 44 1 (.slice N ts.length O) ts.length ts:=a1 (by decide) z.out.trow;have bv:Hid (o.ownsRow B 40 1 R rs.length rs):=a1 (by decide) z.out.rrow;have bw:Hid (∀(i:Nat) v,rs[i]?=some v→∃n,n≤2000000∧o.ownsRow B 51 2 v n (dJ n (uG i))):=by intro i v a;obtain⟨n,x,j⟩:=z.out.rlists i v a;exact⟨n,x,a1 (by decide) j⟩
   have hH:o.heap[kb]?=some (.cells #[L,R,.slice N ts.length O] 75 (0,0)):=K.heap z.out.head (fun hm=>cM HL.out z.out.head (by decide) (I9.1 hm).symm);have bx:Hid (∀(i:Nat) v,ts[i]?=some v→∃n,n≤2000000∧o.ownsRow B 9 1 v n (dJ n (uF i))):=by
    intro i v a;obtain⟨n,x,j⟩:=z.out.tlists i v a;refine⟨n,x,eT j K (fun g hg t=>?_)⟩;rcases bl.out v (IJ a)with h|h
    ·rw[h]at t;cases t
    ·exact h (t.trans (I9.1 hg).symm)
   have HV:=aA hV;have bc:=cM HV.out hH (by decide);have bz:=aA bc;obtain⟨P,c1,c2,Q,S,U⟩:=aZ hH;clear aj b6 q b7 bb b8 b9 ba ai b4 b5 hV bc a1;go_wp2_with (first|(at_builtin;refine Jg _ rfl _ _ 56 rfl B 44 j0 (.slice none 0 0) 1 24 Tryz.underlying56 be bf bg bh rfl (by decide) (.slice N ts.length O) ts.length ts rfl (HV.out.alloc _) ⟨o.heap.size,0,none⟩ 4 4 [.slice b xs.length c,.slice D (xs.length+1) E,.slice G (xs.length+2) H,.slice I (xs.length+3) J] rfl rfl (bU _ _ _ _ rfl) ?c1 ?c2 ?c3 ?c4 ?_)|go_in)
   case c1=>intro u d;simp at d;rcases d with rfl|rfl|rfl|rfl<;>rfl
   case c2=>unfold IU;omega
   case c3=>omega
   case c4=>have:=K.size;simp;omega
   intro V' w7 al am _;have a2:w7.heap[kb]?=some (.cells #[L,R,.slice N ts.length O] 75 (0,0)):=(am.block kb (by have:=aB hH;simp;omega) bz.out).trans (aF hH _);clear P c1 c2 Q S U;obtain⟨P,c1,c2,Q,S,U⟩:=aZ a2;obtain⟨aV,pV,rfl,_⟩:=aQ al;have bF:=aA al;have bd:=aA am;clear al am;go_wp2_with fail
   have cb:Kb [kb] w7 (w7.setCell ⟨kb,2,none⟩ (.slice aV (ts.length+4) pV)):=(Kb.refl _ _).setCell (.inl (by simp)) _;have y:∀ {e:I1} {JS n:Nat} {v:sA} {s:List sA},e≠44→e≠75→o.ownsRow B e JS v n s→(w7.setCell ⟨kb,2,none⟩ (.slice aV (ts.length+4) pV)).ownsRow B e JS v n s:=by intro e JS n v s ak c0 h;have h7:=(h.alloc (.cells #[.slice b xs.length c,.slice D (xs.length+1) E,.slice G (xs.length+2) H,.slice I (xs.length+3) J] 44)).kept bd.out (gL h HV.out ak);exact gP h7 c0 a2
   have a3:∀r,r<4→uF (ts.length+r)=[.string (bJ ts.length)]:=by intro r hr;rw[← bk];unfold uF;rw[show(ts.length+r) / 4*4=ts.length / 4*4 by omega]
   refine Oi (v:=.tuple #[]) (by simp[results,Tryz.results78,go_sem]) rfl ?_
   refine⟨rfl,.slice aV (ts.length+4) pV,.slice D (xs.length+1) E,.slice G (xs.length+2) H,.slice I (xs.length+3) J,⟨bj,?_,?_,?_,y (by decide) (by decide) bv.out,?_⟩,?_,?_⟩
   ·rw[aI a2];rfl
   ·rw[A4];exact gP bF.out (by decide) a2
   ·intro i v a;by_cases c5:i<ts.length
    ·rw[IL c5]at a;obtain⟨n,x,j⟩:=bx.out i v a;exact⟨n,x,y (by decide) (by decide) j⟩
    ·rw[IZ (by omega)]at a;obtain⟨r,rfl⟩:∃r,i=ts.length+r:=⟨i-ts.length,by omega⟩;rw[KT]at a;match r,a with
     |0,a=>injection a with a;subst a;exact⟨xs.length,by omega,by rw[a3 0 (by decide)];exact y (by decide) (by decide) bq.out⟩
     |1,a=>injection a with a;subst a;exact⟨(xs.length+1),by omega,by rw[a3 1 (by decide)];exact y (by decide) (by decide) br.out⟩
     |2,a=>injection a with a;subst a;exact⟨(xs.length+2),by omega,by rw[a3 2 (by decide)];exact y (by decide) (by decide) bs.out⟩
     |3,a=>injection a with a;subst a;exact⟨(xs.length+3),by omega,by rw[a3 3 (by decide)];exact y (by decide) (by decide) bt.out⟩
     |r+4,a=>simp at a
   ·intro i v a;obtain⟨n,x,j⟩:=bw.out i v a;exact⟨n,x,y (by decide) (by decide) j⟩
   ·intro u d;simp at d;rcases d with rfl|rfl|rfl
    ·exact bo.out
    ·exact bp.out
    ·exact bu.out
   ·refine Kb.setCell ?_ (.inl (by simp[may])) _;refine Kb.grown ((K.mono (fun k _ m=>?_)).alloc _) bd.out (fun k m=>.inl ?_)
    ·simp only[may,sT,IK];exact .inr (.inr m)
    ·simp only[may,sT,IK];exact .inr (.inl (I9.2 m))
structure KRA(B kb lo hi:Nat)(Fv:Value)(ts rs:List Value)(R v:Value)(ps:List (RowD × Value))(w wr:World)(i:Nat)(ts':List Value)(T':Value):Prop where
 le:i≤ps.length
 len:ts'.length=ts.length+4*i
 book:BookG B kb Fv ts' T' rs R wr
 row:wr.ownsRow lo 51 2 v ps.length (cZ ps)
 tos:∀(j:Nat) r tv,i≤j→ps[j]?=some (r,tv)→wr.ownsRow lo 9 1 tv r.to.length (r.to.map Value.string)
 apart:∀(j:Nat) r tv u,i≤j→ps[j]?=some (r,tv)→u∈ts'→u.ownBlock=none∨u.ownBlock≠tv.ownBlock
 new:∀u∈ts',u∈ts∨∀g,u.ownBlock=some g→(lo≤g∧g<hi)∨w.heap.size≤g
 blw:Below B w wr
 ft:FT lo hi w wr
theorem KRA.next{B kb f p:Nat}{x:sA}{ts rs:List sA}{R v:sA}{ps:List (RowD × sA)}{w wr q:vF}{i:Nat}{y:List sA}{L M z A C:sA}{r:RowD}{tv:sA}(h:KRA B kb f p x ts rs R v ps w wr i y L)(Y:B≤f)(m:ps[i]?=some (r,tv))
  (D:OwnR w f p v ps) (U:BookG B kb x (y++[tv,z,A,C]) M rs R q) (N:∀u∈[z,A,C],u.ownBlock=tv.ownBlock∨∃g,u.ownBlock=some g∧wr.heap.size≤g) (E:Kb (may kb L tv) wr q):KRA B kb f p x ts rs R v ps w q (i+1) (y++[tv,z,A,C]) M:=by
 have O:=h.tos i r tv (gO _) m;have s:∀g,tv.ownBlock=some g→f≤g∧g<p:=fun g a=>⟨(O.lt g a).1,D.ttop i r tv m g a⟩
 have P:∀ {e:I1} {JS n:Nat} {u:sA} {G:List sA},wr.ownsRow f e JS u n G→e≠44→e≠75→(u.ownBlock=none∨u.ownBlock≠tv.ownBlock)→q.ownsRow f e JS u n G:=by
  intro e JS n u G H I Q J;refine eT H E (fun g a l=>?_);simp only[may,sT,IK,I9]at a;rcases a with rfl|a|a
  ·exact cM H h.book.head Q l.symm
  ·rcases gL H h.book.trow I with b|b
   ·rw[b]at l;cases l
   ·exact b (l.trans a.symm)
  ·rcases J with b|b
   ·rw[b]at l;cases l
   ·exact b (l.trans a.symm)
 refine⟨by have:=bV m;omega,by rw[A4,h.len];show _+4=_;omega,U,?_,?_,?_,?_,?_,?_⟩
 ·exact P h.row (by decide) (by decide) (gL h.row O (by decide))
 ·intro j t o V a;refine P (h.tos j t o (by omega) a) (by decide) (by decide) ?_
  rcases D.sep i j _ _ (by omega) m a with b|b
  ·cases Z:o.ownBlock with
   |none=>exact .inl rfl
   |some g=>exact .inr (by rw[b];simp)
  ·exact .inr (fun e=>b e.symm)
 ·intro j t o u V a c;rcases IK.1 c with c|c
  ·exact h.apart j t o u (by omega) a c
  ·have S:=D.sep i j _ _ (by omega) m a;rcases sT.1 c with rfl|c
   ·exact S
   ·rcases N u c with b|⟨g,b,X⟩
    ·rw[b];exact S
    ·refine .inr (fun e=>?_);rw[b]at e;have:=((h.tos j t o (by omega) a).lt g e.symm).2;omega
 ·intro u c;rcases IK.1 c with c|c
  ·exact h.new u c
  ·refine .inr ?_
   rcases sT.1 c with rfl|c
   ·exact fun g a=>.inl (s g a)
   ·intro g a;rcases N u c with b|⟨g',b,X⟩
    ·rw[b]at a;exact .inl (s g a)
    ·rw[b]at a;injection a with a;exact .inr (by have:=h.blw.size;omega)
 ·refine h.blw.trans (E.below (by have:=aB h.book.head;have:=h.book.le;omega) (fun k d=>?_));simp only[may,sT,IK,I9]at d;rcases d with rfl|d|d
  ·exact h.book.le
  ·exact(h.book.trow.lt k d).1
  ·have:=(s k d).1;omega
 ·refine h.ft.trans (fun k a0 e fz K I Q J h4=>E.heap K (fun d=>?_));simp only[may,sT,IK,I9]at d;rcases d with rfl|d|d
  ·have:=h.book.head;rw[K]at this;injection this with this;injection this with _ this;exact J this
  ·exact cM h.book.trow K (fun e=>I e.symm) d.symm
  ·have:=s k d;omega
theorem vX(B kb p o:Nat)(H:sA)(ts:List sA)(T:sA)(rs:List sA)(R v:sA)(ps:List (RowD × sA))(w:vF)(X:B≤p)(cS:p≤w.heap.size)(cW:ts.length % 4=0)(d3:rs.length % 4=0)(d4:ts.length≤500000000000)(d5:rs.length≤1000000000)(d6:ps.length≤1500000)(bb:∀x∈ps,x.1.to.length≤1500000)
  (hB:BookG B kb H ts T rs R w) (P:OwnR w p o v ps) (am:∀u∈ts++rs,∀g,u.ownBlock=some g→g<p∨o≤g) :
  I5 hE 45 #[.pointer (some ⟨kb,0,none⟩),v] w fun e w'=>e=.returned (.tuple #[])∧∃s C R' I J K,BookG B kb H s C (rs++[v,I,J,K]) R' w'∧s.length=ts.length+4*ps.length∧(∀u∈s,u∈ts∨∀g,u.ownBlock=some g→(p≤g∧g<o)∨w.heap.size≤g)∧(∀u∈[v,I,J,K],∀g,u.ownBlock=some g→(p≤g∧g<o)∨w.heap.size≤g)∧Below B w w'∧FT p o w w':=by
 obtain⟨i0,an,ao,ap,aq⟩:=Me sZ;obtain⟨j0,c9,ca,cb,cc⟩:=Me E0;obtain⟨D,E,rfl,_⟩:=aQ hB.rrow;obtain⟨j,l,rfl,bc⟩:=aQ P.row;have d7:=aB hB.head;have bd:=hB.le;have a6:KRA B kb p o H ts rs (.slice D rs.length E) (.slice j ps.length l) ps w w 0 ts T:=⟨IM _,rfl,hB,P.row,fun ab r t _ h=>P.tos ab r t h,fun ab r t u _ h d=>by
   cases hq:u.ownBlock with
   |none=>exact .inl rfl
   |some g=>refine .inr (fun e=>?_);have h1:=am u (List.mem_append_left _ d) g hq;have h2:=((P.tos ab r t h).lt g e.symm).1;have h3:=P.ttop ab r t h g e.symm;omega,fun u d=>.inl d,Below.refl _ _,FT.refl _ _ _⟩
 have HO:=aA P;have cd:=aA am;have ce:=aA bb;clear hB P am bb;go_enter Tryz.func45,Tryz.ntmps45
 go_wp2;go_loopw [4] (fun Q wr=>∃(i:Nat) (s:List sA) (C:sA),Q=.int .i64 i∧KRA B kb p o H ts rs (.slice D rs.length E) (.slice j ps.length l) ps w wr i s C) (fun Q _=>ps.length-(intOf Q).toNat)
 case atStart=>exact⟨0,ts,T,rfl,a6⟩
 case round=>
  clear a6;obtain⟨i,s,C,rfl,m⟩:=hrel;by_cases Y:i<ps.length
  ·obtain⟨g,rfl⟩:=bc (by omega);obtain⟨⟨r,t⟩,b⟩:∃x,ps[i]?=some x:=⟨_,hZ Y⟩;obtain⟨Z,hz⟩:=eZ m.row;have a0:=Z _ _ (pC ps i r t b).2;have cf:=m.len;have be:=vD B kb H s C rs (.slice D rs.length E) t r.to wr (by omega) (by omega) (ce.out (r,t) (IJ b)) m.book (eY (m.tos i r t (gO _) b) X) (fun u d=>m.apart i r t u (gO _) b d);have HN:Hid (∀c T2 I J K,BookG B kb H (s++[t,I,J,K]) T2 rs (.slice D rs.length E) c→(∀u∈[I,J,K],u.ownBlock=t.ownBlock∨∃g,u.ownBlock=some g∧wr.heap.size≤g)→Kb (may kb C t) wr c→KRA B kb p o H ts rs (.slice D rs.length E) (.slice (some ⟨g,0,none⟩) ps.length l) ps w c (i+1) (s++[t,I,J,K]) T2):=
    fun c T2 I J K h1 h2 h3=>m.next X b HO.out h1 h2 h3
   clear Z hz b m cf;go_wp2_with fail
   refine be.mono ?_
   rintro e c ⟨rfl,T2,I,J,K,A,a7,a4⟩;have cg:=HN.out c T2 I J K A a7 a4;clear be A a7 a4;go_wp2;go_roundw
   case rel=>exact⟨i+1,_,_,by go_num,cg⟩
   case measure=>simp[intOf];omega
  ·have ar:i=ps.length:=by have:=m.le;omega
   subst ar;have a8:=aA m;obtain⟨c0,c1,c2,d0,d1,d2⟩:=aZ m.book.head;have ad:=lR rs.length wr (by omega);clear m;go_wp2_with fail
   refine ad.mono ?_
   rintro e c ⟨rfl,A⟩;have y:=a8.out;have au:BookG B kb H s C rs (.slice D rs.length E) c:=⟨y.book.le,Below.fj A y.book.head (aB y.book.head),aM y.book.trow A,fun i v a=>(by obtain⟨n,G,z⟩:=y.book.tlists i v a;exact⟨n,G,aM z A⟩),aM y.book.rrow A,fun i v a=>(by obtain⟨n,G,z⟩:=y.book.rlists i v a;exact⟨n,G,aM z A⟩)⟩;have ae:=aM y.row A;have av:Below B w c:=y.blw.trans (A.mono (by have:=y.blw.size;omega));have bf:FT p o w c:=y.ft.trans (FT.below A);have ch:=aA y.new;have ci:=aA y.len;clear y a8 ad c0 c1 c2 d0 d1 d2;have cj:Hid (∀u∈rs,u.ownBlock=none∨u.ownBlock≠(E2 j ps.length l).ownBlock):=by
    intro u d;cases hq:u.ownBlock with
    |none=>exact .inl rfl
    |some g=>refine .inr (fun e=>?_);have h1:=cd.out u (List.mem_append_right _ d) g hq;have h2:=(HO.out.row.lt g e.symm).1;have h3:=HO.out.top g e.symm;omega
   have d8:w.heap.size≤c.heap.size:=av.size;have ad:uG rs.length=[.string (bJ rs.length),.slice none 0 0]:=by unfold uG;rw[show rs.length / 4*4=rs.length by omega]
   have gx:=aD c (.cells #[.string (bJ rs.length),.slice none 0 0] 51);have L:Kb ((E2 j ps.length l).ownBlock.toList) c (c.alloc (.cells #[.string (bJ rs.length),.slice none 0 0] 51)):=(Kb.refl _ _).alloc _;have aw:=ae.alloc (.cells #[.string (bJ rs.length),.slice none 0 0] 51);have bg:some c.heap.size≠(E2 j ps.length l).ownBlock:=fun h=>Nat.lt_irrefl _ (ae.lt _ h.symm).2
   have af:=aA bg;have M:=aA au;have HL:=aA ae;have ck:=aA av;have cl:=aA bf;have d9:kb<c.heap.size:=aB au.head;clear A au ae av bf bg;go_wp2_with fail
   have cm:c.heap.size≤c.heap.size:=gO _;generalize cn:c.heap.size=O at gx af cm ⊢;generalize c.alloc (.cells #[.string (bJ rs.length),.slice none 0 0] 51)=w3 at gx L aw ⊢;have da:=aB gx;have co:Hid (∀g,j=some ⟨g,0,none⟩→O≠g):=fun g b e=>af.out (by rw[b,e];rfl)
   have db:=L.size;clear cn;go_loopw [6] (fun Q wr=>∃i:Nat,Q=.int .i64 i∧KInvR p w3 wr (.slice j ps.length l) ps (⟨bJ rs.length,[]⟩,.slice none 0 0) i∧wr.heap[O]?=some (.cells #[.string (bJ rs.length),.slice none 0 0] 51 (0,0))) (fun Q _=>ps.length-(intOf Q).toNat)
   case atStart=>exact⟨0,rfl,⟨IM _,by simpa using aw,Kb.refl _ _⟩,gx⟩
   case round=>
    obtain⟨i,rfl,o,gy⟩:=hrel;obtain⟨x0,x1,_,_⟩:=aH gy;by_cases Y:i<ps.length
    ·obtain⟨g,rfl⟩:=bc (by omega);have bh:=co.out g rfl;have cp:=o.kb;obtain⟨f,hf⟩:∃f,ps[i]?=some f:=⟨_,hZ Y⟩;have bi:ps.drop i=f::ps.drop (i+1):=by
      rw[KG Y];rw[hZ Y]at hf;injection hf with hf;rw[hf]
     have ag:=o.own;rw[bi]at ag;have hA:(A3 i ((⟨bJ rs.length,[]⟩,.slice none 0 0):RowD × sA)).length=i:=Jy;obtain⟨Z,hz⟩:=eZ ag;have e3:=pC (A3 i ((⟨bJ rs.length,[]⟩,.slice none 0 0):RowD × sA)++f::ps.drop (i+1)) i f.1 f.2 (by rw[IZ (by rw[hA];omega),hA,MB];rfl);have a0:=Z _ _ e3.1;have a1:=Z _ _ e3.2;have z0:=hz (i*2);have z1:=hz (i*2+1);have ax:=mR (mR ag (i*2) (.string (bJ rs.length))) (i*2+1) (.slice none 0 0);have e4:=Ig (A3 i ((⟨bJ rs.length,[]⟩,.slice none 0 0):RowD × sA)) (ps.drop (i+1)) f (bJ rs.length) (.slice none 0 0) [];rw[hA]at e4;rw[e4]at ax;have cq:=aA ax;clear ax e4 Z hz e3 ag bi hf;go_wp2;go_roundw
     case rel=>
      refine⟨i+1,by go_num,⟨Y,?_,(cp.setCell (p:=⟨g,_,none⟩) (.inl (by simp[Jh])) _).setCell (p:=⟨g,_,none⟩) (.inl (by simp[Jh])) _⟩,?_⟩
      ·rw[K5,JI];exact cq.out
      ·rw[Below.heap_setCell _ _ _ _ (by show O≠g;exact bh),Below.heap_setCell _ _ _ _ (by show O≠g;exact bh)];exact gy
     case measure=>simp[intOf];omega
    ·have ar:i=ps.length:=by have:=o.le;omega
     subst ar;have ah:=o.own;rw[LK,JK,Bv]at ah;have bj:Kb ((E2 j ps.length l).ownBlock.toList) c wr:=L.trans (o.kb.mono (fun _ _ h=>h));have ay:=gy;have dc:=bj.size;clear o L aw gx gy;go_wp2_with (first|(at_builtin;refine bS _ rfl _ _ 40 rfl p 51 i0 (.agg #[.string ⟨#[]⟩,.slice none 0 0]) 2 40 KZ an ao ap aq rfl (by decide) (.slice j ps.length l) ps.length [.string (bJ rs.length),.slice none 0 0] rfl rfl (ah.alloc _) ⟨wr.heap.size,0,none⟩ 1 1 (by decide) rfl (bU _ _ _ _ rfl) ?c1 ?c2 ?c3 ?c4 ?_)|go_in)
     case c1=>intro u d;simp at d;rcases d with rfl|rfl<;>rfl
     case c2=>unfold IU;omega
     case c3=>omega
     case c4=>simp;omega
     intro v1 w4 az b0 a8 bk;obtain⟨a1,p1,rfl,_⟩:=aQ az;have bl:=a8 _ _ _ (ah.alloc _);have a6:Kb ((E2 j ps.length l).ownBlock.toList) c w4:=(bj.alloc _).grown b0 (fun k m=>.inl (by rw[m];simp));have ai:w4.heap[O]?=some (.cells #[.string (bJ rs.length),.slice none 0 0] 51 (0,0)):=(b0.block O (by have:=aB ay;simp;omega) af.out).trans (aF ay _);have bm:(E2 a1 (ps.length+1) p1).ownBlock=(E2 j ps.length l).ownBlock∨∃g,(E2 a1 (ps.length+1) p1).ownBlock=some g∧c.heap.size≤g:=by
      rcases bk with h|⟨g,h,a9⟩
      ·exact .inl h
      ·exact .inr ⟨g,h,by omega⟩
     obtain⟨y0,y1,_,_⟩:=aH ai;have b1:=aA bl;have bn:=aA az;have cs:=aA bm;have dd:=a6.size;clear az b0 a8 bk bm x0 x1 ah;go_wp2_with (first|(at_builtin;refine bS _ rfl _ _ 40 rfl p 51 i0 (.agg #[.string ⟨#[]⟩,.slice none 0 0]) 2 40 KZ an ao ap aq rfl (by decide) (.slice j ps.length l) ps.length [.string (bJ rs.length),.slice none 0 0] rfl rfl (b1.out.alloc _) ⟨w4.heap.size,0,none⟩ 2 2 (by decide) rfl (bU _ _ _ _ rfl) ?c1 ?c2 ?c3 ?c4 ?_)|go_in)
     case c1=>intro u d;simp at d;rcases d with rfl|rfl<;>rfl
     case c2=>unfold IU;omega
     case c3=>omega
     case c4=>simp;omega
     intro v2 w5 b2 b3 a4 a7;obtain⟨a2,p2,rfl,_⟩:=aQ b2;have bo:=a4 _ _ _ (b1.out.alloc _);have bp:=a4 _ _ _ (bn.out.alloc _);have bq:Kb ((E2 j ps.length l).ownBlock.toList) c w5:=(a6.alloc _).grown b3 (fun k m=>.inl (by rw[m];simp));have br:w5.heap[O]?=some (.cells #[.string (bJ rs.length),.slice none 0 0] 51 (0,0)):=(b3.block O (by have:=aB ai;simp;omega) af.out).trans (aF ai _);have bs:(E2 a2 (ps.length+2) p2).ownBlock=(E2 j ps.length l).ownBlock∨∃g,(E2 a2 (ps.length+2) p2).ownBlock=some g∧c.heap.size≤g:=by
      rcases a7 with h|⟨g,h,a9⟩
      ·exact .inl h
      ·exact .inr ⟨g,h,by omega⟩
     obtain⟨x0,x1,_,_⟩:=aH br;have b4:=aA bo;have bt:=aA bp;have bu:=aA b2;have ct:=aA bs;have de:=bq.size;clear b2 b3 a4 a7 bs y0 y1 bl bo bp bn b1;go_wp2_with (first|(at_builtin;refine bS _ rfl _ _ 40 rfl p 51 i0 (.agg #[.string ⟨#[]⟩,.slice none 0 0]) 2 40 KZ an ao ap aq rfl (by decide) (.slice j ps.length l) ps.length [.string (bJ rs.length),.slice none 0 0] rfl rfl (b4.out.alloc _) ⟨w5.heap.size,0,none⟩ 3 3 (by decide) rfl (bU _ _ _ _ rfl) ?c1 ?c2 ?c3 ?c4 ?_)|go_in)
     case c1=>intro u d;simp at d;rcases d with rfl|rfl<;>rfl
     case c2=>unfold IU;omega
     case c3=>omega
     case c4=>simp;omega
     intro v3 N b5 bv L bw;obtain⟨a3,p3,rfl,_⟩:=aQ b5;have bx:=L _ _ _ (b4.out.alloc _);have bz:=L _ _ _ (bt.out.alloc _);have bF:=L _ _ _ (bu.out.alloc _);have aa:Kb ((E2 j ps.length l).ownBlock.toList) c N:=(bq.alloc _).grown bv (fun k m=>.inl (by rw[m];simp));have c5:(E2 a3 (ps.length+3) p3).ownBlock=(E2 j ps.length l).ownBlock∨∃g,(E2 a3 (ps.length+3) p3).ownBlock=some g∧c.heap.size≤g:=by
      rcases bw with h|⟨g,h,a9⟩
      ·exact .inl h
      ·exact .inr ⟨g,h,by omega⟩
     have cu:=aA bx;have cv:=aA bz;have cw:=aA bF;have cx:=aA b5;have cy:=aA c5;have df:=aa.size;have aj:∀ {e:I1} {JS n:Nat} {v:sA} {S:List sA},e≠51→c.ownsRow B e JS v n S→N.ownsRow B e JS v n S:=by
      intro e JS n v S b6 z;refine eT z aa (fun g b U=>?_);rcases gL z HL.out b6 with h|h
      ·rw[h]at U;cases U
      ·exact h (U.trans (I9.1 b).symm)
     have hV:N.ownsRow B 40 1 (.slice D rs.length E) rs.length rs:=aj (by decide) M.out.rrow;have cz:Hid (N.ownsRow B 44 1 C s.length s):=aj (by decide) M.out.trow;have cA:Hid (∀(i:Nat) v,s[i]?=some v→∃n,n≤2000000∧N.ownsRow B 9 1 v n (dJ n (uF i))):=by intro i v a;obtain⟨n,G,z⟩:=M.out.tlists i v a;exact⟨n,G,aj (by decide) z⟩
     have hH:N.heap[kb]?=some (.cells #[H,.slice D rs.length E,C] 75 (0,0)):=aa.heap M.out.head (fun q=>cM HL.out M.out.head (by decide) (I9.1 q).symm);have cB:Hid (∀(i:Nat) v,rs[i]?=some v→∃n,n≤2000000∧N.ownsRow B 51 2 v n (dJ n (uG i))):=by
      intro i v a;obtain⟨n,G,z⟩:=M.out.rlists i v a;refine⟨n,G,eT z aa (fun g b U=>?_)⟩;rcases cj.out v (IJ a)with h|h
      ·rw[h]at U;cases U
      ·exact h (U.trans (I9.1 b).symm)
     have HV:=aA hV;have c6:=cM HV.out hH (by decide);have cC:=aA c6;obtain⟨c0,c1,c2,d0,d1,d2⟩:=aZ hH;clear b5 bv L bw c5 bx bz bF b4 bt bu hV c6 aj x0 x1 ay ai br;go_wp2_with (first|(at_builtin;refine Jg _ rfl _ _ 73 rfl B 40 j0 (.slice none 0 0) 1 24 Tryz.underlying73 c9 ca cb cc rfl (by decide) (.slice D rs.length E) rs.length rs rfl (HV.out.alloc _) ⟨N.heap.size,0,none⟩ 4 4 [.slice j ps.length l,.slice a1 (ps.length+1) p1,.slice a2 (ps.length+2) p2,.slice a3 (ps.length+3) p3] rfl rfl (bU _ _ _ _ rfl) ?c1 ?c2 ?c3 ?c4 ?_)|go_in)
     case c1=>intro u d;simp at d;rcases d with rfl|rfl|rfl|rfl<;>rfl
     case c2=>unfold IU;omega
     case c3=>omega
     case c4=>simp;omega
     intro V' w7 b7 b8 _;have ak:w7.heap[kb]?=some (.cells #[H,.slice D rs.length E,C] 75 (0,0)):=(b8.block kb (by have:=aB hH;simp;omega) cC.out).trans (aF hH _);clear c0 c1 c2 d0 d1 d2;obtain⟨c0,c1,c2,d0,d1,d2⟩:=aZ ak;obtain⟨aV,pV,rfl,_⟩:=aQ b7;have cF:=aA b7;have c7:=aA b8;clear b7 b8;go_wp2_with fail
     have V:∀ {b9:Nat} {e:I1} {JS n:Nat} {v:sA} {S:List sA},e≠40→e≠75→N.ownsRow b9 e JS v n S→(w7.setCell ⟨kb,1,none⟩ (.slice aV (rs.length+4) pV)).ownsRow b9 e JS v n S:=by intro b9 e JS n v S b6 cL h;have h7:=(h.alloc (.cells #[.slice j ps.length l,.slice a1 (ps.length+1) p1,.slice a2 (ps.length+2) p2,.slice a3 (ps.length+3) p3] 40)).kept c7.out (gL h HV.out b6);exact gP h7 cL ak
     have al:∀r,r<4→uG (rs.length+r)=[.string (bJ rs.length),.slice none 0 0]:=by intro r hr;rw[← ad];unfold uG;rw[show(rs.length+r) / 4*4=rs.length / 4*4 by omega]
     have c8:Kb (may kb (.slice D rs.length E) (.slice j ps.length l)) c (w7.setCell ⟨kb,1,none⟩ (.slice aV (rs.length+4) pV)):=by
      refine Kb.setCell ?_ (.inl (by simp[may])) _;refine Kb.grown ((aa.mono (fun k _ m=>?_)).alloc _) c7.out (fun k m=>.inl ?_)
      ·simp only[may,sT,IK];exact .inr (.inr m)
      ·simp only[may,sT,IK];exact .inr (.inl (I9.2 m))
     have a5:∀g,(E2 j ps.length l).ownBlock=some g→p≤g∧g<o:=fun g b=>⟨(HL.out.lt g b).1,HO.out.top g b⟩
     refine Oi (v:=.tuple #[]) (by simp[results,Tryz.results45,go_sem]) rfl ?_
     refine⟨rfl,s,C,.slice aV (rs.length+4) pV,.slice a1 (ps.length+1) p1,.slice a2 (ps.length+2) p2,.slice a3 (ps.length+3) p3,⟨bd,?_,V (by decide) (by decide) cz.out,?_,?_,?_⟩,ci.out,ch.out,?_,?_,?_⟩
     ·rw[aI ak];rfl
     ·intro i v a;obtain⟨n,G,z⟩:=cA.out i v a;exact⟨n,G,V (by decide) (by decide) z⟩
     ·rw[A4];exact gP cF.out (by decide) ak
     ·intro i v a;by_cases cO:i<rs.length
      ·rw[IL cO]at a;obtain⟨n,G,z⟩:=cB.out i v a;exact⟨n,G,V (by decide) (by decide) z⟩
      ·rw[IZ (by omega)]at a;obtain⟨r,rfl⟩:∃r,i=rs.length+r:=⟨i-rs.length,by omega⟩;rw[KT]at a;match r,a with
       |0,a=>injection a with a;subst a;exact⟨ps.length,by omega,by rw[al 0 (by decide)];exact eY (V (by decide) (by decide) cu.out) X⟩
       |1,a=>injection a with a;subst a;exact⟨(ps.length+1),by omega,by rw[al 1 (by decide)];exact eY (V (by decide) (by decide) cv.out) X⟩
       |2,a=>injection a with a;subst a;exact⟨(ps.length+2),by omega,by rw[al 2 (by decide)];exact eY (V (by decide) (by decide) cw.out) X⟩
       |3,a=>injection a with a;subst a;exact⟨(ps.length+3),by omega,by rw[al 3 (by decide)];exact eY (V (by decide) (by decide) cx.out) X⟩
       |r+4,a=>simp at a
     ·intro u d g b;simp at d;rcases d with rfl|rfl|rfl|rfl
      ·exact .inl (a5 g b)
      ·rcases cs.out with h|⟨g',h,a9⟩
       ·rw[h]at b;exact .inl (a5 g b)
       ·rw[h]at b;injection b with b;exact .inr (by omega)
      ·rcases ct.out with h|⟨g',h,a9⟩
       ·rw[h]at b;exact .inl (a5 g b)
       ·rw[h]at b;injection b with b;exact .inr (by omega)
      ·rcases cy.out with h|⟨g',h,a9⟩
       ·rw[h]at b;exact .inl (a5 g b)
       ·rw[h]at b;injection b with b;exact .inr (by omega)
     ·refine ck.out.trans (c8.below (by omega) (fun k q=>?_));simp only[may,sT,IK,I9]at q;rcases q with rfl|q|q
      ·exact bd
      ·exact(M.out.rrow.lt k q).1
      ·have:=(a5 k q).1;omega
     ·refine cl.out.trans (fun k dg e fz ba h1 h2 h3 h4=>c8.heap ba (fun q=>?_));simp only[may,sT,IK,I9]at q;rcases q with rfl|q|q
      ·have:=M.out.head;rw[ba]at this;injection this with this;injection this with _ this;exact h3 this
      ·exact cM M.out.rrow ba (fun e=>h2 e.symm) q.symm
      ·have:=a5 k q;omega
theorem BookG.below{B kb:Nat}{e:sA}{ts:List sA}{T:sA}{rs:List sA}{R:sA}{w w':vF}(h:BookG B kb e ts T rs R w)(a:Below w.heap.size w w'):BookG B kb e ts T rs R w':=
 ⟨h.le,Below.fj a h.head (aB h.head),aM h.trow a,(fun i v b=>by
  obtain⟨n,c,d⟩:=h.tlists i v b;exact⟨n,c,aM d a⟩),aM h.rrow a,(fun i v b=>by
  obtain⟨n,c,d⟩:=h.rlists i v b;exact⟨n,c,aM d a⟩)⟩
structure BookA(B kb:Nat)(fs:List Value)(F:Value)(ts:List Value)(T:Value)(rs:List Value)(R:Value)(w:World):Prop where
 f:BookF B kb R T fs F w
 g:BookG B kb F ts T rs R w
theorem BookA.below{B kb:Nat}{fs:List sA}{F:sA}{ts:List sA}{T:sA}{rs:List sA}{R:sA}{w w':vF}(h:BookA B kb fs F ts T rs R w)(a:Below w.heap.size w w'):BookA B kb fs F ts T rs R w':=⟨h.f.below a,h.g.below a⟩
theorem Cq(B kb:Nat)(fs:List sA)(F:sA)(ts:List sA)(T:sA)(rs:List sA)(R:sA)(w:vF)(aa:fs.length≤1000000000000)(J:ts.length≤1000000000000)(ab:rs.length≤1000000000000)(h:BookA B kb fs F ts T rs R w) :
  I5 hE 29 #[.pointer (some ⟨kb,0,none⟩)] w fun e w'=>e=.returned (.bool true)∧Below w.heap.size w w':=by
 obtain⟨Fa,Fc,rfl,_⟩:=aQ h.f.row;obtain⟨Ta,Tc,rfl,_⟩:=aQ h.g.trow;obtain⟨Ra,Rc,rfl,_⟩:=aQ h.g.rrow;have ad:=aB h.f.head;obtain⟨m,o,q,_,_,_⟩:=aZ h.f.head;have S:=aA h;clear h;go_enter Tryz.func29,Tryz.ntmps29
 go_wp2;clear m o q;go_loopw [3] (fun r wr=>∃i:Nat,r=.int .i64 i∧i≤fs.length∧Below w.heap.size w wr) (fun r _=>fs.length-(intOf r).toNat)
 case atStart=>exact⟨0,rfl,IM _,Below.refl _ _⟩
 case round=>
  obtain⟨i,rfl,hi,a⟩:=hrel;have b:=S.out.f.below a;obtain⟨m,o,q,_,_,_⟩:=aZ b.head;by_cases J:i<fs.length
  ·obtain⟨v,s⟩:∃v,fs[i]?=some v:=⟨_,hZ J⟩;obtain⟨n,X,t⟩:=b.lists i v s;obtain⟨g,Y,K,u,C⟩:=fL b.row (by omega);injection K with L _ _;subst L;have D:=C i v s;have E:=aA t;obtain⟨Z,a3,rfl,_⟩:=aQ t;have G:=aA D;have x:=lR (i / 4*4) wr (by omega);rw[show(((i / 4*4:Nat)):Int)=(i:Int) / 4*4 by omega]at x;have f:=aA b.head;clear C s t b D;go_wp2_with fail
   refine x.mono ?_
   rintro e k ⟨rfl,c⟩;have hK:=Below.fj c f.out (aB f.out);clear x;go_wp2_with fail
   have U:=aD k (.cells #[.int .i64 0,.string (bJ (i / 4*4)),.string ⟨#[]⟩] 48);have I:Below wr.heap.size wr (k.alloc (.cells #[.int .i64 0,.string (bJ (i / 4*4)),.string ⟨#[]⟩] 48)):=c.alloc c.size _;have V:Below w.heap.size w (k.alloc (.cells #[.int .i64 0,.string (bJ (i / 4*4)),.string ⟨#[]⟩] 48)):=a.trans (I.mono a.size);generalize a7:k.heap.size=bx at *;generalize k.alloc (.cells #[.int .i64 0,.string (bJ (i / 4*4)),.string ⟨#[]⟩] 48)=w3 at U I V ⊢;have a8:=aB U;have M:=aA (aM E.out I);have N:=aA ((I.cell (p:=⟨g,i,none⟩) u).trans G.out);have H:=aA (Below.fj I f.out (aB f.out));have O:=A2 u I.size;clear E G f c I m o q u a hK a7;go_loopw [5] (fun y wr=>∃j:Nat,y=.int .i64 j∧j≤n∧Below w3.heap.size w3 wr) (fun y _=>n-(intOf y).toNat)
   case atStart=>exact⟨0,rfl,IM _,Below.refl _ _⟩
   case round=>
    obtain⟨j,rfl,hj,d⟩:=hrel;have gk:=Below.fj d H.out (aB H.out);obtain⟨m,o,q,_,_,_⟩:=aZ gk;have gb:=Below.fj d U a8;obtain⟨d0,d1,d2,_,_,_⟩:=aZ gb;have cg:=(d.cell (p:=⟨g,i,none⟩) O).trans N.out;by_cases P:j<n
    ·obtain⟨g2,a4,z,a5,A⟩:=fL (aM M.out d) (by omega);injection z with z _ _;subst z;have a0:=A (j*3) (.int .i64 0) (by rw[gC n _ (j*3) (by show j*3<n*3;omega)];show [Mj _ _,_,_][(j*3) % 3]?=_;rw[OL];rfl);have a1:=A (j*3+1) (.string (bJ (i / 4*4))) (by rw[gC n _ (j*3+1) (by show j*3+1<n*3;omega)];show [Mj _ _,_,_][(j*3+1) % 3]?=_;rw[show(j*3+1) % 3=1 by omega];rfl);have a2:=A (j*3+2) (.string noB) (by rw[gC n _ (j*3+2) (by show j*3+2<n*3;omega)];show [Mj _ _,_,_][(j*3+2) % 3]?=_;rw[show(j*3+2) % 3=2 by omega];rfl);have ae:=zJ 0 (bJ (i / 4*4)) ⟨#[]⟩;have af:=wP;unfold noB at a2;clear A gk gb;go_wp2;go_quiet (fail)
     go_wp2;go_roundw
     case rel=>exact⟨j+1,by go_num,P,aN d _⟩
     case measure=>simp[intOf];omega
    ·go_wp2;go_round
     case rel=>exact⟨i+1,by go_num,J,V.trans (d.mono V.size)⟩
     case measure=>simp[intOf];omega
  ·go_wp2_with fail
   go_loopw [6] (fun r wr=>∃i:Nat,r=.int .i64 i∧i≤ts.length∧Below w.heap.size w wr) (fun r _=>ts.length-(intOf r).toNat)
   case atStart=>exact⟨0,rfl,IM _,a⟩
   case round=>
    clear a b m o q;obtain⟨i,rfl,hi,a⟩:=hrel;have b:=S.out.g.below a;obtain⟨m,o,q,_,_,_⟩:=aZ b.head;by_cases J:i<ts.length
    ·obtain⟨v,s⟩:∃v,ts[i]?=some v:=⟨_,hZ J⟩;obtain⟨n,X,t⟩:=b.tlists i v s;obtain⟨g,Y,K,u,C⟩:=fL b.trow (by omega);injection K with L _ _;subst L;have D:=C i v s;have E:=aA t;obtain⟨Z,a3,rfl,_⟩:=aQ t;have G:=aA D;have x:=lR (i / 4*4) wr (by omega);rw[show(((i / 4*4:Nat)):Int)=(i:Int) / 4*4 by omega]at x;have f:=aA b.head;clear C s t b D;go_wp2_with fail
     refine x.mono ?_
     rintro e k ⟨rfl,c⟩;have Q:Below w.heap.size w k:=a.trans (c.mono a.size);have M:=aA (aM E.out c);have N:=aA ((c.cell (p:=⟨g,i,none⟩) u).trans G.out);have H:=aA (Below.fj c f.out (aB f.out));have O:=A2 u c.size;clear x E G f c m o q u a;go_wp2_with fail
     go_loopw [8] (fun y wr=>∃j:Nat,y=.int .i64 j∧j≤n∧Below k.heap.size k wr) (fun y _=>n-(intOf y).toNat)
     case atStart=>exact⟨0,rfl,IM _,Below.refl _ _⟩
     case round=>
      obtain⟨j,rfl,hj,d⟩:=hrel;have gk:=Below.fj d H.out (aB H.out);obtain⟨m,o,q,_,_,_⟩:=aZ gk;have cg:=(d.cell (p:=⟨g,i,none⟩) O).trans N.out;by_cases P:j<n
      ·obtain⟨g2,a4,z,a5,A⟩:=fL (aM M.out d) (by omega);injection z with z _ _;subst z;have cj:=A j (.string (bJ (i / 4*4))) (by rw[gC n _ j (by show j<n*1;omega)];show [F2 _][j % 1]?=_;rw[Nat.mod_one];rfl);have a9:((bJ (i / 4*4)).toList != (bJ (i / 4*4)).toList)=false:=by simp
       clear A gk;go_wp2;exact⟨⟨j+1,by go_num,P,d⟩,by simp[intOf];omega⟩
      ·go_wp2;go_round
       case rel=>exact⟨i+1,by go_num,J,Q.trans (d.mono Q.size)⟩
       case measure=>simp[intOf];omega
    ·go_wp2_with fail
     go_loopw [9] (fun r wr=>∃i:Nat,r=.int .i64 i∧i≤rs.length∧Below w.heap.size w wr) (fun r _=>rs.length-(intOf r).toNat)
     case atStart=>exact⟨0,rfl,IM _,a⟩
     case round=>
      clear a b m o q;obtain⟨l,rfl,ag,a⟩:=hrel;have b:=S.out.g.below a;obtain⟨m,o,q,_,_,_⟩:=aZ b.head;by_cases a6:l<rs.length
      ·obtain⟨v,s⟩:∃v,rs[l]?=some v:=⟨_,hZ a6⟩;obtain⟨n,X,t⟩:=b.rlists l v s;obtain⟨g,Y,K,u,C⟩:=fL b.rrow (by omega);injection K with L _ _;subst L;have D:=C l v s;have E:=aA t;obtain⟨Z,a3,rfl,_⟩:=aQ t;have G:=aA D;have x:=lR (l / 4*4) wr (by omega);rw[show(((l / 4*4:Nat)):Int)=(l:Int) / 4*4 by omega]at x;have f:=aA b.head;clear C s t b D;go_wp2_with fail
       refine x.mono ?_
       rintro e k ⟨rfl,c⟩;have Q:Below w.heap.size w k:=a.trans (c.mono a.size);have M:=aA (aM E.out c);have N:=aA ((c.cell (p:=⟨g,l,none⟩) u).trans G.out);have H:=aA (Below.fj c f.out (aB f.out));have O:=A2 u c.size;clear x E G f c m o q u a;go_wp2_with fail
       go_loopw [11] (fun y wr=>∃j:Nat,y=.int .i64 j∧j≤n∧Below k.heap.size k wr) (fun y _=>n-(intOf y).toNat)
       case atStart=>exact⟨0,rfl,IM _,Below.refl _ _⟩
       case round=>
        obtain⟨j,rfl,hj,d⟩:=hrel;have gk:=Below.fj d H.out (aB H.out);obtain⟨m,o,q,_,_,_⟩:=aZ gk;have cg:=(d.cell (p:=⟨g,l,none⟩) O).trans N.out;by_cases P:j<n
        ·obtain⟨g2,a4,z,a5,A⟩:=fL (aM M.out d) (by omega);injection z with z _ _;subst z;have cj:=A (j*2) (.string (bJ (l / 4*4))) (by rw[gC n _ (j*2) (by show j*2<n*2;omega)];show [F2 _,_][(j*2) % 2]?=_;rw[OL];rfl);have ck:=A (j*2+1) (.slice none 0 0) (by rw[gC n _ (j*2+1) (by show j*2+1<n*2;omega)];show [F2 _,_][(j*2+1) % 2]?=_;rw[show(j*2+1) % 2=1 by omega];rfl);have a9:((bJ (l / 4*4)).toList != (bJ (l / 4*4)).toList)=false:=by simp
         clear A gk;go_wp2;exact⟨⟨j+1,by go_num,P,d⟩,by simp[intOf];omega⟩
        ·go_wp2;go_round
         case rel=>exact⟨l+1,by go_num,a6,Q.trans (d.mono Q.size)⟩
         case measure=>simp[intOf];omega
      ·go_wp2;go_ret
       exact⟨rfl,a⟩
end
section
open Go.RowKit Go.Maps
variable {B kb:Nat} {fs:List Value} {F:Value} {ts:List Value} {T:Value} {rs:List Value} {R:Value} {w w':World}
theorem tF{f i l v:sA}{n m JS:Nat}{xs ys:List sA}{e:I1}{B':Nat}(c:BookF B kb f i fs F w)(j:w.ownsRow B 48 3 l n xs)(b:w.ownsRow B' e JS v m ys)
  (h1:e≠75) (h2:e≠36) (h3:e≠48):∀g∈may kb F l,v.ownBlock≠some g:=by
 intro g d a;simp only[may,sT,IK,I9]at d;rcases d with rfl|h|h
 ·exact cM b c.head h1 a.symm
 ·rcases gL b c.row h2 with q|q
  ·rw[q]at a;cases a
  ·exact q (a.trans h.symm)
 ·rcases gL b j h3 with q|q
  ·rw[q]at a;cases a
  ·exact q (a.trans h.symm)
theorem vE(l:sA)(xs:List Fct)(m:fs.length % 4=0)(o:fs.length≤1000000000)(p:xs.length≤1500000)(h:BookA B kb fs F ts T rs R w)
  (a:w.ownsRow B 48 3 l xs.length (aY xs)) (q:∀v∈fs,v.ownBlock=none∨v.ownBlock≠l.ownBlock) :
  I5 hE 41 #[.pointer (some ⟨kb,0,none⟩),l] w fun e w'=>e=.returned (.tuple #[])∧∃d j,j.length=fs.length+4∧BookA B kb j d ts T rs R w'∧Below B w w'∧Kb (may kb F l) w w':=by
 refine(vC B kb R T fs F l xs w m o p h.f a q).mono ?_
 rintro e w' ⟨r,d,s,t,u,k,_,b⟩;refine⟨r,d,_,by simp,⟨k,h.g.le,k.head,?_,fun i v f=>?_,?_,fun i v f=>?_⟩,Cp b h.f a,b⟩
 ·exact eT h.g.trow b (tF h.f a h.g.trow (by decide) (by decide) (by decide))
 ·obtain⟨n,g,c⟩:=h.g.tlists i v f;exact⟨n,g,eT c b (tF h.f a c (by decide) (by decide) (by decide))⟩
 ·exact eT h.g.rrow b (tF h.f a h.g.rrow (by decide) (by decide) (by decide))
 ·obtain⟨n,g,c⟩:=h.g.rlists i v f;exact⟨n,g,eT c b (tF h.f a c (by decide) (by decide) (by decide))⟩
theorem vG(a c:Nat)(v:sA)(ps:List (RowD × sA))(p:B≤a)(q:a≤w.heap.size)(r:ts.length % 4=0)(s:rs.length % 4=0)(t:ts.length≤500000000000)(y:rs.length≤1000000000)(z:ps.length≤1500000)(A:∀x∈ps,x.1.to.length≤1500000)
  (h:BookA B kb fs F ts T rs R w) (C:OwnR w a c v ps) (f:∀u∈F::(fs++(ts++rs)),∀g,u.ownBlock=some g→g<a∨c≤g) :
  I5 hE 45 #[.pointer (some ⟨kb,0,none⟩),v] w fun e w'=>e=.returned (.tuple #[])∧∃d j m k,m.length=rs.length+4∧d.length=ts.length+4*ps.length∧BookA B kb fs F d j m k w'∧Below B w w'∧FT a c w w':=by
 refine(vX B kb a c F ts T rs R v ps w p q r s t y z A h.g C (fun u b=>f u (by simp only[sT,IK]at b ⊢;exact .inr (.inr b)))).mono ?_
 rintro e w' ⟨D,d,j,k,J,K,L,o,E,_,_,G,l⟩;refine⟨D,d,j,_,k,by simp,E,⟨⟨h.f.le,o.head,?_,fun i u b=>?_⟩,o⟩,G,l⟩
 ·exact l.own h.f.row (by decide) (by decide) (by decide) (f F (by simp))
 ·obtain⟨n,H,I⟩:=h.f.lists i u b;exact⟨n,H,l.own I (by decide) (by decide) (by decide) (f u (by simp[IJ b]))⟩
theorem BookA.lt(h:BookA B kb fs F ts T rs R w):∀u∈F::(fs++(ts++rs)),∀g,u.ownBlock=some g→g<w.heap.size:=by
 intro u a g d;simp only[sT,IK]at a;rcases a with rfl|a|a|a
 ·exact(h.f.row.lt g d).2
 ·obtain⟨i,b⟩:=J0.1 a;obtain⟨n,_,c⟩:=h.f.lists i u b;exact(c.lt g d).2
 ·obtain⟨i,b⟩:=J0.1 a;obtain⟨n,_,c⟩:=h.g.tlists i u b;exact(c.lt g d).2
 ·obtain⟨i,b⟩:=J0.1 a;obtain⟨n,_,c⟩:=h.g.rlists i u b;exact(c.lt g d).2
end
section
open Go.RowKit Go.Maps
theorem Cr(s:ByteArray)(w:vF)(m:Int)(j:s.size≤IU)(g:w.cell? ⟨1,0,none⟩=some (.int .i64 m)) :
  I5 hE 24 #[.string s] w fun e w'=>qH w w' s e:=by
 have d:=aD w (.cells #[.int .i64 0,.int .i64 0] 27);have b:Below w.heap.size w (w.alloc (.cells #[.int .i64 0,.int .i64 0] 27)):=(Below.refl _ _).alloc (gO _) _;have h:(w.alloc (.cells #[.int .i64 0,.int .i64 0] 27)).cell? ⟨1,0,none⟩=some (.int .i64 m):=by rw[b.cell (World.block_lt_of_cell? _ _ g)];exact g
 go_enter Tryz.func24,Tryz.ntmps24
 go_wp2_with fail
 generalize w.alloc (.cells #[.int .i64 0,.int .i64 0] 27)=l at d b h ⊢;have c:=aB d;refine(pH s l m j h).mono ?_
 rintro e o ⟨v,rfl,f,i⟩;have q:=Below.fj i d c;obtain⟨t,u,y,z⟩:=aH q;have x:Below w.heap.size w o:=b.trans (i.mono b.size);generalize hr:aW s=r at f ⊢;obtain⟨fs,k,n⟩:=r;simp only at f ⊢;go_wp2_with fail
 refine bodyPost_ret (v:=.tuple #[v,.agg #[.int .i64 k,.int .i64 n]]) (by simp[results,Tryz.results24,go_sem,t,u]) rfl ⟨v,by rw[hr],?_,?_⟩
 ·rw[hr];exact eY (Lg (Lg f (a:=⟨w.heap.size,0,none⟩) c _) (a:=⟨w.heap.size,1,none⟩) c _) (JA c)
 ·exact(x.setCell (p:=⟨w.heap.size,0,none⟩) (gO _) _).setCell (p:=⟨w.heap.size,1,none⟩) (gO _) _
theorem AF(a:List ByteArray):∀(pre:List Fct) (n:Nat),pre.length≤120→(bH pre n a).1.length≤120:=by
 induction a with
 |nil=>intro pre n h;exact h
 |cons l r b=>
  intro pre n h;unfold bH;split
  ·simp
  ·split
   ·simp
   ·split
    ·exact b pre (n+1) h
    ·split
     ·rename_i c;refine b _ (n+1) ?_
      rw[A4];by_cases e:120≤pre.length
      ·exfalso;by_cases d:12<(cU l).1.p.size∨12<(cU l).1.q.size
       ·have:=jQ (pre:=pre) (f:=(cU l).1) d;rw[c]at this;exact absurd this (by decide)
       ·have:=jR (pre:=pre) (f:=(cU l).1) d e;rw[c]at this;exact absurd this (by decide)
      ·simp only[List.length_singleton];omega
     ·simp
theorem Cs(s:ByteArray):(aW s).1.length≤120:=by
 unfold aW;split
 ·simp
 ·exact AF _ _ _ (by simp)
def iW(k:Int)(s:ByteArray)(a:sA)(c:Way)(b:sA):sA:=.agg #[.int .i64 k,.string s,a,.int .i64 c.order,.bool c.cycles,.bool c.collapse,.bool c.subst,.bool c.deltas,b]
variable {B kb:Nat} {fs:List Value} {F:Value} {ts:List Value} {T:Value} {rs:List Value} {R:Value}
theorem Hy(s:ByteArray)(o p:sA)(c:Way)(w:vF)(m:Int)(H:s.size≤IU)(hm:w.cell? ⟨1,0,none⟩=some (.int .i64 m))(ao:1<B)
  (af:fs.length % 4=0) (ap:fs.length≤100000000) (q:BookA B kb fs F ts T rs R w) :
  I5 hE 28 #[.pointer (some ⟨kb,0,none⟩),iW 1 s o c p] w fun e w'=>e=.returned (.bool true)∧∃I r,r.length=fs.length+4∧BookA B kb r I ts T rs R w'∧Below B w w':=by
 have ag:B≤w.heap.size:=IH q.f.le (JA (aB q.f.head));have HB:=aA q;have ah:=Cs s;have J:=aA (fun W=>uC s W H);have t:Hid (∀w',w'.cell? ⟨1,0,none⟩=some (.int .i64 m)→I5 hE 24 #[.string s] w' fun e ai=>qH w' ai s e):=fun w' h=>Cr s w' m H h
 clear q H;unfold iW;go_enter Tryz.func28,Tryz.ntmps28
 go_wp2_with fail
 have d:=aD w (.cells #[.int .i64 1,.string s,o,.int .i64 c.order,.bool c.cycles,.bool c.collapse,.bool c.subst,.bool c.deltas,p] 78);have b:Below w.heap.size w (w.alloc (.cells #[.int .i64 1,.string s,o,.int .i64 c.order,.bool c.cycles,.bool c.collapse,.bool c.subst,.bool c.deltas,p] 78)):=(Below.refl _ _).alloc (gO _) _;generalize aq:w.heap.size=bo at d ⊢;generalize w.alloc (.cells #[.int .i64 1,.string s,o,.int .i64 c.order,.bool c.cycles,.bool c.collapse,.bool c.subst,.bool c.deltas,p] 78)=a at d b ⊢;have a4:=aB d;have cO:a.cell? ⟨bo,1,none⟩=some (.string s):=by rw[aC d];rfl
 have a5:a.cell? ⟨1,0,none⟩=some (.int .i64 m):=(b.cell (p:=⟨1,0,none⟩) (by show 1<_;omega)).trans hm;refine(t.out a a5).mono ?_
 unfold qH at t J ⊢;generalize aW s=ak at *;obtain⟨u,k,n⟩:=ak;rintro e x ⟨y,rfl,K,f⟩;simp only at K ah J t ⊢;have al:=(f.cell (p:=⟨bo,1,none⟩) a4).trans cO;have am:=A2 a4 f.size;clear d cO t a5;go_wp2_with fail
 have g:=aD x (.cells #[.int .i64 k,.int .i64 n] 27);have z:Below a.heap.size a (x.alloc (.cells #[.int .i64 k,.int .i64 n] 27)):=f.alloc f.size _;have L:=K.alloc (.cells #[.int .i64 k,.int .i64 n] 27);generalize x.alloc (.cells #[.int .i64 k,.int .i64 n] 27)=M at g z L ⊢;generalize x.heap.size=be at g ⊢;refine(J.out M).mono ?_
 rintro e A ⟨v3,rfl,N,O⟩;simp only at N ⊢;clear K f al am;go_wp2_with fail
 have i:=aD A (.cells #[.int .i64 k,.int .i64 n] 27);have j:Below M.heap.size M (A.alloc (.cells #[.int .i64 k,.int .i64 n] 27)):=O.alloc O.size _;have P:=N.alloc (.cells #[.int .i64 k,.int .i64 n] 27);have C:=Below.fj j g (aB g);have D:=aM L j;generalize A.alloc (.cells #[.int .i64 k,.int .i64 n] 27)=w4 at i j P C D ⊢;generalize A.heap.size=bf at i ⊢;clear N O g L;have Q:Below a.heap.size a w4:=z.trans (j.mono z.size);refine(vL y v3 u w4 (by omega) (dY D) (dY P)).mono ?_
 rintro e w5 ⟨rfl,l⟩;have S:=aM D l;have U:=Below.fj l C (aB C);have V:=Below.fj l i (aB i);have X:Below w.heap.size w w5:=b.trans ((Q.trans (l.mono Q.size)).mono b.size);have z0:=b.size;have E:=HB.out.below X;have G:w5.ownsRow B 48 3 y u.length (aY u):=eY S (by omega);have a6:∀v∈fs,v.ownBlock=none∨v.ownBlock≠y.ownBlock:=by
  intro v hv;cases an:v.ownBlock with
  |none=>exact .inl rfl
  |some a7=>
   refine .inr fun h=>?_
   have h1:=HB.out.lt v (by simp[hv]) a7 an;have h2:=(S.lt a7 h.symm).1;omega
 have a8:=vE y u af (by omega) (by omega) E G a6;clear D C i P;go_wp2_with fail
 refine a8.mono ?_
 rintro e w9 ⟨rfl,I,r,a9,aa,ab,Y⟩;have ad:=Y.heap U (qU E.f G U (by decide) (by decide) (by decide));have ae:=Y.heap V (qU E.f G V (by decide) (by decide) (by decide));obtain⟨a0,a1,_,_⟩:=aH ad;obtain⟨a2,a3,_,_⟩:=aH ae;have q1:=pW k n;have q3:=nH;have Z:=aA (And.intro a9 (And.intro aa ((X.mono ag).trans ab)));clear a8 a6 E aa ab Y a9 S G U V ad ae X l Q j z b;go_wp2;go_ret
 exact⟨rfl,I,r,Z.out.1,Z.out.2.1,Z.out.2.2⟩
end
section
open Go.RowKit Go.Maps
variable {B kb:Nat} {fs:List Value} {F:Value} {ts:List Value} {T:Value} {rs:List Value} {R:Value}
theorem Hz(k:Int)(s:ByteArray)(b d:sA)(c:Way)(w:vF)(h1:k≠1)(h2:k≠2)(h3:k≠3)(h:k≠4)(i:k≠5)(a:BookA B kb fs F ts T rs R w) :
  I5 hE 28 #[.pointer (some ⟨kb,0,none⟩),iW k s b c d] w fun e w'=>e=.returned (.bool true)∧BookA B kb fs F ts T rs R w'∧Below B w w':=by
 have f:B≤w.heap.size:=IH a.f.le (JA (aB a.f.head));have g:=aA a;clear a;unfold iW;go_enter Tryz.func28,Tryz.ntmps28
 go_wp2;go_ret
 exact⟨rfl,g.out.below ((Below.refl _ _).alloc (gO _) _),((Below.refl _ _).alloc (gO _) _).mono f⟩
end
end Go.Proofs.YtiamlbhkiehilaaGreatDoor
