import Derived.Test.YtiamlbhkiehilaaGreatDoorKa05
import Derived.Laws.EntriesVeiled
import Derived.Laws.CopyOwn
open Array renaming toList→Np
open Bool renaming eq_iff_iff→J8
open ByteArray renaming size_append→JH
open Go renaming World→vF,Calls→I5,bodyPost_ret→IG,Value→sA,TypeId→I1,KeepsFrom→Ju,callsIn_wide→IV,undef→lZ,unitElem→OA,maxLen→IU
open Go.CallsIn renaming inRound→Je
open Go.KeepsFrom renaming refl→KB
open Go.Lit renaming string→KL
open Go.Proofs.Tryz renaming prog→hE,results90→M5,underlying9→Kj,func64→MF,ntmps64→Mr,underlying156→N4
open Go.RowKit renaming Hid→I3
open List renaming length_nil→J1,length_append→A4,mem_of_getElem?→IJ,mem_singleton→A1,mem_cons→sT,mem_cons_self→Bx,mem_cons_of_mem→C1,foldl_cons→JB,length_cons→Jn,mem_append→IK,not_mem_nil→JT,mem_map→Jf,length_map→JO,map_append→Jp,foldl_append→JE,tail_cons→Lm,flatMap_cons→Ls,append_assoc→JI,length_take→Ji,length_singleton→NA,getElem?_append_right→IZ,getElem?_append_left→IL,getElem?_take→Jr
open List.cons renaming injEq→NI
open Nat renaming zero_le→IM,le_refl→gO,le_trans→IH,lt_of_lt_of_le→A2
namespace Go.Proofs.YtiamlbhkiehilaaGreatDoor
set_option maxRecDepth 100000
set_option maxHeartbeats 2000000
section
open Go.RowKit
variable {B:Nat} {c:Way} {n:Nat} {s:St}
theorem De(s:St)(o:Int):(s.letIn o).now.length≤s.now.length+s.come.length∧(s.letIn o).come.length≤s.come.length:=by
 unfold St.letIn;split
 ·simp
 ·simp only[J1];refine⟨?_,IM _⟩;split
  ·rw[List.length_mergeSort,A4];exact gO _
  ·rw[A4];exact gO _
def GU(B:Nat)(c:Way)(n:Nat)(s:St)(w:vF)(G:GV)(e:Ending)(w':vF):Prop:=
 (∃a,s.next c.order=(none,a)∧e=.returned (.tuple #[.int .u64 0,.bool false])∧∃G',GM w' B c n G' a∧GCh w w' G G') ∨
 (∃m a,s.next c.order=(some m,a)∧e=.returned (.tuple #[.int .u64 (m:Int),.bool true])∧∃G',GM w' B c n G' a∧GCh w w' G G')
theorem wO(V:c.order=2→tR B)(w:vF)(G:GV)(h:GM w B c n G s)(t:WF n s) :
  I5 hE 90 #[.pointer (some ⟨G.bl,0,none⟩)] w (GU B c n s w G):=by
 have hl:=t.lens;have O:=Bd V w G h (by omega) (by omega);obtain⟨q1,q2⟩:=De s c.order;have u:∀x,x∈(s.letIn c.order).now→x<n:=by intro x X;have l:(s.letIn c.order).W x:=.inl X;rw[St.jt]at l;exact t.inb x (t.ins x (by rcases l with l|l<;>simp[l]))
 have P:s.next c.order=(match(s.letIn c.order).now with | []=>(none,s.letIn c.order)|x::r=>(some (if c.order == 1 then(x::r).getLastD 0 else x),(s.letIn c.order).drop (if c.order == 1 then(x::r).getLastD 0 else x))):=rfl
 have hn:=h.n40;clear h t;generalize Y:s.letIn c.order=a at *;have j:=aA P;clear P Y;go_enter Tryz.func90,Tryz.ntmps90
 go_wp2_with fail
 refine O.mono ?_
 clear O;rintro e d ⟨rfl,G1,f,g⟩;have F:G1.bl=G.bl:=g.e3;obtain⟨Z,cn,z,o⟩:=f.oN.form;have k:=f.hbl;rw[F]at k;have Q:d.cell? ⟨G.bl,0,none⟩=some (.int .i64 c.order):=by rw[aC k];rfl
 have H:d.cell? ⟨G.bl,2,none⟩=some (.slice Z a.now.length cn):=by rw[aC k];exact congrArg some z
 cases b:a.now with
 |nil=>
  have p:I3 (s.next c.order=(none,a)):=aA (by rw[j.out,b]);have H1:=aA (And.intro f g);rw[b]at H;simp only[J1]at H;clear f g k z o j b;go_wp2;refine IG (v:=.tuple #[.int .u64 0,.bool false]) (by simp[results,M5,go_sem]) rfl ?_
  exact .inl ⟨a,p.out,rfl,G1,H1.out⟩
 |cons x r=>
  have I:a.now.length=r.length+1:=by rw[b];rfl
  obtain⟨a2,e,a3,_⟩:=o 0 x (by rw[b];rfl);subst e;obtain⟨y,A⟩:∃y,y=(x::r).getLastD 0:=⟨_,rfl⟩;have C:a.now[a.now.length-1]?=some y:=by rw[b,A,← List.getLast?_eq_getElem?,List.getLastD_eq_getLast?];rw[List.getLast?_eq_some_getLast (by simp)];rfl
  obtain⟨g',e,R,_⟩:=o _ y C;cases e;have a0:x<n:=u x (by rw[b];simp);have a1:y<n:=u y (IJ C);have D:I3 (∀m,m<n→I5 hE 114 #[.pointer (some ⟨G.bl,0,none⟩),.int .u64 m] d.drew (fun e i=>e=.returned (.tuple #[])∧∃G',GM i B c n G' (a.drop m)∧GCh w i G G')∧I5 hE 114 #[.pointer (some ⟨G.bl,0,none⟩),.int .u64 m] d (fun e i=>e=.returned (.tuple #[])∧∃G',GM i B c n G' (a.drop m)∧GCh w i G G')):=by
   refine aA (fun m hm=>⟨?_,?_⟩)
   ·have S:iP d d.drew:=⟨rfl,rfl,rfl,rfl⟩;have:=rD m d.drew G1 (f.same S) (by omega) (by omega) (by omega);rw[F]at this;refine this.mono ?_
    rintro e i ⟨rfl,G',J,K⟩;exact⟨rfl,G',J,g.trans ((GCh.same S G1).trans K)⟩
   ·have:=rD m d G1 f (by omega) (by omega) (by omega);rw[F]at this;refine this.mono ?_
    rintro e i ⟨rfl,G',J,K⟩;exact⟨rfl,G',J,g.trans K⟩
  rw[I]at H R;rw[Nat.add_sub_cancel]at R;have a4:r.length≤1000:=by omega
  by_cases E:c.order=1
  ·have p:I3 (s.next c.order=(some y,a.drop y)):=aA (by rw[j.out,b,E,A];rfl);obtain⟨hd,_⟩:=D.out y a1;rw[E]at Q;clear j D f g k z o b C A I u;go_wp2;go_region
   all_goals
    go_wp2_with fail
    refine hd.mono ?_
    clear hd;rintro e w2 ⟨rfl,M,q⟩;have N:=aA q;clear q;go_wp2;refine IG (v:=.tuple #[.int .u64 (y:Int),.bool true]) (by simp[results,M5,go_sem]) rfl ?_
    exact .inr ⟨y,_,p.out,rfl,M,N.out⟩
  ·have p:I3 (s.next c.order=(some x,a.drop x)):=aA (by rw[j.out,b];simp[E]);obtain⟨_,hd⟩:=D.out x a0;obtain⟨T,U⟩:∃T,T=c.order:=⟨_,rfl⟩;rw[← U]at Q E;clear j D f g k z o b C A I u U;go_wp2_with fail
   refine hd.mono ?_
   clear hd;rintro e w2 ⟨rfl,M,q⟩;have N:=aA q;clear q;go_wp2;refine IG (v:=.tuple #[.int .u64 (x:Int),.bool true]) (by simp[results,M5,go_sem]) rfl ?_
   exact .inr ⟨x,_,p.out,rfl,M,N.out⟩
end
section
open Go.RowKit
structure WoInv(w wr:World)(B:Nat)(v:Value)(ws wo:List Nat)(i:Nat):Prop where
 le:i≤ws.length
 ws:∃wi,wi.length=ws.length∧eJ wr B v wi∧∀j,wi.getD j 0=if j<i then iC (ws.getD j 0) (wo.getD j 0)else ws.getD j 0
 kb:Kb [] w wr
theorem WoInv.step{w wr:vF}{B:Nat}{v:sA}{ws a:List Nat}{i g L cap:Nat}(h:WoInv w wr B v ws a i)(d:v=.slice (some ⟨g,0,none⟩) L cap)(k:i<ws.length)(l:w.heap.size≤B)(m:ws.getD i 0<18446744073709551616) :
  WoInv w (wr.setCell ⟨g,i,none⟩ (.int .u64 ((iC (ws.getD i 0) (a.getD i 0):Nat):Int))) B v ws a (i+1):=by
 obtain⟨o,q,b,r⟩:=h.ws;have t:=(b.lt (show v.ownBlock=some g by rw[d];rfl)).1;refine⟨k,⟨o.set i (iC (ws.getD i 0) (a.getD i 0)),by rw[List.length_set];exact q,?_,fun j=>?_⟩,h.kb.setCell (p:=⟨g,i,none⟩) (.inr (IH l t)) _⟩
 ·rw[d]at b ⊢;exact b.set _ _ (CJ m)
 ·rw[nE _ _ _ _ (by omega)];by_cases e:j=i
  ·subst e;rw[if_pos rfl,if_pos (by omega)]
  ·rw[if_neg e,r];by_cases f:j<i
   ·rw[if_pos f,if_pos (by omega)]
   ·rw[if_neg f,if_neg (by omega)]
theorem WoInv.drew{w wr:vF}{B:Nat}{v:sA}{ws a:List Nat}{i:Nat}(h:WoInv w wr B v ws a i)(n:Nat):WoInv w (wr.drewN n) B v ws a i:=⟨h.le,h.ws,h.kb.drewN n⟩
theorem Df(B R b o b2 E:Nat)(S F:Array sA)(T U:I1)(v H:sA)(s V:List Nat)(w:vF)(X:w.heap[b]?=some (.cells S T (0,0)))(Y:S[o]?=some v)(Z:w.heap[b2]?=some (.cells F U (0,0)))(aa:F[E]?=some H)(h:aO w B v s)(h2:aO w R H V) :
  I5 hE 115 #[.pointer (some ⟨b,o,none⟩),.pointer (some ⟨b2,E,none⟩)] w fun e w'=>∃v',e=.returned (.agg #[v'])∧aO w' w.heap.size v' (qZ s V)∧Kb [] w w':=by
 obtain⟨a,hl,I,rfl⟩:=h;obtain⟨m,al,J,rfl⟩:=h2;obtain⟨d,p⟩:∃d,d=w.alloc (.cells #[.slice none 0 0] 112):=⟨_,rfl⟩;have q:Kb [] w d:=by rw[p];exact(Kb.refl [] w).alloc _
 have z0:d.heap.size=w.heap.size+1:=by rw[p];simp
 have K:d.heap[w.heap.size]?=some (.cells #[.slice none 0 0] 112 (0,0)):=by rw[p];exact aD _ _
 have cv:d.cell? ⟨b,o,none⟩=some v:=by rw[aC (q.heap X (by simp))];exact Y
 have a0:=I.2;have a1:=J.2;have M:=tO B v a d (I.kb q (by simp)) (by omega);have a2:=q.heap Z (by simp);have a3:=J.kb q (by simp);clear X Y Z I J;go_enter Tryz.func115,Tryz.ntmps115
 rw[p]at M cv;go_wp2_with fail
 refine M.mono ?_
 clear M;rintro e t ⟨v1,rfl,y,z⟩;rw[← p]at y z;have r:t.heap[w.heap.size]?=some (.cells #[.slice none 0 0] 112 (0,0)):=z.heap K (by simp);have H0:I3 (WoInv t t d.heap.size v1 a m 0∨True):=aA (.inr trivial);have a4:I3 (WoInv d t d.heap.size v1 a m 0):=aA ⟨IM _,⟨a,rfl,y,fun am=>by simp⟩,z⟩;obtain⟨j,f,rfl,_⟩:=y.form;have a5:=aA (And.intro a2 a3);have HY:=aA K;have HZ:=aA z0;have ab:=aA q;clear p z r y a2 a3 H0 K z0 q cv;go_wp2;go_loopw [14] (fun N wr=>∃(i:Nat),N=.int .i64 i∧i≤a.length∧I3 (WoInv d wr d.heap.size (.slice j a.length f) a m i)) (fun N _=>a.length-(intOf N).toNat)
 case atStart=>exact⟨0,rfl,IM _,a4⟩
 case round=>
  clear a4;obtain⟨i,rfl,an,l⟩:=hrel;by_cases ad:i<a.length
  ·have HW:=fun k=>nD R b2 E F U H m i (wr.drewN k) ((l.out.kb.drewN k).heap a5.out.1 (by simp)) aa (a5.out.2.kb (l.out.kb.drewN k) (by simp))
   obtain⟨A,q1,u,C⟩:=l.out.ws;obtain⟨x,O⟩:∃x,A[i]?=some x:=⟨_,List.getElem?_eq_getElem (by omega)⟩;obtain⟨ao,ap,P,a6⟩:=u.form;injection P with P e7 e6;subst P e6;clear e7;obtain⟨g,rfl,hg,aq⟩:=a6 i x O;have D:a.getD i 0=x:=by have:=C i;rw[if_neg (by omega)]at this;rw[← this];simp[O]
   have a7:x<18446744073709551616:=by rw[← D];exact dM a0 i
   have ae:=dM a1 i;have a8:I3 (∀k,WoInv d ((wr.drewN k).setCell ⟨g,i,none⟩ (.int .u64 ((iC x (m.getD i 0):Nat):Int))) d.heap.size (.slice (some ⟨g,0,none⟩) a.length f) a m (i+1)):=by refine aA (fun k=>?_);have:=(l.out.drew k).step rfl ad (gO _) (by rw[D];exact a7);rw[D]at this;exact this
   generalize m.getD i 0=af at *;have hand:=u64_andNot_nat x af a7 ae;unfold iC at a8;clear l q1 u C a6 O D;go_wp2;go_region_with (go_at_call 150;refine(HW _).mono ?_;rintro e t ⟨rfl,rfl⟩)
   all_goals
    go_wp2;go_roundw
    case rel=>exact⟨i+1,by go_num,by omega,aA (a8.out _)⟩
    case measure=>simp[intOf];omega
  ·have ag:i=a.length:=by omega
   subst ag;have r:wr.heap[w.heap.size]?=some (.cells #[.slice none 0 0] 112 (0,0)):=l.out.kb.heap HY.out (by simp);have cr:wr.cell? ⟨w.heap.size,0,none⟩=some (.slice none 0 0):=by rw[aC r];rfl
   have fr:wr.frozen? ⟨w.heap.size,0,none⟩=false:=aE r 0;have a9:(wr.setCell ⟨w.heap.size,0,none⟩ (.slice j a.length f)).cell? ⟨w.heap.size,0,none⟩=some (.slice j a.length f):=by rw[aC (aI r 0 _)];rfl
   have ah:=aA a9;have HF:I3 (aO (wr.setCell ⟨w.heap.size,0,none⟩ (.slice j a.length f)) w.heap.size (.slice j a.length f) (qZ (mkS (cQ a)) (mkS (cQ m)))∧Kb [] w (wr.setCell ⟨w.heap.size,0,none⟩ (.slice j a.length f))):=by
    obtain⟨A,q1,u,C⟩:=l.out.ws;have kk:Kb [] w (wr.setCell ⟨w.heap.size,0,none⟩ (.slice j a.length f)):=(ab.out.trans l.out.kb).setCell (p:=⟨w.heap.size,0,none⟩) (.inr (gO _)) _;have Q:eJ (wr.setCell ⟨w.heap.size,0,none⟩ (.slice j a.length f)) d.heap.size (.slice j a.length f) A:=u.kb ((Kb.refl [w.heap.size] wr).setCell (p:=⟨w.heap.size,0,none⟩) (.inl (by simp)) _) (by intro g hg e;rw[A1.1 hg]at e;have:=(u.lt e).1;rw[HZ.out]at this;omega)
    refine aA ⟨⟨A,by omega,⟨⟨Q.1.1,?_⟩,Q.2⟩,?_⟩,kk⟩
    ·rcases Q.1.2 with h9|⟨g,cp,aj,e1,e2,ak⟩
     ·exact .inl h9
     ·exact .inr ⟨g,cp,aj,e1,by rw[HZ.out]at e2;omega,ak⟩
    ·unfold qZ;refine cT fun k hk=>?_
     rw[bD hk,bD hk];unfold cQ;rw[C];by_cases e:k / 64<a.length
     ·rw[if_pos e,pS (dM a0 _) (dM a1 _)]
     ·rw[if_neg e];have:a.getD (k / 64) 0=0:=by rw[List.getD_eq_getElem?_getD,List.getElem?_eq_none (Nat.le_of_not_lt e)];rfl
      rw[this];simp
   clear l r a9;go_wp2;refine IG (v:=.agg #[.slice j a.length f]) (by simp[results,Tryz.results115,go_sem,ah.out]) rfl ?_
   exact⟨_,rfl,HF.out⟩
end
section
open Go.RowKit Go.Shelf
attribute [local go_sem] Oper.semAt_some
variable {B:Nat} {c:Way} {n:Nat} {s:St}
structure LI(w:World)(B:Nat)(c:Way)(n:Nat)(G:GV)(L:List Nat)(bxs:List (Nat × Array Value × TypeId))(vts:List (Value × List Nat × Nat))(W:World)(st:St)(G':GV):Prop where
 gm:GM W B c n G' st
 ch:GCh w W G G'
 bx:∀q∈bxs,W.heap[q.1]?=some (.cells q.2.1 q.2.2 (0,0))∧q.1 ∉ G'.foot
 vt:∀q∈vts,aO W q.2.2 q.1 q.2.1∧∀g,q.1.ownBlock=some g→g ∉ G'.foot
 lb:∀k∈L,k ∉ G'.foot∧k<W.heap.size
variable {w:World} {G:GV} {L:List Nat} {bxs:List (Nat × Array Value × TypeId)} {vts:List (Value × List Nat × Nat)} {W W':World} {st st':St} {G' G1:GV}
theorem LI.own(h:LI w B c n G L bxs vts W st G'){D:Nat}(H:w.heap.size≤D){i:Option Nat}(A:W.grownBy W' i)(hr:∀r,i=some r→D≤r∧∃o:Obj,W.heap[r]?=some o∧o.isCells=false):LI w B c n G L bxs vts W' st G':=by
 have a:=aS A;have C:∀b∈i.toList,b ∉ G'.foot:=fun b m=>by
  obtain⟨_,o,l,f⟩:=hr b (by simpa using m);exact h.gm.gu l f
 have u:∀ {b:Nat} {p:Array sA} {T:I1} {x:Nat × Nat},W.heap[b]?=some (.cells p T x)→b ∉ i.toList:=by intro b p T x m t;obtain⟨_,o,l,f⟩:=hr b (by simpa using t);rw[m]at l;cases l;cases f
 refine⟨h.gm.beside a C,?_,fun q d=>⟨a.heap (h.bx q d).1 (u (h.bx q d).1),(h.bx q d).2⟩,fun q d=>⟨(h.vt q d).1.kb a (fun g E e=>?_),(h.vt q d).2⟩,fun k y=>⟨(h.lb k y).1,A2 (h.lb k y).2 a.size⟩⟩
 ·refine⟨⟨a.os.trans h.ch.kb.os,a.tape.trans h.ch.kb.tape,a.output.trans h.ch.kb.output,IH h.ch.kb.size a.size,fun j z F=>?_⟩,h.ch.ft,h.ch.e1,h.ch.e2,h.ch.e3⟩;refine(a.block j (A2 z h.ch.kb.size) (fun t=>?_)).trans (h.ch.kb.block j z F);have:=(hr j (by simpa using t)).1;omega
 ·obtain⟨p,f⟩:=(h.vt q d).1.block e;exact u f E
theorem LI.call(h:LI w B c n G L bxs vts W st G')(h1:GM W' B c n G1 st')(c1:GCh W W' G' G1):LI w B c n G L bxs vts W' st' G1∧(∀D,Ju D W W')∧KpB L W W':=by
 have j:∀b,b<W.heap.size→b ∉ G'.foot→b ∉ G1.foot:=fun b r o p=>by
  rcases c1.ft b p with m|m
  ·exact o m
  ·omega
 refine⟨⟨h1,h.ch.trans c1,fun q l=>?_,fun q l=>?_,fun k f=>?_⟩,fun D=>bO c1.kb h.gm.isCells D,fun k f=>c1.kb.block k (h.lb k f).2 (h.lb k f).1⟩
 ·obtain⟨d,a⟩:=h.bx q l;exact⟨c1.kb.heap d a,j _ (aB d) a⟩
 ·obtain⟨d,a⟩:=h.vt q l;exact⟨d.kb c1.kb (fun g i e=>a g e i),fun g i=>j g (d.lt i).2 (a g i)⟩
 ·obtain⟨d,a⟩:=h.lb k f;exact⟨j k a d,A2 a c1.kb.size⟩
theorem LI.fresh(h:LI w B c n G L bxs vts W st G')(a:Kb [] W W'):LI w B c n G L bxs vts W' st G'∧(∀D,Ju D W W')∧KpB L W W':=
 h.call (h.gm.fresh a) ⟨a.mono (by simp),fun _ b=>.inl b,rfl,rfl,rfl⟩
theorem LI.fk(h:LI w B c n G L bxs vts W st G'){b:Nat}{d:Array sA}{T:I1}(e:W.heap[b]?=some (.cells d T (0,0)))(f:b ∉ G'.foot):LI w B c n G L ((b,d,T)::bxs) vts W st G':=by
 refine⟨h.gm,h.ch,fun q a=>?_,h.vt,h.lb⟩;rcases sT.1 a with rfl|a
 ·exact⟨e,f⟩
 ·exact h.bx q a
theorem LI.ia(h:LI w B c n G L bxs vts W st G'){v:sA}{t:List Nat}{B':Nat}(b:aO W B' v t)(d:∀g,v.ownBlock=some g→g ∉ G'.foot):LI w B c n G L bxs ((v,t,B')::vts) W st G':=by
 refine⟨h.gm,h.ch,h.bx,fun q a=>?_,h.lb⟩;rcases sT.1 a with rfl|a
 ·exact⟨b,d⟩
 ·exact h.vt q a
theorem LI.k7(h:LI w B c n G L bxs vts W st G'){L':List Nat}(a:∀k∈L',k∈L):LI w B c n G L' bxs vts W st G':=⟨h.gm,h.ch,h.bx,h.vt,fun k b=>h.lb k (a k b)⟩
theorem LI.iu(h:LI w B c n G L bxs vts W st G'){bxs':List (Nat × Array sA × I1)}(a:∀k∈bxs',k∈bxs):LI w B c n G L bxs' vts W st G':=⟨h.gm,h.ch,fun k b=>h.bx k (a k b),h.vt,h.lb⟩
theorem LI.l8(h:LI w B c n G L bxs vts W st G'){a:List (sA × List Nat × Nat)}(b:∀k∈a,k∈vts):LI w B c n G L bxs a W st G':=⟨h.gm,h.ch,h.bx,fun k d=>h.vt k (b k d),h.lb⟩
theorem LI.start(h:GM w B c n G s):LI w B c n G [] [] [] w s G:=⟨h,GCh.refl _ _,by simp,by simp,by simp⟩
theorem LI.gg(h:LI w B c n G L bxs vts W st G'){b:Nat}(d:W.heap.size≤b):b ∉ G'.foot:=fun a=>by have:=h.gm.gh b a;omega
theorem LI.turned(h:LI w B c n G L bxs vts W st G'){D:Nat}{o:Obj}(b:W.heap[D]?=some o)(d:o.isCells=false)(f:w.heap.size≤D)(a:Obj):LI w B c n G L bxs vts (W.putObj D a) st G':=
 h.own f (grownBy_putObj' W D a) (fun r e=>by cases e;exact⟨gO _,o,b,d⟩)
end
section
open Go.RowKit Go.Shelf
attribute [local go_sem] Oper.semAt_some
variable {B:Nat} {c:Way} {n:Nat} {s:St}
def oD(B:Nat)(c:Way)(n:Nat):Prop:=∀(s:St) (a b:Nat) (w:vF) (G:GV),GM w B c n G s→WF n s→a<n→b<n→s.un+1<4611686018427387904 →
  I5 hE 123 #[.pointer (some ⟨G.bg,0,none⟩),.int .u64 a,.int .u64 b] w fun e d=>e=.returned (.bool (s.merge a b).1)∧∃G',GM d B c n G' (s.merge a b).2∧GCh w d G G'
def eC(a:Nat)(x:Bool × St)(b:Nat):Bool × St:=((x.2.merge a b).1 || x.1,(x.2.merge a b).2)
def lN(tw:List Nat)(x:Bool × St)(t:Nat):Bool × St:=tw.foldl (eC t) x
theorem WF.jb{a:Nat}(d:a<n):∀(l:List Nat) (x:Bool × St),WF n x.2→(∀b∈l,b<n)→WF n (l.foldl (eC a) x).2∧(l.foldl (eC a) x).2.un≤x.2.un+l.length:=by
 intro l;induction l with
 |nil=>exact fun x h _=>⟨h,gO _⟩
 |cons b r g=>intro x h e;have f:=e b Bx;have i:=h.merge d f;have j:=St.jg x.2 h.len (h.lt d) (h.lt f);obtain⟨k,o⟩:=g (eC a x b) i (fun y m=>e y (C1 _ m));refine⟨k,?_⟩;simp only[JB,Jn];have:(eC a x b).2.un≤x.2.un+1:=j;omega
theorem WF.j3{tw:List Nat}(d:∀b∈tw,b<n):∀(l:List Nat) (x:Bool × St),WF n x.2→(∀b∈l,b<n)→WF n (l.foldl (lN tw) x).2∧(l.foldl (lN tw) x).2.un≤x.2.un+l.length*tw.length:=by
 intro l;induction l with
 |nil=>exact fun x h _=>⟨h,by simp⟩
 |cons b r e=>intro x h a;obtain⟨f,g⟩:=WF.jb (a b Bx) tw x h d;obtain⟨i,k⟩:=e (lN tw x b) f (fun y j=>a y (C1 _ j));refine⟨i,?_⟩;simp only[JB,Jn];have:(lN tw x b).2.un≤x.2.un+tw.length:=g;rw[Nat.succ_mul];omega
theorem oS(a:Nat):∀(l:List Nat) (x:Bool × St),l.foldl (eC a) x=((x.2.mergeAll a l).1 || x.1,(x.2.mergeAll a l).2):=by
 intro l;have d:∀(l:List Nat) (y:Bool × St) (f:Bool),l.foldl (eC a) (y.1 || f,y.2)=((l.foldl (eC a) y).1 || f,(l.foldl (eC a) y).2):=by
  intro l;induction l with
  |nil=>exact fun _ _=>rfl
  |cons b r g=>
   intro y f;simp only[JB];have e:eC a (y.1 || f,y.2) b=((eC a y b).1 || f,(eC a y b).2):=by unfold eC;simp[Bool.or_assoc]
   rw[e,g]
 intro x;have:=d l (false,x.2) x.1;simp only[Bool.false_or]at this;exact this
theorem rP(s:St)(m:Nat)(T:List Nat):T.foldl (lN (s.tw m)) (false,s)=s.collapse m T:=by
 unfold St.collapse;simp only[];generalize (false,s)=x;generalize s.tw m=tw;induction T generalizing x with
 |nil=>rfl
 |cons t r a=>simp only[JB];have e:lN tw x t=((x.2.mergeAll t tw).1 || x.1,(x.2.mergeAll t tw).2):=oS t tw x;rw[e];exact a _
theorem LI.ji{w:vF}{G:GV}{L:List Nat}{bxs:List (Nat × Array sA × I1)}{vts:List (sA × List Nat × Nat)}{W:vF}{st:St}{G':GV}{b:Nat}{u:sA}{T:I1}(h:LI w B c n G L ((b,#[u],T)::bxs) vts W st G')(v:sA)(o:w.heap.size≤b)(h1:∀q∈bxs,q.1≠b)(h2:∀q∈vts,q.1.ownBlock≠some b)(h3:b ∉ L) :
  LI w B c n G L ((b,#[v],T)::bxs) vts (W.setCell ⟨b,0,none⟩ v) st G'∧(∀D,Ju D W (W.setCell ⟨b,0,none⟩ v))∧KpB L W (W.setCell ⟨b,0,none⟩ v):=by
 have d:Kb [b] W (W.setCell ⟨b,0,none⟩ v):=(Kb.refl _ _).setCell (p:=⟨b,0,none⟩) (.inl (by simp)) _;obtain⟨r,m⟩:=h.bx (b,#[u],T) Bx;refine⟨⟨h.gm.beside d (by intro x i;rw[A1.1 i];exact m),h.ch.beside d (by intro x i;rw[A1.1 i];exact o),fun q a=>?_,fun q a=>?_,fun k f=>⟨(h.lb k f).1,A2 (h.lb k f).2 d.size⟩⟩,fun D=>(KeepsOthers.setCell W _ v).from D,fun k f=>d.block k (h.lb k f).2 (by simp;exact fun e=>h3 (e ▸ f))⟩
 ·rcases sT.1 a with rfl|a
  ·exact⟨by rw[aI r];rfl,m⟩
  ·obtain⟨j,l⟩:=h.bx q (C1 _ a);exact⟨d.heap j (by simp;exact h1 q a),l⟩
 ·obtain⟨j,l⟩:=h.vt q a;exact⟨j.kb d (by intro g t;rw[A1.1 t];exact h2 q a),l⟩
theorem GM.ie{W:vF}{G1 f:GV}{l m:St}(h1:GM W B c n G1 l)(h2:GM W B c n f m)(e:G1.bg=f.bg):G1.foot=f.foot:=by have a:=h1.hbg;rw[e,h2.hbg]at a;injection a with a;injection a with a _ _;unfold mI at a;have g:=congrArg Np a;simp only[NI,Value.slice.injEq,Value.pointer.injEq,Option.some.injEq,Addr.mk.injEq,and_true,true_and]at g;obtain⟨⟨h,u⟩,o,i,p,_⟩:=g;have d:=h1.hbn;rw[← h,h2.hbn]at d;injection d with d;injection d with d _ _;have j:=congrArg Np d;simp only at j;have b:=h1.hbl;rw[← i,h2.hbl]at b;injection b with b;injection b with b _ _;unfold gG at b;have k:=congrArg Np b;simp only[NI,and_true,true_and]at k;obtain⟨q,r,t⟩:=k;unfold GV.foot;rw[e,h,i,j,o,p,q,r,t]
theorem vK(m b2 I:Nat)(hM:s.tw m≠[]→oD B c n)(a9:Array sA)(T2:I1)(v2:sA)(B2:Nat)(T:List Nat)(w:vF)(G:GV)(h:GM w B c n G s)(hw:WF n s)(hT:bN w)(c1:0<B)(p:m<n)(b7:w.heap[b2]?=some (.cells a9 T2 (0,0)))(b8:a9[I]?=some v2)(aj:aO w B2 v2 T)(a4:∀x∈T,x<n)(hu:s.un+20000<4611686018427387904) :
  I5 hE 116 #[.pointer (some ⟨G.bg,0,none⟩),.int .u64 m,.pointer (some ⟨b2,I,none⟩)] w fun e w'=>e=.returned (.bool (s.collapse m T).1)∧∃G',GM w' B c n G' (s.collapse m T).2∧GCh w w' G G':=by
 have hn:=h.n40;obtain⟨r0,r1,r2,r3,r4,r5,r7,r9,b9⟩:=h.reads;have c2:∀(fn:Fn) (first ak:Array sA) (w:vF),(Instr.makeFunc fn first ak).run hE w=.ok (.func fn first ak) w:=fun _ _ _ _=>rfl
 obtain⟨f,J⟩:∃f,f=(w.alloc (.cells #[.pointer (some ⟨G.bg,0,none⟩)] 101)).alloc (.cells #[.bool false] 4):=⟨_,rfl⟩;have k0:Kb [] w f:=by rw[J];exact((Kb.refl [] w).alloc _).alloc _
 have l:f.heap.size=w.heap.size+2:=by rw[J];simp
 have x0:f.heap[w.heap.size]?=some (.cells #[.pointer (some ⟨G.bg,0,none⟩)] 101 (0,0)):=by rw[J];exact aF (aD _ _) _
 have m0:f.heap[w.heap.size+1]?=some (.cells #[.bool false] 4 (0,0)):=by rw[J];have:=aD (w.alloc (.cells #[.pointer (some ⟨G.bg,0,none⟩)] 101)) (.cells #[.bool false] 4);rw[World.size_alloc]at this;exact this
 have h0:=h.fresh k0;have al:=h0.reads.2.2.2.2.2.1;have am:f.cell? ⟨w.heap.size,0,none⟩=some (.pointer (some ⟨G.bg,0,none⟩)):=by rw[aC x0];rfl
 obtain⟨vt,a1,q',qs⟩:=h0.get (k:=7*m+5) (by omega);have HA:=dN B G.bn (7*m+5) _ TNd vt _ f h0.hbn q' qs;rw[show 7*m+5=m*7+5 by omega]at HA;have et:s.ss.getD (m*7+5) []=s.tw m:=by unfold St.tw;rw[show m*7+5=7*m+5 by omega]
 rw[et]at HA;have L0:LI w B c n G [] [(w.heap.size+1,#[.bool false],4),(w.heap.size,#[.pointer (some ⟨G.bg,0,none⟩)],101)] [] f s G:=by
  have h9:=((LI.start h).fresh k0).1;have nf:∀b,w.heap.size≤b→b ∉ G.foot:=fun b P p=>by have:=h.gh b p;omega
  exact(h9.fk x0 (nf _ (gO _))).fk m0 (nf _ (by omega))
 refine(IV (n:=20)).1 ?_
 refine callsIn_of_wp_marks Tryz.func116 rfl trivial ?_ rfl;simp only[Tryz.ntmps116,List.size_toArray,Jn,J1,Nat.reduceAdd,Nat.reduceSub,Array.replicate_succ,Array.replicate_zero,List.push_toArray,List.append_toArray,List.nil_append,List.cons_append];rw[J]at HA al am;gi_wp2
 refine⟨trivial,?_⟩;refine(IV.2 HA).mono ?_
 clear HA;rintro e q ⟨u,r,rfl,an,ao,Q,k1⟩;rw[← J]at an Q k1;clear J al am a1 q' qs et;obtain⟨K,aa⟩:∃K,K=Value.func (.func 127) #[] #[.pointer (some ⟨u,0,none⟩)]:=⟨_,rfl⟩;obtain⟨z,a2⟩:∃z,z=q.alloc (.cells #[K] 153):=⟨_,rfl⟩;have k2:Kb [] q z:=by rw[a2];exact(Kb.refl [] q).alloc _
 have t2:z.heap[q.heap.size]?=some (.cells #[K] 153 (0,0)):=by rw[a2];exact aD _ _
 have z2:z.heap.size=q.heap.size+1:=by rw[a2];simp
 have L1:=(L0.fresh k1).1;have ap:=(L1.fk ao (L0.gg an)).ia Q (fun aq i=>L0.gg (Q.lt i).1);have L2:=((ap.fresh k2).1).fk t2 (L1.gg (gO _));have R:Kb [] w z:=(k0.trans k1).trans k2;have ab:=dN B2 b2 I a9 T2 v2 T z (R.heap b7 (by simp)) b8 (aj.kb R (by simp));rw[a2,aa]at ab;gi_wp2
 refine⟨trivial,?_⟩;refine(IV.2 ab).mono ?_
 clear ab;rintro e M ⟨a5,va,rfl,ba,ar,a3,S⟩;rw[← aa,← a2]at ba a3 S;have L3:=(L2.fresh S).1;obtain⟨L,U⟩:∃L,L=0::(va.ownBlock.toList++r.ownBlock.toList):=⟨_,rfl⟩;have au:∀k∈L,k ∉ G.foot∧k<M.heap.size:=by
  intro k a;rw[U]at a;rcases sT.1 a with rfl|a
  ·refine⟨fun p=>?_,?_⟩
   ·have:=(h.cells p).1;omega
   ·have:=h.hB;have:=R.size;have:=S.size;omega
  ·rcases IK.1 a with a|a
   ·simp at a;exact⟨L2.gg (a3.lt a).1,(a3.lt a).2⟩
   ·simp at a;have h9:=Q.lt a;exact⟨L0.gg h9.1,by have:=k2.size;have:=S.size;omega⟩
 have LL:LI w B c n G L _ _ M s G:=⟨L3.gm,L3.ch,L3.bx,L3.vt,au⟩;have bb:bN M:=hT.kb (R.trans S) (by simp);have c3:=k1.size;have c4:=S.size;have c5:∀x,x∈T→x<128:=fun x V=>by have:=a4 x V;omega
 have a6:∀x∈s.tw m,x<n:=fun x V=>hw.bd _ x V
 have bc:=bZ 19 a5 z.heap.size va T L M ar a3 bb (fun aq i=>by rw[U];simp[i]) (by rw[U];simp);have bd:∀k∈L,k<M.heap.size:=fun k a=>(au k a).2
 have c6:T.length≤40:=by obtain⟨ws,_,_,e⟩:=aj;have:=sV (p:=cQ ws) (n:=n) (fun k a=>a4 k (by rw[e];exact a));rw[e];omega
 have bf:(s.tw m).length≤40:=by obtain⟨ws,_,_,e⟩:=Q;have:=sV (p:=cQ ws) (n:=n) (fun k a=>a6 k (by rw[e];exact a));rw[e];omega
 clear ao ar L0 L1 ap L2 L3 t2 h0 r0 r1 r2 r3 r4 r5 r7 r9 b9 x0 m0;gi_wp2
 obtain⟨bxs,A⟩:∃bxs:Bool→List (Nat × Array sA × I1),bxs=fun bg=>[(w.heap.size+1,#[.bool bg],4),(w.heap.size,#[.pointer (some ⟨G.bg,0,none⟩)],101),(q.heap.size,#[K],153),(u,#[r],110)]:=⟨_,rfl⟩
 have LS:LI w B c n G L (bxs false) [(r,s.tw m,f.heap.size)] M s G:=by
  rw[A];refine LL.iu (fun k a=>?_);simp only[sT,JT,or_false]at a ⊢;rcases a with rfl|rfl|rfl|rfl
  ·exact .inr (.inr (.inl rfl))
  ·exact .inr (.inr (.inr rfl))
  ·exact .inl rfl
  ·exact .inr (.inl rfl)
 have bh:=aA LS;have bi:∀pre:List (Mem T),WF n ((pre.map (·.1)).foldl (lN (s.tw m)) (false,s)).2∧((pre.map (·.1)).foldl (lN (s.tw m)) (false,s)).2.un≤s.un+pre.length*40:=by intro pre;obtain⟨d,p2⟩:=WF.j3 a6 (pre.map (·.1)) (false,s) hw (by intro b P;obtain⟨y,_,rfl⟩:=Jf.1 P;exact a4 y.1 y.2);refine⟨d,IH p2 ?_⟩;rw[JO];have:=Nat.mul_le_mul_left pre.length bf;show s.un+_≤_;omega
 have TT:I3 (∀ {W:vF} {G':GV},GCh w W G G'→bN W):=aA (fun hc=>hT.kb hc.kb (fun p=>by have:=(h.cells p).1;omega));clear LL LS;refine wpIn_rangeFunc_ownH (α:=Mem T) (hro:=rfl) (h1:=by omega) (gf:=127) (lb:=#[.pointer (some ⟨a5,0,none⟩)]) rfl trivial (enters_of Tryz.func127 (by kernel_rfl) rfl) bc (fun h1 h2=>h1.trans h2) (fZ bd) (Below.refl _ _) (fun _=>rfl)
  (fun pre W=>∃G',LI w B c n G L (bxs ((pre.map (·.1)).foldl (lN (s.tw m)) (false,s)).1) [(r,s.tw m,f.heap.size)] W ((pre.map (·.1)).foldl (lN (s.tw m)) (false,s)).2 G')
  (fun _ _ _=>False) ?hI (fun _ _ _ _ _ hs _ _=>hs) ⟨G,bh.out⟩
  (fun x a' W=>∃g Y s0,W.heap[g]?=some (.cells #[.int .u64 (x.1:Int)] 144 (0,0))∧GM W B c n Y s0∧Y.bg=G.bg∧g ∉ Y.foot∧a'={ tmps:=#[.pointer (some ⟨G.bg,0,none⟩),.int .u64 m,.pointer (some ⟨b2,I,none⟩),.pointer (some ⟨w.heap.size,0,none⟩),lZ,lZ,.bool false,.pointer (some ⟨w.heap.size+1,0,none⟩),.pointer (some ⟨q.heap.size,0,none⟩),.pointer (some ⟨g,0,none⟩),lZ,.pointer (some ⟨G.bg,0,none⟩),.pointer (some ⟨G.bg,0,none⟩),.pointer (some ⟨G.bg,5,none⟩),.slice (some ⟨G.bn,0,none⟩) n G.cap,.int .u64 m,.pointer (some ⟨G.bn,m*7,none⟩),.pointer (some ⟨G.bn,m*7+5,none⟩),.func (.func 127) #[] #[.pointer (some ⟨u,0,none⟩)],.pointer (some ⟨b2,I,none⟩),.func (.func 127) #[] #[.pointer (some ⟨a5,0,none⟩)],.int .u64 (x.1:Int),lZ,lZ,lZ,lZ,lZ,lZ,lZ,lZ,lZ,lZ],defers:=[] }) ?hAx ?assign ?body ?done ?stop
 case hI=>rintro pre W W' ad ⟨G',d⟩ i hr;exact⟨G',d.own (by have:=R.size;omega) i hr⟩
 case hAx=>
  rintro x a' _ W W' ad ⟨g,Y,s0,q2,q3,q4,q5,q6⟩ i hr;have a:=aS i;refine⟨g,Y,s0,a.heap q2 (fun p=>?_),q3.beside a (fun b P=>?_),q4,q5,q6⟩
  ·obtain⟨_,bm,ho,hc⟩:=hr g (by simpa using p);rw[q2]at ho;cases ho;cases hc
  ·obtain⟨_,bm,ho,hc⟩:=hr b (by simpa using P);exact q3.gu ho hc
 case assign=>
  rintro a7 pre x W bn ⟨G',d⟩ Z;have kA:Kb [] W (W.alloc (.cells #[.int .u64 (x.1:Int)] 144)):=(Kb.refl [] W).alloc _;obtain⟨z1,z2,z3⟩:=d.fresh kA;dsimp only[jO,Array.zip,Array.foldl];gi_wp2
  refine Z _ _ (z2 _) z3 ⟨G',z1⟩ ⟨W.heap.size,G',_,aD _ _,z1.gm,d.ch.e1,d.gg (gO _),rfl⟩
 case body=>
  rintro a7 pre ⟨x,av⟩ a' W hl ⟨bo,hr⟩ ⟨G',d⟩ ⟨g,Y,s0,q2,q3,q4,q5,rfl⟩ bp;have V:=a4 x av;have aw:g ∉ G'.foot:=by rw[d.gm.ie q3 (d.ch.e1.trans q4.symm)];exact q5
  obtain⟨wf,c8⟩:=bi pre;have e9:((pre++[(⟨x,av⟩:Mem T)]).map (·.1)).foldl (lN (s.tw m)) (false,s)=(s.tw m).foldl (eC x) ((pre.map (·.1)).foldl (lN (s.tw m)) (false,s)):=by rw[Jp,JE];rfl
  have bq:=aA e9;clear e9;generalize (pre.map (·.1)).foldl (lN (s.tw m)) (false,s)=C at *;have ct:W.cell? ⟨q.heap.size,0,none⟩=some K:=by have:=(d.bx (q.heap.size,#[K],153) (by rw[A];simp)).1;rw[aC this];rfl
  have ax:=(d.bx (u,#[r],110) (by rw[A];simp)).1;have ay:=(d.vt (r,s.tw m,f.heap.size) (by simp)).1;have br:bN W:=TT.out d.ch;rw[aa]at ct;have bs:=bZ 17 u f.heap.size r (s.tw m) L W ax ay br (fun aq i=>by rw[U];simp[i]) (by rw[U];simp);have ae:∀k∈L,k<W.heap.size:=fun k a=>(d.lb k a).2
  have p2:LI w B c n G L ((w.heap.size+1,#[.bool C.1],4)::(g,#[.int .u64 (x:Int)],144)::(bxs false).tail) [(r,s.tw m,f.heap.size)] W C.2 G':=by
   refine(d.fk q2 aw).iu (fun k a=>?_);rw[A]at a ⊢;simp only[Lm,sT,JT,or_false]at a ⊢;rcases a with rfl|rfl|rfl|rfl|rfl
   ·exact .inr (.inl rfl)
   ·exact .inl rfl
   ·exact .inr (.inr (.inl rfl))
   ·exact .inr (.inr (.inr (.inl rfl)))
   ·exact .inr (.inr (.inr (.inr rfl)))
  have c9:w.heap.size≤W.heap.size:=d.ch.kb.size;have bt:=aA p2;clear d q2 q3 q4 q5 aw ax ay p2;gi_wp2
  refine wpIn_rangeFunc_ownN (α:=Mem (s.tw m)) (l₀:=a7) (r₀:=bo) rfl hr (by omega) (gf:=127) (lb:=#[.pointer (some ⟨u,0,none⟩)]) rfl trivial (enters_of Tryz.func127 (by kernel_rfl) rfl) (bs.inRound a7) (fun h1 h2=>h1.trans h2) (fZ ae) (Below.refl _ _) (fun _=>rfl)
   (fun o W'=>∃G',LI w B c n G L ((w.heap.size+1,#[.bool ((o.map (·.1)).foldl (eC x) C).1],4)::(g,#[.int .u64 (x:Int)],144)::(bxs false).tail) [(r,s.tw m,f.heap.size)] W' ((o.map (·.1)).foldl (eC x) C).2 G'∧Ju M.heap.size W W'∧KpB L W W')
   (fun _ _ _=>False) ?hI2 (fun _ _ _ _ _ hs _ _=>hs) ⟨_,bt.out,KB _ _,KpB.refl _ _⟩
   (fun y az _=>az={ tmps:=#[.pointer (some ⟨G.bg,0,none⟩),.int .u64 m,.pointer (some ⟨b2,I,none⟩),.pointer (some ⟨w.heap.size,0,none⟩),lZ,lZ,.bool false,.pointer (some ⟨w.heap.size+1,0,none⟩),.pointer (some ⟨q.heap.size,0,none⟩),.pointer (some ⟨g,0,none⟩),.int .u64 (y.1:Int),.pointer (some ⟨G.bg,0,none⟩),.pointer (some ⟨G.bg,0,none⟩),.pointer (some ⟨G.bg,5,none⟩),.slice (some ⟨G.bn,0,none⟩) n G.cap,.int .u64 m,.pointer (some ⟨G.bn,m*7,none⟩),.pointer (some ⟨G.bn,m*7+5,none⟩),.func (.func 127) #[] #[.pointer (some ⟨u,0,none⟩)],.pointer (some ⟨b2,I,none⟩),.func (.func 127) #[] #[.pointer (some ⟨a5,0,none⟩)],.int .u64 (x:Int),.func (.func 127) #[] #[.pointer (some ⟨u,0,none⟩)],.int .u64 (y.1:Int),lZ,lZ,lZ,lZ,lZ,lZ,lZ,lZ],defers:=[] }) (fun _ _ _ _ _ _ hs _ _=>hs) ?assign2 ?body2 ?done2 ?stop2
  case hI2=>rintro o X bu ad ⟨G',j,D,N⟩ i af;refine⟨G',j.own (by omega) i af,ownFrom_keepsFrom (w₀:=W) (B':=W.heap.size) (gO _) o X bu ad D i af,fun k a=>?_⟩;rw[← N k a];refine(aS i).block k (A2 (ae k a) D.size) (fun p=>?_);have h8:=(af k (by simpa using p)).1;have h9:=ae k a;omega
  case assign2=>
   rintro l2 o y X bn hi Z;dsimp only[jO,Array.zip,Array.foldl];gi_wp2
   exact Z _ _ (KB _ _) (KpB.refl _ _) hi rfl
  case body2=>
   rintro l2 o ⟨y,ag⟩ az X _ _ ⟨G2,j,D,N⟩ rfl ca;have hy:=a6 y ag;obtain⟨bv,bw⟩:=WF.jb V (o.map (·.1)) C wf (by intro b P;obtain⟨aV,_,rfl⟩:=Jf.1 P;exact a6 aV.1 aV.2);have e8:((o++[(⟨y,ag⟩:Mem (s.tw m))]).map (·.1)).foldl (eC x) C=eC x ((o.map (·.1)).foldl (eC x) C) y:=by rw[Jp,JE];rfl
   have b0:=aA e8;clear e8;rw[JO]at bw;generalize (o.map (·.1)).foldl (eC x) C=l at *;have cg:X.cell? ⟨w.heap.size,0,none⟩=some (.pointer (some ⟨G.bg,0,none⟩)):=by have:=(j.bx (w.heap.size,#[.pointer (some ⟨G.bg,0,none⟩)],101) (by rw[A];simp)).1;rw[aC this];rfl
   have cx:X.cell? ⟨g,0,none⟩=some (.int .u64 (x:Int)):=by have:=(j.bx (g,#[.int .u64 (x:Int)],144) (by simp)).1;rw[aC this];rfl
   have cb:pre.length<T.length:=bp;have cd:pre.length*40≤40*40:=Nat.mul_le_mul (by omega) (gO _);have bx:s.tw m≠[]:=List.ne_nil_of_mem ag;have HM:=hM bx l.2 x y X G2 j.gm bv V hy (by omega);rw[j.ch.e1]at HM;have HC:=aA (And.intro j (And.intro D N));clear j D N;gi_wp2
   refine⟨trivial,?_⟩;refine(Je l2 (Je a7 (IV.2 HM))).mono ?_
   clear HM;rintro e O ⟨rfl,G3,b1,b3⟩;obtain⟨d1,d2,d3⟩:=HC.out.1.call b1 b3;obtain⟨E,bz⟩:=d1.bx (w.heap.size+1,#[.bool l.1],4) (by simp);have cm:O.cell? ⟨w.heap.size+1,0,none⟩=some (.bool l.1):=by rw[aC E];rfl
   have fm:O.frozen? ⟨w.heap.size+1,0,none⟩=false:=aE E 0;have b4:∀v,LI w B c n G L ((w.heap.size+1,#[v],4)::(g,#[.int .u64 (x:Int)],144)::(bxs false).tail) [(r,s.tw m,f.heap.size)] (O.setCell ⟨w.heap.size+1,0,none⟩ v) (l.2.merge x y).2 G3∧(∀a8,Ju a8 O (O.setCell ⟨w.heap.size+1,0,none⟩ v))∧KpB L O (O.setCell ⟨w.heap.size+1,0,none⟩ v):=by
    intro v;refine d1.ji v (by omega) (fun a1 F=>?_) (fun a1 F=>?_) ?_
    ·have a0:=(d1.bx a1 (C1 _ F)).1;intro e;rcases sT.1 F with rfl|F
     ·exact aP a0 E (by dsimp only;decide) e
     ·rw[A]at F;simp only[Lm,sT,JT,or_false]at F;rcases F with rfl|rfl|rfl
      ·exact aP a0 E (by dsimp only;decide) e
      ·exact aP a0 E (by dsimp only;decide) e
      ·exact aP a0 E (by dsimp only;decide) e
    ·have a0:=(d1.vt a1 F).1;exact a0.ne E (by dsimp only;decide)
    ·rw[U];intro t;rcases sT.1 t with e|t
     ·omega
     ·rcases IK.1 t with t|t
      ·simp at t;have:=(a3.lt t).1;have:=k2.size;omega
      ·simp at t;have:=(Q.lt t).1;omega
   have b5:=aA b4;have H:=aA (And.intro d2 d3);clear d1 d2 d3 E bz b4 b1 b3;have HE:I3 (eC x l y=((l.2.merge x y).1 || l.1,(l.2.merge x y).2)):=aA rfl;cases b6:(l.2.merge x y).1
   ·gi_wp2
    obtain⟨f1,f2,f3⟩:=b5.out (.bool l.1);refine⟨(H.out.1 _).trans (f2 _),H.out.2.trans f3,G3,?_,HC.out.2.1.trans ((H.out.1 _).trans (f2 _)),HC.out.2.2.trans (H.out.2.trans f3)⟩;rw[b0.out,HE.out,b6,Bool.false_or];exact f1
   ·gi_wp2
    obtain⟨f1,f2,f3⟩:=b5.out (.bool true);refine⟨(H.out.1 _).trans (f2 _),H.out.2.trans f3,G3,?_,HC.out.2.1.trans ((H.out.1 _).trans (f2 _)),HC.out.2.2.trans (H.out.2.trans f3)⟩;rw[b0.out,HE.out,b6,Bool.true_or];exact f1
  case done2=>
   rintro xs X ah ⟨G2,j,D,N⟩;rw[ah]at j;have HF:=aA (And.intro j (And.intro D N));clear j D N;gi_wp2
   refine⟨HF.out.2.1,HF.out.2.2,G2,?_⟩;rw[bq.out];refine HF.out.1.iu (fun k a=>?_);rw[A]at a ⊢;simp only[Lm,sT,JT,or_false]at a ⊢;rcases a with rfl|rfl|rfl|rfl
   ·exact .inl rfl
   ·exact .inr (.inr (.inl rfl))
   ·exact .inr (.inr (.inr (.inl rfl)))
   ·exact .inr (.inr (.inr (.inr rfl)))
  case stop2=>rintro cc o X _ hF;exact hF.elim
 case done=>
  rintro a8 xs W hD ah ⟨G',d⟩ Z;rw[ah,rP]at d;have cm:W.cell? ⟨w.heap.size+1,0,none⟩=some (.bool (s.collapse m T).1):=by have:=(d.bx (w.heap.size+1,#[.bool (s.collapse m T).1],4) (by rw[A];simp)).1;rw[aC this];rfl
  have bF:w.heap.size≤a8:=by have:=R.size;omega
  have pf:=d.turned Z rfl bF (.deferred none);have HP:=aA (And.intro pf.gm pf.ch);clear d pf;obtain⟨fl,ai⟩:∃fl,fl=(s.collapse m T).1:=⟨_,rfl⟩;rw[← ai]at cm;have c0:=aA ai;clear ai;gi_wp2
  refine⟨by simp,.inl ⟨_,_,rfl,run_takeDeferred Z,?_⟩⟩;exact⟨_,results_tmp rfl _ _ _,by rw[← c0.out];rfl,G',HP.out.1,HP.out.2⟩
 case stop=>rintro a8 cc pre W _ _ hF _;exact hF.elim
end
section
open Go.RowKit Go.Shelf
def nrm(K:Act→vF→Prop):Exit→Act→vF→Prop
 | .normal,a,w=>K a w
 |_,_,_=>False
theorem jP{P:Program}{c:Code}{K b:Act→vF→Prop}{d:Exit→Act→vF→Prop}{a:Act}{w:vF}(h:c.wp P (nrm K) a w)(f:∀a w,K a w→b a w):c.wp P (Exit.then b d) a w:=
 Code.wp_mono (fun e a w h=>by cases e<;>first|exact f _ _ h|exact h.elim) h
theorem nG{m:Nat}{P:Program}{c:Code}{K b:Act→vF→Prop}{d:Exit→Act→vF→Prop}{a:Act}{w:vF}(h:c.wp P (nrm K) a w)(e:∀a w,K a w→b a w):c.wpIn Fence.wide m P (Exit.then b d) a w:=wpIn_wide.2 (jP h e)
theorem aO.low{w:vF}{B B':Nat}{v:sA}{t:List Nat}(h:aO w B v t)(o:B'≤B):aO w B' v t:=by
 obtain⟨d,f,b,e⟩:=h;refine⟨d,f,⟨?_,b.2⟩,e⟩;obtain⟨i,a⟩:=b.1;refine⟨i,?_⟩;rcases a with a|⟨g,j,k,l,p,m⟩
 ·exact .inl a
 ·exact .inr ⟨g,j,k,l,by omega,m⟩
theorem aO.form{w:vF}{B:Nat}{v:sA}{t:List Nat}(h:aO w B v t):∃ao l cap,v=.slice ao l cap:=by obtain⟨b,_,a,_⟩:=h;obtain⟨ao,cap,e,_⟩:=a.form;exact⟨ao,_,cap,e⟩
theorem aO.len{w:vF}{B n:Nat}{v:sA}{t:List Nat}(h:aO w B v t)(a:∀x∈t,x<n):t.length≤n:=by obtain⟨b,_,_,e⟩:=h;have:=sV (p:=cQ b) (n:=n) (fun k d=>a k (by rw[e];exact d));rw[e];exact this
variable {B:Nat} {c:Way} {n:Nat} {s:St}
theorem gH(k b2 a:Nat)(T:List Nat)(w:vF)(G:GV)(h:GM w B c n G s)(f:k<7*n)(g:ArgS w B G k b2 a T) :
  I5 hE 120 #[.pointer (some ⟨G.bn,k,none⟩),.pointer (some ⟨b2,a,none⟩)] w fun e w'=>e=.returned (.bool (iM (s.ss.getD k []) T))∧∃G',GM w' B c n G' (s.put k (cP (s.ss.getD k []) T))∧GCh w w' G G':=by
 obtain⟨b,d,i,j⟩:=h.get f;obtain⟨l,m,o,p,q,r,D,E,t,u,x⟩:=g.ex;refine(wG B G.bn k b2 a G.nv.toArray l TNd m b o _ T w h.hB (by decide) r h.hbn i p q t j u (x b d)).mono ?_
 rintro e w' ⟨rfl,F,y,z⟩;obtain⟨A,C⟩:=h.j8 d z y;exact⟨rfl,_,A,C⟩
theorem WF.lx(h:WF n s){m x:Nat}(a:x∈s.heirsOf m):x<n:=by obtain⟨_,_,y,b,e⟩:=fI.1 a;rw[← e];exact h.lt (h.bd _ y b)
theorem LI.arg{w:vF}{G:GV}{L:List Nat}{bxs:List (Nat × Array sA × I1)}{vts:List (sA × List Nat × Nat)}{W:vF}{st:St}{G':GV}(h:LI w B c n G L bxs vts W st G'){b:Nat}{v:sA}{t:List Nat}(a:(b,#[v],112)∈bxs)(d:(v,t,B)∈vts)(k:Nat):ArgS W B G' k b 0 t:=by obtain⟨f,i⟩:=h.bx _ a;obtain⟨j,l⟩:=h.vt _ d;refine⟨#[v],_,v,f,rfl,by dsimp only;decide,by dsimp only;decide,by dsimp only;decide,.inl (fun e=>i (by dsimp only;rw[e];exact aG.2 (.inr (.inl rfl)))),j,fun m o g p q=>l g q ?_⟩;exact aG.2 (.inr (.inr (.inr (.inl ⟨m,IJ o,p⟩))))
theorem LI.cell{w:vF}{G:GV}{L:List Nat}{bxs:List (Nat × Array sA × I1)}{vts:List (sA × List Nat × Nat)}{W:vF}{st:St}{G':GV}(h:LI w B c n G L bxs vts W st G'){b:Nat}{v:sA}{T:I1}(a:(b,#[v],T)∈bxs):W.cell? ⟨b,0,none⟩=some v:=by rw[aC (h.bx _ a).1];rfl
theorem gN{W W':vF}{D:Nat}{o:Obj}(h:∀D,Ju D W W')(a:W.heap[D]?=some o)(b:o.isCells=false):W'.heap[D]?=some o:=(h D).same D o (gO _) a b
end
section
open Go.RowKit
theorem Dg:hE.stoodInHeld 48=false:=by kernel_rfl
theorem wP:hE.eqGuardType hE.depth 48=false:=by kernel_rfl
theorem Be:hE.underlying 48=some (.struct (hE.fieldsOf 48)):=by kernel_rfl
theorem zJ(k:Int)(p q:ByteArray)(w:vF):(binOp .neq 48 (.agg #[.int .i64 k,.string p,.string q]) (.agg #[.int .i64 k,.string p,.string q])).run hE w=.ok (.bool false) w:=by rw[run_neq_struct,run_equalIn_struct w 9999 _ _ _ Be Dg];simp[go_sem,Tryz.underlying48]
theorem EG:hE.stoodInHeld 27=false:=by kernel_rfl
theorem nH:hE.eqGuardType hE.depth 27=false:=by kernel_rfl
theorem Dh:hE.underlying 27=some (.struct (hE.fieldsOf 27)):=by kernel_rfl
theorem pW(k l:Int)(w:vF):(binOp .eql 27 (.agg #[.int .i64 k,.int .i64 l]) (.agg #[.int .i64 k,.int .i64 l])).run hE w=.ok (.bool true) w:=by rw[run_eql_struct,run_equalIn_struct w 9999 _ _ _ Dh EG];simp[go_sem,Tryz.underlying27]
end
section
open Go.RowKit Go.Maps
structure Fct where
 k:Int
 p:ByteArray
 q:ByteArray
def dX(k:Int)(p q:ByteArray):Bool:=decide (1≤k∧k≤4) && (bP p.data.toList && bP q.data.toList)
def fR(k:Int)(p q:ByteArray):ByteArray:=
 if k=1 then p++⟨#[32,61,32,38]⟩++q++⟨#[10]⟩
 else if k=3 then p++⟨#[32,61,32,42]⟩++q++⟨#[10]⟩
 else if k=4 then⟨#[42]⟩++p++⟨#[32,61,32]⟩++q++⟨#[10]⟩
 else p++⟨#[32,61,32]⟩++q++⟨#[10]⟩
theorem oZ(k:Int)(p q:ByteArray):(fR k p q).size≤p.size+q.size+5:=by
 unfold fR;have d:(⟨#[32,61,32,38]⟩:ByteArray).size=4:=rfl;have a:(⟨#[10]⟩:ByteArray).size=1:=rfl;have e:(⟨#[32,61,32,42]⟩:ByteArray).size=4:=rfl;have f:(⟨#[42]⟩:ByteArray).size=1:=rfl;have b:(⟨#[32,61,32]⟩:ByteArray).size=3:=rfl;split
 ·simp only[JH,d,a];omega
 ·split
  ·simp only[JH,e,a];omega
  ·split
   ·simp only[JH,f,b,a];omega
   ·simp only[JH,b,a];omega
def cX(l:List Fct):List (List UInt8):=l.flatMap fun f=>[f.p.data.toList,f.q.data.toList]
def Bf(a:List (List UInt8))(x:List UInt8):List (List UInt8):=if x∈a then a else a++[x]
def dU(l:List (List UInt8)):Nat:=(l.foldl Bf []).length
def cH(pre:List Fct)(f:Fct):Int:=
 if 12<f.p.size∨12<f.q.size then 5 else if 120≤pre.length then 6 else if 40<dU (cX (pre++[f]))then 7 else 0
def bK:List Fct→List Fct→List UInt8→List UInt8 × Int × Int
 |_,[],a=>(a,0,0)
 |pre,f::r,a=>
  if dX f.k f.p f.q=true then
   if cH pre f=0 then bK (pre++[f]) r (a++(fR f.k f.p f.q).data.toList)else([],cH pre f,(pre.length:Int)+1)
  else([],4,(pre.length:Int)+1)
theorem rQ(pre:List Fct)(a:List UInt8):bK pre [] a=(a,0,0):=by simp[bK]
theorem pX{pre r:List Fct}{f:Fct}{a:List UInt8}(h:dX f.k f.p f.q=false):bK pre (f::r) a=([],4,(pre.length:Int)+1):=by simp[bK,h]
theorem rR{pre r:List Fct}{f:Fct}{a:List UInt8}(h:dX f.k f.p f.q=true){e:Int}(b:cH pre f=e)(d:e≠0):bK pre (f::r) a=([],e,(pre.length:Int)+1):=by simp[bK,h,b,d]
theorem tS{pre r:List Fct}{f:Fct}{a:List UInt8}(h:dX f.k f.p f.q=true)(b:cH pre f=0):bK pre (f::r) a=bK (pre++[f]) r (a++(fR f.k f.p f.q).data.toList):=by simp[bK,h,b]
theorem jQ{pre:List Fct}{f:Fct}(h:12<f.p.size∨12<f.q.size):cH pre f=5:=by simp only[cH,if_pos h]
theorem jR{pre:List Fct}{f:Fct}(h:¬(12<f.p.size∨12<f.q.size))(h1:120≤pre.length):cH pre f=6:=by simp only[cH,if_neg h,if_pos h1]
theorem jS{pre:List Fct}{f:Fct}(h:¬(12<f.p.size∨12<f.q.size))(h1:¬120≤pre.length)(h2:40<dU (cX (pre++[f]))):cH pre f=7:=by simp only[cH,if_neg h,if_neg h1,if_pos h2]
theorem pY{pre:List Fct}{f:Fct}(h:¬(12<f.p.size∨12<f.q.size))(h1:¬120≤pre.length)(h2:¬40<dU (cX (pre++[f]))):cH pre f=0:=by simp only[cH,if_neg h,if_neg h1,if_neg h2]
theorem bG{α:Type}{l:List α}{i:Nat}{x:α}(h:l[i]?=some x):l.take (i+1)=l.take i++[x]:=by rw[List.take_add_one,h];rfl
theorem cR{α:Type}{l:List α}{i:Nat}{x:α}(h:l[i]?=some x):l.drop i=x::l.drop (i+1):=by obtain⟨a,rfl⟩:=List.getElem?_eq_some_iff.1 h;exact List.drop_eq_getElem_cons a
def pA(s:ByteArray):Lit:=.string s.data.toList
def fJ(l:List Fct):List Lit:=l.flatMap fun f=>[pA f.p,pA f.q]
def xS(a:List Lit):DataW Unit:=setOf (.agg []) a
theorem zK(l:List Fct)(f:Fct):fJ (l++[f])=fJ l++[pA f.p,pA f.q]:=by simp[fJ]
theorem pZ(l:List Fct):fJ l=(cX l).map KL:=by
 unfold fJ cX;induction l with
 |nil=>rfl
 |cons f r a=>rw[Ls,Ls,Jp,a];rfl
theorem EH(a:List (List UInt8))(x:List UInt8):(a.map KL).any (fun y=>y.sameKey (.string x))=decide (x∈a):=by
 induction a with
 |nil=>simp
 |cons y r b=>
  rw[List.map_cons,List.any_cons,b,J8];by_cases e:y=x
  ·subst e;have:(KL y).sameKey (.string y)=true:=by simp[Lit.sameKey]
   simp[this]
  ·have:(KL y).sameKey (.string x)=false:=sameKey_ne (by intro h;exact e (by injection h));simp[this];intro h;exact absurd h.symm e
theorem Di(l a:List (List UInt8)):(l.map KL).foldl addKey (a.map KL)=(l.foldl Bf a).map KL:=by
 induction l generalizing a with
 |nil=>rfl
 |cons x r b=>
  rw[List.map_cons,JB,JB];have e:addKey (a.map KL) (.string x)=(Bf a x).map KL:=by unfold addKey Bf;rw[EH];by_cases h:x∈a<;>simp[h]
  rw[e,b]
theorem Dj(l:List Fct):Maps.size (xS (fJ l))=dU (cX l):=by
 unfold xS dU;rw[size_setOf,pZ]
 ·have:=Di (cX l) [];rw[List.map_nil]at this;rw[this,JO]
 ·intro x a;rw[pZ]at a;obtain⟨y,_,rfl⟩:=Jf.1 a;trivial
end
section
open Go.RowKit Go.Maps Go.WideMaps
theorem Gl:Keyed hE 9:=string_keyed Kj
theorem mJ(w:vF) :
  I5 hE 62 #[] w fun e w'=>e=.returned (.pointer (some ⟨w.heap.size+1,0,none⟩))∧w'=(w.alloc (.map #[] 0)).alloc (.cells #[.int .i64 0,.map (some w.heap.size)] 158):=by
 have a:=@run_makeMap hE;go_enter Tryz.func62,Tryz.ntmps62
 go_wp2;go_ret
 exact⟨rfl,rfl⟩
def eI(b a n c:Nat)(d:List Lit)(w:vF):Prop:=
 w.heap[b]?=some (.cells #[.int .i64 n,.map (some a)] 158 (0,0))∧w.ownsMap hE 9 (OA (H:=Unit)) a c (xS d)
theorem EI(a:Nat)(k:Int)(p q:ByteArray)(w:vF)(h:12<p.size∨12<q.size)(b:p.size≤IU)(d:q.size≤IU) :
  I5 hE 64 #[.pointer (some ⟨a,0,none⟩),.agg #[.int .i64 k,.string p,.string q]] w fun e w'=>e=.returned (.int .i64 5)∧Below w.heap.size w w':=by
 unfold IU at b d;by_cases f:12<p.size
 ·go_enter MF,Mr
  go_wp2;go_ret
  exact⟨rfl,(Below.refl _ _).alloc (gO _) _⟩
 ·have g:12<q.size:=by omega
  go_enter MF,Mr
  go_wp2;go_ret
  exact⟨rfl,(Below.refl _ _).alloc (gO _) _⟩
theorem EJ(a d c:Nat)(f:List Lit)(k:Int)(p q:ByteArray)(w:vF)(h1:p.size≤12)(h2:q.size≤12)(b:eI a d 120 c f w) :
  I5 hE 64 #[.pointer (some ⟨a,0,none⟩),.agg #[.int .i64 k,.string p,.string q]] w fun e w'=>e=.returned (.int .i64 6)∧Below w.heap.size w w':=by
 have g:∀o,(w.alloc o).cell? ⟨a,0,none⟩=some (.int .i64 120):=fun o=>by rw[aC (aF b.1 o)];rfl
 clear b;go_enter MF,Mr
 go_wp2;go_ret
 exact⟨rfl,(Below.refl _ _).alloc (gO _) _⟩
theorem Dk{a b n c:Nat}{d:List Lit}{w:vF}(i:eI a b n c d w)(o:Obj)(v:Nat) :
  eI a b v c d ((w.setCell ⟨a,0,none⟩ (.int .i64 v)).alloc o)∧Kb [a,b] w ((w.setCell ⟨a,0,none⟩ (.int .i64 v)).alloc o):=by
 obtain⟨f,g⟩:=i;have j:b≠a:=by intro e;obtain⟨p,q,h,_⟩:=g;rw[e,f]at h;cases h
 have k:=aI f 0 (.int .i64 v);refine⟨⟨aF k o,?_⟩,((Kb.refl _ _).setCell (Or.inl (by simp)) _).alloc _⟩;have m:(w.setCell ⟨a,0,none⟩ (.int .i64 v)).ownsMap hE 9 (OA (H:=Unit)) b c (xS d):=g.setCell (by simpa using j) _;exact Kb.ownsMap (l:=[]) ((Kb.refl _ _).alloc o) m (by simp)
theorem CN{f a n c:Nat}{b:List Lit}{w:vF}(l:eI f a n c b w)(p:c<2000)(s:ByteArray)(q:s.size≤12) :
  ∃d,(Instr.mapUpdate 156 (.map (some a)) (.string s) (.agg #[])).run hE w.drew=.ok () d∧eI f a n (c+1) (b++[pA s]) d∧w.drew.grownBy d (some a):=by
 obtain⟨g,h⟩:=l;have m:w.drew.ownsMap hE 9 (OA (H:=Unit)) a c (xS b):=h;have i:w.drew.heap[f]?=some (.cells #[.int .i64 n,.map (some a)] 158 (0,0)):=g;obtain⟨d,hr,o,j⟩:=m.update Gl N4 (by unfold IU;omega) (keyOf_string_mk Kj (s:=s) (by unfold IU;omega)) (unitElem_mk (H:=Unit));refine⟨d,hr,⟨?_,?_⟩,j⟩
 ·refine(j.block f (aB i) ?_).trans i;intro e;obtain⟨r,t,k,_⟩:=h;rw[← Option.some.inj e,g]at k;cases k
 ·have e:xS (b++[pA s])=(xS b).put (pA s) (.agg []):=setOf_snoc _ _ _;rw[e];exact o
theorem EK(a b n c:Nat)(f:List Lit)(k:Int)(p q:ByteArray)(w:vF)(h1:p.size≤12)(h2:q.size≤12)(F:n<120)(I:c≤1000)(d:eI a b n c f w) :
  I5 hE 64 #[.pointer (some ⟨a,0,none⟩),.agg #[.int .i64 k,.string p,.string q]] w fun e w'=>
   (e=.returned (.int .i64 (if 40<Maps.size (xS (f++[pA p,pA q]))then 7 else 0)))∧Kb [a,b] w w'∧eI a b (n+1) (c+1+1) (f++[pA p,pA q]) w':=by
 have J:∀o,(w.alloc o).cell? ⟨a,0,none⟩=some (.int .i64 n):=fun o=>by rw[aC (aF d.1 o)];rfl
 have K:∀o,(w.alloc o).frozen? ⟨a,0,none⟩=false:=fun o=>aE (aF d.1 o) _
 have M:=aB d.1;obtain⟨g,j⟩:=Dk d (.cells #[.int .i64 k,.string p,.string q] 48) (n+1);have u:((n+1:Nat):Int)=(n:Int)+1:=by omega
 rw[u]at g j;clear u;have N:b<w.heap.size:=by obtain⟨O,P,C,_⟩:=d.2;exact aB C
 obtain⟨y,Q,l,m⟩:=CN g (by omega) p h1;have R:((w.setCell ⟨a,0,none⟩ (.int .i64 ((n:Int)+1))).alloc (.cells #[.int .i64 k,.string p,.string q] 48)).cell? ⟨a,1,none⟩=some (.map (some b)):=by rw[aC g.1];rfl
 obtain⟨z,S,i,A⟩:=CN l (by omega) q h2;have T:y.cell? ⟨a,1,none⟩=some (.map (some b)):=by rw[aC l.1];rfl
 have r:((w.setCell ⟨a,0,none⟩ (.int .i64 ((n:Int)+1))).alloc (.cells #[.int .i64 k,.string p,.string q] 48)).drew.heap[w.heap.size]?=some (.cells #[.int .i64 k,.string p,.string q] 48):=by
  have:=aD (w.setCell ⟨a,0,none⟩ (.int .i64 ((n:Int)+1))) (.cells #[.int .i64 k,.string p,.string q] 48);have e:(w.setCell ⟨a,0,none⟩ (.int .i64 ((n:Int)+1))).heap.size=w.heap.size:=by simp[World.setCell]
  rw[e]at this;exact this
 have U:y.cell? ⟨w.heap.size,2,none⟩=some (.string q):=by have h:=(m.block w.heap.size (aB r) (by simp;omega)).trans r;rw[aC h];rfl
 rw[JI,List.singleton_append]at i;have V:z.cell? ⟨a,1,none⟩=some (.map (some b)):=by rw[aC i.1];rfl
 have D:Kb [a,b] w z:=(((j.drew).grown m (by intro x t;cases t;simp)).drew).grown A (by intro x t;cases t;simp);have E:=i.2;clear r m A g l j;go_enter MF,Mr
 go_wp2;go_region
 go_wp2;go_region
 go_wp2_with (first|(at_len;refine wpList_len_own _ rfl _ 156 rfl 9 159 N4 (OA (H:=Unit)) b (c+1+1) (xS (f++[pA p,pA q])) rfl E ?_)|go_in)
 all_goals
  go_ret
  exact⟨rfl,D,i⟩
end
section
open Go.RowKit Go.Maps
theorem CO(a b:Nat)(pre:List Fct)(k:Int)(p q:ByteArray)(w:vF)(z:pre.length≤120)(r:p.size≤IU)(t:q.size≤IU)(i:eI a b pre.length (2*pre.length) (fJ pre) w) :
  I5 hE 64 #[.pointer (some ⟨a,0,none⟩),.agg #[.int .i64 k,.string p,.string q]] w fun e w'=>e=.returned (.int .i64 (cH pre ⟨k,p,q⟩))∧Kb [a,b] w w'∧(cH pre ⟨k,p,q⟩=0→eI a b (pre.length+1) (2*(pre.length+1)) (fJ (pre++[⟨k,p,q⟩])) w'):=by
 by_cases d:12<p.size∨12<q.size
 ·refine(EI a k p q w d r t).mono ?_
  rintro e w' ⟨rfl,j⟩;have:=jQ (pre:=pre) (f:=⟨k,p,q⟩) d;exact⟨by rw[this],Kb.gi j _,fun h=>absurd (this.symm.trans h) (by decide)⟩
 ·by_cases l:120≤pre.length
  ·have u:pre.length=120:=by omega
   have m:=jR (pre:=pre) (f:=⟨k,p,q⟩) d l;rw[u]at i;refine(EJ a b _ _ k p q w (by omega) (by omega) i).mono ?_
   rintro e w' ⟨rfl,j⟩;exact⟨by rw[m],Kb.gi j _,fun h=>absurd (m.symm.trans h) (by decide)⟩
  ·refine(EK a b pre.length (2*pre.length) (fJ pre) k p q w (by omega) (by omega) (by omega) (by omega) i).mono ?_
   rintro e w' ⟨rfl,x,o⟩;have y:fJ pre++[pA p,pA q]=fJ (pre++[⟨k,p,q⟩]):=(zK pre ⟨k,p,q⟩).symm;rw[y]at o ⊢;rw[Dj];refine⟨?_,x,fun _=>o⟩;by_cases g:40<dU (cX (pre++[⟨k,p,q⟩]))
   ·rw[jS d l g,if_pos g]
   ·rw[pY d l g,if_neg g]
def fG(b a:Nat)(d:List Fct)(w:vF):Prop:=
 ∀i k p q,d[i]?=some ⟨k,p,q⟩→w.cell? ⟨b,a+i*3,none⟩=some (.int .i64 k)∧w.cell? ⟨b,a+i*3+1,none⟩=some (.string p)∧w.cell? ⟨b,a+i*3+2,none⟩=some (.string q)
theorem fG.below{b e:Nat}{f:List Fct}{w w':vF}(h:fG b e f w){B:Nat}(a:Below B w w')(d:b<B):fG b e f w':=by intro i k p q g;obtain⟨j,l,m⟩:=h i k p q g;exact⟨(a.cell (p:=⟨b,_,none⟩) d).trans j,(a.cell (p:=⟨b,_,none⟩) d).trans l,(a.cell (p:=⟨b,_,none⟩) d).trans m⟩
def qA(a:List Fct):Prop:=∀f∈a,f.p.size≤IU∧f.q.size≤IU
def cV(v:sA)(a:List Fct)(w:vF):Prop:=
 ∃d e,v=.slice d a.length e∧a.length≤e∧(d=none→e=0)∧(a≠[]→∃b f,d=some ⟨b,f,none⟩∧b<w.heap.size∧fG b f a w)
theorem cV.below{v:sA}{a:List Fct}{w w':vF}(h:cV v a w)(d:Below w.heap.size w w'):cV v a w':=by obtain⟨f,g,rfl,i,j,h⟩:=h;refine⟨f,g,rfl,i,j,fun k=>?_⟩;obtain⟨b,l,rfl,e,m⟩:=h k;exact⟨b,l,rfl,A2 e d.size,m.below d e⟩
end
section
open Go.RowKit
theorem oE(c:Int)(w:vF) :
  I5 hE 105 #[.int .u8 c] w fun e w'=>e=.returned (.bool (bC c))∧w'=w:=by
 go_enter Tryz.func105,Tryz.ntmps105
 go_wp2;all_goals
  go_ret
  refine⟨mZ ?_,rfl⟩;rw[J8];simp[bC];omega
theorem gI(c:Int)(w:vF) :
  I5 hE 99 #[.int .u8 c] w fun e w'=>e=.returned (.bool (bC c))∧w'=w:=by
 go_enter Tryz.func99,Tryz.ntmps99
 go_wp2;all_goals
  go_ret
  refine⟨mZ ?_,rfl⟩;rw[J8];simp[bC];omega
theorem qB(c:Int)(w:vF) :
  I5 hE 104 #[.int .u8 c] w fun e w'=>e=.returned (.bool (dE c))∧w'=w:=by
 cases h:bC c;all_goals
  have H:I3 (bC c=_):=h;clear h;go_enter Tryz.func104,Tryz.ntmps104
  go_wp2_with (go_at_call 105;refine(oE _ _).mono ?_;rintro e w' ⟨rfl,rfl⟩;rw[H.out])
 all_goals
  go_ret
  refine⟨mZ ?_,rfl⟩;first|rw[fX H.out]|(rw[kM H.out,J8];simp;done)|(rw[kM H.out,J8];simp;omega)
theorem gJ(c:Int)(w:vF) :
  I5 hE 100 #[.int .u8 c] w fun e w'=>e=.returned (.bool (dE c))∧w'=w:=by
 cases h:bC c;all_goals
  have H:I3 (bC c=_):=h;clear h;go_enter Tryz.func100,Tryz.ntmps100
  go_wp2_with (go_at_call 99;refine(gI _ _).mono ?_;rintro e w' ⟨rfl,rfl⟩;rw[H.out])
 all_goals
  go_ret
  refine⟨mZ ?_,rfl⟩;first|rw[fX H.out]|(rw[kM H.out,J8];simp;done)|(rw[kM H.out,J8];simp;omega)
theorem bM(s:ByteArray)(w:vF)(j:s.size≤IU) :
  I5 hE 74 #[.string s] w fun e w'=>e=.returned (.bool (bP s.data.toList))∧w'=w:=by
 unfold IU at j;go_enter Tryz.func74,Tryz.ntmps74
 go_wp2;go_loop [3] (fun i=>∃k:Nat,k≤s.size∧i=.int .i64 k∧dH (s.data.toList.take k)=true) (fun i=>s.size-(intOf i).toNat)
 case atStart=>exact⟨0,IM _,rfl,rfl⟩
 case round=>
  obtain⟨k,p,rfl,g⟩:=hrel;have h:I3 (dH (s.data.toList.take k)=true):=g;clear g;by_cases l:k<s.size
  ·have a:=rL (s.data.toList.take k) s[k];rw[← wA s k l,h.out,Bool.true_and]at a;cases b:dE (s[k].toNat:Int)
   ·rw[b]at a;have d:I3 (bP s.data.toList=false):=rM _ (nA a);have f:I3 (dE (s[k].toNat:Int)=false):=b;clear a b;go_wp2_with (go_at_call 104;refine(qB _ _).mono ?_;rintro e w' ⟨rfl,rfl⟩;rw[f.out])
    go_ret
    exact⟨by rw[d.out];rfl,rfl⟩
   ·rw[b]at a;have m:I3 (dH (s.data.toList.take (k+1))=true):=a;have f:I3 (dE (s[k].toNat:Int)=true):=b;clear a b;go_wp2_with (go_at_call 104;refine(qB _ _).mono ?_;rintro e w' ⟨rfl,rfl⟩;rw[f.out])
    go_round
    case rel=>exact⟨k+1,by omega,by go_num,m.out⟩
    case measure=>simp[intOf];omega
  ·by_cases o:0<s.size
   ·have d:I3 (bP s.data.toList=bC s[0].toNat):=wB s o (tG h.out (by omega));go_wp2_with (go_at_call 105;refine(oE _ _).mono ?_;rintro e w' ⟨rfl,rfl⟩)
    go_ret
    exact⟨by rw[d.out];rfl,rfl⟩
   ·have d:I3 (bP s.data.toList=false):=nB s (by omega);go_wp2;go_ret
    exact⟨by rw[d.out];rfl,rfl⟩
end
section
open Go.RowKit Go.Maps
def cK(a b:ByteArray):Bool:=Op.bytesLess a.toList b.toList
def bI(l:List Fct):List ByteArray:=l.flatMap fun f=>[f.p,f.q]
def aX:List ByteArray→ByteArray→Nat
 | [],_=>0
 |x::r,s=>if cK x s=true then aX r s+1 else 0
def mK(l:List ByteArray)(s:ByteArray):List ByteArray:=
 if l[aX l s]?=some s then l else l.take (aX l s)++s::l.drop (aX l s)
def dV(l:List ByteArray):List ByteArray:=l.foldl mK []
theorem rS{a:List Fct}{j:Nat}{f:Fct}(h:a[j]?=some f):(bI a)[2*j]?=some f.p:=by
 induction a generalizing j with
 |nil=>simp at h
 |cons g r b=>
  cases j with
  |zero=>simp at h;subst h;simp[bI]
  |succ j=>
   simp at h;have:=b h;have e:2*(j+1)=(2*j)+1+1:=by omega
   rw[e];simpa[bI]using this
theorem tT{a:List Fct}{j:Nat}{f:Fct}(h:a[j]?=some f):(bI a)[2*j+1]?=some f.q:=by
 induction a generalizing j with
 |nil=>simp at h
 |cons g r b=>
  cases j with
  |zero=>simp at h;subst h;simp[bI]
  |succ j=>
   simp at h;have:=b h;have e:2*(j+1)+1=(2*j+1)+1+1:=by omega
   rw[e];simpa[bI]using this
theorem iI(a:List Fct):(bI a).length=2*a.length:=by
 induction a with
 |nil=>rfl
 |cons f r b=>
  have:bI (f::r)=f.p::f.q::bI r:=by simp[bI]
  rw[this];simp[b];omega
theorem zL(l:List ByteArray)(s:ByteArray):aX l s≤l.length:=by
 induction l with
 |nil=>simp[aX]
 |cons x r a=>
  simp only[aX];split
  ·simp;omega
  ·simp
theorem jT{l:List ByteArray}{s:ByteArray}{k:Nat}(h:∀j x,j<k→l[j]?=some x→cK x s=true)(a:k≤l.length)(d:∀x,l[k]?=some x→cK x s=false):aX l s=k:=by
 induction l generalizing k with
 |nil=>simp at a;subst a;rfl
 |cons x r e=>
  cases k with
  |zero=>have:=d x (by simp);simp[aX,this]
  |succ k=>have f:=h 0 x (by omega) (by simp);simp only[aX,f,if_true];rw[e (k:=k) (fun j y g b=>h (j+1) y (by omega) (by simpa using b)) (by simpa using a) (fun y b=>d y (by simpa using b))]
theorem wQ{a:List ByteArray}{m:Nat}{s:ByteArray}(h:a[m]?=some s):dV (a.take (m+1))=mK (dV (a.take m)) s:=by unfold dV;rw[bG h,JE];rfl
theorem Gm{α:Type}(a xs:List α)(z s:α)(k:Nat)(f:k≤xs.length)(h:a.take (xs.length+1)=xs++[z]) :
  ((splice a (k+1) (xs.drop k)).set k s).take (xs.length+1)=xs.take k++s::xs.drop k:=by
 have d:a=(xs++[z])++a.drop (xs.length+1):=by rw[← h,List.take_append_drop]
 generalize a.drop (xs.length+1)=t at d;subst d;clear h;rw[List.take_set];have b:((xs++[z]).take (k+1)).length=k+1:=by rw[Ji,A4,NA];omega
 have g:(splice ((xs++[z])++t) (k+1) (xs.drop k)).take (xs.length+1)=(xs++[z]).take (k+1)++xs.drop k:=by unfold splice;rw[List.take_append_of_le_length (l₁:=xs++[z]) (by rw[A4,NA];omega),← JI];exact List.take_left' (by rw[A4,b,List.length_drop];omega)
 rw[g];apply List.ext_getElem?;intro j;rw[List.getElem?_set];by_cases e:k=j
 ·subst e;rw[if_pos rfl,if_pos (by rw[A4,b];omega),IZ (by rw[Ji];omega),Ji,Nat.min_eq_left f,Nat.sub_self];rfl
 ·rw[if_neg e];have i:(xs.take k).length=k:=by rw[Ji];omega
  by_cases l:j<k
  ·rw[IL (by omega),IL (by omega),Jr,if_pos (by omega),IL (by omega),Jr,if_pos l]
  ·rw[IZ (by omega),b,IZ (by omega),i,List.getElem?_cons,if_neg (by omega),Nat.sub_sub]
theorem tU{l:List ByteArray}{s:ByteArray}{k:Nat}(a:aX l s=k)(h:l[k]?≠some s):mK l s=l.take k++s::l.drop k:=by subst a;unfold mK;rw[if_neg h]
theorem tV{l:List ByteArray}{s:ByteArray}{k:Nat}(a:aX l s=k)(h:l[k]?=some s):mK l s=l:=by subst a;unfold mK;rw[if_pos h]
end
end Go.Proofs.YtiamlbhkiehilaaGreatDoor
