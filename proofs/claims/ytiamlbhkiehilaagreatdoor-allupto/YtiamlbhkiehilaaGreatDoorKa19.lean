import Derived.Test.YtiamlbhkiehilaaGreatDoorKa06
open Array renaming zip→Nj,foldl→MC
open Go renaming callsIn_wide→IV,undef→lZ,results_none→KW,wpIn_rangeFunc_ownN→OR,run_takeDeferred→LQ
open Go.CallsIn renaming inRound→Je
open Go.KeepsFrom renaming refl→KB
open Go.Proofs renaming enters_of→N7
open Go.Proofs.Tryz renaming prog→hE,func127→Mu
open List renaming length_cons→Jn,length_nil→J1,mem_singleton→A1,mem_cons→sT,map_append→Jp,foldl_append→JE,mem_append→IK,length_append→A4,length→NN,length_map→JO,mem_append_right→KX
open Nat renaming le_refl→gO,mul_le_mul→Lq,lt_of_lt_of_le→A2
namespace Go.Proofs.YtiamlbhkiehilaaGreatDoor
section
open Go.RowKit Go.Shelf
attribute [local go_sem] Oper.semAt_some
variable {B:Nat} {c:Way} {n:Nat} {s:St}
set_option maxRecDepth 100000 in
set_option maxHeartbeats 4000000 in
theorem DC(b7:c.cycles=true→wK B c n)(m:Nat)(hM:s.tw m≠[]→oD B c n)(w:World)(G:GV)(h:GM w B c n G s)(hw:WF n s)(hT:bN w)(c6:0<B)(H:m<n)(hu:s.un+100000<4611686018427387904) :
  Calls hE 91 #[.pointer (some ⟨G.bg,0,none⟩),.int .u64 m] w fun e w'=>e=.returned (.tuple #[])∧∃f,GM w' B c n f (s.work c m)∧GCh w w' G f:=by
 have hn:=h.n40;obtain⟨K,ad⟩:∃K,K=(w.alloc (.cells #[.pointer (some ⟨G.bg,0,none⟩)] 101)).alloc (.cells #[.int .u64 (m:Int)] 144):=⟨_,rfl⟩;have k0:Kb [] w K:=by rw[ad];exact((Kb.refl [] w).alloc _).alloc _
 have z0:K.heap.size=w.heap.size+2:=by rw[ad];simp
 have x0:K.heap[w.heap.size]?=some (.cells #[.pointer (some ⟨G.bg,0,none⟩)] 101 (0,0)):=by rw[ad];exact aF (aD _ _) _
 have j:K.heap[w.heap.size+1]?=some (.cells #[.int .u64 (m:Int)] 144 (0,0)):=by rw[ad];have:=aD (w.alloc (.cells #[.pointer (some ⟨G.bg,0,none⟩)] 101)) (.cells #[.int .u64 (m:Int)] 144);rw[World.size_alloc]at this;exact this
 have h0:=h.fresh k0;have c7:=h0.reads.2.2.2.2.2.1;have c8:K.cell? ⟨w.heap.size,0,none⟩=some (.pointer (some ⟨G.bg,0,none⟩)):=by rw[aC x0];rfl
 have c9:K.cell? ⟨w.heap.size+1,0,none⟩=some (.int .u64 (m:Int)):=by rw[aC j];rfl
 refine(IV (n:=20)).1 ?_
 refine callsIn_of_wp_marks Tryz.func91 rfl trivial ?_ rfl;simp only[Tryz.ntmps91,List.size_toArray,Jn,J1,Nat.reduceAdd,Nat.reduceSub,Array.replicate_succ,Array.replicate_zero,List.push_toArray,List.append_toArray,List.nil_append,List.cons_append];have kA:Kb [] K (K.alloc (.cells #[.pointer none] 176)):=(Kb.refl [] K).alloc _;have ca:=(h0.fresh kA).reads.2.2.2.2.2.1;have cb:(K.alloc (.cells #[.pointer none] 176)).cell? ⟨w.heap.size,0,none⟩=some (.pointer (some ⟨G.bg,0,none⟩)):=by rw[aC (kA.heap x0 (by simp))];rfl
 have cd:(K.alloc (.cells #[.pointer none] 176)).cell? ⟨w.heap.size+1,0,none⟩=some (.int .u64 (m:Int)):=by rw[aC (kA.heap j (by simp))];rfl
 rw[ad]at c7 c8 c9 ca cb cd;gi_wp2
 gi_region
 obtain⟨r,ap⟩:∃r,r=(K.alloc (.cells #[.pointer (some ⟨G.bn,m*7,none⟩)] 176)).drew:=⟨_,rfl⟩;rw[← ad,← ap];have k1:Kb [] K r:=by rw[ap];exact((Kb.refl [] K).alloc _).drew
 have z1:r.heap.size=w.heap.size+3:=by rw[ap];show(K.alloc _).heap.size=_;simp[z0]
 have t1:r.heap[w.heap.size+2]?=some (.cells #[.pointer (some ⟨G.bn,m*7,none⟩)] 176 (0,0)):=by rw[ap,← z0];exact aD _ _
 have x1:=k1.heap x0 (by simp);have E:=k1.heap j (by simp);have L1:LI w B c n G [] [(w.heap.size+2,#[.pointer (some ⟨G.bn,m*7,none⟩)],176),(w.heap.size+1,#[.int .u64 (m:Int)],144),(w.heap.size,#[.pointer (some ⟨G.bg,0,none⟩)],101)] [] r s G:=by
  have h9:=((LI.start h).fresh (k0.trans k1)).1;have nf:∀b,w.heap.size≤b→b ∉ G.foot:=fun b hb H=>by have:=h.gh b H;omega
  exact((h9.fk x1 (nf _ (gO _))).fk E (nf _ (by omega))).fk t1 (nf _ (by omega))
 clear ad ap c7 c8 c9 ca cb cd kA x0 j;rw[show w.heap.size+2=w.heap.size+1+1 from rfl]at L1;obtain⟨a,b8⟩:∃a,a=qZ (s.tg m) (s.hd m):=⟨_,rfl⟩;have ae:∀x∈a,x<n:=by intro x O;rw[b8]at O;exact hw.bd _ x (pN.1 O).2.1
 have al:Hid (s.work c m=if a.isEmpty then s else if(s.collapse m a).1 then(s.collapse m a).2.wait ((s.collapse m a).2.rep m)else if c.deltas then St.put (((a.foldl (fun s t=>s.links c m t) (s.collapse m a).2).heirsOf m).foldl (fun s h=>s.hand c a m h) (a.foldl (fun s t=>s.links c m t) (s.collapse m a).2)) (7*m+1) (cP (St.hd (((a.foldl (fun s t=>s.links c m t) (s.collapse m a).2).heirsOf m).foldl (fun s h=>s.hand c a m h) (a.foldl (fun s t=>s.links c m t) (s.collapse m a).2)) m) a)else(((a.foldl (fun s t=>s.links c m t) (s.collapse m a).2).heirsOf m).foldl (fun s h=>s.hand c a m h) (a.foldl (fun s t=>s.links c m t) (s.collapse m a).2))):=aA (by rw[b8];rfl);have HX:Hid (∀W2,Kb [] r W2→Calls hE 115 #[.pointer (some ⟨G.bn,m*7,none⟩),.pointer (some ⟨G.bn,m*7+1,none⟩)] W2 fun e w'=>∃v',e=.returned (.agg #[v'])∧aO w' W2.heap.size v' a∧Kb [] W2 w'):=by
  refine aA (fun W2 d=>?_);have Z:=(L1.fresh d).1.gm;obtain⟨va,q,q',qs⟩:=Z.get (k:=7*m) (by omega);obtain⟨vb,p,p',ps⟩:=Z.get (k:=7*m+1) (by omega);have:=Df B B G.bn (7*m) G.bn (7*m+1) _ _ TNd TNd va vb _ _ W2 Z.hbn q' Z.hbn p' qs ps;rw[show 7*m=m*7 by omega]at this;have e1:s.tg m=s.ss.getD (m*7) []:=by unfold St.tg;rw[show m*7=7*m by omega]
  have e2:s.hd m=s.ss.getD (m*7+1) []:=by unfold St.hd;rw[show m*7=7*m by omega]
  rw[b8,e1,e2];exact this
 clear b8;have o:r.cell? ⟨w.heap.size+1+1,0,none⟩=some (.pointer (some ⟨G.bn,m*7,none⟩)):=by rw[aC t1];rfl
 have dk:(r.alloc (.cells #[.slice none 0 0] 112)).cell? ⟨w.heap.size+1+1,0,none⟩=some (.pointer (some ⟨G.bn,m*7,none⟩)):=by rw[aC (aF t1 _)];rfl
 have HA:=HX.out r.drew (Kb.refl [] r).drew;have HB:=HX.out ((r.alloc (.cells #[.slice none 0 0] 112)).drew) ((Kb.refl [] r).alloc _).drew;have b9:=aA (And.intro z0 z1);clear z0 z1;gi_wp2
 refine nG (K:=fun ar W=>∃z g u11 u12 u13 u14 u15 u16 u17 u18 u19 u20 u21 u22 u23,LI w B c n G [] [(z,#[g],112),(w.heap.size+1+1,#[.pointer (some ⟨G.bn,m*7,none⟩)],176),(w.heap.size+1,#[.int .u64 (m:Int)],144),(w.heap.size,#[.pointer (some ⟨G.bg,0,none⟩)],101)] [(g,a,B)] W s G∧w.heap.size+3≤z∧ar={ tmps:=#[.pointer (some ⟨G.bg,0,none⟩),.int .u64 (m:Int),.pointer (some ⟨w.heap.size,0,none⟩),.pointer (some ⟨w.heap.size+1,0,none⟩),.pointer (some ⟨w.heap.size+1+1,0,none⟩),.pointer (some ⟨z,0,none⟩),lZ,lZ,lZ,lZ,lZ,u11,u12,u13,u14,u15,u16,u17,u18,u19,u20,u21,u22,u23,lZ,lZ,lZ,lZ,lZ,lZ,lZ,lZ,lZ,lZ,lZ,lZ,lZ,lZ,lZ,lZ,lZ,lZ,lZ,lZ,lZ,lZ,lZ,lZ,lZ,lZ,lZ,lZ,lZ,lZ,lZ,lZ,lZ,lZ,lZ,lZ,lZ,lZ,lZ,lZ,lZ,lZ,lZ,lZ,lZ,lZ,lZ,lZ,lZ,lZ,lZ,lZ],defers:=[] }) ?_ ?_
 ·go_region_with (first|(refine HA.mono ?_;rintro e w2 ⟨v2,rfl,a0,k2⟩;obtain⟨ao,l,a1,rfl⟩:=a0.form)|(refine HB.mono ?_;rintro e w2 ⟨v2,rfl,a0,k2⟩;obtain⟨ao,l,a1,rfl⟩:=a0.form;have bd:=k2.heap (show(r.alloc (.cells #[.slice none 0 0] 112)).drew.heap[r.heap.size]?=_ from aD _ _) (by simp);have cF:w2.cell? ⟨r.heap.size,0,none⟩=some (.slice none 0 0):=(by rw[aC bd];rfl);have fF:w2.frozen? ⟨r.heap.size,0,none⟩=false:=aE bd 0;have dl:=aA bd;clear bd))
  all_goals first
   | (have bl:=dl.out
      refine⟨r.heap.size,.slice ao l a1,_,_,_,_,_,_,_,_,_,_,_,_,_,?_,by rw[b9.out.2];exact gO _,rfl⟩;have kk:Kb [] r w2:=((Kb.refl [] r).alloc _).drew.trans k2;have l2:=((L1.fresh kk).1.fk bl (L1.gg (gO _))).ia a0 (fun a2 i=>L1.gg (by have:=(a0.lt i).1;show r.heap.size≤a2;simp at this;omega));refine((l2.ji (.slice ao l a1) (by rw[b9.out.2];omega) (fun q hq=>?_) (fun q hq=>?_) (by simp)).1.ia ?_ ?_).l8 (fun k d=>by rw[A1.1 d];exact List.mem_cons_self)
      ·have h9:=b9.out.2;simp only[sT,List.not_mem_nil,or_false]at hq;rcases hq with rfl|rfl|rfl<;>(simp only[h9];omega)
      ·rw[A1.1 hq];exact a0.ne bl (by decide)
      ·have dm:B≤r.heap.size+1:=by have:=L1.gm.hB;omega
       exact aO.low (a0.kb ((Kb.refl [r.heap.size] w2).setCell (p:=⟨r.heap.size,0,none⟩) (.inl (by simp)) _) (fun a2 i=>by rw[A1.1 i];exact a0.ne bl (by decide))) (by simpa using dm)
      ·exact fun a2 i=>L1.gg (by have:=(a0.lt i).1;simp at this;omega))
   | (refine⟨w2.heap.size,.slice ao l a1,_,_,_,_,_,_,_,_,_,_,_,_,_,?_,by have:=k2.size;have h9:=b9.out.2;simp at this;omega,rfl⟩
      have kk:Kb [] r w2:=(Kb.refl [] r).drew.trans k2;have kA:Kb [] w2 (w2.alloc (.cells #[.slice ao l a1] 112)):=(Kb.refl [] w2).alloc _;have l1:=(L1.fresh kk).1;have nf:∀a2,(Value.slice ao l a1).ownBlock=some a2→a2 ∉ G.foot:=fun a2 i=>L1.gg (by have:=(a0.lt i).1;simp at this;omega)
      exact(((l1.ia (a0.low (by have:=L1.gm.hB;simpa using this)) nf).fresh kA).1.fk (aD _ _) (l1.gg (gO _))))
 rintro ar W2 ⟨z,g,u11,u12,u13,u14,u15,u16,u17,u18,u19,u20,u21,u22,u23,C,ej,rfl⟩;clear HA HB HX o dk L1 t1 x1 E h0;have HE:=wI B z 0 #[g] 112 g a W2 (C.bx (z,#[g],112) (by simp)).1 rfl (C.vt (g,a,B) (by simp)).1;gi_wp2
 refine⟨trivial,?_⟩;refine(IV.2 HE).mono ?_
 clear HE;rintro e W3 ⟨rfl,k3⟩;have F:=(C.fresh k3).1;clear C k3;obtain⟨be,a5⟩:∃be,be=a.isEmpty:=⟨_,rfl⟩;rw[← a5];replace a5:=aA a5;cases be
 case true=>
  have U:Hid (∃f,GM W3 B c n f (s.work c m)∧GCh w W3 G f):=aA ⟨G,by rw[al.out,if_pos a5.out.symm];exact F.gm,F.ch⟩;clear a5 F al;gi_wp2
  exact⟨_,KW rfl _ _ _,rfl,U.out⟩
 have TT:Hid (∀ {W:World} {f:GV},GCh w W G f→bN W):=aA (fun hc=>hT.kb hc.kb (fun H=>by have:=(h.cells H).1;omega));have cg:=F.cell (b:=w.heap.size) (v:=.pointer (some ⟨G.bg,0,none⟩)) (T:=101) (by simp);have cn:=F.cell (b:=w.heap.size+1) (v:=.int .u64 (m:Int)) (T:=144) (by simp);have ce:=vK m z 0 hM #[g] 112 g B a W3 G F.gm hw (TT.out F.ch) c6 H (F.bx (z,#[g],112) (by simp)).1 rfl (F.vt (g,a,B) (by simp)).1 ae (by omega);gi_wp2
 refine⟨trivial,?_⟩;refine(IV.2 ce).mono ?_
 clear ce cg cn;rintro e W4 ⟨rfl,G4,cf,ch⟩;obtain⟨V,_,_⟩:=F.call cf ch;clear F cf ch;obtain⟨u,a8⟩:∃u,u=(s.collapse m a).2:=⟨_,rfl⟩;obtain⟨bc,af⟩:∃bc,bc=(s.collapse m a).1:=⟨_,rfl⟩;have bm:WF n u∧u.un≤s.un+1600:=by have h1:=WF.j3 (fun b hb=>hw.bd _ b hb:∀b∈s.tw m,b<n) a (false,s) hw ae;rw[rP,← a8]at h1;have Z:a.length≤n:=(V.vt (g,a,B) (by simp)).1.len ae;obtain⟨v5,_,_,q5⟩:=h.get (k:=7*m+5) (by omega);have h3:(s.tw m).length≤n:=q5.len (fun b hb=>hw.bd _ b hb);have h4:a.length*(s.tw m).length≤40*40:=Lq (by omega) (by omega);refine⟨h1.1,?_⟩;have:=h1.2;show u.un≤s.un+1600;simp only at this;omega
 rw[← a8]at V;rw[← af];replace af:=aA af;replace a8:=aA a8;have cg:=V.cell (b:=w.heap.size) (v:=.pointer (some ⟨G.bg,0,none⟩)) (T:=101) (by simp);have cn:=V.cell (b:=w.heap.size+1) (v:=.int .u64 (m:Int)) (T:=144) (by simp);cases bc
 case true=>
  have e1:=V.ch.e1;have e3:=V.ch.e3;have r7:=V.gm.reads.2.2.2.2.2.2.1;rw[e1,e3]at r7;have kd:Kb [] W4 W4.drew:=(Kb.refl [] W4).drew;have bn:=(V.fresh kd).1;have bo:=pU m W4.drew G4 bn.gm (by omega);rw[e1]at bo;have dp:=bm.1.lt H;have dq:=aA bn;have U:Hid (∀W,(∃f,GM W B c n f (u.wait (u.rep m))∧GCh w W G f)→(∃f,GM W B c n f (s.work c m)∧GCh w W G f)):=by refine aA (fun W hh=>?_);rw[al.out,if_neg (by rw[← a5.out];decide),if_pos af.out.symm,← a8.out];exact hh
  clear al V bn a5 af a8 hM b7;gi_wp2
  refine nG (K:=fun ar W=>(∃f,GM W B c n f (u.wait (u.rep m))∧GCh w W G f)∧ar={ tmps:=#[.pointer (some ⟨G.bg,0,none⟩),.int .u64 (m:Int),.pointer (some ⟨w.heap.size,0,none⟩),.pointer (some ⟨w.heap.size+1,0,none⟩),.pointer (some ⟨w.heap.size+1+1,0,none⟩),.pointer (some ⟨z,0,none⟩),lZ,lZ,lZ,lZ,lZ,u11,u12,u13,u14,u15,u16,u17,u18,u19,u20,u21,u22,u23,.bool false,.pointer (some ⟨G.bg,0,none⟩),.int .u64 (m:Int),.bool true,.pointer (some ⟨G.bg,0,none⟩),.pointer (some ⟨G.bg,0,none⟩),.pointer (some ⟨G.bg,7,none⟩),.pointer (some ⟨G.bl,0,none⟩),.pointer (some ⟨G.bg,0,none⟩),.pointer (some ⟨G.bg,0,none⟩),.pointer (some ⟨G.bg,6,none⟩),.int .u64 (m:Int),.int .u64 ((u.rep m:Nat):Int),.tuple #[],lZ,lZ,lZ,lZ,lZ,lZ,lZ,lZ,lZ,lZ,lZ,lZ,lZ,lZ,lZ,lZ,lZ,lZ,lZ,lZ,lZ,lZ,lZ,lZ,lZ,lZ,lZ,lZ,lZ,lZ,lZ,lZ,lZ,lZ,lZ,lZ,lZ,lZ],defers:=[] }) ?_ ?_
  ·go_region_with (first
    |(refine bo.mono ?_;clear bo;rintro e W5 ⟨rfl,G5,cj,ck⟩;obtain⟨L,_,_⟩:=dq.out.call cj ck;have ek:=L.cell (b:=w.heap.size) (v:=.pointer (some ⟨G.bg,0,none⟩)) (T:=101) (by simp);have dr:=L.gm.reads.2.2.2.2.2.2.1;rw[L.ch.e1,L.ch.e3]at dr;have bp:=oB (u.rep m) W5 G5 L.gm bm.1 dp;rw[L.ch.e3]at bp;have H5:=aA L;clear L cj ck)
    | (refine bp.mono ?_;clear bp;rintro e W6 ⟨rfl,G6,cl,ds⟩))
   all_goals exact⟨⟨G6,cl,(H5.out.call cl ds).1.ch⟩,rfl⟩
  rintro ar W ⟨hh,rfl⟩;have HH:=aA (U.out W hh);clear hh U;gi_wp2
  exact⟨_,KW rfl _ _ _,rfl,HH.out⟩
 have cm:=dN B z 0 #[g] 112 g a W4 (V.bx (z,#[g],112) (by simp)).1 rfl (V.vt (g,a,B) (by simp)).1;gi_wp2
 refine⟨trivial,?_⟩;refine(IV.2 cm).mono ?_
 clear cm;rintro e W5 ⟨au,va,rfl,dt,co,av,k5⟩;have L:=(V.fresh k5).1;obtain⟨a3,hL⟩:∃a3,a3=0::va.ownBlock.toList:=⟨_,rfl⟩;have cp:∀ {W:World} {st:St} {f:GV},GM W B c n f st→0 ∉ f.foot∧0<W.heap.size:=fun hG=>⟨fun H=>by have:=(hG.cells H).1;omega,by have:=hG.hB;omega⟩
 have ag:∀k∈a3,k ∉ G4.foot∧k<W5.heap.size:=by
  intro k d;rw[hL]at d;rcases sT.1 d with rfl|d
  ·exact cp L.gm
  ·simp at d;exact⟨V.gg (av.lt d).1,(av.lt d).2⟩
 have LL:LI w B c n G a3 [(z,#[g],112),(w.heap.size+1+1,#[.pointer (some ⟨G.bn,m*7,none⟩)],176),(w.heap.size+1,#[.int .u64 (m:Int)],144),(w.heap.size,#[.pointer (some ⟨G.bg,0,none⟩)],101)] [(g,a,B)] W5 u G4:=⟨L.gm,L.ch,L.bx,L.vt,ag⟩;have du:=bZ 19 au W4.heap.size va a a3 W5 co av (TT.out L.ch) (fun a2 i=>by rw[hL];simp[i]) (by rw[hL];simp);have dv:∀k∈a3,k<W5.heap.size:=fun k d=>(ag k d).2
 have el:a.length≤40:=by have:=av.len ae;omega
 have dw:w.heap.size≤W5.heap.size:=L.ch.kb.size;have dx:=aA LL;clear LL V L cg cn co av k5 ag dt;gi_wp2
 refine wpIn_rangeFunc_ownH (α:=Mem a) (hro:=rfl) (h1:=by omega) (gf:=127) (lb:=#[.pointer (some ⟨au,0,none⟩)]) rfl trivial (N7 Mu (by kernel_rfl) rfl) du (fun h1 Z=>h1.trans Z) (fZ dv) (Below.refl _ _) (fun _=>rfl)
  (fun pre W=>∃f,LI w B c n G a3 [(z,#[g],112),(w.heap.size+1+1,#[.pointer (some ⟨G.bn,m*7,none⟩)],176),(w.heap.size+1,#[.int .u64 (m:Int)],144),(w.heap.size,#[.pointer (some ⟨G.bg,0,none⟩)],101)] [(g,a,B)] W ((pre.map (·.1)).foldl (fun s t=>s.links c m t) u) f∧WF n ((pre.map (·.1)).foldl (fun s t=>s.links c m t) u)∧((pre.map (·.1)).foldl (fun s t=>s.links c m t) u).un≤u.un+pre.length*80)
  (fun _ _ _=>False) ?hI (fun _ _ _ _ _ hs _ _=>hs) ⟨G4,dx.out,bm.1,by simp⟩
  (fun x a' W=>∃Y G0 s0,W.heap[Y]?=some (.cells #[.int .u64 (x.1:Int)] 144 (0,0))∧GM W B c n G0 s0∧G0.bg=G.bg∧Y ∉ G0.foot∧a'={ tmps:=#[.pointer (some ⟨G.bg,0,none⟩),.int .u64 (m:Int),.pointer (some ⟨w.heap.size,0,none⟩),.pointer (some ⟨w.heap.size+1,0,none⟩),.pointer (some ⟨w.heap.size+1+1,0,none⟩),.pointer (some ⟨z,0,none⟩),.pointer (some ⟨Y,0,none⟩),lZ,lZ,lZ,lZ,u11,u12,u13,u14,u15,u16,u17,u18,u19,u20,u21,u22,u23,.bool false,.pointer (some ⟨G.bg,0,none⟩),.int .u64 (m:Int),.bool false,lZ,lZ,lZ,lZ,lZ,lZ,lZ,lZ,lZ,lZ,.func (.func 127) #[] #[.pointer (some ⟨au,0,none⟩)],.int .u64 (x.1:Int),lZ,lZ,lZ,lZ,lZ,lZ,lZ,lZ,lZ,lZ,lZ,lZ,lZ,lZ,lZ,lZ,lZ,lZ,lZ,lZ,lZ,lZ,lZ,lZ,lZ,lZ,lZ,lZ,lZ,lZ,lZ,lZ,lZ,lZ,lZ,lZ],defers:=[] }) ?hAx ?assign ?body ?done ?stop
 case hI=>rintro pre W W' am ⟨f,I,p2⟩ i hr;exact⟨f,I.own dw i hr,p2⟩
 case hAx=>
  rintro x a' _ W W' am ⟨Y,G0,s0,q2,q3,Q,q5,q6⟩ i hr;have d:=aS i;refine⟨Y,G0,s0,d.heap q2 (fun H=>?_),q3.beside d (fun b hb=>?_),Q,q5,q6⟩
  ·obtain⟨_,dz,ho,hc⟩:=hr Y (by simpa using H);rw[q2]at ho;cases ho;cases hc
  ·obtain⟨_,dz,ho,hc⟩:=hr b (by simpa using hb);exact q3.gu ho hc
 case assign=>
  rintro l pre x W aq ⟨f,I,p2⟩ hK;have kA:Kb [] W (W.alloc (.cells #[.int .u64 (x.1:Int)] 144)):=(Kb.refl [] W).alloc _;obtain⟨z1,z2,z3⟩:=I.fresh kA;dsimp only[jO,Nj,MC];gi_wp2
  refine hK _ _ (z2 _) z3 ⟨f,z1,p2⟩ ⟨W.heap.size,f,_,aD _ _,z1.gm,I.ch.e1,I.gg (gO _),rfl⟩
 case body=>
  rintro l pre ⟨x,aw⟩ a' W hl ⟨ax,hr⟩ ⟨f,I,wf,cq⟩ ⟨Y,G0,s0,q2,q3,Q,q5,rfl⟩ dF;have O:=ae x aw;have cr:Y ∉ f.foot:=by rw[I.gm.ie q3 (I.ch.e1.trans Q.symm)];exact q5
  have e9:((pre++[(⟨x,aw⟩:Mem a)]).map (·.1)).foldl (fun s t=>s.links c m t) u=((pre.map (·.1)).foldl (fun s t=>s.links c m t) u).links c m x:=by rw[Jp,JE];rfl
  have em:pre.length*80≤40*80:=Lq (by omega) (gO _);have br:=aA e9;clear e9;generalize (pre.map (·.1)).foldl (fun s t=>s.links c m t) u=j at *;have R:=I.fk q2 cr;have ci:=R.cell (b:=w.heap.size+1+1) (v:=.pointer (some ⟨G.bn,m*7,none⟩)) (T:=176) (by simp);clear I q2 q3 Q q5 cr;have cs:Hid (∃v,f.nv[7*m+3]?=some v∧aO W B v (j.ld m)):=by obtain⟨v,q,_,qs⟩:=R.gm.get (k:=7*m+3) (by omega);exact aA ⟨v,q,qs⟩
  have a9:Calls hE 94 #[.pointer (some ⟨G.bn,m*7+3,none⟩)] W fun e w'=>∃bw v',e=.returned (.func (.func 127) #[] #[.pointer (some ⟨bw,0,none⟩)])∧W.heap.size≤bw∧w'.heap[bw]?=some (.cells #[v'] 110 (0,0))∧aO w' W.heap.size v' (j.ld m)∧Kb [] W w':=by obtain⟨v,q,qs⟩:=cs.out;have:=dN B f.bn (7*m+3) _ TNd v _ W R.gm.hbn (by simpa using q) qs;rw[R.ch.e2,show 7*m+3=m*7+3 by omega]at this;exact this
  clear cs;gi_wp2
  refine⟨trivial,?_⟩;refine(Je l (IV.2 a9)).mono ?_
  clear a9 ci;rintro e X0 ⟨bf,vl,rfl,dL,ct,ay,kl⟩;obtain⟨M,ah,az⟩:=R.fresh kl;obtain⟨C,a6⟩:∃C,C=vl.ownBlock.toList++a3:=⟨_,rfl⟩;have cu:∀x∈j.ld m,x<n:=fun x O=>wf.bd _ x O
  have en:(j.ld m).length≤40:=by have:=ay.len cu;omega
  have bs:∀k∈C,k ∉ f.foot∧k<X0.heap.size:=by
   intro k d;rw[a6]at d;rcases IK.1 d with d|d
   ·simp at d;exact⟨R.gg (ay.lt d).1,(ay.lt d).2⟩
   ·exact M.lb k d
  have P4:LI w B c n G C _ [(g,a,B)] X0 j f:=⟨M.gm,M.ch,M.bx,M.vt,bs⟩;have bg:∀k∈C,k<X0.heap.size:=fun k d=>(bs k d).2
  have cv:=bZ 17 bf W.heap.size vl (j.ld m) C X0 ct ay (TT.out M.ch) (fun a2 i=>by rw[a6];simp[i]) (by rw[a6,hL];simp);have bt:X0.heap[l]?=some (.loop ax):=(ah 0).same l _ (Nat.zero_le _) hr rfl;have dT:w.heap.size≤X0.heap.size:=M.ch.kb.size;have bh:=aA P4;have cy:=aA (And.intro ah az);clear R M P4 ct ay kl ah az bs hr dL;gi_wp2
  refine OR (α:=Mem (j.ld m)) (l₀:=l) (r₀:=ax) rfl bt (by omega) (gf:=127) (lb:=#[.pointer (some ⟨bf,0,none⟩)]) rfl trivial (N7 Mu (by kernel_rfl) rfl) (cv.inRound l) (fun h1 Z=>h1.trans Z) (fZ bg) (Below.refl _ _) (fun _=>rfl)
   (fun A W'=>∃f,LI w B c n G C ((Y,#[.int .u64 (x:Int)],144)::[(z,#[g],112),(w.heap.size+1+1,#[.pointer (some ⟨G.bn,m*7,none⟩)],176),(w.heap.size+1,#[.int .u64 (m:Int)],144),(w.heap.size,#[.pointer (some ⟨G.bg,0,none⟩)],101)]) [(g,a,B)] W' ((A.map (·.1)).foldl (fun s p=>s.link c x p) j) f∧(WF n ((A.map (·.1)).foldl (fun s p=>s.link c x p) j)∧((A.map (·.1)).foldl (fun s p=>s.link c x p) j).un≤j.un+A.length)∧KeepsFrom W5.heap.size X0 W'∧KpB C X0 W')
   (fun _ _ _=>False) ?hI2 (fun _ _ _ _ _ hs _ _=>hs) ⟨_,bh.out,⟨wf,by simp⟩,KB _ _,KpB.refl _ _⟩
   (fun y aV _=>aV={ tmps:=#[.pointer (some ⟨G.bg,0,none⟩),.int .u64 (m:Int),.pointer (some ⟨w.heap.size,0,none⟩),.pointer (some ⟨w.heap.size+1,0,none⟩),.pointer (some ⟨w.heap.size+1+1,0,none⟩),.pointer (some ⟨z,0,none⟩),.pointer (some ⟨Y,0,none⟩),.int .u64 (y.1:Int),lZ,lZ,lZ,u11,u12,u13,u14,u15,u16,u17,u18,u19,u20,u21,u22,u23,.bool false,.pointer (some ⟨G.bg,0,none⟩),.int .u64 (m:Int),.bool false,lZ,lZ,lZ,lZ,lZ,lZ,lZ,lZ,lZ,lZ,.func (.func 127) #[] #[.pointer (some ⟨au,0,none⟩)],.int .u64 (x:Int),.pointer (some ⟨G.bn,m*7,none⟩),.pointer (some ⟨G.bn,m*7,none⟩),.pointer (some ⟨G.bn,m*7+3,none⟩),.func (.func 127) #[] #[.pointer (some ⟨bf,0,none⟩)],.int .u64 (y.1:Int),lZ,lZ,lZ,lZ,lZ,lZ,lZ,lZ,lZ,lZ,lZ,lZ,lZ,lZ,lZ,lZ,lZ,lZ,lZ,lZ,lZ,lZ,lZ,lZ,lZ,lZ,lZ,lZ,lZ,lZ,lZ],defers:=[] }) (fun _ _ _ _ _ _ hs _ _=>hs) ?assign2 ?body2 ?done2 ?stop2
  case hI2=>rintro A X bv am ⟨f,o,cw,J,S⟩ i ai;refine⟨f,o.own dT i ai,cw,ownFrom_keepsFrom (w₀:=X0) (B':=X0.heap.size) (gO _) A X bv am J i ai,fun k d=>?_⟩;rw[← S k d];refine(aS i).block k (A2 (bg k d) J.size) (fun H=>?_);have h8:=(ai k (by simpa using H)).1;have h9:=bg k d;omega
  case assign2=>
   rintro l2 A y X aq hi hK;dsimp only[jO,Nj,MC];gi_wp2
   exact hK _ _ (KB _ _) (KpB.refl _ _) hi rfl
  case body2=>
   rintro l2 A ⟨y,b0⟩ aV X _ _ ⟨G2,o,⟨an,bx⟩,J,S⟩ rfl dW;have hy:=cu y b0;have e8:((A++[(⟨y,b0⟩:Mem (j.ld m))]).map (·.1)).foldl (fun s p=>s.link c x p) j=((A.map (·.1)).foldl (fun s p=>s.link c x p) j).link c x y:=by rw[Jp,JE];rfl
   have a7:=aA e8;clear e8;generalize (A.map (·.1)).foldl (fun s p=>s.link c x p) j=z0 at *;have cg:=o.cell (b:=w.heap.size) (v:=.pointer (some ⟨G.bg,0,none⟩)) (T:=101) (by simp);have cx:=o.cell (b:=Y) (v:=.int .u64 (x:Int)) (T:=144) (by simp);have aj:=wM b7 x y X G2 o.gm an O hy (by omega);rw[o.ch.e1]at aj;have HC:=aA (And.intro o (And.intro J S));clear o J S;gi_wp2
   refine⟨trivial,?_⟩;refine(Je l2 (Je l (IV.2 aj))).mono ?_
   clear aj;rintro e X1 ⟨rfl,G3,aa,ab⟩;obtain⟨d1,d2,d3⟩:=HC.out.1.call aa ab;have P:=aA (And.intro d1 (And.intro d2 d3));clear d1 d2 d3 aa ab;gi_wp2
   refine⟨P.out.2.1 _,P.out.2.2,G3,?_,?_,HC.out.2.1.trans (P.out.2.1 _),HC.out.2.2.trans P.out.2.2⟩
   ·rw[a7.out];exact P.out.1
   ·rw[a7.out];refine⟨an.link O hy,?_⟩;have:=St.js z0 c x y;simp only[A4,Jn,J1];omega
  case stop2=>rintro cc A X _ hF;exact hF.elim
  case done2=>
   rintro xs X b1 ⟨G2,o,⟨an,bx⟩,J,S⟩;have e0:xs.length≤40:=by have:=congrArg NN b1;rw[JO]at this;omega
   rw[b1]at o an bx;have e4:Hid (j.links c m x=(((j.ld m).foldl (fun s p=>s.link c x p) j).sr m).foldl (fun s q=>s.link c q x) ((j.ld m).foldl (fun s p=>s.link c x p) j)):=aA rfl;generalize (j.ld m).foldl (fun s p=>s.link c x p) j=E at *;have eo:E.un≤j.un+40:=by omega
   clear bx;have cz:X.heap[l]?=some (.loop ax):=J.same l _ (by omega) bt rfl;have R:=o.k7 (L':=a3) (fun k d=>by rw[a6];exact KX _ d);have cA:KpB a3 X0 X:=fun k d=>S k (by rw[a6];exact KX _ d)
   have cB:=aA (And.intro J cA);clear J S o bh cA cv bg;have ci:=R.cell (b:=w.heap.size+1+1) (v:=.pointer (some ⟨G.bn,m*7,none⟩)) (T:=176) (by simp);have a9:Calls hE 94 #[.pointer (some ⟨G.bn,m*7+4,none⟩)] X fun e w'=>∃bw v',e=.returned (.func (.func 127) #[] #[.pointer (some ⟨bw,0,none⟩)])∧X.heap.size≤bw∧w'.heap[bw]?=some (.cells #[v'] 110 (0,0))∧aO w' X.heap.size v' (E.sr m)∧Kb [] X w':=by obtain⟨v,q,q',qs⟩:=R.gm.get (k:=7*m+4) (by omega);have:=dN B G2.bn (7*m+4) _ TNd v _ X R.gm.hbn q' qs;rw[R.ch.e2]at this;have e6:E.sr m=E.ss.getD (7*m+4) []:=rfl;rw[e6,show m*7+4=7*m+4 by omega];exact this
   gi_wp2
   refine⟨trivial,?_⟩;refine(Je l (IV.2 a9)).mono ?_
   clear a9 ci;rintro e Y0 ⟨bz,vs,rfl,e5,cC,b2,ks⟩;obtain⟨M,ah,az⟩:=R.fresh ks;obtain⟨F,b3⟩:∃F,F=vs.ownBlock.toList++a3:=⟨_,rfl⟩;have cL:∀x∈E.sr m,x<n:=fun x O=>an.bd _ x O
   have ep:(E.sr m).length≤40:=by have:=b2.len cL;omega
   have bF:∀k∈F,k ∉ G2.foot∧k<Y0.heap.size:=by
    intro k d;rw[b3]at d;rcases IK.1 d with d|d
    ·simp at d;exact⟨R.gg (b2.lt d).1,(b2.lt d).2⟩
    ·exact M.lb k d
   have P4:LI w B c n G F _ [(g,a,B)] Y0 E G2:=⟨M.gm,M.ch,M.bx,M.vt,bF⟩;have c0:∀k∈F,k<Y0.heap.size:=fun k d=>(bF k d).2
   have e7:=bZ 17 bz X.heap.size vs (E.sr m) F Y0 cC b2 (TT.out M.ch) (fun a2 i=>by rw[b3];simp[i]) (by rw[b3,hL];simp);have ea:Y0.heap[l]?=some (.loop ax):=(ah 0).same l _ (Nat.zero_le _) cz rfl;have eb:w.heap.size≤Y0.heap.size:=M.ch.kb.size;have bh:=aA P4;have cO:=aA (And.intro ah az);clear R M P4 cC b2 ks ah az bF cz bt e5;gi_wp2
   refine OR (α:=Mem (E.sr m)) (l₀:=l) (r₀:=ax) rfl ea (by omega) (gf:=127) (lb:=#[.pointer (some ⟨bz,0,none⟩)]) rfl trivial (N7 Mu (by kernel_rfl) rfl) (e7.inRound l) (fun h1 Z=>h1.trans Z) (fZ c0) (Below.refl _ _) (fun _=>rfl)
    (fun A W'=>∃f,LI w B c n G F ((Y,#[.int .u64 (x:Int)],144)::[(z,#[g],112),(w.heap.size+1+1,#[.pointer (some ⟨G.bn,m*7,none⟩)],176),(w.heap.size+1,#[.int .u64 (m:Int)],144),(w.heap.size,#[.pointer (some ⟨G.bg,0,none⟩)],101)]) [(g,a,B)] W' ((A.map (·.1)).foldl (fun s q=>s.link c q x) E) f∧(WF n ((A.map (·.1)).foldl (fun s q=>s.link c q x) E)∧((A.map (·.1)).foldl (fun s q=>s.link c q x) E).un≤E.un+A.length)∧KeepsFrom W5.heap.size Y0 W'∧KpB F Y0 W')
    (fun _ _ _=>False) ?hI3 (fun _ _ _ _ _ hs _ _=>hs) ⟨_,bh.out,⟨an,by simp⟩,KB _ _,KpB.refl _ _⟩
    (fun y aV _=>aV={ tmps:=#[.pointer (some ⟨G.bg,0,none⟩),.int .u64 (m:Int),.pointer (some ⟨w.heap.size,0,none⟩),.pointer (some ⟨w.heap.size+1,0,none⟩),.pointer (some ⟨w.heap.size+1+1,0,none⟩),.pointer (some ⟨z,0,none⟩),.pointer (some ⟨Y,0,none⟩),lZ,.int .u64 (y.1:Int),lZ,lZ,u11,u12,u13,u14,u15,u16,u17,u18,u19,u20,u21,u22,u23,.bool false,.pointer (some ⟨G.bg,0,none⟩),.int .u64 (m:Int),.bool false,lZ,lZ,lZ,lZ,lZ,lZ,lZ,lZ,lZ,lZ,.func (.func 127) #[] #[.pointer (some ⟨au,0,none⟩)],.int .u64 (x:Int),.pointer (some ⟨G.bn,m*7,none⟩),.pointer (some ⟨G.bn,m*7,none⟩),.pointer (some ⟨G.bn,m*7+3,none⟩),.func (.func 127) #[] #[.pointer (some ⟨bf,0,none⟩)],lZ,lZ,lZ,lZ,lZ,.pointer (some ⟨G.bn,m*7,none⟩),.pointer (some ⟨G.bn,m*7,none⟩),.pointer (some ⟨G.bn,m*7+4,none⟩),.func (.func 127) #[] #[.pointer (some ⟨bz,0,none⟩)],.int .u64 (y.1:Int),lZ,lZ,lZ,lZ,lZ,lZ,lZ,lZ,lZ,lZ,lZ,lZ,lZ,lZ,lZ,lZ,lZ,lZ,lZ,lZ,lZ,lZ],defers:=[] }) (fun _ _ _ _ _ _ hs _ _=>hs) ?assign3 ?body3 ?done3 ?stop3
   case hI3=>rintro A X bv am ⟨f,o,cw,J,S⟩ i ai;refine⟨f,o.own eb i ai,cw,ownFrom_keepsFrom (w₀:=Y0) (B':=Y0.heap.size) (gO _) A X bv am J i ai,fun k d=>?_⟩;rw[← S k d];refine(aS i).block k (A2 (c0 k d) J.size) (fun H=>?_);have h8:=(ai k (by simpa using H)).1;have h9:=c0 k d;omega
   case assign3=>
    rintro l2 A y X aq hi hK;dsimp only[jO,Nj,MC];gi_wp2
    exact hK _ _ (KB _ _) (KpB.refl _ _) hi rfl
   case body3=>
    rintro l2 A ⟨y,b0⟩ aV X _ _ ⟨G2,o,⟨b4,cS⟩,J,S⟩ rfl dW;have hy:=cL y b0;have e8:((A++[(⟨y,b0⟩:Mem (E.sr m))]).map (·.1)).foldl (fun s q=>s.link c q x) E=((A.map (·.1)).foldl (fun s q=>s.link c q x) E).link c y x:=by rw[Jp,JE];rfl
    have a7:=aA e8;clear e8;generalize (A.map (·.1)).foldl (fun s q=>s.link c q x) E=z0 at *;have cg:=o.cell (b:=w.heap.size) (v:=.pointer (some ⟨G.bg,0,none⟩)) (T:=101) (by simp);have cx:=o.cell (b:=Y) (v:=.int .u64 (x:Int)) (T:=144) (by simp);have aj:=wM b7 y x X G2 o.gm b4 hy O (by omega);rw[o.ch.e1]at aj;have HC:=aA (And.intro o (And.intro J S));clear o J S;gi_wp2
    refine⟨trivial,?_⟩;refine(Je l2 (Je l (IV.2 aj))).mono ?_
    clear aj;rintro e X1 ⟨rfl,G3,aa,ab⟩;obtain⟨d1,d2,d3⟩:=HC.out.1.call aa ab;have P:=aA (And.intro d1 (And.intro d2 d3));clear d1 d2 d3 aa ab;gi_wp2
    refine⟨P.out.2.1 _,P.out.2.2,G3,?_,?_,HC.out.2.1.trans (P.out.2.1 _),HC.out.2.2.trans P.out.2.2⟩
    ·rw[a7.out];exact P.out.1
    ·rw[a7.out];refine⟨b4.link hy O,?_⟩;have:=St.js z0 c y x;simp only[A4,Jn,J1];omega
   case stop3=>rintro cc A X _ hF;exact hF.elim
   case done3=>
    rintro cW X2 bi ⟨G3,o,⟨b4,cS⟩,J,S⟩;have eq:cW.length≤40:=by have:=congrArg NN bi;rw[JO]at this;omega
    rw[bi,← e4.out]at o b4 cS;have U:=aA (And.intro o (And.intro J S));clear o J S;gi_wp2
    refine⟨(((cy.out.1 _).trans cB.out.1).trans (cO.out.1 _)).trans U.out.2.1,((cy.out.2.trans cB.out.2).trans cO.out.2).trans (fun k d=>U.out.2.2 k (by rw[b3];exact KX _ d)),G3,?_,?_,?_⟩
    ·rw[br.out];exact(U.out.1.k7 (fun k d=>by rw[b3];exact KX _ d)).iu (fun k d=>List.mem_cons_of_mem _ d)
    ·rw[br.out];exact b4
    ·rw[br.out,A4];simp only[Jn,J1];omega
 case done=>
  rintro a4 xs W hD b1 ⟨G6,I,wf,cq⟩ hK;have e0:xs.length*80≤40*80:=Lq (by have:=congrArg NN b1;rw[JO]at this;omega) (gO _);rw[b1]at I wf cq;have bj:Hid (s.work c m=if c.deltas then St.put (((a.foldl (fun s t=>s.links c m t) u).heirsOf m).foldl (fun s h=>s.hand c a m h) (a.foldl (fun s t=>s.links c m t) u)) (7*m+1) (cP (St.hd (((a.foldl (fun s t=>s.links c m t) u).heirsOf m).foldl (fun s h=>s.hand c a m h) (a.foldl (fun s t=>s.links c m t) u)) m) a)else(((a.foldl (fun s t=>s.links c m t) u).heirsOf m).foldl (fun s h=>s.hand c a m h) (a.foldl (fun s t=>s.links c m t) u))):=by
   refine aA ?_
   rw[al.out,if_neg (by rw[← a5.out];decide),if_neg (by rw[← af.out];decide),← a8.out]
  clear al a5 af a8;generalize a.foldl (fun s t=>s.links c m t) u=N at *;have er:N.un≤s.un+4800:=by omega
  have cg:=I.cell (b:=w.heap.size) (v:=.pointer (some ⟨G.bg,0,none⟩)) (T:=101) (by simp);have cn:=I.cell (b:=w.heap.size+1) (v:=.int .u64 (m:Int)) (T:=144) (by simp);have c1:=oY m W G6 I.gm (TT.out I.ch) c6 H wf.rep;rw[I.ch.e1]at c1;gi_wp2
  refine⟨trivial,?_⟩;refine(IV.2 c1).mono ?_
  clear c1 cg cn;rintro e W7 ⟨G7,vh,rfl,d0,d4,c2⟩;obtain⟨L7,d5,_⟩:=I.call d0 d4;have d6:=gN d5 hK rfl;obtain⟨ao,lh,a1,rfl⟩:=c2.set.form;have kA:Kb [] W7 (W7.alloc (.cells #[.slice ao lh a1] 112)):=(Kb.refl [] W7).alloc _;obtain⟨L8,d7,_⟩:=L7.fresh kA;have a9:=dN W.heap.size W7.heap.size 0 #[.slice ao lh a1] 112 (.slice ao lh a1) (N.heirsOf m) (W7.alloc (.cells #[.slice ao lh a1] 112)) (aD _ _) rfl (c2.set.kb kA (by simp));have d8:=gN d7 d6 rfl;have d9:=aA d8;clear I hK d6 d8 d0 d4 c2 d5 d7 kA L7;gi_wp2
  refine⟨trivial,?_⟩;refine(IV.2 a9).mono ?_
  clear a9;rintro e W9 ⟨da,db,rfl,ec,dc,b5,k9⟩;obtain⟨L9,dd,_⟩:=L8.fresh k9;have c3:=gN dd d9.out rfl;have es:a4<W9.heap.size:=aB c3;obtain⟨C,a6⟩:∃C,C=0::db.ownBlock.toList:=⟨_,rfl⟩;have ag:∀k∈C,k ∉ G7.foot∧k<W9.heap.size:=by
   intro k d;rw[a6]at d;rcases sT.1 d with rfl|d
   ·exact cp L9.gm
   ·simp at d;exact⟨L8.gg (b5.lt d).1,(b5.lt d).2⟩
  have LL:LI w B c n G C [(z,#[g],112),(w.heap.size+1+1,#[.pointer (some ⟨G.bn,m*7,none⟩)],176),(w.heap.size+1,#[.int .u64 (m:Int)],144),(w.heap.size,#[.pointer (some ⟨G.bg,0,none⟩)],101)] [(g,a,B)] W9 N G7:=⟨L9.gm,L9.ch,L9.bx,L9.vt,ag⟩;have ed:=bZ 19 da _ db (N.heirsOf m) C W9 dc b5 (TT.out L9.ch) (fun a2 i=>by rw[a6];simp[i]) (by rw[a6];simp);have ee:∀k∈C,k<W9.heap.size:=fun k d=>(ag k d).2
  have de:∀x∈N.heirsOf m,x<n:=fun x O=>wf.lx O
  have et:(N.heirsOf m).length≤40:=by have:=b5.len de;omega
  have ef:w.heap.size≤W9.heap.size:=L9.ch.kb.size;have eg:=aA LL;have eh:=aA c3;clear LL L8 L9 dc b5 k9 ag ec dd c3 d9;gi_wp2
  refine wpIn_rangeFunc_ownG (α:=Mem (N.heirsOf m)) (hro:=rfl) (h1:=by omega) (gf:=127) (lb:=#[.pointer (some ⟨da,0,none⟩)]) rfl trivial (N7 Mu (by kernel_rfl) rfl) ed (fun h1 Z=>h1.trans Z) (fZ ee) (Below.refl _ _) (fun _=>rfl)
   (fun pre W=>∃f,LI w B c n G C [(z,#[g],112),(w.heap.size+1+1,#[.pointer (some ⟨G.bn,m*7,none⟩)],176),(w.heap.size+1,#[.int .u64 (m:Int)],144),(w.heap.size,#[.pointer (some ⟨G.bg,0,none⟩)],101)] [(g,a,B)] W ((pre.map (·.1)).foldl (fun s h=>s.hand c a m h) N) f∧WF n ((pre.map (·.1)).foldl (fun s h=>s.hand c a m h) N)∧((pre.map (·.1)).foldl (fun s h=>s.hand c a m h) N).un≤N.un+pre.length∧W.heap[a4]?=some (.deferred (some [])))
   (fun _ _ _=>False) ?hI4 (fun _ _ _ _ _ hs _ _=>hs) ⟨G7,eg.out,wf,by simp,eh.out⟩ ?a4 ?assign4 ?body4 ?done4 ?stop4
  case hI4=>rintro pre W W' am ⟨f,D,q2,q3,Q⟩ i hr;refine⟨f,D.own ef i hr,q2,q3,?_⟩;rw[← Q];exact(aS i).block a4 (aB Q) (fun H=>by have:=(hr a4 (by simpa using H)).1;omega)
  case assign4=>
   intro l x W aq hK;gi_wp2
   exact hK
  case body4=>
   rintro l pre ⟨x,aw⟩ W ⟨f,D,q2,q3,Q⟩ dF;have O:=de x aw;have e8:((pre++[(⟨x,aw⟩:Mem (N.heirsOf m))]).map (·.1)).foldl (fun s h=>s.hand c a m h) N=((pre.map (·.1)).foldl (fun s h=>s.hand c a m h) N).hand c a m x:=by rw[Jp,JE];rfl
   have a7:=aA e8;clear e8;generalize (pre.map (·.1)).foldl (fun s h=>s.hand c a m h) N=z0 at *;have cg:=D.cell (b:=w.heap.size) (v:=.pointer (some ⟨G.bg,0,none⟩)) (T:=101) (by simp);have cn:=D.cell (b:=w.heap.size+1) (v:=.int .u64 (m:Int)) (T:=144) (by simp);have c4:=wL b7 z 0 m x a W f D.gm q2 H O ae (D.arg (v:=g) (by simp) (by simp) _) (by omega);rw[D.ch.e1]at c4;have HQ:=aA (And.intro D Q);clear D Q;dsimp only[jO,Nj,MC];gi_wp2
   refine⟨trivial,?_⟩;refine(Je l (IV.2 c4)).mono ?_
   clear c4;rintro e X1 ⟨rfl,G3,aa,ab⟩;obtain⟨d1,d2,d3⟩:=HQ.out.1.call aa ab;have P:=aA (And.intro d1 (And.intro d2 d3));clear d1 d2 d3 aa ab;gi_wp2
   refine⟨P.out.2.1 _,P.out.2.2,G3,?_,?_,?_,gN P.out.2.1 HQ.out.2 rfl⟩
   ·rw[a7.out];exact P.out.1
   ·rw[a7.out];exact q2.hand H O ae
   ·rw[a7.out,St.ir,A4];simp only[Jn,J1];omega
  case stop4=>rintro D2 cc pre W _ _ hF _;exact hF.elim
  case done4=>
   rintro D2 cW W eu bi ⟨G8,D,q2,q3,Q⟩ b6;rw[bi]at D;clear q2 q3;generalize (N.heirsOf m).foldl (fun s h=>s.hand c a m h) N=s6 at *;have cg:=D.cell (b:=w.heap.size) (v:=.pointer (some ⟨G.bg,0,none⟩)) (T:=101) (by simp);have ci:=D.cell (b:=w.heap.size+1+1) (v:=.pointer (some ⟨G.bn,m*7,none⟩)) (T:=176) (by simp);have r4:=D.gm.reads.2.2.2.2.1;rw[D.ch.e1]at r4;have ev:a4≠D2:=by omega
   have df:Hid (∀(W:World) (G9:GV) (st:St),LI w B c n G C [(z,#[g],112),(w.heap.size+1+1,#[.pointer (some ⟨G.bn,m*7,none⟩)],176),(w.heap.size+1,#[.int .u64 (m:Int)],144),(w.heap.size,#[.pointer (some ⟨G.bg,0,none⟩)],101)] [(g,a,B)] W st G9→W.heap[a4]?=some (.deferred (some []))→W.heap[D2]?=some (.deferred (some []))→(W.putObj D2 (.deferred none)).heap[a4]?=some (.deferred (some []))∧LI w B c n G C [(z,#[g],112),(w.heap.size+1+1,#[.pointer (some ⟨G.bn,m*7,none⟩)],176),(w.heap.size+1,#[.int .u64 (m:Int)],144),(w.heap.size,#[.pointer (some ⟨G.bg,0,none⟩)],101)] [(g,a,B)] ((W.putObj D2 (.deferred none)).putObj a4 (.deferred none)) st G9):=by refine aA (fun W G9 st l1 l2 l3=>?_);have d:=aS (grownBy_putObj' W D2 (.deferred none));have h9:=(d.block a4 (aB l2) (by simp;omega)).trans l2;exact⟨h9,(l1.turned l3 rfl (by omega) (.deferred none)).turned h9 rfl (by omega) (.deferred none)⟩
   have ak:c.deltas=true∨c.deltas=false:=by cases c.deltas<;>simp
   rcases ak with ak|ak
   ·rw[ak]at r4;have bk:=gH (7*m+1) z 0 a W G8 D.gm (by omega) (D.arg (v:=g) (by simp) (by simp) _);rw[D.ch.e2,show 7*m+1=m*7+1 by omega]at bk;rw[show m*7+1=7*m+1 by omega]at bk;have dg:Calls hE 120 #[.pointer (some ⟨G.bn,m*7+1,none⟩),.pointer (some ⟨z,0,none⟩)] W fun e w'=>(∃b,e=.returned (.bool b))∧∃f,GM w' B c n f (s.work c m)∧GCh W w' G8 f:=by
     rw[show m*7+1=7*m+1 by omega];refine bk.mono ?_
     rintro e w' ⟨e1,f,e2,e3⟩;refine⟨⟨_,e1⟩,f,?_,e3⟩;rw[bj.out,if_pos ak];exact e2
    have HQ:=aA (And.intro D (And.intro Q b6));clear D Q b6 bk bj;gi_wp2
    refine⟨trivial,?_⟩;refine(IV.2 dg).mono ?_
    clear dg;rintro e ew ⟨⟨bu,rfl⟩,ex,dh,di⟩;obtain⟨d1,d2,_⟩:=HQ.out.1.call dh di;have dj:=gN d2 HQ.out.2.1 rfl;have c5:=gN d2 HQ.out.2.2 rfl;obtain⟨f1,f2⟩:=df.out _ _ _ d1 dj c5;have U:=aA (And.intro f2.gm f2.ch);have HK:=aA (And.intro c5 f1);clear d1 d2 dj c5 f1 f2 dh di;gi_wp2
    refine⟨by simp,.inl ⟨_,_,rfl,LQ HK.out.1,?_⟩⟩;refine⟨by simp,.inl ⟨_,_,rfl,LQ HK.out.2,?_⟩⟩;exact⟨_,KW rfl _ _ _,rfl,_,U.out.1,U.out.2⟩
   ·rw[ak]at r4;obtain⟨f1,f2⟩:=df.out _ _ _ D Q b6;have e6:s.work c m=s6:=by rw[bj.out,if_neg (by rw[ak];decide)]
    have U:=aA (And.intro f2.gm f2.ch);have HK:=aA (And.intro b6 f1);have ei:=aA e6;clear D Q b6 bj f1 f2 e6;gi_wp2
    refine⟨by simp,.inl ⟨_,_,rfl,LQ HK.out.1,?_⟩⟩;refine⟨by simp,.inl ⟨_,_,rfl,LQ HK.out.2,?_⟩⟩;exact⟨_,KW rfl _ _ _,rfl,_,by rw[ei.out];exact U.out.1,U.out.2⟩
 case stop=>rintro a4 cc pre W _ _ hF _;exact hF.elim
end
end Go.Proofs.YtiamlbhkiehilaaGreatDoor
