import Derived.Test.YtiamlbhkiehilaaGreatDoorKq04
import Derived.Test.YtiamlbhkiehilaaGreatDoorKq07
import Derived.Test.YtiamlbhkiehilaaGreatDoorKq05
import Derived.Defers
namespace Go.Proofs.YtiamlbhkiehilaaGreatDoor
section
open Go.RowKit Go.Shelf
attribute [local go_sem] Oper.semAt_some
variable {B:Nat} {c:Way} {n:Nat} {s:St}
theorem ClsR.join{ab:List Nat}{rep:Nat→Nat}(h:ClsR ab rep){i j:Nat}(hj:j<ab.length)(hi:rep i=i)(hjj:rep j=j)(hij:i≤j):ClsR (ab.set j i) (fun m=>if rep m == j then i else rep m):=by
 obtain⟨d1,_,d3⟩:=topOf_set h.down hj (by rw[h.top];exact hi) hij;refine⟨d1,fun m=>?_,by rw[List.length_set];exact h.small⟩;rw[d3 (by rw[h.top];exact hjj) m,h.top];simp only[beq_iff_eq]
set_option maxRecDepth 100000 in
set_option maxHeartbeats 2000000 in
theorem join_any(B b o:Nat)(cs:Array Value)(T:TypeId)(v:Value)(ab:List Nat)(rep:Nat→Nat)(x y:Nat)(w:World)(hB:B≤w.heap.size)(hT:T≠TN)(hb:w.heap[b]?=some (.cells cs T (0,0)))(hv:cs[o]?=some v)(h:OwnN w B v ab)(hc:ClsR ab rep)(hx:x<128)(hy:y<128)
  (i j:Nat) (nw:Bool) (rep':Nat→Nat) (hcase:(rep x=rep y∧i=rep x∧j=rep x∧nw=false∧rep'=rep)∨(rep x<rep y∧i=rep x∧j=rep y∧nw=true∧rep'=fun m=>if rep m == j then i else rep m)∨(rep y<rep x∧i=rep y∧j=rep x∧nw=true∧rep'=fun m=>if rep m == j then i else rep m)) :
  Calls Tryz.prog 161 #[.pointer (some ⟨b,o,none⟩),.int .u64 x,.int .u64 y] w fun e w'=>e=.returned (.tuple #[.int .u64 i,.int .u64 j,.bool nw])∧∃v' ab',SrInv w w' B b o cs T v rep' ab' v':=by
 have ho:o<cs.size:=(Array.getElem?_eq_some_iff.1 hv).1;have HR:=of_any B b o cs T v ab rep x w hB hT hb hv h hc hx;have HC:=hide hcase;clear h hc hb hv hcase;go_enter Tryz.func161,Tryz.ntmps161
 go_wp2_with fail
 refine HR.mono ?_
 clear HR;rintro e w1 ⟨rfl,v1,ab1,l1,m1,I1⟩;have HR2:=of_any B b o (cs.setIfInBounds o v1) T v1 ab1 rep y w1 (Nat.le_trans hB I1.ch.kb.size) hT I1.ch.blk (by simp[ho]) I1.own I1.cls hy;have H1:=hide I1;have L1:Hid (rep x<ab1.length):=hide (Nat.lt_of_le_of_lt (I1.cls.le x) l1);clear I1 m1 l1;go_wp2_with fail
 refine HR2.mono ?_
 clear HR2;rintro e w2 ⟨rfl,v2,ab2,l2,m2,I2⟩;have I:SrInv w w2 B b o cs T v rep ab2 v2:=⟨I2.cls,I2.own,H1.out.ch.trans I2.ch⟩;have hxl:rep x<ab2.length:=Nat.lt_of_lt_of_le L1.out m2;have hyl:rep y<ab2.length:=Nat.lt_of_le_of_lt (I2.cls.le y) l2;have hx2:=I.cls.idem x;have hy2:=I.cls.idem y;have hxx:rep x<128:=Nat.lt_of_le_of_lt (I.cls.le x) hx;have hyy:rep y<128:=Nat.lt_of_le_of_lt (I.cls.le y) hy;clear I2 H1 L1 l2 m2;have HI:=hide I;have X2:=hide (And.intro hx2 hy2);have hsm:=I.cls.small;clear hx2 hy2 I;rcases HC.out with⟨he,h1,h2,h3,h4⟩|⟨he,h1,h2,h3,h4⟩|⟨he,h1,h2,h3,h4⟩
 ·have H4:=hide h4;rw[he]at h1 h2 hxl hxx ⊢;generalize rep y=ry at *;subst h1 h2 h3;clear he h4 HC;go_wp2;refine bodyPost_ret (v:=.tuple #[.int .u64 (j:Nat),.int .u64 (j:Nat),.bool false]) (by simp[results,Tryz.results161,go_sem]) rfl ⟨rfl,v2,ab2,?_⟩;rw[H4.out];exact HI.out
 ·have HN:Hid (∀g L cap,v2=.slice (some ⟨g,0,none⟩) L cap→SrInv w (w2.setCell ⟨g,rep y,none⟩ (.int .u64 (rep x:Int))) B b o cs T v rep' (ab2.set (rep y) (rep x)) v2):=by
   refine hide (fun g L cap e=>HI.out.set e hT (by omega) ?_);rw[h4,h1,h2];exact HI.out.cls.join hyl X2.out.1 X2.out.2 (by omega)
  obtain⟨z,hz⟩:∃z,ab2[rep y]?=some z:=⟨_,List.getElem?_eq_getElem hyl⟩;obtain⟨ao,cap,rfl,hw⟩:=HI.out.own.form;obtain⟨g,rfl,hg,hgf⟩:=hw _ _ hz;have hbr:=HI.out.ch.blk;have hcl:w2.cell? ⟨b,o,none⟩=some (.slice (some ⟨g,0,none⟩) ab2.length cap):=by rw[cell_at hbr];simp[ho]
  clear hw hz hbr h4 HC HI X2;generalize rep y=ry at *;generalize rep x=rx at *;subst h1 h2 h3;have hne:((i:Int) == (j:Int))=false:=by simp;omega
  have hmin:min (i:Int) (j:Int)=(i:Int):=by omega
  have hmax:max (i:Int) (j:Int)=(j:Int):=by omega
  go_wp2;exact bodyPost_ret (v:=.tuple #[.int .u64 (i:Nat),.int .u64 (j:Nat),.bool true]) (by simp[results,Tryz.results161,go_sem]) rfl ⟨rfl,_,_,HN.out g _ cap rfl⟩
 ·have HN:Hid (∀g L cap,v2=.slice (some ⟨g,0,none⟩) L cap→SrInv w (w2.setCell ⟨g,rep x,none⟩ (.int .u64 (rep y:Int))) B b o cs T v rep' (ab2.set (rep x) (rep y)) v2):=by
   refine hide (fun g L cap e=>HI.out.set e hT (by omega) ?_);rw[h4,h1,h2];exact HI.out.cls.join hxl X2.out.2 X2.out.1 (by omega)
  obtain⟨z,hz⟩:∃z,ab2[rep x]?=some z:=⟨_,List.getElem?_eq_getElem hxl⟩;obtain⟨ao,cap,rfl,hw⟩:=HI.out.own.form;obtain⟨g,rfl,hg,hgf⟩:=hw _ _ hz;have hbr:=HI.out.ch.blk;have hcl:w2.cell? ⟨b,o,none⟩=some (.slice (some ⟨g,0,none⟩) ab2.length cap):=by rw[cell_at hbr];simp[ho]
  clear hw hz hbr h4 HC HI X2;generalize rep y=ry at *;generalize rep x=rx at *;subst h1 h2 h3;have hne:((j:Int) == (i:Int))=false:=by simp;omega
  have hmin:min (j:Int) (i:Int)=(i:Int):=by omega
  have hmax:max (j:Int) (i:Int)=(j:Int):=by omega
  go_wp2;exact bodyPost_ret (v:=.tuple #[.int .u64 (i:Nat),.int .u64 (j:Nat),.bool true]) (by simp[results,Tryz.results161,go_sem]) rfl ⟨rfl,_,_,HN.out g _ cap rfl⟩
end
section
open Go.RowKit Go.Shelf
attribute [local go_sem] Oper.semAt_some
variable {B:Nat} {c:Way} {n:Nat} {s:St} {w:World} {G:GV}
theorem GM.putNil(h:GM w B c n G s){k:Nat}(hk:k<7*n):∃G',GM (w.setCell ⟨G.bn,k,none⟩ (.slice none 0 0)) B c n G' (s.put k [])∧GCh w (w.setCell ⟨G.bn,k,none⟩ (.slice none 0 0)) G G':=by
 have hkl:k<G.nv.length:=by rw[h.lnv];exact hk
 have hK:Kb [G.bn] w (w.setCell ⟨G.bn,k,none⟩ (.slice none 0 0)):=(Kb.refl _ _).setCell (p:=⟨G.bn,k,none⟩) (.inl (by simp)) _;have hset:∀(j:Nat) u,(G.nv.set k (.slice none 0 0))[j]?=some u→(j=k∧u=.slice none 0 0)∨(j≠k∧G.nv[j]?=some u):=by
  intro j u hu;by_cases e:j=k
  ·subst e;rw[List.getElem?_set_self hkl]at hu;injection hu with hu;exact .inl ⟨rfl,hu.symm⟩
  ·rw[List.getElem?_set_ne (Ne.symm e)]at hu;exact .inr ⟨e,hu⟩
 have nb:∀ {v:Value},v.ownBlock≠some G.bn→∀g∈[G.bn],v.ownBlock≠some g:=fun hv g hg=>by rw[List.mem_singleton.1 hg];exact hv
 refine⟨{ G with nv:=G.nv.set k (.slice none 0 0) },⟨Nat.le_trans h.hB hK.size,hK.heap h.hbg (by simp;exact ne_types h.hbg h.hbn (by decide)),?_,hK.heap h.hbl (by simp;exact ne_types h.hbl h.hbn (by decide)),by simpa using h.lnv,by simpa[St.put]using h.lss,?_,h.sS.kb hK (nb (h.sS.ne h.hbn (by decide))),h.sI.kb hK (nb (h.sI.ne h.hbn (by decide))),?_,?_,?_,h.aSI,h.oA.kb hK (nb (h.oA.ne h.hbn (by decide))),h.cls,h.oN.kb hK (nb (h.oN.ne h.hbn (by decide))),h.oC.kb hK (nb (h.oC.ne h.hbn (by decide))),h.aAN,h.aAC,h.aCN,h.lo,h.n40,h.lw,h.un,h.ord⟩,?_⟩
 ·rw[heap_set h.hbn];simp[List.setIfInBounds_toArray]
 ·intro j u t1 hu ht1;rcases hset j u hu with⟨rfl,rfl⟩|⟨hj,hu⟩
  ·have e:(s.put j []).ss[j]?=some []:=by simp[St.put,h.lss,hk]
   rw[e]at ht1;injection ht1 with ht1;subst ht1;exact SetV.nil _ _
  ·have e:(s.put k []).ss[j]?=s.ss[j]?:=by simp[St.put,List.getElem?_set_ne (Ne.symm hj)]
   rw[e]at ht1;have hu':=h.sN j u t1 hu ht1;exact hu'.kb hK (nb (hu'.ne h.hbn (by decide)))
 ·intro i j u u' hij hu hu';rcases hset i u hu with⟨rfl,rfl⟩|⟨hi,hu⟩
  ·exact fun g hg=>by cases hg
  ·rcases hset j u' hu' with⟨e1,e2⟩|⟨hj,hu'⟩
   ·rw[e2];exact fun g _ hg=>by cases hg
   ·exact h.aNN i j u u' hij hu hu'
 ·intro j u hu;rcases hset j u hu with⟨rfl,rfl⟩|⟨hj,hu⟩
  ·exact fun g hg=>by cases hg
  ·exact h.aNS j u hu
 ·intro j u hu;rcases hset j u hu with⟨rfl,rfl⟩|⟨hj,hu⟩
  ·exact fun g hg=>by cases hg
  ·exact h.aNI j u hu
 ·refine⟨hK.mono (fun k _ hkm=>by rw[List.mem_singleton.1 hkm];exact mem_foot.2 (.inr (.inl rfl))),fun b hb=>.inl ?_,rfl,rfl,rfl⟩;rcases mem_foot.1 hb with e|e|e|⟨u,hu,e⟩|e
  ·exact mem_foot.2 (.inl e)
  ·exact mem_foot.2 (.inr (.inl e))
  ·exact mem_foot.2 (.inr (.inr (.inl e)))
  ·obtain⟨j,hj⟩:=List.mem_iff_getElem?.1 hu;rcases hset j u hj with⟨_,rfl⟩|⟨_,hj⟩
   ·cases e
   ·exact mem_foot.2 (.inr (.inr (.inr (.inl ⟨u,List.mem_of_getElem? hj,e⟩))))
  ·exact mem_foot.2 (.inr (.inr (.inr (.inr e))))
def St.wiped(s:St)(j:Nat):St:=(((((((({ s with un:=s.un+1 }:St).put (7*j) []).put (7*j+1) []).put (7*j+2) []).put (7*j+3) []).put (7*j+4) []).put (7*j+5) []).put (7*j+6) [])
theorem clear_wiped(s:St)(j:Nat):s.clear j=(s.wiped j).drop j:=rfl
def wipe(w:World)(bn j:Nat):World:=((((((w.setCell ⟨bn,j*7,none⟩ (.slice none 0 0)).setCell ⟨bn,j*7+1,none⟩ (.slice none 0 0)).setCell ⟨bn,j*7+2,none⟩ (.slice none 0 0)).setCell ⟨bn,j*7+3,none⟩ (.slice none 0 0)).setCell ⟨bn,j*7+4,none⟩ (.slice none 0 0)).setCell ⟨bn,j*7+5,none⟩ (.slice none 0 0)).setCell ⟨bn,j*7+6,none⟩ (.slice none 0 0)
theorem GM.wiped(h:GM w B c n G s){j:Nat}(hj:j<n)(hu:s.un+1<4611686018427387904):∃G',GM (wipe (w.setCell ⟨G.bg,9,none⟩ (.int .i64 ((s.un:Int)+1))) G.bn j) B c n G' (s.wiped j)∧GCh w (wipe (w.setCell ⟨G.bg,9,none⟩ (.int .i64 ((s.un:Int)+1))) G.bn j) G G':=by
 obtain⟨h0,c0⟩:=h.putU hu;have e:j*7=7*j:=Nat.mul_comm _ _;unfold wipe St.wiped;rw[e];obtain⟨G1,h1,c1⟩:=h0.putNil (k:=7*j) (by omega);obtain⟨G2,h2,c2⟩:=h1.putNil (k:=7*j+1) (by omega);obtain⟨G3,h3,c3⟩:=h2.putNil (k:=7*j+2) (by omega);obtain⟨G4,h4,c4⟩:=h3.putNil (k:=7*j+3) (by omega);obtain⟨G5,h5,c5⟩:=h4.putNil (k:=7*j+4) (by omega);obtain⟨G6,h6,c6⟩:=h5.putNil (k:=7*j+5) (by omega);obtain⟨G7,h7,c7⟩:=h6.putNil (k:=7*j+6) (by omega);have d1:=c1.e2;have d2:=c2.e2.trans d1;have d3:=c3.e2.trans d2;have d4:=c4.e2.trans d3;have d5:=c5.e2.trans d4;have d6:=c6.e2.trans d5;have cc:=((((((c0.trans c1).trans c2).trans c3).trans c4).trans c5).trans c6).trans c7;rw[d1]at h2 h3 h4 h5 h6 h7 cc;rw[d2]at h3 h4 h5 h6 h7 cc;rw[d3]at h4 h5 h6 h7 cc;rw[d4]at h5 h6 h7 cc;rw[d5]at h6 h7 cc;rw[d6]at h7 cc;exact⟨G7,h7,cc⟩
set_option maxRecDepth 100000 in
set_option maxHeartbeats 4000000 in
theorem gclear_d(j b1 b2:Nat)(u:FrameMode)(w:World)(G:GV)(h:GM w B c n G s)(hj:j<n)(hu:s.un+1<4611686018427387904)(hln:s.now.length≤500)(hlc:s.come.length≤500)(hb1:w.heap[b1]?=some (.cells #[.pointer (some ⟨G.bg,0,none⟩)] 101 (0,0)))(hb2:w.heap[b2]?=some (.cells #[.int .u64 (j:Int)] 144 (0,0)))(hf1:b1 ∉ G.foot)(hf2:b2 ∉ G.foot) :
  CallsD Tryz.prog 162 #[.pointer (some ⟨b1,0,none⟩),.pointer (some ⟨b2,0,none⟩)] u w fun e u' w'=>u'=u∧(e=.returned (.tuple #[])∧∃G',GM w' B c n G' (s.clear j)∧GCh w w' G G'):=by
 have hn:=h.n40;obtain⟨r0,r1,r2,r3,r4,r5,r7,r9,r9f⟩:=h.reads;have c1:w.cell? ⟨b1,0,none⟩=some (.pointer (some ⟨G.bg,0,none⟩)):=by rw[cell_at hb1];rfl
 have c2:w.cell? ⟨b2,0,none⟩=some (.int .u64 (j:Int)):=by rw[cell_at hb2];rfl
 have hbgf:G.bg∈G.foot:=mem_foot.2 (.inl rfl);have hbnf:G.bn∈G.foot:=mem_foot.2 (.inr (.inl rfl));have hblf:G.bl∈G.foot:=mem_foot.2 (.inr (.inr (.inl rfl)));obtain⟨W0,hW0⟩:∃W0,W0=w.setCell ⟨G.bg,9,none⟩ (.int .i64 ((s.un:Int)+1)):=⟨_,rfl⟩;obtain⟨g0,k0⟩:=h.putU hu;rw[← hW0]at g0 k0;have d1:W0.cell? ⟨b1,0,none⟩=some (.pointer (some ⟨G.bg,0,none⟩)):=by rw[cell_at (k0.kb.heap hb1 hf1)];rfl
 have d2:W0.cell? ⟨b2,0,none⟩=some (.int .u64 (j:Int)):=by rw[cell_at (k0.kb.heap hb2 hf2)];rfl
 have e5:W0.cell? ⟨G.bg,5,none⟩=some (.slice (some ⟨G.bn,0,none⟩) n G.cap):=g0.reads.2.2.2.2.2.1;have fz:=fun o=>frozen_at g0.hbn o
 have hnl:∀k,k<7*n→∃v,W0.cell? ⟨G.bn,k,none⟩=some v:=by
  intro k hk;rw[cell_at g0.hbn];exact⟨_,by rw[List.getElem?_toArray];exact List.getElem?_eq_getElem (by rw[g0.lnv];exact hk)⟩
 obtain⟨v0,q0⟩:=hnl (j*7) (by omega);obtain⟨v1,q1⟩:=hnl (j*7+1) (by omega);obtain⟨v2,q2⟩:=hnl (j*7+2) (by omega);obtain⟨v3,q3⟩:=hnl (j*7+3) (by omega);obtain⟨v4,q4⟩:=hnl (j*7+4) (by omega);obtain⟨v5,q5⟩:=hnl (j*7+5) (by omega);obtain⟨v6,q6⟩:=hnl (j*7+6) (by omega);have HG:=hide g0;have HH:=hide h;have HB:=hide (And.intro hb1 hb2);clear g0 h hb1 hb2 hnl k0;go_enter_d Tryz.func162,Tryz.ntmps162
 go_wp2_with fail
 rw[← hW0];clear r9 r9f r7 r5 r0 r1 r2 r3 r4 c1 c2;have HW:=hide hW0;clear hW0;obtain⟨G7,h7,c7⟩:=HH.out.wiped hj hu;rw[← HW.out]at h7 c7;have h7d:=h7.fresh (w':=(wipe W0 G.bn j).drew.drew) (Kb.refl [] _).drew.drew;have c7d:GCh w (wipe W0 G.bn j).drew.drew G G7:=⟨c7.kb.drew.drew,c7.ft,c7.e1,c7.e2,c7.e3⟩;have HDr:=gdrop_any j _ G7 h7d (by omega) hln hlc;rw[c7.e3]at HDr;have HC:=hide c7d;have x1:(wipe W0 G.bn j).cell? ⟨b1,0,none⟩=some (.pointer (some ⟨G.bg,0,none⟩)):=by rw[cell_at (c7.kb.heap HB.out.1 hf1)];rfl
 have x2:(wipe W0 G.bn j).cell? ⟨b2,0,none⟩=some (.int .u64 (j:Int)):=by rw[cell_at (c7.kb.heap HB.out.2 hf2)];rfl
 have x7:(wipe W0 G.bn j).cell? ⟨G.bg,7,none⟩=some (.pointer (some ⟨G.bl,0,none⟩)):=by
  have:=h7.reads.2.2.2.2.2.2.1;rw[c7.e1,c7.e3]at this;exact this
 clear h7 c7 h7d c7d;obtain⟨WX,hWX⟩:∃WX,wipe W0 G.bn j=WX:=⟨_,rfl⟩;have hWX2:=hWX;unfold wipe at hWX2;rw[hWX]at HDr HC x1 x2 x7;have HWX:=hide hWX2;clear hWX hWX2;go_region
 rw[HWX.out];clear HWX d1 d2 e5 fz q0 q1 q2 q3 q4 q5 q6 HW HG HB;go_wp2_with fail
 go_region_with (refine HDr.mono ?_;clear HDr;rintro e w2 ⟨rfl,G2,hG2,hC2⟩)
 all_goals
  go_wp2;go_end0
  exact⟨rfl,G2,by rw[clear_wiped];exact hG2,HC.out.trans hC2⟩
end
end Go.Proofs.YtiamlbhkiehilaaGreatDoor
