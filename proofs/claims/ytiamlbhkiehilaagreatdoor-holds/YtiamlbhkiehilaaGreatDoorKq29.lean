import Derived.Test.YtiamlbhkiehilaaGreatDoorKq23
import Derived.Test.YtiamlbhkiehilaaGreatDoorKq28
namespace Go.Proofs.YtiamlbhkiehilaaGreatDoor
section
open Go.RowKit Go.Shelf
variable {B:Nat} {c:Way} {n:Nat} {s:St}
set_option maxRecDepth 100000 in
theorem gheirs_cap(m:Nat)(w:World)(G:GV)(h:GM w B c n G s)(hT:TabAt w)(hTl:0<B)(hm:m<n)(hr:∀x,s.rep x≤x) :
  Calls Tryz.prog 118 #[.pointer (some ⟨G.bg,0,none⟩),.int .u64 m] w fun e w'=>∃G' v',e=.returned (.agg #[v'])∧GM w' B c n G' s∧GCh w w' G G'∧NewS w w' G' v' (s.heirsOf m)∧w'.cell? ⟨G.bg,5,none⟩=some (.slice (some ⟨G.bn,0,none⟩) n G.cap):=by
 have hn:=h.n40;obtain⟨r0,r1,r2,r3,r4,r5,r7,r9,r9f⟩:=h.reads;obtain⟨W0,hW0⟩:∃W0,W0=w.alloc (.cells #[.slice none 0 0] 112):=⟨_,rfl⟩;have k0:Kb [] w W0:=by rw[hW0];exact(Kb.refl [] w).alloc _
 have z0:W0.heap.size=w.heap.size+1:=by rw[hW0];simp
 have y0:W0.heap[w.heap.size]?=some (.cells #[.slice none 0 0] 112 (0,0)):=by rw[hW0];exact heap_new _ _
 have h0:=h.fresh k0;obtain⟨v,q,q',qs⟩:=h0.get (k:=7*m+2) (by omega);have HS:=gstanding_cap G.bn (7*m+2) _ TNd v B _ W0 G h0 (hT.kb k0 (by simp)) hTl h0.hbn q' qs hr;have r5':=h0.reads.2.2.2.2.2.1;have hfl:=h.footlt;rw[show 7*m+2=m*7+2 by omega]at HS;have es:s.standing (s.ss.getD (m*7+2) [])=s.standing (s.hr m):=by unfold St.hr;rw[show m*7+2=7*m+2 by omega]
 rw[es]at HS;clear r0 r1 r2 r3 r4 r7 r9 r9f q q' qs es;go_enter Tryz.func118,Tryz.ntmps118
 rw[hW0]at HS r5';go_wp2_with fail
 refine HS.mono ?_
 clear HS;rintro e w1 ⟨G1,v1,rfl,hG1,hC1,hS1,hO1,hcp⟩;have HCp:=hide (hG1.capOf hC1.e1 hcp);clear hcp;rw[← hW0]at hC1 hS1;have k1:Kb [] w1 (w1.alloc (.cells #[v1] 112)):=(Kb.refl [] w1).alloc _;have hG2:=hG1.fresh k1;have HFL1:=hide hG1.footlt;have HR:=remove_any W0.heap.size w1.heap.size 0 #[v1] 112 v1 (s.standing (s.hr m)) m (w1.alloc (.cells #[v1] 112)) (by decide) (heap_new _ _) rfl (hS1.kb k1 (by simp)) (by omega);have hform:∃ao l cap,v1=.slice ao l cap:=by
  obtain⟨ws,_,hO,_⟩:=hS1;obtain⟨ao,cap,e,_⟩:=hO.form;exact⟨ao,_,cap,e⟩
 obtain⟨ao,l,cap,rfl⟩:=hform;have yr:w1.heap[w.heap.size]?=some (.cells #[.slice none 0 0] 112 (0,0)):=hC1.kb.heap y0 (fun hmm=>by have:=hfl _ hmm;omega);have H1:=hide (And.intro hG2 (And.intro hC1 (And.intro hS1 hO1)));have hsz:=hC1.kb.size;have HY:=hide yr;have HZ:=hide z0;have HK0:=hide k0;clear hW0 hG1 hG2 hC1 hS1 hO1 yr z0 k0 y0 r5' h0;go_wp2_with fail
 refine HR.mono ?_
 clear HR;rintro e w2 ⟨rfl,v2,hS2,hC2⟩;have hform:∃ao l cap,v2=.slice ao l cap:=by
  obtain⟨ws,_,hO,_⟩:=hS2;obtain⟨ao,cap,e,_⟩:=hO.form;exact⟨ao,_,cap,e⟩
 obtain⟨ao2,l2,cap2,rfl⟩:=hform;have c2:w2.cell? ⟨w1.heap.size,0,none⟩=some (.slice ao2 l2 cap2):=by rw[cell_at hC2.blk];rfl
 have hone:(Value.slice ao l cap).ownBlock≠some w.heap.size:=by
  intro e;have:=(H1.out.2.2.1.lt e).1;rw[HZ.out]at this;omega
 have yr2:w2.heap[w.heap.size]?=some (.cells #[.slice none 0 0] 112 (0,0)):=by
  refine hC2.kb.heap (heap_old HY.out _) (fun hmm=>?_);rcases List.mem_cons.1 hmm with e|hmm
  ·have:=lt_of_heap HY.out;omega
  ·simp at hmm;exact hone hmm
 have cr:w2.cell? ⟨w.heap.size,0,none⟩=some (.slice none 0 0):=by rw[cell_at yr2];rfl
 have fr:w2.frozen? ⟨w.heap.size,0,none⟩=false:=frozen_at yr2 0;have HF:Hid (∃G',GM (w2.setCell ⟨w.heap.size,0,none⟩ (.slice ao2 l2 cap2)) B c n G' s∧GCh w (w2.setCell ⟨w.heap.size,0,none⟩ (.slice ao2 l2 cap2)) G G'∧NewS w (w2.setCell ⟨w.heap.size,0,none⟩ (.slice ao2 l2 cap2)) G' (.slice ao2 l2 cap2) (s.heirsOf m)∧(w2.setCell ⟨w.heap.size,0,none⟩ (.slice ao2 l2 cap2)).cell? ⟨G.bg,5,none⟩=some (.slice (some ⟨G.bn,0,none⟩) n G.cap)):=by
  obtain⟨p1,p2,p3,p4⟩:=H1.out;have kS:Kb [w.heap.size] w2 (w2.setCell ⟨w.heap.size,0,none⟩ (.slice ao2 l2 cap2)):=(Kb.refl _ _).setCell (p:=⟨w.heap.size,0,none⟩) (.inl (by simp)) _;have hlow:w.heap.size ∉ G1.foot:=by
   intro hmm;rcases p2.ft _ hmm with h1|h1
   ·have:=hfl _ h1;omega
   ·rw[HZ.out]at h1;omega
  have hl2:∀b∈w1.heap.size::(Value.slice ao l cap).ownBlock.toList,b ∉ G1.foot∧w.heap.size≤b:=by
   intro b hb;rcases List.mem_cons.1 hb with rfl|hb
   ·refine⟨fun hmm=>?_,by have:=HK0.out.size;omega⟩;have:=HFL1.out _ hmm;omega
   ·simp at hb;exact⟨p4 b hb,by have:=(p3.lt hb).1;rw[HZ.out]at this;omega⟩
  have g2:=(p1.beside hC2.kb (fun b hb=>(hl2 b hb).1)).beside kS (by intro b hb;rw[List.mem_singleton.1 hb];exact hlow);have ch0:GCh w w1 G G1:=GCh.before HK0.out p2;have ch1:GCh w (w1.alloc (.cells #[.slice ao l cap] 112)) G G1:=ch0.beside ((Kb.refl [] w1).alloc _) (by simp);have ch2:=(ch1.beside hC2.kb (fun b hb=>(hl2 b hb).2)).beside kS (by intro b hb;rw[List.mem_singleton.1 hb];exact Nat.le_refl _);have hcc:=g2.reads.2.2.2.2.2.1;rw[ch2.e1,ch2.e2,HCp.out]at hcc;refine hide ⟨G1,g2,ch2,⟨?_,?_⟩,hcc⟩
  ·have h9:SetV (w2.setCell ⟨w.heap.size,0,none⟩ (.slice ao2 l2 cap2)) W0.heap.size (.slice ao2 l2 cap2) (delS m (s.standing (s.hr m))):=by
    refine hS2.kb kS (fun b hb e=>?_);rw[List.mem_singleton.1 hb]at e;have:=(hS2.lt e).1;rw[HZ.out]at this;omega
   obtain⟨ws,w1',hO,e⟩:=h9;refine⟨ws,w1',⟨?_,hO.2⟩,e⟩;obtain⟨o1,o2⟩:=hO.1;refine⟨o1,?_⟩;rcases o2 with o2|⟨g,cp,cur,e1,e2,rest⟩
   ·exact .inl o2
   ·exact .inr ⟨g,cp,cur,e1,by have:=HK0.out.size;omega,rest⟩
  ·intro g hg hmm;rcases hC2.lies with e|⟨g',e,hg'⟩
   ·exact p4 g (by rw[← e];exact hg) hmm
   ·rw[e]at hg;cases hg;have:=p1.footlt _ hmm;omega
 have hcl:(w2.setCell ⟨w.heap.size,0,none⟩ (.slice ao2 l2 cap2)).cell? ⟨w.heap.size,0,none⟩=some (.slice ao2 l2 cap2):=by rw[cell_at (heap_set yr2 0 _)];rfl
 have HCL:=hide hcl;clear hS2 hC2 yr2 H1 HY hcl;go_wp2;refine bodyPost_ret (v:=.agg #[.slice ao2 l2 cap2]) (by simp[results,Tryz.results118,go_sem,HCL.out]) rfl ?_
 obtain⟨G',p1,p2,p3⟩:=HF.out;exact⟨G',_,rfl,p1,p2,p3⟩
end
section
open Go.RowKit Go.Shelf
abbrev nilV:Value:=.slice none 0 0
structure PS(W:World)(Bp bp n:Nat)(pv:List Value)(ps:List (List Nat)):Prop where
 hb:W.heap[bp]?=some (.cells pv.toArray TP (0,0))
 lp:Bp≤bp
 ln:pv.length=n
 lq:ps.length=n
 st:∀i,i<n→SetV W Bp (pv.getD i nilV) (ps.getD i [])
 ap:∀i j,i<n→j<n→i≠j→Apart (pv.getD i nilV) (pv.getD j nilV)
def pft(bp:Nat)(pv:List Value):List Nat:=bp::pv.filterMap Value.ownBlock
variable {W W':World} {Bp bp n:Nat} {pv:List Value} {ps:List (List Nat)}
theorem getD_lt_get{pv:List Value}{i:Nat}(hi:i<pv.length):pv[i]?=some (pv.getD i nilV):=by
 rw[List.getD_eq_getElem?_getD,List.getElem?_eq_getElem hi];rfl
theorem mem_pft{b:Nat}:b∈pft bp pv↔b=bp∨∃i,i<pv.length∧(pv.getD i nilV).ownBlock=some b:=by
 unfold pft;rw[List.mem_cons,List.mem_filterMap];constructor
 ·rintro(h|⟨v,hv,e⟩)
  ·exact .inl h
  ·obtain⟨i,hi⟩:=List.mem_iff_getElem?.1 hv;have hl:=(List.getElem?_eq_some_iff.1 hi).1;rw[getD_lt_get hl]at hi;injection hi with hi;exact .inr ⟨i,hl,by rw[hi];exact e⟩
 ·rintro(h|⟨i,hi,e⟩)
  ·exact .inl h
  ·exact .inr ⟨_,List.mem_of_getElem? (getD_lt_get hi),e⟩
theorem PS.get(h:PS W Bp bp n pv ps){i:Nat}(hi:i<n):pv.toArray[i]?=some (pv.getD i nilV):=by
 have:=getD_lt_get (pv:=pv) (i:=i) (by rw[h.ln];exact hi);simpa using this
theorem PS.own(h:PS W Bp bp n pv ps){i g:Nat}(hi:i<n)(hg:(pv.getD i nilV).ownBlock=some g):g∈pft bp pv:=mem_pft.2 (.inr ⟨i,by rw[h.ln];exact hi,hg⟩)
theorem PS.cells(h:PS W Bp bp n pv ps){b:Nat}(hb:b∈pft bp pv):Bp≤b∧b<W.heap.size∧∃cs T,W.heap[b]?=some (.cells cs T (0,0)):=by
 rcases mem_pft.1 hb with rfl|⟨i,hi,e⟩
 ·exact⟨h.lp,lt_of_heap h.hb,_,_,h.hb⟩
 ·have hs:=h.st i (by rw[← h.ln];exact hi);obtain⟨cs,hc⟩:=hs.block e;exact⟨(hs.lt e).1,(hs.lt e).2,cs,_,hc⟩
theorem PS.kb(h:PS W Bp bp n pv ps){L:List Nat}(hk:Kb L W W')(hl:∀b∈L,b ∉ pft bp pv):PS W' Bp bp n pv ps:=
 ⟨hk.heap h.hb (fun hm=>hl _ hm (mem_pft.2 (.inl rfl))),h.lp,h.ln,h.lq,fun i hi=>(h.st i hi).kb hk (fun g hg e=>hl g hg (h.own hi e)),h.ap⟩
theorem PS.put(h:PS W Bp bp n pv ps){i:Nat}(hi:i<n){v':Value}{t:List Nat}(hC:SetCh W W' bp i pv.toArray TP (pv.getD i nilV) v')(hS:SetV W' Bp v' t):PS W' Bp bp n (pv.set i v') (ps.set i t)∧Kb (pft bp pv) W W'∧∀b∈pft bp (pv.set i v'),b∈pft bp pv∨W.heap.size≤b:=by
 have hil:i<pv.length:=by rw[h.ln];exact hi
 have hiq:i<ps.length:=by rw[h.lq];exact hi
 have gs:(pv.set i v').getD i nilV=v':=by rw[List.getD_eq_getElem?_getD,List.getElem?_set_self hil];rfl
 have gn:∀j,j≠i→(pv.set i v').getD j nilV=pv.getD j nilV:=fun j hj=>by rw[List.getD_eq_getElem?_getD,List.getElem?_set_ne (Ne.symm hj),← List.getD_eq_getElem?_getD]
 have qs:(ps.set i t).getD i []=t:=by rw[List.getD_eq_getElem?_getD,List.getElem?_set_self hiq];rfl
 have qn:∀j,j≠i→(ps.set i t).getD j []=ps.getD j []:=fun j hj=>by rw[List.getD_eq_getElem?_getD,List.getElem?_set_ne (Ne.symm hj),← List.getD_eq_getElem?_getD]
 have hne:∀j,j<n→(pv.getD j nilV).ownBlock≠some bp:=fun j hj=>(h.st j hj).ne h.hb (by decide)
 have hold:∀j,j<n→j≠i→SetV W' Bp (pv.getD j nilV) (ps.getD j []):=fun j hj hji=>(h.st j hj).kb hC.kb (fun g hg e=>by
  rcases List.mem_cons.1 hg with rfl|hg
  ·exact hne j hj e
  ·simp only[Option.mem_toList]at hg;exact h.ap j i hj hi hji g e hg)
 have hap:∀j,j<n→j≠i→Apart (pv.getD j nilV) v':=fun j hj hji g e1 e2=>by
  rcases hC.lies with e|⟨g',e,hg'⟩
  ·exact h.ap j i hj hi hji g e1 (e ▸ e2)
  ·rw[e]at e2;cases e2;have:=((h.st j hj).lt e1).2;omega
 refine⟨⟨?_,h.lp,by simpa using h.ln,by simpa using h.lq,fun j hj=>?_,fun j k hj hk hjk=>?_⟩,hC.kb.mono (fun k _ hk=>?_),fun b hb=>?_⟩
 ·rw[hC.blk];simp[List.setIfInBounds_toArray]
 ·by_cases e:j=i
  ·rw[e,gs,qs];exact hS
  ·rw[gn j e,qn j e];exact hold j hj e
 ·by_cases e:j=i
  ·rw[e,gs,gn k (by omega)];exact(hap k hk (by omega)).symm
  ·by_cases e2:k=i
   ·rw[e2,gs,gn j e];exact hap j hj e
   ·rw[gn j e,gn k e2];exact h.ap j k hj hk hjk
 ·rcases List.mem_cons.1 hk with rfl|hk
  ·exact mem_pft.2 (.inl rfl)
  ·simp only[Option.mem_toList]at hk;exact h.own hi hk
 ·rcases mem_pft.1 hb with rfl|⟨j,hj,e⟩
  ·exact .inl (mem_pft.2 (.inl rfl))
  ·rw[List.length_set]at hj;by_cases e2:j=i
   ·rw[e2,gs]at e;rcases hC.lies with e3|⟨g',e3,hg'⟩
    ·exact .inl (h.own hi (e3 ▸ e))
    ·rw[e3]at e;cases e;exact .inr hg'
   ·rw[gn j e2]at e;exact .inl (mem_pft.2 (.inr ⟨j,hj,e⟩))
end
section
open Go.RowKit Go.Shelf
def hstep(i:Nat)(x:Bool × List (List Nat))(h:Nat):Bool × List (List Nat):=(newS (x.2.getD h []) (x.2.getD i []) || x.1,x.2.set h (uniS (x.2.getD h []) (x.2.getD i [])))
def lstep(ld:Nat)(x:Bool × List (List Nat))(p:Nat):Bool × List (List Nat):=((!(x.2.getD p []).contains ld) || x.1,x.2.set p (addS ld (x.2.getD p [])))
theorem handParts_eq(s:St)(ps:List (List Nat))(i ld:Nat)(h:(ps.getD i []).isEmpty=false):s.handParts ps i ld=(s.standing (s.ld i)).foldl (lstep ld) ((s.heirsOf i).foldl (hstep i) (false,ps)):=by
 unfold St.handParts;rw[if_neg (by rw[h];decide)];rfl
structure HpI(X:World)(Bp bp n:Nat)(pv0:List Value)(b9:Nat)(x:Bool × List (List Nat))(pv:List Value)(W:World):Prop where
 ps:PS W Bp bp n pv x.2
 kb:Kb (b9::pft bp pv0) X W
 pf:∀b,b∈pft bp pv→b∈pft bp pv0∨X.heap.size≤b
 fl:W.heap[b9]?=some (.cells #[.bool x.1] 4 (0,0))
 nf:b9 ∉ pft bp pv0
 lt:b9<X.heap.size
variable {X W W':World} {Bp bp n:Nat} {pv0 pv:List Value} {b9:Nat} {x:Bool × List (List Nat)}
theorem HpI.nf'(h:HpI X Bp bp n pv0 b9 x pv W):b9 ∉ pft bp pv:=fun hm=>by
 rcases h.pf b9 hm with h1|h1
 ·exact h.nf h1
 ·have:=h.lt;omega
theorem HpI.beside(h:HpI X Bp bp n pv0 b9 x pv W){L:List Nat}(hk:Kb L W W')(hL:∀b∈L,X.heap.size≤b∧b ∉ pft bp pv):HpI X Bp bp n pv0 b9 x pv W':=by
 refine⟨h.ps.kb hk (fun b hb=>(hL b hb).2),⟨hk.os.trans h.kb.os,hk.tape.trans h.kb.tape,hk.output.trans h.kb.output,Nat.le_trans h.kb.size hk.size,fun j hj hn=>?_⟩,h.pf,hk.heap h.fl (fun hm=>?_),h.nf,h.lt⟩
 ·refine(hk.block j (Nat.lt_of_lt_of_le hj h.kb.size) (fun hm=>?_)).trans (h.kb.block j hj hn);have:=(hL j hm).1;omega
 ·have:=(hL _ hm).1;have:=h.lt;omega
theorem HpI.own(h:HpI X Bp bp n pv0 b9 x pv W){row:Option Nat}(hg:W.grownBy W' row)(hr:∀r,row=some r→X.heap.size≤r∧∃o:Obj,W.heap[r]?=some o∧o.isCells=false):HpI X Bp bp n pv0 b9 x pv W':=by
 refine h.beside (kb_grown hg) (fun b hb=>?_);obtain⟨h1,o,ho,hc⟩:=hr b (by simpa using hb);refine⟨h1,fun hm=>?_⟩;obtain⟨_,_,cs,T,h2⟩:=h.ps.cells hm;rw[ho]at h2;cases h2;cases hc
theorem HpI.put(h:HpI X Bp bp n pv0 b9 x pv W){y:Nat}(hy:y<n){v':Value}{t:List Nat}{W1:World}(hC:SetCh W W1 bp y pv.toArray TP (pv.getD y nilV) v')(hS:SetV W1 Bp v' t)(f:Bool){L:List Nat}(hL:∀b∈L,b<W.heap.size∧b≠b9∧b ∉ pft bp pv) :
  HpI X Bp bp n pv0 b9 (f,x.2.set y t) (pv.set y v') (W1.setCell ⟨b9,0,none⟩ (.bool f))∧(∀D,KeepsFrom D W (W1.setCell ⟨b9,0,none⟩ (.bool f)))∧KpB L W (W1.setCell ⟨b9,0,none⟩ (.bool f))∧W1.heap[b9]?=some (.cells #[.bool x.1] 4 (0,0)):=by
 obtain⟨p1,p2,p3⟩:=h.ps.put hy hC hS;have f1:W1.heap[b9]?=some (.cells #[.bool x.1] 4 (0,0)):=p2.heap h.fl h.nf';have k2:Kb [b9] W1 (W1.setCell ⟨b9,0,none⟩ (.bool f)):=(Kb.refl _ _).setCell (p:=⟨b9,0,none⟩) (.inl (by simp)) _;have n2:b9 ∉ pft bp (pv.set y v'):=fun hm=>by
  rcases p3 b9 hm with h1|h1
  ·exact h.nf' h1
  ·have:=lt_of_heap h.fl;omega
 have k02:Kb (b9::pft bp pv) W (W1.setCell ⟨b9,0,none⟩ (.bool f)):=(p2.mono (fun k _ hk=>List.mem_cons_of_mem _ hk)).trans (k2.mono (fun k _ hk=>by rw[List.mem_singleton.1 hk];exact List.mem_cons_self));refine⟨⟨p1.kb k2 (fun b hb=>by rw[List.mem_singleton.1 hb];exact n2),⟨k02.os.trans h.kb.os,k02.tape.trans h.kb.tape,k02.output.trans h.kb.output,Nat.le_trans h.kb.size k02.size,fun j hj hn=>?_⟩,fun b hb=>?_,by rw[heap_set f1];rfl,h.nf,h.lt⟩,fun D=>kb_keepsFrom k02 (fun b hb=>?_) D,fun b hb=>?_,f1⟩
 ·refine(k02.block j (Nat.lt_of_lt_of_le hj h.kb.size) (fun hm=>?_)).trans (h.kb.block j hj hn);rcases List.mem_cons.1 hm with rfl|hm
  ·exact hn List.mem_cons_self
  ·rcases h.pf j hm with h1|h1
   ·exact hn (List.mem_cons_of_mem _ h1)
   ·omega
 ·rcases p3 b hb with h1|h1
  ·exact h.pf b h1
  ·exact .inr (Nat.le_trans h.kb.size h1)
 ·intro o ho;rcases List.mem_cons.1 hb with rfl|hb
  ·rw[h.fl]at ho;cases ho;rfl
  ·obtain⟨_,_,cs,T,h2⟩:=h.ps.cells hb;rw[h2]at ho;cases ho;rfl
 ·obtain⟨q1,q2,q3⟩:=hL b hb;exact k02.block b q1 (fun hm=>by
   rcases List.mem_cons.1 hm with e|hm
   ·exact q2 e
   ·exact q3 hm)
def HpJ(X:World)(Bp bp n:Nat)(pv0:List Value)(b9:Nat)(x:Bool × List (List Nat))(W:World):Prop:=∃pv,HpI X Bp bp n pv0 b9 x pv W
end
end Go.Proofs.YtiamlbhkiehilaaGreatDoor
