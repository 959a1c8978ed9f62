import Derived.Test.YtiamlbhkiehilaaGreatDoorKa30
open List renaming getD_eq_getElem?_getD→E1,mem_cons→sT,getElem?_set_self→Kv,getElem?_set_ne→Jt,mem_cons_of_mem→C1,mem_singleton→A1,mem_cons_self→Bx
open Nat renaming le_trans→IH,lt_of_lt_of_le→A2
open Option renaming mem_toList→I9
namespace Go.Proofs.YtiamlbhkiehilaaGreatDoor

section
open Go.RowKit Go.Shelf
abbrev fP:Value:=.slice none 0 0
structure PS(W:World)(Bp bp n:Nat)(pv:List Value)(ps:List (List Nat)):Prop where
 hb:W.heap[bp]?=some (.cells pv.toArray TP (0,0))
 lp:Bp≤bp
 ln:pv.length=n
 lq:ps.length=n
 st:∀i,i<n→aO W Bp (pv.getD i fP) (ps.getD i [])
 ap:∀i j,i<n→j<n→i≠j→eR (pv.getD i fP) (pv.getD j fP)
def pft(bp:Nat)(pv:List Value):List Nat:=bp::pv.filterMap Value.ownBlock
variable {W W':World} {Bp bp n:Nat} {pv:List Value} {ps:List (List Nat)}
theorem nU{pv:List Value}{i:Nat}(a:i<pv.length):pv[i]?=some (pv.getD i fP):=by rw[E1,List.getElem?_eq_getElem a];rfl
theorem gZ{b:Nat}:b∈pft bp pv↔b=bp∨∃i,i<pv.length∧(pv.getD i fP).ownBlock=some b:=by
 unfold pft;rw[sT,List.mem_filterMap];constructor
 ·rintro(h|⟨v,d,e⟩)
  ·exact .inl h
  ·obtain⟨i,a⟩:=List.mem_iff_getElem?.1 d;have c:=(List.getElem?_eq_some_iff.1 a).1;rw[nU c]at a;injection a with a;exact .inr ⟨i,c,by rw[a];exact e⟩
 ·rintro(h|⟨i,a,e⟩)
  ·exact .inl h
  ·exact .inr ⟨_,List.mem_of_getElem? (nU a),e⟩
theorem PS.get(h:PS W Bp bp n pv ps){i:Nat}(a:i<n):pv.toArray[i]?=some (pv.getD i fP):=by have:=nU (pv:=pv) (i:=i) (by rw[h.ln];exact a);simpa using this
theorem PS.own(h:PS W Bp bp n pv ps){i g:Nat}(a:i<n)(b:(pv.getD i fP).ownBlock=some g):g∈pft bp pv:=gZ.2 (.inr ⟨i,by rw[h.ln];exact a,b⟩)
theorem PS.cells(h:PS W Bp bp n pv ps){b:Nat}(d:b∈pft bp pv):Bp≤b∧b<W.heap.size∧∃a T,W.heap[b]?=some (.cells a T (0,0)):=by
 rcases gZ.1 d with rfl|⟨i,f,e⟩
 ·exact⟨h.lp,aB h.hb,_,_,h.hb⟩
 ·have c:=h.st i (by rw[← h.ln];exact f);obtain⟨a,g⟩:=c.block e;exact⟨(c.lt e).1,(c.lt e).2,a,_,g⟩
theorem PS.kb(h:PS W Bp bp n pv ps){L:List Nat}(a:Kb L W W')(c:∀b∈L,b ∉ pft bp pv):PS W' Bp bp n pv ps:=
 ⟨a.heap h.hb (fun f=>c _ f (gZ.2 (.inl rfl))),h.lp,h.ln,h.lq,fun i d=>(h.st i d).kb a (fun g j e=>c g j (h.own d e)),h.ap⟩
theorem PS.put(h:PS W Bp bp n pv ps){i:Nat}(f:i<n){v':Value}{t:List Nat}(m:SetCh W W' bp i pv.toArray TP (pv.getD i fP) v')(y:aO W' Bp v' t):PS W' Bp bp n (pv.set i v') (ps.set i t)∧Kb (pft bp pv) W W'∧∀b∈pft bp (pv.set i v'),b∈pft bp pv∨W.heap.size≤b:=by
 have z:i<pv.length:=by rw[h.ln];exact f
 have A:i<ps.length:=by rw[h.lq];exact f
 have o:(pv.set i v').getD i fP=v':=by rw[E1,Kv z];rfl
 have l:∀j,j≠i→(pv.set i v').getD j fP=pv.getD j fP:=fun j a=>by rw[E1,Jt (Ne.symm a),← E1]
 have B:(ps.set i t).getD i []=t:=by rw[E1,Kv A];rfl
 have C:∀j,j≠i→(ps.set i t).getD j []=ps.getD j []:=fun j a=>by rw[E1,Jt (Ne.symm a),← E1]
 have D:∀j,j<n→(pv.getD j fP).ownBlock≠some bp:=fun j a=>(h.st j a).ne h.hb (by decide)
 have E:∀j,j<n→j≠i→aO W' Bp (pv.getD j fP) (ps.getD j []):=fun j a q=>(h.st j a).kb m.kb (fun g p e=>by
  rcases sT.1 p with rfl|p
  ·exact D j a e
  ·simp only[I9]at p;exact h.ap j i a f q g e p)
 have s:∀j,j<n→j≠i→eR (pv.getD j fP) v':=fun j a q g u c=>by
  rcases m.lies with e|⟨F,e,w⟩
  ·exact h.ap j i a f q g u (e ▸ c)
  ·rw[e]at c;cases c;have:=((h.st j a).lt u).2;omega
 refine⟨⟨?_,h.lp,by simpa using h.ln,by simpa using h.lq,fun j a=>?_,fun j k a d G=>?_⟩,m.kb.mono (fun k _ d=>?_),fun b H=>?_⟩
 ·rw[m.blk];simp[List.setIfInBounds_toArray]
 ·by_cases e:j=i
  ·rw[e,o,B];exact y
  ·rw[l j e,C j e];exact E j a e
 ·by_cases e:j=i
  ·rw[e,o,l k (by omega)];exact(s k d (by omega)).symm
  ·by_cases c:k=i
   ·rw[c,o,l j e];exact s j a e
   ·rw[l j e,l k c];exact h.ap j k a d G
 ·rcases sT.1 d with rfl|d
  ·exact gZ.2 (.inl rfl)
  ·simp only[I9]at d;exact h.own f d
 ·rcases gZ.1 H with rfl|⟨j,a,e⟩
  ·exact .inl (gZ.2 (.inl rfl))
  ·rw[List.length_set]at a;by_cases c:j=i
   ·rw[c,o]at e;rcases m.lies with r|⟨F,r,w⟩
    ·exact .inl (h.own f (r ▸ e))
    ·rw[r]at e;cases e;exact .inr w
   ·rw[l j c]at e;exact .inl (gZ.2 (.inr ⟨j,a,e⟩))
end
section
open Go.RowKit Go.Shelf
def fS(i:Nat)(x:Bool × List (List Nat))(h:Nat):Bool × List (List Nat):=(iM (x.2.getD h []) (x.2.getD i []) || x.1,x.2.set h (cP (x.2.getD h []) (x.2.getD i [])))
def kH(ld:Nat)(x:Bool × List (List Nat))(p:Nat):Bool × List (List Nat):=((!(x.2.getD p []).contains ld) || x.1,x.2.set p (dB ld (x.2.getD p [])))
theorem yD(s:St)(ps:List (List Nat))(i ld:Nat)(h:(ps.getD i []).isEmpty=false):s.handParts ps i ld=(s.standing (s.ld i)).foldl (kH ld) ((s.heirsOf i).foldl (fS i) (false,ps)):=by unfold St.handParts;rw[if_neg (by rw[h];decide)];rfl
structure HpI(X:World)(Bp bp n:Nat)(pv0:List Value)(b9:Nat)(x:Bool × List (List Nat))(pv:List Value)(W:World):Prop where
 ps:PS W Bp bp n pv x.2
 kb:Kb (b9::pft bp pv0) X W
 pf:∀b,b∈pft bp pv→b∈pft bp pv0∨X.heap.size≤b
 fl:W.heap[b9]?=some (.cells #[.bool x.1] 4 (0,0))
 nf:b9 ∉ pft bp pv0
 lt:b9<X.heap.size
variable {X W W':World} {Bp bp n:Nat} {pv0 pv:List Value} {b9:Nat} {x:Bool × List (List Nat)}
theorem HpI.nf'(h:HpI X Bp bp n pv0 b9 x pv W):b9 ∉ pft bp pv:=fun b=>by
 rcases h.pf b9 b with a|a
 ·exact h.nf a
 ·have:=h.lt;omega
theorem HpI.beside(h:HpI X Bp bp n pv0 b9 x pv W){L:List Nat}(a:Kb L W W')(c:∀b∈L,X.heap.size≤b∧b ∉ pft bp pv):HpI X Bp bp n pv0 b9 x pv W':=by
 refine⟨h.ps.kb a (fun b f=>(c b f).2),⟨a.os.trans h.kb.os,a.tape.trans h.kb.tape,a.output.trans h.kb.output,IH h.kb.size a.size,fun j e g=>?_⟩,h.pf,a.heap h.fl (fun d=>?_),h.nf,h.lt⟩
 ·refine(a.block j (A2 e h.kb.size) (fun d=>?_)).trans (h.kb.block j e g);have:=(c j d).1;omega
 ·have:=(c _ d).1;have:=h.lt;omega
theorem HpI.own(h:HpI X Bp bp n pv0 b9 x pv W){a:Option Nat}(d:W.grownBy W' a)(hr:∀r,a=some r→X.heap.size≤r∧∃o:Obj,W.heap[r]?=some o∧o.isCells=false):HpI X Bp bp n pv0 b9 x pv W':=by refine h.beside (aS d) (fun b e=>?_);obtain⟨f,o,g,i⟩:=hr b (by simpa using e);refine⟨f,fun j=>?_⟩;obtain⟨_,_,k,T,c⟩:=h.ps.cells j;rw[g]at c;cases c;cases i
theorem HpI.put(h:HpI X Bp bp n pv0 b9 x pv W){y:Nat}(z:y<n){v':Value}{t:List Nat}{W1:World}(A:SetCh W W1 bp y pv.toArray TP (pv.getD y fP) v')(B:aO W1 Bp v' t)(f:Bool){L:List Nat}(C:∀b∈L,b<W.heap.size∧b≠b9∧b ∉ pft bp pv) :
  HpI X Bp bp n pv0 b9 (f,x.2.set y t) (pv.set y v') (W1.setCell ⟨b9,0,none⟩ (.bool f))∧(∀D,KeepsFrom D W (W1.setCell ⟨b9,0,none⟩ (.bool f)))∧KpB L W (W1.setCell ⟨b9,0,none⟩ (.bool f))∧W1.heap[b9]?=some (.cells #[.bool x.1] 4 (0,0)):=by
 obtain⟨E,q,r⟩:=h.ps.put z A B;have s:W1.heap[b9]?=some (.cells #[.bool x.1] 4 (0,0)):=q.heap h.fl h.nf';have u:Kb [b9] W1 (W1.setCell ⟨b9,0,none⟩ (.bool f)):=(Kb.refl _ _).setCell (p:=⟨b9,0,none⟩) (.inl (by simp)) _;have F:b9 ∉ pft bp (pv.set y v'):=fun a=>by
  rcases r b9 a with c|c
  ·exact h.nf' c
  ·have:=aB h.fl;omega
 have g:Kb (b9::pft bp pv) W (W1.setCell ⟨b9,0,none⟩ (.bool f)):=(q.mono (fun k _ l=>C1 _ l)).trans (u.mono (fun k _ l=>by rw[A1.1 l];exact Bx));refine⟨⟨E.kb u (fun b d=>by rw[A1.1 d];exact F),⟨g.os.trans h.kb.os,g.tape.trans h.kb.tape,g.output.trans h.kb.output,IH h.kb.size g.size,fun j w m=>?_⟩,fun b d=>?_,by rw[aI s];rfl,h.nf,h.lt⟩,fun D=>bO g (fun b d=>?_) D,fun b d=>?_,s⟩
 ·refine(g.block j (A2 w h.kb.size) (fun a=>?_)).trans (h.kb.block j w m);rcases sT.1 a with rfl|a
  ·exact m Bx
  ·rcases h.pf j a with c|c
   ·exact m (C1 _ c)
   ·omega
 ·rcases r b d with c|c
  ·exact h.pf b c
  ·exact .inr (IH h.kb.size c)
 ·intro o i;rcases sT.1 d with rfl|d
  ·rw[h.fl]at i;cases i;rfl
  ·obtain⟨_,_,K,T,G⟩:=h.ps.cells d;rw[G]at i;cases i;rfl
 ·obtain⟨H,I,J⟩:=C b d;exact g.block b H (fun a=>by
   rcases sT.1 a with e|a
   ·exact I e
   ·exact J a)
def HpJ(X:World)(Bp bp n:Nat)(pv0:List Value)(b9:Nat)(x:Bool × List (List Nat))(W:World):Prop:=∃pv,HpI X Bp bp n pv0 b9 x pv W
end
end Go.Proofs.YtiamlbhkiehilaaGreatDoor
