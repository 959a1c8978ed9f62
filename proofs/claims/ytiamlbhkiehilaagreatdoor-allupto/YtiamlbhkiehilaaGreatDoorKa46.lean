import Derived.Test.YtiamlbhkiehilaaGreatDoorKa34
import Derived.Test.YtiamlbhkiehilaaGreatDoorKa45
open List renaming mem_map→Jf,getElem?_eq_some_iff→II
open Nat renaming lt_of_lt_of_le→A2
namespace Go.Proofs.YtiamlbhkiehilaaGreatDoor
section
open Go.RowKit Go.Shelf Go.Maps
theorem yQ{c:List ByteArray}:∀ {pre:List Fct} {n:Nat} {a:List Fct} {m:Int},bH pre n c=(a,0,m)→m=0:=by
 induction c with
 |nil=>intro pre n a m h;injection h with _ h;injection h with _ h;exact h.symm
 |cons l r d=>
  intro pre n a m h;unfold bH at h;split at h
  ·injection h with _ h;injection h with h _;cases h
  ·split at h
   ·rename_i b;injection h with _ h;injection h with h _;exact absurd h b
   ·split at h
    ·exact d h
    ·split at h
     ·exact d h
     ·rename_i b;injection h with _ h;injection h with h _;exact absurd h b
theorem AD{s:ByteArray}{a:List Fct}{m:Int}(h:aW s=(a,0,m)):m=0:=by
 unfold aW at h;split at h
 ·injection h with _ h;injection h with h _;cases h
 ·exact yQ h
theorem oM{a:List Fct}(h:rH [] a):(cD a).length≤40:=by
 unfold cD;rw[fN];rcases nW h with rfl|h
 ·decide
 ·simpa using h
theorem GP{n:Nat}(a:n≤40):n*n*n+4*(n*n)+n≤80000:=by have b:n*n≤40*40:=Nat.mul_le_mul a a;have c:n*n*n≤40*40*40:=Nat.mul_le_mul b a;omega
theorem FU[DP]{c:List Fct}(h:rH [] c):(kL c).length≤1000∧fitsR (kL c):=by
 have i:=(kI h).1;have m:=oM h;have e:∀a∈cD c,a.size≤12:=by
  intro a d;obtain⟨f,j,k⟩:=kJ.1 d;have g:=i f j;rcases k with rfl|rfl
  ·exact g.1
  ·exact g.2
 refine⟨by unfold kL;rw[List.length_map];omega,fun r hr=>?_⟩;unfold kL at hr;obtain⟨a,d,rfl⟩:=Jf.1 hr;refine⟨by have:=e a d;unfold maxLen;simp only;omega,?_,fun b l=>?_⟩
 ·have:=List.length_filter_le (fun b=>decide (Pts c a b)) (cD c);unfold maxLen;simp only;omega
 ·have:=e b (List.mem_filter.1 l).1;unfold maxLen;omega
theorem FV{α:Type}{f:St→α→Option St}(d:∀s x a,f s x=some a→a.un=s.un):∀(l:List α) (s a:St),St.foldO f s l=some a→a.un=s.un:=by
 intro l;induction l with
 |nil=>intro s a e;cases e;rfl
 |cons x r g=>
  intro s a e;unfold St.foldO at e;cases b:f s x with
  |none=>rw[b]at e;cases e
  |some c=>rw[b]at e;exact(g c a e).trans (d s x c b)
theorem FW{k n:Nat}{s a:St}(h:s.findTwins k n=some a):s.un≤a.un:=by
 unfold St.findTwins at h;refine Nat.le_of_eq (FV (fun s x c e=>?_) _ s a h).symm;cases b:s.twinsOf k n x with
 |none=>rw[b]at e;cases e
 |some t=>rw[b]at e;cases e;rfl
theorem GQ[DP]{a:List Fct}(h:rH [] a)(c:Way):∃d sF,(St.start (cD a).length (a.map (lW (cD a)))).lookAhead 5000 c (cD a).length=some d∧St.solveL 5000 c 5000 d=some sF∧sF.un=unS a c∧sF.un≤(cD a).length*(cD a).length*(cD a).length+4*((cD a).length*(cD a).length)+(cD a).length ∧
  ((∀m,sF.ss.getD m []=mkS ((sF.ss.getD m []).contains ·))→lV sF (cD a)=kL a):=by
 have j:=oM h;have o:=pI h;have l:Asc (cD a):=iE _;have g:∀f∈a,f.p∈cD a∧f.q∈cD a:=fun f b=>⟨kJ.2 ⟨f,b,.inl rfl⟩,kJ.2 ⟨f,b,.inr rfl⟩⟩
 have r:∀k p q,(k,p,q)∈a.map (lW (cD a))→p<(cD a).length∧q<(cD a).length:=by intro k p q i;obtain⟨f,b,e⟩:=Jf.1 i;unfold lW at e;injection e with _ e;injection e with s t;rw[← s,← t];exact⟨(II.1 (fH l (g f b).1)).1,(II.1 (fH l (g f b).2)).1⟩
 have u:∀k p q,(k,p,q)∈a.map (lW (cD a))→1≤k∧k≤4:=by intro k p q i;obtain⟨f,b,e⟩:=Jf.1 i;unfold lW at e;injection e with e _;rw[← e];exact o f b
 obtain⟨sF,e,w,x,y⟩:=Hb (c:=c) j r u (k:=5000) (Nat.le_refl _);have z:sF.un=unS a c:=by unfold unS;rw[e];rfl
 unfold St.solve at e;cases n:(St.start (cD a).length (a.map (lW (cD a)))).lookAhead 5000 c (cD a).length with
 |none=>rw[n]at e;cases e
 |some d=>rw[n]at e;exact⟨d,sF,rfl,e,z,x,FG g j w y.bd⟩
set_option maxRecDepth 100000 in
theorem yR[DP](d:ByteArray)(c:Way)(a:List Fct)(w:World)(m:Int)(s:d.size≤maxLen)(i:w.cell? ⟨1,0,none⟩=some (.int .i64 m))(t:1<w.heap.size)(u:bN w)(x:0<w.heap.size)
  (y:0≤c.order∧c.order≤2) (j:aW d=(a,0,0)) :
  Calls Tryz.prog 32 #[.string d,yG c] w fun e w'=>e=.returned (.tuple #[.agg #[.string ⟨(aJ (kL a)).toArray⟩,.int .i64 (unS a c:Int)],.agg #[.int .i64 0,.int .i64 0]])∧Below w.heap.size w w':=by
 have b:=qT j;obtain⟨z,A,l,C,D,K,E⟩:=GQ b c;obtain⟨L,M⟩:=Hv b;obtain⟨F,G⟩:=FU b;have n:WF (cD a).length (St.start (cD a).length (a.map (lW (cD a)))):=by refine Aq (oM b) (fun k p q i=>?_);obtain⟨f,o,e⟩:=Jf.1 i;have r:Asc (cD a):=iE _;unfold lW at e;injection e with _ e;injection e with H I;rw[← H,← I];exact⟨(II.1 (fH r (kJ.2 ⟨f,o,.inl rfl⟩))).1,(II.1 (fH r (kJ.2 ⟨f,o,.inr rfl⟩))).1⟩
 have N:=GP (oM b);rw[← D];exact As d c a (cD a) 5000 _ z A w m s i t u x y j rfl rfl (fun _ B=>GO B)
  (fun _ B g=>⟨Hw,uL B c _,GB g 5000 (by omega),fun _=>Fh g 5000 (Fi g 5000),fun _=>Ff g 5000 (by omega)⟩)
  l (FI (by omega) n l) C (by omega) (fun J _ h=>AA 5000 n h) (fun J _ h=>FW h) (kL a) E F G (by omega)
def anU(a:ByteArray)(c:Way):Int:=if c.order<0∨2<c.order then 0 else if(aW a).2.1≠0 then 0 else(unS (aW a).1 c:Int)
theorem AE[DP](a:ByteArray)(c:Way)(w:World)(m:Int)(i:a.size≤maxLen)(q:w.cell? ⟨1,0,none⟩=some (.int .i64 m))(j:1<w.heap.size)(r:bN w)(s:0<w.heap.size) :
  Calls Tryz.prog 12 #[.string a,yG c] w fun e w'=>e=.returned (.tuple #[.agg #[.string (dS a c.order).1,.int .i64 (anU a c)],.agg #[.int .i64 (dS a c.order).2.1,.int .i64 (dS a c.order).2.2]])∧Below w.heap.size w w':=by
 refine At a c _ _ _ _ w (fun W f=>?_);have l:W.cell? ⟨1,0,none⟩=some (.int .i64 m):=(f.cell (p:=⟨1,0,none⟩) j).trans q;have o:=A2 j f.size;have t:bN W:=r.kb (Kb.gi f []) (by simp);have u:=A2 s f.size;unfold dS anU;by_cases d:c.order<0∨2<c.order
 ·rw[if_pos d,if_pos d];exact yL a c W d
 ·rw[if_neg d,if_neg d];by_cases b:(aW a).2.1≠0
  ·rw[if_pos b,if_pos b];exact yM a c W m i l o (by omega) b
  ·rw[if_neg b,if_neg b];have g:(aW a).2.1=0:=Decidable.of_not_not b;obtain⟨h,k,n,e⟩:∃h k n,aW a=(h,k,n):=⟨_,_,_,rfl⟩;rw[e]at g ⊢;simp only at g;subst g;have:=AD e;subst this;exact yR a c h W m i l o t u (by omega) e
end
end Go.Proofs.YtiamlbhkiehilaaGreatDoor
