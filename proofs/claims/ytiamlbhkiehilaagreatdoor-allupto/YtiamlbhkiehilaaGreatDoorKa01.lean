import Derived.Test.YtiamlbhkiehilaaGreatDoorKa00
import Derived.Deep.Quiet
import Derived.Test.YtiamlbhkiehilaaGreatDoorRows
import Derived.Deep.AppendLies
import Derived.WalkSpells
import Derived.WalkLawsBesides
import Derived.Deep.RegionLaw
open Array renaming getElem?_eq_some_iff→Jm,getElem?_toList→Ke,toList_setIfInBounds→MT,ext_getElem?→NT,getElem?_setIfInBounds→K0
open Bool renaming or_eq_false_iff→J5,false_eq_true→JY,eq_iff_iff→J8
open Go renaming World→vF,Value→sA,TypeId→I1,Calls→I5
open Go.IntKind renaming u64→Kc,wrap_u64→JJ
open Go.Proofs.Tryz renaming prog→hE
open Go.RowKit renaming Hid→I3
open Go.Value renaming slice→E2,ownBlock→Jh
open Go.World renaming setCell→Mm,size_alloc→IW
open List renaming contains_iff_mem→JZ,mem_cons_self→Bx,mem_cons_of_mem→C1,getD_eq_getElem?_getD→E1,getElem?_set_ne→Jt,length_set→JD,mem_cons→sT,range→IQ,replicate→A3,range_zero→Ow,foldl_nil→LR,getElem?_replicate→Jk,range_succ→Ko,foldl_append→JE,foldl_cons→JB,ne_nil_of_mem→KJ,append_assoc→JI,getElem?_eq_some_iff→II,getElem?_take_of_lt→JM,mem_or_eq_of_mem_set→Nd,getElem?_eq_getElem→hZ,getElem?_eq_none→Ja,getElem?_append_left→IL,getElem?_append_right→IZ,mem_singleton→A1,length_append→A4,mem_append→IK,mem_of_getElem?→IJ
open Nat renaming le_refl→gO,add_sub_cancel_left→KT,mul_le_mul→Lq,mod_lt→Od,mul_assoc→Nn,le_trans→IH,lt_of_lt_of_le→A2,pow_lt_pow_right→NU,le_of_not_lt→Ki,lt_succ_of_lt→KD,testBit_and→Le,testBit_two_pow→Mz,strongRecOn→Kn
open Option renaming bind_some→N2
namespace Go.Proofs.YtiamlbhkiehilaaGreatDoor
set_option maxRecDepth 100000
section
theorem Inv.lf{fs:List (Int × Nat × Nat)}{n:Nat}{c:Way}{E:Nat→Prop}{s:St}(h:Inv fs n c E s){i:Nat}(hi:i<n)(P:s.rep i=i){T:List Nat}(G:∀u,u∈T→u<n∧∀x,PtN fs i x→∀t,PtN fs x t↔PtN fs u t) :
  Inv fs n c E (s.put (7*i+5) T)∧(s.put (7*i+5) T).mea n=s.mea n∧(s.put (7*i+5) T).pt n=s.pt n:=by
 have e:∀k,(s.put (7*i+5) T).ss.getD k []=if k=7*i+5 then T else s.ss.getD k []:=fun k=>St.put_get (by rw[h.len];omega) k
 have m:∀f,f<5→(s.put (7*i+5) T).mis n f=s.mis n f:=by
  intro f d;unfold St.mis;congr 1
  funext j
  have Q:(s.put (7*i+5) T).ss.getD (7*j+f) []=s.ss.getD (7*j+f) []:=by rw[e,if_neg (by omega)]
  rw[Q];rfl
 have R:=m 0 (by omega);have S:=m 2 (by omega);have H:(s.put (7*i+5) T).dn n=s.dn n:=rfl;have U:(s.put (7*i+5) T).nw=s.nw:=rfl;have V:(s.put (7*i+5) T).un=s.un:=rfl;have I:(s.put (7*i+5) T).mea n=s.mea n:=by unfold St.mea;rw[R,H,U]
 refine⟨?_,I,by unfold St.pt;rw[I,S,H,V]⟩;generalize w:s.put (7*i+5) T=g at e;have a:g.rep=s.rep:=by rw[← w];rfl
 have o:∀j,g.tg j=s.tg j:=fun j=>by unfold St.tg;rw[e,if_neg (by omega)]
 have z:∀j,g.hd j=s.hd j:=fun j=>by unfold St.hd;rw[e,if_neg (by omega)]
 have A:∀j,g.hr j=s.hr j:=fun j=>by unfold St.hr;rw[e,if_neg (by omega)]
 have B:∀j,g.ld j=s.ld j:=fun j=>by unfold St.ld;rw[e,if_neg (by omega)]
 have C:∀j,g.sr j=s.sr j:=fun j=>by unfold St.sr;rw[e,if_neg (by omega)]
 have D:∀j,g.W j↔s.W j:=by rw[← w];exact fun _=>Iff.rfl
 have J:∀t p,g.Edge t p↔s.Edge t p:=fun t p=>by unfold St.Edge;rw[a,A]
 refine⟨h.hn,h.fsb,(by rw[← w,St.put_len];exact h.len),(by rw[a];exact h.repl),(by rw[a];exact h.repi),(by rw[a];exact h.same),?_,?_,(by intro j;rw[o];exact h.tg j),(by intro j;rw[o,z];exact h.hdt j),(by intro F j;rw[z];exact h.hdn F j),(by intro j;rw[A];exact h.hr j),(by intro j;rw[B];exact h.ld j),(by intro j;rw[C];exact h.sr j),?_,
  (by intro p q d;rw[a,o];exact h.cA p q d),(by intro p q d;rw[a,A];exact h.cC p q d),(by intro p q d;rw[a,B];exact h.cL p q d),(by intro p q d;rw[a,C];exact h.cS p q d),(by rw[← w];exact h.ins),(by intro j b;rw[a];exact h.wst j ((D j).1 b)),(by rw[← w];exact h.sus),?_,?_⟩
 ·intro k x l;rw[e]at l;split at l
  ·exact(G x l).1
  ·exact h.bd _ _ l
 ·intro j f b d;rw[a]at b;have a1:j≠i:=fun K=>b (by rw[K];exact P)
  rw[e,if_neg (by omega)];exact h.gone j f b d
 ·intro j u r x l t;have r:u∈g.ss.getD (7*j+5) []:=r;rw[e]at r;split at r
  ·rename_i K;have:j=i:=by omega
   subst this;exact(G u r).2 x l t
  ·exact h.tw j u r x l t
 ·intro j b l F x y;rw[a]at b;rw[o]at y;rw[z];exact h.all j b (fun X=>l (X.imp (D j).2 id)) F x y
 ·intro j x b y L;rw[a]at b;rw[o]at y;rw[z,D]at L;obtain⟨Y,Z,k3⟩:=h.done j x b y L;refine⟨?_,?_,?_⟩
  ·intro a0 M;rw[A]at M;rw[a,o];exact Y a0 M
  ·intro p N;rw[B]at N;exact(J _ _).2 (Z p N)
  ·intro q O;rw[C]at O;exact(J _ _).2 (k3 q O)
theorem Inv.twinsOf{fs:List (Int × Nat × Nat)}{n:Nat}{c:Way}{E:Nat→Prop}{s:St}(h:Inv fs n c E s){k i:Nat}(w:130≤k):∃T,s.twinsOf k n i=some T∧∀u,u∈T→u<n∧∀x,PtN fs i x→∀t,PtN fs x t↔PtN fs u t:=by
 have D:=h.hn;unfold St.twinsOf;simp only[];obtain⟨b,j⟩:∃b,b=fun m=>if m == n then s.standing (s.ld i)else if(s.standing (s.sr i)).contains m then dB n (s.heirsOf m)else s.heirsOf m:=⟨_,rfl⟩
 rw[← j];have fS:∀m y,y∈b m→(m=n∧y∈s.standing (s.ld i))∨(m≠n∧y=n∧m∈s.standing (s.sr i))∨(m≠n∧y∈s.heirsOf m):=by
  intro m y a;rw[j]at a;simp only[beq_iff_eq,JZ]at a;split at a
  ·exact .inl ⟨by assumption,a⟩
  ·split at a
   ·rcases(bA.1 a).2 with rfl|a
    ·exact .inr (.inl ⟨by assumption,rfl,by assumption⟩)
    ·exact .inr (.inr ⟨by assumption,a⟩)
   ·exact .inr (.inr ⟨by assumption,a⟩)
 have o:∀m y,y∈b m→y≤n:=by
  intro m y a;rcases fS m y a with⟨_,a⟩|⟨_,rfl,_⟩|⟨_,a⟩
  ·exact Nat.le_of_lt (h.iq (k:=7*i+3) a).1
  ·exact gO _
  ·exact Nat.le_of_lt (h.gz a).1
 obtain⟨l,f⟩:=kO (next:=b) (fun m y a=>by have:=o m y a;omega) w n;rw[f];refine⟨_,rfl,?_⟩;intro u e;obtain⟨_,z,e⟩:=iN.1 e;have F:=lH (P:=(·≤n)) f (gO _) o u e;refine⟨by omega,fun x r t=>?_⟩;have:=rN (V:=fun m t=>if m=n then PtN fs x t else PtN fs m t) (next:=b) (fun m y a t d=>?_) f u e t
 ·simp only[z,if_false,if_true]at this;exact this.symm
 ·rcases fS m y a with⟨rfl,a⟩|⟨g,rfl,a⟩|⟨g,a⟩
  ·simp only[if_true]at d;have G:=(h.iq (k:=7*i+3) a).1;rw[if_neg (by omega)];obtain⟨_,p,A,rfl⟩:=dK.1 a;exact(h.same p t).2 (h.ld i p A x t r d)
  ·rw[if_neg g]at d;simp only[if_true];obtain⟨_,q,B,rfl⟩:=dK.1 a;exact h.sr i q B x t r ((h.same q t).1 d)
  ·rw[if_neg g]at d;obtain⟨H,I,C⟩:=h.gz a;rw[if_neg (by omega)];exact C t d
theorem Inv.jd{fs:List (Int × Nat × Nat)}{n:Nat}{c:Way}{E:Nat→Prop}{s:St}(h:Inv fs n c E s){i:Nat}:i∈s.all n↔i<n∧s.rep i=i:=by
 have e:=h.hn;unfold St.all;rw[dK];constructor
 ·rintro⟨_,x,a,rfl⟩;exact⟨h.rlt (by simpa using a),h.repi x⟩
 ·rintro⟨b,d⟩;exact⟨by omega,i,by simpa using b,d⟩
theorem Inv.ko{fs:List (Int × Nat × Nat)}{n:Nat}{c:Way}{E:Nat→Prop}{k:Nat}(f:130≤k):∀(l:List Nat) {s:St},Inv fs n c E s→(∀i,i∈l→i<n∧s.rep i=i)→∃d,St.foldO (fun s i=>(s.twinsOf k n i).map fun t=>s.put (7*i+5) t) s l=some d∧Inv fs n c E d∧d.mea n=s.mea n∧d.pt n=s.pt n:=by
 intro l;induction l with
 |nil=>exact fun h _=>⟨_,rfl,h,rfl,rfl⟩
 |cons a r g=>intro s h e;obtain⟨j,m⟩:=e a Bx;obtain⟨T,o,p⟩:=h.twinsOf (i:=a) f;obtain⟨q,z,A⟩:=h.lf j m p;obtain⟨u,w,x,B,C⟩:=g q (fun b y=>e b (C1 _ y));refine⟨u,?_,x,by omega,by omega⟩;rw[mF,o];exact w
theorem Inv.findTwins{fs:List (Int × Nat × Nat)}{n:Nat}{c:Way}{E:Nat→Prop}{s:St}(h:Inv fs n c E s){k:Nat}(b:130≤k):∃a,s.findTwins k n=some a∧Inv fs n c E a∧a.mea n=s.mea n∧a.pt n=s.pt n:=
 Inv.ko b _ h (fun _ d=>h.jd.1 d)
def PV(fs:List (Int × Nat × Nat))(n:Nat)(s:St)(x t:Nat):Prop:=
 (x<n∧t=x)∨(∃p q y,((4:Int),p,q)∈fs∧PtN fs p y∧x=n+s.rep y∧PtN fs q t)∨(2*n≤x∧∃y,PtN fs (x-2*n) y∧PtN fs y t)
structure Ps(fs:List (Int × Nat × Nat))(n:Nat)(s:St)(ps:List (List Nat)):Prop where
 len:ps.length=n
 bd:∀i x,x∈ps.getD i []→x<3*n
 snd:∀i x t,x∈ps.getD i []→PV fs n s x t→PtN fs i t
def psM(n:Nat)(ps:List (List Nat)):Nat:=rA n fun i=>3*n-cnt (3*n) (ps.getD i [])
theorem AX{ps:List (List Nat)}{i:Nat}{t:List Nat}(a:i<ps.length)(j:Nat):(ps.set i t).getD j []=if j=i then t else ps.getD j []:=by
 simp only[E1];by_cases h:j=i
 ·subst h;simp[a]
 ·rw[Jt (Ne.symm h)];simp[h]
theorem Ps.grow{fs:List (Int × Nat × Nat)}{n:Nat}{s:St}{ps:List (List Nat)}(h:Ps fs n s ps){i:Nat}(d:i<n){T:List Nat}(h1:∀x,x∈T→x<3*n)(h2:∀x t,x∈T→PV fs n s x t→PtN fs i t):Ps fs n s (ps.set i T):=by
 have e:=fun j=>AX (t:=T) (by rw[h.len];exact d:i<ps.length) j
 refine⟨by rw[JD];exact h.len,fun j x a=>?_,fun j x t a b=>?_⟩
 ·rw[e]at a;split at a
  ·exact h1 x a
  ·exact h.bd j x a
 ·rw[e]at a;split at a
  ·rename_i f;subst f;exact h2 x t a b
  ·exact h.snd j x t a b
theorem GY{n:Nat}{ps a:List (List Nat)}(h:∀i x,x∈ps.getD i []→x∈a.getD i []):psM n a≤psM n ps:=by
 refine xL fun i _=>?_
 have:=pO (n:=3*n) (h i);omega
theorem Ha{n:Nat}{ps a:List (List Nat)}(h:∀i x,x∈ps.getD i []→x∈a.getD i []){j x:Nat}(b:j<n)(d:x<3*n)(h1:x ∉ ps.getD j [])(h2:x∈a.getD j []):psM n a<psM n ps:=by
 refine xM (fun i _=>?_) b ?_
 ·have:=pO (n:=3*n) (h i);omega
 ·have:=AU (n:=3*n) (h j) d h1 h2;have:=xK (3*n) (a.getD j []);omega
structure PStep(fs:List (Int × Nat × Nat))(n:Nat)(s:St)(ps:List (List Nat))(f:Bool)(ps':List (List Nat)):Prop where
 ok:Ps fs n s ps'
 up:∀i x,x∈ps.getD i []→x∈ps'.getD i []
 no:f=false→∀i x,x∈ps'.getD i []→x∈ps.getD i []
 m:psM n ps'+(if f then 1 else 0)≤psM n ps
theorem PStep.refl{fs:List (Int × Nat × Nat)}{n:Nat}{s:St}{ps:List (List Nat)}(h:Ps fs n s ps):PStep fs n s ps false ps:=⟨h,fun _ _ h=>h,fun _ _ _ h=>h,by simp⟩
theorem PStep.trans{fs:List (Int × Nat × Nat)}{n:Nat}{s:St}{a b c:List (List Nat)}{f g:Bool}(h:PStep fs n s a f b)(k:PStep fs n s b g c):PStep fs n s a (g || f) c:=by
 refine⟨k.ok,fun i x d=>k.up i x (h.up i x d),fun e i x d=>?_,?_⟩
 ·rw[J5]at e;exact h.no e.2 i x (k.no e.1 i x d)
 ·have j:=h.m;have l:=k.m;cases f<;>cases g<;>simp at * <;> omega
theorem PStep.set{fs:List (Int × Nat × Nat)}{n:Nat}{s:St}{ps:List (List Nat)}(h:Ps fs n s ps){i:Nat}(b:i<n){T:List Nat}(h1:∀x,x∈T→x<3*n)(h2:∀x t,x∈T→PV fs n s x t→PtN fs i t)(h3:∀x,x∈ps.getD i []→x∈T){f:Bool}(l:f=false→∀x,x∈T→x∈ps.getD i [])(m:f=true→∃x,x∈T∧x ∉ ps.getD i []):PStep fs n s ps f (ps.set i T):=by
 have e:=fun j=>AX (t:=T) (by rw[h.len];exact b:i<ps.length) j
 have d:∀j x,x∈ps.getD j []→x∈(ps.set i T).getD j []:=by
  intro j x a;rw[e];split
  ·rename_i g;subst g;exact h3 x a
  ·exact a
 refine⟨h.grow b h1 h2,d,fun k j x a=>?_,?_⟩
 ·rw[e]at a;split at a
  ·rename_i g;subst g;exact l k x a
  ·exact a
 ·cases k:f
  ·have:=GY (n:=n) d;simp;omega
  ·obtain⟨x,a,o⟩:=m k;have:=Ha (n:=n) d b (h1 x a) o (by rw[e,if_pos rfl];exact a);simp;omega
end
section
variable {fs:List (Int × Nat × Nat)} {n:Nat} {c:Way} {E:Nat→Prop} {s:St}
theorem pQ{ps:List (List Nat)}{i x:Nat}(a:x<128)(b:i<ps.length):x∈(St.partAdd ps i x).getD i []:=by unfold St.partAdd;rw[AX b,if_pos rfl];exact bA.2 ⟨a,.inl rfl⟩
theorem PStep.add{ps:List (List Nat)}(h:Ps fs n s ps)(j:n≤40){i x:Nat}(e:i<n)(f:x<3*n)(g:∀t,PV fs n s x t→PtN fs i t):PStep fs n s ps (!(ps.getD i []).contains x) (St.partAdd ps i x):=by
 refine PStep.set h e ?_ ?_ ?_ ?_ ?_
 ·intro y a;rcases(bA.1 a).2 with rfl|a
  ·exact f
  ·exact h.bd _ _ a
 ·intro y t a d;rcases(bA.1 a).2 with rfl|a
  ·exact g t d
  ·exact h.snd _ _ _ a d
 ·intro y a;have:=h.bd _ _ a;exact bA.2 ⟨by omega,.inr a⟩
 ·intro b y a;simp only[Bool.not_eq_false',JZ]at b;rcases(bA.1 a).2 with rfl|a
  ·exact b
  ·exact a
 ·intro b;simp only[Bool.not_eq_true',List.contains_eq_mem,decide_eq_false_iff_not]at b;exact⟨x,bA.2 ⟨by omega,.inl rfl⟩,b⟩
theorem PStep.uni{ps:List (List Nat)}(h:Ps fs n s ps)(l:n≤40){i j:Nat}(f:i<n)(g:∀t,PtN fs j t→PtN fs i t):PStep fs n s ps (iM (ps.getD i []) (ps.getD j [])) (ps.set i (cP (ps.getD i []) (ps.getD j []))):=by
 refine PStep.set h f ?_ ?_ ?_ ?_ ?_
 ·intro y a;rcases(bR.1 a).2 with a|a<;>exact h.bd _ _ a
 ·intro y t a d;rcases(bR.1 a).2 with a|a
  ·exact h.snd _ _ _ a d
  ·exact g t (h.snd _ _ _ a d)
 ·intro y a;have:=h.bd _ _ a;exact bR.2 ⟨by omega,.inl a⟩
 ·intro b y a;rcases(bR.1 a).2 with a|a
  ·exact a
  ·exact tH.1 b y a
 ·intro b;obtain⟨x,e,k⟩:=lF.1 b;have:=h.bd _ _ e;exact⟨x,bR.2 ⟨by omega,.inr e⟩,k⟩
theorem Inv.parts0(h:Inv fs n c E s):Ps fs n s (s.parts0 n)∧∀i x,i<n→x∈s.tg i→x∈(s.parts0 n).getD i []∧n+s.rep x∈(s.parts0 n).getD (s.rep x) []:=by
 have C:=h.hn;have I:∀(i:Nat),i<n→∀(l:List Nat),(∀x,x∈l→x∈s.tg i)→∀(d:List (List Nat)),Ps fs n s d →
   let f:=l.foldl (fun d t=>St.partAdd (St.partAdd d i t) (s.rep t) (n+s.rep t)) d
   Ps fs n s f∧(∀j x,x∈d.getD j []→x∈f.getD j [])∧∀x,x∈l→x∈f.getD i []∧n+s.rep x∈f.getD (s.rep x) []:=by
  intro i o l;induction l with
  |nil=>exact fun _ d u=>⟨u,fun _ _ b=>b,fun x b=>by cases b⟩
  |cons a r w=>
   intro D d u;have F:=D a Bx;have J:=h.bd _ _ F;have G:=h.rlt J;have z:=PStep.add u C o (x:=a) (by omega) (fun t A=>by
    rcases A with⟨_,rfl⟩|⟨p,q,y,_,_,e,_⟩|⟨e,_⟩
    ·exact h.tg _ _ F
    ·omega
    ·omega)
   have B:=PStep.add z.ok C G (x:=n+s.rep a) (by omega) (fun t A=>by
    rcases A with⟨e,_⟩|⟨p,q,y,K,L,e,M⟩|⟨e,_⟩
    ·omega
    ·have N:s.rep y=s.rep a:=by omega
     rw[← N];exact(h.same y t).2 (PtN.store K L M)
    ·omega)
   obtain⟨k,g,O⟩:=w (fun x b=>D x (C1 _ b)) _ B.ok;refine⟨k,fun j x b=>g j x (B.up j x (z.up j x b)),fun x b=>?_⟩;rcases sT.1 b with rfl|b
   ·exact⟨g _ _ (B.up _ _ (pQ (by omega) (by rw[u.len];exact o))),g _ _ (pQ (by omega) (by rw[z.ok.len];exact G))⟩
   ·exact O x b
 have P:∀m,m≤n →
   let f:=(IQ m).foldl (fun d i=>(s.tg i).foldl (fun d t=>St.partAdd (St.partAdd d i t) (s.rep t) (n+s.rep t)) d) (A3 n [])
   Ps fs n s f∧∀i x,i<m→x∈s.tg i→x∈f.getD i []∧n+s.rep x∈f.getD (s.rep x) []:=by
  intro m;induction m with
  |zero=>
   intro _;refine⟨⟨by simp,?_,?_⟩,fun i x o=>by omega⟩
   ·intro i x b;simp only[Ow,LR,E1,Jk]at b;split at b<;>simp at b
   ·intro i x t b;simp only[Ow,LR,E1,Jk]at b;split at b<;>simp at b
  |succ m w=>
   intro U;obtain⟨k,g⟩:=w (by omega);rw[Ko,JE];simp only[JB,LR];obtain⟨Q,H,R⟩:=I m (by omega) (s.tg m) (fun _ b=>b) _ k;refine⟨Q,fun i x o b=>?_⟩;by_cases e:i=m
   ·subst e;exact R x b
   ·obtain⟨S,T⟩:=g i x (by omega) b;exact⟨H _ _ S,H _ _ T⟩
 obtain⟨k,g⟩:=P n (gO _);exact⟨k,g⟩
def zA(n:Nat)(s:St)(ps:List (List Nat))(i:Nat):Prop:=ps.getD i []≠[]→(∀h,h∈s.heirsOf i→∀x,x∈ps.getD i []→x∈ps.getD h [])∧(∀p,p∈s.standing (s.ld i)→2*n+i∈ps.getD p [])
theorem zA.of{ps a:List (List Nat)}{i:Nat}(h:zA n s a i)(h1:∀j x,x∈ps.getD j []↔x∈a.getD j []):zA n s ps i:=by
 intro d;have e:a.getD i []≠[]:=by obtain⟨x,b⟩:=List.exists_mem_of_ne_nil _ d;exact KJ ((h1 i x).1 b)
 obtain⟨f,g⟩:=h e;exact⟨fun j k x b=>(h1 j x).2 (f j k x ((h1 i x).1 b)),fun p l=>(h1 p _).2 (g p l)⟩
theorem Inv.handParts(h:Inv fs n c E s){ps:List (List Nat)}(k:Ps fs n s ps){i:Nat}(R:i<n) :
  PStep fs n s ps (s.handParts ps i (2*n+i)).1 (s.handParts ps i (2*n+i)).2∧((s.handParts ps i (2*n+i)).1=false→zA n s ps i):=by
 have G:=h.hn;unfold St.handParts;by_cases A:(ps.getD i []).isEmpty=true
 ·rw[if_pos A];refine⟨PStep.refl k,fun _ H=>absurd (by simpa using A) H⟩
 ·rw[if_neg A];simp only[];have I:∀(l:List Nat),(∀j,j∈l→j<n∧∀t,PtN fs i t→PtN fs j t)→∀(x:Bool × List (List Nat)),PStep fs n s ps x.1 x.2 →
    let z:=l.foldl (fun x h=>(iM (x.2.getD h []) (x.2.getD i []) || x.1,x.2.set h (cP (x.2.getD h []) (x.2.getD i [])))) x
    PStep fs n s ps z.1 z.2∧(z.1=false→x.1=false∧∀j,j∈l→∀y,y∈ps.getD i []→y∈ps.getD j []):=by
   intro l;induction l with
   |nil=>exact fun _ x b=>⟨b,fun e=>⟨e,fun j d=>by cases d⟩⟩
   |cons a r B=>
    intro m x b;obtain⟨C,D⟩:=m a Bx;obtain⟨o,u⟩:=B (fun j d=>m j (C1 _ d)) (iM (x.2.getD a []) (x.2.getD i []) || x.1,x.2.set a (cP (x.2.getD a []) (x.2.getD i []))) (b.trans (PStep.uni b.ok G C D));refine⟨o,fun e=>?_⟩;obtain⟨f,F⟩:=u e;simp only[J5]at f;refine⟨f.2,fun j d y g=>?_⟩;rcases sT.1 d with rfl|d
    ·exact b.no f.2 _ _ (tH.1 f.1 y (b.up _ _ g))
    ·exact F j d y g
  obtain⟨o,u⟩:=I (s.heirsOf i) (fun j d=>by obtain⟨f,_,J⟩:=h.gz d;exact⟨f,J⟩) (false,ps) (PStep.refl k);generalize (s.heirsOf i).foldl (fun x h=>(iM (x.2.getD h []) (x.2.getD i []) || x.1,x.2.set h (cP (x.2.getD h []) (x.2.getD i [])))) (false,ps)=z at *;have K:∀(l:List Nat),(∀p,p∈l→p<n∧∀x t,PtN fs i x→PtN fs x t→PtN fs p t)→∀(x:Bool × List (List Nat)),PStep fs n s ps x.1 x.2 →
    let y:=l.foldl (fun x p=>((!(x.2.getD p []).contains (2*n+i)) || x.1,St.partAdd x.2 p (2*n+i))) x
    PStep fs n s ps y.1 y.2∧(y.1=false→x.1=false∧∀p,p∈l→2*n+i∈ps.getD p []):=by
   intro l;induction l with
   |nil=>exact fun _ x b=>⟨b,fun e=>⟨e,fun j d=>by cases d⟩⟩
   |cons a r B=>
    intro m x b;obtain⟨C,D⟩:=m a Bx;have L:=PStep.add b.ok G C (x:=2*n+i) (by omega) (fun t M=>by
     rcases M with⟨e,_⟩|⟨p,q,y,S,g,e,w⟩|⟨_,y,g,w⟩
     ·omega
     ·have N:=PtN.taken g;obtain⟨T,O⟩:=N;have:=h.rlt (h.fsb _ _ _ O).2;omega
     ·rw[KT]at g;exact D y t g w)
    obtain⟨o,u⟩:=B (fun j d=>m j (C1 _ d)) ((!(x.2.getD a []).contains (2*n+i)) || x.1,St.partAdd x.2 a (2*n+i)) (b.trans L);refine⟨o,fun e=>?_⟩;obtain⟨f,F⟩:=u e;simp only[J5]at f;refine⟨f.2,fun p k=>?_⟩;rcases sT.1 k with rfl|k
    ·exact b.no f.2 _ _ (by simpa using f.1)
    ·exact F p k
  obtain⟨P,Q⟩:=K (s.standing (s.ld i)) (fun p k=>by
   obtain⟨_,x,b,rfl⟩:=dK.1 k;exact⟨h.rlt (h.bd _ _ b),fun y t g w=>(h.same x t).2 (h.ld i x b y t g w)⟩) z o
  refine⟨P,fun e _=>?_⟩;obtain⟨u1,u2⟩:=Q e;exact⟨(u u1).2,u2⟩
theorem Inv.partsRound(h:Inv fs n c E s):∀(l:List Nat),(∀i,i∈l→i<n)→∀(ps:List (List Nat)),Ps fs n s ps→PStep fs n s ps (s.partsRound n l ps).1 (s.partsRound n l ps).2∧((s.partsRound n l ps).1=false→∀i,i∈l→zA n s ps i):=by
 intro l d ps p;have q:∀(l:List Nat),(∀i,i∈l→i<n)→∀(x:Bool × List (List Nat)),PStep fs n s ps x.1 x.2 →
   let z:=l.foldl (fun x i=>let y:=s.handParts x.2 i (2*n+i);(y.1 || x.1,y.2)) x
   PStep fs n s ps z.1 z.2∧(z.1=false→x.1=false∧∀i,i∈l→zA n s ps i):=by
  intro l;induction l with
  |nil=>exact fun _ x b=>⟨b,fun e=>⟨e,fun j g=>by cases g⟩⟩
  |cons a r t=>
   intro d x b;obtain⟨u,w⟩:=h.handParts b.ok (d a Bx);obtain⟨k,m⟩:=t (fun j g=>d j (C1 _ g)) ((s.handParts x.2 a (2*n+a)).1 || x.1,(s.handParts x.2 a (2*n+a)).2) (b.trans u);refine⟨k,fun e=>?_⟩;obtain⟨f,A⟩:=m e;simp only[J5]at f;refine⟨f.2,fun i o=>?_⟩;rcases sT.1 o with rfl|o
   ·exact(w f.1).of (fun j y=>⟨b.up j y,b.no f.2 j y⟩)
   ·exact A i o
 obtain⟨k,m⟩:=q l d (false,ps) (PStep.refl p);exact⟨k,fun e=>(m e).2⟩
theorem Inv.partsLoop(h:Inv fs n c E s){l:List Nat}(g:∀i,i∈l→i<n):∀(k:Nat) (ps:List (List Nat)),Ps fs n s ps→psM n ps<k→∃b,s.partsLoop n l k ps=some b∧Ps fs n s b∧(∀i x,x∈ps.getD i []→x∈b.getD i [])∧∀i,i∈l→zA n s b i:=by
 intro k;induction k with
 |zero=>intro ps _ m;omega
 |succ k o=>
  intro ps p m;obtain⟨a,q⟩:=h.partsRound l g ps p;rw[St.partsLoop];cases d:(s.partsRound n l ps).1
  ·simp only[JY,if_false];refine⟨_,rfl,a.ok,a.up,fun i r=>(q d i r).of (fun j x=>⟨a.no d j x,a.up j x⟩)⟩
  ·simp only[if_true];have f:=a.m;rw[d]at f;simp only[if_true]at f;obtain⟨b,e,t,u,w⟩:=o _ a.ok (by omega);exact⟨b,e,t,fun i x y=>u i x (a.up i x y),w⟩
theorem C8(n:Nat)(ps:List (List Nat)):psM n ps≤n*(3*n):=mE (fun _ _=>Nat.sub_le _ _)
theorem Inv.partsOf(h:Inv fs n c E s){k:Nat}(Q:5000≤k):∃ps,s.partsOf k n=some ps∧∀a b,a<n→b<n→s.rep a=a→s.rep b=b→ps.getD a []=ps.getD b []→∀t,PtN fs a t↔PtN fs b t:=by
 have A:=h.hn;obtain⟨J,B⟩:=h.parts0;have j:=C8 n (s.parts0 n);have R:n*(3*n)≤40*(3*40):=Lq A (Lq (gO _) A);obtain⟨ps,e,C,D,K⟩:=h.partsLoop (l:=s.all n) (fun i L=>(h.jd.1 L).1) k (s.parts0 n) J (by omega);refine⟨ps,e,?_⟩;have F:∀p t,PtN fs p t→∃x,x∈ps.getD (s.rep p) []∧PV fs n s x t:=by
  have S:∀p t,PtN fs p t→p<n∧t<n:=by
   intro p t f;refine⟨?_,?_⟩
   ·have m:∀p t,PtN fs p t→p<n:=by
     intro p t f;induction f using PtN.ind with
     |addr d=>exact(h.fsb _ _ _ d).1
     |copy d=>exact(h.fsb _ _ _ d).1
     |load d=>exact(h.fsb _ _ _ d).1
     |store _ g=>obtain⟨G,o⟩:=g.taken;exact(h.fsb _ _ _ o).2
    exact m p t f
   ·obtain⟨G,o⟩:=f.taken;exact(h.fsb _ _ _ o).2
  have H:∀p,p<n→zA n s ps (s.rep p):=fun p w=>K _ (h.jd.2 ⟨h.rlt w,h.repi p⟩)
  intro p t f;induction f using PtN.ind with
  | @addr p q d=>have:=h.fsb _ _ _ d;exact⟨q,D _ _ (B _ _ (h.rlt this.1) (h.cA _ _ d)).1,.inl ⟨this.2,rfl⟩⟩
  | @copy p q x d z M=>
   obtain⟨y,r,g⟩:=M;have j:=h.fsb _ _ _ d;by_cases u:s.rep p=s.rep q
   ·rw[u];exact⟨y,r,g⟩
   ·have:=h.rlt j.1;exact⟨y,((H q j.2) (KJ r)).1 (s.rep p) (fI.2 ⟨by omega,u,p,h.cC _ _ d,rfl⟩) y r,g⟩
  | @load p q v x d z g I N=>obtain⟨y,r,_⟩:=I;have j:=h.fsb _ _ _ d;have:=h.rlt j.1;refine⟨2*n+s.rep q,((H q j.2) (KJ r)).2 (s.rep p) (dK.2 ⟨by omega,p,h.cL _ _ d,rfl⟩),.inr (.inr ⟨by omega,v,?_,g⟩)⟩;rw[KT];exact(h.same q v).2 z
  | @store p q v x d w z I N=>obtain⟨G,o⟩:=w.taken;have:=h.rlt (h.fsb _ _ _ o).1;exact⟨n+s.rep v,D _ _ (B _ _ this (h.cA _ _ o)).2,.inr (.inl ⟨p,q,v,d,w,rfl,z⟩)⟩
 intro a b T j O P u t;constructor
 ·intro f;obtain⟨x,m,g⟩:=F a t f;rw[O,u]at m;exact C.snd b x t m g
 ·intro f;obtain⟨x,m,g⟩:=F b t f;rw[P,← u]at m;exact C.snd a x t m g
end
section
variable {fs:List (Int × Nat × Nat)} {n:Nat} {c:Way} {E:Nat→Prop}
theorem Inv.mergeSame{s:St}(h:Inv fs n c E s){ps:List (List Nat)}(D:∀a b,a<n→b<n→s.rep a=a→s.rep b=b→ps.getD a []=ps.getD b []→∀t,PtN fs a t↔PtN fs b t) :
  Inv fs n c E (s.mergeSame n ps).2∧((s.mergeSame n ps).1=false→(s.mergeSame n ps).2=s)∧(s.mergeSame n ps).2.mea n+(if(s.mergeSame n ps).1 then 1 else 0)≤s.mea n∧(s.mergeSame n ps).2.pt n≤s.pt n:=by
 have B:∀i,i∈s.all n→i<n∧s.rep i=i:=fun i F=>h.jd.1 F
 have G:∀(a:Nat),a∈s.all n→∀(l:List Nat),(∀b,b∈l→b∈s.all n)→∀(x:Bool × St),Inv fs n c E x.2→(x.1=false→x.2=s)→x.2.mea n+(if x.1 then 1 else 0)≤s.mea n→x.2.pt n≤s.pt n →
   let z:=l.foldl (fun x b=>if a<b && ps.getD a [] == ps.getD b []then let y:=x.2.merge a b;(y.1 || x.1,y.2)else x) x
   Inv fs n c E z.2∧(z.1=false→z.2=s)∧z.2.mea n+(if z.1 then 1 else 0)≤s.mea n∧z.2.pt n≤s.pt n:=by
  intro a H l;induction l with
  |nil=>exact fun _ x g j d k=>⟨g,j,d,k⟩
  |cons b r p=>
   intro m x g j d k;rw[JB];by_cases q:(decide (a<b) && ps.getD a [] == ps.getD b [])=true
   ·rw[if_pos q];simp only[Bool.and_eq_true,beq_iff_eq]at q;have u:=B a H;have w:=B b (m b Bx);obtain⟨I,A,C⟩:=g.merge u.1 w.1 (D a b u.1 w.1 u.2 w.2 q.2);refine p (fun b f=>m b (C1 _ f)) _ I ?_ ?_ ?_
    ·intro e;have e:((x.2.merge a b).1 || x.1)=false:=e;rw[J5]at e;show(x.2.merge a b).2=s;rw[A e.1];exact j e.2
    ·show(x.2.merge a b).2.mea n+(if((x.2.merge a b).1 || x.1)=true then 1 else 0)≤_;cases o:(x.2.merge a b).1
     ·rw[A o];simpa using d
     ·have:=(C o).1;simp;split at d<;>omega
    ·show(x.2.merge a b).2.pt n≤_;cases o:(x.2.merge a b).1
     ·rw[A o];exact k
     ·have:=(C o).2;omega
   ·rw[if_neg q];exact p (fun b f=>m b (C1 _ f)) x g j d k
 have J:∀(l:List Nat),(∀b,b∈l→b∈s.all n)→∀(x:Bool × St),Inv fs n c E x.2→(x.1=false→x.2=s)→x.2.mea n+(if x.1 then 1 else 0)≤s.mea n→x.2.pt n≤s.pt n →
   let z:=l.foldl (fun x a=>(s.all n).foldl (fun x b=>if a<b && ps.getD a [] == ps.getD b []then let y:=x.2.merge a b;(y.1 || x.1,y.2)else x) x) x
   Inv fs n c E z.2∧(z.1=false→z.2=s)∧z.2.mea n+(if z.1 then 1 else 0)≤s.mea n∧z.2.pt n≤s.pt n:=by
  intro l;induction l with
  |nil=>exact fun _ x g j d k=>⟨g,j,d,k⟩
  |cons a r p=>intro m x g j d k;rw[JB];obtain⟨K,L,M,N⟩:=G a (m a Bx) (s.all n) (fun _ f=>f) x g j d k;exact p (fun b f=>m b (C1 _ f)) _ K L M N
 exact J (s.all n) (fun _ f=>f) (false,s) h (fun _=>rfl) (by simp) (gO _)
theorem Inv.substitute{k:Nat}(g:5000≤k):∀(j:Nat) {s:St},Inv fs n c E s→s.mea n<j→∃a,St.substitute k n j s=some a∧Inv fs n c E a∧a.mea n≤s.mea n∧a.pt n≤s.pt n:=by
 intro j;induction j with
 |zero=>intro s _ i;omega
 |succ j l=>
  intro s h i;obtain⟨m,e,o⟩:=h.partsOf g;obtain⟨d,t,b,p⟩:=h.mergeSame o;rw[St.substitute,e];simp only[N2];cases f:(s.mergeSame n m).1
  ·simp only[JY,if_false];rw[f]at b;exact⟨_,rfl,d,by simpa using b,p⟩
  ·simp only[if_true];rw[f]at b;simp only[if_true]at b;obtain⟨a,q,r,u,w⟩:=l d (by omega);exact⟨a,q,r,by omega,by omega⟩
theorem Inv.lookAhead{k:Nat}(e:5000≤k){s:St}(h:Inv fs n c E s)(f:s.mea n<k):∃b,s.lookAhead k c n=some b∧Inv fs n c E b∧b.mea n≤s.mea n∧b.pt n≤s.pt n:=by
 unfold St.lookAhead;have g:∃a,(if c.subst then St.substitute k n k s else some s)=some a∧Inv fs n c E a∧a.mea n≤s.mea n∧a.pt n≤s.pt n:=by
  cases c.subst
  ·exact⟨s,rfl,h,gO _,gO _⟩
  ·exact Inv.substitute e k h f
 obtain⟨a,i,d,j,l⟩:=g;rw[i];simp only[N2];cases c.collapse
 ·exact⟨a,rfl,d,j,l⟩
 ·obtain⟨m,o,p,q,r⟩:=d.findTwins (k:=k) (by omega);exact⟨m,o,p,by omega,by omega⟩
def st0(n:Nat):St:={ ss:=A3 (7*n) [],rep:=id,inside:=[],now:=[],come:=[],susp:=[],un:=0 }
structure Laid(n:Nat)(l:List (Int × Nat × Nat))(s:St):Prop where
 len:s.ss.length=7*n
 tg:∀i x,x∈s.tg i↔((1:Int),i,x)∈l
 hr:∀i x,x∈s.hr i↔((2:Int),x,i)∈l
 ld:∀i x,x∈s.ld i↔((3:Int),x,i)∈l
 sr:∀i x,x∈s.sr i↔((4:Int),i,x)∈l
 hd:∀i,s.hd i=[]
 tw:∀i,s.tw i=[]
 tr:∀i,s.tr i=[]
 rep:s.rep=id
 ins:s.inside=[]
 now:s.now=[]
 come:s.come=[]
 susp:s.susp=[]
 un:s.un=0
theorem sW{s:St}{n j x0:Nat}(d:s.ss.length=7*n)(i:j<7*n)(f:x0<128)(g:∀m x,x∈s.ss.getD m []→x<128):(s.addAt j x0).ss.length=7*n∧(∀m x,x∈(s.addAt j x0).ss.getD m []↔x∈s.ss.getD m []∨(m=j∧x=x0))∧(∀m,m≠j→(s.addAt j x0).ss.getD m []=s.ss.getD m []):=by
 refine⟨by simp[St.addAt];exact d,fun m x=>?_,fun m h=>?_⟩
 ·unfold St.addAt;rw[St.put_get (by omega)];split
  ·rename_i e;subst e;rw[bA];constructor
   ·rintro⟨a,rfl|b⟩
    ·exact .inr ⟨rfl,rfl⟩
    ·exact .inl b
   ·rintro(a|⟨_,rfl⟩)
    ·exact⟨g _ _ a,.inr a⟩
    ·exact⟨f,.inl rfl⟩
  ·rename_i e;constructor
   ·exact .inl
   ·rintro(a|⟨a,_⟩)
    ·exact a
    ·exact absurd a e
 ·unfold St.addAt;rw[St.put_get (by omega),if_neg h]
theorem Laid.bd{n:Nat}{l:List (Int × Nat × Nat)}{s:St}(h:Laid n l s)(b:∀k p q,(k,p,q)∈l→p<n∧q<n):∀m x,x∈s.ss.getD m []→x<n:=by
 intro m x a;have d:m=7*(m / 7)+m % 7:=(Nat.div_add_mod m 7).symm;have e:m % 7<7:=Od _ (by omega);generalize m / 7=i at d;generalize m % 7=f at d e;subst d;rcases(show f=0∨f=1∨f=2∨f=3∨f=4∨f=5∨f=6 by omega)with rfl|rfl|rfl|rfl|rfl|rfl|rfl
 ·exact(b _ _ _ ((h.tg i x).1 a)).2
 ·have:=h.hd i;unfold St.hd at this;rw[this]at a;cases a
 ·exact(b _ _ _ ((h.hr i x).1 a)).1
 ·exact(b _ _ _ ((h.ld i x).1 a)).1
 ·exact(b _ _ _ ((h.sr i x).1 a)).2
 ·have:=h.tw i;unfold St.tw at this;rw[this]at a;cases a
 ·have:=h.tr i;unfold St.tr at this;rw[this]at a;cases a
theorem dD{l:List (Int × Nat × Nat)}{k a:Int}{p q b d:Nat}:(a,b,d)∈l++[(k,p,q)]↔(a,b,d)∈l∨(a=k∧b=p∧d=q):=by simp
theorem Laid.lay{n:Nat}{l:List (Int × Nat × Nat)}{s:St}(h:Laid n l s)(r:n≤40)(j:∀k p q,(k,p,q)∈l→p<n∧q<n){k:Int}{p q:Nat}(t:p<n)(u:q<n)(w:1≤k∧k≤4):Laid n (l++[(k,p,q)]) (s.lay k p q):=by
 have f:∀m x,x∈s.ss.getD m []→x<128:=fun m x o=>by have:=h.bd j m x o;omega
 unfold St.lay;rcases(show k=1∨k=2∨k=3∨k=4 by omega)with rfl|rfl|rfl|rfl
 ·obtain⟨b,d,a⟩:=sW (x0:=q) h.len (show 7*p<7*n by omega) (by omega) f;rw[if_pos rfl];refine⟨b,?_,?_,?_,?_,?_,?_,?_,h.rep,h.ins,h.now,h.come,h.susp,h.un⟩
  ·intro i x;rw[dD,← h.tg];refine(d (7*i) x).trans (or_congr Iff.rfl ?_);constructor
   ·rintro⟨e,rfl⟩;exact⟨rfl,by omega,rfl⟩
   ·rintro⟨_,rfl,rfl⟩;exact⟨rfl,rfl⟩
  ·intro i x;rw[dD,← h.hr];unfold St.hr;rw[a _ (by omega)];simp
  ·intro i x;rw[dD,← h.ld];unfold St.ld;rw[a _ (by omega)];simp
  ·intro i x;rw[dD,← h.sr];unfold St.sr;rw[a _ (by omega)];simp
  ·intro i;exact(a _ (by omega)).trans (h.hd i)
  ·intro i;exact(a _ (by omega)).trans (h.tw i)
  ·intro i;exact(a _ (by omega)).trans (h.tr i)
 ·obtain⟨b,d,a⟩:=sW (x0:=p) h.len (show 7*q+2<7*n by omega) (by omega) f;rw[if_neg (by omega),if_pos rfl];refine⟨b,?_,?_,?_,?_,?_,?_,?_,h.rep,h.ins,h.now,h.come,h.susp,h.un⟩
  ·intro i x;rw[dD,← h.tg];unfold St.tg;rw[a _ (by omega)];simp
  ·intro i x;rw[dD,← h.hr];refine(d (7*i+2) x).trans (or_congr Iff.rfl ?_);constructor
   ·rintro⟨e,rfl⟩;exact⟨rfl,rfl,by omega⟩
   ·rintro⟨_,rfl,rfl⟩;exact⟨rfl,rfl⟩
  ·intro i x;rw[dD,← h.ld];unfold St.ld;rw[a _ (by omega)];simp
  ·intro i x;rw[dD,← h.sr];unfold St.sr;rw[a _ (by omega)];simp
  ·intro i;exact(a _ (by omega)).trans (h.hd i)
  ·intro i;exact(a _ (by omega)).trans (h.tw i)
  ·intro i;exact(a _ (by omega)).trans (h.tr i)
 ·obtain⟨b,d,a⟩:=sW (x0:=p) h.len (show 7*q+3<7*n by omega) (by omega) f;rw[if_neg (by omega),if_neg (by omega),if_pos rfl];refine⟨b,?_,?_,?_,?_,?_,?_,?_,h.rep,h.ins,h.now,h.come,h.susp,h.un⟩
  ·intro i x;rw[dD,← h.tg];unfold St.tg;rw[a _ (by omega)];simp
  ·intro i x;rw[dD,← h.hr];unfold St.hr;rw[a _ (by omega)];simp
  ·intro i x;rw[dD,← h.ld];refine(d (7*i+3) x).trans (or_congr Iff.rfl ?_);constructor
   ·rintro⟨e,rfl⟩;exact⟨rfl,rfl,by omega⟩
   ·rintro⟨_,rfl,rfl⟩;exact⟨rfl,rfl⟩
  ·intro i x;rw[dD,← h.sr];unfold St.sr;rw[a _ (by omega)];simp
  ·intro i;exact(a _ (by omega)).trans (h.hd i)
  ·intro i;exact(a _ (by omega)).trans (h.tw i)
  ·intro i;exact(a _ (by omega)).trans (h.tr i)
 ·obtain⟨b,d,a⟩:=sW (x0:=q) h.len (show 7*p+4<7*n by omega) (by omega) f;rw[if_neg (by omega),if_neg (by omega),if_neg (by omega),if_pos rfl];refine⟨b,?_,?_,?_,?_,?_,?_,?_,h.rep,h.ins,h.now,h.come,h.susp,h.un⟩
  ·intro i x;rw[dD,← h.tg];unfold St.tg;rw[a _ (by omega)];simp
  ·intro i x;rw[dD,← h.hr];unfold St.hr;rw[a _ (by omega)];simp
  ·intro i x;rw[dD,← h.ld];unfold St.ld;rw[a _ (by omega)];simp
  ·intro i x;rw[dD,← h.sr];refine(d (7*i+4) x).trans (or_congr Iff.rfl ?_);constructor
   ·rintro⟨e,rfl⟩;exact⟨rfl,by omega,rfl⟩
   ·rintro⟨_,rfl,rfl⟩;exact⟨rfl,rfl⟩
  ·intro i;exact(a _ (by omega)).trans (h.hd i)
  ·intro i;exact(a _ (by omega)).trans (h.tw i)
  ·intro i;exact(a _ (by omega)).trans (h.tr i)
theorem Laid.zero(n:Nat):Laid n [] (st0 n):=by
 have e:∀k,(st0 n).ss.getD k []=[]:=by intro k;simp only[st0,E1,Jk];split<;>simp
 have m:∀k x,¬x∈(st0 n).ss.getD k []:=fun k x=>by rw[e];simp
 refine⟨by simp[st0],?_,?_,?_,?_,fun i=>e _,fun i=>e _,fun i=>e _,rfl,rfl,rfl,rfl,rfl,rfl⟩
 ·intro i x;exact⟨fun h=>absurd h (m _ _),fun h=>by cases h⟩
 ·intro i x;exact⟨fun h=>absurd h (m _ _),fun h=>by cases h⟩
 ·intro i x;exact⟨fun h=>absurd h (m _ _),fun h=>by cases h⟩
 ·intro i x;exact⟨fun h=>absurd h (m _ _),fun h=>by cases h⟩
theorem Laid.all{n:Nat}(i:n≤40):∀(l m:List (Int × Nat × Nat)) (s:St),Laid n m s→(∀k p q,(k,p,q)∈m++l→p<n∧q<n)→(∀k p q,(k,p,q)∈l→1≤k∧k≤4)→Laid n (m++l) (l.foldl (fun s f=>s.lay f.1 f.2.1 f.2.2) s):=by
 intro l;induction l with
 |nil=>intro m s h _ _;simpa using h
 |cons a r j=>intro m s h d e;obtain⟨k,p,q⟩:=a;have g:=d k p q (by simp);have:=j (m++[(k,p,q)]) (s.lay k p q) (h.lay i (fun k p q b=>d k p q (by simp[b])) g.1 g.2 (e k p q (by simp))) (fun k p q b=>d k p q (by simpa using b)) (fun k p q b=>e k p q (C1 _ b));rw[JI]at this;exact this
theorem C9(M:n≤40)(h1:∀k p q,(k,p,q)∈fs→p<n∧q<n)(h2:∀k p q,(k,p,q)∈fs→1≤k∧k≤4):Inv fs n c (fun _=>False) (St.start n fs)∧(St.start n fs).un=0∧(St.start n fs).nw≤n:=by
 have a:=Laid.all M fs [] (st0 n) (Laid.zero n) (by simpa using h1) h2;rw[List.nil_append]at a;have O:St.start n fs=(IQ n).foldl (fun s i=>if(s.tg i).isEmpty then s else s.wait i) (fs.foldl (fun s f=>s.lay f.1 f.2.1 f.2.2) (st0 n)):=rfl;rw[O];generalize fs.foldl (fun s f=>s.lay f.1 f.2.1 f.2.2) (st0 n)=s at a;have P:∀m,m≤n→let h:=(IQ m).foldl (fun s i=>if(s.tg i).isEmpty then s else s.wait i) s
   h.ss=s.ss∧h.rep=id∧h.susp=[]∧h.un=0∧h.nw≤m∧(∀i,i∈h.inside↔h.W i)∧(∀i,h.W i→i<n)∧(∀i,i<m→s.tg i≠[]→h.W i):=by
  intro m;induction m with
  |zero=>
   intro _;refine⟨rfl,a.rep,a.susp,a.un,by show s.nw≤0;unfold St.nw;rw[a.now,a.come];simp,fun i=>?_,fun i d=>?_,fun i d=>by omega⟩
   ·show i∈s.inside↔s.W i;unfold St.W;rw[a.ins,a.now,a.come];simp
   ·have d:s.W i:=d;unfold St.W at d;rw[a.now,a.come]at d;simp at d
  |succ m Q=>
   intro T;obtain⟨o,B,C,D,N,r,w,z⟩:=Q (by omega);simp only[Ko,JE,JB,LR];generalize (IQ m).foldl (fun s i=>if(s.tg i).isEmpty then s else s.wait i) s=I at *;have R:I.tg m=s.tg m:=by unfold St.tg;rw[o]
   by_cases F:(I.tg m).isEmpty=true
   ·rw[if_pos F];refine⟨o,B,C,D,by omega,r,w,fun i d G=>?_⟩;by_cases e:i=m
    ·subst e;rw[R]at F;exact absurd (by simpa using F) G
    ·exact z i (by omega) G
   ·rw[if_neg F];have:=St.wait_nw I m;refine⟨by rw[St.wait_ss];exact o,by rw[St.wait_rep];exact B,by rw[St.wait_susp];exact C,by rw[St.wait_un];exact D,by omega,St.wait_ins r (by omega) (fun i d=>by have:=w i d;omega),fun i d=>?_,fun i d G=>?_⟩
    ·rcases(St.wait_W r m i).1 d with d|rfl
     ·exact w i d
     ·omega
    ·refine(St.wait_W r m i).2 ?_
     by_cases e:i=m
     ·exact .inr e
     ·exact .inl (z i (by omega) G)
 obtain⟨o,B,C,D,N,r,w,z⟩:=P n (gO _);generalize (IQ n).foldl (fun s i=>if(s.tg i).isEmpty then s else s.wait i) s=h at *;have g:∀k,h.ss.getD k []=s.ss.getD k []:=fun k=>by rw[o]
 have hr:∀i,h.rep i=i:=fun i=>by rw[B];rfl
 have J:∀i,h.hd i=[]:=fun i=>(g _).trans (a.hd i)
 refine⟨⟨M,h1,by rw[o];exact a.len,fun i=>by rw[hr];exact gO _,fun i=>by rw[hr,hr],fun i t=>by rw[hr],fun k x b=>by rw[g]at b;exact a.bd h1 k x b,fun i f d=>absurd (hr i) d,?_,fun i x b=>by rw[J]at b;(cases b),fun _=>J,?_,?_,?_,?_,?_,?_,?_,?_,r,fun i d=>⟨w i d,hr i⟩,fun i d=>by rw[C]at d;(cases d),?_,?_⟩,D,N⟩
 ·intro i x b;exact PtN.addr ((a.tg i x).1 (by unfold St.tg at b ⊢;rw[g]at b;exact b))
 ·intro i x b t A;exact PtN.copy ((a.hr i x).1 (by unfold St.hr at b ⊢;rw[g]at b;exact b)) A
 ·intro i x b y t K A;exact PtN.load ((a.ld i x).1 (by unfold St.ld at b ⊢;rw[g]at b;exact b)) K A
 ·intro i x b y t K A;exact PtN.store ((a.sr i x).1 (by unfold St.sr at b ⊢;rw[g]at b;exact b)) K A
 ·intro i u L;have:=a.tw i;unfold St.tw at this L;rw[g,this]at L;cases L
 ·intro p q l;rw[hr];unfold St.tg;rw[g];exact(a.tg p q).2 l
 ·intro p q l;rw[hr];unfold St.hr;rw[g];exact(a.hr q p).2 l
 ·intro p q l;rw[hr];unfold St.ld;rw[g];exact(a.ld q p).2 l
 ·intro p q l;rw[hr];unfold St.sr;rw[g];exact(a.sr p q).2 l
 ·intro i _ b _ x j;exfalso;have j:x∈s.tg i:=by unfold St.tg at j ⊢;rw[g]at j;exact j
  exact b (.inl (z i (h1 _ _ _ ((a.tg i x).1 j)).1 (KJ j)))
 ·intro i x _ j H;have j:x∈s.tg i:=by unfold St.tg at j ⊢;rw[g]at j;exact j
  have S:=z i (h1 _ _ _ ((a.tg i x).1 j)).1 (KJ j);split at H
  ·rw[J]at H;cases H
  ·exact absurd (.inl S) H
theorem Ex(n:Nat):∀s:St,s.dn n≤n:=fun s=>by
 have:=mE (n:=n) (m:=1) (f:=fun i=>if s.rep i=i then 1 else 0) (fun i _=>by split<;>omega);unfold St.dn;omega
theorem Hb(a:n≤40)(h1:∀k p q,(k,p,q)∈fs→p<n∧q<n)(h2:∀k p q,(k,p,q)∈fs→1≤k∧k≤4){k:Nat}(e:5000≤k) :
  ∃s,St.solve k c (St.start n fs) n=some s∧(∀i x,x∈s.tg (s.rep i)↔PtN fs i x)∧s.un≤n*n*n+4*(n*n)+n∧Inv fs n c (fun _=>False) s:=by
 obtain⟨h,o,r⟩:=C9 (c:=c) a h1 h2;generalize St.start n fs=s at *;have t:s.mis n 0≤n*n:=mE (fun i _=>by split<;>omega);have u:s.mis n 2≤n*n:=mE (fun i _=>by split<;>omega);have w:=Ex n s;have f:s.mea n≤n*n+3*n:=by unfold St.mea;omega
 have y:n*n≤40*40:=Lq a a;obtain⟨z,g,j,A,B⟩:=h.lookAhead e (by omega);obtain⟨b,l,d,m,C⟩:=Inv.solveL (k:=k) (by omega) k j (by omega);refine⟨b,by unfold St.solve;rw[g];exact l,d.solved m,?_,d⟩;have D:s.pt n≤n*n+n+n*(n*n+3*n):=by have:=Nat.mul_le_mul_left n f;unfold St.pt;omega
 have F:b.un≤b.pt n:=by unfold St.pt;omega
 have G:n*(n*n+3*n)=n*n*n+3*(n*n):=by rw[Nat.mul_add,← Nn,← Nn,Nat.mul_comm n 3,Nn 3]
 omega
end
section
open Go.RowKit
structure Kb(l:List Nat)(w w':World):Prop where
 os:w'.os=w.os
 tape:w'.tape=w.tape
 output:w'.output=w.output
 size:w.heap.size≤w'.heap.size
 block:∀k,k<w.heap.size→k ∉ l→w'.heap[k]?=w.heap[k]?
theorem Kb.refl(l:List Nat)(w:vF):Kb l w w:=⟨rfl,rfl,rfl,gO _,fun _ _ _=>rfl⟩
theorem Kb.trans{l:List Nat}{a b c:vF}(h:Kb l a b)(k:Kb l b c):Kb l a c:=
 ⟨k.os.trans h.os,k.tape.trans h.tape,k.output.trans h.output,IH h.size k.size,fun i d e=>(k.block i (A2 d h.size) e).trans (h.block i d e)⟩
theorem Kb.mono{l l':List Nat}{w w':vF}(h:Kb l w w')(b:∀k,k<w.heap.size→k∈l→k∈l'):Kb l' w w':=
 ⟨h.os,h.tape,h.output,h.size,fun k a d=>h.block k a (fun e=>d (b k a e))⟩
theorem Kb.drew{l:List Nat}{a w:vF}(h:Kb l a w):Kb l a w.drew:=⟨h.os,h.tape,h.output,h.size,h.block⟩
theorem Kb.drewN{l:List Nat}{a w:vF}(h:Kb l a w)(n:Nat):Kb l a (w.drewN n):=⟨h.os,h.tape,h.output,h.size,h.block⟩
theorem Kb.alloc{l:List Nat}{a w:vF}(h:Kb l a w)(o:Obj):Kb l a (w.alloc o):=
 h.trans ⟨rfl,rfl,rfl,by simp,fun k b _=>Below.heap_alloc _ _ _ b⟩
theorem Kb.setCell{l:List Nat}{a w:vF}(h:Kb l a w){p:Addr}(b:p.block∈l∨a.heap.size≤p.block)(u:sA):Kb l a (w.setCell p u):=by
 refine⟨h.os,h.tape,h.output,by simpa[Mm]using h.size,fun k f d=>?_⟩;have g:k≠p.block:=by
  rcases b with b|b
  ·intro e;exact d (e ▸ b)
  ·omega
 exact(Below.heap_setCell _ _ _ _ g).trans (h.block k f d)
theorem Kb.grown{l:List Nat}{a w w':vF}{d:Option Nat}(h:Kb l a w)(b:w.grownBy w' d)(hr:∀k,d=some k→k∈l∨a.heap.size≤k):Kb l a w':=
 ⟨b.os.trans h.os,b.tape.trans h.tape,b.output.trans h.output,IH h.size b.size,fun k f g=>(b.block k (A2 f h.size) (fun e=>by
  rcases hr k e.symm with i|i
  ·exact g i
  ·omega)).trans (h.block k f g)⟩
theorem Kb.gi{w w':vF}(h:Below w.heap.size w w')(l:List Nat):Kb l w w':=⟨h.os,h.tape,h.output,h.size,fun k a _=>h.block k a⟩
theorem Kb.below{l:List Nat}{w w':vF}(h:Kb l w w'){B:Nat}(d:B≤w.heap.size)(a:∀k∈l,B≤k):Below B w w':=
 ⟨h.os,h.tape,h.output,h.size,fun k e=>h.block k (by omega) (fun b=>by have:=a k b;omega)⟩
theorem Kb.cell{l:List Nat}{w w':vF}(h:Kb l w w'){p:Addr}(a:p.block<w.heap.size)(b:p.block ∉ l):w'.cell? p=w.cell? p:=World.cell?_of_block (w:=w) (h.block p.block a b)
theorem aB{w:vF}{b:Nat}{o:Obj}(h:w.heap[b]?=some o):b<w.heap.size:=(Jm.1 h).1
theorem Kb.heap{l:List Nat}{w w':vF}(h:Kb l w w'){b:Nat}{o:Obj}(a:w.heap[b]?=some o)(d:b ∉ l):w'.heap[b]?=some o:=(h.block b (aB a) d).trans a
theorem Below.fj{B:Nat}{w w':vF}(h:Below B w w'){b:Nat}{o:Obj}(a:w.heap[b]?=some o)(d:b<B):w'.heap[b]?=some o:=(h.block b d).trans a
theorem aD(w:vF)(o:Obj):(w.alloc o).heap[w.heap.size]?=some o:=by show(w.heap.push o)[w.heap.size]?=_;simp
theorem aF{w:vF}{b:Nat}{x:Obj}(h:w.heap[b]?=some x)(o:Obj):(w.alloc o).heap[b]?=some x:=by rw[Below.heap_alloc _ _ _ (aB h)];exact h
theorem aC{w:vF}{b:Nat}{a:Array sA}{T:I1}{d:Nat × Nat}(e:w.heap[b]?=some (.cells a T d))(j:Nat):w.cell? ⟨b,j,none⟩=a[j]?:=by simp[World.cell?,e]
theorem aE{w:vF}{b:Nat}{a:Array sA}{T:I1}(d:w.heap[b]?=some (.cells a T (0,0)))(j:Nat):w.frozen? ⟨b,j,none⟩=false:=by simp[World.frozen?,d]
theorem aI{w:vF}{b:Nat}{a:Array sA}{T:I1}{d:Nat × Nat}(e:w.heap[b]?=some (.cells a T d))(j:Nat)(v:sA):(w.setCell ⟨b,j,none⟩ v).heap[b]?=some (.cells (a.setIfInBounds j v) T d):=by simp[Mm,Array.getElem?_modify,e]
theorem Kb.ownsMap{H:Type}{P:Program}{l:List Nat}{w w':vF}(h:Kb l w w'){k:I1}{R:sA→Option (DataW H × List MemPlace)}{b n:Nat}{D:DataW H}(a:w.ownsMap P k R b n D)(d:b ∉ l):w'.ownsMap P k R b n D:=by obtain⟨e,f,g,r⟩:=a;exact⟨e,f,h.heap g d,r⟩
theorem tJ{H:Type}{P:Program}{e:I1}{c:Option Nat}{w w':vF}(h:Lib.OthersKept e c w w'){k:I1}{R:sA→Option (DataW H × List MemPlace)}{b n:Nat}{D:DataW H}(a:w.ownsMap P k R b n D)(d:some b≠c):w'.ownsMap P k R b n D:=by obtain⟨f,g,i,r⟩:=a;exact⟨f,g,h b _ i d (by intro c j;exact fun e=>by cases e),r⟩
theorem Kb.iy{l:List Nat}{w w':vF}(h:Kb l w w'){T e:I1}{B b:Nat}{p:sA}{i:List sA}(k:Lib.BuilderAtF T e B b p i w)(m:b ∉ l)(o:∀x∈l,∀c a,w.heap[x]?≠some (.cells c e a)):Lib.BuilderAtF T e B b p i w':=by
 obtain⟨q,v,d,t,u⟩:=k;refine⟨q,v,h.heap d m,?_,u⟩;obtain⟨y,f⟩:=t;refine⟨y,?_⟩;rcases f with f|⟨g,z,A,a,d,C,j,r⟩
 ·exact Or.inl f
 ·exact Or.inr ⟨g,z,A,a,d,C,h.heap j (fun D=>o g D _ _ j),r⟩
theorem Kb.builder{l:List Nat}{w w':vF}(h:Kb l w w'){T e:I1}{B b:Nat}{d:List sA}(a:Lib.IsBuilderF T e B b d w)(f:b ∉ l)(g:∀x∈l,∀c i,w.heap[x]?≠some (.cells c e i)):Lib.IsBuilderF T e B b d w':=by
 rcases a with a|a
 ·exact .inl (h.iy a f g)
 ·exact .inr (h.iy a f g)
abbrev T64:I1:=186
def cQ(ws:List Nat)(k:Nat):Bool:=(ws.getD (k / 64) 0).testBit (k % 64)
def dO(ws:List Nat):List sA:=ws.map fun(x:Nat)=>Value.int .u64 (x:Int)
theorem fY(ws:List Nat):(dO ws).length=ws.length:=by simp[dO]
theorem lI{ws:List Nat}{j x:Nat}(h:ws[j]?=some x):(dO ws)[j]?=some (.int .u64 (x:Int)):=by simp[dO,h]
theorem zB(ws:List Nat)(j x:Nat):(dO ws).set j (.int .u64 (x:Int))=dO (ws.set j x):=by simp[dO,List.map_set]
def eJ(w:vF)(B:Nat)(v:sA)(ws:List Nat):Prop:=w.ownsRow B T64 1 v ws.length (dO ws)∧∀x∈ws,x<18446744073709551616
theorem eJ.lt{w:vF}{B:Nat}{v:sA}{ws:List Nat}(h:eJ w B v ws){g:Nat}(a:v.ownBlock=some g):B≤g∧g<w.heap.size:=by
 rcases h.1.2 with⟨rfl,_⟩|⟨e,f,i,rfl,b,d,_⟩
 ·cases a
 ·cases a;exact⟨b,aB d⟩
theorem eJ.kb{w w':vF}{B:Nat}{v:sA}{ws:List Nat}{L:List Nat}(h:eJ w B v ws)(b:Kb L w w')(d:∀g∈L,v.ownBlock≠some g):eJ w' B v ws:=by
 refine⟨⟨h.1.1,?_⟩,h.2⟩;rcases h.1.2 with e|⟨g,f,i,a,j,k,r⟩
 ·exact .inl e
 ·exact .inr ⟨g,f,i,a,j,b.heap k (fun l=>d g l (by rw[a];rfl)),r⟩
theorem eJ.ne{w:vF}{B b:Nat}{v:sA}{ws:List Nat}{d:Array sA}{T:I1}{f:Nat × Nat}(h:eJ w B v ws)(i:w.heap[b]?=some (.cells d T f))(j:T≠T64):v.ownBlock≠some b:=by
 intro e;rcases h.1.2 with⟨rfl,_⟩|⟨g,l,m,rfl,_,a,_⟩
 ·cases e
 ·cases e;rw[i]at a;injection a with a;injection a with _ k _;exact j k
theorem eJ.form{w:vF}{B:Nat}{v:sA}{ws:List Nat}(h:eJ w B v ws):∃ao cap,v=.slice ao ws.length cap∧(∀(j x:Nat),ws[j]?=some x→∃g,ao=some ⟨g,0,none⟩∧w.cell? ⟨g,j,none⟩=some (.int .u64 (x:Int))∧w.frozen? ⟨g,j,none⟩=false):=by
 rcases h.1.2 with⟨rfl,d⟩|⟨g,cap,k,rfl,_,b,l,m,o,f⟩
 ·refine⟨none,0,by rw[d],fun j x a=>?_⟩;have:=(II.1 a).1;omega
 ·refine⟨some ⟨g,0,none⟩,cap,rfl,fun j x a=>⟨g,rfl,?_,aE b j⟩⟩;have i:=(II.1 a).1;rw[aC b,← Ke];have e:=lI a;rw[← f,Nat.mul_one,JM i]at e;exact e
theorem eJ.set{w:vF}{B g n cap:Nat}{ws:List Nat}(h:eJ w B (.slice (some ⟨g,0,none⟩) n cap) ws)(j x:Nat)(d:x<18446744073709551616):eJ (w.setCell ⟨g,j,none⟩ (.int .u64 (x:Int))) B (.slice (some ⟨g,0,none⟩) n cap) (ws.set j x):=by
 refine⟨⟨by simp[dO],?_⟩,fun y b=>?_⟩
 ·rcases h.1.2 with⟨e,_⟩|⟨t,u,f,e,i,k,l,m,o,p⟩
  ·cases e
  ·injection e with a q r;injection a with a;injection a with a;subst a q r;rw[JD];refine .inr ⟨g,cap,f.setIfInBounds j (.int .u64 (x:Int)),rfl,i,aI k j _,l,m,by simpa using o,?_⟩;rw[MT,← zB,← p,List.take_set]
 ·rcases Nd b with b|rfl
  ·exact h.2 y b
  ·exact d
theorem eJ.alloc{w:vF}{B:Nat}{v:sA}{ws:List Nat}(h:eJ w B v ws)(o:Obj):eJ (w.alloc o) B v ws:=h.kb ((Kb.refl [] w).alloc o) (by simp)
theorem eJ.nil(w:vF)(B:Nat):eJ w B (.slice none 0 0) []:=⟨⟨rfl,.inl ⟨rfl,rfl⟩⟩,by simp⟩
structure SetCh(w w':World)(b o:Nat)(cs:Array Value)(T:TypeId)(v v':Value):Prop where
 blk:w'.heap[b]?=some (.cells (cs.setIfInBounds o v') T (0,0))
 kb:Kb (b::v.ownBlock.toList) w w'
 lies:v'.ownBlock=v.ownBlock∨∃g,v'.ownBlock=some g∧w.heap.size≤g
theorem SetCh.refl{w:vF}{b o:Nat}{a:Array sA}{T:I1}{v:sA}(d:w.heap[b]?=some (.cells a T (0,0)))(f:a[o]?=some v):SetCh w w b o a T v v:=by
 refine⟨?_,Kb.refl _ _,.inl rfl⟩;rw[d];have:a.setIfInBounds o v=a:=by
  apply NT;intro i;rw[K0];split
  ·rename_i e;subst e;split
   ·exact f.symm
   ·rename_i g;rw[Array.getElem?_eq_none (by omega)]
  ·rfl
 rw[this]
theorem jL(a:Array sA)(o:Nat)(v v':sA):(a.setIfInBounds o v).setIfInBounds o v'=a.setIfInBounds o v':=by apply NT;intro i;simp only[K0,Array.size_setIfInBounds];split<;>rfl
theorem SetCh.trans{w w' i:vF}{b o:Nat}{d:Array sA}{T:I1}{v v' l:sA}(h:SetCh w w' b o d T v v')(k:SetCh w' i b o (d.setIfInBounds o v') T v' l):SetCh w i b o d T v l:=by
 refine⟨by rw[k.blk,jL],?_,?_⟩
 ·refine⟨k.kb.os.trans h.kb.os,k.kb.tape.trans h.kb.tape,k.kb.output.trans h.kb.output,IH h.kb.size k.kb.size,fun j m f=>?_⟩;refine(k.kb.block j (A2 m h.kb.size) (fun a=>?_)).trans (h.kb.block j m f);rcases sT.1 a with rfl|a
  ·exact f Bx
  ·rcases h.lies with e|⟨g,e,p⟩
   ·rw[e]at a;exact f (C1 _ a)
   ·rw[e]at a;simp at a;omega
 ·rcases k.lies with e|⟨g,e,p⟩
  ·rw[e];exact h.lies
  ·exact .inr ⟨g,e,IH h.kb.size p⟩
theorem oW(n q a:Nat)(i:n<128)(b:q=n / 64)(d:a=2^(n % 64))(w:vF):I5 hE 147 #[.int .u64 n] w fun e w'=>e=.returned (.tuple #[.int .i64 q,.int .u64 a])∧w'=w:=by
 have g:2^(n % 64)<18446744073709551616:=by have:n % 64<64:=Od _ (by omega);exact A2 (NU (by omega) this) (by decide)
 have f:=aA (And.intro b d);clear b d;go_enter Tryz.func147,Tryz.ntmps147
 go_wp2;have h:Kc.wrap (2^(n % 64))=((2^(n % 64):Nat):Int):=by
  rw[JJ];have e:((2:Int)^(n % 64))=((2^(n % 64):Nat):Int):=by simp
  rw[e];generalize 2^(n % 64)=p at g;omega
 refine bodyPost_ret (v:=.tuple #[.int .i64 ((n / 64:Nat):Int),.int .u64 ((2^(n % 64):Nat):Int)]) (by simp[results,Tryz.results147,go_sem,h]) rfl ⟨by rw[f.out.1,f.out.2],rfl⟩
theorem nD(B b o:Nat)(d:Array sA)(T:I1)(v:sA)(ws:List Nat)(a:Nat)(w:vF)(j:w.heap[b]?=some (.cells d T (0,0)))(k:d[o]?=some v)(h:eJ w B v ws) :
  I5 hE 150 #[.pointer (some ⟨b,o,none⟩),.int .i64 a] w fun e w'=>e=.returned (.int .u64 ((ws.getD a 0:Nat):Int))∧w'=w:=by
 have m:w.cell? ⟨b,o,none⟩=some v:=by rw[aC j];exact k
 obtain⟨p,q,rfl,l⟩:=h.form;go_enter Tryz.func150,Tryz.ntmps150
 by_cases f:a<ws.length
 ·obtain⟨x,i⟩:∃x,ws[a]?=some x:=⟨_,hZ f⟩;obtain⟨g,rfl,r,_⟩:=l a x i;have e:ws.getD a 0=x:=by simp[i]
  go_wp2;go_ret
  exact⟨by rw[e];rfl,rfl⟩
 ·have e:ws.getD a 0=0:=by simp[Ja (Ki f)]
  go_wp2;go_ret
  exact⟨by rw[e];rfl,rfl⟩
theorem AY:(hE.info? 186).map (fun i=>(i.zero,i.size,i.bytes))=some (some (.int .u64 0),1,8):=by kernel_rfl
def eO(ws:List Nat)(size:Nat):List Nat:=ws++A3 (size-ws.length) 0
theorem Ey(ws:List Nat)(size k:Nat):(eO ws size).getD k 0=ws.getD k 0:=by
 unfold eO;simp only[E1];by_cases h:k<ws.length
 ·rw[IL h]
 ·rw[IZ (by omega),Jk,Ja (Ki h)];split<;>rfl
theorem pR(ws:List Nat)(size k:Nat):cQ (eO ws size) k=cQ ws k:=by unfold cQ;rw[Ey]
theorem lJ(ws:List Nat)(size:Nat):(eO ws size).length=max ws.length size:=by simp[eO];omega
theorem jH{ws:List Nat}{size:Nat}(h:size≤ws.length):eO ws size=ws:=by simp[eO,Nat.sub_eq_zero_of_le h]
theorem wC{ws:List Nat}{k:Nat}(h:ws.length≤k):eO ws (k+1)=eO ws k++[0]:=by unfold eO;rw[JI,show k+1-ws.length=(k-ws.length)+1 by omega,List.replicate_succ']
structure RcInv(w wr:World)(B b o:Nat)(cs:Array Value)(T:TypeId)(v:Value)(ws:List Nat)(k:Nat)(vk:Value):Prop where
 le:ws.length≤k
 own:eJ wr B vk (eO ws k)
 ch:SetCh w wr b o cs T v vk
def jM(w:vF)(b o:Nat):Nat:=match w.cell? ⟨b,o,none⟩with
 |some (.slice _ n _)=>n
 |_=>0
theorem mG(w:vF)(a:Array sA)(T:I1)(xs:List sA)(h:a.toList=xs):∀j u,xs[j]?=some u→(w.alloc (.cells a T)).cell? ((⟨w.heap.size,0,none⟩:Addr).add j)=some u:=by
 intro j u b;have d:(⟨w.heap.size,0,none⟩:Addr).add j=⟨w.heap.size,j,none⟩:=by unfold Addr.add;split<;>simp_all
 rw[d,aC (aD w _),← Ke,h];exact b
theorem wD(B b o:Nat)(d:Array sA)(T:I1)(v:sA)(ws:List Nat)(size:Nat)(w:vF)(hB:B≤w.heap.size)(O:T≠T64)(P:w.heap[b]?=some (.cells d T (0,0)))(F:d[o]?=some v)(h:eJ w B v ws)(hs:size≤1000) :
  I5 hE 148 #[.pointer (some ⟨b,o,none⟩),.int .i64 size] w fun e w'=>e=.returned (.tuple #[])∧∃v',eJ w' B v' (eO ws size)∧SetCh w w' b o d T v v':=by
 obtain⟨Q,R,S,U,V⟩:=info_parts AY;have t:o<d.size:=(Jm.1 F).1;go_enter Tryz.func148,Tryz.ntmps148
 go_wp2;have G:I3 (RcInv w w B b o d T v ws ws.length v):=aA ⟨gO _,by rw[jH (gO _)];exact h,SetCh.refl P F⟩;clear h;go_loopw [] (fun wr=>∃(k:Nat) (H:sA),(k=ws.length∨k≤size)∧RcInv w wr B b o d T v ws k H) (fun wr=>size-jM wr b o)
 case atStart=>exact⟨ws.length,v,.inl rfl,G.out⟩
 case round=>
  clear G;obtain⟨k,H,I,a⟩:=hrel;have X:=a.le;have u:(eO ws k).length=k:=by rw[lJ];omega
  obtain⟨i,j,rfl,_⟩:=a.own.form;rw[u]at a;have m:=a.ch.blk;have Y:wr.cell? ⟨b,o,none⟩=some (.slice i k j):=by rw[aC m];simp[t]
  have a6:wr.frozen? ⟨b,o,none⟩=false:=aE m o;have J:jM wr b o=k:=by unfold jM;rw[Y]
  by_cases Z:k<size
  ·have a7:=a.ch.kb.size;have K:(E2 i k j).ownBlock≠some b:=a.own.ne m O;have L:=a.own.alloc (.cells #[.int .u64 0] 186);have p:=aA a;have HM:=aA J;have y:=aA K;have z:=aA m;have a0:I3 (B≤(wr.alloc (.cells #[.int .u64 0] 186)).heap.size):=aA (by rw[IW];omega);have a1:I3 (b<(wr.alloc (.cells #[.int .u64 0] 186)).heap.size):=aA (by rw[IW];exact KD (aB m));have a2:I3 ((d.setIfInBounds o (.slice i k j))[o]?=some (.slice i k j)):=aA (by simp[t]);have A:=L.1;rw[u]at A;have M:=aA A;clear a J K m L A;go_wp2_with (first
    |(at_builtin;go_loud (refine wpList_append_lies _ rfl (.tmp 15) (.tmp 16) 110 rfl B 186 Q (.int .u64 0) 1 8 Tryz.underlying110 R S U V rfl (by decide) (.slice i k j) k (dO (eO ws k)) (by simp[Act.eval]) M.out ⟨wr.heap.size,0,none⟩ 1 1 [.int .u64 0] (by simp[Act.eval]) rfl (mG wr #[.int .u64 0] 186 [.int .u64 0] rfl) (by intro a8 hu;rw[A1.1 hu];rfl) (by decide) (by unfold maxLen;omega) (by omega) a0.out _ rfl ?_;intro g r l N C D a3;have q:l.heap[b]?=some (.cells (d.setIfInBounds o (.slice i k j)) T (0,0)):=(C.block b a1.out (fun e=>y.out e.symm)).trans (aF z.out _);have a9:l.cell? ⟨b,o,none⟩=some (.slice i k j):=(aC q o).trans a2.out;have aa:l.frozen? ⟨b,o,none⟩=false:=aE q o))
    |go_in)
   have HX:I3 (RcInv w (l.setCell ⟨b,o,none⟩ (.slice (some ⟨g,0,none⟩) (k+1) r)) B b o d T v ws (k+1) (.slice (some ⟨g,0,none⟩) (k+1) r)):=by
    have a4:g≠b:=by
     rcases D with e|e
     ·intro e2;subst e2;exact y.out e
     ·have:=aB z.out;simp at e;omega
    refine aA ⟨by omega,?_,?_⟩
    ·have hO:eJ l B (.slice (some ⟨g,0,none⟩) (k+1) r) (eO ws (k+1)):=by
      rw[wC X];refine⟨?_,fun x f=>?_⟩
      ·have e1:dO (eO ws k++[0])=dO (eO ws k)++[.int .u64 0]:=by simp[dO]
       rw[e1,A4,u];exact N
      ·rcases IK.1 f with f|f
       ·exact p.out.own.2 x f
       ·rw[A1.1 f];decide
     exact hO.kb ((Kb.refl [b] l).setCell (p:=⟨b,o,none⟩) (.inl (by simp)) _) (by intro x f;rw[A1.1 f];intro e;cases e;exact a4 rfl)
    ·refine p.out.ch.trans ⟨?_,?_,?_⟩
     ·rw[aI q]
     ·refine(((Kb.refl _ wr).alloc _).grown C (fun x f=>?_)).setCell (p:=⟨b,o,none⟩) (.inl (by simp)) _;exact .inl (by simp[f])
     ·rcases D with e|e
      ·exact .inl e.symm
      ·refine .inr ⟨g,rfl,?_⟩;simp at e;omega
   have HL:I3 (jM (l.setCell ⟨b,o,none⟩ (.slice (some ⟨g,0,none⟩) (k+1) r)) b o=k+1):=by
    refine aA ?_
    unfold jM;rw[aC (aI q o _)];simp[t]
   clear N C D a3 q M z y;go_wp2;go_roundw
   case rel=>exact⟨k+1,_,.inr (by omega),HX.out⟩
   case measure=>rw[HL.out,HM.out];omega
  ·have p:=aA a;clear a;go_wp2;go_end0
   refine⟨rfl,_,?_,p.out.ch⟩;have e:eO ws size=eO ws k:=by
    rcases I with rfl|I
    ·rw[jH (Ki Z),jH (gO _)]
    ·rw[show k=size by omega]
   rw[e];exact p.out.own
def aO(w:vF)(B:Nat)(v:sA)(s:List Nat):Prop:=∃a,a.length≤2∧eJ w B v a∧s=mkS (cQ a)
theorem aO.kb{w w':vF}{B:Nat}{v:sA}{s:List Nat}{L:List Nat}(h:aO w B v s)(a:Kb L w w')(b:∀g∈L,v.ownBlock≠some g):aO w' B v s:=by obtain⟨d,e,f,i⟩:=h;exact⟨d,e,f.kb a b,i⟩
theorem aO.nil(w:vF)(B:Nat):aO w B (.slice none 0 0) []:=⟨[],by simp,eJ.nil w B,by simp[mkS,cQ]⟩
theorem aO.ne{w:vF}{B b:Nat}{v:sA}{s:List Nat}{a:Array sA}{T:I1}{d:Nat × Nat}(h:aO w B v s)(e:w.heap[b]?=some (.cells a T d))(f:T≠T64):v.ownBlock≠some b:=by obtain⟨i,_,g,_⟩:=h;exact g.ne e f
theorem aO.lt{w:vF}{B:Nat}{v:sA}{s:List Nat}(h:aO w B v s){g:Nat}(a:v.ownBlock=some g):B≤g∧g<w.heap.size:=by obtain⟨d,_,b,_⟩:=h;exact b.lt a
theorem bD{p:Nat→Bool}{n:Nat}(a:n<128):(mkS p).contains n=p n:=by rw[J8,JZ,eL];exact⟨fun h=>h.2,fun h=>⟨a,h⟩⟩
theorem cT{p q:Nat→Bool}(h:∀k,k<128→p k=q k):mkS p=mkS q:=by unfold mkS;refine List.filter_congr fun k a=>h k (by simpa using a)
theorem CE{x m:Nat}:(x &&& 2^m=0)↔x.testBit m=false:=by
 constructor
 ·intro h;have a:(x &&& 2^m).testBit m=false:=by rw[h];simp
  rw[Le,Nat.testBit_two_pow_self]at a;simpa using a
 ·intro h;apply Nat.eq_of_testBit_eq;intro i;rw[Le,Mz,Nat.zero_testBit];by_cases e:m=i
  ·subst e;simp[h]
  ·simp[e]
theorem nE(ws:List Nat)(i x k:Nat)(a:i<ws.length):(ws.set i x).getD k 0=if k=i then x else ws.getD k 0:=by
 simp only[E1];by_cases h:k=i
 ·subst h;simp[a]
 ·rw[Jt (Ne.symm h)];simp[h]
theorem CF{ws:List Nat}{n q b x:Nat}(f:q=n / 64)(g:b=2^(n % 64))(d:ws[q]?=some x)(k:Nat):cQ (ws.set q (x ||| b)) k=(k == n || cQ ws k):=by
 subst f g;have i:=(II.1 d).1;unfold cQ;rw[nE _ _ _ _ i];by_cases h:k / 64=n / 64
 ·rw[if_pos h,Nat.testBit_or,Mz,h];have j:ws.getD (n / 64) 0=x:=by simp[d]
  rw[j];by_cases e:n % 64=k % 64
  ·have:k=n:=by omega
   subst this;simp
  ·have:k≠n:=fun a=>e (by rw[a])
   simp[e,this]
 ·rw[if_neg h];have:k≠n:=fun a=>h (by rw[a])
  simp[this]
theorem CG{ws:List Nat}{n q x:Nat}(a:q=n / 64)(b:ws[q]?=some x):cQ ws n=x.testBit (n % 64):=by subst a;unfold cQ;simp[b]
theorem xO{x n a:Nat}(b:a=2^(n % 64)):decide (x &&& a=0)=!x.testBit (n % 64):=by
 subst b;by_cases e:x &&& 2^(n % 64)=0
 ·simp[e,CE.1 e]
 ·cases d:x.testBit (n % 64)
  ·exact absurd (CE.2 d) e
  ·simp[e]
theorem Hc(m:Nat):(((m:Nat):Int) == 0)=decide (m=0):=by rw[J8];simp
theorem xP{x y:Nat}(a:x<18446744073709551616)(b:y<18446744073709551616):x ||| y<18446744073709551616:=Nat.or_lt_two_pow (n:=64) a b
theorem zC(n:Nat):2^(n % 64)<18446744073709551616:=A2 (NU (by omega) (Od n (by omega))) (by decide)
theorem gS(B b o:Nat)(f:Array sA)(T:I1)(v:sA)(s:List Nat)(n:Nat)(w:vF)(L:B≤w.heap.size)(D:T≠T64)(M:w.heap[b]?=some (.cells f T (0,0)))(F:f[o]?=some v)(h:aO w B v s)(G:n<128) :
  I5 hE 108 #[.pointer (some ⟨b,o,none⟩),.int .u64 n] w fun e w'=>e=.returned (.bool (!s.contains n))∧∃v',aO w' B v' (dB n s)∧SetCh w w' b o f T v v':=by
 obtain⟨d,N,H,rfl⟩:=h;have O:o<f.size:=(Jm.1 F).1;obtain⟨q,u⟩:∃q,q=n / 64:=⟨_,rfl⟩;obtain⟨a,p⟩:∃a,a=2^(n % 64):=⟨_,rfl⟩;have y:a<18446744073709551616:=by rw[p];exact zC n
 have Y:q≤1:=by omega
 have I:=oW n q a G u p w;have r:=aA (And.intro u p);clear u p;go_enter Tryz.func108,Tryz.ntmps108
 go_wp2_with fail
 refine I.mono ?_
 clear I;rintro e w' ⟨rfl,rfl⟩;go_wp2_with fail
 refine(wD B b o f T v d (q+1) w' L D M F H (by omega)).mono ?_
 rintro e l ⟨rfl,Z,m,z⟩;have P:=lJ d (q+1);have J:I3 (∀k,cQ (eO d (q+1)) k=cQ d k):=pR d (q+1);have a0:(eO d (q+1)).length≤2:=by omega
 have Q:q<(eO d (q+1)).length:=by omega
 generalize eO d (q+1)=i at *;clear P N H;obtain⟨x,j⟩:∃x,i[q]?=some x:=⟨_,hZ Q⟩;obtain⟨ao,A,rfl,K⟩:=m.form;obtain⟨g,rfl,hg,a1⟩:=K _ x j;have C:x<18446744073709551616:=m.2 x (IJ j);have t:=z.blk;have hc:l.cell? ⟨b,o,none⟩=some (.slice (some ⟨g,0,none⟩) i.length A):=by rw[aC t];simp[O]
 have R:g≠b:=fun e=>m.ne t D (by rw[e];rfl)
 have S:I3 (aO (l.setCell ⟨g,q,none⟩ (.int .u64 ((x ||| a:Nat):Int))) B (.slice (some ⟨g,0,none⟩) i.length A) (dB n (mkS (cQ d)))∧SetCh w' (l.setCell ⟨g,q,none⟩ (.int .u64 ((x ||| a:Nat):Int))) b o f T v (.slice (some ⟨g,0,none⟩) i.length A)):=by
  refine aA ⟨⟨i.set q (x ||| a),by rw[JD];omega,m.set _ _ (xP C y),?_⟩,z.trans ⟨?_,(Kb.refl _ _).setCell (p:=⟨g,q,none⟩) (.inl (by simp[Jh])) _,.inl rfl⟩⟩
  ·unfold dB;refine cT fun k U=>?_
   rw[CF r.out.1 r.out.2 j,bD U,J.out]
  ·have V:(l.setCell ⟨g,q,none⟩ (.int .u64 ((x ||| a:Nat):Int))).heap[b]?=l.heap[b]?:=Below.heap_setCell _ _ _ _ (fun e=>R e.symm);rw[V,t,jL]
 have X:I3 ((!(mkS (cQ d)).contains n)=decide (x &&& a=0)):=by
  refine aA ?_
  rw[bD G,← J.out,CG r.out.1 j,xO r.out.2]
 have HX:=aA j;have hand:=u64_and_nat x a C y;have a3:=u64_or_nat x a C y;generalize i.length=a4 at *;clear m z K t j;go_wp2;go_ret
 refine⟨?_,_,S.out⟩;rw[X.out,← Hc];rfl
def eR(v a:sA):Prop:=∀g,v.ownBlock=some g→a.ownBlock≠some g
theorem eR.symm{v a:sA}(h:eR v a):eR a v:=fun g b d=>h g d b
theorem SetCh.other{w w':vF}{B b o b2 f:Nat}{k g:Array sA}{T i:I1}{v v' l:sA}{ws:List Nat}(h:SetCh w w' b o k T v v')(q:w.heap[b]?=some (.cells k T (0,0)))(r:eJ w B v ws)(a:w.heap[b2]?=some (.cells g i (0,0)))(m:g[f]?=some l)(t:i≠T64)(u:b2≠b∨f≠o):∃p,w'.heap[b2]?=some (.cells p i (0,0))∧p[f]?=some l:=by
 by_cases e:b2=b
 ·subst e;rw[q]at a;injection a with a;injection a with j x _;subst j x;refine⟨_,h.blk,?_⟩;rw[K0,if_neg (fun e=>(u.resolve_left (by simp)) e.symm)];exact m
 ·refine⟨g,h.kb.heap a ?_,m⟩;intro d;rcases sT.1 d with j|d
  ·exact e j
  ·simp at d;exact r.ne a t d
theorem SetCh.apart{w w':vF}{B b o:Nat}{f:Array sA}{T:I1}{v v' d:sA}{i:List Nat}(h:SetCh w w' b o f T v v')(k:w.heap[b]?=some (.cells f T (0,0)))(l:T≠T64)(h2:eJ w B d i)(j:eR v d):eJ w' B d i∧eR v' d:=by
 refine⟨h2.kb h.kb ?_,?_⟩
 ·intro g a;rcases sT.1 a with rfl|a
  ·exact h2.ne k l
  ·simp at a;exact j g a
 ·intro g a;rcases h.lies with e|⟨p,e,q⟩
  ·exact j g (by rw[← e];exact a)
  ·rw[e]at a;cases a;intro m;have:=(h2.lt m).2;omega
theorem Gg(B b o:Nat)(i:Array sA)(T:I1)(v:sA)(s:List Nat)(n:Nat)(w:vF)(p:w.heap[b]?=some (.cells i T (0,0)))(r:i[o]?=some v)(h:aO w B v s)(k:n<128) :
  I5 hE 178 #[.pointer (some ⟨b,o,none⟩),.int .u64 n] w fun e w'=>e=.returned (.bool (s.contains n))∧w'=w:=by
 obtain⟨a,A,j,rfl⟩:=h;obtain⟨q,g⟩:∃q,q=n / 64:=⟨_,rfl⟩;obtain⟨d,f⟩:∃d,d=2^(n % 64):=⟨_,rfl⟩;have t:d<18446744073709551616:=by rw[f];exact zC n
 have l:=oW n q d k g f w;have u:I3 ((mkS (cQ a)).contains n=!decide (a.getD q 0 &&& d=0)):=by
  refine aA ?_
  rw[bD k,xO f,Bool.not_not];subst g;rfl
 have C:=aA (And.intro g f);clear g f;have y:a.getD q 0<18446744073709551616:=by
  rw[E1];cases z:a[q]? with
  |none=>simp
  |some x=>simpa using j.2 x (IJ z)
 have m:=nD B b o i T v a q w p r j;clear j;generalize a.getD q 0=x at *;have hand:=u64_and_nat x d y t;go_enter Tryz.func178,Tryz.ntmps178
 go_wp2_with fail
 refine l.mono ?_
 clear l;rintro e w' ⟨rfl,rfl⟩;go_wp2_with fail
 refine m.mono ?_
 clear m;rintro e D ⟨rfl,rfl⟩;go_wp2;go_ret
 refine⟨?_,rfl⟩;rw[u.out,← Hc];rfl
abbrev TN:I1:=144
def cI(w:vF)(B:Nat)(v:sA)(ws:List Nat):Prop:=w.ownsRow B TN 1 v ws.length (dO ws)∧∀x∈ws,x<18446744073709551616
theorem cI.lt{w:vF}{B:Nat}{v:sA}{ws:List Nat}(h:cI w B v ws){g:Nat}(a:v.ownBlock=some g):B≤g∧g<w.heap.size:=by
 rcases h.1.2 with⟨rfl,_⟩|⟨e,f,i,rfl,b,d,_⟩
 ·cases a
 ·cases a;exact⟨b,aB d⟩
theorem cI.kb{w w':vF}{B:Nat}{v:sA}{ws:List Nat}{L:List Nat}(h:cI w B v ws)(b:Kb L w w')(d:∀g∈L,v.ownBlock≠some g):cI w' B v ws:=by
 refine⟨⟨h.1.1,?_⟩,h.2⟩;rcases h.1.2 with e|⟨g,f,i,a,j,k,r⟩
 ·exact .inl e
 ·exact .inr ⟨g,f,i,a,j,b.heap k (fun l=>d g l (by rw[a];rfl)),r⟩
theorem cI.ne{w:vF}{B b:Nat}{v:sA}{ws:List Nat}{d:Array sA}{T:I1}{f:Nat × Nat}(h:cI w B v ws)(i:w.heap[b]?=some (.cells d T f))(j:T≠TN):v.ownBlock≠some b:=by
 intro e;rcases h.1.2 with⟨rfl,_⟩|⟨g,l,m,rfl,_,a,_⟩
 ·cases e
 ·cases e;rw[i]at a;injection a with a;injection a with _ k _;exact j k
theorem cI.form{w:vF}{B:Nat}{v:sA}{ws:List Nat}(h:cI w B v ws):∃ao cap,v=.slice ao ws.length cap∧(∀(j x:Nat),ws[j]?=some x→∃g,ao=some ⟨g,0,none⟩∧w.cell? ⟨g,j,none⟩=some (.int .u64 (x:Int))∧w.frozen? ⟨g,j,none⟩=false):=by
 rcases h.1.2 with⟨rfl,d⟩|⟨g,cap,k,rfl,_,b,l,m,o,f⟩
 ·refine⟨none,0,by rw[d],fun j x a=>?_⟩;have:=(II.1 a).1;omega
 ·refine⟨some ⟨g,0,none⟩,cap,rfl,fun j x a=>⟨g,rfl,?_,aE b j⟩⟩;have i:=(II.1 a).1;rw[aC b,← Ke];have e:=lI a;rw[← f,Nat.mul_one,JM i]at e;exact e
theorem cI.set{w:vF}{B g n cap:Nat}{ws:List Nat}(h:cI w B (.slice (some ⟨g,0,none⟩) n cap) ws)(j x:Nat)(d:x<18446744073709551616):cI (w.setCell ⟨g,j,none⟩ (.int .u64 (x:Int))) B (.slice (some ⟨g,0,none⟩) n cap) (ws.set j x):=by
 refine⟨⟨by simp[dO],?_⟩,fun y b=>?_⟩
 ·rcases h.1.2 with⟨e,_⟩|⟨t,u,f,e,i,k,l,m,o,p⟩
  ·cases e
  ·injection e with a q r;injection a with a;injection a with a;subst a q r;rw[JD];refine .inr ⟨g,cap,f.setIfInBounds j (.int .u64 (x:Int)),rfl,i,aI k j _,l,m,by simpa using o,?_⟩;rw[MT,← zB,← p,List.take_set]
 ·rcases Nd b with b|rfl
  ·exact h.2 y b
  ·exact d
theorem cI.alloc{w:vF}{B:Nat}{v:sA}{ws:List Nat}(h:cI w B v ws)(o:Obj):cI (w.alloc o) B v ws:=h.kb ((Kb.refl [] w).alloc o) (by simp)
theorem cI.nil(w:vF)(B:Nat):cI w B (.slice none 0 0) []:=⟨⟨rfl,.inl ⟨rfl,rfl⟩⟩,by simp⟩
def AZ(ab:List Nat):Nat→Nat→Nat
 |0,n=>n
 |k+1,n=>match ab[n]? with
  |some x=>if x=n then n else AZ ab k x
  |none=>n
def fE(ab:List Nat)(n:Nat):Nat:=AZ ab (n+1) n
def sP(ab:List Nat):Prop:=∀(i x:Nat),ab[i]?=some x→x≤i
theorem Da{ab:List Nat}(h:sP ab):∀(n k:Nat),n+1≤k→AZ ab k n=AZ ab (n+1) n:=by
 intro n;induction n using Kn with
 |_ n a=>
  intro k d;obtain⟨k,rfl⟩:∃j,k=j+1:=⟨k-1,by omega⟩;simp only[AZ];cases b:ab[n]? with
  |none=>rfl
  |some x=>
   simp only[];by_cases e:x=n
   ·rw[if_pos e,if_pos e]
   ·have:=h n x b;rw[if_neg e,if_neg e,a x (by omega) k (by omega),a x (by omega) n (by omega)]
theorem dI{ab:List Nat}(h:sP ab){n x:Nat}(a:ab[n]?=some x):fE ab n=if x=n then n else fE ab x:=by
 unfold fE;have b:=h n x a;rw[AZ,a];simp only[];by_cases e:x=n
 ·rw[if_pos e,if_pos e]
 ·rw[if_neg e,if_neg e];exact Da h x n (by omega)
theorem eB{ab:List Nat}{n:Nat}(a:ab[n]?=none):fE ab n=n:=by unfold fE;rw[AZ,a]
theorem tK{ab:List Nat}(h:sP ab):∀(n:Nat),fE ab n≤n:=by
 intro n;induction n using Kn with
 |_ n b=>
  cases a:ab[n]? with
  |none=>rw[eB a];exact gO _
  |some x=>
   rw[dI h a];have:=h n x a;by_cases e:x=n
   ·rw[if_pos e];exact gO _
   ·rw[if_neg e];have:=b x (by omega);omega
theorem rB{ab:List Nat}(h:sP ab):∀(n:Nat),fE ab (fE ab n)=fE ab n:=by
 intro n;induction n using Kn with
 |_ n d=>
  cases b:ab[n]? with
  |none=>rw[eB b,eB b]
  |some x=>
   have:=h n x b;have a:=dI h b;by_cases e:x=n
   ·rw[if_pos e]at a;rw[a,a]
   ·rw[if_neg e]at a;rw[a];exact d x (by omega)
theorem Ez{ab:List Nat}(h:sP ab){n x:Nat}(a:ab[fE ab n]?=some x):x=fE ab n:=by
 have b:=dI h a;rw[rB h]at b;by_cases e:x=fE ab n
 ·exact e
 ·rw[if_neg e]at b;have d:=h _ _ a;have f:=tK h x;omega
theorem wE{ab:List Nat}(h:sP ab){j i:Nat}(l:j<ab.length)(o:fE ab i=i)(p:i≤j):sP (ab.set j i)∧(∀m,fE ab j=i→fE (ab.set j i) m=fE ab m)∧(fE ab j=j→∀m,fE (ab.set j i) m=if fE ab m=j then i else fE ab m):=by
 have f:sP (ab.set j i):=by
  intro m x b;rw[List.getElem?_set]at b;split at b
  ·rename_i e;subst e;injection b with b;omega
  ·exact h m x b
 refine⟨f,fun m k=>?_,fun k m=>?_⟩
 ·induction m using Kn with
  |_ m g=>
   by_cases e:m=j
   ·subst e;have b:(ab.set m i)[m]?=some i:=by simp[l]
    rw[dI f b,k];by_cases a:i=m
    ·rw[if_pos a,a]
    ·rw[if_neg a,g i (by omega),o]
   ·have b:(ab.set j i)[m]?=ab[m]?:=Jt (Ne.symm e);cases d:ab[m]? with
    |none=>rw[eB (b.trans d),eB d]
    |some x=>
     have:=h m x d;rw[dI f (b.trans d),dI h d];by_cases a:x=m
     ·rw[if_pos a,if_pos a]
     ·rw[if_neg a,if_neg a,g x (by omega)]
 ·induction m using Kn with
  |_ m g=>
   by_cases e:m=j
   ·subst e;have b:(ab.set m i)[m]?=some i:=by simp[l]
    rw[dI f b,k,if_pos rfl];by_cases a:i=m
    ·rw[if_pos a,a]
    ·rw[if_neg a,g i (by omega),o,if_neg a]
   ·have b:(ab.set j i)[m]?=ab[m]?:=Jt (Ne.symm e);cases d:ab[m]? with
    |none=>rw[eB (b.trans d),eB d,if_neg e]
    |some x=>
     have:=h m x d;rw[dI f (b.trans d),dI h d];by_cases a:x=m
     ·rw[if_pos a,if_pos a,if_neg e]
     ·rw[if_neg a,if_neg a,g x (by omega)]
theorem tL{ab:List Nat}(h:sP ab):sP (ab++[ab.length])∧∀m,fE (ab++[ab.length]) m=fE ab m:=by
 have d:sP (ab++[ab.length]):=by
  intro i x a;by_cases e:i<ab.length
  ·rw[IL e]at a;exact h i x a
  ·rw[IZ (by omega)]at a;have:=(II.1 a).1;simp at this;have b:i=ab.length:=by omega
   subst b;simp at a;omega
 refine⟨d,fun m=>?_⟩;induction m using Kn with
 |_ m g=>
  by_cases e:m<ab.length
  ·have a:(ab++[ab.length])[m]?=ab[m]?:=IL e;obtain⟨x,f⟩:∃x,ab[m]?=some x:=⟨_,hZ e⟩;have:=h m x f;rw[dI d (a.trans f),dI h f];by_cases b:x=m
   ·rw[if_pos b,if_pos b]
   ·rw[if_neg b,if_neg b,g x (by omega)]
  ·rw[eB (Ja (Ki e):ab[m]?=none)];by_cases b:m=ab.length
   ·subst b;have a:(ab++[ab.length])[ab.length]?=some ab.length:=by simp
    rw[dI d a,if_pos rfl]
   ·exact eB (Ja (by simp;omega))
structure ClsR(ab:List Nat)(rep:Nat→Nat):Prop where
 down:sP ab
 top:∀m,fE ab m=rep m
 small:ab.length≤128
theorem ClsR.nil:ClsR [] id:=⟨fun i x a=>by simp at a,fun m=>eB (by simp),by simp⟩
theorem CH:(hE.info? 144).map (fun i=>(i.zero,i.size,i.bytes))=some (some (.int .u64 0),1,8):=by kernel_rfl
theorem GT{wr W d:vF}{B b o g cp x:Nat}{j:Array sA}{T:I1}{h:sA}{xs:List Nat}(k:cI wr B h xs)(i:wr.heap[b]?=some (.cells j T (0,0)))(r:T≠TN)(f:Kb [] wr W)(l:W.grownBy d h.ownBlock)(m:h.ownBlock=some g∨g=W.heap.size)
  (t:d.ownsRow B TN 1 (.slice (some ⟨g,0,none⟩) (xs.length+1) cp) (xs.length+1) (dO xs++[.int .u64 (x:Int)])) (u:x<18446744073709551616) :
  cI (d.setCell ⟨b,o,none⟩ (.slice (some ⟨g,0,none⟩) (xs.length+1) cp)) B (.slice (some ⟨g,0,none⟩) (xs.length+1) cp) (xs++[x])∧SetCh wr (d.setCell ⟨b,o,none⟩ (.slice (some ⟨g,0,none⟩) (xs.length+1) cp)) b o j T h (.slice (some ⟨g,0,none⟩) (xs.length+1) cp):=by
 have q:=k.ne i r;have w:g≠b:=by
  rcases m with e|e
  ·intro z;subst z;exact q e
  ·have F:=aB i;have G:=f.size;omega
 have A:d.heap[b]?=some (.cells j T (0,0)):=(l.block b (A2 (aB i) f.size) (fun e=>q e.symm)).trans (f.heap i (by simp));refine⟨?_,?_,?_,?_⟩
 ·have C:cI d B (.slice (some ⟨g,0,none⟩) (xs.length+1) cp) (xs++[x]):=by
   refine⟨?_,fun y a=>?_⟩
   ·have D:dO (xs++[x])=dO xs++[.int .u64 (x:Int)]:=by simp[dO]
    rw[D,A4];exact t
   ·rcases IK.1 a with a|a
    ·exact k.2 y a
    ·rw[A1.1 a];exact u
  exact C.kb ((Kb.refl [b] d).setCell (p:=⟨b,o,none⟩) (.inl (by simp)) _) (by intro y a;rw[A1.1 a];intro e;cases e;exact w rfl)
 ·rw[aI A]
 ·refine Kb.setCell ?_ (p:=⟨b,o,none⟩) (.inl (by simp)) _;refine(f.mono (by simp)).grown l (fun y a=>.inl (by simp[a]))
 ·rcases m with e|e
  ·exact .inl e.symm
  ·exact .inr ⟨g,rfl,by rw[e];exact f.size⟩
structure SrInv(w wr:World)(B b o:Nat)(cs:Array Value)(T:TypeId)(v:Value)(rep:Nat→Nat)(ab:List Nat)(vk:Value):Prop where
 cls:ClsR ab rep
 own:cI wr B vk ab
 ch:SetCh w wr b o cs T v vk
theorem ClsR.snoc{ab:List Nat}{rep:Nat→Nat}(h:ClsR ab rep)(a:ab.length<128):ClsR (ab++[ab.length]) rep:=
 ⟨(tL h.down).1,fun m=>by rw[(tL h.down).2];exact h.top m,by simp;omega⟩
theorem A9(B b o:Nat)(k:Array sA)(T:I1)(v:sA)(ab:List Nat)(rep:Nat→Nat)(n:Nat)(w:vF)(hB:B≤w.heap.size)(z:T≠TN)(U:w.heap[b]?=some (.cells k T (0,0)))(A:k[o]?=some v)(h:cI w B v ab)(C:ClsR ab rep)(hn:n<128) :
  I5 hE 124 #[.pointer (some ⟨b,o,none⟩),.int .u64 n] w fun e w'=>e=.returned (.tuple #[])∧∃v' t,n<t.length∧ab.length≤t.length∧SrInv w w' B b o k T v rep t v':=by
 obtain⟨V,X,Y,Z,a0⟩:=info_parts CH;have p:o<k.size:=(Jm.1 A).1;go_enter Tryz.func124,Tryz.ntmps124
 go_wp2;have D:I3 (SrInv w w B b o k T v rep ab v):=aA ⟨C,h,SetCh.refl U A⟩;clear h C;go_loopw [] (fun wr=>∃(a:List Nat) (F:sA),ab.length≤a.length∧SrInv w wr B b o k T v rep a F) (fun wr=>n+1-jM wr b o)
 case atStart=>exact⟨ab,v,gO _,D.out⟩
 case round=>
  clear D;obtain⟨a,F,G,i⟩:=hrel;have H:=aA G;clear G;have a7:=i.cls.small;obtain⟨f,g,rfl,_⟩:=i.own.form;have l:=i.ch.blk;have a1:wr.cell? ⟨b,o,none⟩=some (.slice f a.length g):=by rw[aC l];simp[p]
  have a8:wr.frozen? ⟨b,o,none⟩=false:=aE l o;have I:jM wr b o=a.length:=by unfold jM;rw[a1]
  by_cases a9:a.length≤n
  ·have aa:=i.ch.kb.size;have J:(E2 f a.length g).ownBlock≠some b:=i.own.ne l z;have m:=aA i;have HM:=aA I;have HN:=aA J;have HB:=aA l;have K:I3 (∀W:vF,W.heap=(wr.alloc (.cells #[.int .u64 (a.length:Int)] 144)).heap→W.ownsRow B 144 1 (.slice f a.length g) a.length (dO a)):=aA (fun W d=>by have:=(i.own.alloc (.cells #[.int .u64 (a.length:Int)] 144)).1;unfold World.ownsRow at this ⊢;rw[d];exact this);have L:I3 (∀W:vF,W.heap=(wr.alloc (.cells #[.int .u64 (a.length:Int)] 144)).heap→∀j u,[Value.int .u64 (a.length:Int)][j]?=some u→W.cell? ((⟨wr.heap.size,0,none⟩:Addr).add j)=some u):=aA (fun W d j u x=>by
    have:=mG wr #[.int .u64 (a.length:Int)] 144 _ rfl j u x;unfold World.cell? at this ⊢;rw[d];exact this)
   have M:I3 (∀W:vF,W.heap=(wr.alloc (.cells #[.int .u64 (a.length:Int)] 144)).heap→B≤W.heap.size):=aA (fun W d=>by rw[d,IW];omega);have a2:I3 (∀W:vF,W.heap=(wr.alloc (.cells #[.int .u64 (a.length:Int)] 144)).heap→W.heap.size=wr.heap.size+1):=aA (fun W d=>by rw[d,IW]);have N:I3 (∀W:vF,W.heap=(wr.alloc (.cells #[.int .u64 (a.length:Int)] 144)).heap→W.heap[b]?=some (.cells (k.setIfInBounds o (.slice f a.length g)) T (0,0))):=aA (fun W d=>by rw[d];exact aF l _);have O:I3 (∀W:vF,W.heap=(wr.alloc (.cells #[.int .u64 (a.length:Int)] 144)).heap→b<W.heap.size):=aA (fun W d=>by rw[d,IW];exact KD (aB l));have ad:(wr.alloc (.cells #[.int .u64 (a.length:Int)] 144)).cell? ⟨b,o,none⟩=some (.slice f a.length g):=by rw[aC (aF l _)];simp[p]
   have ae:I3 (b<wr.heap.size):=aA (aB l);have a3:I3 ((k.setIfInBounds o (.slice f a.length g))[o]?=some (.slice f a.length g)):=aA (by simp[p]);have a4:I3 (a.length<128):=aA (by omega);have P:I3 (∀W:vF,W.heap=(wr.alloc (.cells #[.int .u64 (a.length:Int)] 144)).heap→W.os=wr.os→W.tape=wr.tape→W.output=wr.output→Kb (b::(E2 f a.length g).ownBlock.toList) wr W):=aA (fun W d h1 h2 h3=>⟨h1,h2,h3,by rw[d,IW];omega,fun af hk _=>by rw[d];exact Below.heap_alloc _ _ _ hk⟩);have ag:Kc.wrap ((a.length:Nat):Int)=((a.length:Nat):Int):=by rw[JJ];omega
   clear i I J l;go_wp2;go_region_law (go_loud (refine step_append_lies _ rfl (.tmp 16) (.tmp 23) 106 rfl B 144 V (.int .u64 0) 1 8 Tryz.underlying106 X Y Z a0 rfl (by decide) (.slice f a.length g) a.length (dO a) (by simp[Act.eval]) (K.out _ rfl) ⟨wr.heap.size,0,none⟩ 1 1 [.int .u64 (a.length:Int)] (by simp[Act.eval]) rfl (L.out _ rfl) (by intro u x;rw[A1.1 x];rfl) (by decide) (by unfold maxLen;omega) (by omega) (M.out _ rfl) _ rfl ?_;intro a5 cp q Q y R a6;have r:q.heap[b]?=some (.cells (k.setIfInBounds o (.slice f a.length g)) T (0,0)):=(y.block b (O.out _ rfl) (fun e=>HN.out e.symm)).trans (N.out _ rfl);have ah:q.cell? ⟨b,o,none⟩=some (.slice f a.length g):=(aC r o).trans a3.out;have ai:q.frozen? ⟨b,o,none⟩=false:=aE r o;have hK:=P.out _ rfl rfl rfl rfl))
   all_goals
    have S:=aA (GT (o:=o) m.out.own HB.out z (W:=(wr.alloc (.cells #[.int .u64 (a.length:Int)] 144)).drew) ((Kb.refl [] wr).alloc _).drew y R Q (by omega));have HL:I3 (jM (q.setCell ⟨b,o,none⟩ (.slice (some ⟨a5,0,none⟩) (a.length+1) cp)) b o=a.length+1):=by
     refine aA ?_
     unfold jM;rw[aC (aI r o _)];simp[p]
    clear Q y R a6 r hK K L M a2 N O P;go_wp2;go_roundw
    case rel=>exact⟨a++[a.length],_,by rw[A4];have:=H.out;omega,m.out.cls.snoc a4.out,S.out.1,m.out.ch.trans S.out.2⟩
    case measure=>rw[HL.out,HM.out];omega
  ·have m:=aA i;clear i;go_wp2;go_end0
   exact⟨rfl,_,_,by omega,H.out,m.out⟩
theorem ClsR.next{ab:List Nat}{rep:Nat→Nat}(h:ClsR ab rep){m:Nat}(d:rep m≠m):∃x,ab[m]?=some x∧x<m∧rep x=rep m:=by
 cases b:ab[m]? with
 |none=>have:=eB b;rw[h.top]at this;exact absurd this d
 |some x=>
  have a:=dI h.down b;rw[h.top]at a;have f:=h.down m x b;by_cases e:x=m
  ·rw[if_pos e]at a;exact absurd a d
  ·rw[if_neg e,h.top]at a;exact⟨x,rfl,by omega,a.symm⟩
theorem ClsR.set{ab:List Nat}{rep:Nat→Nat}(h:ClsR ab rep){m:Nat}(a:m<ab.length):ClsR (ab.set m (rep m)) rep:=by
 have b:fE ab (rep m)=rep m:=by rw[← h.top];exact rB h.down m
 obtain⟨d,e,_⟩:=wE h.down a b (by rw[← h.top];exact tK h.down m);exact⟨d,fun j=>(e j (h.top m)).trans (h.top j),by rw[JD];exact h.small⟩
theorem SrInv.set{w wr:vF}{B b o g L cap:Nat}{f:Array sA}{T:I1}{v d:sA}{rep i:Nat→Nat}{ab:List Nat}(h:SrInv w wr B b o f T v rep ab d)(a:d=.slice (some ⟨g,0,none⟩) L cap)(l:T≠TN){m x:Nat}(q:x<18446744073709551616)(r:ClsR (ab.set m x) i):SrInv w (wr.setCell ⟨g,m,none⟩ (.int .u64 (x:Int))) B b o f T v i (ab.set m x) d:=by
 have j:=h.ch.blk;have t:g≠b:=fun e=>h.own.ne j l (by rw[a,e];rfl)
 have k:=h.own;rw[a]at k;refine⟨r,by rw[a];exact k.set _ _ q,h.ch.trans ⟨?_,(Kb.refl _ _).setCell (p:=⟨g,m,none⟩) (.inl (by rw[a];simp[Jh])) _,.inl rfl⟩⟩;have u:(wr.setCell ⟨g,m,none⟩ (.int .u64 (x:Int))).heap[b]?=wr.heap[b]?:=Below.heap_setCell _ _ _ _ (fun e=>t e.symm);rw[u,j,jL]
theorem ClsR.le{ab:List Nat}{rep:Nat→Nat}(h:ClsR ab rep)(m:Nat):rep m≤m:=by rw[← h.top];exact tK h.down m
theorem ClsR.idem{ab:List Nat}{rep:Nat→Nat}(h:ClsR ab rep)(m:Nat):rep (rep m)=rep m:=by rw[← h.top,← h.top];exact rB h.down m
theorem zD(B b o:Nat)(d:Array sA)(T:I1)(v0 v:sA)(ab:List Nat)(rep:Nat→Nat)(n:Nat)(f w:vF)(A:T≠TN)(C:o<d.size)(h:SrInv f w B b o d T v0 rep ab v)(N:n<128) :
  I5 hE 125 #[.pointer (some ⟨b,o,none⟩),.int .u64 n,.int .u64 (rep n)] w fun e w'=>e=.returned (.tuple #[])∧∃D,SrInv f w' B b o d T v0 rep D v:=by
 have F:=aA h;obtain⟨G,k,rfl,_⟩:=h.own.form;obtain⟨t,i⟩:∃t,t=rep n:=⟨_,rfl⟩;have O:t≤n:=by rw[i];exact h.cls.le n
 rw[← i];generalize ab.length=L at *;clear h;go_enter Tryz.func125,Tryz.ntmps125
 go_wp2;have H:=aA i;clear i;go_loopw [1] (fun l wr=>∃(m:Nat) (j:List Nat),l=.int .u64 m∧m≤n∧I3 (rep m=t∧SrInv f wr B b o d T v0 rep j (.slice G L k))) (fun l _=>(intOf l).toNat)
 case atStart=>exact⟨n,ab,rfl,gO _,aA ⟨H.out.symm,F.out⟩⟩
 case round=>
  obtain⟨m,j,rfl,P,a⟩:=hrel;by_cases q:m=t
  ·subst q;go_wp2;go_end0
   exact⟨rfl,_,a.out.2⟩
  ·obtain⟨x,p,Q,r⟩:=a.out.2.cls.next (m:=m) (fun e=>q (by rw[← e];exact a.out.1))
   have u:m<j.length:=(II.1 p).1;obtain⟨R,S,e,y⟩:=a.out.2.own.form;injection e with I J K;subst I K;obtain⟨g,rfl,U,V⟩:=y m x p;have z:=a.out.2.ch.blk;have X:wr.cell? ⟨b,o,none⟩=some (.slice (some ⟨g,0,none⟩) L k):=by rw[aC z];simp[C]
   have Y:m<L:=by omega
   have M:I3 (rep x=t∧SrInv f (wr.setCell ⟨g,m,none⟩ (.int .u64 (t:Int))) B b o d T v0 rep (j.set m t) (.slice (some ⟨g,0,none⟩) L k)):=by refine aA ⟨by rw[r];exact a.out.1,a.out.2.set rfl A (by omega) ?_⟩;have:=a.out.2.cls.set u;rw[a.out.1]at this;exact this
   clear a y z p J r u;go_wp2;go_roundw
   case rel=>exact⟨x,_,rfl,by omega,M⟩
   case measure=>simp[intOf];omega
theorem xQ(B b o:Nat)(d:Array sA)(T:I1)(v:sA)(ab:List Nat)(rep:Nat→Nat)(n:Nat)(w:vF)(S:B≤w.heap.size)(A:T≠TN)(C:w.heap[b]?=some (.cells d T (0,0)))(k:d[o]?=some v)(h:cI w B v ab)(D:ClsR ab rep)(F:n<128) :
  I5 hE 93 #[.pointer (some ⟨b,o,none⟩),.int .u64 n] w fun e w'=>e=.returned (.int .u64 (rep n))∧∃v' l,n<l.length∧ab.length≤l.length∧SrInv w w' B b o d T v rep l v':=by
 have G:o<d.size:=(Jm.1 k).1;have H:=A9 B b o d T v ab rep n w S A C k h D F;clear h D C k;go_enter Tryz.func93,Tryz.ntmps93
 go_wp2_with fail
 refine H.mono ?_
 clear H;rintro e p ⟨rfl,U,i,a1,I,a⟩;have V:=aA I;clear I;obtain⟨t,j⟩:∃t,t=rep n:=⟨_,rfl⟩;have q:=zD B b o d T v U i rep n w p A G a F;rw[← j]at q;have r:=aA j;have a2:t≤n:=by rw[j];exact a.cls.le n
 have a3:=a.cls.small;clear j;obtain⟨X,Y,rfl,J⟩:=a.own.form;have K:=a.ch.blk;have a4:p.cell? ⟨b,o,none⟩=some (.slice X i.length Y):=by rw[aC K];simp[G]
 have u:=aA a;have L:=aA J;clear a J K;go_wp2;go_loopw [5] (fun y wr=>∃(m:Nat),y=.int .u64 m∧m≤n∧wr=p∧I3 (rep m=t)) (fun y _=>(intOf y).toNat)
 case atStart=>exact⟨n,rfl,gO _,rfl,aA r.out.symm⟩
 case round=>
  obtain⟨m,rfl,a5,rfl,M⟩:=hrel;by_cases N:m=t
  ·subst N;obtain⟨x,f⟩:∃x,i[m]?=some x:=⟨_,hZ (by omega)⟩;have O:x=m:=by
    have P:=Ez u.out.cls.down (n:=n) (x:=x);rw[u.out.cls.top,← r.out]at P;exact P f
   subst O;obtain⟨g,rfl,Z,_⟩:=L.out _ _ f;clear f;go_wp2_with fail
   refine q.mono ?_
   clear q;rintro e w2 ⟨rfl,Q,z⟩;have a0:Q.length=i.length:=by obtain⟨_,_,e,_⟩:=z.own.form;injection e with _ e _;exact e.symm
   have H2:=aA z;clear z;go_wp2;go_ret
   exact⟨by rw[← r.out];rfl,_,Q,by omega,by rw[a0];exact V.out,H2.out⟩
  ·obtain⟨x,f,O,R⟩:=u.out.cls.next (m:=m) (fun e=>N (by rw[← e];exact M.out))
   obtain⟨g,rfl,Z,_⟩:=L.out _ _ f;have HN:I3 (rep x=t):=aA (by rw[R];exact M.out);clear f R;go_wp2;go_roundw
   case rel=>exact⟨x,rfl,by omega,(by first|rfl|trivial),HN⟩
   case measure=>simp[intOf];omega
end
end Go.Proofs.YtiamlbhkiehilaaGreatDoor
