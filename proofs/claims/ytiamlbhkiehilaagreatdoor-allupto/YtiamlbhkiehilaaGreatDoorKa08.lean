import Derived.Test.YtiamlbhkiehilaaGreatDoorKa07
import Derived.Laws.AppendOwnNone
open Array renaming toList_extract→Mc
open Bool renaming or_eq_true→Nc,and_eq_true→Js
open ByteArray renaming size_extract→Jw,size→Jz,data_extract→Lf
open Go renaming Value→sA,World→vF,maxLen→IU,Calls→I5,wpList_append_own→Jg,findLabel→Ng,step_scope→ND
open Go.ByteArray renaming toList_eq→JV
open Go.Op renaming bytesLess→Jc
open Go.Proofs.Tryz renaming prog→hE,func52→Ln,ntmps52→K6,underlying36→JN
open Go.Value renaming ownBlock→Jh
open Go.World renaming ownsRow_nil→JW
open List renaming take_succ_cons→Mg,mem_cons→sT,pairwise_cons→KU,take_append_drop→NB,pairwise_append→NJ,mem_of_getElem?→IJ,map_append→Jp,map_cons→JX,getElem?_eq_getElem→hZ,mem_append→IK,mem_singleton→A1,extract_eq_take_drop→Lr,drop_eq_getElem_cons→KG
open List.Perm renaming refl→NV
open Nat renaming le_refl→gO,zero_le→IM
open Option.some renaming inj→KY,injEq→Kh
open UInt8 renaming toNat_inj→Lz
namespace Go.Proofs.YtiamlbhkiehilaaGreatDoor
set_option maxRecDepth 100000
set_option maxHeartbeats 1000000
section
open Go.RowKit Go.Maps
theorem jI:∀x:List UInt8,Jc x x=false
 | []=>rfl
 |a::x=>by simp[Jc,jI x]
theorem lO:∀x y z:List UInt8,Jc x y=true→Jc y z=true→Jc x z=true
 | [],_,[],_,h=>by
  rename_i y _;cases y<;>simp[Jc]at h
 | [],_,_::_,_,_=>rfl
 |_::_,[],_,h,_=>by simp[Jc]at h
 |_::_,_::_,[],_,h=>by simp[Jc]at h
 |a::x,b::y,c::z,e,d=>by
  simp only[Jc,Nc,Js,decide_eq_true_eq,beq_iff_eq]at *;rcases e with e|⟨rfl,e⟩
  ·rcases d with d|⟨rfl,_⟩
   ·exact .inl (UInt8.lt_trans e d)
   ·exact .inl e
  ·rcases d with d|⟨rfl,d⟩
   ·exact .inl d
   ·exact .inr ⟨rfl,lO x y z e d⟩
theorem nI:∀x y:List UInt8,Jc x y=false→x≠y→Jc y x=true
 | [],[],_,h=>absurd rfl h
 | [],_::_,h,_=>by simp[Jc]at h
 |_::_,[],_,_=>rfl
 |a::x,b::y,c,d=>by
  simp only[Jc,Nc,Js,Bool.or_eq_false_iff,decide_eq_true_eq,decide_eq_false_iff_not,beq_iff_eq]at *;by_cases e:b=a
  ·subst e;refine .inr ⟨rfl,nI x y ?_ (fun e=>d (by rw[e]))⟩;simpa using c.2
  ·rcases UInt8.lt_or_lt_of_ne e with h|h
   ·exact .inl h
   ·exact absurd h c.1
theorem jB(x:ByteArray):cK x x=false:=jI _
theorem kP{x y z:ByteArray}(h1:cK x y=true)(h2:cK y z=true):cK x z=true:=lO _ _ _ h1 h2
theorem fM{a b:ByteArray}(h:a.data.toList=b.data.toList):a=b:=by obtain⟨⟨x⟩⟩:=a;obtain⟨⟨y⟩⟩:=b;simp at h;subst h;rfl
theorem rT{x y:ByteArray}(h1:cK x y=false)(h2:x≠y):cK y x=true:=
 nI _ _ h1 (fun e=>h2 (fM (by rwa [JV,JV]at e)))
def Asc(l:List ByteArray):Prop:=l.Pairwise fun x y=>cK x y=true
theorem EL{l:List ByteArray}{s:ByteArray}:∀x∈l.take (aX l s),cK x s=true:=by
 induction l with
 |nil=>intro x a;simp at a
 |cons y r b=>
  intro x a;simp only[aX]at a;split at a
  ·rename_i h;rw[Mg,sT]at a;rcases a with rfl|a
   ·exact h
   ·exact b x a
  ·simp at a
theorem EM{l:List ByteArray}{s:ByteArray}{x:ByteArray}(h:l[aX l s]?=some x):cK x s=false:=by
 induction l with
 |nil=>simp at h
 |cons y r a=>
  simp only[aX]at h;split at h
  ·exact a (by simpa using h)
  ·rename_i b;simp at h;subst h;simpa using b
theorem fH{l:List ByteArray}{s:ByteArray}(h:Asc l)(a:s∈l):l[aX l s]?=some s:=by
 induction l with
 |nil=>simp at a
 |cons y r b=>
  rw[Asc,KU]at h;rw[sT]at a;simp only[aX];by_cases e:s=y
  ·subst e;rw[if_neg (by rw[jB];simp)];rfl
  ·have hr:s∈r:=a.resolve_left e;rw[if_pos (h.1 s hr)];simpa using b h.2 hr
theorem Gn{l:List ByteArray}(s:ByteArray)(h:Asc l):Asc (mK l s):=by
 unfold mK;split
 ·exact h
 ·rename_i m;have n:l.take (aX l s)++l.drop (aX l s)=l:=NB _ _;have g:=h;rw[Asc,← n,NJ]at g;obtain⟨o,f,p⟩:=g;rw[Asc,NJ];have q:∀y∈l.drop (aX l s),cK s y=true:=by
   cases hd:l.drop (aX l s)with
   |nil=>intro y c;simp at c
   |cons z r=>
    have i:l[aX l s]?=some z:=by have:=congrArg (fun t=>t[0]?) hd;simpa using this
    have j:cK s z=true:=rT (EM i) (fun e=>m (by rw[i,e]));rw[hd,KU]at f;intro y c;rw[sT]at c;rcases c with rfl|c
    ·exact j
    ·exact kP j (f.1 y c)
  refine⟨o,KU.2 ⟨q,f⟩,fun a k b d=>?_⟩;rw[sT]at d;rcases d with rfl|d
  ·exact EL a k
  ·exact p a k b d
theorem EN{l:List ByteArray}{b:List (List UInt8)}(s:ByteArray)(h:Asc l)(c:(l.map (·.data.toList)).Perm b):((mK l s).map (·.data.toList)).Perm (Bf b s.data.toList):=by
 have d:s∈l↔s.data.toList∈b:=by
  rw[← c.mem_iff,List.mem_map];constructor
  ·intro a;exact⟨s,a,rfl⟩
  ·rintro⟨y,f,e⟩;rwa [← fM e]
 unfold mK Bf;by_cases a:s∈l
 ·rw[if_pos (fH h a),if_pos (d.1 a)];exact c
 ·rw[if_neg (fun e=>a (IJ e)),if_neg (fun e=>a (d.2 e)),Jp,JX];refine List.perm_middle.trans ?_
  rw[← Jp,NB];exact(List.Perm.cons _ c).trans (List.perm_append_singleton _ _).symm
theorem wR(l a:List ByteArray)(b:List (List UInt8))(h:Asc a)(c:(a.map (·.data.toList)).Perm b) :
  Asc (l.foldl mK a)∧((l.foldl mK a).map (·.data.toList)).Perm ((l.map (·.data.toList)).foldl Bf b):=by
 induction l generalizing a b with
 |nil=>exact⟨h,c⟩
 |cons s r d=>exact d _ _ (Gn s h) (EN s h c)
theorem iE(l:List ByteArray):Asc (dV l):=(wR l [] [] List.Pairwise.nil (NV _)).1
theorem Bi(a:List Fct):(bI a).map (·.data.toList)=cX a:=by
 induction a with
 |nil=>rfl
 |cons f r b=>
  have c:bI (f::r)=f.p::f.q::bI r:=by simp[bI]
  have d:cX (f::r)=f.p.data.toList::f.q.data.toList::cX r:=by simp[cX]
  rw[c,d,JX,JX,b]
theorem fN(a:List Fct):(dV (bI a)).length=dU (cX a):=by have h:=(wR (bI a) [] [] List.Pairwise.nil (NV _)).2.length_eq;rw[List.length_map,Bi]at h;exact h
theorem jU:(hE.info? 48).map (fun i=>(i.zero,i.size,i.bytes))=some (some (.agg #[.int .i64 0,.string ⟨#[]⟩,.string ⟨#[]⟩]),3,40):=by kernel_rfl
def aY(a:List Fct):List sA:=a.flatMap fun f=>[.int .i64 f.k,.string f.p,.string f.q]
theorem dA(a:List Fct):(aY a).length=a.length*3:=by
 induction a with
 |nil=>rfl
 |cons f r b=>
  have:aY (f::r)=.int .i64 f.k :: .string f.p :: .string f.q::aY r:=by simp[aY]
  rw[this];simp[b];omega
theorem mL(a:List Fct)(i:Nat)(k:Int)(p q:ByteArray)(h:a[i]?=some ⟨k,p,q⟩) :
  (aY a)[i*3]?=some (.int .i64 k)∧(aY a)[i*3+1]?=some (.string p)∧(aY a)[i*3+2]?=some (.string q):=by
 induction a generalizing i with
 |nil=>simp at h
 |cons f r b=>
  have e:aY (f::r)=.int .i64 f.k :: .string f.p :: .string f.q::aY r:=by simp[aY]
  rw[e];cases i with
  |zero=>simp at h;subst h;exact⟨rfl,rfl,rfl⟩
  |succ i=>
   have:=b i (by simpa using h);have c:(i+1)*3=i*3+1+1+1:=by omega
   rw[c];simpa using this
theorem tW(b:List Fct):∀u∈aY b,u.oneCell'=true:=by intro u c;obtain⟨f,_,a⟩:=List.mem_flatMap.1 c;simp at a;rcases a with rfl|rfl|rfl<;>rfl
theorem nJ(a:List Fct)(f:Fct):aY (a++[f])=aY a++[.int .i64 f.k,.string f.p,.string f.q]:=by simp[aY]
theorem fG.cells{b g:Nat}{a:List Fct}{w:vF}(h:fG b g a w):∀j u,(aY a)[j]?=some u→w.cell? ((⟨b,g,none⟩:Addr).add j)=some u:=by
 intro j u c;have m:=aK c;rw[dA]at m;rw[Addr.add_lit];obtain⟨⟨k,p,q⟩,l⟩:∃f,a[j / 3]?=some f:=⟨_,hZ (by omega)⟩;obtain⟨n,o,r⟩:=h _ _ _ _ l;obtain⟨s,t,x⟩:=mL a _ _ _ _ l;have d:j % 3=0∨j % 3=1∨j % 3=2:=by omega
 rcases d with d|d|d
 ·have e:j=j / 3*3:=by omega
  generalize j / 3=i at *;subst e;rw[← c,s];exact n
 ·have e:j=j / 3*3+1:=by omega
  generalize j / 3=i at *;subst e;rw[← c,t];exact o
 ·have e:j=j / 3*3+2:=by omega
  generalize j / 3=i at *;subst e;rw[← c,x];exact r
theorem dY{w:vF}{B:Nat}{v:sA}{a:List Fct}(h:w.ownsRow B 48 3 v a.length (aY a)):cV v a w:=by
 rcases h.2 with⟨rfl,c⟩|⟨g,l,y,rfl,_,d,m,_,z,n⟩
 ·refine⟨none,0,by rw[c],by omega,fun _=>rfl,fun o=>?_⟩;exact absurd (List.length_eq_zero_iff.1 c) o
 ·refine⟨some ⟨g,0,none⟩,l,rfl,m,(fun h=>by cases h),fun _=>⟨g,0,rfl,aB d,?_⟩⟩;intro i k p q e;have A:=aK e;obtain⟨r,s,t⟩:=mL a _ _ _ _ e;have b:∀j u,j<a.length*3→(aY a)[j]?=some u→w.cell? ⟨g,0+j,none⟩=some u:=by
   intro j u x f;rw[Nat.zero_add,aC d];rw[← n,List.getElem?_take,if_pos x]at f;simpa using f
  exact⟨b _ _ (by omega) r,b _ _ (by omega) s,b _ _ (by omega) t⟩
theorem Bj(v:sA)(k:Int)(p q:ByteArray)(w:vF)(h:12<p.size∨12<q.size)(a:p.size≤IU)(b:q.size≤IU) :
  I5 hE 52 #[v,.agg #[.int .i64 k,.string p,.string q]] w fun e w'=>e=.returned (.int .i64 5)∧Below w.heap.size w w':=by
 unfold IU at a b;by_cases c:12<p.size
 ·go_enter Ln,K6
  go_wp2;go_ret
  exact⟨rfl,(Below.refl _ _).alloc (gO _) _⟩
 ·have d:12<q.size:=by omega
  go_enter Ln,K6
  go_wp2;go_ret
  exact⟨rfl,(Below.refl _ _).alloc (gO _) _⟩
theorem Bk(ao:Option Addr)(n cap:Nat)(k:Int)(p q:ByteArray)(w:vF)(h1:p.size≤12)(h2:q.size≤12)(b:120≤n)(a:n≤IU) :
  I5 hE 52 #[.slice ao n cap,.agg #[.int .i64 k,.string p,.string q]] w fun e w'=>e=.returned (.int .i64 6)∧Below w.heap.size w w':=by
 unfold IU at a;go_enter Ln,K6
 go_wp2;go_ret
 exact⟨rfl,(Below.refl _ _).alloc (gO _) _⟩
theorem eU(w:vF)(a b c:sA)(t:TypeId):∀j u,[a,b,c][j]?=some u→(w.alloc (.cells #[a,b,c] t)).cell? ((⟨w.heap.size,0,none⟩:Addr).add j)=some u:=by intro j u d;rw[Addr.add_lit,Nat.zero_add,aC (aD w _)];simpa using d
theorem Bl(b l cap:Nat)(a:List Fct)(k:Int)(p q:ByteArray)(w:vF)(h1:p.size≤12)(h2:q.size≤12)(Y:a.length<120)(R:b<w.heap.size)(x:fG b l a w) :
  I5 hE 52 #[.slice (some ⟨b,l,none⟩) a.length cap,.agg #[.int .i64 k,.string p,.string q]] w fun e w'=>e=.returned (.int .i64 (cH a ⟨k,p,q⟩))∧Below w.heap.size w w':=by
 obtain⟨y,z,A,B,C⟩:=info_parts jU;have m:Below w.heap.size w (w.alloc (.cells #[.int .i64 k,.string p,.string q] 48)):=(Below.refl _ _).alloc (gO _) _;have D:=aA (x.below m R);clear x;go_enter Ln,K6
 go_wp2_with (first|(at_builtin;refine Jg _ rfl _ _ 36 rfl (w.heap.size+1) 48 y (.agg #[.int .i64 0,.string ⟨#[]⟩,.string ⟨#[]⟩]) 3 40 JN z A B C rfl (by decide) _ _ _ rfl (JW _ _ _ _) ⟨b,l,none⟩ a.length cap (aY a) rfl (dA a) (iX D).cells (tW a) ?c3 ?c4 ?c5 ?_)|go_in)
 case c3=>unfold IU;omega
 case c4=>omega
 case c5=>simp
 intro Z c n o _;have d:c.heap[w.heap.size]?=some (.cells #[.int .i64 k,.string p,.string q] 48 (0,0)):=(o.block _ (by simp) (by simp[Jh])).trans (aD _ _);have c0:c.cell? ⟨w.heap.size,0,none⟩=some (.int .i64 k):=by rw[aC d];rfl
 have c1:c.cell? ⟨w.heap.size,1,none⟩=some (.string p):=by rw[aC d];rfl
 have c2:c.cell? ⟨w.heap.size,2,none⟩=some (.string q):=by rw[aC d];rfl
 have E:Below w.heap.size w c:=m.grown o (by simp) (fun j r=>by cases r);have hz:=aB d;clear o d D m;go_wp2_with (first|(at_builtin;refine Jg _ rfl _ _ 36 rfl (w.heap.size+1) 48 y (.agg #[.int .i64 0,.string ⟨#[]⟩,.string ⟨#[]⟩]) 3 40 JN z A B C rfl (by decide) _ _ _ rfl (n.alloc _) ⟨c.heap.size,0,none⟩ 1 1 [.int .i64 k,.string p,.string q] rfl rfl (eU _ _ _ _ _) ?c6 ?c7 ?c8 ?c9 ?_)|go_in)
 case c6=>intro a0 F;simp at F;rcases F with rfl|rfl|rfl<;>rfl
 case c7=>unfold IU;omega
 case c8=>omega
 case c9=>simp;omega
 intro G H I J _;have s:(a++[⟨k,p,q⟩]:List Fct).length=a.length+1:=by simp
 have K:H.ownsRow (w.heap.size+1) 48 3 G (a++[⟨k,p,q⟩]:List Fct).length (aY (a++[⟨k,p,q⟩])):=by rw[s,nJ];exact I
 have L:=aA (dY K);have t:Below w.heap.size w H:=(E.alloc (by omega) _).grown J (by simp;omega) (fun j r=>Nat.le_of_succ_le (n.lt j r).1);clear n I K J E;go_wp2_with fail
 refine(oG G (a++[⟨k,p,q⟩]) _ (by omega) (iX L)).mono ?_
 rintro e S ⟨T,rfl,g⟩;have u:=fN (a++[⟨k,p,q⟩]);obtain⟨M,N,O⟩:∃M N,T=.slice M (dU (cX (a++[⟨k,p,q⟩]))) N:=by
  have P:=g.own;rw[u]at P;rcases P.2 with⟨h,U⟩|⟨a1,cap,a2,h,_⟩
  ·exact⟨none,0,by rw[h,U]⟩
  ·exact⟨_,_,h⟩
 have a3:dU (cX (a++[⟨k,p,q⟩]))≤2*(a.length+1):=by have:=g.short;rw[u,s]at this;exact this
 have V:Below w.heap.size w S:=t.trans (g.blw.mono (by have:=t.size;omega));have X:Hid (cH a ⟨k,p,q⟩=if 40<dU (cX (a++[⟨k,p,q⟩]))then 7 else 0):=by
  have Q:¬(12<p.size∨12<q.size):=by omega
  show _=_;by_cases i:40<dU (cX (a++[⟨k,p,q⟩]))
  ·rw[jS (f:=⟨k,p,q⟩) Q (by omega) i,if_pos i]
  ·rw[pY (f:=⟨k,p,q⟩) Q (by omega) i,if_neg i]
 rw[O];clear g u O L t s;generalize dU (cX (a++[⟨k,p,q⟩]))=a4 at *;go_wp2;all_goals
  go_ret
  refine⟨sU ?_,V⟩;rw[X.out];first|(rw[if_pos (by omega)];done)|(rw[if_neg (by omega)];done)
theorem zM(a:Addr)(cap:Nat)(k:Int)(p q:ByteArray)(w:vF)(h1:p.size≤12)(h2:q.size≤12) :
  I5 hE 52 #[.slice (some a) 0 cap,.agg #[.int .i64 k,.string p,.string q]] w fun e w'=>e=.returned (.int .i64 (cH [] ⟨k,p,q⟩))∧Below w.heap.size w w':=by
 obtain⟨r,s,t,x,y⟩:=info_parts jU;have z:Below w.heap.size w (w.alloc (.cells #[.int .i64 k,.string p,.string q] 48)):=(Below.refl _ _).alloc (gO _) _;go_enter Ln,K6
 go_wp2_with (first|(at_builtin;refine Jg _ rfl (.tmp 20) (.tmp 21) 36 rfl (w.heap.size+1) 48 r (.agg #[.int .i64 0,.string ⟨#[]⟩,.string ⟨#[]⟩]) 3 40 JN s t x y rfl (by decide) _ _ _ rfl (JW _ _ _ _) a 0 cap [] rfl rfl (fun j u h=>by simp at h) (fun u h=>by simp at h) ?c3 ?c4 ?c5 ?_)|go_in)
 case c3=>unfold IU;omega
 case c4=>omega
 case c5=>simp
 intro U b A l _;have c:b.heap[w.heap.size]?=some (.cells #[.int .i64 k,.string p,.string q] 48 (0,0)):=(l.block _ (by simp) (by simp[Jh])).trans (aD _ _);have V:b.cell? ⟨w.heap.size,0,none⟩=some (.int .i64 k):=by rw[aC c];rfl
 have X:b.cell? ⟨w.heap.size,1,none⟩=some (.string p):=by rw[aC c];rfl
 have Y:b.cell? ⟨w.heap.size,2,none⟩=some (.string q):=by rw[aC c];rfl
 have B:Below w.heap.size w b:=z.grown l (by simp) (fun j m=>by cases m);have Z:=aB c;clear l c z;go_wp2_with (first|(at_builtin;refine Jg _ rfl _ _ 36 rfl (w.heap.size+1) 48 r (.agg #[.int .i64 0,.string ⟨#[]⟩,.string ⟨#[]⟩]) 3 40 JN s t x y rfl (by decide) _ _ _ rfl (A.alloc _) ⟨b.heap.size,0,none⟩ 1 1 [.int .i64 k,.string p,.string q] rfl rfl (eU _ _ _ _ _) ?c6 ?c7 ?c8 ?c9 ?_)|go_in)
 case c6=>intro u C;simp at C;rcases C with rfl|rfl|rfl<;>rfl
 case c7=>unfold IU;omega
 case c8=>omega
 case c9=>simp;omega
 intro D E F G _;have H:([⟨k,p,q⟩]:List Fct).length=0+1:=by simp
 have I:E.ownsRow (w.heap.size+1) 48 3 D ([⟨k,p,q⟩]:List Fct).length (aY ([⟨k,p,q⟩])):=by exact F
 have J:=aA (dY I);have n:Below w.heap.size w E:=(B.alloc (by omega) _).grown G (by simp;omega) (fun j m=>by cases m);clear A F I G B;go_wp2_with fail
 refine(oG D ([⟨k,p,q⟩]) _ (by omega) (iX J)).mono ?_
 rintro e P ⟨Q,rfl,d⟩;have o:=fN ([⟨k,p,q⟩]);obtain⟨K,L,M⟩:∃K L,Q=.slice K (dU (cX ([⟨k,p,q⟩]))) L:=by
  have N:=d.own;rw[o]at N;rcases N.2 with⟨h,R⟩|⟨g,cap,a0,h,_⟩
  ·exact⟨none,0,by rw[h,R]⟩
  ·exact⟨_,_,h⟩
 have a1:dU (cX ([⟨k,p,q⟩]))≤2*(0+1):=by have:=d.short;rw[o,H]at this;exact this
 have S:Below w.heap.size w P:=n.trans (d.blw.mono (by have:=n.size;omega));have T:Hid (cH [] ⟨k,p,q⟩=if 40<dU (cX ([⟨k,p,q⟩]))then 7 else 0):=by
  have O:¬(12<p.size∨12<q.size):=by omega
  show _=_;by_cases i:40<dU (cX ([⟨k,p,q⟩]))
  ·rw[jS (f:=⟨k,p,q⟩) O (by simp) i,if_pos i]
  ·rw[pY (f:=⟨k,p,q⟩) O (by simp) i,if_neg i]
 rw[M];clear d o M J n H;generalize dU (cX ([⟨k,p,q⟩]))=a2 at *;go_wp2;all_goals
  go_ret
  refine⟨sU ?_,S⟩;rw[T.out];first|(rw[if_pos (by omega)];done)|(rw[if_neg (by omega)];done)
theorem Dl(k:Int)(p q:ByteArray)(w:vF)(h1:p.size≤12)(h2:q.size≤12) :
  I5 hE 52 #[.slice none 0 0,.agg #[.int .i64 k,.string p,.string q]] w fun e w'=>e=.returned (.int .i64 (cH [] ⟨k,p,q⟩))∧Below w.heap.size w w':=by
 obtain⟨l,m,H,I,J⟩:=info_parts jU;have n:Below w.heap.size w (w.alloc (.cells #[.int .i64 k,.string p,.string q] 48)):=(Below.refl _ _).alloc (gO _) _;go_enter Ln,K6
 have Q:w.heap.size<(w.alloc (.cells #[.int .i64 k,.string p,.string q] 48)).heap.size:=by simp
 have o:(w.alloc (.cells #[.int .i64 k,.string p,.string q] 48)).ownsRow (w.heap.size+1) 48 3 (.slice none 0 0) 0 []:=JW _ _ _ _;go_wp2_with (first|(at_builtin;refine wpList_append_own_none rfl (.tmp 20) (.tmp 21) 36 rfl (w.heap.size+1) 48 l 3 JN m _ _ _ rfl (JW _ _ _ _) rfl ?_)|(at_builtin;refine Jg _ rfl (.tmp 23) (.tmp 25) 36 rfl (w.heap.size+1) 48 l (.agg #[.int .i64 0,.string ⟨#[]⟩,.string ⟨#[]⟩]) 3 40 JN m H I J rfl (by decide) (.slice none 0 0) 0 [] rfl (o.alloc _) ⟨(w.alloc (.cells #[.int .i64 k,.string p,.string q] 48)).heap.size,0,none⟩ 1 1 [.int .i64 k,.string p,.string q] (by simp[Act.eval]) rfl (eU _ _ _ _ _) ?c6 ?c7 ?c8 ?c9 ?_)|go_in)
 case c6=>intro u r;simp at r;rcases r with rfl|rfl|rfl<;>rfl
 case c7=>unfold IU;omega
 case c8=>omega
 case c9=>simp
 intro s t x y _;have z:([⟨k,p,q⟩]:List Fct).length=0+1:=by simp
 have A:t.ownsRow (w.heap.size+1) 48 3 s ([⟨k,p,q⟩]:List Fct).length (aY ([⟨k,p,q⟩])):=by exact x
 have B:=aA (dY A);have c:Below w.heap.size w t:=(n.alloc (by omega) _).grown y (by simp;omega) (fun j K=>by cases K);clear x A y n o;go_wp2_with fail
 refine(oG s ([⟨k,p,q⟩]) _ (by omega) (iX B)).mono ?_
 rintro e L ⟨M,rfl,a⟩;have i:=fN ([⟨k,p,q⟩]);obtain⟨C,D,E⟩:∃C D,M=.slice C (dU (cX ([⟨k,p,q⟩]))) D:=by
  have F:=a.own;rw[i]at F;rcases F.2 with⟨h,N⟩|⟨g,R,S,h,_⟩
  ·exact⟨none,0,by rw[h,N]⟩
  ·exact⟨_,_,h⟩
 have T:dU (cX ([⟨k,p,q⟩]))≤2*(0+1):=by have:=a.short;rw[i,z]at this;exact this
 have O:Below w.heap.size w L:=c.trans (a.blw.mono (by have:=c.size;omega));have P:Hid (cH [] ⟨k,p,q⟩=if 40<dU (cX ([⟨k,p,q⟩]))then 7 else 0):=by
  have G:¬(12<p.size∨12<q.size):=by omega
  show _=_;by_cases b:40<dU (cX ([⟨k,p,q⟩]))
  ·rw[jS (f:=⟨k,p,q⟩) G (by simp) b,if_pos b]
  ·rw[pY (f:=⟨k,p,q⟩) G (by simp) b,if_neg b]
 rw[E];clear a i E B c z;generalize dU (cX ([⟨k,p,q⟩]))=d at *;go_wp2;all_goals
  go_ret
  refine⟨sU ?_,O⟩;rw[P.out];first|(rw[if_pos (by omega)];done)|(rw[if_neg (by omega)];done)
theorem wS(v:sA)(c:List Fct)(k:Int)(p q:ByteArray)(w:vF)(n:c.length≤IU)(o:cV v c w)(r:p.size≤IU)(s:q.size≤IU) :
  I5 hE 52 #[v,.agg #[.int .i64 k,.string p,.string q]] w fun e w'=>e=.returned (.int .i64 (cH c ⟨k,p,q⟩))∧Below w.heap.size w w':=by
 by_cases g:12<p.size∨12<q.size
 ·refine(Bj v k p q w g r s).mono ?_
  rintro e w' ⟨rfl,d⟩;exact⟨by rw[jQ (f:=⟨k,p,q⟩) g],d⟩
 ·obtain⟨j,i,rfl,y,t,h⟩:=o;by_cases l:120≤c.length
  ·refine(Bk j c.length i k p q w (by omega) (by omega) l n).mono ?_
   rintro e w' ⟨rfl,d⟩;exact⟨by rw[jR (f:=⟨k,p,q⟩) g l],d⟩
  ·by_cases m:c=[]
   ·subst m;cases j with
    |none=>have:=t rfl;subst this;exact Dl k p q w (by omega) (by omega)
    |some a=>exact zM a i k p q w (by omega) (by omega)
   ·obtain⟨b,u,rfl,d,x⟩:=h m;exact Bl b u i c k p q w (by omega) (by omega) (by omega) d x
end
section
open Go.RowKit
theorem bV{α:Type}{l:List α}{i:Nat}{x:α}(h:l[i]?=some x):i<l.length:=(List.getElem?_eq_some_iff.1 h).1
structure RowD where
 name:ByteArray
 to:List ByteArray
def zN(a b:ByteArray):Bool:=Jc a.toList b.toList || a.toList == b.toList
theorem CQ(a b:ByteArray):zN a b=!cK b a:=by
 unfold zN;cases h:cK b a
 ·cases c:Jc a.toList b.toList
  ·by_cases e:a=b
   ·subst e;simp
   ·have:=rT (x:=a) (y:=b) c e;rw[h]at this;cases this
  ·simp
 ·have d:cK a b=false:=by
   cases d:cK a b
   ·rfl
   ·have:=kP h d;rw[jB]at this;cases this
  have c:(a.toList == b.toList)=false:=by rw[beq_eq_false_iff_ne];intro e;have f:a=b:=fM (by rwa [JV,JV]at e);rw[f,jB]at h;cases h
  have g:Jc a.toList b.toList=false:=d;simp[c,g]
def gA:List ByteArray→Bool
 | []=>true
 | [_]=>true
 |a::b::r=>cK a b && gA (b::r)
theorem Dm(l:List ByteArray)(a b:ByteArray):gA (l++[a,b])=(gA (l++[a]) && cK a b):=by
 induction l with
 |nil=>simp[gA]
 |cons x r c=>
  cases r with
  |nil=>simp[gA]
  |cons y s=>have d:(x::y::s)++[a,b]=x::y::(s++[a,b]):=rfl;have e:(x::y::s)++[a]=x::y::(s++[a]):=rfl;rw[d,e];simp only[gA];have f:gA (y::(s++[a,b]))=(gA (y::(s++[a])) && cK a b):=c;rw[f,Bool.and_assoc]
theorem sQ{l:List ByteArray}{k:Nat}(h:gA (l.take k)=false):gA l=false:=by
 induction l generalizing k with
 |nil=>simp at h;rw[h]
 |cons x r a=>
  cases k with
  |zero=>simp[gA]at h
  |succ k=>
   cases r with
   |nil=>simp[gA]at h
   |cons y s=>
    cases k with
    |zero=>simp[gA]at h
    |succ k=>
     have e:(x::y::s).take (k+1+1)=x::y::s.take k:=rfl;rw[e]at h;simp only[gA,Bool.and_eq_false_iff]at h ⊢;rcases h with h|h
     ·exact .inl h
     ·exact .inr (a (k:=k+1) h)
theorem wT{l:List ByteArray}{k:Nat}{a b:ByteArray}(c:l[k]?=some a)(d:l[k+1]?=some b):gA (l.take (k+1+1))=(gA (l.take (k+1)) && cK a b):=by rw[bG d,bG c,List.append_assoc];exact Dm _ _ _
theorem zO(l:List ByteArray):gA (l.take 1)=true:=by cases l<;>rfl
def eS(s:ByteArray):Bool:=decide (12<s.size)
def isN(s:ByteArray):Bool:=bP s.data.toList
def dC(r:RowD):Bool:=isN r.name && r.to.all isN
def fO(r:RowD):Bool:=eS r.name || r.to.any eS
def cE(r:RowD)(ahead:ByteArray):Int:=
 if dC r && gA r.to then(if fO r then 5 else if zN r.name ahead then 4 else 0)else 4
def eP:List ByteArray→List UInt8
 | []=>[]
 |s::r=>32::s.data.toList++eP r
def jC(r:RowD):List UInt8:=r.name.data.toList++58::(eP r.to++[10])
theorem nK(l:List ByteArray)(s:ByteArray):eP (l++[s])=eP l++32::s.data.toList:=by
 induction l with
 |nil=>simp[eP]
 |cons x r a=>simp[eP,a]
def aJ:List RowD→List UInt8
 | []=>[]
 |r::s=>jC r++aJ s
theorem gB(l:List RowD)(r:RowD):aJ (l++[r])=aJ l++jC r:=by
 induction l with
 |nil=>simp[aJ]
 |cons x s a=>simp[aJ,a]
theorem lA{l:List RowD}{k:Nat}:(aJ (l.take k)).length≤(aJ l).length:=by
 induction l generalizing k with
 |nil=>simp
 |cons x r a=>
  cases k with
  |zero=>simp[aJ]
  |succ k=>simp only[Mg,aJ,List.length_append];have:=a (k:=k);omega
def eD(ahead:ByteArray):Nat→List UInt8→List RowD→List UInt8 × Int × Int
 |_,a,[]=>if 25000<a.length then([],2,0)else(a,0,0)
 |i,a,r::s=>if cE r ahead=0 then eD r.name (i+1) (a++jC r) s else([],cE r ahead,(i:Int)+1)
def iQ:List RowD→ByteArray
 | []=>⟨#[]⟩
 | [r]=>r.name
 |_::r::s=>iQ (r::s)
theorem lB(l:List RowD)(r:RowD):iQ (l++[r])=r.name:=by
 induction l with
 |nil=>rfl
 |cons x s a=>
  cases s with
  |nil=>rfl
  |cons y t=>exact a
def tX(b a:Nat)(ss:List ByteArray)(w:vF):Prop:=∀i s,ss[i]?=some s→w.cell? ⟨b,a+i,none⟩=some (.string s)
def cY(v:sA)(ss:List ByteArray)(w:vF):Prop:=
 ∃a c,v=.slice a ss.length c∧ss.length≤c∧(a=none→c=0)∧(ss≠[]→∃b d,a=some ⟨b,d,none⟩∧b<w.heap.size∧tX b d ss w)
def rU(ss:List ByteArray):Prop:=∀s∈ss,s.size≤IU
theorem tX.below{b a:Nat}{ss:List ByteArray}{w w':vF}(h:tX b a ss w){B:Nat}(c:Below B w w')(d:b<B):tX b a ss w':=
 fun i s e=>(c.cell (p:=⟨b,_,none⟩) d).trans (h i s e)
theorem cY.below{v:sA}{ss:List ByteArray}{w w':vF}(h:cY v ss w)(a:Below w.heap.size w w'):cY v ss w':=by obtain⟨d,e,rfl,f,g,h⟩:=h;refine⟨d,e,rfl,f,g,fun i=>?_⟩;obtain⟨b,j,rfl,c,k⟩:=h i;exact⟨b,j,rfl,Nat.lt_of_lt_of_le c a.size,k.below a c⟩
theorem aN{w w':vF}(h:Below w.heap.size w w')(n:Nat):Below w.heap.size w (w'.drewN n):=⟨h.os,h.tape,h.output,h.size,h.block⟩
theorem bT{α:Type}{l:List α}{i:Nat}{x:α}(h:l[i]?=some x):l≠[]:=by rintro rfl;simp at h
theorem nL(v:sA)(ss:List ByteArray)(w:vF)(t:ss.length≤IU)(u:cY v ss w) :
  I5 hE 102 #[v] w fun e w'=>e=.returned (.bool (gA ss))∧Below w.heap.size w w':=by
 obtain⟨C,D,rfl,_,_,p⟩:=u;have q:=aA p;clear p;unfold IU at t;go_enter Tryz.func102,Tryz.ntmps102
 go_wp2;go_loopw [3] (fun i wr=>∃j:Nat,i=.int .i64 ((j:Int)+1)∧(j+1≤ss.length∨j=0)∧Hid (gA (ss.take (j+1))=true)∧Below w.heap.size w wr) (fun i _=>ss.length-(intOf i).toNat)
 case atStart=>exact⟨0,rfl,Or.inr rfl,zO ss,Below.refl _ _⟩
 case round=>
  obtain⟨j,rfl,x,r,g⟩:=hrel;by_cases y:j+1<ss.length
  ·clear x;obtain⟨a,k⟩:∃a,ss[j]?=some a:=⟨_,hZ (by omega)⟩;obtain⟨c,m⟩:∃c,ss[j+1]?=some c:=⟨_,hZ y⟩;obtain⟨b,E,z,s,n⟩:=q.out (bT k);subst z;have F:=(n.below g s) j a k;have G:=(n.below g s) (j+1) c m;have d:=wT k m;rw[r.out,Bool.true_and]at d;have f:=CQ c a;clear k m n q;cases l:cK a c
   ·rw[l]at d f;have o:=aA (sQ d);have A:(Jc c.toList a.toList || c.toList == a.toList)=true:=f;clear d f l;go_wp2;go_quiet (fail)
    go_wp2;go_ret
    exact⟨by rw[o.out];rfl,aN g _⟩
   ·rw[l]at d f;have B:=aA d;have A:(Jc c.toList a.toList || c.toList == a.toList)=false:=f;clear d f l;go_wp2;go_quiet (fail)
    go_wp2;go_roundw
    case rel=>exact⟨j+1,by go_num,Or.inl (by omega),B.out,aN g _⟩
    case measure=>simp[intOf];omega
  ·have o:Hid (gA ss=true):=by
    have h:=r.out;rwa [List.take_of_length_le (by omega)]at h
   go_wp2;go_ret
   exact⟨by rw[o.out];rfl,g⟩
end
section
open Go.RowKit Go.Maps
theorem vL(va h:sA)(a:List Fct)(w:vF)(B:a.length≤1000000)(r:cV va a w)(s:cV h a w) :
  I5 hE 40 #[va,h] w fun e w'=>e=.returned (.bool true)∧Below w.heap.size w w':=by
 obtain⟨C,D,rfl,_,_,j⟩:=r;obtain⟨E,F,rfl,_,_,l⟩:=s;have t:=aA j;have u:=aA l;clear j l;have G:((a.length:Int) != (a.length:Int))=false:=by simp
 go_enter Tryz.func40,Tryz.ntmps40
 go_wp2;go_loopw [5] (fun d wr=>∃i:Nat,d=.int .i64 i∧i≤a.length∧Below w.heap.size w wr) (fun d _=>a.length-(intOf d).toNat)
 case atStart=>exact⟨0,rfl,IM _,Below.refl _ _⟩
 case round=>
  obtain⟨i,rfl,H,b⟩:=hrel;by_cases c:i<a.length
  ·obtain⟨⟨k,p,q⟩,g⟩:∃f,a[i]?=some f:=⟨_,hZ c⟩;have m:a≠[]:=by intro e;rw[e]at c;simp at c
   obtain⟨I,J,x,y,n⟩:=t.out m;obtain⟨K,L,z,A,o⟩:=u.out m;rw[x,z];obtain⟨M,N,O⟩:=(n.below b y) i k p q g;obtain⟨P,Q,R⟩:=(o.below b A) i k p q g;have S:=zJ k p q;have T:=wP;clear g n o;go_wp2;go_quiet (fail)
   go_wp2;go_roundw
   case rel=>exact⟨i+1,by go_num,c,aN b _⟩
   case measure=>simp[intOf];omega
  ·go_wp2;go_ret
   exact⟨rfl,b⟩
end
section
def gT(J:Nat→Act→vF→Prop)(Q:Exit→Act→vF→Prop):Exit→Act→vF→Prop
 | .goto l,a,w=>J l a w
 |e,a,w=>Q e a w
theorem mY{P:Program}{a:Act}{w:vF}{Q:Exit→Act→vF→Prop}{c:Code}(J:Nat→Act→vF→Prop)(i:Nat→Act→vF→Nat)
  (D:∀l a w,J l a w→∃rest,Ng c l=some (Code.skip.seq rest)∧rest.wp P (gT (fun l' f w'=>J l' f w'∧i l' f w'<i l a w) Q) a w)
  (first:(∀l a w,J l a w→∃rest,Ng c l=some (Code.skip.seq rest)∧rest.wp P (gT J Q) a w)→c.wp P (gT J Q) a w):(Code.scope c).wp P Q a w:=by
 have r:∀l a w,J l a w→∃rest,Ng c l=some rest∧rest.wp P (gT (fun l' f w'=>J l' f w'∧i l' f w'<i l a w) Q) a w:=by intro l a w j;obtain⟨rest,hr,s⟩:=D l a w j;exact⟨_,hr,wp_seq (wp_skip s)⟩
 have F:∀l a w,J l a w→∃rest,Ng c l=some (Code.skip.seq rest)∧rest.wp P (gT J Q) a w:=by
  intro l a w j;obtain⟨rest,hr,s⟩:=D l a w j;refine⟨rest,hr,Code.wp_mono ?_ s⟩;intro e f w' h;cases e
  case goto=>exact h.1
  all_goals exact h
 intro b k q;have G:∀(n l:Nat) (a:Act) (w:vF),i l a w=n→J l a w→∀rest,Ng c l=some rest→∃e f w',Q e f w'∧Arrives P (lone (b.at a (.code rest :: .inScope c::k)) q w) b k q e f w':=by
  intro n;induction n using Nat.strongRecOn with
  |_ n H=>
   intro l a w I j rest hr;obtain⟨K,L,M⟩:=r l a w j;have:K=rest:=KY (L.symm.trans hr);subst this;obtain⟨e,m,o,d,g⟩:=M b (.inScope c::k) q;cases e
   case goto l'=>obtain⟨E,N⟩:=d;obtain⟨t,p,_⟩:=r l' m o E;obtain⟨u,x,y,z,A⟩:=H _ (I ▸ N) l' m o rfl E t p;exact⟨u,x,y,z,.of_steps (g _ (by simp[gotoIn,p])) A⟩
   case normal=>exact⟨_,_,_,d,Steps.trans g (.one step_inScope)⟩
   case exit id=>exact⟨_,_,_,d,fun B C=>g B (by simp[exitTo,C])⟩
   all_goals exact⟨_,_,_,d,g⟩
 obtain⟨e,m,o,d,g⟩:=first F b (.inScope c::k) q
 cases e
 case goto l'=>obtain⟨t,p,_⟩:=r l' m o d;obtain⟨u,x,y,z,A⟩:=G _ l' m o rfl d t p;exact⟨u,x,y,z,.of_steps (.head ND (g _ (by simp[gotoIn,p]))) A⟩
 case normal=>exact⟨_,_,_,d,.head ND (Steps.trans g (.one step_inScope))⟩
 case exit id=>exact⟨_,_,_,d,fun B C=>.head ND (g B (by simp[exitTo,C]))⟩
 all_goals exact⟨_,_,_,d,.of_steps (.one ND) g⟩
end
section
open Go.RowKit Go.Maps
def lnI(s:ByteArray):Nat→List ByteArray × Nat
 |0=>([],0)
 |i+1=>if s.data.toList[i]?=some 10 then((lnI s i).1++[s.extract (lnI s i).2 i],i+1)else lnI s i
def cJ(s:ByteArray):List ByteArray:=(lnI s s.size).1++[s.extract (lnI s s.size).2 s.size]
theorem Bm(s:ByteArray)(i:Nat):(lnI s i).2≤i:=by
 induction i with
 |zero=>exact gO _
 |succ i a=>
  unfold lnI;split
  ·exact gO _
  ·omega
theorem CR(s:ByteArray)(i:Nat):(lnI s i).1.length≤i:=by
 induction i with
 |zero=>exact gO _
 |succ i a=>
  unfold lnI;split
  ·simp;omega
  ·omega
theorem CS(s:ByteArray)(i:Nat)(h:i<s.size):s.data.toList[i]?=some s[i]:=by rw[hZ (by simpa using h)];rfl
theorem Gp{s:ByteArray}{i:Nat}(h:i<s.size)(e:s[i].toNat=10):lnI s (i+1)=((lnI s i).1++[s.extract (lnI s i).2 i],i+1):=by have:s[i]=10:=Lz.1 (by simpa using e);simp only[lnI];rw[if_pos (by rw[CS s i h,this])]
theorem He{s:ByteArray}{i:Nat}(h:i<s.size)(e:¬s[i].toNat=10):lnI s (i+1)=lnI s i:=by simp only[lnI];rw[if_neg];rw[CS s i h];intro a;apply e;rw[KY a];rfl
def bE(s:ByteArray)(k:Nat):Int:=if h:k<s.size then(s[k].toNat:Int)else 0
theorem bL{s:ByteArray}{k:Nat}(h:k<s.size):bE s k=(s[k].toNat:Int):=by simp[bE,h]
def nM(s:ByteArray):Nat→Nat→Nat
 |0,k=>k
 |f+1,k=>if dE (bE s k)=true then nM s f (k+1)else k
def bX(s:ByteArray)(k:Nat):Nat:=nM s (s.size-k) k
theorem qC{s:ByteArray}{k:Nat}(h:s.size≤k):bX s k=k:=by unfold bX;rw[Nat.sub_eq_zero_of_le h];rfl
theorem sX{s:ByteArray}{k:Nat}(h:k<s.size)(a:dE (s[k].toNat:Int)=false):bX s k=k:=by unfold bX;obtain⟨f,b⟩:∃f,s.size-k=f+1:=⟨s.size-k-1,by omega⟩;rw[b];simp only[nM,bL h,a];simp
theorem qD{s:ByteArray}{k:Nat}(h:k<s.size)(a:dE (s[k].toNat:Int)=true):bX s k=bX s (k+1):=by
 unfold bX;obtain⟨f,b⟩:∃f,s.size-k=f+1:=⟨s.size-k-1,by omega⟩;have c:s.size-(k+1)=f:=by omega
 rw[b,c];simp only[nM,bL h,a];simp
theorem EO(s:ByteArray)(f k:Nat):k≤nM s f k:=by
 induction f generalizing k with
 |zero=>exact gO _
 |succ f a=>
  unfold nM;split
  ·have:=a (k+1);omega
  ·exact gO _
theorem mM(s:ByteArray)(k:Nat):k≤bX s k:=EO _ _ _
theorem EP(s:ByteArray)(f k:Nat):nM s f k≤k+f:=by
 induction f generalizing k with
 |zero=>exact gO _
 |succ f a=>
  unfold nM;split
  ·have:=a (k+1);omega
  ·omega
theorem CT{s:ByteArray}{k:Nat}(h:k≤s.size):bX s k≤s.size:=by have:=EP s (s.size-k) k;unfold bX;omega
def gU(c:Int):Nat:=
 if c=35 then 0 else if c=32∨c=9 then 1 else if c=61∨c=38∨c=42 then 2 else if bC c=true then 3 else 4
def gK(s:ByteArray):Nat→Nat→List ByteArray→Option (List ByteArray)
 |0,_,a=>some a
 |f+1,i,a=>
  if s.size≤i then some a
  else if gU (bE s i)=0 then some a
  else if gU (bE s i)=1 then gK s f (i+1) a
  else if gU (bE s i)=2 then gK s f (i+1) (a++[s.extract i (i+1)])
  else if gU (bE s i)=3 then gK s f (bX s (i+1)) (a++[s.extract i (bX s (i+1))])
  else none
def aU(s:ByteArray)(i:Nat)(a:List ByteArray):Option (List ByteArray):=gK s (s.size-i) i a
theorem jV(s:ByteArray)(f i:Nat)(a:List ByteArray)(h:s.size≤i):gK s f i a=some a:=by
 cases f with
 |zero=>rfl
 |succ f=>simp only[gK,if_pos h]
theorem rV(s:ByteArray)(f g i:Nat)(a:List ByteArray)(d:s.size-i≤f)(e:s.size-i≤g):gK s f i a=gK s g i a:=by
 induction f generalizing g i a with
 |zero=>rw[jV s 0 i a (by omega),jV s g i a (by omega)]
 |succ f b=>
  by_cases h:s.size≤i
  ·rw[jV s _ i a h,jV s _ i a h]
  ·obtain⟨g,rfl⟩:∃c,g=c+1:=⟨g-1,by omega⟩;have j:=mM s (i+1);unfold gK;rw[b g (i+1) a (by omega) (by omega),b g (i+1) (a++[s.extract i (i+1)]) (by omega) (by omega),b g (bX s (i+1)) _ (by omega) (by omega)]
theorem iR{s:ByteArray}{i:Nat}{a:List ByteArray}(h:i<s.size):aU s i a =
  if gU (s[i].toNat:Int)=0 then some a
  else if gU (s[i].toNat:Int)=1 then aU s (i+1) a
  else if gU (s[i].toNat:Int)=2 then aU s (i+1) (a++[s.extract i (i+1)])
  else if gU (s[i].toNat:Int)=3 then aU s (bX s (i+1)) (a++[s.extract i (bX s (i+1))])
  else none:=by
 obtain⟨f,b⟩:∃f,s.size-i=f+1:=⟨s.size-i-1,by omega⟩;have e:=mM s (i+1);have c:∀o,aU s (i+1) o=gK s f (i+1) o:=fun o=>rV _ _ _ _ _ (by omega) (by omega)
 have d:∀o,aU s (bX s (i+1)) o=gK s f (bX s (i+1)) o:=fun o=>rV _ _ _ _ _ (by omega) (by omega)
 simp only[c,d];unfold aU;rw[b];simp only[gK,bL h];rw[if_neg (by omega)]
theorem tY{s:ByteArray}{i:Nat}{a:List ByteArray}(h:s.size≤i):aU s i a=some a:=jV _ _ _ _ h
theorem zP{s:ByteArray}{i:Nat}{a:List ByteArray}(h:i<s.size)(k:gU (s[i].toNat:Int)=0):aU s i a=some a:=by simp[iR h,k]
theorem zQ{s:ByteArray}{i:Nat}{a:List ByteArray}(h:i<s.size)(k:gU (s[i].toNat:Int)=1):aU s i a=aU s (i+1) a:=by rw[iR h,k];simp
theorem zR{s:ByteArray}{i:Nat}{a:List ByteArray}(h:i<s.size)(k:gU (s[i].toNat:Int)=2):aU s i a=aU s (i+1) (a++[s.extract i (i+1)]):=by rw[iR h,k];simp
theorem zS{s:ByteArray}{i:Nat}{a:List ByteArray}(h:i<s.size)(k:gU (s[i].toNat:Int)=3):aU s i a=aU s (bX s (i+1)) (a++[s.extract i (bX s (i+1))]):=by rw[iR h,k];simp
theorem zT{s:ByteArray}{i:Nat}{a:List ByteArray}(h:i<s.size)(k:gU (s[i].toNat:Int)=4):aU s i a=none:=by rw[iR h,k];simp
theorem zU(s:ByteArray)(f i:Nat)(e ws:List ByteArray)(h:gK s f i e=some ws)(d:∀x∈e,x.size≤s.size):∀x∈ws,x.size≤s.size:=by
 have ext:∀a b,∀x∈e++[s.extract a b],x.size≤s.size:=by
  intro a b x c;rcases IK.1 c with c|c
  ·exact d x c
  ·rw[A1.1 c,Jw];omega
 induction f generalizing i e with
 |zero=>simp only[gK,Kh]at h;subst h;exact d
 |succ f g=>
  unfold gK at h;have j:∀(o:List ByteArray),(∀x∈o,x.size≤s.size)→∀a b,∀x∈o++[s.extract a b],x.size≤s.size:=by
   intro o d a b x c;rcases IK.1 c with c|c
   ·exact d x c
   ·rw[A1.1 c,Jw];omega
  repeat' split at h
  ·simp only[Kh]at h;subst h;exact d
  ·simp only[Kh]at h;subst h;exact d
  ·exact g _ _ h d ext
  ·exact g _ _ h (ext _ _) (j _ (ext _ _))
  ·exact g _ _ h (ext _ _) (j _ (ext _ _))
  ·cases h
theorem rW{s:ByteArray}{ws:List ByteArray}(h:aU s 0 []=some ws):∀x∈ws,x.size≤s.size:=zU s _ _ [] ws h (by simp)
theorem rX(c:Int):(c=35∧gU c=0)∨(c≠35∧(c=32∨c=9)∧gU c=1)∨(c≠35∧¬(c=32∨c=9)∧(c=61∨c=38∨c=42)∧gU c=2) ∨
  (c≠35∧¬(c=32∨c=9)∧¬(c=61∨c=38∨c=42)∧bC c=true∧gU c=3)∨(c≠35∧¬(c=32∨c=9)∧¬(c=61∨c=38∨c=42)∧bC c=false∧gU c=4):=by
 unfold gU;by_cases a:c=35
 ·simp[a]
 ·by_cases b:c=32∨c=9
  ·simp only[if_neg a,if_pos b];simp[a,b]
  ·by_cases d:c=61∨c=38∨c=42
   ·simp only[if_neg a,if_neg b,if_pos d];simp[a,b,d]
   ·cases e:bC c
    ·exact .inr (.inr (.inr (.inr ⟨a,b,d,rfl,by simp[if_neg a,if_neg b,if_neg d]⟩)))
    ·exact .inr (.inr (.inr (.inl ⟨a,b,d,rfl,by simp[if_neg a,if_neg b,if_neg d]⟩)))
def noB:ByteArray:=⟨#[]⟩
def pat:Nat→List ByteArray
 |0=>[noB,⟨#[61]⟩,⟨#[38]⟩,noB]
 |1=>[noB,⟨#[61]⟩,noB]
 |2=>[noB,⟨#[61]⟩,⟨#[42]⟩,noB]
 |3=>[⟨#[42]⟩,noB,⟨#[61]⟩,noB]
 |_=>[]
def mN(p x:ByteArray):Bool:=if p.size=0 then bP x.data.toList else decide (x=p)
def jA(ps ws:List ByteArray):Nat→Bool
 |0=>true
 |i+1=>jA ps ws i && mN (ps.getD i noB) (ws.getD i noB)
def gV(ps ws:List ByteArray):Nat→List ByteArray
 |0=>[]
 |i+1=>if(ps.getD i noB).size=0 then gV ps ws i++[ws.getD i noB]else gV ps ws i
theorem EQ(ps ws:List ByteArray)(i:Nat):(gV ps ws i).length≤i:=by
 induction i with
 |zero=>exact gO _
 |succ i a=>
  unfold gV;split
  ·simp;omega
  ·omega
theorem Bn{ps ws:List ByteArray}{i:Nat}{p x:ByteArray}(a:ps[i]?=some p)(b:ws[i]?=some x)(h:p.size=0):jA ps ws (i+1)=(jA ps ws i && bP x.data.toList)∧gV ps ws (i+1)=gV ps ws i++[x]:=by simp[jA,gV,a,b,mN,h]
theorem Bo{ps ws:List ByteArray}{i:Nat}{p x:ByteArray}(a:ps[i]?=some p)(b:ws[i]?=some x)(h:¬p.size=0):jA ps ws (i+1)=(jA ps ws i && decide (x=p))∧gV ps ws (i+1)=gV ps ws i:=by simp[jA,gV,a,b,mN,h]
def dG(ws:List ByteArray)(k:Nat):Bool:=decide ((pat k).length=ws.length) && jA (pat k) ws ws.length
def fC(ws:List ByteArray)(k:Nat):Fct:=⟨(k:Int)+1,(gV (pat k) ws ws.length).getD 0 noB,(gV (pat k) ws ws.length).getD 1 noB⟩
def noF:Fct:=⟨0,noB,noB⟩
def iS(ws:List ByteArray):Fct × Int:=
 if ws.length=0 then(noF,0)
 else if dG ws 0=true then(fC ws 0,0)
 else if dG ws 1=true then(fC ws 1,0)
 else if dG ws 2=true then(fC ws 2,0)
 else if dG ws 3=true then(fC ws 3,0)
 else(noF,4)
def cU(s:ByteArray):Fct × Int:=
 match aU s 0 []with
 |none=>(noF,4)
 |some a=>iS a
theorem mO{s:ByteArray}(h:aU s 0 []=none):cU s=(noF,4):=by simp[cU,h]
theorem jW{s:ByteArray}{ws:List ByteArray}(h:aU s 0 []=some ws):cU s=iS ws:=by simp[cU,h]
theorem Dn{ws:List ByteArray}(h:ws.length=0):iS ws=(noF,0):=by simp[iS,h]
theorem wU{ws:List ByteArray}(h:0<ws.length)(a:∀j,j<4→dG ws j=false):iS ws=(noF,4):=by simp only[iS,a 0 (by decide),a 1 (by decide),a 2 (by decide),a 3 (by decide)];rw[if_neg (by omega)];simp
theorem Bq{ws:List ByteArray}{k:Nat}(h:0<ws.length)(d:k<4)(a:∀j,j<k→dG ws j=false)(b:dG ws k=true):iS ws=(fC ws k,0):=by
 unfold iS;rw[if_neg (by omega)];have c:k=0∨k=1∨k=2∨k=3:=by omega
 rcases c with rfl|rfl|rfl|rfl
 ·simp[b]
 ·simp[a 0 (by decide),b]
 ·simp[a 0 (by decide),a 1 (by decide),b]
 ·simp[a 0 (by decide),a 1 (by decide),a 2 (by decide),b]
theorem Gq{ws:List ByteArray}{k:Nat}(c:k<4)(a:(pat k).length=ws.length):(gV (pat k) ws ws.length).length=2:=by
 have b:k=0∨k=1∨k=2∨k=3:=by omega
 rw[← a];rcases b with rfl|rfl|rfl|rfl<;>simp[pat,gV,noB,Jz]
def bH:List Fct→Nat→List ByteArray→List Fct × Int × Int
 |pre,_,[]=>(pre,0,0)
 |pre,n,l::r=>
  if 80<l.size then([],3,(n:Int)+1)
  else if(cU l).2≠0 then([],(cU l).2,(n:Int)+1)
  else if(cU l).1.k=0 then bH pre (n+1) r
  else if cH pre (cU l).1=0 then bH (pre++[(cU l).1]) (n+1) r
  else([],cH pre (cU l).1,(n:Int)+1)
def aW(s:ByteArray):List Fct × Int × Int:=if 6000<s.size then([],2,0)else bH [] 0 (cJ s)
theorem qE{pre:List Fct}{n:Nat}{l:ByteArray}{r:List ByteArray}(h:80<l.size):bH pre n (l::r)=([],3,(n:Int)+1):=by simp[bH,h]
theorem qF{pre:List Fct}{n:Nat}{l:ByteArray}{r:List ByteArray}(h:¬80<l.size){f:Fct}{e:Int}(a:cU l=(f,e))(b:e≠0):bH pre n (l::r)=([],e,(n:Int)+1):=by simp[bH,h,a,b]
theorem qG{pre:List Fct}{n:Nat}{l:ByteArray}{r:List ByteArray}(h:¬80<l.size){f:Fct}(a:cU l=(f,0))(b:f.k=0):bH pre n (l::r)=bH pre (n+1) r:=by simp[bH,h,a,b]
theorem rY{pre:List Fct}{n:Nat}{l:ByteArray}{r:List ByteArray}(h:¬80<l.size){f:Fct}(a:cU l=(f,0))(b:f.k≠0)(c:cH pre f=0):bH pre n (l::r)=bH (pre++[f]) (n+1) r:=by simp[bH,h,a,b,c]
theorem rZ{pre:List Fct}{n:Nat}{l:ByteArray}{r:List ByteArray}(h:¬80<l.size){f:Fct}(a:cU l=(f,0))(b:f.k≠0)(c:cH pre f≠0):bH pre n (l::r)=([],cH pre f,(n:Int)+1):=by simp[bH,h,a,b,c]
theorem zV(ps ws:List ByteArray)(M:Nat)(h:∀x∈ws,x.size≤M)(i:Nat):∀x∈gV ps ws i,x.size≤M:=by
 induction i with
 |zero=>simp[gV]
 |succ i c=>
  unfold gV;split
  ·intro x a;rcases IK.1 a with a|a
   ·exact c x a
   ·rw[A1.1 a];cases b:ws[i]? with
    |none=>simp[b,noB,Jz]
    |some y=>simp[b];exact h y (IJ b)
  ·exact c
theorem wV(l:List ByteArray)(M i:Nat)(h:∀x∈l,x.size≤M):(l.getD i noB).size≤M:=by
 cases a:l[i]? with
 |none=>simp[a,noB,Jz]
 |some y=>simp[a];exact h y (IJ a)
theorem nN(l:ByteArray):(∃f,cU l=(f,0)∧f.p.size≤l.size∧f.q.size≤l.size∧0≤f.k∧f.k≤4)∨cU l=(noF,4):=by
 cases b:aU l 0 []with
 |none=>exact .inr (mO b)
 |some c=>
  rw[jW b];have d:=rW b;have a:∀k,(fC c k).p.size≤l.size∧(fC c k).q.size≤l.size:=fun k=>⟨wV _ _ _ (zV _ _ _ d _),wV _ _ _ (zV _ _ _ d _)⟩
  unfold iS;split
  ·exact .inl ⟨noF,rfl,IM _,IM _,Int.le_refl _,by decide⟩
  ·split
   ·exact .inl ⟨_,rfl,(a 0).1,(a 0).2,by simp[fC],by simp[fC]⟩
   ·split
    ·exact .inl ⟨_,rfl,(a 1).1,(a 1).2,by simp[fC],by simp[fC]⟩
    ·split
     ·exact .inl ⟨_,rfl,(a 2).1,(a 2).2,by simp[fC],by simp[fC]⟩
     ·split
      ·exact .inl ⟨_,rfl,(a 3).1,(a 3).2,by simp[fC],by simp[fC]⟩
      ·exact .inr rfl
theorem iT(s:ByteArray):∀l∈cJ s,l.size≤s.size:=by
 have h:∀i,∀l∈(lnI s i).1,l.size≤s.size:=by
  intro i;induction i with
  |zero=>simp[lnI]
  |succ i b=>
   unfold lnI;split
   ·intro l a;rcases IK.1 a with a|a
    ·exact b l a
    ·rw[A1.1 a,Jw];omega
   ·exact b
 intro l a;rcases IK.1 a with a|a
 ·exact h _ l a
 ·rw[A1.1 a,Jw];omega
theorem jX(s:ByteArray):(cJ s).length≤s.size+1:=by have:=CR s s.size;simp[cJ];omega
theorem sB{pre:List Fct}{f:Fct}(h:cH pre f=0):f.p.size≤12∧f.q.size≤12∧pre.length<120:=by
 unfold cH at h;by_cases a:12<f.p.size∨12<f.q.size
 ·rw[if_pos a]at h;exact absurd h (by decide)
 ·rw[if_neg a]at h;by_cases b:120≤pre.length
  ·rw[if_pos b]at h;exact absurd h (by decide)
  ·omega
def lC(x:ByteArray):UInt8:=if bP x.data.toList=true then 110 else x.data.toList.headD 0
def aT(ws:List ByteArray):List UInt8:=ws.map lC
def gX(x:ByteArray):Bool:=bP x.data.toList
def eX(ws:List ByteArray):List ByteArray:=ws.filter gX
def iY(x:ByteArray):Prop:=bP x.data.toList=true∨x=⟨#[61]⟩∨x=⟨#[38]⟩∨x=⟨#[42]⟩
theorem Gr(s:ByteArray)(i:Nat)(h:i<s.size):s.extract i (i+1)=⟨#[s[i]]⟩:=by apply ByteArray.ext;rw[Lf];apply Array.toList_inj.1;rw[Mc,Lr];rw[KG (by simpa using h)];simp;rfl
theorem Do{s:ByteArray}{i:Nat}(h:i<s.size)(a:(s[i].toNat:Int)=61∨(s[i].toNat:Int)=38∨(s[i].toNat:Int)=42) :
  iY (s.extract i (i+1))∧gX (s.extract i (i+1))=false∧lC (s.extract i (i+1))=s[i]:=by
 rw[Gr s i h];have b:s[i]=61∨s[i]=38∨s[i]=42:=by
  rcases a with a|a|a
  ·exact .inl (Lz.1 (by simp;omega))
  ·exact .inr (.inl (Lz.1 (by simp;omega)))
  ·exact .inr (.inr (Lz.1 (by simp;omega)))
 rcases b with e|e|e<;>rw[e]
 ·exact⟨.inr (.inl rfl),by decide,by decide⟩
 ·exact⟨.inr (.inr (.inl rfl)),by decide,by decide⟩
 ·exact⟨.inr (.inr (.inr rfl)),by decide,by decide⟩
theorem tZ(s:ByteArray)(f k:Nat)(g:k+f=s.size):∀j,k≤j→j<nM s f k→dE (bE s j)=true:=by
 induction f generalizing k with
 |zero=>intro j c a;simp only[nM]at a;omega
 |succ f d=>
  intro j c a;unfold nM at a;by_cases b:dE (bE s k)=true
  ·rw[if_pos b]at a;by_cases e:j=k
   ·subst e;exact b
   ·exact d (k+1) (by omega) j (by omega) a
  ·rw[if_neg b]at a;omega
theorem Dp{s:ByteArray}{i:Nat}(h:i<s.size)(a:bC (s[i].toNat:Int)=true) :
  gX (s.extract i (bX s (i+1)))=true:=by
 have p:=mM s (i+1);have q:=CT (s:=s) (k:=i+1) h;have b:=tZ s (s.size-(i+1)) (i+1) (by omega);have d:∀j,i+1≤j→j<bX s (i+1)→dE (bE s j)=true:=b;generalize bX s (i+1)=k at *;have e:(s.extract i k).data.toList=s[i]::(s.data.toList.drop (i+1)).take (k-(i+1)):=by
  rw[Lf,Mc,Lr,KG (by simpa using h)];have f:k-i=(k-(i+1))+1:=by omega
  rw[f,Mg];rfl
 unfold gX;rw[e];simp only[bP,a,Bool.true_and,dH,List.all_eq_true];intro c g;obtain⟨j,l,m⟩:=List.mem_iff_getElem.1 g;simp at l;have n:i+1+j<s.size:=by omega
 have:=d (i+1+j) (by omega) (by omega);rw[bL n]at this;have o:c=s[i+1+j]:=by rw[← m];simp;rfl
 rw[o];exact this
def eM(a:List UInt8):Int × Bool:=
 if a=[]then(0,true)else if a=[110,61,38,110]then(1,true)else if a=[110,61,110]then(2,true)else if a=[110,61,42,110]then(3,true)else if a=[42,110,61,110]then(4,true)else(0,false)
theorem jY{x:ByteArray}(a:iY x):(lC x=110↔bP x.data.toList=true)∧(lC x=61↔x=⟨#[61]⟩)∧(lC x=38↔x=⟨#[38]⟩)∧(lC x=42↔x=⟨#[42]⟩):=by
 rcases a with h|rfl|rfl|rfl
 ·have b:lC x=110:=by unfold lC;rw[if_pos h]
  rw[b];refine⟨by simp[h],?_,?_,?_⟩
  ·constructor
   ·intro h;exact absurd h (by decide)
   ·rintro rfl;exact absurd h (by decide)
  ·constructor
   ·intro h;exact absurd h (by decide)
   ·rintro rfl;exact absurd h (by decide)
  ·constructor
   ·intro h;exact absurd h (by decide)
   ·rintro rfl;exact absurd h (by decide)
 ·decide
 ·decide
 ·decide
end
end Go.Proofs.YtiamlbhkiehilaaGreatDoor
