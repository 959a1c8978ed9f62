import Derived.Test.YtiamlbhkiehilaaGreatDoorKa01
import Derived.RangeFuncNested
import Derived.RangeFuncBound
import Derived.Shelf.RegionOpen
import Derived.OwnWalkIn
import Derived.LoopNIn
import Derived.LoopIn
open Array renaming getElem?_toList→Ke,getElem?_eq_some_iff→Jm
open Bool renaming eq_iff_iff→J8
open Go renaming World→vF,Calls→I5,Value→sA,TypeId→I1,u64_and_nat→Oy
open Go.Fence renaming wide→Kt
open Go.IntKind renaming u64→Kc,wrap_u64→JJ
open Go.Proofs.Tryz renaming prog→hE,underlying106→KM,underlying110→N3
open Go.RowKit renaming Hid→I3
open Go.Value renaming ownBlock→Jh
open Go.World renaming cell?_of_block→J3,size_alloc→IW
open List renaming getElem?_eq_getElem→hZ,mem_iff_getElem?→J0,getElem?_eq_some_iff→II,length_take→Ji,getElem?_take_of_lt→JM,getElem?_take_eq_none→M3,take_add_one→Oe,filter_append→Kr,filter_cons→Om,length_set→JD,getElem?_set_self→Kv,getElem?_set_ne→Jt,filter_eq_self→Mf,mem_of_getElem?→IJ,replicate→A3,take_of_length_le→I6,getD_eq_getElem?_getD→E1,getElem?_eq_none→Ja,range→IQ,range_succ→Ko,mem_cons→sT,range_add→OO,filter_eq_nil_iff→Lx,nil_append→Mk,filter_congr→Mq,mem_map→Jf,mem_cons_self→Bx,flatMap_cons→Ls,append_nil→JK,append_assoc→JI,mem_append→IK,mem_singleton→A1,mem_filter→Li,length_append→A4
open Nat renaming zero_le→IM,mul_one→Jv,le_refl→gO,testBit_and→Le,testBit_two_pow_sub_succ→MU,testBit_lt_two_pow→KR,lt_of_lt_of_le→A2,pow_le_pow_right→Kx,lt_of_le_of_lt→JQ,and_le_left→LM,zero_testBit→Ox,eq_of_testBit_eq→Mb,testBit_two_pow→Mz,le_of_not_lt→Ki,lt_or_ge→MA,mul_comm→Ny,testBit_two_pow_mul_add→M4,two_pow_pos→LN,testBit_succ→Oz,le_mul_of_pos_right→Nr,le_trans→IH
namespace Go.Proofs.YtiamlbhkiehilaaGreatDoor
set_option maxRecDepth 100000
section
open Go.RowKit
theorem CI(m n a:Nat)(w:vF)(d:w.cell? ⟨a,0,none⟩=some (.int .u64 n)) :
  I5 hE 181 #[.int .u64 m,.pointer (some ⟨a,0,none⟩)] w fun e w'=>e=.returned (.bool (m == n))∧w'=w:=by
 have b:I3 ((((m:Nat):Int) == ((n:Nat):Int))=(m == n)):=aA (by rw[J8];simp;omega);go_enter Tryz.func181,Tryz.ntmps181
 go_wp2;go_ret
 exact⟨by rw[← b.out];rfl,rfl⟩
theorem vI(B a n:Nat)(v:sA)(xs:List Nat)(w:vF)(h:cI w B v xs)(A:xs.length≤1000)(b:w.cell? ⟨a,0,none⟩=some (.int .u64 n)) :
  I5 hE 202 #[v,.func (.func 181) #[] #[.pointer (some ⟨a,0,none⟩)]] w fun e w'=>(∃i:Nat,i<xs.length∧xs[i]?=some n∧(∀j,j<i→xs[j]?≠some n)∧e=.returned (.int .i64 i)∧w'=w)∨(n ∉ xs∧e=.returned (.int .i64 (-1))∧w'=w):=by
 obtain⟨C,D,rfl,p⟩:=h.form;have u:I3 (∀m:Nat,I5 hE 181 #[.int .u64 m,.pointer (some ⟨a,0,none⟩)] w fun e w'=>e=.returned (.bool (m == n))∧w'=w):=aA (fun m=>CI m n a w b);have y:=aA p;clear h b p;go_enter Tryz.func202,Tryz.ntmps202
 go_wp2;go_loopw [8] (fun f wr=>∃(i:Nat),f=.int .i64 i∧i≤xs.length∧wr=w∧I3 (∀j,j<i→xs[j]?≠some n)) (fun f _=>xs.length-(intOf f).toNat)
 case atStart=>exact⟨0,rfl,IM _,rfl,aA (fun j d=>by omega)⟩
 case round=>
  obtain⟨i,rfl,E,rfl,k⟩:=hrel;by_cases q:i<xs.length
  ·obtain⟨x,l⟩:∃x,xs[i]?=some x:=⟨_,hZ q⟩;obtain⟨g,rfl,F,_⟩:=y.out i x l;have r:=u.out x;have t:=aA l;clear l;go_wp2_with fail
   refine r.mono ?_
   clear r;rintro e H ⟨rfl,rfl⟩;by_cases o:x=n
   ·subst o;rw[beq_self_eq_true];go_wp2;go_ret
    exact .inl ⟨i,q,t.out,k.out,rfl,rfl⟩
   ·have b:(x == n)=false:=by simpa using o
    rw[b];go_wp2;go_roundw
    case rel=>
     refine⟨i+1,by go_num,by omega,(by first|rfl|trivial),aA (fun j d=>?_)⟩;by_cases e:j=i
     ·subst e;rw[t.out];intro e;injection e with e;exact o e
     ·exact k.out j (by omega)
    case measure=>simp[intOf];omega
  ·go_wp2;go_ret
   refine .inr ⟨fun z=>?_,rfl,rfl⟩;obtain⟨j,d⟩:=J0.1 z;have:=(II.1 d).1;exact k.out j (by omega) d
theorem vJ(g:Nat):∀(vs:List sA) (o:Nat) (w:vF) (a:Array sA) (T:I1),w.heap[g]?=some (.cells a T (0,0))→∃b,(w.setCells g o vs).heap[g]?=some (.cells b T (0,0))∧b.size=a.size∧(∀j,j<o→b[j]?=a[j]?)∧Kb [g] w (w.setCells g o vs):=by
 intro vs;induction vs with
 |nil=>exact fun o w a T h=>⟨a,h,rfl,fun _ _=>rfl,Kb.refl _ _⟩
 |cons v r d=>intro o w a T h;obtain⟨b,e,f,i,k⟩:=d (o+1) (w.setCell ⟨g,o,none⟩ v) _ T (aI h o v);refine⟨b,e,by simpa using f,fun j l=>?_,((Kb.refl [g] w).setCell (p:=⟨g,o,none⟩) (.inl (by simp)) v).trans k⟩;rw[i j (by omega),Array.getElem?_setIfInBounds,if_neg (by omega)]
theorem cI.cut{w:vF}{B g L cap i:Nat}{ys:List Nat}(h:cI w B (.slice (some ⟨g,0,none⟩) L cap) ys)(f:i≤ys.length)(vs:List sA):cI (w.setCells g i vs) B (.slice (some ⟨g,0,none⟩) i cap) (ys.take i)∧Kb [g] w (w.setCells g i vs):=by
 rcases h.1.2 with⟨e,_⟩|⟨D,E,k,e,l,m,F,o,H,p⟩
 ·cases e
 ·injection e with a q r;injection a with a;injection a with a;subst a q r;obtain⟨t,u,I,y,z⟩:=vJ g vs i w k _ m;have d:(ys.take i).length=i:=by rw[Ji];omega
  refine⟨⟨?_,fun x A=>h.2 x (List.mem_of_mem_take A)⟩,z⟩;rw[d];refine⟨by rw[fY,d];omega,.inr ⟨g,cap,t,rfl,l,u,by omega,o,by omega,?_⟩⟩;have C:dO (ys.take i)=(dO ys).take i:=by simp[dO,List.map_take]
  rw[C,← p,List.take_take,Jv,Jv,Nat.min_eq_left f];apply List.ext_getElem?;intro j;by_cases b:j<i
  ·rw[JM b,JM b,Ke,Ke,y j b]
  ·rw[M3 (by omega),M3 (by omega)]
theorem iD{xs:List Nat}{j x:Nat}(p:Nat→Bool)(a:xs[j]?=some x):(xs.take (j+1)).filter p=(xs.take j).filter p++(if p x then [x]else []):=by
 rw[Oe,a,Kr];congr 1
 simp[Om]
structure DfInv(w wr:World)(B g L cap n:Nat)(xs ys:List Nat)(i j:Nat):Prop where
 ij:i<j
 jl:j≤xs.length
 len:ys.length=xs.length
 own:cI wr B (.slice (some ⟨g,0,none⟩) L cap) ys
 hd:ys.take i=(xs.take j).filter (· != n)
 tl:∀k,j≤k→ys[k]?=xs[k]?
 kb:Kb [g] w wr
theorem DfInv.skip{w wr:vF}{B g L cap n:Nat}{xs ys:List Nat}{i j:Nat}(h:DfInv w wr B g L cap n xs ys i j)(a:xs[j]?=some n):DfInv w wr B g L cap n xs ys i (j+1):=by refine⟨by have:=h.ij;omega,(II.1 a).1,h.len,h.own,?_,fun k b=>h.tl k (by omega),h.kb⟩;rw[iD _ a,h.hd];simp
theorem DfInv.keep{w wr:vF}{B g L cap n:Nat}{xs ys:List Nat}{i j x:Nat}(h:DfInv w wr B g L cap n xs ys i j)(a:xs[j]?=some x)(b:x≠n)(d:x<18446744073709551616):DfInv w (wr.setCell ⟨g,i,none⟩ (.int .u64 (x:Int))) B g L cap n xs (ys.set i x) (i+1) (j+1):=by
 have l:=h.ij;have f:=(II.1 a).1;have m:=h.len;refine⟨by omega,f,by rw[JD];exact h.len,h.own.set _ _ d,?_,fun k o=>?_,h.kb.setCell (p:=⟨g,i,none⟩) (.inl (by simp)) _⟩
 ·rw[iD _ a,← h.hd];have e:(x != n)=true:=by simpa using b
  rw[e,if_pos rfl,Oe,Kv (by omega),List.take_set_of_le (gO _)];rfl
 ·rw[Jt (by omega)];exact h.tl k (by omega)
theorem tM(B f n:Nat)(v:sA)(xs:List Nat)(w:vF)(h:cI w B v xs)(U:xs.length≤1000)(m:w.heap[f]?=some (.cells #[.int .u64 n] 144 (0,0)))(V:v.ownBlock≠some f) :
  I5 hE 180 #[v,.func (.func 181) #[] #[.pointer (some ⟨f,0,none⟩)]] w fun e w'=>∃v',e=.returned v'∧cI w' B v' (xs.filter (· != n))∧Kb v.ownBlock.toList w w'∧(v'.ownBlock=v.ownBlock):=by
 have p:w.cell? ⟨f,0,none⟩=some (.int .u64 n):=by rw[aC m];rfl
 have L:=vI B f n v xs w h U p;have D:=aA h;obtain⟨X,o,rfl,b⟩:=h.form;have Y:=h.2;have M:=aA m;clear h b m p;go_enter Tryz.func180,Tryz.ntmps180
 go_wp2_with fail
 refine L.mono ?_
 clear L;rintro e q (⟨i,N,E,O,rfl,rfl⟩|⟨Z,rfl,rfl⟩)
 ·obtain⟨g,e,_,_⟩:∃g,X=some ⟨g,0,none⟩∧True∧True:=by
   obtain⟨_,_,e,b⟩:=D.out.form;injection e with e _ _;obtain⟨g,z,_⟩:=b i n E;exact⟨g,e.trans z,trivial,trivial⟩
  subst e;have a0:g≠f:=fun e=>V (by rw[e];rfl)
  have P:I3 (DfInv q q B g xs.length o n xs xs i (i+1)):=by
   refine aA ⟨by omega,N,rfl,D.out,?_,fun _ _=>rfl,Kb.refl _ _⟩;rw[iD _ E];have r:(xs.take i).filter (· != n)=xs.take i:=by rw[Mf];intro y d;obtain⟨j,F⟩:=J0.1 d;have Q:=(II.1 F).1;rw[Ji]at Q;rw[JM (by omega)]at F;have:=O j (by omega);rw[F]at this;simpa using this
   rw[r];simp
  clear E O;go_wp2;go_loopw [5,6] (fun iv H wr=>∃(k j:Nat) (l:List Nat),iv=.int .i64 k∧H=.int .i64 j∧k<j∧j≤xs.length∧I3 (DfInv q wr B g xs.length o n xs l k j)) (fun _ H _=>xs.length-(intOf H).toNat)
  case atStart=>exact⟨i,i+1,xs,rfl,by go_num,by omega,N,P⟩
  case round=>
   clear P;obtain⟨k,j,l,rfl,rfl,a6,Q,a⟩:=hrel;have I:wr.heap[f]?=some (.cells #[.int .u64 n] 144 (0,0)):=a.out.kb.heap M.out (by simp;exact fun e=>a0 e.symm);have p:wr.cell? ⟨f,0,none⟩=some (.int .u64 n):=by rw[aC I];rfl
   obtain⟨a7,a1,e,b⟩:=a.out.own.form;injection e with r z e3;subst r e3;have a2:=a.out.len;by_cases a3:j<xs.length
   ·obtain⟨x,u⟩:∃x,xs[j]?=some x:=⟨_,hZ a3⟩;obtain⟨A,e,a8,_⟩:=b j x (by rw[a.out.tl j (gO _)];exact u);cases e;obtain⟨y,d⟩:∃y,l[k]?=some y:=⟨_,hZ (by omega)⟩;obtain⟨A,e,a9,aa⟩:=b k y d;cases e;have a4:=Y x (IJ u);have R:=CI x n f wr p;have HS:I3 (x=n→DfInv q wr B g xs.length o n xs l k (j+1)):=aA (fun e=>a.out.skip (by rw[u,e]));have HK:I3 (x≠n→DfInv q (wr.setCell ⟨g,k,none⟩ (.int .u64 (x:Int))) B g xs.length o n xs (l.set k x) (k+1) (j+1)):=aA (fun e=>a.out.keep u e a4);clear a b I p z u d a2;go_wp2_with fail
    refine R.mono ?_
    clear R;rintro e w2 ⟨rfl,rfl⟩;by_cases C:x=n
    ·have m:(x == n)=true:=by simpa using C
     rw[m];go_wp2;go_roundw
     case rel=>refine⟨_,_,_,_,_,_,_,_,_,_,_,_,_,_,_,_,_,_,_,_,_,_,_,?_,rfl⟩;exact⟨k,j+1,l,rfl,by go_num,by omega,by omega,aA (HS.out C)⟩
     case measure=>simp[intOf];omega
    ·have m:(x == n)=false:=by simpa using C
     rw[m];go_wp2;go_roundw
     case rel=>refine⟨_,_,_,_,_,_,_,_,_,_,_,_,_,_,_,_,_,_,_,_,_,_,_,?_,rfl⟩;exact⟨k+1,j+1,_,by go_num,by go_num,by omega,by omega,aA (HK.out C)⟩
     case measure=>simp[intOf];omega
   ·have a5:j=xs.length:=by omega
    subst a5;have ab:∀J,(Builtin.clear_ #[106] J #[.slice (some ⟨g,k,none⟩) (xs.length-k) (o-k)]).run hE wr=.ok (.tuple #[]) (wr.setCells g k (A3 (xs.length-k) (.int .u64 0))):=by
     intro J;refine Lib.run_clear_slice wr _ _ J _ KM (fun w=>Tryz.zeroValue144 w) rfl rfl g k _ _ (by omega) (fun t ht=>?_) (fun t ht=>?_)
     ·obtain⟨y,d⟩:∃y,l[k+t]?=some y:=⟨_,hZ (by omega)⟩;obtain⟨A,e,K,_⟩:=b _ y d;cases e;rw[K];rfl
     ·obtain⟨y,d⟩:∃y,l[k+t]?=some y:=⟨_,hZ (by omega)⟩;obtain⟨A,e,_,K⟩:=b _ y d;cases e;exact K
    have S:I3 (cI (wr.setCells g k (A3 (xs.length-k) (.int .u64 0))) B (.slice (some ⟨g,0,none⟩) k o) (xs.filter (· != n))∧Kb [g] q (wr.setCells g k (A3 (xs.length-k) (.int .u64 0)))):=by obtain⟨T,c2⟩:=a.out.own.cut (i:=k) (by omega) (A3 (xs.length-k) (.int .u64 0));rw[a.out.hd,I6 (gO _)]at T;exact aA ⟨T,a.out.kb.trans c2⟩
    have ad:xs.length≤o:=by
     rcases a.out.own.1.2 with⟨e,_⟩|⟨A,a1,ae,e,_,_,h1,_⟩
     ·cases e
     ·injection e with _ e5 e6;omega
    clear a b I p z;go_wp2;go_ret
    exact⟨_,rfl,S.out.1,S.out.2,rfl⟩
 ·clear M;go_wp2;go_ret
  refine⟨_,rfl,?_,Kb.refl _ _,rfl⟩;have r:xs.filter (· != n)=xs:=by rw[Mf];intro y d;simp;exact fun e=>Z (e ▸ d)
  rw[r];exact D.out
def iC(x y:Nat):Nat:=x &&& (18446744073709551615-y)
theorem pS{x y:Nat}(a:x<18446744073709551616)(b:y<18446744073709551616)(i:Nat):(iC x y).testBit i=(x.testBit i && !y.testBit i):=by
 unfold iC;have e:18446744073709551615-y=2^64-(y+1):=by omega
 rw[Le,e,MU (by simpa using b)];by_cases h:i<64
 ·simp[h]
 ·have:x.testBit i=false:=KR (A2 a (by have:2^64≤2^i:=Kx (by omega) (by omega);simpa using this));simp[this]
theorem CJ{x y:Nat}(a:x<18446744073709551616):iC x y<18446744073709551616:=JQ LM a
theorem wF{x y:Nat}(a:x<18446744073709551616)(b:y<18446744073709551616):iC x y=0↔∀i,x.testBit i=true→y.testBit i=true:=by
 constructor
 ·intro h i d;have:=pS a b i;rw[h,Ox,d]at this;simpa using this.symm
 ·intro h;apply Mb;intro i;rw[pS a b,Ox];cases e:x.testBit i
  ·rfl
  ·simp[h i e]
theorem dM{ws:List Nat}(h:∀x∈ws,x<18446744073709551616)(q:Nat):ws.getD q 0<18446744073709551616:=by
 rw[E1];cases a:ws[q]? with
 |none=>simp
 |some x=>simpa using h x (IJ a)
theorem EA{ws:List Nat}{n q a x:Nat}(g:q=n / 64)(d:a=2^(n % 64))(f:ws[q]?=some x)(i:x<18446744073709551616)(k:Nat):cQ (ws.set q (iC x a)) k=(k != n && cQ ws k):=by
 have j:a<18446744073709551616:=by rw[d];exact zC n
 have l:=(II.1 f).1;have m:ws.getD q 0=x:=by simp[f]
 unfold cQ;rw[nE _ _ _ _ l];by_cases h:k / 64=q
 ·rw[if_pos h,pS i j,h,m,d,Mz];by_cases e:n % 64=k % 64
  ·have:k=n:=by omega
   simp[e,this]
  ·have:k≠n:=fun b=>e (by rw[b])
   simp[e,this]
 ·rw[if_neg h];have:k≠n:=fun b=>h (by rw[b];exact g.symm)
  simp[this]
theorem mH(B b o:Nat)(i:Array sA)(T:I1)(v:sA)(s:List Nat)(n:Nat)(w:vF)(I:T≠T64)(r:w.heap[b]?=some (.cells i T (0,0)))(t:i[o]?=some v)(h:aO w B v s)(J:n<128) :
  I5 hE 121 #[.pointer (some ⟨b,o,none⟩),.int .u64 n] w fun e w'=>e=.returned (.tuple #[])∧∃v',aO w' B v' (gR n s)∧SetCh w w' b o i T v v':=by
 obtain⟨a,K,f,rfl⟩:=h;have P:o<i.size:=(Jm.1 t).1;obtain⟨q,u⟩:∃q,q=n / 64:=⟨_,rfl⟩;obtain⟨d,j⟩:∃d,d=2^(n % 64):=⟨_,rfl⟩;have L:d<18446744073709551616:=by rw[j];exact zC n
 have E:=oW n q d J u j w;have y:=aA (And.intro u j);clear u j;have Q:w.cell? ⟨b,o,none⟩=some v:=by rw[aC r];exact t
 have l:=aA (SetCh.refl r t);obtain⟨R,z,rfl,A⟩:=f.form;go_enter Tryz.func121,Tryz.ntmps121
 go_wp2_with fail
 refine E.mono ?_
 clear E;rintro e w' ⟨rfl,rfl⟩;by_cases F:q<a.length
 ·obtain⟨x,m⟩:∃x,a[q]?=some x:=⟨_,hZ F⟩;obtain⟨g,rfl,S,U⟩:=A _ x m;have C:x<18446744073709551616:=f.2 x (IJ m);have M:g≠b:=fun e=>f.ne r I (by rw[e];rfl)
  have V:=u64_andNot_nat x d C L;have H:I3 (aO (w'.setCell ⟨g,q,none⟩ (.int .u64 ((iC x d:Nat):Int))) B (.slice (some ⟨g,0,none⟩) a.length z) (gR n (mkS (cQ a)))∧SetCh w' (w'.setCell ⟨g,q,none⟩ (.int .u64 ((iC x d:Nat):Int))) b o i T (.slice (some ⟨g,0,none⟩) a.length z) (.slice (some ⟨g,0,none⟩) a.length z)):=by
   refine aA ⟨⟨a.set q (iC x d),by rw[JD];omega,f.set _ _ (CJ C),?_⟩,l.out.trans ⟨?_,(Kb.refl _ _).setCell (p:=⟨g,q,none⟩) (.inl (by simp[Jh])) _,.inl rfl⟩⟩
   ·unfold gR;refine cT fun k D=>?_
    rw[EA y.out.1 y.out.2 m C,bD D]
   ·have N:(w'.setCell ⟨g,q,none⟩ (.int .u64 ((iC x d:Nat):Int))).heap[b]?=w'.heap[b]?:=Below.heap_setCell _ _ _ _ (fun e=>M e.symm);rw[N,l.out.blk,jL]
  unfold iC at H;clear f A m l;go_wp2;go_end0
  exact⟨rfl,_,H.out⟩
 ·have O:=aA f;clear f A;go_wp2;go_end0
  refine⟨rfl,_,⟨a,K,O.out,?_⟩,l.out⟩;unfold gR;refine cT fun k D=>?_
  rw[bD D];by_cases e:k=n
  ·subst e;have:cQ a k=false:=by
    unfold cQ;rw[← y.out.1,E1,Ja (Ki F)];simp
   simp[this]
  ·simp[e]
structure UnInv(w wr:World)(B b o:Nat)(cs:Array Value)(T:TypeId)(v vk:Value)(wp wo:List Nat)(i:Nat)(gr:Bool):Prop where
 le:i≤wo.length
 ws:∃wi,wi.length=wp.length∧eJ wr B vk wi∧∀j,wi.getD j 0=if j<i then wp.getD j 0 ||| wo.getD j 0 else wp.getD j 0
 gr:gr=(List.range i).any fun j=>!decide (iC (wo.getD j 0) (wp.getD j 0)=0)
 ch:SetCh w wr b o cs T v vk
theorem UnInv.step{w wr:vF}{B b o:Nat}{q:Array sA}{T:I1}{v k:sA}{d a:List Nat}{i g L cap:Nat}{r:Bool}(h:UnInv w wr B b o q T v k d a i r)(l:k=.slice (some ⟨g,0,none⟩) L cap)(u:T≠T64)(x:i<a.length)(F:a.length≤d.length)(y:d.getD i 0<18446744073709551616)(z:a.getD i 0<18446744073709551616) :
  UnInv w (wr.setCell ⟨g,i,none⟩ (.int .u64 ((d.getD i 0 ||| a.getD i 0:Nat):Int))) B b o q T v k d a (i+1) (r || !decide (iC (a.getD i 0) (d.getD i 0)=0)):=by
 obtain⟨A,C,m,D⟩:=h.ws;have t:=h.ch.blk;have E:g≠b:=fun e=>m.ne t u (by rw[l,e];rfl)
 refine⟨x,⟨A.set i (d.getD i 0 ||| a.getD i 0),by rw[JD];exact C,?_,fun j=>?_⟩,?_,h.ch.trans ⟨?_,(Kb.refl _ _).setCell (p:=⟨g,i,none⟩) (.inl (by rw[l];simp[Jh])) _,.inl rfl⟩⟩
 ·rw[l]at m ⊢;exact m.set _ _ (xP y z)
 ·rw[nE _ _ _ _ (by omega)];by_cases e:j=i
  ·subst e;rw[if_pos rfl,if_pos (by omega)]
  ·rw[if_neg e,D];by_cases f:j<i
   ·rw[if_pos f,if_pos (by omega)]
   ·rw[if_neg f,if_neg (by omega)]
 ·rw[Ko,List.any_append,← h.gr];simp
 ·have f:(wr.setCell ⟨g,i,none⟩ (.int .u64 ((d.getD i 0 ||| a.getD i 0:Nat):Int))).heap[b]?=wr.heap[b]?:=Below.heap_setCell _ _ _ _ (fun e=>E e.symm);rw[f,t,jL]
theorem tN{b a:List Nat}(h1:∀x∈b,x<18446744073709551616)(h2:∀x∈a,x<18446744073709551616)(y:a.length≤2):iM (mkS (cQ b)) (mkS (cQ a))=(IQ a.length).any fun j=>!decide (iC (a.getD j 0) (b.getD j 0)=0):=by
 rw[J8,lF];simp only[List.any_eq_true,List.mem_range,Bool.not_eq_true',decide_eq_false_iff_not];constructor
 ·rintro⟨k,p,q⟩;obtain⟨r,d⟩:=eL.1 p;have l:cQ b k=false:=by
   cases e:cQ b k
   ·rfl
   ·exact absurd (eL.2 ⟨r,e⟩) q
  unfold cQ at d l;refine⟨k / 64,?_,fun e=>?_⟩
  ·rcases MA (k / 64) a.length with h|h
   ·exact h
   ·rw[E1,Ja h]at d;simp at d
  ·have:=(wF (dM h2 _) (dM h1 _)).1 e _ d;rw[l]at this;cases this
 ·rintro⟨j,z,f⟩;rw[wF (dM h2 _) (dM h1 _)]at f;simp only[Classical.not_forall]at f;obtain⟨i,g,t⟩:=f;have A:i<64:=by
   rcases MA i 64 with h|h
   ·exact h
   ·have:=KR (A2 (dM h2 j) (by have:2^64≤2^i:=Kx (by omega) h;simpa using this));rw[this]at g;cases g
  have m:(64*j+i) / 64=j:=by omega
  have o:(64*j+i) % 64=i:=by omega
  refine⟨64*j+i,eL.2 ⟨by omega,?_⟩,fun u=>?_⟩
  ·unfold cQ;rw[m,o];exact g
  ·have:=(eL.1 u).2;unfold cQ at this;rw[m,o]at this;exact t this
theorem wG(B b o b2 r:Nat)(j a3:Array sA)(T T2:I1)(v J:sA)(s K:List Nat)(w:vF)(hB:B≤w.heap.size)(z:T≠T64)(ag:T2≠T64)(L:w.heap[b]?=some (.cells j T (0,0)))(hv:j[o]?=some v)(M:w.heap[b2]?=some (.cells a3 T2 (0,0)))(N:a3[r]?=some J)(ah:b2≠b∨r≠o)(h:aO w B v s)(h2:aO w B J K)(ha:eR v J) :
  I5 hE 120 #[.pointer (some ⟨b,o,none⟩),.pointer (some ⟨b2,r,none⟩)] w fun e w'=>e=.returned (.bool (iM s K))∧∃v',aO w' B v' (cP s K)∧SetCh w w' b o j T v v':=by
 obtain⟨d,hl,O,rfl⟩:=h;obtain⟨a,ai,P,rfl⟩:=h2;have ho:o<j.size:=(Jm.1 hv).1;obtain⟨Q,R,rfl,aj⟩:=P.form;have ak:w.cell? ⟨b2,r,none⟩=some (.slice Q a.length R):=by rw[aC M];exact N
 have HR:=wD B b o j T v d a.length w hB z L hv O (by omega);go_enter Tryz.func120,Tryz.ntmps120
 go_wp2_with fail
 refine HR.mono ?_
 clear HR;rintro e S ⟨rfl,v1,A,t⟩;obtain⟨aq,a4,a5⟩:=t.other L O M N ag ah;obtain⟨U,a6⟩:=t.apart L z P ha;have ar:S.cell? ⟨b2,r,none⟩=some (.slice Q a.length R):=by rw[aC a4];exact a5
 have al:=lJ d a.length;have HH:I3 (∀k,cQ (eO d a.length) k=cQ d k):=pR d a.length;have au:(eO d a.length).length≤2:=by omega
 have am:a.length≤(eO d a.length).length:=by omega
 generalize eO d a.length=f at *;clear al O ak aj;have a7:=A.2;have a8:=U.2;have H0:I3 (UnInv w S B b o j T v v1 f a 0 false):=aA ⟨IM _,⟨f,rfl,A,fun av=>by simp⟩,by simp,t⟩;obtain⟨V,X,rfl,aw⟩:=A.form;have HA:=aA a6;have a9:=aA U;have an:=aA t.blk;clear a6 A t U a4 a5 M N P;go_wp2;go_loopw [5,20] (fun gv Y wr=>∃(i:Nat) (C:Bool),gv=.bool C∧Y=.int .i64 i∧UnInv w wr B b o j T v (.slice V f.length X) f a i C∧Kb (b::(Value.slice V f.length X).ownBlock.toList) S wr) (fun _ Y _=>a.length-(intOf Y).toNat)
 case atStart=>exact⟨0,false,rfl,rfl,H0.out,Kb.refl _ _⟩
 case round=>
  clear H0;obtain⟨i,C,rfl,rfl,l,D⟩:=hrel;have ax:=l.le;have Z:=l.ch.blk;have hc:wr.cell? ⟨b,o,none⟩=some (.slice V f.length X):=by rw[aC Z];simp[ho]
  by_cases aa:i<a.length
  ·have ab:eJ wr B (.slice Q a.length R) a:=a9.out.kb D (by
    intro g u;rcases sT.1 u with rfl|u
    ·exact a9.out.ne an.out z
    ·simp at u;exact HA.out g u)
   obtain⟨y,hy⟩:∃y,a[i]?=some y:=⟨_,hZ aa⟩;obtain⟨ay,az,e3,ad⟩:=ab.form;injection e3 with e3 _ e4;subst e3 e4;obtain⟨g2,rfl,aV,_⟩:=ad i y hy;obtain⟨wi,q1,E,F⟩:=l.ws;obtain⟨x,hx⟩:∃x,wi[i]?=some x:=⟨_,hZ (by omega)⟩;obtain⟨b0,b1,e5,ae⟩:=E.form;injection e5 with e5 _ e6;subst e5 e6;obtain⟨g,rfl,u,b3⟩:=ae i x hx;have H:a.getD i 0=y:=by simp[hy]
   have I:f.getD i 0=x:=by have:=F i;rw[if_neg (by omega)]at this;rw[← this];simp[hx]
   have a0:x<18446744073709551616:=by rw[← I];exact dM a7 i
   have a1:y<18446744073709551616:=by rw[← H];exact dM a8 i
   have m:=l.step rfl z aa am (by rw[I];exact a0) (by rw[H];exact a1);rw[I,H]at m;have p:=aA (And.intro m (D.setCell (p:=⟨g,i,none⟩) (.inl (by simp[Jh])) (.int .u64 ((x ||| y:Nat):Int))));have hand:=u64_andNot_nat y x a1 a0;have b5:=u64_or_nat x y a0 a1;have af:(iC y x=0)=(y &&& (18446744073709551615-x)=0):=rfl;have HZ:=aA af;clear m l D Z ab q1 E F ad ae af hy hx I H;cases C
   ·by_cases q:iC y x=0
    ·have a2:y &&& (18446744073709551615-x)=0:=q;have HY:I3 ((false || !decide (iC y x=0))=false):=aA (by simp[q]);clear q;rw[a2]at hand;go_wp2;go_roundw
     case rel=>exact⟨i+1,false,rfl,by go_num,by rw[← HY.out];exact p.out.1,p.out.2⟩
     case measure=>simp[intOf];omega
    ·have HY:I3 ((false || !decide (iC y x=0))=true):=aA (by simp[q]);have a2:¬(((y &&& (18446744073709551615-x):Nat):Int)=0):=fun e=>q (by unfold iC;omega)
     have ao:I3 ((((y &&& (18446744073709551615-x):Nat):Int) != 0)=true):=aA (bne_iff_ne.2 a2);clear q;go_wp2;go_roundw
     case rel=>exact⟨i+1,true,by rw[ao.out],by go_num,by rw[← HY.out];exact p.out.1,p.out.2⟩
     case measure=>simp[intOf];omega
   ·go_wp2;go_roundw
    case rel=>exact⟨i+1,true,rfl,by go_num,p.out.1,p.out.2⟩
    case measure=>simp[intOf];omega
  ·have ap:i=a.length:=by omega
   subst ap;have m:=aA l;clear l D Z;go_wp2;go_ret
   obtain⟨wi,q1,E,F⟩:=m.out.ws;have eH:mkS (cQ f)=mkS (cQ d):=cT fun k _=>HH.out k
   refine⟨?_,_,⟨wi,by omega,E,?_⟩,m.out.ch⟩
   ·rw[← eH,tN a7 a8 ai,← m.out.gr];rfl
   ·unfold cP;refine cT fun k hk=>?_
    rw[bD hk,bD hk,← HH.out];unfold cQ;rw[F];by_cases e:k / 64<a.length
    ·rw[if_pos e,Nat.testBit_or]
    ·rw[if_neg e];have:a.getD (k / 64) 0=0:=by rw[E1,Ja (Ki e)];rfl
     rw[this];simp
structure MtInv(w wr:World)(B b o:Nat)(cs:Array Value)(T:TypeId)(v:Value)(ws wo:List Nat)(i:Nat):Prop where
 le:i≤ws.length
 ws:∃wi,wi.length=ws.length∧eJ wr B v wi∧∀j,wi.getD j 0=if j<i then ws.getD j 0 &&& wo.getD j 0 else ws.getD j 0
 ch:SetCh w wr b o cs T v v
theorem MtInv.step{w wr:vF}{B b o:Nat}{l:Array sA}{T:I1}{v:sA}{ws a:List Nat}{i g L cap:Nat}(h:MtInv w wr B b o l T v ws a i)(f:v=.slice (some ⟨g,0,none⟩) L cap)(q:T≠T64)(r:i<ws.length)(t:ws.getD i 0<18446744073709551616) :
  MtInv w (wr.setCell ⟨g,i,none⟩ (.int .u64 ((ws.getD i 0 &&& a.getD i 0:Nat):Int))) B b o l T v ws a (i+1):=by
 obtain⟨u,x,k,y⟩:=h.ws;have m:=h.ch.blk;have z:g≠b:=fun e=>k.ne m q (by rw[f,e];rfl)
 refine⟨r,⟨u.set i (ws.getD i 0 &&& a.getD i 0),by rw[JD];exact x,?_,fun j=>?_⟩,h.ch.trans ⟨?_,(Kb.refl _ _).setCell (p:=⟨g,i,none⟩) (.inl (by rw[f];simp[Jh])) _,.inl rfl⟩⟩
 ·rw[f]at k ⊢;exact k.set _ _ (JQ LM t)
 ·rw[nE _ _ _ _ (by omega)];by_cases e:j=i
  ·subst e;rw[if_pos rfl,if_pos (by omega)]
  ·rw[if_neg e,y];by_cases d:j<i
   ·rw[if_pos d,if_pos (by omega)]
   ·rw[if_neg d,if_neg (by omega)]
 ·have d:(wr.setCell ⟨g,i,none⟩ (.int .u64 ((ws.getD i 0 &&& a.getD i 0:Nat):Int))).heap[b]?=wr.heap[b]?:=Below.heap_setCell _ _ _ _ (fun e=>z e.symm);rw[d,m,jL]
theorem SetCh.drew{w w':vF}{b o:Nat}{a:Array sA}{T:I1}{v v':sA}(h:SetCh w w' b o a T v v')(n:Nat):SetCh w (w'.drewN n) b o a T v v':=⟨h.blk,h.kb.drewN n,h.lies⟩
theorem MtInv.drew{w wr:vF}{B b o:Nat}{a:Array sA}{T:I1}{v:sA}{ws d:List Nat}{i:Nat}(h:MtInv w wr B b o a T v ws d i)(n:Nat):MtInv w (wr.drewN n) B b o a T v ws d i:=⟨h.le,h.ws,h.ch.drew n⟩
theorem EB(B b o b2 m:Nat)(f L:Array sA)(T z:I1)(v p:sA)(s M:List Nat)(w:vF)(N:T≠T64)(a2:z≠T64)(q:w.heap[b]?=some (.cells f T (0,0)))(A:f[o]?=some v)(O:w.heap[b2]?=some (.cells L z (0,0)))(P:L[m]?=some p)(a3:b2≠b∨m≠o)(h:aO w B v s)(h2:aO w B p M)(Q:eR v p) :
  I5 hE 163 #[.pointer (some ⟨b,o,none⟩),.pointer (some ⟨b2,m,none⟩)] w fun e w'=>e=.returned (.tuple #[])∧∃v',aO w' B v' (lD s M)∧SetCh w w' b o f T v v':=by
 obtain⟨a,hl,k,rfl⟩:=h;obtain⟨j,ad,C,rfl⟩:=h2;have ho:o<f.size:=(Jm.1 A).1;have hc:w.cell? ⟨b,o,none⟩=some v:=by rw[aC q];exact A
 have R:I3 (MtInv w w B b o f T v a j 0):=aA ⟨IM _,⟨a,rfl,k,fun ae=>by simp⟩,SetCh.refl q A⟩;have a4:=k.2;have a5:=C.2;obtain⟨S,D,rfl,_⟩:=k.form;have E:=aA (And.intro Q (And.intro k C));have r:=aA (And.intro q (And.intro O P));clear Q k C q O P;go_enter Tryz.func163,Tryz.ntmps163
 go_wp2;go_loopw [10] (fun F wr=>∃(i:Nat),F=.int .i64 i∧MtInv w wr B b o f T (.slice S a.length D) a j i) (fun F _=>a.length-(intOf F).toNat)
 case atStart=>exact⟨0,rfl,R.out⟩
 case round=>
  clear R;obtain⟨i,rfl,d⟩:=hrel;have af:=d.le;have H:=d.ch.blk;have ag:wr.cell? ⟨b,o,none⟩=some (.slice S a.length D):=by rw[aC H];simp[ho]
  by_cases a6:i<a.length
  ·obtain⟨a7,U,V⟩:=d.ch.other r.out.1 E.out.2.1 r.out.2.1 r.out.2.2 a2 a3;obtain⟨X,_⟩:=d.ch.apart r.out.1 N E.out.2.2 E.out.1;have HW:=fun n=>nD B b2 m a7 z p j i (wr.drewN n) U V X
   obtain⟨I,Y,t,u⟩:=d.ws;obtain⟨x,J⟩:∃x,I[i]?=some x:=⟨_,hZ (by omega)⟩;obtain⟨ah,ai,K,Z⟩:=t.form;injection K with K e7 e6;subst K e6;clear e7;obtain⟨g,rfl,hg,aj⟩:=Z i x J;have y:a.getD i 0=x:=by have:=u i;rw[if_neg (by omega)]at this;rw[← this];simp[J]
   have a0:x<18446744073709551616:=by rw[← y];exact dM a4 i
   have a8:=dM a5 i;have a9:I3 (∀n,MtInv w ((wr.drewN n).setCell ⟨g,i,none⟩ (.int .u64 ((x &&& j.getD i 0:Nat):Int))) B b o f T (.slice (some ⟨g,0,none⟩) a.length D) a j (i+1)):=by refine aA (fun n=>?_);have l:=(d.drew n).step rfl N a6 (by rw[y];exact a0);rw[y]at l;exact l
   generalize j.getD i 0=aa at *;have hand:=Oy x aa a0 a8;clear d H Y t u Z J y U V X;go_wp2;go_region_with (go_at_call 150;refine(HW _).mono ?_;rintro e w1 ⟨rfl,rfl⟩)
   all_goals
    go_wp2;go_roundw
    case rel=>exact⟨i+1,by go_num,a9.out _⟩
    case measure=>simp[intOf];omega
  ·have ab:i=a.length:=by omega
   subst ab;have l:=aA d;clear d H;go_wp2;go_end0
   obtain⟨I,Y,t,u⟩:=l.out.ws;refine⟨rfl,_,⟨I,by omega,t,?_⟩,l.out.ch⟩;unfold lD;refine cT fun a1 hk=>?_
   rw[bD hk,bD hk];unfold cQ;rw[u];by_cases e:a1 / 64<a.length
   ·rw[if_pos e,Le]
   ·rw[if_neg e];have:a.getD (a1 / 64) 0=0:=by rw[E1,Ja (Ki e)];rfl
    rw[this];simp
theorem zE{ws a:List Nat}(h1:∀x∈ws,x<18446744073709551616)(h2:∀x∈a,x<18446744073709551616)(m:ws.length≤2)(o:a.length≤2):(∀j,j<max ws.length a.length→ws.getD j 0=a.getD j 0)↔mkS (cQ ws)=mkS (cQ a):=by
 constructor
 ·intro h;refine cT fun k _=>?_
  unfold cQ;by_cases e:k / 64<max ws.length a.length
  ·rw[h _ e]
  ·have d:ws.getD (k / 64) 0=0:=by rw[E1,Ja (by omega)];rfl
   have f:a.getD (k / 64) 0=0:=by rw[E1,Ja (by omega)];rfl
   rw[d,f]
 ·intro h j q;apply Mb;intro i;by_cases e:i<64
  ·have g:64*j+i<128:=by omega
   have d:(64*j+i) / 64=j:=by omega
   have f:(64*j+i) % 64=i:=by omega
   have b:=bD (p:=cQ ws) g;rw[h,bD g]at b;unfold cQ at b;rw[d,f]at b;exact b.symm
  ·have l:2^64≤2^i:=Kx (by omega) (by omega);rw[KR (A2 (dM h1 j) (by simpa using l)),KR (A2 (dM h2 j) (by simpa using l))]
theorem wH(B K b o b2 l:Nat)(y z:Array sA)(T L:I1)(v u:sA)(s M:List Nat)(w:vF)(g:w.heap[b]?=some (.cells y T (0,0)))(A:y[o]?=some v)(C:w.heap[b2]?=some (.cells z L (0,0)))(D:z[l]?=some u)(h:aO w B v s)(h2:aO w K u M) :
  I5 hE 110 #[.pointer (some ⟨b,o,none⟩),.pointer (some ⟨b2,l,none⟩)] w fun e w'=>e=.returned (.bool (s == M))∧∃n,w'=w.drewN n:=by
 obtain⟨a,Y,p,rfl⟩:=h;obtain⟨d,Z,q,rfl⟩:=h2;have hc:w.cell? ⟨b,o,none⟩=some v:=by rw[aC g];exact A
 have a0:w.cell? ⟨b2,l,none⟩=some u:=by rw[aC C];exact D
 have N:=fun n f=>nD B b o y T v a f (w.drewN n) g A p
 have O:=fun n f=>nD K b2 l z L u d f (w.drewN n) C D q
 have P:=aA (zE p.2 q.2 Y Z);obtain⟨ao,a8,rfl,_⟩:=p.form;obtain⟨a9,aa,rfl,_⟩:=q.form;have a1:=p.2;have a2:=q.2;clear p q g C A D;go_enter Tryz.func110,Tryz.ntmps110
 go_wp2;go_region
 have Q:(if a.length<d.length then((d.length:Nat):Int)else((a.length:Nat):Int))=((max a.length d.length:Nat):Int):=by split<;>omega
 rw[Q];have ab:max a.length d.length≤2:=by omega
 generalize max a.length d.length=m at *;clear Q;obtain⟨k,r⟩:∃k,k=w.drew:=⟨_,rfl⟩;have R:=aA r;have E:∀f:Nat,I5 hE 150 #[.pointer (some ⟨b,o,none⟩),.int .i64 f] k fun e w'=>e=.returned (.int .u64 ((a.getD f 0:Nat):Int))∧w'=k:=by rw[r];exact N 1
 have F:∀f:Nat,I5 hE 150 #[.pointer (some ⟨b2,l,none⟩),.int .i64 f] k fun e w'=>e=.returned (.int .u64 ((d.getD f 0:Nat):Int))∧w'=k:=by rw[r];exact O 1
 rw[← r];clear N O r hc a0;go_wp2;go_loopw [17] (fun H wr=>∃(i:Nat),H=.int .i64 i∧i≤m∧wr=k∧I3 (∀j,j<i→a.getD j 0=d.getD j 0)) (fun H _=>m-(intOf H).toNat)
 case atStart=>exact⟨0,rfl,IM _,rfl,aA (fun j S=>by omega)⟩
 case round=>
  obtain⟨i,rfl,ad,rfl,U⟩:=hrel;by_cases a3:i<m
  ·have I:=E i;have g:=F i;have a4:=dM a1 i;have a5:=dM a2 i;clear E F;generalize V:a.getD i 0=a6 at I a4;generalize X:d.getD i 0=a7 at g a5;have x:=aA (And.intro V X);clear V X;go_wp2_with fail
   refine I.mono ?_
   clear I;rintro e w2 ⟨rfl,rfl⟩;go_wp2_with fail
   refine g.mono ?_
   clear g;rintro e w2 ⟨rfl,rfl⟩;by_cases J:a6=a7
   ·have t:I3 (a.getD i 0=d.getD i 0):=aA (by rw[x.out.1,x.out.2];exact J);subst J;go_wp2;go_roundw
    case rel=>
     refine⟨i+1,by go_num,by omega,(by first|rfl|trivial),aA (fun j S=>?_)⟩;by_cases e:j=i
     ·subst e;exact t.out
     ·exact U.out j (by omega)
    case measure=>simp[intOf];omega
   ·have t:I3 ((mkS (cQ a) == mkS (cQ d))=false):=by
     refine aA ?_
     rw[beq_eq_false_iff_ne];exact fun e=>J (by rw[← x.out.1,← x.out.2];exact P.out.2 e i a3)
    go_wp2;go_ret
    exact⟨by rw[t.out];rfl,1,R.out⟩
  ·have t:I3 ((mkS (cQ a) == mkS (cQ d))=true):=by
    refine aA ?_
    rw[beq_iff_eq];exact P.out.1 (fun j S=>U.out j (by omega))
   clear E F;go_wp2;go_ret
   exact⟨by rw[t.out];rfl,1,R.out⟩
theorem wI(B b o:Nat)(a:Array sA)(T:I1)(v:sA)(s:List Nat)(w:vF)(d:w.heap[b]?=some (.cells a T (0,0)))(f:a[o]?=some v)(h:aO w B v s) :
  I5 hE 87 #[.pointer (some ⟨b,o,none⟩)] w fun e w'=>e=.returned (.bool s.isEmpty)∧Kb [] w w':=by
 have g:=wH B 0 b o w.heap.size 0 a #[.slice none 0 0] T 112 v (.slice none 0 0) s [] (w.alloc (.cells #[.slice none 0 0] 112)) (aF d _) f (aD _ _) rfl (h.kb ((Kb.refl [] w).alloc _) (by simp)) (aO.nil _ _);have i:I3 ((s == [])=s.isEmpty):=aA (by cases s<;>rfl);clear d f h;go_enter Tryz.func87,Tryz.ntmps87
 go_wp2_with fail
 refine g.mono ?_
 clear g;rintro e j ⟨rfl,n,rfl⟩;go_wp2;go_ret
 exact⟨by rw[← i.out];rfl,((Kb.refl [] w).alloc _).drewN n⟩
theorem EC:∀(x:Nat),x≠0→∃k m,x=2^k*(2*m+1):=by
 intro x;induction x using Nat.strongRecOn with
 |_ x a=>
  intro b;by_cases h:x % 2=1
  ·exact⟨0,x / 2,by omega⟩
  ·obtain⟨k,m,e⟩:=a (x / 2) (by omega) (by omega);refine⟨k+1,m,?_⟩;rw[Nat.pow_succ,Ny (2^k) 2,Nat.mul_assoc,← e];omega
theorem CK(k m j:Nat):(2^k*(2*m+1)).testBit j=if j<k then false else(2*m+1).testBit (j-k):=by have:=M4 (i:=k) (2*m+1) (b:=0) (LN k) j;rw[Nat.add_zero]at this;rw[this];split<;>simp
theorem zG(k m j:Nat):(2^k*(2*m+1)-1).testBit j=if j<k then true else(2*m).testBit (j-k):=by
 have a:=LN k;have e:2^k*(2*m+1)-1=2^k*(2*m)+(2^k-1):=by rw[Nat.mul_add,Jv];omega
 rw[e,M4 (2*m) (by omega)];split
 ·rename_i h;rw[Nat.testBit_two_pow_sub_one];simp[h]
 ·rfl
theorem CM(m j:Nat):(2*m+1).testBit (j+1)=(2*m).testBit (j+1):=by
 rw[Oz,Oz];congr 1
 omega
theorem Db(k m j:Nat):((2^k*(2*m+1)) &&& (2^k*(2*m+1)-1)).testBit j=(j != k && (2^k*(2*m+1)).testBit j):=by
 rw[Le,CK,zG];by_cases h:j<k
 ·simp[h]
 ·simp only[h,if_false];by_cases e:j=k
  ·subst e;simp
  ·obtain⟨d,rfl⟩:∃d,j=k+(d+1):=⟨j-k-1,by omega⟩;rw[show k+(d+1)-k=d+1 by omega,CM];have:(k+(d+1) != k)=true:=by simp
   rw[this];cases (2*m).testBit (d+1)<;>rfl
theorem Gh(k m:Nat)(h:2^k*(2*m+1)<18446744073709551616):(2^k*(2*m+1)) &&& (18446744073709551616-2^k*(2*m+1))=2^k:=by
 have f:=LN k;have g:0<2^k*(2*m+1):=Nat.mul_pos f (by omega);have e:18446744073709551616-2^k*(2*m+1)=2^64-((2^k*(2*m+1)-1)+1):=by rw[Nat.sub_add_cancel g]
 rw[e];apply Mb;intro j;rw[Le,MU (by omega),Mz];by_cases b:j<64
 ·simp only[b,decide_true,Bool.true_and];rw[CK,zG];by_cases a:j<k
  ·have:k≠j:=by omega
   simp[a,this]
  ·simp only[a,if_false];by_cases i:j=k
   ·subst i;simp
   ·obtain⟨d,rfl⟩:∃d,j=k+(d+1):=⟨j-k-1,by omega⟩;rw[show k+(d+1)-k=d+1 by omega,CM];simp
 ·have l:k<64:=by
   rcases MA k 64 with a|a
   ·exact a
   ·have o:2^64≤2^k:=Kx (by omega) a;have p:2^k≤2^k*(2*m+1):=Nr _ (by omega);have q:(2:Nat)^64=18446744073709551616:=by decide
    omega
  have:¬k=j:=by omega
  simp[b,this]
theorem ED{k m:Nat}(h:2^k*(2*m+1)<18446744073709551616):k<64:=by
 rcases MA k 64 with a|a
 ·exact a
 ·have b:2^64≤2^k:=Kx (by omega) a;have d:2^k≤2^k*(2*m+1):=Nr _ (by omega);have e:(2:Nat)^64=18446744073709551616:=by decide
  omega
theorem xR{p:Nat→Bool}{n k:Nat}(i:k<n)(e:p k=true)(d:∀j,j<k→p j=false):(IQ n).filter p=k::(IQ n).filter (fun j=>j != k && p j):=by
 obtain⟨r,rfl⟩:∃r,n=k+(r+1):=⟨n-k-1,by omega⟩;rw[OO,Kr,Kr];have f:(IQ k).filter p=[]:=Lx.2 (fun j b=>by rw[d j (by simpa using b)];simp);have g:(IQ k).filter (fun j=>j != k && p j)=[]:=Lx.2 (fun j b=>by rw[d j (by simpa using b)];simp);rw[f,g,List.range_succ_eq_map];simp only[List.map_cons,Nat.add_zero,Mk,Om,e,if_true,bne_self_eq_false,Bool.false_and,Bool.false_eq_true,if_false];congr 1
 refine Mq fun j b=>?_
 obtain⟨a,h,rfl⟩:=Jf.1 b;obtain⟨c,_,rfl⟩:=Jf.1 h;have:(k+(c+1) != k)=true:=by simp
 rw[this,Bool.true_and]
def jN(x:Nat):List Nat:=(IQ 64).filter x.testBit
theorem oX:jN 0=[]:=by unfold jN;rw[Lx];intro j _;simp
theorem Ba{k m:Nat}(h:2^k*(2*m+1)<18446744073709551616):jN (2^k*(2*m+1))=k::jN ((2^k*(2*m+1)) &&& (2^k*(2*m+1)-1)):=by
 unfold jN;rw[xR (ED h) (by rw[CK];simp) (fun j a=>by rw[CK,if_pos a])];congr 1
 refine Mq fun j _=>?_
 rw[Db]
def rC(ws:List Nat):List Nat:=(IQ ws.length).flatMap fun a=>(jN (ws.getD a 0)).map (64*a + ·)
theorem Gi{ws:List Nat}(h:ws.length≤2):rC ws=mkS (cQ ws):=by
 have e:∀(a:Nat),((IQ 64).map (64*a + ·)).filter (cQ ws)=(jN (ws.getD a 0)).map (64*a + ·):=by
  intro a;unfold jN;rw[List.filter_map];congr 1
  refine Mq fun j d=>?_
  have d:j<64:=by simpa using d
  simp only[Function.comp,cQ];rw[show(64*a+j) / 64=a by omega,show(64*a+j) % 64=j by omega]
 have f:mkS (cQ ws)=(jN (ws.getD 0 0)).map (64*0 + ·)++(jN (ws.getD 1 0)).map (64*1 + ·):=by unfold mkS;rw[show(128:Nat)=64+64 from rfl,OO,Kr,← e 0,← e 1];congr 2
 rw[f];unfold rC;match ws,h with
 | [],_=>simp[oX]
 | [a],_=>simp[oX,Ko]
 | [a,b],_=>simp[Ko]
def zH:List Nat:=[0,1,56,2,57,49,28,3,61,58,42,50,38,29,17,4,62,47,59,36,45,43,51,22,53,39,33,30,24,18,12,5,63,55,48,27,60,41,37,16,46,35,44,21,52,32,23,11,54,26,40,15,34,20,31,10,25,14,19,9,13,8,7,6]
def bN(w:vF):Prop:=∀(j x:Nat),zH[j]?=some x→w.cell? ⟨0,j,none⟩=some (.int .u8 (x:Int))
theorem bN.kb{w w':vF}{L:List Nat}(h:bN w)(d:Kb L w w')(e:0 ∉ L):bN w':=by
 intro j x f;have a:=h j x f;have g:0<w.heap.size:=by
  unfold World.cell? at a;cases b:w.heap[(0:Nat)]? with
  |none=>simp[b]at a
  |some o=>exact aB b
 rw[d.cell (p:=⟨0,j,none⟩) g e];exact a
theorem bN.of_heap{w w':vF}(h:bN w)(b:w'.heap[(0:Nat)]?=w.heap[(0:Nat)]?):bN w':=fun j x d=>(J3 (a:=⟨0,j,none⟩) b).trans (h j x d)
theorem EE:∀k,k<64→zH[(2^k*285870213051353865) % 18446744073709551616 / 288230376151711744]?=some k:=by decide
theorem Hd(x k m:Nat)(a:x<18446744073709551616)(e:x=2^k*(2*m+1))(w:vF)(f:bN w) :
  I5 hE 128 #[.int .u64 x] w fun e w'=>e=.returned (.int .i64 k)∧w'=w:=by
 have l:0<x:=by rw[e];exact Nat.mul_pos (LN k) (by omega)
 have i:k<64:=ED (by rw[← e];exact a);have b:x &&& (18446744073709551616-x)=2^k:=by rw[e];exact Gh k m (by rw[← e];exact a)
 have o:¬((x:Nat):Int)=0:=by omega
 obtain⟨p,g⟩:∃p,p=2^k:=⟨_,rfl⟩;have h:=f _ _ (EE k i);rw[← g]at b h;have r:p<18446744073709551616:=by rw[← b];exact JQ LM a
 have t:Kc.wrap (-(x:Int))=((18446744073709551616-x:Nat):Int):=by rw[JJ];omega
 have hand:=Oy x (18446744073709551616-x) a (by omega);rw[b]at hand;have j:Kc.wrap ((p:Int)*285870213051353865)=(((p*285870213051353865) % 18446744073709551616:Nat):Int):=by rw[JJ];omega
 obtain⟨q,d⟩:∃q,q=(p*285870213051353865) % 18446744073709551616:=⟨_,rfl⟩;rw[← d]at j h;have u:q<18446744073709551616:=by rw[d];exact Nat.mod_lt _ (by omega)
 have y:q / 288230376151711744<64:=by omega
 clear e d g b f;go_enter Tryz.func128,Tryz.ntmps128
 go_wp2;go_ret
 exact⟨rfl,rfl⟩
theorem tO(B:Nat)(v:sA)(ws:List Nat)(w:vF)(h:eJ w B v ws)(R:ws.length≤1000) :
  I5 hE 126 #[v] w fun e w'=>∃v',e=.returned v'∧eJ w' w.heap.size v' ws∧Kb [] w w':=by
 obtain⟨A,C,D,E,F⟩:=info_parts AY;have S:∀(w:vF) (a:Option Addr) (n c d f:Nat),(binOp .eql 110 (.slice a n c) (.slice none d f)).run hE w=.ok (.bool a.isNone) w:=fun w a n c d f=>Lib.run_eql_slice_nil w _ _ a n c d f N3
 have H:=h.2;rcases h.1.2 with⟨rfl,I⟩|⟨g,J,T,rfl,K,i,U,V,L,l⟩
 ·have M:ws=[]:=List.eq_nil_of_length_eq_zero I;subst M;clear h;go_enter Tryz.func126,Tryz.ntmps126
  go_wp2;go_ret
  exact⟨_,rfl,eJ.nil _ _,Kb.refl _ _⟩
 ·have m:∀(j:Nat) u,(dO ws)[j]?=some u→(w.alloc (.cells #[] 186)).cell? ((⟨g,0,none⟩:Addr).add j)=some u:=by
   intro j u b;have N:(⟨g,0,none⟩:Addr).add j=⟨g,j,none⟩:=by unfold Addr.add;split<;>simp_all
   have o:=(II.1 b).1;rw[fY]at o;rw[N,aC (aF i _),← Ke];rw[← l,Jv,JM o]at b;exact b
  have p:(w.alloc (.cells #[] 186)).ownsRow w.heap.size 186 1 (.slice (some ⟨w.heap.size,0,none⟩) 0 0) 0 []:=⟨rfl,.inr ⟨w.heap.size,0,#[],rfl,gO _,aD _ _,gO _,IM _,rfl,rfl⟩⟩;have q:=aA p;have r:=aA m;clear p m h L l K i;go_enter Tryz.func126,Tryz.ntmps126
  go_wp2_with (first
   |(at_builtin;go_loud (refine wpList_append_own _ rfl (.tmp 5) (.tmp 6) 110 rfl w.heap.size 186 A (.int .u64 0) 1 8 N3 C D E F rfl (by decide) (.slice (some ⟨w.heap.size,0,none⟩) 0 0) 0 [] (by simp[Act.eval]) q.out ⟨g,0,none⟩ ws.length J (dO ws) (by simp[Act.eval]) (by rw[fY,Jv]) r.out (by intro u b;obtain⟨x,_,rfl⟩:=Jf.1 b;rfl) (by unfold maxLen;omega) (by omega) (by rw[IW];omega) ?_;intro v' t y z O))
   |go_in)
  have P:I3 (eJ t w.heap.size v' ws∧Kb [] w t):=by refine aA ⟨⟨by simpa using y,H⟩,?_⟩;refine((Kb.refl [] w).alloc _).grown z (fun k Q=>.inr ?_);simp[Jh]at Q;omega
  clear y z O q r;go_wp2;go_ret
  exact⟨_,rfl,P.out⟩
theorem dN(B b o:Nat)(m:Array sA)(T:I1)(v:sA)(s:List Nat)(w:vF)(p:w.heap[b]?=some (.cells m T (0,0)))(q:m[o]?=some v)(h:aO w B v s) :
  I5 hE 94 #[.pointer (some ⟨b,o,none⟩)] w fun e w'=>∃i v',e=.returned (.func (.func 127) #[] #[.pointer (some ⟨i,0,none⟩)])∧w.heap.size≤i∧w'.heap[i]?=some (.cells #[v'] 110 (0,0))∧aO w' w.heap.size v' s∧Kb [] w w':=by
 obtain⟨d,x,r,rfl⟩:=h;have A:w.cell? ⟨b,o,none⟩=some v:=by rw[aC p];exact q
 have t:=tO B v d w r (by omega);clear r p q;have C:∀(u:Fn) (first a:Array sA) (w:vF),(Instr.makeFunc u first a).run hE w=.ok (.func u first a) w:=fun _ _ _ _=>rfl
 go_enter Tryz.func94,Tryz.ntmps94
 go_wp2_with fail
 refine t.mono ?_
 clear t;rintro e f ⟨v',rfl,j,k⟩;have l:I3 (eJ (f.alloc (.cells #[v'] 110)) w.heap.size v' d∧Kb [] w (f.alloc (.cells #[v'] 110))∧(f.alloc (.cells #[v'] 110)).heap[f.heap.size]?=some (.cells #[v'] 110 (0,0))):=
  aA ⟨j.alloc _,k.alloc _,aD _ _⟩
 have y:=aA k.size;have z:∃g a,v'=.slice g d.length a:=by obtain⟨g,a,e,_⟩:=j.form;exact⟨g,a,e⟩
 obtain⟨g,a,rfl⟩:=z;clear j k;go_wp2;go_ret
 exact⟨_,_,rfl,y.out,l.out.2.2,⟨d,x,l.out.1,rfl⟩,l.out.2.1⟩
end
section
open Go.RowKit Go.Shelf
attribute [local go_sem] Oper.semAt_some
abbrev Mem(s:List Nat):={ x:Nat // x∈s }
def jO(s:List Nat)(x:Mem s):Array sA:=#[.int .u64 (x.1:Int)]
def KpB(L:List Nat)(W W':vF):Prop:=∀k∈L,W'.heap[k]?=W.heap[k]?
theorem KpB.refl(L:List Nat)(W:vF):KpB L W W:=fun _ _=>rfl
theorem KpB.trans{L:List Nat}{A B C:vF}(h:KpB L A B)(k:KpB L B C):KpB L A C:=fun i a=>(k i a).trans (h i a)
theorem wJ{ws:List Nat}{a:Nat}(m:a<ws.length):rC (ws.take (a+1))=rC (ws.take a)++(jN (ws.getD a 0)).map (64*a + ·):=by
 unfold rC;have e:(ws.take (a+1)).length=a+1:=by rw[Ji];omega
 have f:(ws.take a).length=a:=by rw[Ji];omega
 rw[e,f,Ko,List.flatMap_append];have g:∀j n,j<n→(ws.take n).getD j 0=ws.getD j 0:=by intro j n d;rw[E1,E1,JM d]
 congr 1
 ·have:∀(l:List Nat),(∀j∈l,j<a)→(l.flatMap fun b=>(jN ((ws.take (a+1)).getD b 0)).map (64*b + ·))=(l.flatMap fun b=>(jN ((ws.take a).getD b 0)).map (64*b + ·)):=by
   intro l;induction l with
   |nil=>intro _;rfl
   |cons c r i=>intro h;have k:=h c Bx;rw[Ls,Ls,i (fun j d=>h j (List.mem_cons_of_mem _ d)),g c (a+1) (by omega),g c a k]
  exact this _ (fun j d=>by simpa using d)
 ·simp only[Ls,List.flatMap_nil,JK];rw[g a (a+1) (by omega)]
theorem zI{ws:List Nat}{a:Nat}(e:a≤ws.length):∃r,rC (ws.take a)++r=rC ws:=by
 obtain⟨d,hd⟩:∃d,ws.length=a+d:=⟨ws.length-a,by omega⟩;induction d generalizing a with
 |zero=>exact⟨[],by rw[JK,I6 (by omega)]⟩
 |succ d b=>obtain⟨r,hr⟩:=b (a:=a+1) (by omega) (by omega);rw[wJ (by omega),JI]at hr;exact⟨_,hr⟩
structure InI(s ws:List Nat)(L:List Nat)(J:List (Mem s)→World→Prop)(W wr:World)(a r:Nat):Prop where
 r64:r<18446744073709551616
 ex:∃pre:List (Mem s),pre.map (·.1)++(jN r).map (64*a + ·)=rC (ws.take (a+1))∧J pre wr
 kp:KpB L W wr
theorem InI.next{s ws L:List Nat}{J:List (Mem s)→vF→Prop}{W wr:vF}{a r k m:Nat}(h:InI s ws L J W wr a r)(g:s=rC ws)(t:a<ws.length)(hr:r=2^k*(2*m+1)):∃(pre:List (Mem s)) (b:64*a+k∈s),J pre wr∧pre.length<s.length∧∀w',J (pre++[⟨64*a+k,b⟩]) w'→KpB L wr w'→InI s ws L J W w' a (r &&& (r-1)):=by
 obtain⟨pre,d,i⟩:=h.ex;have e:=Ba (k:=k) (m:=m) (by rw[← hr];exact h.r64);rw[← hr]at e;rw[e,List.map_cons]at d;obtain⟨q,j⟩:=zI (ws:=ws) (a:=a+1) (by omega);have f:pre.map (·.1)++((64*a+k)::(jN (r &&& (r-1))).map (64*a + ·))++q=s:=by rw[d,j,g]
 have b:64*a+k∈s:=by rw[← f];simp
 have l:pre.length<s.length:=by have:=congrArg List.length f;simp at this;omega
 refine⟨pre,b,i,l,fun w' o p=>⟨JQ LM h.r64,⟨pre++[⟨64*a+k,b⟩],?_,o⟩,h.kp.trans p⟩⟩;rw[← d];simp
theorem Gj(n l o B:Nat)(v:sA)(ws s L:List Nat)(A:s=rC ws)(J C:List (Mem s)→vF→Prop)
  (D:∀pre x W,J pre W→pre.length<s.length→YieldAt Kt (n-1) hE l (jO s x) W fun e W'=>
   (e=.returned (.bool true)∧J (pre++[x]) W'∧KpB L W W')∨(e=.returned (.bool false)∧C (pre++[x]) W'))
  (W:vF) (E:W.heap[o]?=some (.cells #[v] 110 (0,0))) (p:eJ W B v ws) (hl:ws.length≤2) (F:bN W) (U:∀g,v.ownBlock=some g→g∈L) (V:0∈L) (X:J [] W) :
  CallsIn Kt n hE 127 #[.func (.yield l) #[] #[],.pointer (some ⟨o,0,none⟩)] W fun e W'=>(∃v,e=.returned v) ∧
   ((∃xs,xs.map (·.1)=s∧J xs W')∨(∃pre,True∧C pre W')):=by
 have hc:W.cell? ⟨o,0,none⟩=some v:=by rw[aC E];rfl
 obtain⟨ao,a8,rfl,Y⟩:=p.form;have Z:=p.2;refine callsIn_of_wp Tryz.func127 rfl trivial ?_ rfl;simp only[Tryz.ntmps127,List.size_toArray,List.length_cons,List.length_nil,Nat.reduceAdd,Nat.reduceSub,Array.replicate_succ,Array.replicate_zero,List.push_toArray,List.append_toArray,Mk,List.cons_append];clear p E;gi_wp2
 gi_loopw [8] (fun q wr=>∃(a:Nat),q=.int .i64 a∧a≤ws.length∧I3 (KpB L W wr∧∃pre:List (Mem s),pre.map (·.1)=rC (ws.take a)∧J pre wr))
  (fun q _=>ws.length-(intOf q).toNat)
 case atStart=>exact⟨0,rfl,IM _,aA ⟨KpB.refl _ _,[],by simp[rC],X⟩⟩
 case round=>
  obtain⟨a,rfl,a9,j⟩:=hrel;by_cases t:a<ws.length
  ·obtain⟨x,f⟩:∃x,ws[a]?=some x:=⟨_,hZ t⟩;obtain⟨g,rfl,H,_⟩:=Y a x f;have a0:wr.cell? ⟨g,a,none⟩=some (.int .u64 (x:Int)):=(J3 (a:=⟨g,a,none⟩) (j.out.1 g (U g rfl))).trans H;have I:=Z x (IJ f);have K:I3 (InI s ws L J W wr a x):=by
    obtain⟨b,pre,d,m⟩:=j.out;refine aA ⟨I,⟨pre,?_,m⟩,b⟩;rw[d,wJ t];have:ws.getD a 0=x:=by simp[f]
    rw[this]
   clear j H f;gi_wp2
   gi_loopw [5] (fun u w1=>∃(r:Nat),u=.int .u64 (r:Int)∧I3 (InI s ws L J W w1 a r)) (fun u _=>(intOf u).toNat)
   case atStart=>exact⟨x,rfl,K.out⟩
   case round=>
    clear K a0 I;obtain⟨r,rfl,i⟩:=hrel;have y:=i.out.r64;by_cases M:r=0
    ·subst M;have HZ:I3 (KpB L W wr∧∃pre:List (Mem s),pre.map (·.1)=rC (ws.take (a+1))∧J pre wr):=by
      obtain⟨pre,b,d⟩:=i.out.ex;rw[oX]at b;exact aA ⟨i.out.kp,pre,by simpa using b,d⟩
     gi_wp2
     go_roundw
     case rel=>exact⟨a+1,by go_num,by omega,HZ⟩
     case measure=>simp[intOf];omega
    ·obtain⟨k,a1,e⟩:=EC r M;obtain⟨pre,f,b,d,m⟩:=i.out.next A t e
     have hk:k<64:=ED (by rw[← e];exact y);have N:bN wr:=F.of_heap (i.out.kp _ V);have O:=Hd r k a1 y e wr N;obtain⟨fn,a2,a3,a4,P,Q⟩:=D pre ⟨64*a+k,f⟩ wr b d;have aa:(Instr.yield l #[.int .u64 ((a:Int)*64+(k:Int))]).run hE wr=.ok (.round l fn a2 a3 a4) wr:=by
      have e2:((64*a+k:Nat):Int)=(a:Int)*64+(k:Int):=by omega
      have z:=P;dsimp only[jO]at z;rw[e2]at z;exact z
     have hand:=Oy r (r-1) y (by omega);have a5:((r-1:Nat):Int)=(r:Int)-1:=by omega
     rw[a5]at hand;have ab:¬((r:Nat):Int)=0:=by omega
     have HK:=aA m;have a6:=aA Q;clear P m b d N e F i Q D;gi_wp2
     refine⟨trivial,fun h=>(by cases h),?_⟩;refine(callsIn_wide.2 O).mono ?_
     clear O;rintro e w' ⟨rfl,rfl⟩;gi_wp2
     refine⟨fun h=>(by cases h),?_⟩;refine a6.out.mono ?_
     rintro e W3 (⟨rfl,R,S⟩|⟨rfl,T⟩)
     ·have HN:=aA (HK.out W3 R S);have HM:I3 (r &&& (r-1)<r):=aA (JQ Nat.and_le_right (by omega));clear R S;gi_wp2
      go_roundw
      case rel=>exact⟨_,rfl,HN⟩
      case measure=>simp[intOf];exact HM.out
     ·have HX:=aA T;clear T;gi_wp2
      refine bodyPost_ret (results_none rfl _ _ _) rfl ?_
      exact⟨⟨_,rfl⟩,.inr ⟨_,trivial,HX.out⟩⟩
  ·have a7:a=ws.length:=by omega
   subst a7;gi_wp2
   go_end0
   obtain⟨_,pre,b,d⟩:=j.out;exact⟨⟨_,rfl⟩,.inl ⟨pre,by rw[b,A,I6 (gO _)],d⟩⟩
theorem bZ(n a B:Nat)(v:sA)(s L:List Nat)(w:vF)(e:w.heap[a]?=some (.cells #[v] 110 (0,0)))(h:aO w B v s)(f:bN w)(i:∀g,v.ownBlock=some g→g∈L)(j:0∈L) :
  SeqStopsK Kt n hE 127 #[.pointer (some ⟨a,0,none⟩)] (jO s) (KpB L) (fun xs=>xs.map (·.1)=s) (fun _=>True) s.length w:=by
 intro l J k W m _ _ o p;obtain⟨q,d,r,rfl⟩:=h;have b:Kb [] w W:=Kb.gi m [];exact Gj n l a B v q _ L (Gi d).symm J k o W (b.heap e (by simp)) (r.kb b (by simp)) d (f.kb b (by simp)) i j p
theorem fZ{L:List Nat}{w:vF}(a:∀k∈L,k<w.heap.size)(W:vF)(l:Nat)(o b:Obj)(e:w.heap.size≤l)(_:W.heap[l]?=some o)(_:o.isCells=false)(_:o.isWalk=false):KpB L W (W.putObj l b):=by intro k d;have:=a k d;exact World.putObj_heap_other (by omega)
end
section
open Go.RowKit
abbrev TG:I1:=114
abbrev TNd:I1:=148
abbrev TL:I1:=170
structure GV where
 bg:Nat
 bn:Nat
 bl:Nat
 cap:Nat
 nv:List Value
 vs:Value
 vi:Value
 va:Value
 vn:Value
 vc:Value
 ab:List Nat
def pT(l:List sA):List Nat:=l.filterMap Jh
def GV.foot(G:GV):List Nat:=[G.bg,G.bn,G.bl]++pT G.nv++pT [G.vs,G.vi,G.va,G.vn,G.vc]
theorem Bb{l:List sA}{b:Nat}:b∈pT l↔∃v∈l,v.ownBlock=some b:=by simp[pT]
theorem aG{G:GV}{b:Nat}:b∈G.foot↔b=G.bg∨b=G.bn∨b=G.bl∨(∃v∈G.nv,v.ownBlock=some b)∨G.vs.ownBlock=some b∨G.vi.ownBlock=some b∨G.va.ownBlock=some b∨G.vn.ownBlock=some b∨G.vc.ownBlock=some b:=by
 unfold GV.foot;simp only[IK,Bb,sT,List.not_mem_nil,or_false];constructor
 ·rintro((h|h)|⟨v,h,e⟩)
  ·rcases h with h|h|h
   ·exact .inl h
   ·exact .inr (.inl h)
   ·exact .inr (.inr (.inl h))
  ·exact .inr (.inr (.inr (.inl h)))
  ·rcases h with rfl|rfl|rfl|rfl|rfl
   ·exact .inr (.inr (.inr (.inr (.inl e))))
   ·exact .inr (.inr (.inr (.inr (.inr (.inl e)))))
   ·exact .inr (.inr (.inr (.inr (.inr (.inr (.inl e))))))
   ·exact .inr (.inr (.inr (.inr (.inr (.inr (.inr (.inl e)))))))
   ·exact .inr (.inr (.inr (.inr (.inr (.inr (.inr (.inr e)))))))
 ·rintro(h|h|h|h|h|h|h|h|h)
  ·exact .inl (.inl (.inl h))
  ·exact .inl (.inl (.inr (.inl h)))
  ·exact .inl (.inl (.inr (.inr h)))
  ·exact .inl (.inr h)
  ·exact .inr ⟨_,.inl rfl,h⟩
  ·exact .inr ⟨_,.inr (.inl rfl),h⟩
  ·exact .inr ⟨_,.inr (.inr (.inl rfl)),h⟩
  ·exact .inr ⟨_,.inr (.inr (.inr (.inl rfl))),h⟩
  ·exact .inr ⟨_,.inr (.inr (.inr (.inr rfl))),h⟩
def mI(c:Way)(n:Nat)(G:GV)(un:Nat):Array sA:=#[.int .i64 c.order,.bool c.cycles,.bool c.collapse,.bool c.subst,.bool c.deltas,.slice (some ⟨G.bn,0,none⟩) n G.cap,G.va,.pointer (some ⟨G.bl,0,none⟩),G.vs,.int .i64 un]
def gG(c:Way)(G:GV):Array sA:=#[.int .i64 c.order,G.vi,G.vn,G.vc]
structure GM(w:World)(B:Nat)(c:Way)(n:Nat)(G:GV)(s:St):Prop where
 hB:B≤w.heap.size
 hbg:w.heap[G.bg]?=some (.cells (mI c n G s.un) TG (0,0))
 hbn:w.heap[G.bn]?=some (.cells G.nv.toArray TNd (0,0))
 hbl:w.heap[G.bl]?=some (.cells (gG c G) TL (0,0))
 lnv:G.nv.length=7*n
 lss:s.ss.length=7*n
 sN:∀(k:Nat) v t,G.nv[k]?=some v→s.ss[k]?=some t→aO w B v t
 sS:aO w B G.vs s.susp
 sI:aO w B G.vi s.inside
 aNN:∀(j k:Nat) v v',j≠k→G.nv[j]?=some v→G.nv[k]?=some v'→eR v v'
 aNS:∀(k:Nat) v,G.nv[k]?=some v→eR v G.vs
 aNI:∀(k:Nat) v,G.nv[k]?=some v→eR v G.vi
 aSI:eR G.vs G.vi
 oA:cI w B G.va G.ab
 cls:ClsR G.ab s.rep
 oN:cI w B G.vn s.now
 oC:cI w B G.vc s.come
 aAN:eR G.va G.vn
 aAC:eR G.va G.vc
 aCN:eR G.vn G.vc
 lo:B≤G.bg∧B≤G.bn∧B≤G.bl
 n40:n≤40
 lw:s.now.length≤1000∧s.come.length≤1000
 un:s.un<4611686018427387904
 ord:0≤c.order∧c.order≤2
structure GCh(w w':World)(G G':GV):Prop where
 kb:Kb G.foot w w'
 ft:∀b,b∈G'.foot→b∈G.foot∨w.heap.size≤b
 e1:G'.bg=G.bg
 e2:G'.bn=G.bn
 e3:G'.bl=G.bl
theorem GCh.refl(w:vF)(G:GV):GCh w w G G:=⟨Kb.refl _ _,fun _ h=>.inl h,rfl,rfl,rfl⟩
theorem GCh.trans{w w' d:vF}{G e f:GV}(h:GCh w w' G e)(k:GCh w' d e f):GCh w d G f:=by
 refine⟨⟨k.kb.os.trans h.kb.os,k.kb.tape.trans h.kb.tape,k.kb.output.trans h.kb.output,IH h.kb.size k.kb.size,fun j g i=>?_⟩,fun b l=>?_,k.e1.trans h.e1,k.e2.trans h.e2,k.e3.trans h.e3⟩
 ·refine(k.kb.block j (A2 g h.kb.size) (fun m=>?_)).trans (h.kb.block j g i);rcases h.ft j m with a|a
  ·exact i a
  ·omega
 ·rcases k.ft b l with a|a
  ·exact h.ft b a
  ·exact .inr (IH h.kb.size a)
theorem aP{w:vF}{a b:Nat}{c i:Array sA}{T g:I1}{f j:Nat × Nat}(h:w.heap[a]?=some (.cells c T f))(d:w.heap[b]?=some (.cells i g j))(k:T≠g):a≠b:=by intro e;subst e;rw[h]at d;injection d with d;injection d with _ l _;exact k l
theorem cI.block{w:vF}{B:Nat}{v:sA}{xs:List Nat}(h:cI w B v xs){g:Nat}(a:v.ownBlock=some g):∃c,w.heap[g]?=some (.cells c TN (0,0)):=by
 rcases h.1.2 with⟨rfl,_⟩|⟨d,e,f,rfl,_,b,_⟩
 ·cases a
 ·cases a;exact⟨_,b⟩
theorem eJ.block{w:vF}{B:Nat}{v:sA}{xs:List Nat}(h:eJ w B v xs){g:Nat}(a:v.ownBlock=some g):∃c,w.heap[g]?=some (.cells c T64 (0,0)):=by
 rcases h.1.2 with⟨rfl,_⟩|⟨d,e,f,rfl,_,b,_⟩
 ·cases a
 ·cases a;exact⟨_,b⟩
theorem aO.block{w:vF}{B:Nat}{v:sA}{s:List Nat}(h:aO w B v s){g:Nat}(a:v.ownBlock=some g):∃c,w.heap[g]?=some (.cells c T64 (0,0)):=by obtain⟨d,_,b,_⟩:=h;exact b.block a
theorem GM.cells{w:vF}{B:Nat}{c:Way}{n:Nat}{G:GV}{s:St}(h:GM w B c n G s){b:Nat}(i:b∈G.foot):B≤b∧∃a T,w.heap[b]?=some (.cells a T (0,0)):=by
 rcases aG.1 i with rfl|rfl|rfl|⟨v,j,e⟩|e|e|e|e|e
 ·exact⟨h.lo.1,_,_,h.hbg⟩
 ·exact⟨h.lo.2.1,_,_,h.hbn⟩
 ·exact⟨h.lo.2.2,_,_,h.hbl⟩
 ·obtain⟨k,f⟩:=J0.1 j;have l:=(II.1 f).1;obtain⟨t,m⟩:∃t,s.ss[k]?=some t:=⟨_,hZ (by rw[h.lss,← h.lnv];exact l)⟩;have g:=h.sN k v t f m;obtain⟨a,d⟩:=g.block e;exact⟨(g.lt e).1,a,_,d⟩
 ·obtain⟨a,d⟩:=h.sS.block e;exact⟨(h.sS.lt e).1,a,_,d⟩
 ·obtain⟨a,d⟩:=h.sI.block e;exact⟨(h.sI.lt e).1,a,_,d⟩
 ·obtain⟨a,d⟩:=h.oA.block e;exact⟨(h.oA.lt e).1,a,_,d⟩
 ·obtain⟨a,d⟩:=h.oN.block e;exact⟨(h.oN.lt e).1,a,_,d⟩
 ·obtain⟨a,d⟩:=h.oC.block e;exact⟨(h.oC.lt e).1,a,_,d⟩
theorem GM.beside{w w':vF}{B:Nat}{c:Way}{n:Nat}{G:GV}{s:St}(h:GM w B c n G s){L:List Nat}(a:Kb L w w')(j:∀b∈L,b ∉ G.foot):GM w' B c n G s:=by
 have d:∀ {v:sA},(∀b,v.ownBlock=some b→b∈G.foot)→∀g∈L,v.ownBlock≠some g:=fun f g l e=>j g l (f g e)
 have i:∀ {b:Nat},b∈G.foot→b ∉ L:=fun m o=>j _ o m
 have p:G.bg∈G.foot:=aG.2 (.inl rfl);have q:G.bn∈G.foot:=aG.2 (.inr (.inl rfl));have r:G.bl∈G.foot:=aG.2 (.inr (.inr (.inl rfl)));refine⟨IH h.hB a.size,a.heap h.hbg (i p),a.heap h.hbn (i q),a.heap h.hbl (i r),h.lnv,h.lss,fun k v t f u=>(h.sN k v t f u).kb a (d (fun b e=>aG.2 (.inr (.inr (.inr (.inl ⟨v,IJ f,e⟩)))))),
  h.sS.kb a (d (fun b e=>aG.2 (.inr (.inr (.inr (.inr (.inl e))))))),h.sI.kb a (d (fun b e=>aG.2 (.inr (.inr (.inr (.inr (.inr (.inl e)))))))),h.aNN,h.aNS,h.aNI,h.aSI,h.oA.kb a (d (fun b e=>aG.2 (.inr (.inr (.inr (.inr (.inr (.inr (.inl e))))))))),h.cls,
  h.oN.kb a (d (fun b e=>aG.2 (.inr (.inr (.inr (.inr (.inr (.inr (.inr (.inl e)))))))))),h.oC.kb a (d (fun b e=>aG.2 (.inr (.inr (.inr (.inr (.inr (.inr (.inr (.inr e)))))))))),h.aAN,h.aAC,h.aCN,h.lo,h.n40,h.lw,h.un,h.ord⟩
theorem GM.fresh{w w':vF}{B:Nat}{c:Way}{n:Nat}{G:GV}{s:St}(h:GM w B c n G s)(a:Kb [] w w'):GM w' B c n G s:=h.beside a (by simp)
end
section
open Go.RowKit
variable {w w':World} {B:Nat} {c:Way} {n:Nat} {G:GV} {s:St}
theorem SetCh.ig{b o:Nat}{d:Array sA}{T:I1}{v v' u:sA}{t:List Nat}(h:SetCh w w' b o d T v v')(e:aO w B u t)(h1:u.ownBlock≠some b)(h2:eR v u):aO w' B u t:=by
 refine e.kb h.kb fun g a=>?_
 rcases sT.1 a with rfl|a
 ·exact h1
 ·simp at a;exact h2 g a
theorem SetCh.gw{b o:Nat}{d:Array sA}{T:I1}{v v' u:sA}{t:List Nat}(h:SetCh w w' b o d T v v')(e:cI w B u t)(h1:u.ownBlock≠some b)(h2:eR v u):cI w' B u t:=by
 refine e.kb h.kb fun g a=>?_
 rcases sT.1 a with rfl|a
 ·exact h1
 ·simp at a;exact h2 g a
theorem SetCh.ib{b o a:Nat}{f:Array sA}{T:I1}{v v':sA}{O:Obj}(h:SetCh w w' b o f T v v')(g:w.heap[a]?=some O)(h1:a≠b)(h2:v.ownBlock≠some a):w'.heap[a]?=some O:=by
 refine h.kb.heap g fun d=>?_
 rcases sT.1 d with e|d
 ·exact h1 e
 ·simp at d;exact h2 d
theorem SetCh.gj{b o:Nat}{f:Array sA}{T:I1}{v v' u:sA}(h:SetCh w w' b o f T v v')(h2:eR v u)(i:∀g,u.ownBlock=some g→g<w.heap.size):eR v' u:=by
 intro g a e;rcases h.lies with d|⟨j,d,k⟩
 ·exact h2 g (by rw[← d];exact a) e
 ·rw[d]at a;cases a;have:=i g e;omega
theorem gF{v u:sA}{t xs:List Nat}(h1:aO w B v t)(h2:cI w B u xs):eR v u:=by intro g a b;obtain⟨_,d⟩:=h1.block a;obtain⟨_,e⟩:=h2.block b;exact aP d e (by decide) rfl
theorem lK{b o:Nat}{j:Array sA}{T:I1}{v v':sA}(h:SetCh w w' b o j T v v')(l:b∈G.foot)(i:∀g,v.ownBlock=some g→g∈G.foot){a:GV}(m:a.bg=G.bg)(p:a.bn=G.bn)(q:a.bl=G.bl)(r:∀x,x∈a.foot→x∈G.foot∨v'.ownBlock=some x):GCh w w' G a:=by
 refine⟨h.kb.mono (fun k _ f=>?_),fun x t=>?_,m,p,q⟩
 ·rcases sT.1 f with rfl|f
  ·exact l
  ·simp at f;exact i k f
 ·rcases r x t with d|d
  ·exact .inl d
  ·rcases h.lies with e|⟨g,e,u⟩
   ·exact .inl (i x (by rw[← e];exact d))
   ·rw[e]at d;cases d;exact .inr u
theorem GM.j8(h:GM w B c n G s){k:Nat}{v v':sA}{t:List Nat}(d:G.nv[k]?=some v)(b:SetCh w w' G.bn k G.nv.toArray TNd v v')(D:aO w' B v' t):GM w' B c n { G with nv:=G.nv.set k v' } (s.put k t)∧GCh w w' G { G with nv:=G.nv.set k v' }:=by
 have y:=(II.1 d).1;obtain⟨E,F⟩:∃t,s.ss[k]?=some t:=⟨_,hZ (by rw[h.lss,← h.lnv];exact y)⟩;have q:=h.sN k v E d F;have o:∀(j:Nat) u,(G.nv.set k v')[j]?=some u→(j=k∧u=v')∨(j≠k∧G.nv[j]?=some u):=by
  intro j u a;by_cases e:j=k
  ·subst e;rw[Kv y]at a;injection a with a;exact .inl ⟨rfl,a.symm⟩
  ·rw[Jt (Ne.symm e)]at a;exact .inr ⟨e,a⟩
 have C:∀(j:Nat) u,G.nv[j]?=some u→∀g,u.ownBlock=some g→g<w.heap.size:=by intro j u a g p;have H:=(II.1 a).1;obtain⟨z,m⟩:∃t,s.ss[j]?=some t:=⟨_,hZ (by rw[h.lss,← h.lnv];exact H)⟩;exact((h.sN j u z a m).lt p).2
 refine⟨⟨IH h.hB b.kb.size,?_,?_,?_,by simpa using h.lnv,by simpa[St.put]using h.lss,?_,?_,?_,?_,?_,?_,h.aSI,?_,h.cls,?_,?_,h.aAN,h.aAC,h.aCN,h.lo,h.n40,h.lw,h.un,h.ord⟩,?_⟩
 ·exact b.ib h.hbg (aP h.hbg h.hbn (by decide)) (q.ne h.hbg (by decide))
 ·have:=b.blk;rw[this];simp[List.setIfInBounds_toArray]
 ·exact b.ib h.hbl (aP h.hbl h.hbn (by decide)) (q.ne h.hbl (by decide))
 ·intro j u z a m;rcases o j u a with⟨rfl,rfl⟩|⟨f,a⟩
  ·have e:(s.put j t).ss[j]?=some t:=by simp[St.put,h.lss,← h.lnv,y]
   rw[e]at m;injection m with m;subst m;exact D
  ·have e:(s.put k t).ss[j]?=s.ss[j]?:=by simp[St.put,Jt (Ne.symm f)]
   rw[e]at m;have l:=h.sN j u z a m;exact b.ig l (l.ne h.hbn (by decide)) (h.aNN k j v u (Ne.symm f) d a)
 ·exact b.ig h.sS (h.sS.ne h.hbn (by decide)) (h.aNS k v d)
 ·exact b.ig h.sI (h.sI.ne h.hbn (by decide)) (h.aNI k v d)
 ·intro i j u r A a l;rcases o i u a with⟨rfl,rfl⟩|⟨I,a⟩
  ·rcases o j r l with⟨rfl,_⟩|⟨f,l⟩
   ·exact absurd rfl A
   ·exact b.gj (h.aNN i j v r A d l) (C j r l)
  ·rcases o j r l with⟨L,J⟩|⟨f,l⟩
   ·rw[J];exact(b.gj (h.aNN k i v u (fun e=>I e.symm) d a) (C i u a)).symm
   ·exact h.aNN i j u r A a l
 ·intro j u a;rcases o j u a with⟨rfl,rfl⟩|⟨f,a⟩
  ·exact b.gj (h.aNS j v d) (fun g p=>(h.sS.lt p).2)
  ·exact h.aNS j u a
 ·intro j u a;rcases o j u a with⟨rfl,rfl⟩|⟨f,a⟩
  ·exact b.gj (h.aNI j v d) (fun g p=>(h.sI.lt p).2)
  ·exact h.aNI j u a
 ·exact b.gw h.oA (h.oA.ne h.hbn (by decide)) (gF q h.oA)
 ·exact b.gw h.oN (h.oN.ne h.hbn (by decide)) (gF q h.oN)
 ·exact b.gw h.oC (h.oC.ne h.hbn (by decide)) (gF q h.oC)
 ·refine lK b (aG.2 (.inr (.inl rfl))) (fun g p=>aG.2 (.inr (.inr (.inr (.inl ⟨v,IJ d,p⟩))))) rfl rfl rfl (fun x K=>?_);rcases aG.1 K with e|e|e|⟨u,a,e⟩|e
  ·exact .inl (aG.2 (.inl e))
  ·exact .inl (aG.2 (.inr (.inl e)))
  ·exact .inl (aG.2 (.inr (.inr (.inl e))))
  ·obtain⟨j,f⟩:=J0.1 a;rcases o j u f with⟨_,rfl⟩|⟨_,f⟩
   ·exact .inr e
   ·exact .inl (aG.2 (.inr (.inr (.inr (.inl ⟨u,IJ f,e⟩)))))
  ·exact .inl (aG.2 (.inr (.inr (.inr (.inr e)))))
theorem GM.lg(h:GM w B c n G s){v':sA}{t:List Nat}(a:SetCh w w' G.bg 8 (mI c n G s.un) TG G.vs v')(l:aO w' B v' t):GM w' B c n { G with vs:=v' } { s with susp:=t }∧GCh w w' G { G with vs:=v' }:=by
 refine⟨⟨IH h.hB a.kb.size,?_,?_,?_,h.lnv,h.lss,?_,l,?_,h.aNN,?_,h.aNI,?_,?_,h.cls,?_,?_,h.aAN,h.aAC,h.aCN,h.lo,h.n40,h.lw,h.un,h.ord⟩,?_⟩
 ·rw[a.blk];rfl
 ·exact a.ib h.hbn (aP h.hbn h.hbg (by decide)) (h.sS.ne h.hbn (by decide))
 ·exact a.ib h.hbl (aP h.hbl h.hbg (by decide)) (h.sS.ne h.hbl (by decide))
 ·intro k v f b i;have j:=h.sN k v f b i;exact a.ig j (j.ne h.hbg (by decide)) (h.aNS k v b).symm
 ·exact a.ig h.sI (h.sI.ne h.hbg (by decide)) h.aSI
 ·intro k v b;refine(a.gj (h.aNS k v b).symm (fun g d=>?_)).symm;have m:=(II.1 b).1;obtain⟨f,i⟩:∃t,s.ss[k]?=some t:=⟨_,hZ (by rw[h.lss,← h.lnv];exact m)⟩;exact((h.sN k v f b i).lt d).2
 ·exact a.gj h.aSI (fun g d=>(h.sI.lt d).2)
 ·exact a.gw h.oA (h.oA.ne h.hbg (by decide)) (gF h.sS h.oA)
 ·exact a.gw h.oN (h.oN.ne h.hbg (by decide)) (gF h.sS h.oN)
 ·exact a.gw h.oC (h.oC.ne h.hbg (by decide)) (gF h.sS h.oC)
 ·refine lK a (aG.2 (.inl rfl)) (fun g d=>aG.2 (.inr (.inr (.inr (.inr (.inl d)))))) rfl rfl rfl (fun x o=>?_);rcases aG.1 o with e|e|e|e|e|e
  ·exact .inl (aG.2 (.inl e))
  ·exact .inl (aG.2 (.inr (.inl e)))
  ·exact .inl (aG.2 (.inr (.inr (.inl e))))
  ·exact .inl (aG.2 (.inr (.inr (.inr (.inl e)))))
  ·exact .inr e
  ·exact .inl (aG.2 (.inr (.inr (.inr (.inr (.inr e))))))
theorem GM.lj(h:GM w B c n G s){v':sA}{t:List Nat}(a:SetCh w w' G.bl 1 (gG c G) TL G.vi v')(l:aO w' B v' t):GM w' B c n { G with vi:=v' } { s with inside:=t }∧GCh w w' G { G with vi:=v' }:=by
 refine⟨⟨IH h.hB a.kb.size,?_,?_,?_,h.lnv,h.lss,?_,?_,l,h.aNN,h.aNS,?_,?_,?_,h.cls,?_,?_,h.aAN,h.aAC,h.aCN,h.lo,h.n40,h.lw,h.un,h.ord⟩,?_⟩
 ·exact a.ib h.hbg (aP h.hbg h.hbl (by decide)) (h.sI.ne h.hbg (by decide))
 ·exact a.ib h.hbn (aP h.hbn h.hbl (by decide)) (h.sI.ne h.hbn (by decide))
 ·rw[a.blk];rfl
 ·intro k v f b i;have j:=h.sN k v f b i;exact a.ig j (j.ne h.hbl (by decide)) (h.aNI k v b).symm
 ·exact a.ig h.sS (h.sS.ne h.hbl (by decide)) h.aSI.symm
 ·intro k v b;refine(a.gj (h.aNI k v b).symm (fun g d=>?_)).symm;have m:=(II.1 b).1;obtain⟨f,i⟩:∃t,s.ss[k]?=some t:=⟨_,hZ (by rw[h.lss,← h.lnv];exact m)⟩;exact((h.sN k v f b i).lt d).2
 ·exact(a.gj h.aSI.symm (fun g d=>(h.sS.lt d).2)).symm
 ·exact a.gw h.oA (h.oA.ne h.hbl (by decide)) (gF h.sI h.oA)
 ·exact a.gw h.oN (h.oN.ne h.hbl (by decide)) (gF h.sI h.oN)
 ·exact a.gw h.oC (h.oC.ne h.hbl (by decide)) (gF h.sI h.oC)
 ·refine lK a (aG.2 (.inr (.inr (.inl rfl)))) (fun g d=>aG.2 (.inr (.inr (.inr (.inr (.inr (.inl d))))))) rfl rfl rfl (fun x o=>?_);rcases aG.1 o with e|e|e|e|e|e|e
  ·exact .inl (aG.2 (.inl e))
  ·exact .inl (aG.2 (.inr (.inl e)))
  ·exact .inl (aG.2 (.inr (.inr (.inl e))))
  ·exact .inl (aG.2 (.inr (.inr (.inr (.inl e)))))
  ·exact .inl (aG.2 (.inr (.inr (.inr (.inr (.inl e))))))
  ·exact .inr e
  ·exact .inl (aG.2 (.inr (.inr (.inr (.inr (.inr (.inr e)))))))
theorem GM.jc(h:GM w B c n G s){b o:Nat}{i:Array sA}{T:I1}{v v':sA}{xs:List Nat}(a:SetCh w w' b o i T v v')(d:w.heap[b]?=some (.cells i T (0,0)))(e:T≠T64)(f:cI w B v xs):(∀(k:Nat) u t,G.nv[k]?=some u→s.ss[k]?=some t→aO w' B u t)∧aO w' B G.vs s.susp∧aO w' B G.vi s.inside:=by refine⟨fun k u t j l=>?_,a.ig h.sS (h.sS.ne d e) (gF h.sS f).symm,a.ig h.sI (h.sI.ne d e) (gF h.sI f).symm⟩;have g:=h.sN k u t j l;exact a.ig g (g.ne d e) (gF g f).symm
theorem GM.j9(h:GM w B c n G s){v':sA}{d:List Nat}{f:Nat→Nat}(a:SrInv w w' B G.bg 6 (mI c n G s.un) TG G.va f d v'):GM w' B c n { G with va:=v',ab:=d } { s with rep:=f }∧GCh w w' G { G with va:=v',ab:=d }:=by
 obtain⟨i,j,k⟩:=h.jc a.ch h.hbg (by decide) h.oA;refine⟨⟨IH h.hB a.ch.kb.size,?_,?_,?_,h.lnv,h.lss,i,j,k,h.aNN,h.aNS,h.aNI,h.aSI,a.own,a.cls,?_,?_,?_,?_,h.aCN,h.lo,h.n40,h.lw,h.un,h.ord⟩,?_⟩
 ·rw[a.ch.blk];rfl
 ·exact a.ch.ib h.hbn (aP h.hbn h.hbg (by decide)) (h.oA.ne h.hbn (by decide))
 ·exact a.ch.ib h.hbl (aP h.hbl h.hbg (by decide)) (h.oA.ne h.hbl (by decide))
 ·exact a.ch.gw h.oN (h.oN.ne h.hbg (by decide)) h.aAN
 ·exact a.ch.gw h.oC (h.oC.ne h.hbg (by decide)) h.aAC
 ·exact a.ch.gj h.aAN (fun g b=>(h.oN.lt b).2)
 ·exact a.ch.gj h.aAC (fun g b=>(h.oC.lt b).2)
 ·refine lK a.ch (aG.2 (.inl rfl)) (fun g b=>aG.2 (.inr (.inr (.inr (.inr (.inr (.inr (.inl b)))))))) rfl rfl rfl (fun x l=>?_);rcases aG.1 l with e|e|e|e|e|e|e|e
  ·exact .inl (aG.2 (.inl e))
  ·exact .inl (aG.2 (.inr (.inl e)))
  ·exact .inl (aG.2 (.inr (.inr (.inl e))))
  ·exact .inl (aG.2 (.inr (.inr (.inr (.inl e)))))
  ·exact .inl (aG.2 (.inr (.inr (.inr (.inr (.inl e))))))
  ·exact .inl (aG.2 (.inr (.inr (.inr (.inr (.inr (.inl e)))))))
  ·exact .inr e
  ·exact .inl (aG.2 (.inr (.inr (.inr (.inr (.inr (.inr (.inr e))))))))
theorem GM.jk(h:GM w B c n G s){v':sA}{l:List Nat}(a:SetCh w w' G.bl 2 (gG c G) TL G.vn v')(d:cI w' B v' l)(f:l.length≤1000):GM w' B c n { G with vn:=v' } { s with now:=l }∧GCh w w' G { G with vn:=v' }:=by
 obtain⟨i,j,k⟩:=h.jc a h.hbl (by decide) h.oN;refine⟨⟨IH h.hB a.kb.size,?_,?_,?_,h.lnv,h.lss,i,j,k,h.aNN,h.aNS,h.aNI,h.aSI,?_,h.cls,d,?_,?_,h.aAC,?_,h.lo,h.n40,⟨f,h.lw.2⟩,h.un,h.ord⟩,?_⟩
 ·exact a.ib h.hbg (aP h.hbg h.hbl (by decide)) (h.oN.ne h.hbg (by decide))
 ·exact a.ib h.hbn (aP h.hbn h.hbl (by decide)) (h.oN.ne h.hbn (by decide))
 ·rw[a.blk];rfl
 ·exact a.gw h.oA (h.oA.ne h.hbl (by decide)) h.aAN.symm
 ·exact a.gw h.oC (h.oC.ne h.hbl (by decide)) h.aCN
 ·exact(a.gj h.aAN.symm (fun g b=>(h.oA.lt b).2)).symm
 ·exact a.gj h.aCN (fun g b=>(h.oC.lt b).2)
 ·refine lK a (aG.2 (.inr (.inr (.inl rfl)))) (fun g b=>aG.2 (.inr (.inr (.inr (.inr (.inr (.inr (.inr (.inl b))))))))) rfl rfl rfl (fun x m=>?_);rcases aG.1 m with e|e|e|e|e|e|e|e|e
  ·exact .inl (aG.2 (.inl e))
  ·exact .inl (aG.2 (.inr (.inl e)))
  ·exact .inl (aG.2 (.inr (.inr (.inl e))))
  ·exact .inl (aG.2 (.inr (.inr (.inr (.inl e)))))
  ·exact .inl (aG.2 (.inr (.inr (.inr (.inr (.inl e))))))
  ·exact .inl (aG.2 (.inr (.inr (.inr (.inr (.inr (.inl e)))))))
  ·exact .inl (aG.2 (.inr (.inr (.inr (.inr (.inr (.inr (.inl e))))))))
  ·exact .inr e
  ·exact .inl (aG.2 (.inr (.inr (.inr (.inr (.inr (.inr (.inr (.inr e)))))))))
theorem GM.lr(h:GM w B c n G s){v':sA}{l:List Nat}(a:SetCh w w' G.bl 3 (gG c G) TL G.vc v')(d:cI w' B v' l)(f:l.length≤1000):GM w' B c n { G with vc:=v' } { s with come:=l }∧GCh w w' G { G with vc:=v' }:=by
 obtain⟨i,j,k⟩:=h.jc a h.hbl (by decide) h.oC;refine⟨⟨IH h.hB a.kb.size,?_,?_,?_,h.lnv,h.lss,i,j,k,h.aNN,h.aNS,h.aNI,h.aSI,?_,h.cls,?_,d,h.aAN,?_,?_,h.lo,h.n40,⟨h.lw.1,f⟩,h.un,h.ord⟩,?_⟩
 ·exact a.ib h.hbg (aP h.hbg h.hbl (by decide)) (h.oC.ne h.hbg (by decide))
 ·exact a.ib h.hbn (aP h.hbn h.hbl (by decide)) (h.oC.ne h.hbn (by decide))
 ·rw[a.blk];rfl
 ·exact a.gw h.oA (h.oA.ne h.hbl (by decide)) h.aAC.symm
 ·exact a.gw h.oN (h.oN.ne h.hbl (by decide)) h.aCN.symm
 ·exact(a.gj h.aAC.symm (fun g b=>(h.oA.lt b).2)).symm
 ·exact(a.gj h.aCN.symm (fun g b=>(h.oN.lt b).2)).symm
 ·refine lK a (aG.2 (.inr (.inr (.inl rfl)))) (fun g b=>aG.2 (.inr (.inr (.inr (.inr (.inr (.inr (.inr (.inr b))))))))) rfl rfl rfl (fun x m=>?_);rcases aG.1 m with e|e|e|e|e|e|e|e|e
  ·exact .inl (aG.2 (.inl e))
  ·exact .inl (aG.2 (.inr (.inl e)))
  ·exact .inl (aG.2 (.inr (.inr (.inl e))))
  ·exact .inl (aG.2 (.inr (.inr (.inr (.inl e)))))
  ·exact .inl (aG.2 (.inr (.inr (.inr (.inr (.inl e))))))
  ·exact .inl (aG.2 (.inr (.inr (.inr (.inr (.inr (.inl e)))))))
  ·exact .inl (aG.2 (.inr (.inr (.inr (.inr (.inr (.inr (.inl e))))))))
  ·exact .inl (aG.2 (.inr (.inr (.inr (.inr (.inr (.inr (.inr (.inl e)))))))))
  ·exact .inr e
theorem GM.kr(h:GM w B c n G s)(i:s.un+1<4611686018427387904):GM (w.setCell ⟨G.bg,9,none⟩ (.int .i64 ((s.un:Int)+1))) B c n G { s with un:=s.un+1 }∧GCh w (w.setCell ⟨G.bg,9,none⟩ (.int .i64 ((s.un:Int)+1))) G G:=by
 have a:Kb [G.bg] w (w.setCell ⟨G.bg,9,none⟩ (.int .i64 ((s.un:Int)+1))):=(Kb.refl _ _).setCell (p:=⟨G.bg,9,none⟩) (.inl (by simp)) _;have d:∀ {v:sA},v.ownBlock≠some G.bg→∀g∈[G.bg],v.ownBlock≠some g:=fun e g j=>by rw[A1.1 j];exact e
 refine⟨⟨IH h.hB a.size,?_,a.heap h.hbn ?_,a.heap h.hbl ?_,h.lnv,h.lss,fun k v t e f=>(h.sN k v t e f).kb a (d ((h.sN k v t e f).ne h.hbg (by decide))),h.sS.kb a (d (h.sS.ne h.hbg (by decide))),h.sI.kb a (d (h.sI.ne h.hbg (by decide))),h.aNN,h.aNS,h.aNI,h.aSI,
  h.oA.kb a (d (h.oA.ne h.hbg (by decide))),h.cls,h.oN.kb a (d (h.oN.ne h.hbg (by decide))),h.oC.kb a (d (h.oC.ne h.hbg (by decide))),h.aAN,h.aAC,h.aCN,h.lo,h.n40,h.lw,i,h.ord⟩,a.mono (fun k _ l=>by rw[A1.1 l];exact aG.2 (.inl rfl)),fun b m=>.inl m,rfl,rfl,rfl⟩
 ·rw[aI h.hbg];simp[mI]
 ·simp;exact aP h.hbn h.hbg (by decide)
 ·simp;exact aP h.hbl h.hbg (by decide)
end
section
structure WF(n:Nat)(s:St):Prop where
 hn:n≤40
 len:s.ss.length=7*n
 nd:(s.now++s.come).Nodup
 ins:∀x,x∈s.now++s.come→x∈s.inside
 inb:∀x,x∈s.inside→x<n
 bd:∀k x,x∈s.ss.getD k []→x<n
 sus:∀x,x∈s.susp→x<n
 rep:∀i,s.rep i≤i
variable {n:Nat} {s:St}
theorem WF.lt(h:WF n s){i:Nat}(a:i<n):s.rep i<n:=JQ (h.rep i) a
theorem Dc:∀(m:Nat) (l:List Nat),l.Nodup→(∀x,x∈l→x<m)→l.length≤m:=by
 intro m;induction m with
 |zero=>
  intro l _ h;cases l with
  |nil=>simp
  |cons a r=>exact absurd (h a Bx) (by omega)
 |succ m b=>
  intro l g h;have d:=b (l.filter (· != m)) (g.filter _) (fun x f=>by
   obtain⟨d,i⟩:=Li.1 f;have:=h x d;simp at i;omega)
  have i:l.length≤(l.filter (· != m)).length+1:=by
   clear b h d;induction l with
   |nil=>simp
   |cons a r b=>
    have hr:=List.nodup_cons.1 g;by_cases e:a=m
    ·subst e;have:r.filter (· != a)=r:=by
      rw[Mf];intro x f;simp;exact fun j=>hr.1 (j ▸ f)
     simp[this]
    ·have:=b hr.2;simp[e];omega
  omega
theorem WF.lens(h:WF n s):s.now.length≤40∧s.come.length≤40:=by have:=Dc n _ h.nd (fun x a=>h.inb x (h.ins x a));have:=h.hn;rw[A4]at *;omega
theorem WF.put(h:WF n s){k:Nat}{t:List Nat}(b:k<7*n)(d:∀x,x∈t→x<n):WF n (s.put k t):=by
 refine⟨h.hn,by rw[St.put_len];exact h.len,h.nd,h.ins,h.inb,fun j x a=>?_,h.sus,h.rep⟩;rw[St.put_get (by rw[h.len];exact b)]at a;split at a
 ·exact d x a
 ·exact h.bd j x a
theorem WF.un(h:WF n s)(u:Nat):WF n { s with un:=u }:=⟨h.hn,h.len,h.nd,h.ins,h.inb,h.bd,h.sus,h.rep⟩
theorem WF.susp(h:WF n s){t:List Nat}(a:∀x,x∈t→x<n):WF n { s with susp:=t }:=⟨h.hn,h.len,h.nd,h.ins,h.inb,h.bd,a,h.rep⟩
theorem WF.wait(h:WF n s){m:Nat}(g:m<n):WF n (s.wait m):=by
 have k:=h.hn;unfold St.wait;split
 ·exact h
 ·rename_i f;have f:¬m∈s.inside:=by simpa using f
  refine⟨h.hn,h.len,?_,?_,?_,h.bd,h.sus,h.rep⟩
  ·show(s.now++(s.come++[m])).Nodup;rw[← JI];rw[List.nodup_append];refine⟨h.nd,by simp,?_⟩;intro a i b j e;rw[A1.1 j]at e;subst e;exact f (h.ins a i)
  ·intro x d;have d:x∈s.now++(s.come++[m]):=d;rw[← JI]at d;rcases IK.1 d with d|d
   ·have:=h.ins x d;have:=h.inb x this;exact bA.2 ⟨by omega,.inr (h.ins x d)⟩
   ·rw[A1.1 d];exact bA.2 ⟨by omega,.inl rfl⟩
  ·intro x d;rcases(bA.1 d).2 with rfl|d
   ·exact g
   ·exact h.inb x d
theorem WF.drop(h:WF n s)(m:Nat):WF n (s.drop m):=by
 have e:=h.hn;refine⟨h.hn,h.len,?_,?_,?_,h.bd,h.sus,h.rep⟩
 ·show(s.now.filter (· != m)++s.come.filter (· != m)).Nodup;rw[← Kr];exact h.nd.filter _
 ·intro x a;have a:x∈s.now.filter (· != m)++s.come.filter (· != m):=a;rw[← Kr]at a;obtain⟨b,d⟩:=Li.1 a;have:=h.inb x (h.ins x b);exact iN.2 ⟨by omega,by simpa using d,h.ins x b⟩
 ·intro x a;exact h.inb x (iN.1 a).2.2
theorem WF.suspect(h:WF n s){f j:Nat}(b:f<n)(d:j<n):WF n (s.suspect f j):=by
 unfold St.suspect;split
 ·refine(h.put (k:=7*f+6) (by omega) ?_).susp ?_
  ·intro x a;rcases(bA.1 a).2 with rfl|a
   ·exact d
   ·exact h.bd _ x a
  ·intro x a;rcases(bA.1 a).2 with rfl|a
   ·exact b
   ·exact h.sus x a
 ·exact h
theorem WF.hand(h:WF n s){c:Way}{T:List Nat}{f j:Nat}(e:f<n)(d:j<n)(g:∀x,x∈T→x<n):WF n (s.hand c T f j):=by
 have b:WF n (({ s with un:=s.un+1 }:St).put (7*j) (cP (s.tg j) T)):=by
  refine(h.un _).put (by omega) ?_
  intro x a;rcases(bR.1 a).2 with a|a
  ·exact h.bd _ x a
  ·exact g x a
 unfold St.hand;simp only[];split
 ·exact b.wait d
 ·split
  ·exact b.suspect e d
  ·exact b
theorem St.jh(s:St)(f j:Nat):(s.suspect f j).un=s.un:=by unfold St.suspect;split<;>rfl
theorem St.ir(s:St)(c:Way)(T:List Nat)(f j:Nat):(s.hand c T f j).un=s.un+1:=by
 unfold St.hand;simp only[];split
 ·rw[St.wait_un];rfl
 ·split
  ·rw[St.jh];rfl
  ·rfl
theorem WF.link(h:WF n s){c:Way}{f j:Nat}(g:f<n)(i:j<n):WF n (s.link c f j):=by
 have k:=h.lt g;have e:=h.lt i;unfold St.link;simp only[];split
 ·exact h
 ·have d:WF n (s.addAt (7*s.rep f+2) (s.rep j)):=by
   refine h.put (by omega) ?_
   intro x a;rcases(bA.1 a).2 with rfl|a
   ·exact e
   ·exact h.bd _ x a
  generalize s.addAt (7*s.rep f+2) (s.rep j)=b at *;have l:∀x,x∈(if c.deltas=true then b.hd (s.rep f)else b.tg (s.rep f))→x<n:=by intro x a;split at a<;>exact d.bd _ x a
  generalize (if c.deltas=true then b.hd (s.rep f)else b.tg (s.rep f))=T at *;split
  ·exact d
  ·exact d.hand k e l
theorem St.js(s:St)(c:Way)(f j:Nat):(s.link c f j).un≤s.un+1:=by
 unfold St.link;simp only[];split
 ·omega
 ·generalize (if c.deltas=true then(s.addAt (7*s.rep f+2) (s.rep j)).hd (s.rep f)else(s.addAt (7*s.rep f+2) (s.rep j)).tg (s.rep f))=T;split
  ·show s.un≤_;omega
  ·rw[St.ir];show s.un+1≤_;omega
theorem WF.fuse(h:WF n s){i j:Nat}(g:i<n)(l:j<n)(u:i<j):WF n (s.fuse i j):=by
 obtain⟨o,p,q,b,d,f,r,y⟩:=St.fuse_sum (s:=s) h.len g l (by omega);refine⟨h.hn,o,by rw[d,f];exact h.nd,by rw[b,d,f];exact h.ins,by rw[b];exact h.inb,fun k x a=>?_,by rw[r];exact h.sus,fun m=>?_⟩
 ·have t:k=7*(k / 7)+k % 7:=(Nat.div_add_mod k 7).symm;rw[t,p _ _ (Nat.mod_lt _ (by omega))]at a;split at a
  ·unfold AV at a;split at a
   ·exact h.bd _ x (lE.1 a).2.1
   ·rcases(bR.1 a).2 with a|a<;>exact h.bd _ x a
  ·exact h.bd _ x a
 ·rw[q];have:=h.rep m;by_cases e:s.rep m=j
  ·simp[e];omega
  ·simp[e];omega
theorem WF.clear(h:WF n s){j:Nat}(d:j<n):WF n (s.clear j):=by
 have a:∀m,m≤7→WF n ((IQ m).foldl (fun s k=>s.put (7*j+k) []) ({ s with un:=s.un+1 }:St)):=by
  intro m;induction m with
  |zero=>intro _;exact h.un _
  |succ m b=>intro f;rw[Ko,List.foldl_append];exact(b (by omega)).put (by omega) (by simp)
 exact(a 7 (by omega)).drop j
theorem WF.merge(h:WF n s){a b:Nat}(d:a<n)(e:b<n):WF n (s.merge a b).2:=by
 have g:=h.lt d;have i:=h.lt e;unfold St.merge;split
 ·exact h
 ·rename_i f;have j:s.rep a≠s.rep b:=by simpa using f
  exact((h.fuse (by omega) (by omega) (by omega)).wait (by omega)).clear (by omega)
theorem St.jg(s:St)(d:s.ss.length=7*n){a b:Nat}(k:s.rep a<n)(l:s.rep b<n):(s.merge a b).2.un≤s.un+1:=by
 unfold St.merge;split
 ·show s.un≤_;omega
 ·rename_i e;have m:s.rep a≠s.rep b:=by simpa using e
  obtain⟨f,o,p,q,r,t,u,g⟩:=St.fuse_sum (s:=s) (i:=min (s.rep a) (s.rep b)) (j:=max (s.rep a) (s.rep b)) d (by omega) (by omega) (by omega);obtain⟨_,_,_,_,_,_,_,h⟩:=St.clear_sum (s:=(s.fuse (min (s.rep a) (s.rep b)) (max (s.rep a) (s.rep b))).wait (min (s.rep a) (s.rep b))) (n:=n) (j:=max (s.rep a) (s.rep b)) (by rw[St.wait_ss];exact f) (by omega);show(St.clear _ _).un≤_;rw[h,St.wait_un,g];omega
end
section
open Go.RowKit
variable {B:Nat} {c:Way} {n:Nat} {s:St}
theorem pU(m:Nat)(w:vF)(G:GV)(h:GM w B c n G s)(b:m<128) :
  I5 hE 93 #[.pointer (some ⟨G.bg,6,none⟩),.int .u64 m] w fun e w'=>e=.returned (.int .u64 (s.rep m))∧∃a,GM w' B c n a s∧GCh w w' G a:=by
 refine(xQ B G.bg 6 (mI c n G s.un) TG G.va G.ab s.rep m w h.hB (by decide) h.hbg rfl h.oA h.cls b).mono ?_
 rintro e w' ⟨rfl,i,j,_,_,d⟩;obtain⟨f,g⟩:=h.j9 d;exact⟨rfl,_,f,g⟩
theorem aO.canon{w:vF}{v:sA}{t:List Nat}(h:aO w B v t):t=mkS (t.contains ·):=by
 obtain⟨b,_,_,rfl⟩:=h;refine cT fun k a=>?_
 rw[bD a]
theorem nZ{t:List Nat}{m:Nat}(a:t=mkS (t.contains ·))(b:t.contains m=true):dB m t=t:=by
 unfold dB;conv=>rhs;rw[a]
 refine cT fun k _=>?_
 by_cases e:k=m
 ·subst e;rw[b];simp
 ·simp[e]
theorem oB(m:Nat)(w:vF)(G:GV)(h:GM w B c n G s)(y:WF n s)(hm:m<n) :
  I5 hE 88 #[.pointer (some ⟨G.bl,0,none⟩),.int .u64 m] w fun e w'=>e=.returned (.tuple #[])∧∃j,GM w' B c n j (s.wait m)∧GCh w w' G j:=by
 obtain⟨Q,R,S,T,U⟩:=info_parts CH;have hn:=h.n40;have z:=gS B G.bl 1 (gG c G) TL G.vi s.inside m w h.hB (by decide) h.hbl rfl h.sI (by omega);have H:=aA h;have a1:=y.lens;clear h y;go_enter Tryz.func88,Tryz.ntmps88
 go_wp2_with fail
 refine z.mono ?_
 clear z;rintro e b ⟨rfl,q,A,C⟩;obtain⟨a,D⟩:=H.out.lj C A;clear A C;by_cases d:s.inside.contains m=true
 ·have r:I3 (GM b B c n { G with vi:=q } (s.wait m)):=by
   refine aA ?_
   have p:s.wait m=s:=by unfold St.wait;rw[if_pos d]
   rw[nZ H.out.sI.canon d]at a;rw[p];exact a
  clear a;rw[d];go_wp2;go_end0
  exact⟨rfl,_,r.out,D⟩
 ·have V:s.inside.contains m=false:=by simpa using d
  have p:s.wait m={ s with inside:=dB m s.inside,come:=s.come++[m] }:=by unfold St.wait;rw[if_neg d]
  have X:=aA p;obtain⟨f,i,k,_⟩:=a.oC.form;have l:=a.hbl;have a4:b.cell? ⟨G.bl,3,none⟩=some (.slice f s.come.length i):=by rw[aC l];exact congrArg some k
  have t:=aA l;have F:I3 ((Value.slice f s.come.length i).ownBlock≠some G.bl):=aA (by have:=a.oC.ne l (by decide);rw[k]at this;exact this);have I:I3 ((b.alloc (.cells #[.int .u64 (m:Int)] 144)).ownsRow B 144 1 (.slice f s.come.length i) s.come.length (dO s.come)):=aA (by have:=(a.oC.alloc (.cells #[.int .u64 (m:Int)] 144)).1;rw[k]at this;exact this);have Y:I3 (B≤(b.alloc (.cells #[.int .u64 (m:Int)] 144)).heap.size):=aA (by rw[IW];have:=a.hB;omega);have Z:I3 (G.bl<(b.alloc (.cells #[.int .u64 (m:Int)] 144)).heap.size):=aA (by rw[IW];exact Nat.lt_succ_of_lt (aB l));have J:=aA a;have K:=aA k;clear a l k p d;rw[V];go_wp2_with (first
   |(at_builtin;go_loud (refine wpList_append_lies _ rfl (.tmp 13) (.tmp 15) 106 rfl B 144 Q (.int .u64 0) 1 8 KM R S T U rfl (by decide) (.slice f s.come.length i) s.come.length (dO s.come) (by simp[Act.eval]) I.out ⟨b.heap.size,0,none⟩ 1 1 [.int .u64 (m:Int)] (by simp[Act.eval]) rfl (mG b #[.int .u64 (m:Int)] 144 [.int .u64 (m:Int)] rfl) (by intro a5 hu;rw[A1.1 hu];rfl) (by decide) (by unfold maxLen;omega) (by omega) Y.out _ rfl ?_;intro g L o M u N a0;have x:o.heap[G.bl]?=some (.cells (gG c { G with vi:=q }) TL (0,0)):=(u.block G.bl Z.out (fun e=>F.out e.symm)).trans (aF t.out _);have a6:o.cell? ⟨G.bl,3,none⟩=some (.slice f s.come.length i):=(aC x 3).trans (congrArg some K.out);have a7:o.frozen? ⟨G.bl,3,none⟩=false:=aE x 3))
   |go_in)
  have r:I3 (∃j,GM (o.setCell ⟨G.bl,3,none⟩ (.slice (some ⟨g,0,none⟩) (s.come.length+1) L)) B c n j (s.wait m)∧GCh w (o.setCell ⟨G.bl,3,none⟩ (.slice (some ⟨g,0,none⟩) (s.come.length+1) L)) G j):=by
   refine aA ?_
   have ho:=J.out.oC;have O:({ G with vi:=q }:GV).vc=.slice f s.come.length i:=K.out;have P:=GT (o:=3) ho t.out (by decide) (W:=b.alloc (.cells #[.int .u64 (m:Int)] 144)) ((Kb.refl [] b).alloc _) (by rw[O];exact u) (by rw[O];exact N) M (by omega);obtain⟨p1,p2⟩:=J.out.lr P.2 P.1 (by show(s.come++[m]).length≤1000;rw[A4];simp;omega);rw[X.out];exact⟨_,p1,D.trans p2⟩
  clear M u N a0 x I t F;go_wp2;go_end0
  exact⟨rfl,r.out⟩
theorem GM.get{w:vF}{G:GV}(h:GM w B c n G s){k:Nat}(b:k<7*n):∃v,G.nv[k]?=some v∧G.nv.toArray[k]?=some v∧aO w B v (s.ss.getD k []):=by
 obtain⟨v,a⟩:∃v,G.nv[k]?=some v:=⟨_,hZ (by rw[h.lnv];exact b)⟩;obtain⟨t,d⟩:∃t,s.ss[k]?=some t:=⟨_,hZ (by rw[h.lss];exact b)⟩;refine⟨v,a,by simpa using a,?_⟩;have e:s.ss.getD k []=t:=by simp[d]
 rw[e];exact h.sN k v t a d
theorem GM.reads{w:vF}{G:GV}(h:GM w B c n G s):w.cell? ⟨G.bg,0,none⟩=some (.int .i64 c.order)∧w.cell? ⟨G.bg,1,none⟩=some (.bool c.cycles)∧w.cell? ⟨G.bg,2,none⟩=some (.bool c.collapse)∧w.cell? ⟨G.bg,3,none⟩=some (.bool c.subst)∧w.cell? ⟨G.bg,4,none⟩=some (.bool c.deltas)∧w.cell? ⟨G.bg,5,none⟩=some (.slice (some ⟨G.bn,0,none⟩) n G.cap)∧w.cell? ⟨G.bg,7,none⟩=some (.pointer (some ⟨G.bl,0,none⟩))∧w.cell? ⟨G.bg,9,none⟩=some (.int .i64 s.un)∧w.frozen? ⟨G.bg,9,none⟩=false:=by refine⟨?_,?_,?_,?_,?_,?_,?_,?_,aE h.hbg 9⟩<;>(rw[aC h.hbg];rfl)
def iP(w W:vF):Prop:=W.heap=w.heap∧W.os=w.os∧W.tape=w.tape∧W.output=w.output
theorem iP.kb{w W:vF}(h:iP w W)(L:List Nat):Kb L w W:=⟨h.2.1,h.2.2.1,h.2.2.2,by rw[h.1];exact gO _,fun _ _ _=>by rw[h.1]⟩
theorem GM.same{w W:vF}{G:GV}(h:GM w B c n G s)(a:iP w W):GM W B c n G s:=h.fresh (a.kb [])
theorem GCh.same{w W:vF}(a:iP w W)(G:GV):GCh w W G G:=⟨a.kb _,fun _ h=>.inl h,rfl,rfl,rfl⟩
theorem lL(k m:Nat)(w:vF)(G:GV)(h:GM w B c n G s)(b:k<7*n)(d:m<128) :
  I5 hE 108 #[.pointer (some ⟨G.bn,k,none⟩),.int .u64 m] w fun e w'=>e=.returned (.bool (!(s.ss.getD k []).contains m))∧∃a,GM w' B c n a (s.addAt k m)∧GCh w w' G a:=by
 obtain⟨v,q,f,g⟩:=h.get b;refine(gS B G.bn k _ TNd v _ m w h.hB (by decide) h.hbn f g d).mono ?_
 rintro e w' ⟨rfl,p,i,j⟩;obtain⟨l,o⟩:=h.j8 q j i;exact⟨rfl,_,l,o⟩
theorem Dd(m:Nat)(w:vF)(G:GV)(h:GM w B c n G s)(b:m<128) :
  I5 hE 108 #[.pointer (some ⟨G.bg,8,none⟩),.int .u64 m] w fun e w'=>e=.returned (.bool (!s.susp.contains m))∧∃a,GM w' B c n a { s with susp:=dB m s.susp }∧GCh w w' G a:=by
 refine(gS B G.bg 8 _ TG G.vs _ m w h.hB (by decide) h.hbg rfl h.sS b).mono ?_
 rintro e w' ⟨rfl,j,d,f⟩;obtain⟨g,i⟩:=h.lg f d;exact⟨rfl,_,g,i⟩
theorem Bc(k a:Nat)(w:vF)(G:GV)(h:GM w B c n G s)(b:k<7*n)(d:a<7*n) :
  I5 hE 110 #[.pointer (some ⟨G.bn,k,none⟩),.pointer (some ⟨G.bn,a,none⟩)] w fun e w'=>e=.returned (.bool (s.ss.getD k [] == s.ss.getD a []))∧∃m,w'=w.drewN m:=by
 obtain⟨v,q,f,g⟩:=h.get b;obtain⟨i,o,j,l⟩:=h.get d;exact wH B B G.bn k G.bn a _ _ TNd TNd v i _ _ w h.hbn f h.hbn j g l
def wK(B:Nat)(c:Way)(n:Nat):Prop:=∀(s:St) (f j:Nat) (w:vF) (G:GV),GM w B c n G s→f<n→j<n →
  I5 hE 158 #[.pointer (some ⟨G.bg,0,none⟩),.int .u64 f,.int .u64 j] w fun e w'=>e=.returned (.tuple #[])∧∃a,GM w' B c n a (s.suspect f j)∧GCh w w' G a
structure ArgS(w:World)(B:Nat)(G:GV)(k b2 o2:Nat)(T:List Nat):Prop where
 ex:∃cs2 T2 v2,w.heap[b2]?=some (.cells cs2 T2 (0,0))∧cs2[o2]?=some v2∧T2≠T64∧T2≠TG∧T2≠TL∧(b2≠G.bn∨o2≠k)∧aO w B v2 T∧∀v,G.nv[k]?=some v→eR v v2
theorem ArgS.own{w:vF}{G:GV}(h:GM w B c n G s){k a:Nat}(e:a<7*n)(b:a≠k):ArgS w B G k G.bn a (s.ss.getD a []):=by obtain⟨d,q,f,g⟩:=h.get e;exact⟨_,TNd,d,h.hbn,f,by decide,by decide,by decide,.inr b,g,fun v i=>h.aNN k a v d (Ne.symm b) i q⟩
theorem wL(hS:c.cycles=true→wK B c n)(b2 z f j:Nat)(T:List Nat)(w:vF)(G:GV)(h:GM w B c n G s)(U:WF n s)(hf:f<n)(V:j<n)(hT:∀x,x∈T→x<n)(X:ArgS w B G (7*j) b2 z T)(hu:s.un+1<4611686018427387904) :
  I5 hE 119 #[.pointer (some ⟨G.bg,0,none⟩),.pointer (some ⟨b2,z,none⟩),.int .u64 f,.int .u64 j] w fun e w'=>e=.returned (.tuple #[])∧∃Y,GM w' B c n Y (s.hand c T f j)∧GCh w w' G Y:=by
 have hn:=h.n40;obtain⟨A,r1,C,D,E,r5,r,r9,ad⟩:=h.reads;obtain⟨d,Z⟩:=h.kr hu;obtain⟨v1,F,a0,a1⟩:=d.get (k:=7*j) (by omega);obtain⟨ae,T2,v2,H,a2,a3,a4,a5,a6,I,a8⟩:=X.ex;have am:s.un<4611686018427387904:=by omega
 have J:Kb [G.bg] w (w.setCell ⟨G.bg,9,none⟩ (.int .i64 ((s.un:Int)+1))):=(Kb.refl _ _).setCell (p:=⟨G.bg,9,none⟩) (.inl (by simp)) _;have t:=wG B G.bn (7*j) b2 z G.nv.toArray ae TNd T2 v1 v2 _ T _ d.hB (by decide) a3 d.hbn a0 (J.heap H (by simp;exact aP H h.hbg a4)) a2 a6 a1 (I.kb J (by intro ao hg;rw[A1.1 hg];exact I.ne h.hbg (by decide))) (a8 v1 F);have et:({ s with un:=s.un+1 }:St).ss.getD (7*j) []=s.tg j:=rfl;rw[et]at t;obtain⟨b,K⟩:∃b,b=iM (s.tg j) T:=⟨_,rfl⟩;rw[← K,show 7*j=j*7 from Ny _ _]at t;have HB:=aA K;have a7:=aA d;have a9:=aA Z;have hQ:=aA F;have af:=d.reads.2.2.2.2.2.1;clear h K d Z F a0 a1 H a2 a3 a4 a5 a6 I a8 X et A C D E r;go_enter Tryz.func119,Tryz.ntmps119
 go_wp2_with fail
 refine t.mono ?_
 clear t;rintro e u ⟨rfl,v',aa,L⟩;rw[show j*7=7*j from Ny _ _]at L;obtain⟨M,p2⟩:=a7.out.j8 hQ.out L aa;have ag:WF n (({ s with un:=s.un+1 }:St).put (7*j) (cP (s.tg j) T)):=by
  refine(U.un _).put (by omega) ?_
  intro x k;rcases(bR.1 k).2 with k|k
  ·exact U.bd _ x k
  ·exact hT x k
 have y:=a9.out.trans p2;clear aa L;obtain⟨A,N,C,D,E,ah,r,ai,_⟩:=M.reads;generalize aj:({ G with nv:=G.nv.set (7*j) v' }:GV)=g at *;have e1:g.bg=G.bg:=y.e1;have e2:g.bl=G.bl:=y.e3;rw[e1]at N r;rw[e2]at r;have O:=aA M;have P:=aA y;have ab:s.hand c T f j=if b then(({ s with un:=s.un+1 }:St).put (7*j) (cP (s.tg j) T)).wait j else if c.cycles then(({ s with un:=s.un+1 }:St).put (7*j) (cP (s.tg j) T)).suspect f j else({ s with un:=s.un+1 }:St).put (7*j) (cP (s.tg j) T):=by rw[HB.out];rfl
 have Q:=aA ab;clear ab M p2 a7 a9 hQ aj y A C D E ah ai r1 r9 ad r5 af J;cases b
 ·have a:c.cycles=true∨c.cycles=false:=by cases c.cycles<;>simp
  rcases a with a|a
  ·have R:=hS a _ f j u g O.out hf V;rw[e1]at R;rw[a]at N;have ak:I3 (s.hand c T f j=(({ s with un:=s.un+1 }:St).put (7*j) (cP (s.tg j) T)).suspect f j):=aA (by rw[Q.out,a];rfl);go_wp2_with fail
   refine R.mono ?_
   clear R;rintro e l ⟨rfl,m,o,p⟩;have q:I3 (GM l B c n m (s.hand c T f j)∧GCh w l G m):=aA ⟨by rw[ak.out];exact o,P.out.trans p⟩;clear o p;go_wp2;go_end0
   exact⟨rfl,_,q.out⟩
  ·rw[a]at N;have q:I3 (GM u B c n g (s.hand c T f j)∧GCh w u G g):=aA ⟨by rw[Q.out,a];exact O.out,P.out⟩;go_wp2;go_end0
   exact⟨rfl,_,q.out⟩
 ·have S:=oB j u g O.out ag V;rw[e2]at S;go_wp2_with fail
  refine S.mono ?_
  clear S;rintro e l ⟨rfl,m,o,p⟩;have q:I3 (GM l B c n m (s.hand c T f j)∧GCh w l G m):=aA ⟨by rw[Q.out];exact o,P.out.trans p⟩;clear o p;go_wp2;go_end0
  exact⟨rfl,_,q.out⟩
end
end Go.Proofs.YtiamlbhkiehilaaGreatDoor
