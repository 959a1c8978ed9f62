import Derived.WalkKit
open Bool renaming and_eq_true→Js,false_eq_true→JY,or_eq_true→Nc,or_eq_false_iff→J5
open ByteArray renaming size→Jz
open Go renaming ahead→JG
open Go.Ending renaming returned→ME
open List renaming all_append→Ov,range→IQ,replicate→A3,mem_filter→Li,mem_cons_of_mem→C1,mem_cons_self→Bx,filter→KK,mem_cons→sT,length_filter_le→Ma,range_succ→Ko,contains_iff_mem→JZ,foldl_cons→JB,mem_append→IK,mem_singleton→A1,foldl_map→ON,mem_map→Jf,length_append→A4
open Nat renaming le_refl→gO,mul_le_mul_left→Kq,le_trans→IH,mul_add→NS,mul_one→Jv
namespace Go.Proofs.YtiamlbhkiehilaaGreatDoor
section
open Go.RowKit
def bC(c:Int):Bool:=decide ((97≤c∧c≤122)∨(65≤c∧c≤90)∨c=95)
def dE(c:Int):Bool:=decide ((97≤c∧c≤122)∨(65≤c∧c≤90)∨c=95∨(48≤c∧c≤57))
def dH(l:List UInt8):Bool:=l.all fun c=>dE c.toNat
def bP:List UInt8→Bool
 | []=>false
 |c::r=>bC c.toNat && dH r
theorem aA{p:Prop}(h:p):Hid p:=h
theorem iX{p:Prop}(h:Hid p):p:=h
theorem mZ{a b:Bool}(h:a=b):ME (.bool a)=.returned (.bool b):=by rw[h]
theorem sU{k:IntKind}{a b:Int}(h:a=b):ME (.int k a)=.returned (.int k b):=by rw[h]
theorem fX{c:Int}(h:bC c=true):dE c=true:=by simp only[bC,dE,decide_eq_true_eq]at *;omega
theorem kM{c:Int}(h:bC c=false):dE c=decide (48≤c∧c≤57):=by simp only[bC,dE,decide_eq_false_iff_not]at *;rw[Bool.eq_iff_iff];simp only[decide_eq_true_eq];omega
theorem wA(s:ByteArray)(k:Nat)(h:k<s.size):s.data.toList.take (k+1)=s.data.toList.take k++[s[k]]:=by rw[List.take_succ_eq_append_getElem (by simpa using h)];rfl
theorem rL(l:List UInt8)(c:UInt8):dH (l++[c])=(dH l && dE c.toNat):=by simp[dH,Ov]
theorem nA{l:List UInt8}{k:Nat}(h:dH (l.take k)=false):dH l=false:=by rw[← List.take_append_drop k l];simp only[dH,Ov]at *;simp[h]
theorem rM(l:List UInt8)(h:dH l=false):bP l=false:=by
 cases l with
 |nil=>rfl
 |cons c r=>
  simp only[bP];cases a:bC c.toNat
  ·rfl
  ·have:=fX a;simp only[dH,List.all_cons,this,Bool.true_and]at h;simpa[dH]using h
theorem wB(s:ByteArray)(a:0<s.size)(h:dH s.data.toList=true):bP s.data.toList=bC s[0].toNat:=by
 obtain⟨⟨l⟩⟩:=s;cases l with
 |nil=>simp[Jz]at a
 |cons c r=>simp only[dH,List.all_cons,Js]at h;have e:(⟨⟨c::r⟩⟩:ByteArray)[0]=c:=rfl;simp only[bP,dH,h.2,Bool.and_true,e]
theorem yW(s:ByteArray)(a:0<s.size)(h:bC s[0].toNat=false):bP s.data.toList=false:=by
 obtain⟨⟨l⟩⟩:=s;cases l with
 |nil=>rfl
 |cons c r=>have e:(⟨⟨c::r⟩⟩:ByteArray)[0]=c:=rfl;rw[e]at h;simp only[bP,h,Bool.false_and]
theorem yX(s:ByteArray)(a:0<s.size)(h:bC s[0].toNat=true):dH (s.data.toList.take 1)=true:=by
 obtain⟨⟨l⟩⟩:=s;cases l with
 |nil=>rfl
 |cons c r=>have e:(⟨⟨c::r⟩⟩:ByteArray)[0]=c:=rfl;rw[e]at h;simp[dH,fX h]
theorem tG{s:ByteArray}{k:Nat}(h:dH (s.data.toList.take k)=true)(a:s.size≤k):dH s.data.toList=true:=by rwa [List.take_of_length_le (by simpa using a)]at h
theorem nB(s:ByteArray)(h:s.size=0):bP s.data.toList=false:=by
 obtain⟨⟨l⟩⟩:=s;cases l with
 |nil=>rfl
 |cons c r=>simp[Jz]at h
end
section
def mkS(p:Nat→Bool):List Nat:=(IQ 128).filter p
def dB(n:Nat)(s:List Nat):List Nat:=mkS fun k=>k == n || s.contains k
def gR(n:Nat)(s:List Nat):List Nat:=mkS fun k=>k != n && s.contains k
def cP(s t:List Nat):List Nat:=mkS fun k=>s.contains k || t.contains k
def lD(s t:List Nat):List Nat:=mkS fun k=>s.contains k && t.contains k
def qZ(s t:List Nat):List Nat:=mkS fun k=>s.contains k && !t.contains k
def iM(s t:List Nat):Bool:=t.any fun k=>!s.contains k
structure Way where
 order:Int
 cycles:Bool
 collapse:Bool
 subst:Bool
 deltas:Bool
structure St where
 ss:List (List Nat)
 rep:Nat→Nat
 inside:List Nat
 now:List Nat
 come:List Nat
 susp:List Nat
 un:Nat
namespace St
def tg(s:St)(i:Nat):List Nat:=s.ss.getD (7*i) []
def hd(s:St)(i:Nat):List Nat:=s.ss.getD (7*i+1) []
def hr(s:St)(i:Nat):List Nat:=s.ss.getD (7*i+2) []
def ld(s:St)(i:Nat):List Nat:=s.ss.getD (7*i+3) []
def sr(s:St)(i:Nat):List Nat:=s.ss.getD (7*i+4) []
def tw(s:St)(i:Nat):List Nat:=s.ss.getD (7*i+5) []
def tr(s:St)(i:Nat):List Nat:=s.ss.getD (7*i+6) []
def put(s:St)(k:Nat)(t:List Nat):St:={ s with ss:=s.ss.set k t }
def addAt(s:St)(k n:Nat):St:=s.put k (dB n (s.ss.getD k []))
def wait(s:St)(n:Nat):St:=if s.inside.contains n then s else { s with inside:=dB n s.inside,come:=s.come++[n] }
def drop(s:St)(n:Nat):St:={ s with inside:=gR n s.inside,now:=s.now.filter (· != n),come:=s.come.filter (· != n) }
def letIn(s:St)(o:Int):St:=
 if o == 2 && !s.now.isEmpty then s
 else { s with now:=if o == 2 then(s.now++s.come).mergeSort (·≤·)else s.now++s.come,come:=[] }
def next(s:St)(o:Int):Option Nat × St:=
 let s:=s.letIn o
 match s.now with
 | []=>(none,s)
 |x::r=>let n:=if o == 1 then(x::r).getLastD 0 else x;(some n,s.drop n)
def standing(s:St)(l:List Nat):List Nat:=l.foldl (fun f n=>dB (s.rep n) f) []
def heirsOf(s:St)(n:Nat):List Nat:=gR n (s.standing (s.hr n))
def all(s:St)(n:Nat):List Nat:=s.standing (IQ n)
def suspect(s:St)(f h:Nat):St:=
 if s.tg f == s.tg h && !(s.tr f).contains h then let s:=s.addAt (7*f+6) h;{ s with susp:=dB f s.susp }
 else s
def hand(c:Way)(s:St)(T:List Nat)(f h:Nat):St:=
 let a:={ s with un:=s.un+1 }.put (7*h) (cP (s.tg h) T)
 if iM (s.tg h) T then a.wait h
 else if c.cycles then a.suspect f h else a
def link(c:Way)(s:St)(f h:Nat):St:=
 let f:=s.rep f
 let h:=s.rep h
 if f == h || (s.hr f).contains h then s
 else
  let a:=s.addAt (7*f+2) h
  let now:=if c.deltas then a.hd f else a.tg f
  if now.isEmpty then a else a.hand c now f h
def fuse(s:St)(i j:Nat):St:=
 let s:={ s with rep:=fun n=>if s.rep n == j then i else s.rep n }
 let s:=s.put (7*i) (cP (s.tg i) (s.tg j))
 let s:=s.put (7*i+1) (lD (s.hd i) (s.hd j))
 let s:=s.put (7*i+2) (cP (s.hr i) (s.hr j))
 let s:=s.put (7*i+3) (cP (s.ld i) (s.ld j))
 let s:=s.put (7*i+4) (cP (s.sr i) (s.sr j))
 let s:=s.put (7*i+5) (cP (s.tw i) (s.tw j))
 s.put (7*i+6) (cP (s.tr i) (s.tr j))
def clear(s:St)(j:Nat):St:=
 let s:={ s with un:=s.un+1 }
 let s:=(IQ 7).foldl (fun s k=>s.put (7*j+k) []) s
 s.drop j
def merge(s:St)(a b:Nat):Bool × St:=
 if s.rep a == s.rep b then(false,s)
 else(true,(((s.fuse (min (s.rep a) (s.rep b)) (max (s.rep a) (s.rep b))).wait (min (s.rep a) (s.rep b))).clear (max (s.rep a) (s.rep b))))
def mergeAll(s:St)(a:Nat)(l:List Nat):Bool × St:=l.foldl (fun x b=>let y:=x.2.merge a b;(y.1 || x.1,y.2)) (false,s)
def collapse(s:St)(n:Nat)(T:List Nat):Bool × St:=
 let tw:=s.tw n
 T.foldl (fun x t=>let y:=x.2.mergeAll t tw;(y.1 || x.1,y.2)) (false,s)
def links(c:Way)(s:St)(n t:Nat):St:=
 let s:=(s.ld n).foldl (fun s p=>s.link c t p) s
 (s.sr n).foldl (fun s q=>s.link c q t) s
def work(c:Way)(s:St)(n:Nat):St:=
 let a:=qZ (s.tg n) (s.hd n)
 if a.isEmpty then s
 else
  let m:=s.collapse n a
  if m.1 then m.2.wait (m.2.rep n)
  else
   let s:=a.foldl (fun s t=>s.links c n t) m.2
   let s:=(s.heirsOf n).foldl (fun s h=>s.hand c a n h) s
   if c.deltas then s.put (7*n+1) (cP (s.hd n) a)else s
end St
def nC(next:Nat→List Nat):Nat→List Nat→List Nat→Option (List Nat)
 |0,_,_=>none
 |k+1,a,b=>
  match b.getLast? with
  |none=>some a
  |some x=>
   let y:=(next x).foldl (fun y t=>if y.1.contains t then y else(dB t y.1,y.2++[t])) (a,b.dropLast)
   nC next k y.1 y.2
def fD(k:Nat)(start:Nat)(next:Nat→List Nat):Option (List Nat):=nC next k (dB start []) [start]
def mD(JG:List Nat)(next:Nat→List Nat)(n:Nat):List Nat:=mkS fun f=>JG.contains f && (next f).contains n
def fT(k:Nat)(start:Nat)(next:Nat→List Nat):Option (List Nat):=
 (fD k start next).bind fun JG=>fD k start (mD JG next)
namespace St
def lookStep(k:Nat)(s:St)(n:Nat):Option St:=
 let s:={ s with susp:=gR n s.susp }
 (fT k n s.heirsOf).map fun l=>(s.mergeAll n l).2
def foldO{α c:Type}(f:α→c→Option α):α→List c→Option α
 |a,[]=>some a
 |a,x::r=>(f a x).bind fun b=>foldO f b r
def lookForCycles(k:Nat)(s:St):Option St:=foldO (lookStep k) s s.susp
def partAdd(ps:List (List Nat))(i n:Nat):List (List Nat):=ps.set i (dB n (ps.getD i []))
def parts0(s:St)(n:Nat):List (List Nat):=
 (IQ n).foldl (fun a i=>(s.tg i).foldl (fun a t=>partAdd (partAdd a i t) (s.rep t) (n+s.rep t)) a) (A3 n [])
def handParts(s:St)(ps:List (List Nat))(i a:Nat):Bool × List (List Nat):=
 if(ps.getD i []).isEmpty then(false,ps)
 else
  let x:=(s.heirsOf i).foldl (fun x h=>(iM (x.2.getD h []) (x.2.getD i []) || x.1,x.2.set h (cP (x.2.getD h []) (x.2.getD i [])))) (false,ps)
  (s.standing (s.ld i)).foldl (fun x p=>((!(x.2.getD p []).contains a) || x.1,partAdd x.2 p a)) x
def partsRound(s:St)(n:Nat)(all:List Nat)(ps:List (List Nat)):Bool × List (List Nat):=
 all.foldl (fun x i=>let y:=s.handParts x.2 i (2*n+i);(y.1 || x.1,y.2)) (false,ps)
def partsLoop(s:St)(n:Nat)(all:List Nat):Nat→List (List Nat)→Option (List (List Nat))
 |0,_=>none
 |k+1,a=>let y:=s.partsRound n all a;if y.1 then partsLoop s n all k y.2 else some y.2
def partsOf(k:Nat)(s:St)(n:Nat):Option (List (List Nat)):=s.partsLoop n (s.all n) k (s.parts0 n)
def mergeSame(s:St)(n:Nat)(ps:List (List Nat)):Bool × St:=
 let all:=s.all n
 all.foldl (fun x a=>all.foldl (fun x b=>if a<b && ps.getD a [] == ps.getD b []then let y:=x.2.merge a b;(y.1 || x.1,y.2)else x) x) (false,s)
def substitute(k n:Nat):Nat→St→Option St
 |0,_=>none
 |j+1,s=>(s.partsOf k n).bind fun a=>let y:=s.mergeSame n a;if y.1 then substitute k n j y.2 else some y.2
def twinsOf(k:Nat)(s:St)(n i:Nat):Option (List Nat):=
 let a:=s.standing (s.ld i)
 let b:=s.standing (s.sr i)
 (fT k n fun m=>if m == n then a else if b.contains m then dB n (s.heirsOf m)else s.heirsOf m).map (gR n)
def findTwins(k:Nat)(s:St)(n:Nat):Option St:=foldO (fun s i=>(s.twinsOf k n i).map fun t=>s.put (7*i+5) t) s (s.all n)
def lookAhead(k:Nat)(c:Way)(s:St)(n:Nat):Option St:=
 (if c.subst then substitute k n k s else some s).bind fun s=>if c.collapse then s.findTwins k n else some s
def solveL(k:Nat)(c:Way):Nat→St→Option St
 |0,_=>none
 |j+1,s=>
  match s.next c.order with
  |(none,s)=>some s
  |(some n,s)=>(lookForCycles k (s.work c n)).bind fun s=>solveL k c j s
def solve(k:Nat)(c:Way)(s:St)(n:Nat):Option St:=(s.lookAhead k c n).bind fun s=>solveL k c k s
def lay(s:St)(a:Int)(p q:Nat):St:=
 if a=1 then s.addAt (7*p) q
 else if a=2 then s.addAt (7*q+2) p
 else if a=3 then s.addAt (7*q+3) p
 else if a=4 then s.addAt (7*p+4) q
 else s
def start(n:Nat)(a:List (Int × Nat × Nat)):St:=
 let s:=a.foldl (fun s f=>s.lay f.1 f.2.1 f.2.2) { ss:=A3 (7*n) [],rep:=id,inside:=[],now:=[],come:=[],susp:=[],un:=0 }
 (IQ n).foldl (fun s i=>if(s.tg i).isEmpty then s else s.wait i) s
end St
end
section
theorem eL{p:Nat→Bool}{k:Nat}:k∈mkS p↔k<128∧p k=true:=by simp[mkS,Li]
theorem bA{n k:Nat}{s:List Nat}:k∈dB n s↔k<128∧(k=n∨k∈s):=by simp[dB,eL]
theorem iN{n k:Nat}{s:List Nat}:k∈gR n s↔k<128∧k≠n∧k∈s:=by simp[gR,eL]
theorem bR{k:Nat}{s t:List Nat}:k∈cP s t↔k<128∧(k∈s∨k∈t):=by simp[cP,eL]
theorem lE{k:Nat}{s t:List Nat}:k∈lD s t↔k<128∧k∈s∧k∈t:=by simp[lD,eL]
theorem pN{k:Nat}{s t:List Nat}:k∈qZ s t↔k<128∧k∈s∧k ∉ t:=by simp[qZ,eL]
theorem lF{s t:List Nat}:iM s t=true↔∃k∈t,k ∉ s:=by simp[iM]
theorem tH{s t:List Nat}:iM s t=false↔∀k∈t,k∈s:=by simp[iM]
def cnt(n:Nat)(s:List Nat):Nat:=((IQ n).filter (s.contains ·)).length
theorem mW{α:Type}(l:List α)(p q:α→Bool)(h:∀x∈l,p x=true→q x=true):(l.filter p).length≤(l.filter q).length:=by
 induction l with
 |nil=>simp
 |cons a r b=>have f:=b (fun x c=>h x (C1 _ c));have g:=h a Bx;cases d:p a<;>cases e:q a<;>simp[KK,d,e]<;>simp_all<;>omega
theorem kY{α:Type}(l:List α)(p q:α→Bool)(h:∀x∈l,p x=true→q x=true){a:α}(c:a∈l)(d:p a=false)(e:q a=true):(l.filter p).length<(l.filter q).length:=by
 induction l with
 |nil=>cases c
 |cons b r g=>
  have i:=mW r p q (fun x f=>h x (C1 _ f));have j:=h b Bx;rcases sT.1 c with rfl|c
  ·simp[KK,d,e];omega
  ·have:=g (fun x f=>h x (C1 _ f)) c;cases d:p b<;>cases e:q b<;>simp[KK,d,e]<;>simp_all<;>omega
theorem xK(n:Nat)(s:List Nat):cnt n s≤n:=by unfold cnt;have:=Ma (s.contains ·) (IQ n);simpa using this
theorem pO{n:Nat}{s t:List Nat}(h:∀x∈s,x∈t):cnt n s≤cnt n t:=mW _ _ _ (fun x _ a=>by simpa using h x (by simpa using a))
theorem AU{n:Nat}{s t:List Nat}(h:∀x∈s,x∈t){a:Nat}(b:a<n)(c:a ∉ s)(d:a∈t):cnt n s<cnt n t:=
 kY _ _ _ (fun x _ e=>by simpa using h x (by simpa using e)) (a:=a) (by simpa using b) (by simpa using c) (by simpa using d)
def PtN(a:List (Int × Nat × Nat))(p x:Nat):Prop:=∀R:Nat→Nat→Prop,(∀p q,((1:Int),p,q)∈a→R p q)→(∀p q x,((2:Int),p,q)∈a→R q x→R p x)→(∀p q v x,((3:Int),p,q)∈a→R q v→R v x→R p x)→(∀p q v x,((4:Int),p,q)∈a→R p v→R q x→R v x)→R p x
theorem PtN.addr{b:List (Int × Nat × Nat)}{p q:Nat}(h:((1:Int),p,q)∈b):PtN b p q:=fun _ a _ _ _=>a p q h
theorem PtN.copy{e:List (Int × Nat × Nat)}{p q x:Nat}(h:((2:Int),p,q)∈e)(h1:PtN e q x):PtN e p x:=fun R a b c d=>b p q x h (h1 R a b c d)
theorem PtN.load{e:List (Int × Nat × Nat)}{p q v x:Nat}(h:((3:Int),p,q)∈e)(h1:PtN e q v)(h2:PtN e v x):PtN e p x:=fun R a b c d=>c p q v x h (h1 R a b c d) (h2 R a b c d)
theorem PtN.store{e:List (Int × Nat × Nat)}{p q v x:Nat}(h:((4:Int),p,q)∈e)(h1:PtN e p v)(h2:PtN e q x):PtN e v x:=fun R a b c d=>d p q v x h (h1 R a b c d) (h2 R a b c d)
theorem PtN.ind{a:List (Int × Nat × Nat)}{motive:∀p x,PtN a p x→Prop}(addr:∀ {p q:Nat} (h:((1:Int),p,q)∈a),motive p q (.addr h))(copy:∀ {p q x:Nat} (h:((2:Int),p,q)∈a) (h1:PtN a q x),motive q x h1→motive p x (.copy h h1))
  (load:∀ {p q v x:Nat} (h:((3:Int),p,q)∈a) (h1:PtN a q v) (h2:PtN a v x),motive q v h1→motive v x h2→motive p x (.load h h1 h2)) (store:∀ {p q v x:Nat} (h:((4:Int),p,q)∈a) (h1:PtN a p v) (h2:PtN a q x),motive p v h1→motive q x h2→motive v x (.store h h1 h2))
  {p x:Nat} (t:PtN a p x):motive p x t:=by
 obtain⟨_,h⟩:=t (fun p x=>∃h:PtN a p x,motive p x h) (fun p q h=>⟨.addr h,addr h⟩) (fun p q x h ⟨h1,b⟩=>⟨.copy h h1,copy h h1 b⟩) (fun p q v x h ⟨h1,b⟩ ⟨h2,c⟩=>⟨.load h h1 h2,load h h1 h2 b c⟩) (fun p q v x h ⟨h1,b⟩ ⟨h2,c⟩=>⟨.store h h1 h2,store h h1 h2 b c⟩);exact h
theorem PtN.taken{b:List (Int × Nat × Nat)}{p x:Nat}(h:PtN b p x):∃c,((1:Int),c,x)∈b:=by
 induction h using PtN.ind with
 |addr h=>exact⟨_,h⟩
 |copy _ _ a=>exact a
 |load _ _ _ _ a=>exact a
 |store _ _ _ _ a=>exact a
namespace St
def W(s:St)(i:Nat):Prop:=i∈s.now∨i∈s.come
def Edge(s:St)(t p:Nat):Prop:=s.rep t=s.rep p∨∃h∈s.hr (s.rep t),s.rep h=s.rep p
def nw(s:St):Nat:=s.now.length+s.come.length
@[simp] theorem put_rep (s:St) (k:Nat) (t:List Nat):(s.put k t).rep=s.rep:=rfl
@[simp] theorem put_now (s:St) (k:Nat) (t:List Nat):(s.put k t).now=s.now:=rfl
@[simp] theorem put_come (s:St) (k:Nat) (t:List Nat):(s.put k t).come=s.come:=rfl
@[simp] theorem put_inside (s:St) (k:Nat) (t:List Nat):(s.put k t).inside=s.inside:=rfl
@[simp] theorem put_susp (s:St) (k:Nat) (t:List Nat):(s.put k t).susp=s.susp:=rfl
@[simp] theorem put_un (s:St) (k:Nat) (t:List Nat):(s.put k t).un=s.un:=rfl
theorem put_get{s:St}{k:Nat}{t:List Nat}(a:k<s.ss.length)(j:Nat):(s.put k t).ss.getD j []=if j=k then t else s.ss.getD j []:=by
 unfold put;simp only[List.getD_eq_getElem?_getD];by_cases h:j=k
 ·subst h;simp[a]
 ·rw[List.getElem?_set_ne (Ne.symm h)];simp[h]
@[simp] theorem put_len (s:St) (k:Nat) (t:List Nat):(s.put k t).ss.length=s.ss.length:=by simp[put]
end St
end
section
def rA(n:Nat)(f:Nat→Nat):Nat:=((IQ n).map f).sum
theorem lG(n:Nat)(f:Nat→Nat):rA (n+1) f=rA n f+f n:=by simp[rA,Ko]
theorem xL{n:Nat}{f g:Nat→Nat}(h:∀i,i<n→f i≤g i):rA n f≤rA n g:=by
 induction n with
 |zero=>simp[rA]
 |succ n a=>rw[lG,lG];have:=a (fun i b=>h i (by omega));have:=h n (by omega);omega
theorem xM{n:Nat}{f g:Nat→Nat}(h:∀i,i<n→f i≤g i){j:Nat}(c:j<n)(d:f j<g j):rA n f<rA n g:=by
 induction n with
 |zero=>omega
 |succ n a=>
  rw[lG,lG];have k:=h n (by omega);by_cases e:j=n
  ·subst e;have:=xL (n:=j) (fun i b=>h i (by omega));omega
  ·have:=a (fun i b=>h i (by omega)) (by omega);omega
theorem mE{n m:Nat}{f:Nat→Nat}(h:∀i,i<n→f i≤m):rA n f≤n*m:=by
 induction n with
 |zero=>simp[rA]
 |succ n a=>rw[lG];have:=a (fun i b=>h i (by omega));have:=h n (by omega);rw[Nat.succ_mul];omega
namespace St
def mis(s:St)(n f:Nat):Nat:=rA n fun i=>if s.rep i=i then n-cnt n (s.ss.getD (7*i+f) [])else 0
def dn(s:St)(n:Nat):Nat:=rA n fun i=>if s.rep i=i then 1 else 0
def mea(s:St)(n:Nat):Nat:=s.nw+s.mis n 0+2*s.dn n
def pt(s:St)(n:Nat):Nat:=s.un+s.mis n 2+s.dn n+n*s.mea n
end St
structure Inv(fs:List (Int × Nat × Nat))(n:Nat)(c:Way)(E:Nat→Prop)(s:St):Prop where
 hn:n≤40
 fsb:∀k p q,(k,p,q)∈fs→p<n∧q<n
 len:s.ss.length=7*n
 repl:∀i,s.rep i≤i
 repi:∀i,s.rep (s.rep i)=s.rep i
 same:∀i t,PtN fs (s.rep i) t↔PtN fs i t
 bd:∀k x,x∈s.ss.getD k []→x<n
 gone:∀i f,s.rep i≠i→f<7→s.ss.getD (7*i+f) []=[]
 tg:∀i x,x∈s.tg i→PtN fs i x
 hdt:∀i x,x∈s.hd i→x∈s.tg i
 hdn:c.deltas=false→∀i,s.hd i=[]
 hr:∀i j,j∈s.hr i→∀t,PtN fs i t→PtN fs j t
 ld:∀i p,p∈s.ld i→∀x t,PtN fs i x→PtN fs x t→PtN fs p t
 sr:∀i q,q∈s.sr i→∀x t,PtN fs i x→PtN fs q t→PtN fs x t
 tw:∀i u,u∈s.tw i→∀x,PtN fs i x→∀t,PtN fs x t↔PtN fs u t
 cA:∀p q,((1:Int),p,q)∈fs→q∈s.tg (s.rep p)
 cC:∀p q,((2:Int),p,q)∈fs→p∈s.hr (s.rep q)
 cL:∀p q,((3:Int),p,q)∈fs→p∈s.ld (s.rep q)
 cS:∀p q,((4:Int),p,q)∈fs→q∈s.sr (s.rep p)
 ins:∀i,i∈s.inside↔s.W i
 wst:∀i,s.W i→i<n∧s.rep i=i
 sus:∀i,i∈s.susp→i<n
 all:∀i,s.rep i=i→¬(s.W i∨E i)→c.deltas=true→∀x,x∈s.tg i→x∈s.hd i
 done:∀i x,s.rep i=i→x∈s.tg i→(if c.deltas then x∈s.hd i else ¬(s.W i∨E i))→(∀h,h∈s.hr i→x∈s.tg (s.rep h))∧(∀p,p∈s.ld i→s.Edge x p)∧(∀q,q∈s.sr i→s.Edge q x)
theorem Inv.rlt{a:List (Int × Nat × Nat)}{n:Nat}{c:Way}{E:Nat→Prop}{s:St}(h:Inv a n c E s){i:Nat}(b:i<n):s.rep i<n:=Nat.lt_of_le_of_lt (h.repl i) b
theorem Inv.ky{f:List (Int × Nat × Nat)}{n:Nat}{c:Way}{E g:Nat→Prop}{s:St}(h:Inv f n c E s)(j:∀i,s.rep i=i→E i→s.W i∨g i):Inv f n c g s:=by
 refine { h with all:=fun i a d=>h.all i a (fun b=>d ?_),done:=fun i x a d hd=>h.done i x a d ?_ }
 ·rcases b with b|b
  ·exact .inl b
  ·exact j i a b
 ·split
  ·rename_i e;rw[if_pos e]at hd;exact hd
  ·rename_i e;rw[if_neg e]at hd;rintro(k|l)
   ·exact hd (.inl k)
   ·exact hd (j i a l)
theorem Inv.grow{u:List (Int × Nat × Nat)}{n:Nat}{c:Way}{E:Nat→Prop}{s a:St}(h:Inv u n c E s)
  (b:a.rep=s.rep) (N:a.ss.length=s.ss.length) (y:∀i,a.hd i=s.hd i) (A:∀i,a.ld i=s.ld i) (B:∀i,a.sr i=s.sr i) (O:∀i,a.tw i=s.tw i)
  (P:∀k x,x∈a.ss.getD k []→x<n) (Q:∀i f,s.rep i≠i→f<7→a.ss.getD (7*i+f) []=[])
  (C:∀i x,x∈s.tg i→x∈a.tg i) (R:∀i x,x∈a.tg i→PtN u i x)
  (H:∀i x,x∈s.hr i→x∈a.hr i) (S:∀i j,j∈a.hr i→∀t,PtN u i t→PtN u j t)
  (I:∀i,s.W i→a.W i) (T:∀i,i∈a.inside↔a.W i) (U:∀i,a.W i→i<n∧s.rep i=i) (V:∀i,i∈a.susp→i<n)
  (J:∀i x,s.rep i=i→x∈a.tg i→x ∉ s.tg i→a.W i)
  (X:∀i x j,s.rep i=i→x∈s.tg i→(if c.deltas then x∈s.hd i else ¬(s.W i∨E i))→j∈a.hr i→j ∉ s.hr i→x∈a.tg (s.rep j)):Inv u n c E a:=by
 have K:∀t p,s.Edge t p→a.Edge t p:=by
  rintro t p (e|⟨j,D,e⟩)
  ·exact .inl (by rw[b];exact e)
  ·exact .inr ⟨j,by rw[b];exact H _ _ D,by rw[b];exact e⟩
 refine⟨h.hn,h.fsb,by rw[N];exact h.len,by rw[b];exact h.repl,by rw[b];exact h.repi,by rw[b];exact h.same,P,by rw[b];exact Q,R,?_,?_,S,?_,?_,?_,?_,?_,?_,?_,T,by rw[b];exact U,V,?_,?_⟩
 ·intro i x w;rw[y]at w;exact C _ _ (h.hdt i x w)
 ·intro g i;rw[y];exact h.hdn g i
 ·intro i p d;rw[A]at d;exact h.ld i p d
 ·intro i p d;rw[B]at d;exact h.sr i p d
 ·intro i p d;rw[O]at d;exact h.tw i p d
 ·intro p q o;rw[b];exact C _ _ (h.cA p q o)
 ·intro p q o;rw[b];exact H _ _ (h.cC p q o)
 ·intro p q o;rw[b,A];exact h.cL p q o
 ·intro p q o;rw[b,B];exact h.cS p q o
 ·intro i l w g x F;rw[b]at l;rw[y];by_cases m:x∈s.tg i
  ·exact h.all i l (fun G=>w (G.imp (I i) id)) g x m
  ·exact absurd (.inl (J i x l F m)) w
 ·intro i x l F r;rw[b]at l;have z:if c.deltas then x∈s.hd i else ¬(s.W i∨E i):=by
   split
   ·rename_i g;rw[if_pos g,y]at r;exact r
   ·rename_i g;rw[if_neg g]at r;exact fun G=>r (G.imp (I i) id)
  have m:x∈s.tg i:=by
   by_cases g:c.deltas=true
   ·rw[if_pos g]at z;exact h.hdt i x z
   ·rw[if_neg g]at r;by_cases m:x∈s.tg i
    ·exact m
    ·exact absurd (.inl (J i x l F m)) r
  obtain⟨Y,Z,d3⟩:=h.done i x l m z;refine⟨?_,?_,?_⟩
  ·intro j D;rw[b];by_cases L:j∈s.hr i
   ·exact C _ _ (Y j L)
   ·exact X i x j l m z D L
  ·intro p d;rw[A]at d;exact K _ _ (Z p d)
  ·intro q M;rw[B]at M;exact K _ _ (d3 q M)
namespace St
theorem wait_ss(s:St)(n:Nat):(s.wait n).ss=s.ss:=by unfold wait;split<;>rfl
theorem wait_rep(s:St)(n:Nat):(s.wait n).rep=s.rep:=by unfold wait;split<;>rfl
theorem wait_susp(s:St)(n:Nat):(s.wait n).susp=s.susp:=by unfold wait;split<;>rfl
theorem wait_un(s:St)(n:Nat):(s.wait n).un=s.un:=by unfold wait;split<;>rfl
theorem wait_W{s:St}(a:∀i,i∈s.inside↔s.W i)(n i:Nat):(s.wait n).W i↔s.W i∨i=n:=by
 unfold wait;split
 ·rename_i h;have:=(a n).1 (by simpa using h);constructor
  ·exact .inl
  ·rintro(h|rfl)
   ·exact h
   ·exact this
 ·simp[W,or_assoc]
theorem wait_ins{s:St}(a:∀i,i∈s.inside↔s.W i){n:Nat}(b:n<128)(c:∀i,s.W i→i<128)(i:Nat):i∈(s.wait n).inside↔(s.wait n).W i:=by
 rw[wait_W a];unfold wait;split
 ·rename_i h;have:=(a n).1 (by simpa using h);rw[a];constructor
  ·exact .inl
  ·rintro(h|rfl)
   ·exact h
   ·exact this
 ·rw[bA,a];constructor
  ·rintro⟨_,h⟩;exact h.symm
  ·intro h;exact⟨by rcases h with h|rfl;exact c _ h;exact b,h.symm⟩
theorem wait_nw(s:St)(n:Nat):(s.wait n).nw≤s.nw+1:=by
 unfold wait nw;split
 ·omega
 ·simp;omega
end St
theorem Inv.j5{a:List (Int × Nat × Nat)}{n:Nat}{c:Way}{E:Nat→Prop}{s:St}(h:Inv a n c E s)(i:Nat)(b:s.W i):i<128:=by have:=(h.wst i b).1;have:=h.hn;omega
theorem Inv.wait{g:List (Int × Nat × Nat)}{n:Nat}{c:Way}{E:Nat→Prop}{s:St}(h:Inv g n c E s){i:Nat}(o:i<n)(p:s.rep i=i):Inv g n c E (s.wait i):=by
 have e:∀k,(s.wait i).ss.getD k []=s.ss.getD k []:=fun k=>by rw[St.wait_ss]
 have q:=h.hn;refine h.grow (St.wait_rep _ _) (by rw[St.wait_ss]) (fun _=>e _) (fun _=>e _) (fun _=>e _) (fun _=>e _) (fun k x=>by rw[e];exact h.bd k x) (fun j f=>by rw[e];exact h.gone j f) (fun j x=>by unfold St.tg;rw[e];exact id)
  (fun j x=>by unfold St.tg;rw[e];exact h.tg j x) (fun j x=>by unfold St.hr;rw[e];exact id) (fun j x=>by unfold St.hr;rw[e];exact h.hr j x) (fun j a=>(St.wait_W h.ins i j).2 (.inl a))
  (St.wait_ins h.ins (by omega) h.j5) ?_ (by rw[St.wait_susp];exact h.sus) ?_ ?_
 ·intro j a;rcases(St.wait_W h.ins i j).1 a with a|rfl
  ·exact h.wst j a
  ·exact⟨o,p⟩
 ·intro j x _ b l;unfold St.tg at b l;rw[e]at b;exact absurd b l
 ·intro j x y _ _ _ d m;unfold St.hr at d m;rw[e]at d;exact absurd d m
end
section
namespace St
theorem mis_le{s a:St}{n f:Nat}(h:∀i,i<n→a.rep i=i→s.rep i=i∧∀x,x∈s.ss.getD (7*i+f) []→x∈a.ss.getD (7*i+f) []):a.mis n f≤s.mis n f:=by
 refine xL fun i b=>?_
 show(if a.rep i=i then _ else 0)≤(if s.rep i=i then _ else 0);by_cases e:a.rep i=i
 ·obtain⟨c,d⟩:=h i b e;rw[if_pos e,if_pos c];have:=pO (n:=n) d;omega
 ·rw[if_neg e];omega
theorem mis_lt{s a:St}{n f:Nat}(h:∀i,i<n→a.rep i=i→s.rep i=i∧∀x,x∈s.ss.getD (7*i+f) []→x∈a.ss.getD (7*i+f) []){j x:Nat}(b:j<n)(c:a.rep j=j)(d:x<n)(h1:x ∉ s.ss.getD (7*j+f) [])(h2:x∈a.ss.getD (7*j+f) []):a.mis n f<s.mis n f:=by
 refine xM (fun i g=>?_) b ?_
 ·show(if a.rep i=i then _ else 0)≤(if s.rep i=i then _ else 0);by_cases e:a.rep i=i
  ·obtain⟨h1,h2⟩:=h i g e;rw[if_pos e,if_pos h1];have:=pO (n:=n) h2;omega
  ·rw[if_neg e];omega
 ·show(if a.rep j=j then _ else 0)<(if s.rep j=j then _ else 0);obtain⟨k,l⟩:=h j b c;rw[if_pos c,if_pos k];have:=AU (n:=n) l d h1 h2;have:=xK n (a.ss.getD (7*j+f) []);omega
theorem dn_eq{s a:St}{n:Nat}(h:a.rep=s.rep):a.dn n=s.dn n:=by unfold dn;rw[h]
theorem suspect_sum{s:St}{n f h:Nat}(i:s.ss.length=7*n)(d:f<n)(e:h<n)(_hn:n≤40)(b:∀x,x∈s.susp→x<n)(c:∀k x,x∈s.ss.getD k []→x<n) :
  (s.suspect f h).rep=s.rep∧(s.suspect f h).ss.length=s.ss.length∧(∀k,k≠7*f+6→(s.suspect f h).ss.getD k []=s.ss.getD k [])∧(∀x,x∈(s.suspect f h).ss.getD (7*f+6) []→x<n) ∧
  (s.suspect f h).now=s.now∧(s.suspect f h).come=s.come∧(s.suspect f h).inside=s.inside∧(s.suspect f h).un=s.un∧(∀x,x∈(s.suspect f h).susp→x<n):=by
 unfold suspect;split
 ·refine⟨rfl,by simp[addAt],?_,?_,rfl,rfl,rfl,rfl,?_⟩
  ·intro k g;show(s.put _ _).ss.getD k []=_;rw[put_get (by omega),if_neg g]
  ·intro x a;have a:x∈(s.put _ _).ss.getD (7*f+6) []:=a;rw[put_get (by omega),if_pos rfl,bA]at a;rcases a.2 with rfl|a
   ·exact e
   ·exact c _ _ a
  ·intro x a;have a:x∈dB f s.susp:=a;rw[bA]at a;rcases a.2 with rfl|a
   ·exact d
   ·exact b _ a
 ·exact⟨rfl,rfl,fun _ _=>rfl,fun x a=>c _ x a,rfl,rfl,rfl,rfl,b⟩
theorem hand_sum{c:Way}{s:St}{n f h:Nat}{T:List Nat}(e:s.ss.length=7*n)(C:f<n)(D:h<n)(E:n≤40)(o:∀x,x∈s.susp→x<n)(y:∀k x,x∈s.ss.getD k []→x<n)(F:∀x,x∈T→x<n)(p:∀i,i∈s.inside↔s.W i)(G:∀i,s.W i→i<n) :
  (s.hand c T f h).rep=s.rep∧(s.hand c T f h).ss.length=s.ss.length∧(∀k,k≠7*f+6→(s.hand c T f h).ss.getD k []=if k=7*h then cP (s.tg h) T else s.ss.getD k [])∧(∀x,x∈(s.hand c T f h).ss.getD (7*f+6) []→x<n) ∧
  (∀i,(s.hand c T f h).W i↔s.W i∨(i=h∧iM (s.tg h) T=true))∧(∀i,i∈(s.hand c T f h).inside↔(s.hand c T f h).W i)∧(s.hand c T f h).un=s.un+1∧(∀x,x∈(s.hand c T f h).susp→x<n)∧(s.hand c T f h).nw≤s.nw+(if iM (s.tg h) T then 1 else 0):=by
 obtain⟨a,b⟩:∃a,a=({ s with un:=s.un+1 }:St).put (7*h) (cP (s.tg h) T):=⟨_,rfl⟩;have g:∀k,a.ss.getD k []=if k=7*h then cP (s.tg h) T else s.ss.getD k []:=by intro k;rw[b];exact put_get (s:={ s with un:=s.un+1 }) (by show 7*h<s.ss.length;omega) k
 have q:∀k x,x∈a.ss.getD k []→x<n:=by
  intro k x d;rw[g]at d;split at d
  ·rw[bR]at d;rcases d.2 with d|d
   ·exact y _ _ d
   ·exact F _ d
  ·exact y _ _ d
 have j:∀i,i∈a.inside↔a.W i:=by rw[b];exact p
 have l:a.ss.length=7*n:=by rw[b];simp[put];exact e
 have m:∀i,a.W i↔s.W i:=by rw[b];exact fun _=>Iff.rfl
 have r:a.un=s.un+1:=by rw[b];rfl
 have t:a.rep=s.rep:=by rw[b];rfl
 have u:a.susp=s.susp:=by rw[b];rfl
 have w:a.nw=s.nw:=by rw[b];rfl
 have H:s.hand c T f h=if iM (s.tg h) T then a.wait h else if c.cycles then a.suspect f h else a:=by rw[b];rfl
 rw[H];cases Q:iM (s.tg h) T
 ·simp only[JY,if_false,and_false,or_false,Nat.add_zero];cases R:c.cycles
  ·simp only[JY,if_false];exact⟨t,by rw[l,e],fun k _=>g k,q _,m,j,r,by rw[u];exact o,by rw[w];exact gO _⟩
  ·simp only[if_true];obtain⟨I,J,K,L,z,A,M,N,O⟩:=suspect_sum (s:=a) l C D E (by rw[u];exact o) q;have B:∀i,(a.suspect f h).W i↔a.W i:=fun i=>by unfold W;rw[z,A]
   refine⟨by rw[I,t],by rw[J,l,e],fun k P=>by rw[K k P];exact g k,L,fun i=>by rw[B,m],fun i=>by rw[M,B];exact j i,by rw[N,r],O,by rw[← w];unfold nw;rw[z,A];exact gO _⟩
 ·simp only[if_true,and_true];refine⟨by rw[wait_rep,t],by rw[wait_ss,l,e],fun k _=>by rw[wait_ss];exact g k,by rw[wait_ss];exact q _,fun i=>by rw[wait_W j,m],wait_ins j (by omega) (fun i p=>by have:=G i ((m i).1 p);omega),by rw[wait_un,r],by rw[wait_susp,u];exact o,by rw[← w];exact wait_nw _ _⟩
end St
theorem Inv.hand{w:List (Int × Nat × Nat)}{n:Nat}{c:Way}{E:Nat→Prop}{s:St}(h:Inv w n c E s){T:List Nat}{f j:Nat}(L:f<n)(y:j<n)(M:s.rep f=f)(z:s.rep j=j)(o:∀x,x∈T→x<n∧PtN w j x) :
  Inv w n c E (s.hand c T f j)∧(s.hand c T f j).rep=s.rep∧(∀i x,x∈s.tg i→x∈(s.hand c T f j).tg i)∧(∀x,x∈T→x∈(s.hand c T f j).tg j)∧(∀i,(s.hand c T f j).hr i=s.hr i)∧(∀i,(s.hand c T f j).ld i=s.ld i)∧(∀i,(s.hand c T f j).sr i=s.sr i)∧(∀i,(s.hand c T f j).hd i=s.hd i) ∧
  (∀i,s.W i→(s.hand c T f j).W i)∧(∀i x,x∈(s.hand c T f j).tg i→x∈s.tg i∨(s.hand c T f j).W i)∧(s.hand c T f j).mea n≤s.mea n∧(s.hand c T f j).pt n≤s.pt n+1:=by
 obtain⟨m,N,l,O,A,P,X,Q,r⟩:=St.hand_sum (c:=c) (T:=T) (f:=f) (h:=j) h.len L y h.hn h.sus h.bd (fun x a=>(o x a).1) h.ins (fun i b=>(h.wst i b).1);have Y:=h.hn;generalize s.hand c T f j=d at *;have t:∀i,d.tg i=if i=j then cP (s.tg j) T else s.tg i:=by
  intro i;unfold St.tg;rw[l _ (by omega)];by_cases e:i=j
  ·subst e;simp;rfl
  ·rw[if_neg (by omega),if_neg e]
 have C:∀i,d.hd i=s.hd i:=fun i=>by unfold St.hd;rw[l _ (by omega),if_neg (by omega)]
 have p:∀i,d.hr i=s.hr i:=fun i=>by unfold St.hr;rw[l _ (by omega),if_neg (by omega)]
 have D:∀i,d.ld i=s.ld i:=fun i=>by unfold St.ld;rw[l _ (by omega),if_neg (by omega)]
 have F:∀i,d.sr i=s.sr i:=fun i=>by unfold St.sr;rw[l _ (by omega),if_neg (by omega)]
 have R:∀i,d.tw i=s.tw i:=fun i=>by unfold St.tw;rw[l _ (by omega),if_neg (by omega)]
 have u:∀i x,x∈s.tg i→x∈d.tg i:=by
  intro i x a;rw[t];split
  ·rename_i e;subst e;have:=h.bd _ _ a;exact bR.2 ⟨by omega,.inl a⟩
  ·exact a
 have G:∀x,x∈T→x∈d.tg j:=by intro x a;rw[t,if_pos rfl];have:=(o x a).1;exact bR.2 ⟨by omega,.inr a⟩
 have H:∀i x,x∈d.tg i→x∈s.tg i∨d.W i:=by
  intro i x a;rw[t]at a;split at a
  ·rename_i e;subst e;by_cases q:x∈s.tg i
   ·exact .inl q
   ·refine .inr ((A i).2 (.inr ⟨rfl,lF.2 ⟨x,?_,q⟩⟩));exact(bR.1 a).2.resolve_left q
  ·exact .inl a
 have I:∀i,s.W i→d.W i:=fun i b=>(A i).2 (.inl b)
 have Z:d.nw+d.mis n 0≤s.nw+s.mis n 0:=by
  cases B:iM (s.tg j) T
  ·rw[B]at r;simp at r;have:d.mis n 0≤s.mis n 0:=St.mis_le (fun i _ b=>⟨by rw[m]at b;exact b,fun x a=>u i x a⟩);omega
  ·rw[B]at r;simp at r;obtain⟨x,a,S⟩:=lF.1 B;have:d.mis n 0<s.mis n 0:=St.mis_lt (fun i _ b=>⟨by rw[m]at b;exact b,fun x a=>u i x a⟩) y (by rw[m];exact z) (o x a).1 S (G x a);omega
 have m2:d.mis n 2≤s.mis n 2:=St.mis_le (fun i _ b=>⟨by rw[m]at b;exact b,fun x a=>by have:=p i;unfold St.hr at this;rw[this];exact a⟩);have md:=St.dn_eq (n:=n) m;have J:d.mea n≤s.mea n:=by unfold St.mea;omega
 refine⟨?_,m,u,G,p,D,F,C,I,H,J,?_⟩
 ·refine h.grow m N C D F R ?_ ?_ u ?_ (fun i x a=>by rw[p];exact a) (fun i x a=>by rw[p]at a;exact h.hr i x a) I P ?_ Q (fun i x _ a q=>(H i x a).resolve_left q) (fun i x a0 _ _ _ K U=>absurd (by rw[p]at K;exact K) U)
  ·intro k x a;by_cases e:k=7*f+6
   ·subst e;exact O x a
   ·rw[l k e]at a;split at a
    ·rcases(bR.1 a).2 with a|a
     ·exact h.bd _ _ a
     ·exact(o x a).1
    ·exact h.bd _ _ a
  ·intro i g b V;have a1:i≠f:=fun e=>b (by rw[e];exact M)
   have a2:i≠j:=fun e=>b (by rw[e];exact z)
   rw[l _ (by omega),if_neg (by omega)];exact h.gone i g b V
  ·intro i x a;rw[t]at a;split at a
   ·rename_i e;subst e;rcases(bR.1 a).2 with a|a
    ·exact h.tg _ _ a
    ·exact(o x a).2
   ·exact h.tg _ _ a
  ·intro i b;rcases(A i).1 b with b|⟨rfl,_⟩
   ·exact h.wst i b
   ·exact⟨y,z⟩
 ·have:=Kq n J;unfold St.pt;omega
end
section
structure More(n:Nat)(s s':St):Prop where
 rep:s'.rep=s.rep
 tg:∀i x,x∈s.tg i→x∈s'.tg i
 hr:∀i x,x∈s.hr i→x∈s'.hr i
 ld:∀i,s'.ld i=s.ld i
 sr:∀i,s'.sr i=s.sr i
 hd:∀i,s'.hd i=s.hd i
 w:∀i,s.W i→s'.W i
 new:∀i x,x∈s'.tg i→x∈s.tg i∨s'.W i
 mea:s'.mea n≤s.mea n
theorem More.refl(n:Nat)(s:St):More n s s:=⟨rfl,fun _ _ h=>h,fun _ _ h=>h,fun _=>rfl,fun _=>rfl,fun _=>rfl,fun _ h=>h,fun _ _ h=>.inl h,gO _⟩
theorem More.trans{n:Nat}{a b c:St}(h:More n a b)(k:More n b c):More n a c:=
 ⟨k.rep.trans h.rep,fun i x d=>k.tg i x (h.tg i x d),fun i x d=>k.hr i x (h.hr i x d),fun i=>(k.ld i).trans (h.ld i),fun i=>(k.sr i).trans (h.sr i),fun i=>(k.hd i).trans (h.hd i),fun i e=>k.w i (h.w i e),
  fun i x d=>(k.new i x d).elim (fun d=>(h.new i x d).imp id (k.w i)) .inr,IH k.mea h.mea⟩
theorem More.edge{n:Nat}{s a:St}(h:More n s a){t p:Nat}(b:s.Edge t p):a.Edge t p:=by
 rcases b with e|⟨j,c,e⟩
 ·exact .inl (by rw[h.rep];exact e)
 ·exact .inr ⟨j,by rw[h.rep];exact h.hr _ _ c,by rw[h.rep];exact e⟩
theorem Inv.lz{a:List (Int × Nat × Nat)}{n:Nat}{c:Way}{E:Nat→Prop}{s:St}(h:Inv a n c E s){T:List Nat}{f j:Nat}(b:f<n)(d:j<n)(e:s.rep f=f)(g:s.rep j=j)(k:∀x,x∈T→x<n∧PtN a j x) :
  Inv a n c E (s.hand c T f j)∧More n s (s.hand c T f j)∧(∀x,x∈T→x∈(s.hand c T f j).tg j)∧(s.hand c T f j).pt n≤s.pt n+1:=by
 obtain⟨l,m,o,p,q,r,t,u,w,y,z,A⟩:=h.hand b d e g k;exact⟨l,⟨m,o,fun i x B=>by rw[q];exact B,r,t,u,w,y,z⟩,p,A⟩
theorem Inv.link{y:List (Int × Nat × Nat)}{n:Nat}{c:Way}{E:Nat→Prop}{s:St}(h:Inv y n c E s){f j:Nat}(hf:f<n)(hj:j<n)(hS:∀t,PtN y f t→PtN y j t) :
  Inv y n c E (s.link c f j)∧More n s (s.link c f j)∧(s.link c f j).Edge f j∧(s.link c f j).pt n≤s.pt n:=by
 have hn:=h.hn;have V:=h.rlt hf;have z:=h.rlt hj;have X:∀t,PtN y (s.rep f) t→PtN y (s.rep j) t:=fun t ht=>(h.same j t).2 (hS t ((h.same f t).1 ht))
 have Y:=h.repi f;have A:=h.repi j;unfold St.link;by_cases r:(s.rep f == s.rep j || (s.hr (s.rep f)).contains (s.rep j))=true
 ·simp only[r,if_true];refine⟨h,More.refl _ _,?_,gO _⟩;simp only[Nc,beq_iff_eq,JZ]at r;rcases r with r|r
  ·exact .inl r
  ·exact .inr ⟨_,r,A⟩
 ·simp only[r,if_false,JY];simp only[Nc,beq_iff_eq,JZ,not_or]at r;obtain⟨ar,ai⟩:=r;generalize ef:s.rep f=g at *;generalize ej:s.rep j=d at *;obtain⟨m,u⟩:∃m,m=s.addAt (7*g+2) d:=⟨_,rfl⟩;rw[← u];have B:∀k,m.ss.getD k []=if k=7*g+2 then dB d (s.hr g)else s.ss.getD k []:=by
   intro k;rw[u];exact St.put_get (by rw[h.len];omega) k
  have et:m.tg g=s.tg g:=by unfold St.tg;rw[B,if_neg (by omega)]
  have eh:m.hd g=s.hd g:=by unfold St.hd;rw[B,if_neg (by omega)]
  have aj:m.tg d=s.tg d:=by unfold St.tg;rw[B,if_neg (by omega)]
  rw[et,eh];obtain⟨T,L⟩:∃T,T=if c.deltas then s.hd g else s.tg g:=⟨_,rfl⟩
  rw[← L];have Z:∀x,x∈T→x∈s.tg g:=by
   intro x a;rw[L]at a;split at a
   ·exact h.hdt _ _ a
   ·exact a
  have D:∀x,x∈T→x<n∧PtN y d x:=fun x a=>⟨h.bd _ _ (Z x a),X x (h.tg _ _ (Z x a))⟩
  have a0:∀k x,x∈m.ss.getD k []→x<n:=by
   intro k x a;rw[B]at a;split at a
   ·rcases(bA.1 a).2 with rfl|a
    ·exact z
    ·exact h.bd _ _ a
   ·exact h.bd _ _ a
  have a1:m.rep=s.rep:=by rw[u];rfl
  have M:m.ss.length=s.ss.length:=by rw[u];simp[St.addAt]
  have a2:m.inside=s.inside:=by rw[u];rfl
  have F:∀i,m.W i↔s.W i:=by rw[u];exact fun _=>Iff.rfl
  have a3:m.susp=s.susp:=by rw[u];rfl
  have au:m.un=s.un:=by rw[u];rfl
  have a4:m.nw=s.nw:=by rw[u];rfl
  -- av aw ax,in one ay of az
  have ak:∃b,b=(if T.isEmpty then m else m.hand c T g d)∧b.rep=s.rep∧b.ss.length=s.ss.length∧(∀k,k≠7*g+6→b.ss.getD k []=if k=7*d∧T≠[]then cP (s.tg d) T else if k=7*g+2 then dB d (s.hr g)else s.ss.getD k [])∧(∀x,x∈b.ss.getD (7*g+6) []→x<n) ∧
    (∀i,b.W i↔s.W i∨(i=d∧iM (s.tg d) T=true))∧(∀i,i∈b.inside↔b.W i)∧b.un≤s.un+1∧(∀x,x∈b.susp→x<n)∧b.nw≤s.nw+(if iM (s.tg d) T then 1 else 0):=by
   refine⟨_,rfl,?_⟩;cases N:T with
   |nil=>simp only[List.isEmpty_nil,if_true,ne_eq,not_true_eq_false,and_false,if_false];refine⟨a1,M,fun k _=>B k,a0 _,fun i=>by rw[F];simp[iM],fun i=>by rw[a2,F];exact h.ins i,by omega,by rw[a3];exact h.sus,by rw[a4];omega⟩
   |cons aV b0=>
    rw[← N];have al:T.isEmpty=false:=by rw[N];rfl
    have am:T≠[]:=by rw[N];simp
    simp only[al,JY,if_false];obtain⟨o,O,p,P,C,Q,a7,R,w⟩:=St.hand_sum (c:=c) (s:=m) (T:=T) (f:=g) (h:=d) (by rw[M];exact h.len) V z h.hn (by rw[a3];exact h.sus) a0 (fun x a=>(D x a).1) (fun i=>by rw[a2,F];exact h.ins i) (fun i l=>(h.wst i ((F i).1 l)).1);rw[aj]at p C w;refine⟨by rw[o,a1],by rw[O,M],fun k hk=>?_,P,fun i=>by rw[C,F],Q,by omega,R,by rw[a4]at w;exact w⟩;rw[p k hk,B];by_cases e:k=7*d
    ·rw[if_pos e,if_pos ⟨e,am⟩]
    ·rw[if_neg e,if_neg (show ¬(k=7*d∧T≠[])from fun x=>e x.1)]
  obtain⟨b,a5,o,O,p,P,C,Q,a7,R,w⟩:=ak;rw[← a5];clear a5;have H:∀i,b.tg i=if i=d∧T≠[]then cP (s.tg d) T else s.tg i:=by
   intro i;unfold St.tg;rw[p _ (by omega)];by_cases e:i=d
   ·subst e;by_cases I:T=[]
    ·rw[if_neg (by simp[I]),if_neg (by omega),if_neg (by simp[I])]
    ·rw[if_pos ⟨rfl,I⟩,if_pos ⟨rfl,I⟩];rfl
   ·rw[if_neg (by omega),if_neg (by omega),if_neg (by simp[e])]
  have a6:∀i,b.hd i=s.hd i:=fun i=>by unfold St.hd;rw[p _ (by omega),if_neg (by omega),if_neg (by omega)]
  have J:∀i,b.hr i=if i=g then dB d (s.hr g)else s.hr i:=by
   intro i;unfold St.hr;rw[p _ (by omega),if_neg (by omega)];by_cases e:i=g
   ·subst e;rw[if_pos rfl,if_pos rfl];rfl
   ·rw[if_neg (by omega),if_neg e]
  have a8:∀i,b.ld i=s.ld i:=fun i=>by unfold St.ld;rw[p _ (by omega),if_neg (by omega),if_neg (by omega)]
  have a9:∀i,b.sr i=s.sr i:=fun i=>by unfold St.sr;rw[p _ (by omega),if_neg (by omega),if_neg (by omega)]
  have an:∀i,b.tw i=s.tw i:=fun i=>by unfold St.tw;rw[p _ (by omega),if_neg (by omega),if_neg (by omega)]
  have K:∀i x,x∈s.tg i→x∈b.tg i:=by
   intro i x a;rw[H];split
   ·rename_i e;obtain⟨rfl,_⟩:=e;have:=h.bd _ _ a;exact bR.2 ⟨by omega,.inl a⟩
   ·exact a
  have aa:∀x,x∈T→x∈b.tg d:=by intro x a;rw[H,if_pos ⟨rfl,fun e=>by rw[e]at a;cases a⟩];have:=(D x a).1;exact bR.2 ⟨by omega,.inr a⟩
  have S:∀i x,x∈s.hr i→x∈b.hr i:=by
   intro i x a;rw[J];split
   ·rename_i e;subst e;have:=h.bd _ _ a;exact bA.2 ⟨by omega,.inr a⟩
   ·exact a
  have ab:d∈b.hr g:=by rw[J,if_pos rfl];exact bA.2 ⟨by omega,.inl rfl⟩
  have ad:∀i x,x∈b.tg i→x∈s.tg i∨b.W i:=by
   intro i x a;rw[H]at a;split at a
   ·rename_i e;obtain⟨rfl,_⟩:=e;by_cases G:x∈s.tg i
    ·exact .inl G
    ·exact .inr ((C i).2 (.inr ⟨rfl,lF.2 ⟨x,(bR.1 a).2.resolve_left G,G⟩⟩))
   ·exact .inl a
  have ae:∀i,s.W i→b.W i:=fun i l=>(C i).2 (.inl l)
  have m0:b.nw+b.mis n 0≤s.nw+s.mis n 0:=by
   cases U:iM (s.tg d) T
   ·rw[U]at w;simp at w;have:b.mis n 0≤s.mis n 0:=St.mis_le (fun i _ l=>⟨by rw[o]at l;exact l,fun x a=>K i x a⟩);omega
   ·rw[U]at w;simp at w;obtain⟨x,a,ao⟩:=lF.1 U;have:b.mis n 0<s.mis n 0:=St.mis_lt (fun i _ l=>⟨by rw[o]at l;exact l,fun x a=>K i x a⟩) z (by rw[o];exact A) (D x a).1 ao (aa x a);omega
  have m2:b.mis n 2<s.mis n 2:=St.mis_lt (fun i _ l=>⟨by rw[o]at l;exact l,fun x a=>S i x a⟩) V (by rw[o];exact Y) z ai ab;have md:=St.dn_eq (n:=n) o;have mm:b.mea n≤s.mea n:=by unfold St.mea;omega
  refine⟨?_,⟨o,K,S,a8,a9,a6,ae,ad,mm⟩,?_,?_⟩
  ·refine h.grow o O a6 a8 a9 an ?_ ?_ K ?_ S ?_ ae Q ?_ R (fun i x _ a G=>(ad i x a).resolve_left G) ?_
   ·intro k x a;by_cases e:k=7*g+6
    ·subst e;exact P x a
    ·rw[p k e]at a;split at a
     ·rcases(bR.1 a).2 with a|a
      ·exact h.bd _ _ a
      ·exact(D x a).1
     ·split at a
      ·rcases(bA.1 a).2 with rfl|a
       ·exact z
       ·exact h.bd _ _ a
      ·exact h.bd _ _ a
   ·intro i ap l hg;have b1:i≠g:=fun e=>l (by rw[e];exact Y)
    have b2:i≠d:=fun e=>l (by rw[e];exact A)
    rw[p _ (by omega),if_neg (by omega),if_neg (by omega)];exact h.gone i ap l hg
   ·intro i x a;rw[H]at a;split at a
    ·rename_i e;obtain⟨rfl,_⟩:=e;rcases(bR.1 a).2 with a|a
     ·exact h.tg _ _ a
     ·exact(D x a).2
    ·exact h.tg _ _ a
   ·intro i af q;rw[J]at q;split at q
    ·rename_i e;subst e;rcases(bA.1 q).2 with rfl|q
     ·exact X
     ·exact h.hr _ _ q
    ·exact h.hr _ _ q
   ·intro i l;rcases(C i).1 l with l|⟨rfl,_⟩
    ·exact h.wst i l
    ·exact⟨z,A⟩
   ·intro i x af l a ag q ah;rw[J]at q;split at q
    ·rename_i e;subst e;have aq:af=d:=(bA.1 q).2.resolve_right ah;subst aq;rw[A];refine aa x ?_
     rw[L];split
     ·rename_i hd;rw[if_pos hd]at ag;exact ag
     ·exact a
    ·exact absurd q ah
  ·refine .inr ⟨d,?_,?_⟩
   ·rw[o,ef];exact ab
   ·rw[o,ej];exact A
  ·have:=Kq n mm;unfold St.pt;omega
def AV(f:Nat)(A B:List Nat):List Nat:=if f=1 then lD A B else cP A B
namespace St
theorem fuse_sum{s:St}{n i j:Nat}(E:s.ss.length=7*n)(hi:i<n)(_hj:j<n)(a1:i≠j) :
  (s.fuse i j).ss.length=7*n∧(∀x f,f<7→(s.fuse i j).ss.getD (7*x+f) []=if x=i then AV f (s.ss.getD (7*i+f) []) (s.ss.getD (7*j+f) [])else s.ss.getD (7*x+f) []) ∧
  (s.fuse i j).rep=(fun n=>if s.rep n == j then i else s.rep n)∧(s.fuse i j).inside=s.inside∧(s.fuse i j).now=s.now∧(s.fuse i j).come=s.come∧(s.fuse i j).susp=s.susp∧(s.fuse i j).un=s.un:=by
 refine⟨by simp[fuse,put];exact E,?_,rfl,rfl,rfl,rfl,rfl,rfl⟩;intro x f hf;obtain⟨r,F⟩:∃r:St,r={ s with rep:=fun n=>if s.rep n == j then i else s.rep n }:=⟨_,rfl⟩;obtain⟨d,u⟩:∃d:St,d=r.put (7*i) (cP (r.tg i) (r.tg j)):=⟨_,rfl⟩;obtain⟨h,w⟩:∃b:St,b=d.put (7*i+1) (lD (d.hd i) (d.hd j)):=⟨_,rfl⟩;obtain⟨l,y⟩:∃b:St,b=h.put (7*i+2) (cP (h.hr i) (h.hr j)):=⟨_,rfl⟩;obtain⟨m,z⟩:∃b:St,b=l.put (7*i+3) (cP (l.ld i) (l.ld j)):=⟨_,rfl⟩;obtain⟨o,A⟩:∃b:St,b=m.put (7*i+4) (cP (m.sr i) (m.sr j)):=⟨_,rfl⟩;obtain⟨p,B⟩:∃b:St,b=o.put (7*i+5) (cP (o.tw i) (o.tw j)):=⟨_,rfl⟩;obtain⟨G,H⟩:∃b:St,b=p.put (7*i+6) (cP (p.tr i) (p.tr j)):=⟨_,rfl⟩;have I:s.fuse i j=G:=by rw[H,B,A,z,y,w,u,F];rfl
 rw[I];have C:r.ss=s.ss:=by rw[F]
 have J:d.ss.length=7*n:=by rw[u,put_len,C];exact E
 have K:h.ss.length=7*n:=by rw[w,put_len];exact J
 have L:l.ss.length=7*n:=by rw[y,put_len];exact K
 have M:m.ss.length=7*n:=by rw[z,put_len];exact L
 have N:o.ss.length=7*n:=by rw[A,put_len];exact M
 have l6:p.ss.length=7*n:=by rw[B,put_len];exact N
 have a:∀k,d.ss.getD k []=if k=7*i then cP (s.tg i) (s.tg j)else s.ss.getD k []:=fun k=>by rw[u,put_get (by rw[C];omega)];unfold tg;rw[C]
 have O:d.hd i=s.hd i:=by unfold hd;rw[a,if_neg (by omega)]
 have P:d.hd j=s.hd j:=by unfold hd;rw[a,if_neg (by omega)]
 have c:∀k,h.ss.getD k []=if k=7*i+1 then lD (s.hd i) (s.hd j)else d.ss.getD k []:=fun k=>by rw[w,put_get (by omega),O,P]
 have Q:h.hr i=s.hr i:=by unfold hr;rw[c,if_neg (by omega),a,if_neg (by omega)]
 have R:h.hr j=s.hr j:=by unfold hr;rw[c,if_neg (by omega),a,if_neg (by omega)]
 have g:∀k,l.ss.getD k []=if k=7*i+2 then cP (s.hr i) (s.hr j)else h.ss.getD k []:=fun k=>by rw[y,put_get (by omega),Q,R]
 have S:l.ld i=s.ld i:=by unfold ld;rw[g,if_neg (by omega),c,if_neg (by omega),a,if_neg (by omega)]
 have T:l.ld j=s.ld j:=by unfold ld;rw[g,if_neg (by omega),c,if_neg (by omega),a,if_neg (by omega)]
 have q:∀k,m.ss.getD k []=if k=7*i+3 then cP (s.ld i) (s.ld j)else l.ss.getD k []:=fun k=>by rw[z,put_get (by omega),S,T]
 have U:m.sr i=s.sr i:=by unfold sr;rw[q,if_neg (by omega),g,if_neg (by omega),c,if_neg (by omega),a,if_neg (by omega)]
 have V:m.sr j=s.sr j:=by unfold sr;rw[q,if_neg (by omega),g,if_neg (by omega),c,if_neg (by omega),a,if_neg (by omega)]
 have t:∀k,o.ss.getD k []=if k=7*i+4 then cP (s.sr i) (s.sr j)else m.ss.getD k []:=fun k=>by rw[A,put_get (by omega),U,V]
 have X:o.tw i=s.tw i:=by unfold tw;rw[t,if_neg (by omega),q,if_neg (by omega),g,if_neg (by omega),c,if_neg (by omega),a,if_neg (by omega)]
 have Y:o.tw j=s.tw j:=by unfold tw;rw[t,if_neg (by omega),q,if_neg (by omega),g,if_neg (by omega),c,if_neg (by omega),a,if_neg (by omega)]
 have D:∀k,p.ss.getD k []=if k=7*i+5 then cP (s.tw i) (s.tw j)else o.ss.getD k []:=fun k=>by rw[B,put_get (by omega),X,Y]
 have Z:p.tr i=s.tr i:=by unfold tr;rw[D,if_neg (by omega),t,if_neg (by omega),q,if_neg (by omega),g,if_neg (by omega),c,if_neg (by omega),a,if_neg (by omega)]
 have a0:p.tr j=s.tr j:=by unfold tr;rw[D,if_neg (by omega),t,if_neg (by omega),q,if_neg (by omega),g,if_neg (by omega),c,if_neg (by omega),a,if_neg (by omega)]
 have g7:∀k,G.ss.getD k []=if k=7*i+6 then cP (s.tr i) (s.tr j)else p.ss.getD k []:=fun k=>by rw[H,put_get (by omega),Z,a0]
 rw[g7,D,t,q,g,c,a];by_cases e:x=i
 ·subst e;rw[if_pos rfl];have:f=0∨f=1∨f=2∨f=3∨f=4∨f=5∨f=6:=by omega
  rcases this with rfl|rfl|rfl|rfl|rfl|rfl|rfl<;>simp[AV,tg,hd,hr,ld,sr,tw,tr]
 ·rw[if_neg e,if_neg (by omega),if_neg (by omega),if_neg (by omega),if_neg (by omega),if_neg (by omega),if_neg (by omega),if_neg (by omega)]
theorem clears{j:Nat}:∀(m:Nat) (s:St) (n:Nat),s.ss.length=7*n→j<n→m≤7 →
  ((IQ m).foldl (fun s k=>s.put (7*j+k) []) s).ss.length=7*n∧(∀k,((IQ m).foldl (fun s k=>s.put (7*j+k) []) s).ss.getD k []=if 7*j≤k∧k<7*j+m then []else s.ss.getD k []) ∧
  ((IQ m).foldl (fun s k=>s.put (7*j+k) []) s).rep=s.rep∧((IQ m).foldl (fun s k=>s.put (7*j+k) []) s).inside=s.inside∧((IQ m).foldl (fun s k=>s.put (7*j+k) []) s).now=s.now∧((IQ m).foldl (fun s k=>s.put (7*j+k) []) s).come=s.come ∧
  ((IQ m).foldl (fun s k=>s.put (7*j+k) []) s).susp=s.susp∧((IQ m).foldl (fun s k=>s.put (7*j+k) []) s).un=s.un:=by
 intro m;induction m with
 |zero=>intro s n a _ _;exact⟨a,fun k=>by rw[if_neg (by omega)];rfl,rfl,rfl,rfl,rfl,rfl,rfl⟩
 |succ m c=>
  intro s n a d r;obtain⟨f,g,h,i,l,o,p,q⟩:=c s n a d (by omega);rw[Ko,List.foldl_append];simp only[JB,List.foldl_nil];generalize (IQ m).foldl (fun s k=>s.put (7*j+k) []) s=t at *;refine⟨by rw[put_len];exact f,fun k=>?_,h,i,l,o,p,q⟩;rw[put_get (by omega),g];by_cases e:k=7*j+m
  ·rw[if_pos e,if_pos (by omega)]
  ·rw[if_neg e];by_cases b:7*j≤k∧k<7*j+m
   ·rw[if_pos b,if_pos (by omega)]
   ·rw[if_neg b,if_neg (by omega)]
theorem clear_sum{s:St}{n j:Nat}(a:s.ss.length=7*n)(b:j<n) :
  (s.clear j).ss.length=7*n∧(∀x f,f<7→(s.clear j).ss.getD (7*x+f) []=if x=j then []else s.ss.getD (7*x+f) [])∧(s.clear j).rep=s.rep∧(s.clear j).inside=gR j s.inside∧(s.clear j).now=s.now.filter (· != j)∧(s.clear j).come=s.come.filter (· != j) ∧
  (s.clear j).susp=s.susp∧(s.clear j).un=s.un+1:=by
 obtain⟨c,d,g,h,i,l,m,o⟩:=clears (j:=j) 7 ({ s with un:=s.un+1 }:St) n a b (by omega);unfold clear drop;refine⟨c,?_,g,by show gR j _=_;rw[h],by show KK _ _=_;rw[i],by show KK _ _=_;rw[l],m,o⟩;intro x f p;show(List.foldl (fun(s:St) k=>s.put (7*j+k) []) _ (IQ 7)).ss.getD _ []=_;rw[d];by_cases e:x=j
 ·rw[if_pos e,if_pos (by omega)]
 ·rw[if_neg e,if_neg (by omega)]
end St
theorem kZ(l:List Nat)(j:Nat):(l.filter (· != j)).length≤l.length:=Ma _ _
theorem Inv.merge{fs:List (Int × Nat × Nat)}{n:Nat}{c:Way}{E:Nat→Prop}{s:St}(h:Inv fs n c E s){a b:Nat}(ha:a<n)(hb:b<n)(hS:∀t,PtN fs a t↔PtN fs b t) :
  Inv fs n c E (s.merge a b).2∧((s.merge a b).1=false→(s.merge a b).2=s)∧((s.merge a b).1=true→(s.merge a b).2.mea n+1≤s.mea n∧(s.merge a b).2.pt n+n≤s.pt n):=by
 have hn:=h.hn;unfold St.merge;by_cases hab:(s.rep a == s.rep b)=true
 ·rw[if_pos hab];exact⟨h,fun _=>rfl,fun e=>by cases e⟩
 ·rw[if_neg hab];simp only[Bool.true_eq_false,false_implies,true_and,forall_const];simp only[beq_iff_eq]at hab;have hS':∀t,PtN fs (s.rep a) t↔PtN fs (s.rep b) t:=fun t=>((h.same a t).trans (hS t)).trans (h.same b t).symm
  have ra:=h.repi a;have rb:=h.repi b;have la:=h.rlt ha;have lb:=h.rlt hb;obtain⟨i,ei⟩:∃i,i=min (s.rep a) (s.rep b):=⟨_,rfl⟩;obtain⟨j,ej⟩:∃j,j=max (s.rep a) (s.rep b):=⟨_,rfl⟩;rw[← ei,← ej];have hi:i<n:=by omega
  have hj:j<n:=by omega
  have hij:i<j:=by omega
  have ri:s.rep i=i:=by rcases(show i=s.rep a∨i=s.rep b by omega)with e|e<;>rw[e]<;>assumption
  have rj:s.rep j=j:=by rcases(show j=s.rep a∨j=s.rep b by omega)with e|e<;>rw[e]<;>assumption
  have hSij:∀t,PtN fs i t↔PtN fs j t:=by
   intro t;rcases(show(i=s.rep a∧j=s.rep b)∨(i=s.rep b∧j=s.rep a) by omega)with⟨e1,e2⟩|⟨e1,e2⟩<;>rw[e1,e2]
   ·exact hS' t
   ·exact(hS' t).symm
  clear ei ej ra rb la lb hS' hab;obtain⟨f1,f2,f3,f4,f5,f6,f7,f8⟩:=St.fuse_sum (s:=s) h.len hi hj (by omega);have fW:∀x,(s.fuse i j).W x↔s.W x:=fun x=>by unfold St.W;rw[f5,f6]
  have fnw:(s.fuse i j).nw=s.nw:=by unfold St.nw;rw[f5,f6]
  have fins:∀x,x∈(s.fuse i j).inside↔(s.fuse i j).W x:=fun x=>by rw[f4,fW];exact h.ins x
  have gW:∀x,((s.fuse i j).wait i).W x↔s.W x∨x=i:=fun x=>by rw[St.wait_W fins,fW]
  have gins:=St.wait_ins fins (n:=i) (by omega) (fun x hx=>h.j5 x ((fW x).1 hx));have gnw:=St.wait_nw (s.fuse i j) i;obtain⟨c1,c2,c3,c4,c5,c6,c7,c8⟩:=St.clear_sum (s:=(s.fuse i j).wait i) (j:=j) (by rw[St.wait_ss];exact f1) hj;have cW:∀x,(((s.fuse i j).wait i).clear j).W x↔(s.W x∨x=i)∧x≠j:=by
   intro x;have:=gW x;unfold St.W at this ⊢;rw[c5,c6];simp only[Li,bne_iff_ne];constructor
   ·rintro(⟨h1,h2⟩|⟨h1,h2⟩)
    ·exact⟨this.1 (.inl h1),h2⟩
    ·exact⟨this.1 (.inr h1),h2⟩
   ·rintro⟨h1,h2⟩;rcases this.2 h1 with h1|h1
    ·exact .inl ⟨h1,h2⟩
    ·exact .inr ⟨h1,h2⟩
  have cins:∀x,x∈(((s.fuse i j).wait i).clear j).inside↔(((s.fuse i j).wait i).clear j).W x:=by
   intro x;rw[c4,cW,iN,gins,gW];constructor
   ·rintro⟨_,h1,h2⟩;exact⟨h2,h1⟩
   ·rintro⟨h2,h1⟩;refine⟨?_,h1,h2⟩;rcases h2 with h2|rfl
    ·exact h.j5 x h2
    ·omega
  have cnw:(((s.fuse i j).wait i).clear j).nw≤s.nw+1:=by
   have h1:(((s.fuse i j).wait i).clear j).nw≤((s.fuse i j).wait i).nw:=by unfold St.nw;rw[c5,c6];have:=kZ ((s.fuse i j).wait i).now j;have:=kZ ((s.fuse i j).wait i).come j;omega
   omega
  rw[St.wait_rep,f3]at c3;rw[St.wait_susp,f7]at c7;rw[St.wait_un,f8]at c8;simp only[St.wait_ss]at c2;have eg:∀x f,f<7→(((s.fuse i j).wait i).clear j).ss.getD (7*x+f) []=if x=j then []else if x=i then AV f (s.ss.getD (7*i+f) []) (s.ss.getD (7*j+f) [])else s.ss.getD (7*x+f) []:=by
   intro x f hf;rw[c2 x f hf];by_cases e:x=j
   ·rw[if_pos e,if_pos e]
   ·rw[if_neg e,if_neg e,f2 x f hf]
  clear f1 f2 f3 f4 f5 f6 f7 f8 fW fnw fins gW gins gnw c2 c4 c5 c6;generalize ((s.fuse i j).wait i).clear j=s' at *;have hrep:∀x,s'.rep x=if s.rep x=j then i else s.rep x:=fun x=>by rw[c3];by_cases e:s.rep x=j<;>simp[e]
  have rle:∀x,s'.rep x≤s.rep x:=fun x=>by rw[hrep];split<;>omega
  have rstd:∀x,s'.rep x=x→s.rep x=x∧x≠j:=by
   intro x hx;rw[hrep]at hx;split at hx
   ·subst hx;exact⟨ri,by omega⟩
   ·rename_i hne;exact⟨hx,fun e=>hne (by rw[e];exact rj)⟩
  -- what was in a set of one is in that of who stands for it (but for what was handed on)
  have up:∀x f y,s.rep x=x→f<7→f≠1→y∈s.ss.getD (7*x+f) []→y∈s'.ss.getD (7*s'.rep x+f) []:=by
   intro x f y hx hf hf1 hy;have hyb:=h.bd _ _ hy;rw[hrep,hx];split
   ·rename_i e;subst e;rw[eg _ _ hf,if_neg (by omega),if_pos rfl];unfold AV;rw[if_neg hf1];exact bR.2 ⟨by omega,.inr hy⟩
   ·rename_i e;rw[eg _ _ hf,if_neg e];split
    ·rename_i e2;subst e2;unfold AV;rw[if_neg hf1];exact bR.2 ⟨by omega,.inl hy⟩
    ·exact hy
  have up':∀x f y,f<7→f≠1→y∈s.ss.getD (7*s.rep x+f) []→y∈s'.ss.getD (7*s'.rep x+f) []:=by intro x f y hf hf1 hy;have:=up (s.rep x) f y (h.repi x) hf hf1 hy;rwa [show s'.rep (s.rep x)=s'.rep x by rw[hrep,hrep,h.repi]]at this
  have cong:∀x y,s.rep x=s.rep y→s'.rep x=s'.rep y:=fun x y e=>by rw[hrep,hrep,e]
  have repi':∀x,s'.rep (s'.rep x)=s'.rep x:=by
   intro x;by_cases e:s.rep x=j
   ·have e1:s'.rep x=i:=by rw[hrep,if_pos e]
    rw[e1,hrep,ri,if_neg (by omega)]
   ·have e1:s'.rep x=s.rep x:=by rw[hrep,if_neg e]
    rw[e1,hrep,h.repi,if_neg e]
  have edge:∀t p,s.Edge t p→s'.Edge t p:=by
   rintro t p (e|⟨y,hy,e⟩)
   ·exact .inl (cong _ _ e)
   ·exact .inr ⟨y,up' t 2 y (by omega) (by omega) hy,cong _ _ e⟩
  -- where a set of s' comes from
  have dn:∀x f y,f<7→y∈s'.ss.getD (7*x+f) []→y∈s.ss.getD (7*x+f) []∨(x=i∧y∈s.ss.getD (7*j+f) []):=by
   intro x f y hf hy;rw[eg _ _ hf]at hy;split at hy
   ·cases hy
   ·split at hy
    ·rename_i e;subst e;unfold AV at hy;split at hy
     ·exact .inl (lE.1 hy).2.1
     ·rcases(bR.1 hy).2 with hy|hy
      ·exact .inl hy
      ·exact .inr ⟨rfl,hy⟩
    ·exact .inl hy
  have hWi:s'.W i:=(cW i).2 ⟨.inr rfl,by omega⟩;have inv:Inv fs n c E s':=by
   refine⟨h.hn,h.fsb,c1,fun x=>IH (rle x) (h.repl x),repi',?_,?_,?_,?_,?_,?_,?_,?_,?_,?_,?_,?_,?_,?_,cins,?_,by rw[c7];exact h.sus,?_,?_⟩
   ·intro x t;rw[hrep];split
    ·rename_i e;rw[hSij,← e];exact h.same x t
    ·exact h.same x t
   ·intro k x hx;have hk:k=7*(k / 7)+k % 7:=(Nat.div_add_mod k 7).symm;rw[hk]at hx;rcases dn _ _ _ (Nat.mod_lt _ (by omega)) hx with hx|⟨_,hx⟩<;>exact h.bd _ _ hx
   ·intro x f hx hf;rw[eg _ _ hf];split
    ·rfl
    ·rename_i e;have hxs:s.rep x≠x:=by
      intro e2;apply hx;rw[hrep,e2,if_neg e]
     rw[if_neg (fun e2=>hxs (by rw[e2];exact ri))];exact h.gone x f hxs hf
   ·intro x y hy;rcases dn x 0 y (by omega) hy with hy|⟨rfl,hy⟩
    ·exact h.tg _ _ hy
    ·exact(hSij y).2 (h.tg _ _ hy)
   ·intro x y hy;have hy:y∈s'.ss.getD (7*x+1) []:=hy;show y∈s'.ss.getD (7*x+0) [];rw[eg _ _ (by omega)]at hy ⊢;split at hy
    ·cases hy
    ·rename_i e;rw[if_neg e];split at hy
     ·rename_i e2;rw[if_pos e2];have hy:=lE.1 (show y∈lD _ _ from hy);exact(bR.2 ⟨hy.1,.inl (h.hdt _ _ hy.2.1)⟩:y∈cP _ _)
     ·rename_i e2;rw[if_neg e2];exact h.hdt _ _ hy
   ·intro hc x;show s'.ss.getD (7*x+1) []=[];rw[eg _ _ (by omega)];split
    ·rfl
    ·split
     ·have e1:=h.hdn hc i;unfold St.hd at e1;refine List.eq_nil_iff_forall_not_mem.2 (fun y hy=>?_);have hy:=lE.1 (show y∈lD _ _ from hy);rw[e1]at hy;cases hy.2.1
     ·exact h.hdn hc x
   ·intro x y hy t ht;rcases dn x 2 y (by omega) hy with hy|⟨rfl,hy⟩
    ·exact h.hr _ _ hy t ht
    ·exact h.hr _ _ hy t ((hSij t).1 ht)
   ·intro x y hy z t hz ht;rcases dn x 3 y (by omega) hy with hy|⟨rfl,hy⟩
    ·exact h.ld _ _ hy z t hz ht
    ·exact h.ld _ _ hy z t ((hSij z).1 hz) ht
   ·intro x y hy z t hz ht;rcases dn x 4 y (by omega) hy with hy|⟨rfl,hy⟩
    ·exact h.sr _ _ hy z t hz ht
    ·exact h.sr _ _ hy z t ((hSij z).1 hz) ht
   ·intro x y hy z hz t;rcases dn x 5 y (by omega) hy with hy|⟨rfl,hy⟩
    ·exact h.tw _ _ hy z hz t
    ·exact h.tw _ _ hy z ((hSij z).1 hz) t
   ·intro p q hf;exact up' p 0 q (by omega) (by omega) (h.cA p q hf)
   ·intro p q hf;exact up' q 2 p (by omega) (by omega) (h.cC p q hf)
   ·intro p q hf;exact up' q 3 p (by omega) (by omega) (h.cL p q hf)
   ·intro p q hf;exact up' p 4 q (by omega) (by omega) (h.cS p q hf)
   ·intro x hx;obtain⟨h1,h2⟩:=(cW x).1 hx;rcases h1 with h1|rfl
    ·obtain⟨h3,h4⟩:=h.wst x h1;exact⟨h3,by rw[hrep,h4,if_neg h2]⟩
    ·exact⟨hi,by rw[hrep,ri,if_neg h2]⟩
   ·intro x hx hnx hc y hy;obtain⟨hx1,hx2⟩:=rstd x hx;by_cases e:x=i
    ·subst e;exact absurd (.inl hWi) hnx
    ·have hy:y∈s'.ss.getD (7*x+0) []:=hy;show y∈s'.ss.getD (7*x+1) [];rw[eg _ _ (by omega),if_neg hx2,if_neg e]at hy ⊢;refine h.all x hx1 (fun hw=>hnx ?_) hc y hy;exact hw.imp (fun hw=>(cW x).2 ⟨.inl hw,hx2⟩) id
   ·intro x y hx hy hcond;obtain⟨hx1,hx2⟩:=rstd x hx;by_cases e:x=i
    ·subst e;by_cases hc:c.deltas=true
     ·rw[if_pos hc]at hcond;have hm:y∈lD (s.hd x) (s.hd j):=by
       have hcond:y∈s'.ss.getD (7*x+1) []:=hcond;rw[eg _ _ (by omega),if_neg hx2,if_pos rfl]at hcond;exact hcond
      obtain⟨_,hm1,hm2⟩:=lE.1 hm;obtain⟨p1,p2,p3⟩:=h.done x y ri (h.hdt _ _ hm1) (by rw[if_pos hc];exact hm1);obtain⟨q1,q2,q3⟩:=h.done j y rj (h.hdt _ _ hm2) (by rw[if_pos hc];exact hm2);refine⟨fun z hz=>?_,fun z hz=>?_,fun z hz=>?_⟩
      ·refine up' z 0 y (by omega) (by omega) ?_
       rcases dn x 2 z (by omega) hz with hz|⟨_,hz⟩
       ·exact p1 z hz
       ·exact q1 z hz
      ·refine edge _ _ ?_
       rcases dn x 3 z (by omega) hz with hz|⟨_,hz⟩
       ·exact p2 z hz
       ·exact q2 z hz
      ·refine edge _ _ ?_
       rcases dn x 4 z (by omega) hz with hz|⟨_,hz⟩
       ·exact p3 z hz
       ·exact q3 z hz
     ·rw[if_neg hc]at hcond;exact absurd (.inl hWi) hcond
    ·have es:∀f,f<7→s'.ss.getD (7*x+f) []=s.ss.getD (7*x+f) []:=fun f hf=>by rw[eg _ _ hf,if_neg hx2,if_neg e]
     have hcond':if c.deltas then y∈s.hd x else ¬(s.W x∨E x):=by
      split
      ·rename_i hc;rw[if_pos hc]at hcond;have hcond:y∈s'.ss.getD (7*x+1) []:=hcond;rw[es 1 (by omega)]at hcond;exact hcond
      ·rename_i hc;rw[if_neg hc]at hcond;exact fun hw=>hcond (hw.imp (fun hw=>(cW x).2 ⟨.inl hw,hx2⟩) id)
     have hy:y∈s'.ss.getD (7*x+0) []:=hy;rw[es 0 (by omega)]at hy;obtain⟨p1,p2,p3⟩:=h.done x y hx1 hy hcond';refine⟨fun z hz=>?_,fun z hz=>?_,fun z hz=>?_⟩
     ·have hz:z∈s'.ss.getD (7*x+2) []:=hz;rw[es 2 (by omega)]at hz;exact up' z 0 y (by omega) (by omega) (p1 z hz)
     ·have hz:z∈s'.ss.getD (7*x+3) []:=hz;rw[es 3 (by omega)]at hz;exact edge _ _ (p2 z hz)
     ·have hz:z∈s'.ss.getD (7*x+4) []:=hz;rw[es 4 (by omega)]at hz;exact edge _ _ (p3 z hz)
  have ms:∀f,f<7→f≠1→s'.mis n f≤s.mis n f:=by
   intro f hf hf1;refine St.mis_le fun x _ hx=>⟨(rstd x hx).1,fun y hy=>?_⟩
   have:=up x f y (rstd x hx).1 hf hf1 hy;rwa [hx]at this
  have m0:=ms 0 (by omega) (by omega);have m2:=ms 2 (by omega) (by omega);have md:s'.dn n<s.dn n:=by
   refine xM (fun x _=>?_) hj ?_
   ·show(if s'.rep x=x then 1 else 0)≤(if s.rep x=x then 1 else 0);by_cases e:s'.rep x=x
    ·rw[if_pos e,if_pos (rstd x e).1];omega
    ·rw[if_neg e];omega
   ·show(if s'.rep j=j then 1 else 0)<(if s.rep j=j then 1 else 0);rw[if_pos rj,if_neg (fun e=>(rstd j e).2 rfl)];omega
  have mm:s'.mea n+1≤s.mea n:=by unfold St.mea;omega
  refine⟨inv,mm,?_⟩;have:=Kq n mm;rw[NS,Jv]at this;unfold St.pt;omega
end
section
def fQ(y:List Nat × List Nat)(t:Nat):List Nat × List Nat:=if y.1.contains t then y else(dB t y.1,y.2++[t])
theorem kN(next:Nat→List Nat)(k:Nat)(a rest:List Nat):nC next (k+1) a rest=match rest.getLast? with
  |none=>some a
  |some x=>nC next k ((next x).foldl fQ (a,rest.dropLast)).1 ((next x).foldl fQ (a,rest.dropLast)).2:=by
 rw[nC];rfl
theorem yY{P:Nat→Prop}:∀(l:List Nat) (y:List Nat × List Nat),(∀x,x∈l→P x)→(∀x,x∈y.1→P x)→(∀x,x∈y.2→P x)→(∀x,x∈(l.foldl fQ y).1→P x)∧(∀x,x∈(l.foldl fQ y).2→P x):=by
 intro l;induction l with
 |nil=>exact fun y _ c d=>⟨c,d⟩
 |cons a r f=>
  intro y e c d;rw[JB];refine f _ (fun x b=>e x (C1 _ b)) ?_ ?_
  ·unfold fQ;split
   ·exact c
   ·intro x b;rcases(bA.1 b).2 with rfl|b
    ·exact e _ Bx
    ·exact c x b
  ·unfold fQ;split
   ·exact d
   ·intro x b;rcases IK.1 b with b|b
    ·exact d x b
    ·rw[A1.1 b];exact e _ Bx
theorem AW{next:Nat→List Nat}{P:Nat→Prop}(g:∀x y,P x→y∈next x→P y):∀(k:Nat) (b rest r:List Nat),nC next k b rest=some r→(∀x,x∈b→P x)→(∀x,x∈rest→P x)→∀x,x∈r→P x:=by
 intro k;induction k with
 |zero=>intro b rest r h;cases h
 |succ k i=>
  intro b rest r h e f;rw[kN]at h;cases c:rest.getLast? with
  |none=>rw[c]at h;injection h with h;rw[← h];exact e
  |some a=>
   rw[c]at h;have j:P a:=f a (List.mem_of_getLast? c);have hd:∀x,x∈rest.dropLast→P x:=fun x d=>f x ((List.dropLast_sublist rest).subset d)
   obtain⟨l,m⟩:=yY (P:=P) (next a) (b,rest.dropLast) (fun x d=>g a x j d) e hd;exact i _ _ _ h l m
theorem iO{next:Nat→List Nat}{P:Nat→Prop}{k start:Nat}{r:List Nat}(h:fD k start next=some r)(b:P start)(c:∀x y,P x→y∈next x→P y):∀x,x∈r→P x:=by
 refine AW c k _ _ r h ?_ ?_
 ·intro x a;rcases(bA.1 a).2 with rfl|a
  ·exact b
  ·cases a
 ·intro x a;rw[A1.1 a];exact b
theorem rN{next:Nat→List Nat}{V:Nat→Nat→Prop}(e:∀x y,y∈next x→∀t,V x t→V y t){k start:Nat}{l:List Nat}(h:fT k start next=some l):∀y,y∈l→∀t,V y t↔V start t:=by
 unfold fT at h;cases c:fD k start next with
 |none=>rw[c]at h;cases h
 |some JG=>
  rw[c]at h;have g:∀x,x∈JG→∀t,V start t→V x t:=iO (P:=fun x=>∀t,V start t→V x t) c (fun _ b=>b) (fun x y d a t b=>e x y a t (d t b));have f:∀x,x∈l→(∀t,V x t→V start t)∧(∀t,V start t→V x t):=by
   refine iO (P:=fun x=>(∀t,V x t→V start t)∧(∀t,V start t→V x t)) (show fD k start (mD JG next)=some l from h) ⟨fun _ b=>b,fun _ b=>b⟩ ?_
   intro x y d a;have a:=eL.1 a;simp only[Js,JZ]at a;exact⟨fun t b=>d.1 t (e y x a.2.2 t b),g y a.2.1⟩
  exact fun y a t=>⟨(f y a).1 t,(f y a).2 t⟩
theorem lH{next:Nat→List Nat}{P:Nat→Prop}{k start:Nat}{l:List Nat}(h:fT k start next=some l)(c:P start)(d:∀x y,y∈next x→P y):∀y,y∈l→P y:=by
 unfold fT at h;cases b:fD k start next with
 |none=>rw[b]at h;cases h
 |some JG=>rw[b]at h;have e:∀x,x∈JG→P x:=iO b c (fun x y _ a=>d x y a);refine iO (P:=P) (show fD k start (mD JG next)=some l from h) c (fun x y _ a=>?_);have a:=eL.1 a;simp only[Js,JZ]at a;exact e y a.2.1
theorem tI:∀(l:List Nat) (y:List Nat × List Nat),(∀x,x∈l→x<128)→(128-cnt 128 (l.foldl fQ y).1)+(l.foldl fQ y).2.length≤(128-cnt 128 y.1)+y.2.length:=by
 intro l;induction l with
 |nil=>exact fun y _=>gO _
 |cons a r g=>
  intro y e;rw[JB];refine IH (g _ (fun x b=>e x (C1 _ b))) ?_
  unfold fQ;split
  ·exact gO _
  ·rename_i f;have c:=e a Bx;have j:cnt 128 y.1<cnt 128 (dB a y.1)∨∃x,x∈y.1∧¬x<128:=by
    by_cases d:∀x,x∈y.1→x<128
    ·exact .inl (AU (fun x b=>bA.2 ⟨d x b,.inr b⟩) c (by simpa using f) (bA.2 ⟨c,.inl rfl⟩))
    ·simp only[Classical.not_forall]at d;obtain⟨x,b,h⟩:=d;exact .inr ⟨x,b,h⟩
   have k:cnt 128 y.1<cnt 128 (dB a y.1):=by
    refine kY _ _ _ (fun x b i=>?_) (a:=a) (by simpa using c) (by simpa using f) (by simpa using bA.2 ⟨c,.inl rfl⟩);have b:x<128:=by simpa using b
    simpa using bA.2 ⟨b,.inr (by simpa using i)⟩
   have:=xK 128 (dB a y.1);simp;omega
theorem yZ{next:Nat→List Nat}(d:∀x y,y∈next x→y<128):∀(k:Nat) (b rest:List Nat),(128-cnt 128 b)+rest.length<k→∃r,nC next k b rest=some r:=by
 intro k;induction k with
 |zero=>intro _ _ h;omega
 |succ k f=>
  intro b rest h;rw[kN];cases c:rest.getLast? with
  |none=>exact⟨_,rfl⟩
  |some a=>
   have g:rest≠[]:=fun e=>by rw[e]at c;cases c
   have j:0<rest.length:=List.length_pos_iff.2 g;have:=tI (next a) (b,rest.dropLast) (fun x i=>d a x i);simp only[List.length_dropLast]at this;exact f _ _ (by omega)
theorem pP{next:Nat→List Nat}(a:∀x y,y∈next x→y<128){k:Nat}(b:130≤k)(start:Nat):∃r,fD k start next=some r:=by unfold fD;exact yZ a k _ _ (by simp;omega)
theorem kO{next:Nat→List Nat}(b:∀x y,y∈next x→y<128){k:Nat}(a:130≤k)(start:Nat):∃r,fT k start next=some r:=by unfold fT;obtain⟨r,hr⟩:=pP b a start;rw[hr];exact pP (fun x y c=>(eL.1 c).1) a start
theorem dK{s:St}:∀ {l:List Nat} {y:Nat},y∈s.standing l↔y<128∧∃x,x∈l∧s.rep x=y:=by
 intro l y;have g:∀(l:List Nat) (f:List Nat),y∈l.foldl (fun f n=>dB (s.rep n) f) f↔(y∈f∧(l=[]∨y<128))∨(y<128∧∃x,x∈l∧s.rep x=y):=by
  intro l;induction l with
  |nil=>intro f;simp
  |cons a r h=>
   intro f;rw[JB,h,bA];constructor
   ·rintro(⟨⟨b,c⟩,i⟩|⟨b,x,d,e⟩)
    ·rcases c with rfl|c
     ·exact .inr ⟨b,a,Bx,rfl⟩
     ·exact .inl ⟨c,.inr b⟩
    ·exact .inr ⟨b,x,C1 _ d,e⟩
   ·rintro(⟨b,c⟩|⟨b,x,d,e⟩)
    ·rcases c with c|c
     ·cases c
     ·exact .inl ⟨⟨c,.inr b⟩,.inr c⟩
    ·rcases sT.1 d with rfl|d
     ·exact .inl ⟨⟨b,.inl e.symm⟩,.inr b⟩
     ·exact .inr ⟨b,x,d,e⟩
 unfold St.standing;rw[g];simp
theorem fI{s:St}{n y:Nat}:y∈s.heirsOf n↔y<128∧y≠n∧∃x,x∈s.hr n∧s.rep x=y:=by
 unfold St.heirsOf;rw[iN,dK];constructor
 ·rintro⟨a,b,c⟩;exact⟨a,b,c.2⟩
 ·rintro⟨a,b,c⟩;exact⟨a,b,a,c⟩
theorem Inv.iq{a:List (Int × Nat × Nat)}{n:Nat}{c:Way}{E:Nat→Prop}{s:St}(h:Inv a n c E s){k y:Nat}(b:y∈s.standing (s.ss.getD k [])):y<n∧s.rep y=y:=by obtain⟨_,x,d,rfl⟩:=dK.1 b;exact⟨h.rlt (h.bd _ _ d),h.repi x⟩
theorem Inv.gz{a:List (Int × Nat × Nat)}{n:Nat}{c:Way}{E:Nat→Prop}{s:St}(h:Inv a n c E s){k y:Nat}(d:y∈s.heirsOf k):y<n∧s.rep y=y∧∀t,PtN a k t→PtN a y t:=by obtain⟨_,_,x,b,rfl⟩:=fI.1 d;exact⟨h.rlt (h.bd _ _ b),h.repi x,fun t e=>(h.same x t).2 (h.hr _ _ b t e)⟩
theorem Inv.mergeAll{d:List (Int × Nat × Nat)}{n:Nat}{c:Way}{E:Nat→Prop}{s:St}(h:Inv d n c E s){a:Nat}(q:a<n){l:List Nat}(g:∀b,b∈l→b<n∧∀t,PtN d a t↔PtN d b t) :
  Inv d n c E (s.mergeAll a l).2∧((s.mergeAll a l).1=false→(s.mergeAll a l).2=s)∧(s.mergeAll a l).2.mea n+(if(s.mergeAll a l).1 then 1 else 0)≤s.mea n∧(s.mergeAll a l).2.pt n+(if(s.mergeAll a l).1 then n else 0)≤s.pt n:=by
 have u:∀(l:List Nat),(∀b,b∈l→b<n∧∀t,PtN d a t↔PtN d b t)→∀(x:Bool × St),Inv d n c E x.2→(x.1=false→x.2=s)→x.2.mea n+(if x.1 then 1 else 0)≤s.mea n→x.2.pt n+(if x.1 then n else 0)≤s.pt n →
   let z:=l.foldl (fun x b=>let y:=x.2.merge a b;(y.1 || x.1,y.2)) x
   Inv d n c E z.2∧(z.1=false→z.2=s)∧z.2.mea n+(if z.1 then 1 else 0)≤s.mea n∧z.2.pt n+(if z.1 then n else 0)≤s.pt n:=by
  intro l;induction l with
  |nil=>exact fun _ x k m i j=>⟨k,m,i,j⟩
  |cons b r w=>
   intro g x k m i j;obtain⟨A,B⟩:=g b Bx;obtain⟨C,o,p⟩:=k.merge q A B;refine w (fun b D=>g b (C1 _ D)) _ C ?_ ?_ ?_
   ·intro e;have e:((x.2.merge a b).1 || x.1)=false:=e;rw[J5]at e;show(x.2.merge a b).2=s;rw[o e.1];exact m e.2
   ·show(x.2.merge a b).2.mea n+(if((x.2.merge a b).1 || x.1)=true then 1 else 0)≤_;cases f:(x.2.merge a b).1
    ·rw[o f];simpa using i
    ·have:=(p f).1;simp;split at i<;>omega
   ·show(x.2.merge a b).2.pt n+(if((x.2.merge a b).1 || x.1)=true then n else 0)≤_;cases f:(x.2.merge a b).1
    ·rw[o f];simpa using j
    ·have:=(p f).2;simp;split at j<;>omega
 exact u l g (false,s) h (fun _=>rfl) (by simp) (by simp)
theorem Inv.collapse{d:List (Int × Nat × Nat)}{n:Nat}{c:Way}{E:Nat→Prop}{s:St}(h:Inv d n c E s){a:Nat}{T:List Nat}(B:∀t,t∈T→t<n∧PtN d a t) :
  Inv d n c E (s.collapse a T).2∧((s.collapse a T).1=false→(s.collapse a T).2=s)∧(s.collapse a T).2.mea n+(if(s.collapse a T).1 then 1 else 0)≤s.mea n∧(s.collapse a T).2.pt n+(if(s.collapse a T).1 then n else 0)≤s.pt n:=by
 have k:∀u,u∈s.tw a→u<n∧∀x,PtN d a x→∀t,PtN d x t↔PtN d u t:=fun u f=>⟨h.bd _ _ f,h.tw a u f⟩
 unfold St.collapse;generalize s.tw a=tw at k;have C:∀(l:List Nat),(∀t,t∈l→t<n∧PtN d a t)→∀(x:Bool × St),Inv d n c E x.2→(x.1=false→x.2=s)→x.2.mea n+(if x.1 then 1 else 0)≤s.mea n→x.2.pt n+(if x.1 then n else 0)≤s.pt n →
   let z:=l.foldl (fun x t=>let y:=x.2.mergeAll t tw;(y.1 || x.1,y.2)) x
   Inv d n c E z.2∧(z.1=false→z.2=s)∧z.2.mea n+(if z.1 then 1 else 0)≤s.mea n∧z.2.pt n+(if z.1 then n else 0)≤s.pt n:=by
  intro l;induction l with
  |nil=>exact fun _ x m o i j=>⟨m,o,i,j⟩
  |cons b r D=>
   intro q x m o i j;obtain⟨F,G⟩:=q b Bx;obtain⟨H,p,w,A⟩:=m.mergeAll F (l:=tw) (fun u f=>⟨(k u f).1,(k u f).2 b G⟩);refine D (fun b I=>q b (C1 _ I)) _ H ?_ ?_ ?_
   ·intro e;have e:((x.2.mergeAll b tw).1 || x.1)=false:=e;rw[J5]at e;show(x.2.mergeAll b tw).2=s;rw[p e.1];exact o e.2
   ·show(x.2.mergeAll b tw).2.mea n+(if((x.2.mergeAll b tw).1 || x.1)=true then 1 else 0)≤_;cases g:(x.2.mergeAll b tw).1
    ·rw[p g];simpa using i
    ·rw[g]at w;simp at w ⊢;split at i<;>omega
   ·show(x.2.mergeAll b tw).2.pt n+(if((x.2.mergeAll b tw).1 || x.1)=true then n else 0)≤_;cases g:(x.2.mergeAll b tw).1
    ·rw[p g];simpa using j
    ·rw[g]at A;simp at A ⊢;split at j<;>omega
 exact C T B (false,s) h (fun _=>rfl) (by simp) (by simp)
theorem Inv.kj{d:List (Int × Nat × Nat)}{n:Nat}{c:Way}{E:Nat→Prop}:∀(l:List (Nat × Nat)) {s:St},Inv d n c E s→(∀e,e∈l→e.1<n∧e.2<n∧∀t,PtN d e.1 t→PtN d e.2 t) →
  Inv d n c E (l.foldl (fun s e=>s.link c e.1 e.2) s)∧More n s (l.foldl (fun s e=>s.link c e.1 e.2) s)∧(∀e,e∈l→(l.foldl (fun s e=>s.link c e.1 e.2) s).Edge e.1 e.2)∧(l.foldl (fun s e=>s.link c e.1 e.2) s).pt n≤s.pt n:=by
 intro l;induction l with
 |nil=>exact fun h _=>⟨h,More.refl _ _,fun e b=>(by cases b),gO _⟩
 |cons a r i=>
  intro s h f;obtain⟨j,k,m⟩:=f a Bx;obtain⟨o,p,q,u⟩:=h.link j k m;obtain⟨w,g,x,y⟩:=i o (fun e b=>f e (C1 _ b));refine⟨w,p.trans g,fun e b=>?_,IH y u⟩;rcases sT.1 b with rfl|b
  ·exact g.edge q
  ·exact x e b
theorem Inv.links{f:List (Int × Nat × Nat)}{n:Nat}{c:Way}{E:Nat→Prop}{s:St}(h:Inv f n c E s){a t:Nat}(m:t<n)(o:PtN f a t) :
  Inv f n c E (s.links c a t)∧More n s (s.links c a t)∧(∀p,p∈s.ld a→(s.links c a t).Edge t p)∧(∀q,q∈s.sr a→(s.links c a t).Edge q t)∧(s.links c a t).pt n≤s.pt n:=by
 have w:∀(l:List Nat) (s:St),l.foldl (fun s p=>s.link c t p) s=(l.map fun p=>(t,p)).foldl (fun s e=>s.link c e.1 e.2) s:=fun l s=>by rw[ON]
 have y:∀(l:List Nat) (s:St),l.foldl (fun s q=>s.link c q t) s=(l.map fun q=>(q,t)).foldl (fun s e=>s.link c e.1 e.2) s:=fun l s=>by rw[ON]
 unfold St.links;simp only[];rw[w,y];obtain⟨g,r,z,A⟩:=h.kj ((s.ld a).map fun p=>(t,p)) (fun e i=>by
  obtain⟨p,b,rfl⟩:=Jf.1 i;exact⟨m,h.bd _ _ b,fun x j=>h.ld a p b t x o j⟩)
 generalize ((s.ld a).map fun p=>(t,p)).foldl (fun s e=>s.link c e.1 e.2) s=k at *;obtain⟨B,u,C,D⟩:=g.kj ((k.sr a).map fun q=>(q,t)) (fun e i=>by
  obtain⟨q,d,rfl⟩:=Jf.1 i;exact⟨g.bd _ _ d,m,fun x j=>g.sr a q d t x o j⟩)
 generalize ((k.sr a).map fun q=>(q,t)).foldl (fun s e=>s.link c e.1 e.2) k=F at *;refine⟨B,r.trans u,fun p b=>u.edge (z (t,p) (Jf.2 ⟨p,b,rfl⟩)),fun q d=>C (q,t) (Jf.2 ⟨q,by rw[r.sr];exact d,rfl⟩),IH D A⟩
theorem Inv.ku{e:List (Int × Nat × Nat)}{n:Nat}{c:Way}{E:Nat→Prop}{a:Nat}:∀(l:List Nat) {s:St},Inv e n c E s→(∀t,t∈l→t<n∧PtN e a t) →
  Inv e n c E (l.foldl (fun s t=>s.links c a t) s)∧More n s (l.foldl (fun s t=>s.links c a t) s)∧(∀t,t∈l→(∀p,p∈s.ld a→(l.foldl (fun s t=>s.links c a t) s).Edge t p)∧(∀q,q∈s.sr a→(l.foldl (fun s t=>s.links c a t) s).Edge q t))∧(l.foldl (fun s t=>s.links c a t) s).pt n≤s.pt n:=by
 intro l;induction l with
 |nil=>exact fun h _=>⟨h,More.refl _ _,fun t d=>(by cases d),gO _⟩
 |cons b r j=>
  intro s h i;obtain⟨k,m⟩:=i b Bx;obtain⟨o,f,u,w,x⟩:=h.links (c:=c) k m;obtain⟨y,g,z,A⟩:=j o (fun t d=>i t (C1 _ d));refine⟨y,f.trans g,fun t d=>?_,IH A x⟩;rcases sT.1 d with rfl|d
  ·exact⟨fun p B=>g.edge (u p B),fun q C=>g.edge (w q C)⟩
  ·have:=z t d;rw[f.ld,f.sr]at this;exact this
theorem Inv.ly{e:List (Int × Nat × Nat)}{n:Nat}{c:Way}{E:Nat→Prop}{a:Nat}{T:List Nat}:∀(l:List Nat) {s:St},Inv e n c E s→a<n→s.rep a=a→(∀t,t∈T→t<n∧PtN e a t)→(∀j,j∈l→j<n∧s.rep j=j∧∀t,PtN e a t→PtN e j t) →
  Inv e n c E (l.foldl (fun s j=>s.hand c T a j) s)∧More n s (l.foldl (fun s j=>s.hand c T a j) s)∧(∀i,(l.foldl (fun s j=>s.hand c T a j) s).hr i=s.hr i)∧(∀j,j∈l→∀x,x∈T→x∈(l.foldl (fun s j=>s.hand c T a j) s).tg j)∧(l.foldl (fun s j=>s.hand c T a j) s).pt n≤s.pt n+l.length:=by
 intro l;induction l with
 |nil=>exact fun h _ _ _ _=>⟨h,More.refl _ _,fun _=>rfl,fun t z=>(by cases z),gO _⟩
 |cons b r A=>
  intro s h k m f p;obtain⟨q,u,w⟩:=p b Bx;obtain⟨B,o,C,I⟩:=h.lz (c:=c) (T:=T) k q m u (fun x d=>⟨(f x d).1,w x (f x d).2⟩);have D:=(h.hand (c:=c) (T:=T) k q m u (fun x d=>⟨(f x d).1,w x (f x d).2⟩)).2.2.2.2.1;obtain⟨F,y,G,H,J⟩:=A B k (by rw[o.rep];exact m) f (fun j g=>by rw[o.rep];exact p j (C1 _ g));refine⟨F,o.trans y,fun i=>(G i).trans (D i),fun j g x d=>?_,?_⟩
  ·rcases sT.1 g with rfl|g
   ·exact y.tg _ _ (C x d)
   ·exact H j g x d
  ·simp only[List.length_cons,JB];omega
theorem sV{p:Nat→Bool}{n:Nat}(h:∀k,k∈mkS p→k<n):(mkS p).length≤n:=by
 have c:∀m,(∀k,k∈(IQ m).filter p→k<n)→((IQ m).filter p).length≤n∧((IQ m).filter p).length≤m:=by
  intro m;induction m with
  |zero=>intro _;simp
  |succ m d=>
   intro a;rw[Ko,List.filter_append]at a ⊢;obtain⟨f,g⟩:=d (fun k e=>a k (IK.2 (.inl e)));cases b:p m
   ·simp[KK,b];omega
   ·have:=a m (IK.2 (.inr (by simp[KK,b])));simp[KK,b];omega
 exact(c 128 h).1
theorem Inv.jf{l:List (Int × Nat × Nat)}{n:Nat}{c:Way}{a:Nat}{s:St}(h:Inv l n c (·=a) s)(h1:s.rep a=a→¬s.W a→∀x,x∈s.tg a→(c.deltas=true→x∈s.hd a)∧(c.deltas=false→(∀j,j∈s.hr a→x∈s.tg (s.rep j))∧(∀p,p∈s.ld a→s.Edge x p)∧(∀q,q∈s.sr a→s.Edge q x))):Inv l n c (fun _=>False) s:=by
 refine { h with all:=?_,done:=?_ }
 ·intro i f m b x g;by_cases e:i=a
  ·subst e;exact(h1 f (fun d=>m (.inl d)) x g).1 b
  ·exact h.all i f (fun d=>m (.inl (d.resolve_right e))) b x g
 ·intro i x f g k;by_cases b:c.deltas=true
  ·rw[if_pos b]at k;exact h.done i x f g (by rw[if_pos b];exact k)
  ·rw[if_neg b]at k;by_cases e:i=a
   ·subst e;exact(h1 f (fun d=>k (.inl d)) x g).2 (by simpa using b)
   ·exact h.done i x f g (by rw[if_neg b];exact fun d=>k (.inl (d.resolve_right e)))
theorem Inv.lk{I:List (Int × Nat × Nat)}{n:Nat}{c:Way}{a:Nat}{s:St}(h:Inv I n c (·=a) s)(w:c.deltas=true)(X:a<n)(O:s.rep a=a){F:List Nat}(C:∀x,x∈F→x∈s.tg a∧(∀j,j∈s.hr a→x∈s.tg (s.rep j))∧(∀p,p∈s.ld a→s.Edge x p)∧(∀q,q∈s.sr a→s.Edge q x))
  (P:¬s.W a→∀x,x∈s.tg a→x∈s.hd a∨x∈F):Inv I n c (fun _=>False) (s.put (7*a+1) (cP (s.hd a) F)):=by
 have Y:=h.hn;have e:∀k,(s.put (7*a+1) (cP (s.hd a) F)).ss.getD k []=if k=7*a+1 then cP (s.hd a) F else s.ss.getD k []:=fun k=>St.put_get (by rw[h.len];omega) k
 generalize y:s.put (7*a+1) (cP (s.hd a) F)=m at e;have d:m.rep=s.rep:=by rw[← y];rfl
 have z:∀i,m.W i↔s.W i:=by rw[← y];exact fun _=>Iff.rfl
 have u:∀i,m.tg i=s.tg i:=fun i=>by unfold St.tg;rw[e,if_neg (by omega)]
 have A:∀i,m.hr i=s.hr i:=fun i=>by unfold St.hr;rw[e,if_neg (by omega)]
 have D:∀i,m.ld i=s.ld i:=fun i=>by unfold St.ld;rw[e,if_neg (by omega)]
 have E:∀i,m.sr i=s.sr i:=fun i=>by unfold St.sr;rw[e,if_neg (by omega)]
 have Q:∀i,m.tw i=s.tw i:=fun i=>by unfold St.tw;rw[e,if_neg (by omega)]
 have G:∀i,m.hd i=if i=a then cP (s.hd a) F else s.hd i:=by
  intro i;unfold St.hd;rw[e];by_cases g:i=a
  ·subst g;rw[if_pos rfl,if_pos rfl];rfl
  ·rw[if_neg (by omega),if_neg g]
 have J:∀t p,s.Edge t p→m.Edge t p:=by intro t p K;unfold St.Edge at K ⊢;rw[d,A];exact K
 refine⟨h.hn,h.fsb,(by rw[← y,St.put_len];exact h.len),(by rw[d];exact h.repl),(by rw[d];exact h.repi),(by rw[d];exact h.same),?_,?_,(by intro i;rw[u];exact h.tg i),?_,(fun R=>absurd R (by rw[w];simp)),(by intro i;rw[A];exact h.hr i),(by intro i;rw[D];exact h.ld i),(by intro i;rw[E];exact h.sr i),(by intro i;rw[Q];exact h.tw i),
  (by intro p q o;rw[d,u];exact h.cA p q o),(by intro p q o;rw[d,A];exact h.cC p q o),(by intro p q o;rw[d,D];exact h.cL p q o),(by intro p q o;rw[d,E];exact h.cS p q o),?_,?_,?_,?_,?_⟩
 ·intro k x b;rw[e]at b;split at b
  ·rcases(bR.1 b).2 with b|b
   ·exact h.bd _ _ b
   ·exact h.bd _ _ (C x b).1
  ·exact h.bd _ _ b
 ·intro i f l o;rw[d]at l;have Z:i≠a:=fun g=>l (by rw[g];exact O)
  rw[e,if_neg (by omega)];exact h.gone i f l o
 ·intro i x b;rw[G]at b;rw[u];split at b
  ·rename_i g;subst g;rcases(bR.1 b).2 with b|b
   ·exact h.hdt _ _ b
   ·exact(C x b).1
  ·exact h.hdt _ _ b
 ·intro i;rw[z,← y];exact h.ins i
 ·intro i l;rw[d];exact h.wst i ((z i).1 l)
 ·rw[← y];exact h.sus
 ·intro i l b _ x r;rw[d]at l;rw[u]at r;rw[G];split
  ·rename_i g;subst g;have a0:=h.bd _ _ r;exact bR.2 ⟨by omega,P (fun H=>b (.inl ((z i).2 H))) x r⟩
  ·rename_i g;exact h.all i l (fun H=>b (.inl ((z i).2 (H.resolve_right g)))) w x r
 ·intro i x l r B;rw[d]at l;rw[u]at r;rw[if_pos w,G]at B;have S:(∀j,j∈s.hr i→x∈s.tg (s.rep j))∧(∀p,p∈s.ld i→s.Edge x p)∧(∀q,q∈s.sr i→s.Edge q x):=by
   split at B
   ·rename_i g;subst g;rcases(bR.1 B).2 with b|b
    ·exact h.done i x l r (by rw[if_pos w];exact b)
    ·exact(C x b).2
   ·exact h.done i x l r (by rw[if_pos w];exact B)
  obtain⟨T,U,V⟩:=S;refine⟨fun j L=>?_,fun p M=>?_,fun q N=>?_⟩
  ·rw[A]at L;rw[d,u];exact T j L
  ·rw[D]at M;exact J _ _ (U p M)
  ·rw[E]at N;exact J _ _ (V q N)
theorem St.j7{s:St}{n a:Nat}{F:List Nat}(h:s.ss.length=7*n)(j:a<n):(s.put (7*a+1) F).mea n=s.mea n∧(s.put (7*a+1) F).pt n=s.pt n:=by
 have b:∀f,f≠1→f<7→(s.put (7*a+1) F).mis n f=s.mis n f:=by
  intro f k l;unfold St.mis;congr 1
  funext i
  have d:(s.put (7*a+1) F).ss.getD (7*i+f) []=s.ss.getD (7*i+f) []:=by rw[St.put_get (by omega),if_neg (by omega)]
  rw[d];rfl
 have m:=b 0 (by omega) (by omega);have e:=b 2 (by omega) (by omega);have g:(s.put (7*a+1) F).dn n=s.dn n:=St.dn_eq rfl;have o:(s.put (7*a+1) F).nw=s.nw:=rfl;have c:(s.put (7*a+1) F).mea n=s.mea n:=by unfold St.mea;omega
 refine⟨c,?_⟩;unfold St.pt;rw[c,e,g];rfl
theorem Inv.work{B:List (Int × Nat × Nat)}{n:Nat}{c:Way}{a:Nat}{s:St}(h:Inv B n c (·=a) s)(w:a<n)(I:s.rep a=a):Inv B n c (fun _=>False) (s.work c a)∧(s.work c a).mea n≤s.mea n∧(s.work c a).pt n≤s.pt n+n:=by
 have hn:=h.hn;have y:∀x,x∈qZ (s.tg a) (s.hd a)→x∈s.tg a:=fun x b=>(pN.1 b).2.1
 have J:∀x,x∈s.tg a→x∈s.hd a∨x∈qZ (s.tg a) (s.hd a):=by
  intro x b;by_cases e:x∈s.hd a
  ·exact .inl e
  ·have:=h.bd _ _ b;exact .inr (pN.2 ⟨by omega,b,e⟩)
 unfold St.work;generalize qZ (s.tg a) (s.hd a)=d at *;have C:∀x,x∈d→x<n∧PtN B a x:=fun x b=>⟨h.bd _ _ (y x b),h.tg _ _ (y x b)⟩
 by_cases D:d.isEmpty=true
 ·simp only[D,if_true];refine⟨h.jf (fun _ _ x b=>?_),gO _,Nat.le_add_right _ _⟩;have V:d=[]:=by simpa using D
  have E:=(J x b).resolve_right (by rw[V];simp);refine⟨fun _=>E,fun X=>?_⟩;rw[h.hdn X a]at E;cases E
 ·simp only[D,if_false,JY];obtain⟨z,Y,K,L⟩:=h.collapse (T:=d) C;generalize s.collapse a d=m at *;cases N:m.1
  ·rw[Y N];simp only[JY,if_false];obtain⟨l,o,O,l4⟩:=h.ku (c:=c) d C;generalize d.foldl (fun s t=>s.links c a t) s=g at *;obtain⟨F,i,Z,k4,k5⟩:=l.ly (c:=c) (a:=a) (T:=d) (g.heirsOf a) w (by rw[o.rep];exact I) C (fun j r=>by obtain⟨q1,q2,q3⟩:=l.gz r;exact⟨q1,q2,q3⟩);have a2:(g.heirsOf a).length≤n:=by
    unfold St.heirsOf gR;exact sV (fun k hk=>(l.gz (k:=a) (y:=k) hk).1)
   have P:∀x,x∈d→∀j,j∈((g.heirsOf a).foldl (fun s h=>s.hand c d a h) g).hr a→x∈((g.heirsOf a).foldl (fun s h=>s.hand c d a h) g).tg (((g.heirsOf a).foldl (fun s h=>s.hand c d a h) g).rep j):=by
    intro x b j r;rw[Z]at r;rw[i.rep];by_cases e:g.rep j=a
    ·rw[e];exact i.tg _ _ (o.tg _ _ (y x b))
    ·have:=l.rlt (l.bd _ _ r);exact k4 _ (fI.2 ⟨by omega,e,j,r,rfl⟩) x b
   have A:∀x,x∈d→(∀p,p∈((g.heirsOf a).foldl (fun s h=>s.hand c d a h) g).ld a→((g.heirsOf a).foldl (fun s h=>s.hand c d a h) g).Edge x p)∧(∀q,q∈((g.heirsOf a).foldl (fun s h=>s.hand c d a h) g).sr a→((g.heirsOf a).foldl (fun s h=>s.hand c d a h) g).Edge q x):=by intro x b;rw[i.ld,i.sr,o.ld,o.sr];exact⟨fun p hp=>i.edge ((O x b).1 p hp),fun q hq=>i.edge ((O x b).2 q hq)⟩
   have M:=o.trans i;generalize (g.heirsOf a).foldl (fun s h=>s.hand c d a h) g=u at *;have Q:¬u.W a→∀x,x∈u.tg a→x∈u.hd a∨x∈d:=by intro G x b;rw[M.hd];exact J x ((M.new a x b).resolve_right G)
   cases hd:c.deltas
   ·simp only[JY,if_false];refine⟨F.jf (fun _ G x b=>⟨fun e=>absurd e (by rw[hd];simp),fun _=>?_⟩),M.mea,by omega⟩;have H:=(Q G x b).resolve_left (by rw[M.hd,h.hdn hd];simp);exact⟨P x H,(A x H).1,(A x H).2⟩
   ·simp only[if_true];obtain⟨z1,z2⟩:=St.j7 (s:=u) (F:=cP (u.hd a) d) F.len w;rw[z1,z2];refine⟨F.lk hd w (by rw[M.rep];exact I) (fun x b=>⟨M.tg _ _ (y x b),P x b,(A x b).1,(A x b).2⟩) Q,M.mea,by omega⟩
  ·simp only[if_true];rw[N]at K L;simp only[if_true]at K L;have a0:m.2.rep (m.2.rep a)=m.2.rep a:=z.repi a;have a1:=z.rlt w;have w1:=St.wait_nw m.2 (m.2.rep a);have R:∀f,(m.2.wait (m.2.rep a)).mis n f=m.2.mis n f:=fun f=>by unfold St.mis;rw[St.wait_ss,St.wait_rep]
   have S:(m.2.wait (m.2.rep a)).dn n=m.2.dn n:=St.dn_eq (St.wait_rep _ _);have wu:=St.wait_un m.2 (m.2.rep a);have mm:(m.2.wait (m.2.rep a)).mea n≤m.2.mea n+1:=by unfold St.mea;rw[R,S];omega
   refine⟨(z.wait a1 a0).ky (fun a5 U e=>?_),by omega,?_⟩
   ·subst e;rw[St.wait_rep]at U;exact .inl ((St.wait_W z.ins _ _).2 (.inr U.symm))
   ·have:=Kq n mm;rw[NS,Jv]at this;have e1:(m.2.wait (m.2.rep a)).pt n≤m.2.pt n+n:=by unfold St.pt;rw[R,S,wu];omega
    omega
theorem C7{α b:Type}(f:α→b→Option α)(a:α):St.foldO f a []=some a:=rfl
theorem mF{α c:Type}(f:α→c→Option α)(a:α)(x:c)(r:List c):St.foldO f a (x::r)=(f a x).bind fun b=>St.foldO f b r:=rfl
theorem Inv.susp{a:List (Int × Nat × Nat)}{n:Nat}{c:Way}{E:Nat→Prop}{s:St}(h:Inv a n c E s){l:List Nat}(b:∀i,i∈l→i<n):Inv a n c E { s with susp:=l }:=
 { h with sus:=b }
theorem Inv.lookStep{f:List (Int × Nat × Nat)}{n:Nat}{c:Way}{E:Nat→Prop}{s:St}(h:Inv f n c E s){k a:Nat}(r:130≤k)(o:a<n):∃g,s.lookStep k a=some g∧Inv f n c E g∧g.mea n≤s.mea n∧g.pt n≤s.pt n:=by
 have j:Inv f n c E { s with susp:=gR a s.susp }:=h.susp (fun i u=>h.sus i (iN.1 u).2.2);have C:=h.hn;unfold St.lookStep;simp only[];generalize p:({ s with susp:=gR a s.susp }:St)=d at *;have D:d.mea n=s.mea n:=by rw[← p];rfl
 have F:d.pt n=s.pt n:=by rw[← p];rfl
 obtain⟨l,m⟩:=kO (next:=d.heirsOf) (fun x y e=>(fI.1 e).1) r a;rw[m];have w:=rN (V:=PtN f) (fun x y e t z=>(j.gz e).2.2 t z) m;have A:=lH (P:=(· < n)) m o (fun x y e=>(j.gz e).1);obtain⟨B,G,H,I⟩:=j.mergeAll o (l:=l) (fun b q=>⟨A b q,fun t=>(w b q t).symm⟩);exact⟨_,rfl,B,by show(d.mergeAll a l).2.mea n≤_;omega,by show(d.mergeAll a l).2.pt n≤_;omega⟩
theorem Inv.lu{e:List (Int × Nat × Nat)}{n:Nat}{c:Way}{E:Nat→Prop}{k:Nat}(g:130≤k):∀(l:List Nat) {s:St},Inv e n c E s→(∀a,a∈l→a<n)→∃d,St.foldO (St.lookStep k) s l=some d∧Inv e n c E d∧d.mea n≤s.mea n∧d.pt n≤s.pt n:=by
 intro l;induction l with
 |nil=>exact fun h _=>⟨_,rfl,h,gO _,gO _⟩
 |cons a r i=>intro s h f;obtain⟨u,j,m,w,x⟩:=h.lookStep g (f a Bx);obtain⟨o,p,q,y,z⟩:=i m (fun b t=>f b (C1 _ t));refine⟨o,?_,q,by omega,by omega⟩;rw[mF,j];exact p
theorem Inv.look{b:List (Int × Nat × Nat)}{n:Nat}{c:Way}{E:Nat→Prop}{s:St}(h:Inv b n c E s){k:Nat}(d:130≤k):∃a,s.lookForCycles k=some a∧Inv b n c E a∧a.mea n≤s.mea n∧a.pt n≤s.pt n:=
 Inv.lu d s.susp h h.sus
theorem St.jt(s:St)(o:Int)(i:Nat):(s.letIn o).W i↔s.W i:=by
 unfold St.letIn;split
 ·exact Iff.rfl
 ·unfold St.W;simp only[List.not_mem_nil,or_false];split
  ·rw[List.mem_mergeSort,IK]
  ·rw[IK]
theorem St.j2(s:St)(o:Int):(s.letIn o).nw=s.nw:=by
 unfold St.letIn;split
 ·rfl
 ·unfold St.nw;simp only[List.length_nil,Nat.add_zero];split
  ·rw[List.length_mergeSort,A4]
  ·rw[A4]
theorem St.jm(s:St)(o:Int):(s.letIn o).ss=s.ss∧(s.letIn o).rep=s.rep∧(s.letIn o).inside=s.inside∧(s.letIn o).susp=s.susp∧(s.letIn o).un=s.un:=by unfold St.letIn;split<;>exact⟨rfl,rfl,rfl,rfl,rfl⟩
theorem St.jn(s:St)(o:Int)(h:(s.letIn o).now=[]):(s.letIn o).come=[]:=by
 unfold St.letIn at h ⊢;split
 ·rename_i a;rw[if_pos a]at h;rw[h]at a;simp at a
 ·rfl
theorem xN{l:List Nat}{a:Nat}(h:a∈l):(l.filter (· != a)).length<l.length:=by have:=kY l (· != a) (fun _=>true) (fun _ _ _=>rfl) h (by simp) rfl;rwa [List.filter_eq_self.2 (fun _ _=>rfl)]at this
theorem Inv.jq{g:List (Int × Nat × Nat)}{n:Nat}{c:Way}{E j:Nat→Prop}{s a:St}(h:Inv g n c E s)(k:a.ss=s.ss)(l:a.rep=s.rep)(m:a.susp=s.susp)(p:∀i,i∈a.inside↔a.W i)(q:∀i,a.W i→s.W i)(o:∀i,s.W i∨E i→a.W i∨j i):Inv g n c j a:=by
 obtain⟨ss,rep,inside,now,come,susp,un⟩:=a;simp only at k l m;subst k l m;refine⟨h.hn,h.fsb,h.len,h.repl,h.repi,h.same,h.bd,h.gone,h.tg,h.hdt,h.hdn,h.hr,h.ld,h.sr,h.tw,h.cA,h.cC,h.cL,h.cS,p,fun i b=>h.wst i (q i b),h.sus,?_,?_⟩
 ·exact fun i b r d=>h.all i b (fun f=>r (o i f)) d
 ·intro i x b t e;refine h.done i x b t ?_
  split
  ·rename_i d;rw[if_pos d]at e;exact e
  ·rename_i d;rw[if_neg d]at e;exact fun f=>e (o i f)
theorem Inv.next{l:List (Int × Nat × Nat)}{n:Nat}{c:Way}{s:St}(h:Inv l n c (fun _=>False) s)(o:Int) :
  (∃g,s.next o=(none,g)∧Inv l n c (fun _=>False) g∧(∀i,¬g.W i)∧g.pt n=s.pt n) ∨
  (∃a g,s.next o=(some a,g)∧Inv l n c (·=a) g∧a<n∧g.rep a=a∧g.mea n+1≤s.mea n∧g.pt n+n≤s.pt n):=by
 obtain⟨m,k,G,z,H⟩:=St.jm s o;have j:=St.jt s o;have I:=St.j2 s o;have J:=St.jn s o;have K:s.next o=(match(s.letIn o).now with | []=>(none,s.letIn o)|x::r=>(some (if o == 1 then(x::r).getLastD 0 else x),(s.letIn o).drop (if o == 1 then(x::r).getLastD 0 else x))):=by
  unfold St.next
  rfl
 rw[K];generalize s.letIn o=b at *;have A:∀f,b.mis n f=s.mis n f:=fun f=>by unfold St.mis;rw[m,k]
 have B:b.dn n=s.dn n:=St.dn_eq k;have t:b.mea n=s.mea n:=by unfold St.mea;rw[A,B,I]
 have C:b.pt n=s.pt n:=by unfold St.pt;rw[A,B,t,H]
 have D:∀i,i∈b.inside↔b.W i:=fun i=>by rw[G,j];exact h.ins i
 cases u:b.now with
 |nil=>refine .inl ⟨b,rfl,h.jq m k z D (fun i d=>(j i).1 d) (fun i d=>d.imp (j i).2 id),?_,C⟩;intro i d;unfold St.W at d;rw[u,J u]at d;rcases d with d|d<;>cases d
 |cons x r=>
  refine .inr ⟨_,_,rfl,?_⟩;have w:(if o == 1 then(x::r).getLastD 0 else x)∈b.now:=by
   rw[u];split
   ·rw[List.getLastD_eq_getLast?,List.getLast?_eq_some_getLast (by simp)];exact List.getLast_mem _
   ·exact Bx
  generalize (if o == 1 then(x::r).getLastD 0 else x)=a at w;have L:s.W a:=(j a).1 (.inl w);obtain⟨M,N⟩:=h.wst a L;have y:∀i,(b.drop a).W i↔b.W i∧i≠a:=by
   intro i;unfold St.W St.drop;simp only[Li,bne_iff_ne];constructor
   ·rintro(⟨p,q⟩|⟨p,q⟩)
    ·exact⟨.inl p,q⟩
    ·exact⟨.inr p,q⟩
   ·rintro⟨p|p,q⟩
    ·exact .inl ⟨p,q⟩
    ·exact .inr ⟨p,q⟩
  have O:∀i,i∈(b.drop a).inside↔(b.drop a).W i:=by
   intro i;rw[y];show i∈gR a b.inside↔_;rw[iN,D];constructor
   ·rintro⟨_,p,q⟩;exact⟨q,p⟩
   ·rintro⟨q,p⟩;exact⟨h.j5 i ((j i).1 q),p,q⟩
  have dn:(b.drop a).nw+1≤b.nw:=by unfold St.nw St.drop;have:=xN w;have:=kZ b.come a;simp only;omega
  have E:∀f,(b.drop a).mis n f=b.mis n f:=fun f=>rfl
  have dd:(b.drop a).dn n=b.dn n:=rfl;have F:(b.drop a).mea n+1≤s.mea n:=by rw[← t];unfold St.mea;rw[E,dd];omega
  refine⟨h.jq m k z O (fun i d=>(j i).1 ((y i).1 d).1) ?_,M,by show b.rep a=a;rw[k];exact N,F,?_⟩
  ·rintro i (d|d)
   ·by_cases e:i=a
    ·exact .inr e
    ·exact .inl ((y i).2 ⟨(j i).2 d,e⟩)
   ·exact d.elim
  ·have:=Kq n F;rw[NS,Jv]at this;have P:(b.drop a).un=b.un:=rfl;rw[← C];unfold St.pt;rw[E,dd,P];rw[t];omega
theorem Inv.solveL{g:List (Int × Nat × Nat)}{n:Nat}{c:Way}{k:Nat}(m:130≤k):∀(j:Nat) {s:St},Inv g n c (fun _=>False) s→s.mea n<j→∃b,St.solveL k c j s=some b∧Inv g n c (fun _=>False) b∧(∀i,¬b.W i)∧b.pt n≤s.pt n:=by
 intro j;induction j with
 |zero=>intro s _ o;omega
 |succ j p=>
  intro s h o;rcases h.next c.order with⟨b,e,d,f,l⟩|⟨a,b,e,d,f,l,z,A⟩
  ·refine⟨b,?_,d,f,by omega⟩;rw[St.solveL,e]
  ·obtain⟨q,B,C⟩:=d.work f l;obtain⟨D,r,t,E,F⟩:=q.look m;obtain⟨u,w,x,y,G⟩:=p t (by omega);refine⟨u,?_,x,y,by omega⟩;rw[St.solveL,e];simp only[];rw[r];exact w
theorem Inv.solved{k:List (Int × Nat × Nat)}{n:Nat}{c:Way}{s:St}(h:Inv k n c (fun _=>False) s)(l:∀i,¬s.W i)(i x:Nat):x∈s.tg (s.rep i)↔PtN k i x:=by
 constructor
 ·intro a;exact(h.same i x).1 (h.tg _ _ a)
 ·have done:∀i x,x∈s.tg (s.rep i)→(∀j,j∈s.hr (s.rep i)→x∈s.tg (s.rep j))∧(∀p,p∈s.ld (s.rep i)→s.Edge x p)∧(∀q,q∈s.sr (s.rep i)→s.Edge q x):=by
   intro i x a;refine h.done _ x (h.repi i) a ?_
   split
   ·rename_i o;exact h.all _ (h.repi i) (fun d=>d.elim (l _) id) o x a
   ·exact fun d=>d.elim (l _) id
  have m:∀t p x,s.Edge t p→x∈s.tg (s.rep t)→x∈s.tg (s.rep p):=by
   rintro t p x (e|⟨j,r,e⟩) a
   ·rw[← e];exact a
   ·rw[← e];exact(done t x a).1 j r
  intro a;induction a using PtN.ind with
  |addr b=>exact h.cA _ _ b
  |copy b _ u=>exact(done _ _ u).1 _ (h.cC _ _ b)
  |load b _ _ f g=>exact m _ _ _ ((done _ _ f).2.1 _ (h.cL _ _ b)) g
  |store b _ _ f g=>exact m _ _ _ ((done _ _ f).2.2 _ (h.cS _ _ b)) g
end
end Go.Proofs.YtiamlbhkiehilaaGreatDoor
