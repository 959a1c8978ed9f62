import Derived.WalkKit
namespace Go.Proofs.YtiamlbhkiehilaaGreatDoor
section
open Go.RowKit
def startB(c:Int):Bool:=decide ((97≤c∧c≤122)∨(65≤c∧c≤90)∨c=95)
def partB(c:Int):Bool:=decide ((97≤c∧c≤122)∨(65≤c∧c≤90)∨c=95∨(48≤c∧c≤57))
def partsB(l:List UInt8):Bool:=l.all fun c=>partB c.toNat
def nameB:List UInt8→Bool
 | []=>false
 |c::r=>startB c.toNat && partsB r
theorem hide{p:Prop}(h:p):Hid p:=h
theorem ret_bool{a b:Bool}(h:a=b):Ending.returned (.bool a)=.returned (.bool b):=by rw[h]
theorem ret_int{k:IntKind}{a b:Int}(h:a=b):Ending.returned (.int k a)=.returned (.int k b):=by rw[h]
theorem part_of_start{c:Int}(h:startB c=true):partB c=true:=by
 simp only[startB,partB,decide_eq_true_eq]at *;omega
theorem part_of_not{c:Int}(h:startB c=false):partB c=decide (48≤c∧c≤57):=by
 simp only[startB,partB,decide_eq_false_iff_not]at *;rw[Bool.eq_iff_iff];simp only[decide_eq_true_eq];omega
theorem take_snoc(s:ByteArray)(k:Nat)(h:k<s.size):s.data.toList.take (k+1)=s.data.toList.take k++[s[k]]:=by
 rw[List.take_succ_eq_append_getElem (by simpa using h)];rfl
theorem partsB_snoc(l:List UInt8)(c:UInt8):partsB (l++[c])=(partsB l && partB c.toNat):=by
 simp[partsB,List.all_append]
theorem partsB_of_take{l:List UInt8}{k:Nat}(h:partsB (l.take k)=false):partsB l=false:=by
 rw[← List.take_append_drop k l];simp only[partsB,List.all_append]at *;simp[h]
theorem nameB_parts(l:List UInt8)(h:partsB l=false):nameB l=false:=by
 cases l with
 |nil=>rfl
 |cons c r=>
  simp only[nameB];cases hs:startB c.toNat
  ·rfl
  ·have:=part_of_start hs;simp only[partsB,List.all_cons,this,Bool.true_and]at h;simpa[partsB]using h
theorem nameB_all(s:ByteArray)(h0:0<s.size)(h:partsB s.data.toList=true):nameB s.data.toList=startB s[0].toNat:=by
 obtain⟨⟨l⟩⟩:=s;cases l with
 |nil=>simp[ByteArray.size]at h0
 |cons c r=>
  simp only[partsB,List.all_cons,Bool.and_eq_true]at h;have e:(⟨⟨c::r⟩⟩:ByteArray)[0]=c:=rfl;simp only[nameB,partsB,h.2,Bool.and_true,e]
theorem nameB_first(s:ByteArray)(h0:0<s.size)(h:startB s[0].toNat=false):nameB s.data.toList=false:=by
 obtain⟨⟨l⟩⟩:=s;cases l with
 |nil=>rfl
 |cons c r=>
  have e:(⟨⟨c::r⟩⟩:ByteArray)[0]=c:=rfl;rw[e]at h;simp only[nameB,h,Bool.false_and]
theorem parts_first(s:ByteArray)(h0:0<s.size)(h:startB s[0].toNat=true):partsB (s.data.toList.take 1)=true:=by
 obtain⟨⟨l⟩⟩:=s;cases l with
 |nil=>rfl
 |cons c r=>
  have e:(⟨⟨c::r⟩⟩:ByteArray)[0]=c:=rfl;rw[e]at h;simp[partsB,part_of_start h]
theorem parts_full{s:ByteArray}{k:Nat}(h:partsB (s.data.toList.take k)=true)(hk:s.size≤k):partsB s.data.toList=true:=by
 rwa [List.take_of_length_le (by simpa using hk)]at h
theorem nameB_empty(s:ByteArray)(h:s.size=0):nameB s.data.toList=false:=by
 obtain⟨⟨l⟩⟩:=s;cases l with
 |nil=>rfl
 |cons c r=>simp[ByteArray.size]at h
end
section
def mkS(p:Nat→Bool):List Nat:=(List.range 128).filter p
def addS(n:Nat)(s:List Nat):List Nat:=mkS fun k=>k == n || s.contains k
def delS(n:Nat)(s:List Nat):List Nat:=mkS fun k=>k != n && s.contains k
def uniS(s t:List Nat):List Nat:=mkS fun k=>s.contains k || t.contains k
def meetS(s t:List Nat):List Nat:=mkS fun k=>s.contains k && t.contains k
def subS(s t:List Nat):List Nat:=mkS fun k=>s.contains k && !t.contains k
def newS(s t:List Nat):Bool:=t.any fun k=>!s.contains k
structure Way where
 order:Int
 cycles:Bool
 collapse:Bool
 subst:Bool
 deltas:Bool
structure St where
 ss:List (List Nat)
 rep:Nat→Nat
 inside:List Nat
 now:List Nat
 come:List Nat
 susp:List Nat
 un:Nat
namespace St
def tg(s:St)(i:Nat):List Nat:=s.ss.getD (7*i) []
def hd(s:St)(i:Nat):List Nat:=s.ss.getD (7*i+1) []
def hr(s:St)(i:Nat):List Nat:=s.ss.getD (7*i+2) []
def ld(s:St)(i:Nat):List Nat:=s.ss.getD (7*i+3) []
def sr(s:St)(i:Nat):List Nat:=s.ss.getD (7*i+4) []
def tw(s:St)(i:Nat):List Nat:=s.ss.getD (7*i+5) []
def tr(s:St)(i:Nat):List Nat:=s.ss.getD (7*i+6) []
def put(s:St)(k:Nat)(t:List Nat):St:={ s with ss:=s.ss.set k t }
def addAt(s:St)(k n:Nat):St:=s.put k (addS n (s.ss.getD k []))
def wait(s:St)(n:Nat):St:=if s.inside.contains n then s else { s with inside:=addS n s.inside,come:=s.come++[n] }
def drop(s:St)(n:Nat):St:={ s with inside:=delS n s.inside,now:=s.now.filter (· != n),come:=s.come.filter (· != n) }
def letIn(s:St)(o:Int):St:=
 if o == 2 && !s.now.isEmpty then s
 else { s with now:=if o == 2 then(s.now++s.come).mergeSort (·≤·)else s.now++s.come,come:=[] }
def next(s:St)(o:Int):Option Nat × St:=
 let s:=s.letIn o
 match s.now with
 | []=>(none,s)
 |x::r=>let n:=if o == 1 then(x::r).getLastD 0 else x;(some n,s.drop n)
def standing(s:St)(l:List Nat):List Nat:=l.foldl (fun f n=>addS (s.rep n) f) []
def heirsOf(s:St)(n:Nat):List Nat:=delS n (s.standing (s.hr n))
def all(s:St)(n:Nat):List Nat:=s.standing (List.range n)
def suspect(s:St)(f h:Nat):St:=
 if s.tg f == s.tg h && !(s.tr f).contains h then let s:=s.addAt (7*f+6) h;{ s with susp:=addS f s.susp }
 else s
def hand(c:Way)(s:St)(T:List Nat)(f h:Nat):St:=
 let s1:={ s with un:=s.un+1 }.put (7*h) (uniS (s.tg h) T)
 if newS (s.tg h) T then s1.wait h
 else if c.cycles then s1.suspect f h else s1
def link(c:Way)(s:St)(f h:Nat):St:=
 let f:=s.rep f
 let h:=s.rep h
 if f == h || (s.hr f).contains h then s
 else
  let s1:=s.addAt (7*f+2) h
  let now:=if c.deltas then s1.hd f else s1.tg f
  if now.isEmpty then s1 else s1.hand c now f h
def fuse(s:St)(i j:Nat):St:=
 let s:={ s with rep:=fun n=>if s.rep n == j then i else s.rep n }
 let s:=s.put (7*i) (uniS (s.tg i) (s.tg j))
 let s:=s.put (7*i+1) (meetS (s.hd i) (s.hd j))
 let s:=s.put (7*i+2) (uniS (s.hr i) (s.hr j))
 let s:=s.put (7*i+3) (uniS (s.ld i) (s.ld j))
 let s:=s.put (7*i+4) (uniS (s.sr i) (s.sr j))
 let s:=s.put (7*i+5) (uniS (s.tw i) (s.tw j))
 s.put (7*i+6) (uniS (s.tr i) (s.tr j))
def clear(s:St)(j:Nat):St:=
 let s:={ s with un:=s.un+1 }
 let s:=(List.range 7).foldl (fun s k=>s.put (7*j+k) []) s
 s.drop j
def merge(s:St)(a b:Nat):Bool × St:=
 if s.rep a == s.rep b then(false,s)
 else(true,(((s.fuse (min (s.rep a) (s.rep b)) (max (s.rep a) (s.rep b))).wait (min (s.rep a) (s.rep b))).clear (max (s.rep a) (s.rep b))))
def mergeAll(s:St)(a:Nat)(l:List Nat):Bool × St:=l.foldl (fun x b=>let y:=x.2.merge a b;(y.1 || x.1,y.2)) (false,s)
def collapse(s:St)(n:Nat)(T:List Nat):Bool × St:=
 let tw:=s.tw n
 T.foldl (fun x t=>let y:=x.2.mergeAll t tw;(y.1 || x.1,y.2)) (false,s)
def links(c:Way)(s:St)(n t:Nat):St:=
 let s:=(s.ld n).foldl (fun s p=>s.link c t p) s
 (s.sr n).foldl (fun s q=>s.link c q t) s
def work(c:Way)(s:St)(n:Nat):St:=
 let fresh:=subS (s.tg n) (s.hd n)
 if fresh.isEmpty then s
 else
  let m:=s.collapse n fresh
  if m.1 then m.2.wait (m.2.rep n)
  else
   let s:=fresh.foldl (fun s t=>s.links c n t) m.2
   let s:=(s.heirsOf n).foldl (fun s h=>s.hand c fresh n h) s
   if c.deltas then s.put (7*n+1) (uniS (s.hd n) fresh)else s
end St
def reachL(next:Nat→List Nat):Nat→List Nat→List Nat→Option (List Nat)
 |0,_,_=>none
 |k+1,found,rest=>
  match rest.getLast? with
  |none=>some found
  |some x=>
   let y:=(next x).foldl (fun y t=>if y.1.contains t then y else(addS t y.1,y.2++[t])) (found,rest.dropLast)
   reachL next k y.1 y.2
def reached(k:Nat)(start:Nat)(next:Nat→List Nat):Option (List Nat):=reachL next k (addS start []) [start]
def backOf(ahead:List Nat)(next:Nat→List Nat)(n:Nat):List Nat:=mkS fun f=>ahead.contains f && (next f).contains n
def around(k:Nat)(start:Nat)(next:Nat→List Nat):Option (List Nat):=
 (reached k start next).bind fun ahead=>reached k start (backOf ahead next)
namespace St
def lookStep(k:Nat)(s:St)(n:Nat):Option St:=
 let s:={ s with susp:=delS n s.susp }
 (around k n s.heirsOf).map fun l=>(s.mergeAll n l).2
def foldO{α β:Type}(f:α→β→Option α):α→List β→Option α
 |a,[]=>some a
 |a,x::r=>(f a x).bind fun b=>foldO f b r
def lookForCycles(k:Nat)(s:St):Option St:=foldO (lookStep k) s s.susp
def partAdd(ps:List (List Nat))(i n:Nat):List (List Nat):=ps.set i (addS n (ps.getD i []))
def parts0(s:St)(n:Nat):List (List Nat):=
 (List.range n).foldl (fun ps i=>(s.tg i).foldl (fun ps t=>partAdd (partAdd ps i t) (s.rep t) (n+s.rep t)) ps) (List.replicate n [])
def handParts(s:St)(ps:List (List Nat))(i loaded:Nat):Bool × List (List Nat):=
 if(ps.getD i []).isEmpty then(false,ps)
 else
  let x:=(s.heirsOf i).foldl (fun x h=>(newS (x.2.getD h []) (x.2.getD i []) || x.1,x.2.set h (uniS (x.2.getD h []) (x.2.getD i [])))) (false,ps)
  (s.standing (s.ld i)).foldl (fun x p=>((!(x.2.getD p []).contains loaded) || x.1,partAdd x.2 p loaded)) x
def partsRound(s:St)(n:Nat)(all:List Nat)(ps:List (List Nat)):Bool × List (List Nat):=
 all.foldl (fun x i=>let y:=s.handParts x.2 i (2*n+i);(y.1 || x.1,y.2)) (false,ps)
def partsLoop(s:St)(n:Nat)(all:List Nat):Nat→List (List Nat)→Option (List (List Nat))
 |0,_=>none
 |k+1,ps=>let y:=s.partsRound n all ps;if y.1 then partsLoop s n all k y.2 else some y.2
def partsOf(k:Nat)(s:St)(n:Nat):Option (List (List Nat)):=s.partsLoop n (s.all n) k (s.parts0 n)
def mergeSame(s:St)(n:Nat)(ps:List (List Nat)):Bool × St:=
 let all:=s.all n
 all.foldl (fun x a=>all.foldl (fun x b=>if a<b && ps.getD a [] == ps.getD b []then let y:=x.2.merge a b;(y.1 || x.1,y.2)else x) x) (false,s)
def substitute(k n:Nat):Nat→St→Option St
 |0,_=>none
 |j+1,s=>(s.partsOf k n).bind fun ps=>let y:=s.mergeSame n ps;if y.1 then substitute k n j y.2 else some y.2
def twinsOf(k:Nat)(s:St)(n i:Nat):Option (List Nat):=
 let loads:=s.standing (s.ld i)
 let stores:=s.standing (s.sr i)
 (around k n fun m=>if m == n then loads else if stores.contains m then addS n (s.heirsOf m)else s.heirsOf m).map (delS n)
def findTwins(k:Nat)(s:St)(n:Nat):Option St:=foldO (fun s i=>(s.twinsOf k n i).map fun t=>s.put (7*i+5) t) s (s.all n)
def lookAhead(k:Nat)(c:Way)(s:St)(n:Nat):Option St:=
 (if c.subst then substitute k n k s else some s).bind fun s=>if c.collapse then s.findTwins k n else some s
def solveL(k:Nat)(c:Way):Nat→St→Option St
 |0,_=>none
 |j+1,s=>
  match s.next c.order with
  |(none,s)=>some s
  |(some n,s)=>(lookForCycles k (s.work c n)).bind fun s=>solveL k c j s
def solve(k:Nat)(c:Way)(s:St)(n:Nat):Option St:=(s.lookAhead k c n).bind fun s=>solveL k c k s
def lay(s:St)(kind:Int)(p q:Nat):St:=
 if kind=1 then s.addAt (7*p) q
 else if kind=2 then s.addAt (7*q+2) p
 else if kind=3 then s.addAt (7*q+3) p
 else if kind=4 then s.addAt (7*p+4) q
 else s
def start(n:Nat)(fs:List (Int × Nat × Nat)):St:=
 let s:=fs.foldl (fun s f=>s.lay f.1 f.2.1 f.2.2) { ss:=List.replicate (7*n) [],rep:=id,inside:=[],now:=[],come:=[],susp:=[],un:=0 }
 (List.range n).foldl (fun s i=>if(s.tg i).isEmpty then s else s.wait i) s
end St
end
section
theorem mem_mkS{p:Nat→Bool}{k:Nat}:k∈mkS p↔k<128∧p k=true:=by simp[mkS,List.mem_filter]
theorem mem_addS{n k:Nat}{s:List Nat}:k∈addS n s↔k<128∧(k=n∨k∈s):=by simp[addS,mem_mkS]
theorem mem_delS{n k:Nat}{s:List Nat}:k∈delS n s↔k<128∧k≠n∧k∈s:=by simp[delS,mem_mkS]
theorem mem_uniS{k:Nat}{s t:List Nat}:k∈uniS s t↔k<128∧(k∈s∨k∈t):=by simp[uniS,mem_mkS]
theorem mem_meetS{k:Nat}{s t:List Nat}:k∈meetS s t↔k<128∧k∈s∧k∈t:=by simp[meetS,mem_mkS]
theorem mem_subS{k:Nat}{s t:List Nat}:k∈subS s t↔k<128∧k∈s∧k ∉ t:=by simp[subS,mem_mkS]
theorem newS_iff{s t:List Nat}:newS s t=true↔∃k∈t,k ∉ s:=by simp[newS]
theorem newS_false{s t:List Nat}:newS s t=false↔∀k∈t,k∈s:=by simp[newS]
def cnt(n:Nat)(s:List Nat):Nat:=((List.range n).filter (s.contains ·)).length
theorem filter_len_mono{α:Type}(l:List α)(p q:α→Bool)(h:∀x∈l,p x=true→q x=true):(l.filter p).length≤(l.filter q).length:=by
 induction l with
 |nil=>simp
 |cons a r ih=>
  have h1:=ih (fun x hx=>h x (List.mem_cons_of_mem _ hx));have h2:=h a List.mem_cons_self;cases hp:p a<;>cases hq:q a<;>simp[List.filter,hp,hq]<;>simp_all<;>omega
theorem filter_len_lt{α:Type}(l:List α)(p q:α→Bool)(h:∀x∈l,p x=true→q x=true){a:α}(ha:a∈l)(hp:p a=false)(hq:q a=true):(l.filter p).length<(l.filter q).length:=by
 induction l with
 |nil=>cases ha
 |cons b r ih=>
  have hm:=filter_len_mono r p q (fun x hx=>h x (List.mem_cons_of_mem _ hx));have h2:=h b List.mem_cons_self;rcases List.mem_cons.1 ha with rfl|ha
  ·simp[List.filter,hp,hq];omega
  ·have:=ih (fun x hx=>h x (List.mem_cons_of_mem _ hx)) ha;cases hp:p b<;>cases hq:q b<;>simp[List.filter,hp,hq]<;>simp_all<;>omega
theorem acnt_le(n:Nat)(s:List Nat):cnt n s≤n:=by
 unfold cnt;have:=List.length_filter_le (s.contains ·) (List.range n);simpa using this
theorem cnt_mono{n:Nat}{s t:List Nat}(h:∀x∈s,x∈t):cnt n s≤cnt n t:=filter_len_mono _ _ _ (fun x _ hx=>by simpa using h x (by simpa using hx))
theorem cnt_lt{n:Nat}{s t:List Nat}(h:∀x∈s,x∈t){a:Nat}(ha:a<n)(hs:a ∉ s)(ht:a∈t):cnt n s<cnt n t:=
 filter_len_lt _ _ _ (fun x _ hx=>by simpa using h x (by simpa using hx)) (a:=a) (by simpa using ha) (by simpa using hs) (by simpa using ht)
def PtN(fs:List (Int × Nat × Nat))(p x:Nat):Prop:=∀R:Nat→Nat→Prop,(∀p q,((1:Int),p,q)∈fs→R p q)→(∀p q x,((2:Int),p,q)∈fs→R q x→R p x)→(∀p q v x,((3:Int),p,q)∈fs→R q v→R v x→R p x)→(∀p q v x,((4:Int),p,q)∈fs→R p v→R q x→R v x)→R p x
theorem PtN.addr{fs:List (Int × Nat × Nat)}{p q:Nat}(h:((1:Int),p,q)∈fs):PtN fs p q:=fun _ a _ _ _=>a p q h
theorem PtN.copy{fs:List (Int × Nat × Nat)}{p q x:Nat}(h:((2:Int),p,q)∈fs)(h1:PtN fs q x):PtN fs p x:=fun R a b c d=>b p q x h (h1 R a b c d)
theorem PtN.load{fs:List (Int × Nat × Nat)}{p q v x:Nat}(h:((3:Int),p,q)∈fs)(h1:PtN fs q v)(h2:PtN fs v x):PtN fs p x:=fun R a b c d=>c p q v x h (h1 R a b c d) (h2 R a b c d)
theorem PtN.store{fs:List (Int × Nat × Nat)}{p q v x:Nat}(h:((4:Int),p,q)∈fs)(h1:PtN fs p v)(h2:PtN fs q x):PtN fs v x:=fun R a b c d=>d p q v x h (h1 R a b c d) (h2 R a b c d)
theorem PtN.ind{fs:List (Int × Nat × Nat)}{motive:∀p x,PtN fs p x→Prop}(addr:∀ {p q:Nat} (h:((1:Int),p,q)∈fs),motive p q (.addr h))(copy:∀ {p q x:Nat} (h:((2:Int),p,q)∈fs) (h1:PtN fs q x),motive q x h1→motive p x (.copy h h1))
  (load:∀ {p q v x:Nat} (h:((3:Int),p,q)∈fs) (h1:PtN fs q v) (h2:PtN fs v x),motive q v h1→motive v x h2→motive p x (.load h h1 h2)) (store:∀ {p q v x:Nat} (h:((4:Int),p,q)∈fs) (h1:PtN fs p v) (h2:PtN fs q x),motive p v h1→motive q x h2→motive v x (.store h h1 h2))
  {p x:Nat} (t:PtN fs p x):motive p x t:=by
 obtain⟨_,h⟩:=t (fun p x=>∃h:PtN fs p x,motive p x h) (fun p q h=>⟨.addr h,addr h⟩) (fun p q x h ⟨h1,i1⟩=>⟨.copy h h1,copy h h1 i1⟩) (fun p q v x h ⟨h1,i1⟩ ⟨h2,i2⟩=>⟨.load h h1 h2,load h h1 h2 i1 i2⟩) (fun p q v x h ⟨h1,i1⟩ ⟨h2,i2⟩=>⟨.store h h1 h2,store h h1 h2 i1 i2⟩);exact h
theorem PtN.taken{fs:List (Int × Nat × Nat)}{p x:Nat}(h:PtN fs p x):∃p',((1:Int),p',x)∈fs:=by
 induction h using PtN.ind with
 |addr h=>exact⟨_,h⟩
 |copy _ _ ih=>exact ih
 |load _ _ _ _ ih=>exact ih
 |store _ _ _ _ ih=>exact ih
namespace St
def W(s:St)(i:Nat):Prop:=i∈s.now∨i∈s.come
def Edge(s:St)(t p:Nat):Prop:=s.rep t=s.rep p∨∃h∈s.hr (s.rep t),s.rep h=s.rep p
def nw(s:St):Nat:=s.now.length+s.come.length
@[simp] theorem put_rep (s:St) (k:Nat) (t:List Nat):(s.put k t).rep=s.rep:=rfl
@[simp] theorem put_now (s:St) (k:Nat) (t:List Nat):(s.put k t).now=s.now:=rfl
@[simp] theorem put_come (s:St) (k:Nat) (t:List Nat):(s.put k t).come=s.come:=rfl
@[simp] theorem put_inside (s:St) (k:Nat) (t:List Nat):(s.put k t).inside=s.inside:=rfl
@[simp] theorem put_susp (s:St) (k:Nat) (t:List Nat):(s.put k t).susp=s.susp:=rfl
@[simp] theorem put_un (s:St) (k:Nat) (t:List Nat):(s.put k t).un=s.un:=rfl
theorem put_get{s:St}{k:Nat}{t:List Nat}(hk:k<s.ss.length)(j:Nat):(s.put k t).ss.getD j []=if j=k then t else s.ss.getD j []:=by
 unfold put;simp only[List.getD_eq_getElem?_getD];by_cases h:j=k
 ·subst h;simp[hk]
 ·rw[List.getElem?_set_ne (Ne.symm h)];simp[h]
@[simp] theorem put_len (s:St) (k:Nat) (t:List Nat):(s.put k t).ss.length=s.ss.length:=by simp[put]
end St
end
section
def sumN(n:Nat)(f:Nat→Nat):Nat:=((List.range n).map f).sum
theorem sumN_succ(n:Nat)(f:Nat→Nat):sumN (n+1) f=sumN n f+f n:=by simp[sumN,List.range_succ]
theorem sumN_le{n:Nat}{f g:Nat→Nat}(h:∀i,i<n→f i≤g i):sumN n f≤sumN n g:=by
 induction n with
 |zero=>simp[sumN]
 |succ n ih=>
  rw[sumN_succ,sumN_succ];have:=ih (fun i hi=>h i (by omega));have:=h n (by omega);omega
theorem sumN_lt{n:Nat}{f g:Nat→Nat}(h:∀i,i<n→f i≤g i){j:Nat}(hj:j<n)(hl:f j<g j):sumN n f<sumN n g:=by
 induction n with
 |zero=>omega
 |succ n ih=>
  rw[sumN_succ,sumN_succ];have h1:=h n (by omega);by_cases e:j=n
  ·subst e;have:=sumN_le (n:=j) (fun i hi=>h i (by omega));omega
  ·have:=ih (fun i hi=>h i (by omega)) (by omega);omega
theorem sumN_bound{n m:Nat}{f:Nat→Nat}(h:∀i,i<n→f i≤m):sumN n f≤n*m:=by
 induction n with
 |zero=>simp[sumN]
 |succ n ih=>
  rw[sumN_succ];have:=ih (fun i hi=>h i (by omega));have:=h n (by omega);rw[Nat.succ_mul];omega
namespace St
def mis(s:St)(n f:Nat):Nat:=sumN n fun i=>if s.rep i=i then n-cnt n (s.ss.getD (7*i+f) [])else 0
def dn(s:St)(n:Nat):Nat:=sumN n fun i=>if s.rep i=i then 1 else 0
def mea(s:St)(n:Nat):Nat:=s.nw+s.mis n 0+2*s.dn n
def pt(s:St)(n:Nat):Nat:=s.un+s.mis n 2+s.dn n+n*s.mea n
end St
structure Inv(fs:List (Int × Nat × Nat))(n:Nat)(c:Way)(E:Nat→Prop)(s:St):Prop where
 hn:n≤40
 fsb:∀k p q,(k,p,q)∈fs→p<n∧q<n
 len:s.ss.length=7*n
 repl:∀i,s.rep i≤i
 repi:∀i,s.rep (s.rep i)=s.rep i
 same:∀i t,PtN fs (s.rep i) t↔PtN fs i t
 bd:∀k x,x∈s.ss.getD k []→x<n
 gone:∀i f,s.rep i≠i→f<7→s.ss.getD (7*i+f) []=[]
 tg:∀i x,x∈s.tg i→PtN fs i x
 hdt:∀i x,x∈s.hd i→x∈s.tg i
 hdn:c.deltas=false→∀i,s.hd i=[]
 hr:∀i j,j∈s.hr i→∀t,PtN fs i t→PtN fs j t
 ld:∀i p,p∈s.ld i→∀x t,PtN fs i x→PtN fs x t→PtN fs p t
 sr:∀i q,q∈s.sr i→∀x t,PtN fs i x→PtN fs q t→PtN fs x t
 tw:∀i u,u∈s.tw i→∀x,PtN fs i x→∀t,PtN fs x t↔PtN fs u t
 cA:∀p q,((1:Int),p,q)∈fs→q∈s.tg (s.rep p)
 cC:∀p q,((2:Int),p,q)∈fs→p∈s.hr (s.rep q)
 cL:∀p q,((3:Int),p,q)∈fs→p∈s.ld (s.rep q)
 cS:∀p q,((4:Int),p,q)∈fs→q∈s.sr (s.rep p)
 ins:∀i,i∈s.inside↔s.W i
 wst:∀i,s.W i→i<n∧s.rep i=i
 sus:∀i,i∈s.susp→i<n
 all:∀i,s.rep i=i→¬(s.W i∨E i)→c.deltas=true→∀x,x∈s.tg i→x∈s.hd i
 done:∀i x,s.rep i=i→x∈s.tg i→(if c.deltas then x∈s.hd i else ¬(s.W i∨E i))→(∀h,h∈s.hr i→x∈s.tg (s.rep h))∧(∀p,p∈s.ld i→s.Edge x p)∧(∀q,q∈s.sr i→s.Edge q x)
theorem Inv.rlt{fs:List (Int × Nat × Nat)}{n:Nat}{c:Way}{E:Nat→Prop}{s:St}(h:Inv fs n c E s){i:Nat}(hi:i<n):s.rep i<n:=Nat.lt_of_le_of_lt (h.repl i) hi
theorem Inv.exempt{fs:List (Int × Nat × Nat)}{n:Nat}{c:Way}{E E':Nat→Prop}{s:St}(h:Inv fs n c E s)(hE:∀i,s.rep i=i→E i→s.W i∨E' i):Inv fs n c E' s:=by
 refine { h with all:=fun i hi hx=>h.all i hi (fun hx'=>hx ?_),done:=fun i x hi hx hd=>h.done i x hi hx ?_ }
 ·rcases hx' with hx'|hx'
  ·exact .inl hx'
  ·exact hE i hi hx'
 ·split
  ·rename_i hc;rw[if_pos hc]at hd;exact hd
  ·rename_i hc;rw[if_neg hc]at hd;rintro(hw|he)
   ·exact hd (.inl hw)
   ·exact hd (hE i hi he)
theorem Inv.grow{fs:List (Int × Nat × Nat)}{n:Nat}{c:Way}{E:Nat→Prop}{s s':St}(h:Inv fs n c E s)
  (hrep:s'.rep=s.rep) (hlen:s'.ss.length=s.ss.length) (hhd:∀i,s'.hd i=s.hd i) (hld:∀i,s'.ld i=s.ld i) (hsr:∀i,s'.sr i=s.sr i) (htw:∀i,s'.tw i=s.tw i)
  (hbd:∀k x,x∈s'.ss.getD k []→x<n) (hgone:∀i f,s.rep i≠i→f<7→s'.ss.getD (7*i+f) []=[])
  (htg:∀i x,x∈s.tg i→x∈s'.tg i) (htg':∀i x,x∈s'.tg i→PtN fs i x)
  (hhr:∀i x,x∈s.hr i→x∈s'.hr i) (hhr':∀i j,j∈s'.hr i→∀t,PtN fs i t→PtN fs j t)
  (hW:∀i,s.W i→s'.W i) (hins:∀i,i∈s'.inside↔s'.W i) (hwst:∀i,s'.W i→i<n∧s.rep i=i) (hsus:∀i,i∈s'.susp→i<n)
  (hnew:∀i x,s.rep i=i→x∈s'.tg i→x ∉ s.tg i→s'.W i)
  (hlink:∀i x j,s.rep i=i→x∈s.tg i→(if c.deltas then x∈s.hd i else ¬(s.W i∨E i))→j∈s'.hr i→j ∉ s.hr i→x∈s'.tg (s.rep j)):Inv fs n c E s':=by
 have hedge:∀t p,s.Edge t p→s'.Edge t p:=by
  rintro t p (e|⟨j,hj,e⟩)
  ·exact .inl (by rw[hrep];exact e)
  ·exact .inr ⟨j,by rw[hrep];exact hhr _ _ hj,by rw[hrep];exact e⟩
 refine⟨h.hn,h.fsb,by rw[hlen];exact h.len,by rw[hrep];exact h.repl,by rw[hrep];exact h.repi,by rw[hrep];exact h.same,hbd,by rw[hrep];exact hgone,htg',?_,?_,hhr',?_,?_,?_,?_,?_,?_,?_,hins,by rw[hrep];exact hwst,hsus,?_,?_⟩
 ·intro i x hx;rw[hhd]at hx;exact htg _ _ (h.hdt i x hx)
 ·intro hc i;rw[hhd];exact h.hdn hc i
 ·intro i p hp;rw[hld]at hp;exact h.ld i p hp
 ·intro i p hp;rw[hsr]at hp;exact h.sr i p hp
 ·intro i p hp;rw[htw]at hp;exact h.tw i p hp
 ·intro p q hf;rw[hrep];exact htg _ _ (h.cA p q hf)
 ·intro p q hf;rw[hrep];exact hhr _ _ (h.cC p q hf)
 ·intro p q hf;rw[hrep,hld];exact h.cL p q hf
 ·intro p q hf;rw[hrep,hsr];exact h.cS p q hf
 ·intro i hi hx hc x hxt;rw[hrep]at hi;rw[hhd];by_cases hxo:x∈s.tg i
  ·exact h.all i hi (fun hx'=>hx (hx'.imp (hW i) id)) hc x hxo
  ·exact absurd (.inl (hnew i x hi hxt hxo)) hx
 ·intro i x hi hxt hcond;rw[hrep]at hi;have hcond':if c.deltas then x∈s.hd i else ¬(s.W i∨E i):=by
   split
   ·rename_i hc;rw[if_pos hc,hhd]at hcond;exact hcond
   ·rename_i hc;rw[if_neg hc]at hcond;exact fun hx'=>hcond (hx'.imp (hW i) id)
  have hxo:x∈s.tg i:=by
   by_cases hc:c.deltas=true
   ·rw[if_pos hc]at hcond';exact h.hdt i x hcond'
   ·rw[if_neg hc]at hcond;by_cases hxo:x∈s.tg i
    ·exact hxo
    ·exact absurd (.inl (hnew i x hi hxt hxo)) hcond
  obtain⟨d1,d2,d3⟩:=h.done i x hi hxo hcond';refine⟨?_,?_,?_⟩
  ·intro j hj;rw[hrep];by_cases hjo:j∈s.hr i
   ·exact htg _ _ (d1 j hjo)
   ·exact hlink i x j hi hxo hcond' hj hjo
  ·intro p hp;rw[hld]at hp;exact hedge _ _ (d2 p hp)
  ·intro q hq;rw[hsr]at hq;exact hedge _ _ (d3 q hq)
namespace St
theorem wait_ss(s:St)(n:Nat):(s.wait n).ss=s.ss:=by unfold wait;split<;>rfl
theorem wait_rep(s:St)(n:Nat):(s.wait n).rep=s.rep:=by unfold wait;split<;>rfl
theorem wait_susp(s:St)(n:Nat):(s.wait n).susp=s.susp:=by unfold wait;split<;>rfl
theorem wait_un(s:St)(n:Nat):(s.wait n).un=s.un:=by unfold wait;split<;>rfl
theorem wait_W{s:St}(hi:∀i,i∈s.inside↔s.W i)(n i:Nat):(s.wait n).W i↔s.W i∨i=n:=by
 unfold wait;split
 ·rename_i h;have:=(hi n).1 (by simpa using h);constructor
  ·exact .inl
  ·rintro(h|rfl)
   ·exact h
   ·exact this
 ·simp[W,or_assoc]
theorem wait_ins{s:St}(hi:∀i,i∈s.inside↔s.W i){n:Nat}(hn:n<128)(hw:∀i,s.W i→i<128)(i:Nat):i∈(s.wait n).inside↔(s.wait n).W i:=by
 rw[wait_W hi];unfold wait;split
 ·rename_i h;have:=(hi n).1 (by simpa using h);rw[hi];constructor
  ·exact .inl
  ·rintro(h|rfl)
   ·exact h
   ·exact this
 ·rw[mem_addS,hi];constructor
  ·rintro⟨_,h⟩;exact h.symm
  ·intro h;exact⟨by rcases h with h|rfl;exact hw _ h;exact hn,h.symm⟩
theorem wait_nw(s:St)(n:Nat):(s.wait n).nw≤s.nw+1:=by
 unfold wait nw;split
 ·omega
 ·simp;omega
end St
theorem Inv.w128{fs:List (Int × Nat × Nat)}{n:Nat}{c:Way}{E:Nat→Prop}{s:St}(h:Inv fs n c E s)(i:Nat)(hw:s.W i):i<128:=by
 have:=(h.wst i hw).1;have:=h.hn;omega
theorem Inv.wait{fs:List (Int × Nat × Nat)}{n:Nat}{c:Way}{E:Nat→Prop}{s:St}(h:Inv fs n c E s){i:Nat}(hi:i<n)(hs:s.rep i=i):Inv fs n c E (s.wait i):=by
 have e:∀k,(s.wait i).ss.getD k []=s.ss.getD k []:=fun k=>by rw[St.wait_ss]
 have hn:=h.hn;refine h.grow (St.wait_rep _ _) (by rw[St.wait_ss]) (fun _=>e _) (fun _=>e _) (fun _=>e _) (fun _=>e _) (fun k x=>by rw[e];exact h.bd k x) (fun j f=>by rw[e];exact h.gone j f) (fun j x=>by unfold St.tg;rw[e];exact id)
  (fun j x=>by unfold St.tg;rw[e];exact h.tg j x) (fun j x=>by unfold St.hr;rw[e];exact id) (fun j x=>by unfold St.hr;rw[e];exact h.hr j x) (fun j hj=>(St.wait_W h.ins i j).2 (.inl hj))
  (St.wait_ins h.ins (by omega) h.w128) ?_ (by rw[St.wait_susp];exact h.sus) ?_ ?_
 ·intro j hj;rcases(St.wait_W h.ins i j).1 hj with hj|rfl
  ·exact h.wst j hj
  ·exact⟨hi,hs⟩
 ·intro j x _ hx hx';unfold St.tg at hx hx';rw[e]at hx;exact absurd hx hx'
 ·intro j x y _ _ _ hy hy';unfold St.hr at hy hy';rw[e]at hy;exact absurd hy hy'
end
section
namespace St
theorem mis_le{s s':St}{n f:Nat}(h:∀i,i<n→s'.rep i=i→s.rep i=i∧∀x,x∈s.ss.getD (7*i+f) []→x∈s'.ss.getD (7*i+f) []):s'.mis n f≤s.mis n f:=by
 refine sumN_le fun i hi=>?_
 show(if s'.rep i=i then _ else 0)≤(if s.rep i=i then _ else 0);by_cases e:s'.rep i=i
 ·obtain⟨h1,h2⟩:=h i hi e;rw[if_pos e,if_pos h1];have:=cnt_mono (n:=n) h2;omega
 ·rw[if_neg e];omega
theorem mis_lt{s s':St}{n f:Nat}(h:∀i,i<n→s'.rep i=i→s.rep i=i∧∀x,x∈s.ss.getD (7*i+f) []→x∈s'.ss.getD (7*i+f) []){j x:Nat}(hj:j<n)(hs:s'.rep j=j)(hx:x<n)(h1:x ∉ s.ss.getD (7*j+f) [])(h2:x∈s'.ss.getD (7*j+f) []):s'.mis n f<s.mis n f:=by
 refine sumN_lt (fun i hi=>?_) hj ?_
 ·show(if s'.rep i=i then _ else 0)≤(if s.rep i=i then _ else 0);by_cases e:s'.rep i=i
  ·obtain⟨h1,h2⟩:=h i hi e;rw[if_pos e,if_pos h1];have:=cnt_mono (n:=n) h2;omega
  ·rw[if_neg e];omega
 ·show(if s'.rep j=j then _ else 0)<(if s.rep j=j then _ else 0);obtain⟨h3,h4⟩:=h j hj hs;rw[if_pos hs,if_pos h3];have:=cnt_lt (n:=n) h4 hx h1 h2;have:=acnt_le n (s'.ss.getD (7*j+f) []);omega
theorem dn_eq{s s':St}{n:Nat}(h:s'.rep=s.rep):s'.dn n=s.dn n:=by unfold dn;rw[h]
theorem suspect_sum{s:St}{n f h:Nat}(hl:s.ss.length=7*n)(hf:f<n)(hh:h<n)(_hn:n≤40)(hb:∀x,x∈s.susp→x<n)(hb2:∀k x,x∈s.ss.getD k []→x<n) :
  (s.suspect f h).rep=s.rep∧(s.suspect f h).ss.length=s.ss.length∧(∀k,k≠7*f+6→(s.suspect f h).ss.getD k []=s.ss.getD k [])∧(∀x,x∈(s.suspect f h).ss.getD (7*f+6) []→x<n) ∧
  (s.suspect f h).now=s.now∧(s.suspect f h).come=s.come∧(s.suspect f h).inside=s.inside∧(s.suspect f h).un=s.un∧(∀x,x∈(s.suspect f h).susp→x<n):=by
 unfold suspect;split
 ·refine⟨rfl,by simp[addAt],?_,?_,rfl,rfl,rfl,rfl,?_⟩
  ·intro k hk;show(s.put _ _).ss.getD k []=_;rw[put_get (by omega),if_neg hk]
  ·intro x hx;have hx:x∈(s.put _ _).ss.getD (7*f+6) []:=hx;rw[put_get (by omega),if_pos rfl,mem_addS]at hx;rcases hx.2 with rfl|hx
   ·exact hh
   ·exact hb2 _ _ hx
  ·intro x hx;have hx:x∈addS f s.susp:=hx;rw[mem_addS]at hx;rcases hx.2 with rfl|hx
   ·exact hf
   ·exact hb _ hx
 ·exact⟨rfl,rfl,fun _ _=>rfl,fun x hx=>hb2 _ x hx,rfl,rfl,rfl,rfl,hb⟩
theorem hand_sum{c:Way}{s:St}{n f h:Nat}{T:List Nat}(hl:s.ss.length=7*n)(hf:f<n)(hh:h<n)(hn:n≤40)(hb:∀x,x∈s.susp→x<n)(hb2:∀k x,x∈s.ss.getD k []→x<n)(hT:∀x,x∈T→x<n)(hi:∀i,i∈s.inside↔s.W i)(hw:∀i,s.W i→i<n) :
  (s.hand c T f h).rep=s.rep∧(s.hand c T f h).ss.length=s.ss.length∧(∀k,k≠7*f+6→(s.hand c T f h).ss.getD k []=if k=7*h then uniS (s.tg h) T else s.ss.getD k [])∧(∀x,x∈(s.hand c T f h).ss.getD (7*f+6) []→x<n) ∧
  (∀i,(s.hand c T f h).W i↔s.W i∨(i=h∧newS (s.tg h) T=true))∧(∀i,i∈(s.hand c T f h).inside↔(s.hand c T f h).W i)∧(s.hand c T f h).un=s.un+1∧(∀x,x∈(s.hand c T f h).susp→x<n)∧(s.hand c T f h).nw≤s.nw+(if newS (s.tg h) T then 1 else 0):=by
 obtain⟨s1,hs1⟩:∃s1,s1=({ s with un:=s.un+1 }:St).put (7*h) (uniS (s.tg h) T):=⟨_,rfl⟩;have e1:∀k,s1.ss.getD k []=if k=7*h then uniS (s.tg h) T else s.ss.getD k []:=by
  intro k;rw[hs1];exact put_get (s:={ s with un:=s.un+1 }) (by show 7*h<s.ss.length;omega) k
 have eb:∀k x,x∈s1.ss.getD k []→x<n:=by
  intro k x hx;rw[e1]at hx;split at hx
  ·rw[mem_uniS]at hx;rcases hx.2 with hx|hx
   ·exact hb2 _ _ hx
   ·exact hT _ hx
  ·exact hb2 _ _ hx
 have hi1:∀i,i∈s1.inside↔s1.W i:=by rw[hs1];exact hi
 have hl1:s1.ss.length=7*n:=by rw[hs1];simp[put];exact hl
 have hw1:∀i,s1.W i↔s.W i:=by rw[hs1];exact fun _=>Iff.rfl
 have hu1:s1.un=s.un+1:=by rw[hs1];rfl
 have hr1:s1.rep=s.rep:=by rw[hs1];rfl
 have hsu:s1.susp=s.susp:=by rw[hs1];rfl
 have hnw:s1.nw=s.nw:=by rw[hs1];rfl
 have key:s.hand c T f h=if newS (s.tg h) T then s1.wait h else if c.cycles then s1.suspect f h else s1:=by rw[hs1];rfl
 rw[key];cases hN:newS (s.tg h) T
 ·simp only[Bool.false_eq_true,if_false,and_false,or_false,Nat.add_zero];cases hc:c.cycles
  ·simp only[Bool.false_eq_true,if_false];exact⟨hr1,by rw[hl1,hl],fun k _=>e1 k,eb _,hw1,hi1,hu1,by rw[hsu];exact hb,by rw[hnw];exact Nat.le_refl _⟩
  ·simp only[if_true];obtain⟨a1,a2,a3,a4,a5,a6,a7,a8,a9⟩:=suspect_sum (s:=s1) hl1 hf hh hn (by rw[hsu];exact hb) eb;have hW:∀i,(s1.suspect f h).W i↔s1.W i:=fun i=>by unfold W;rw[a5,a6]
   refine⟨by rw[a1,hr1],by rw[a2,hl1,hl],fun k hk=>by rw[a3 k hk];exact e1 k,a4,fun i=>by rw[hW,hw1],fun i=>by rw[a7,hW];exact hi1 i,by rw[a8,hu1],a9,by rw[← hnw];unfold nw;rw[a5,a6];exact Nat.le_refl _⟩
 ·simp only[if_true,and_true];refine⟨by rw[wait_rep,hr1],by rw[wait_ss,hl1,hl],fun k _=>by rw[wait_ss];exact e1 k,by rw[wait_ss];exact eb _,fun i=>by rw[wait_W hi1,hw1],wait_ins hi1 (by omega) (fun i hi=>by have:=hw i ((hw1 i).1 hi);omega),by rw[wait_un,hu1],by rw[wait_susp,hsu];exact hb,by rw[← hnw];exact wait_nw _ _⟩
end St
theorem Inv.hand{fs:List (Int × Nat × Nat)}{n:Nat}{c:Way}{E:Nat→Prop}{s:St}(h:Inv fs n c E s){T:List Nat}{f j:Nat}(hf:f<n)(hj:j<n)(hrf:s.rep f=f)(hrj:s.rep j=j)(hT:∀x,x∈T→x<n∧PtN fs j x) :
  Inv fs n c E (s.hand c T f j)∧(s.hand c T f j).rep=s.rep∧(∀i x,x∈s.tg i→x∈(s.hand c T f j).tg i)∧(∀x,x∈T→x∈(s.hand c T f j).tg j)∧(∀i,(s.hand c T f j).hr i=s.hr i)∧(∀i,(s.hand c T f j).ld i=s.ld i)∧(∀i,(s.hand c T f j).sr i=s.sr i)∧(∀i,(s.hand c T f j).hd i=s.hd i) ∧
  (∀i,s.W i→(s.hand c T f j).W i)∧(∀i x,x∈(s.hand c T f j).tg i→x∈s.tg i∨(s.hand c T f j).W i)∧(s.hand c T f j).mea n≤s.mea n∧(s.hand c T f j).pt n≤s.pt n+1:=by
 obtain⟨a1,a2,a3,a4,a5,a6,a7,a8,a9⟩:=St.hand_sum (c:=c) (T:=T) (f:=f) (h:=j) h.len hf hj h.hn h.sus h.bd (fun x hx=>(hT x hx).1) h.ins (fun i hi=>(h.wst i hi).1);have hn:=h.hn;generalize s.hand c T f j=s' at *;have etg:∀i,s'.tg i=if i=j then uniS (s.tg j) T else s.tg i:=by
  intro i;unfold St.tg;rw[a3 _ (by omega)];by_cases e:i=j
  ·subst e;simp;rfl
  ·rw[if_neg (by omega),if_neg e]
 have ehd:∀i,s'.hd i=s.hd i:=fun i=>by unfold St.hd;rw[a3 _ (by omega),if_neg (by omega)]
 have ehr:∀i,s'.hr i=s.hr i:=fun i=>by unfold St.hr;rw[a3 _ (by omega),if_neg (by omega)]
 have eld:∀i,s'.ld i=s.ld i:=fun i=>by unfold St.ld;rw[a3 _ (by omega),if_neg (by omega)]
 have esr:∀i,s'.sr i=s.sr i:=fun i=>by unfold St.sr;rw[a3 _ (by omega),if_neg (by omega)]
 have etw:∀i,s'.tw i=s.tw i:=fun i=>by unfold St.tw;rw[a3 _ (by omega),if_neg (by omega)]
 have htg:∀i x,x∈s.tg i→x∈s'.tg i:=by
  intro i x hx;rw[etg];split
  ·rename_i e;subst e;have:=h.bd _ _ hx;exact mem_uniS.2 ⟨by omega,.inl hx⟩
  ·exact hx
 have hTj:∀x,x∈T→x∈s'.tg j:=by
  intro x hx;rw[etg,if_pos rfl];have:=(hT x hx).1;exact mem_uniS.2 ⟨by omega,.inr hx⟩
 have hnew:∀i x,x∈s'.tg i→x∈s.tg i∨s'.W i:=by
  intro i x hx;rw[etg]at hx;split at hx
  ·rename_i e;subst e;by_cases hxo:x∈s.tg i
   ·exact .inl hxo
   ·refine .inr ((a5 i).2 (.inr ⟨rfl,newS_iff.2 ⟨x,?_,hxo⟩⟩));exact(mem_uniS.1 hx).2.resolve_left hxo
  ·exact .inl hx
 have hWW:∀i,s.W i→s'.W i:=fun i hi=>(a5 i).2 (.inl hi)
 have m0:s'.nw+s'.mis n 0≤s.nw+s.mis n 0:=by
  cases hN:newS (s.tg j) T
  ·rw[hN]at a9;simp at a9;have:s'.mis n 0≤s.mis n 0:=St.mis_le (fun i _ hi=>⟨by rw[a1]at hi;exact hi,fun x hx=>htg i x hx⟩);omega
  ·rw[hN]at a9;simp at a9;obtain⟨x,hx,hxn⟩:=newS_iff.1 hN;have:s'.mis n 0<s.mis n 0:=St.mis_lt (fun i _ hi=>⟨by rw[a1]at hi;exact hi,fun x hx=>htg i x hx⟩) hj (by rw[a1];exact hrj) (hT x hx).1 hxn (hTj x hx);omega
 have m2:s'.mis n 2≤s.mis n 2:=St.mis_le (fun i _ hi=>⟨by rw[a1]at hi;exact hi,fun x hx=>by have:=ehr i;unfold St.hr at this;rw[this];exact hx⟩);have md:=St.dn_eq (n:=n) a1;have mm:s'.mea n≤s.mea n:=by unfold St.mea;omega
 refine⟨?_,a1,htg,hTj,ehr,eld,esr,ehd,hWW,hnew,mm,?_⟩
 ·refine h.grow a1 a2 ehd eld esr etw ?_ ?_ htg ?_ (fun i x hx=>by rw[ehr];exact hx) (fun i x hx=>by rw[ehr]at hx;exact h.hr i x hx) hWW a6 ?_ a8 (fun i x _ hx hxo=>(hnew i x hx).resolve_left hxo) (fun i x y _ _ _ hy hy'=>absurd (by rw[ehr]at hy;exact hy) hy')
  ·intro k x hx;by_cases e:k=7*f+6
   ·subst e;exact a4 x hx
   ·rw[a3 k e]at hx;split at hx
    ·rcases(mem_uniS.1 hx).2 with hx|hx
     ·exact h.bd _ _ hx
     ·exact(hT x hx).1
    ·exact h.bd _ _ hx
  ·intro i g hi hg;have hif:i≠f:=fun e=>hi (by rw[e];exact hrf)
   have hij:i≠j:=fun e=>hi (by rw[e];exact hrj)
   rw[a3 _ (by omega),if_neg (by omega)];exact h.gone i g hi hg
  ·intro i x hx;rw[etg]at hx;split at hx
   ·rename_i e;subst e;rcases(mem_uniS.1 hx).2 with hx|hx
    ·exact h.tg _ _ hx
    ·exact(hT x hx).2
   ·exact h.tg _ _ hx
  ·intro i hi;rcases(a5 i).1 hi with hi|⟨rfl,_⟩
   ·exact h.wst i hi
   ·exact⟨hj,hrj⟩
 ·have:=Nat.mul_le_mul_left n mm;unfold St.pt;omega
end
section
structure More(n:Nat)(s s':St):Prop where
 rep:s'.rep=s.rep
 tg:∀i x,x∈s.tg i→x∈s'.tg i
 hr:∀i x,x∈s.hr i→x∈s'.hr i
 ld:∀i,s'.ld i=s.ld i
 sr:∀i,s'.sr i=s.sr i
 hd:∀i,s'.hd i=s.hd i
 w:∀i,s.W i→s'.W i
 new:∀i x,x∈s'.tg i→x∈s.tg i∨s'.W i
 mea:s'.mea n≤s.mea n
theorem More.refl(n:Nat)(s:St):More n s s:=⟨rfl,fun _ _ h=>h,fun _ _ h=>h,fun _=>rfl,fun _=>rfl,fun _=>rfl,fun _ h=>h,fun _ _ h=>.inl h,Nat.le_refl _⟩
theorem More.trans{n:Nat}{a b c:St}(h:More n a b)(k:More n b c):More n a c:=
 ⟨k.rep.trans h.rep,fun i x hx=>k.tg i x (h.tg i x hx),fun i x hx=>k.hr i x (h.hr i x hx),fun i=>(k.ld i).trans (h.ld i),fun i=>(k.sr i).trans (h.sr i),fun i=>(k.hd i).trans (h.hd i),fun i hi=>k.w i (h.w i hi),
  fun i x hx=>(k.new i x hx).elim (fun hx=>(h.new i x hx).imp id (k.w i)) .inr,Nat.le_trans k.mea h.mea⟩
theorem More.edge{n:Nat}{s s':St}(h:More n s s'){t p:Nat}(he:s.Edge t p):s'.Edge t p:=by
 rcases he with e|⟨j,hj,e⟩
 ·exact .inl (by rw[h.rep];exact e)
 ·exact .inr ⟨j,by rw[h.rep];exact h.hr _ _ hj,by rw[h.rep];exact e⟩
theorem Inv.hand'{fs:List (Int × Nat × Nat)}{n:Nat}{c:Way}{E:Nat→Prop}{s:St}(h:Inv fs n c E s){T:List Nat}{f j:Nat}(hf:f<n)(hj:j<n)(hrf:s.rep f=f)(hrj:s.rep j=j)(hT:∀x,x∈T→x<n∧PtN fs j x) :
  Inv fs n c E (s.hand c T f j)∧More n s (s.hand c T f j)∧(∀x,x∈T→x∈(s.hand c T f j).tg j)∧(s.hand c T f j).pt n≤s.pt n+1:=by
 obtain⟨a1,a2,a3,a4,a5,a6,a7,a8,a9,a10,a11,a12⟩:=h.hand hf hj hrf hrj hT;exact⟨a1,⟨a2,a3,fun i x hx=>by rw[a5];exact hx,a6,a7,a8,a9,a10,a11⟩,a4,a12⟩
theorem Inv.link{fs:List (Int × Nat × Nat)}{n:Nat}{c:Way}{E:Nat→Prop}{s:St}(h:Inv fs n c E s){f j:Nat}(hf:f<n)(hj:j<n)(hS:∀t,PtN fs f t→PtN fs j t) :
  Inv fs n c E (s.link c f j)∧More n s (s.link c f j)∧(s.link c f j).Edge f j∧(s.link c f j).pt n≤s.pt n:=by
 have hn:=h.hn;have hf':=h.rlt hf;have hj':=h.rlt hj;have hS':∀t,PtN fs (s.rep f) t→PtN fs (s.rep j) t:=fun t ht=>(h.same j t).2 (hS t ((h.same f t).1 ht))
 have hrf:=h.repi f;have hrj:=h.repi j;unfold St.link;by_cases hc:(s.rep f == s.rep j || (s.hr (s.rep f)).contains (s.rep j))=true
 ·simp only[hc,if_true];refine⟨h,More.refl _ _,?_,Nat.le_refl _⟩;simp only[Bool.or_eq_true,beq_iff_eq,List.contains_iff_mem]at hc;rcases hc with hc|hc
  ·exact .inl hc
  ·exact .inr ⟨_,hc,hrj⟩
 ·simp only[hc,if_false,Bool.false_eq_true];simp only[Bool.or_eq_true,beq_iff_eq,List.contains_iff_mem,not_or]at hc;obtain⟨hne,hnot⟩:=hc;generalize ef:s.rep f=f' at *;generalize ej:s.rep j=j' at *;obtain⟨s1,hs1⟩:∃s1,s1=s.addAt (7*f'+2) j':=⟨_,rfl⟩;rw[← hs1];have e1:∀k,s1.ss.getD k []=if k=7*f'+2 then addS j' (s.hr f')else s.ss.getD k []:=by
   intro k;rw[hs1];exact St.put_get (by rw[h.len];omega) k
  have et:s1.tg f'=s.tg f':=by unfold St.tg;rw[e1,if_neg (by omega)]
  have eh:s1.hd f'=s.hd f':=by unfold St.hd;rw[e1,if_neg (by omega)]
  have etj:s1.tg j'=s.tg j':=by unfold St.tg;rw[e1,if_neg (by omega)]
  rw[et,eh];obtain⟨T,hT⟩:∃T,T=if c.deltas then s.hd f' else s.tg f':=⟨_,rfl⟩
  rw[← hT];have hTt:∀x,x∈T→x∈s.tg f':=by
   intro x hx;rw[hT]at hx;split at hx
   ·exact h.hdt _ _ hx
   ·exact hx
  have hTs:∀x,x∈T→x<n∧PtN fs j' x:=fun x hx=>⟨h.bd _ _ (hTt x hx),hS' x (h.tg _ _ (hTt x hx))⟩
  have hb1:∀k x,x∈s1.ss.getD k []→x<n:=by
   intro k x hx;rw[e1]at hx;split at hx
   ·rcases(mem_addS.1 hx).2 with rfl|hx
    ·exact hj'
    ·exact h.bd _ _ hx
   ·exact h.bd _ _ hx
  have hrep1:s1.rep=s.rep:=by rw[hs1];rfl
  have hl1:s1.ss.length=s.ss.length:=by rw[hs1];simp[St.addAt]
  have hin1:s1.inside=s.inside:=by rw[hs1];rfl
  have hW1:∀i,s1.W i↔s.W i:=by rw[hs1];exact fun _=>Iff.rfl
  have hsus1:s1.susp=s.susp:=by rw[hs1];rfl
  have hun1:s1.un=s.un:=by rw[hs1];rfl
  have hnw1:s1.nw=s.nw:=by rw[hs1];rfl
  -- the state behind,in one way of saying
  have key:∃s',s'=(if T.isEmpty then s1 else s1.hand c T f' j')∧s'.rep=s.rep∧s'.ss.length=s.ss.length∧(∀k,k≠7*f'+6→s'.ss.getD k []=if k=7*j'∧T≠[]then uniS (s.tg j') T else if k=7*f'+2 then addS j' (s.hr f')else s.ss.getD k [])∧(∀x,x∈s'.ss.getD (7*f'+6) []→x<n) ∧
    (∀i,s'.W i↔s.W i∨(i=j'∧newS (s.tg j') T=true))∧(∀i,i∈s'.inside↔s'.W i)∧s'.un≤s.un+1∧(∀x,x∈s'.susp→x<n)∧s'.nw≤s.nw+(if newS (s.tg j') T then 1 else 0):=by
   refine⟨_,rfl,?_⟩;cases hTe:T with
   |nil=>
    simp only[List.isEmpty_nil,if_true,ne_eq,not_true_eq_false,and_false,if_false];refine⟨hrep1,hl1,fun k _=>e1 k,hb1 _,fun i=>by rw[hW1];simp[newS],fun i=>by rw[hin1,hW1];exact h.ins i,by omega,by rw[hsus1];exact h.sus,by rw[hnw1];omega⟩
   |cons a r=>
    rw[← hTe];have hTn:T.isEmpty=false:=by rw[hTe];rfl
    have hTn':T≠[]:=by rw[hTe];simp
    simp only[hTn,Bool.false_eq_true,if_false];obtain⟨a1,a2,a3,a4,a5,a6,a7,a8,a9⟩:=St.hand_sum (c:=c) (s:=s1) (T:=T) (f:=f') (h:=j') (by rw[hl1];exact h.len) hf' hj' h.hn (by rw[hsus1];exact h.sus) hb1 (fun x hx=>(hTs x hx).1) (fun i=>by rw[hin1,hW1];exact h.ins i) (fun i hi=>(h.wst i ((hW1 i).1 hi)).1);rw[etj]at a3 a5 a9;refine⟨by rw[a1,hrep1],by rw[a2,hl1],fun k hk=>?_,a4,fun i=>by rw[a5,hW1],a6,by omega,a8,by rw[hnw1]at a9;exact a9⟩;rw[a3 k hk,e1];by_cases e:k=7*j'
    ·rw[if_pos e,if_pos ⟨e,hTn'⟩]
    ·rw[if_neg e,if_neg (show ¬(k=7*j'∧T≠[])from fun x=>e x.1)]
  obtain⟨s',hs',a1,a2,a3,a4,a5,a6,a7,a8,a9⟩:=key;rw[← hs'];clear hs';have etg:∀i,s'.tg i=if i=j'∧T≠[]then uniS (s.tg j') T else s.tg i:=by
   intro i;unfold St.tg;rw[a3 _ (by omega)];by_cases e:i=j'
   ·subst e;by_cases e2:T=[]
    ·rw[if_neg (by simp[e2]),if_neg (by omega),if_neg (by simp[e2])]
    ·rw[if_pos ⟨rfl,e2⟩,if_pos ⟨rfl,e2⟩];rfl
   ·rw[if_neg (by omega),if_neg (by omega),if_neg (by simp[e])]
  have ehd:∀i,s'.hd i=s.hd i:=fun i=>by unfold St.hd;rw[a3 _ (by omega),if_neg (by omega),if_neg (by omega)]
  have ehr:∀i,s'.hr i=if i=f' then addS j' (s.hr f')else s.hr i:=by
   intro i;unfold St.hr;rw[a3 _ (by omega),if_neg (by omega)];by_cases e:i=f'
   ·subst e;rw[if_pos rfl,if_pos rfl];rfl
   ·rw[if_neg (by omega),if_neg e]
  have eld:∀i,s'.ld i=s.ld i:=fun i=>by unfold St.ld;rw[a3 _ (by omega),if_neg (by omega),if_neg (by omega)]
  have esr:∀i,s'.sr i=s.sr i:=fun i=>by unfold St.sr;rw[a3 _ (by omega),if_neg (by omega),if_neg (by omega)]
  have etw:∀i,s'.tw i=s.tw i:=fun i=>by unfold St.tw;rw[a3 _ (by omega),if_neg (by omega),if_neg (by omega)]
  have htg:∀i x,x∈s.tg i→x∈s'.tg i:=by
   intro i x hx;rw[etg];split
   ·rename_i e;obtain⟨rfl,_⟩:=e;have:=h.bd _ _ hx;exact mem_uniS.2 ⟨by omega,.inl hx⟩
   ·exact hx
  have hTj:∀x,x∈T→x∈s'.tg j':=by
   intro x hx;rw[etg,if_pos ⟨rfl,fun e=>by rw[e]at hx;cases hx⟩];have:=(hTs x hx).1;exact mem_uniS.2 ⟨by omega,.inr hx⟩
  have hhr:∀i x,x∈s.hr i→x∈s'.hr i:=by
   intro i x hx;rw[ehr];split
   ·rename_i e;subst e;have:=h.bd _ _ hx;exact mem_addS.2 ⟨by omega,.inr hx⟩
   ·exact hx
  have hin:j'∈s'.hr f':=by rw[ehr,if_pos rfl];exact mem_addS.2 ⟨by omega,.inl rfl⟩
  have hnew:∀i x,x∈s'.tg i→x∈s.tg i∨s'.W i:=by
   intro i x hx;rw[etg]at hx;split at hx
   ·rename_i e;obtain⟨rfl,_⟩:=e;by_cases hxo:x∈s.tg i
    ·exact .inl hxo
    ·exact .inr ((a5 i).2 (.inr ⟨rfl,newS_iff.2 ⟨x,(mem_uniS.1 hx).2.resolve_left hxo,hxo⟩⟩))
   ·exact .inl hx
  have hWW:∀i,s.W i→s'.W i:=fun i hi=>(a5 i).2 (.inl hi)
  have m0:s'.nw+s'.mis n 0≤s.nw+s.mis n 0:=by
   cases hN:newS (s.tg j') T
   ·rw[hN]at a9;simp at a9;have:s'.mis n 0≤s.mis n 0:=St.mis_le (fun i _ hi=>⟨by rw[a1]at hi;exact hi,fun x hx=>htg i x hx⟩);omega
   ·rw[hN]at a9;simp at a9;obtain⟨x,hx,hxn⟩:=newS_iff.1 hN;have:s'.mis n 0<s.mis n 0:=St.mis_lt (fun i _ hi=>⟨by rw[a1]at hi;exact hi,fun x hx=>htg i x hx⟩) hj' (by rw[a1];exact hrj) (hTs x hx).1 hxn (hTj x hx);omega
  have m2:s'.mis n 2<s.mis n 2:=St.mis_lt (fun i _ hi=>⟨by rw[a1]at hi;exact hi,fun x hx=>hhr i x hx⟩) hf' (by rw[a1];exact hrf) hj' hnot hin;have md:=St.dn_eq (n:=n) a1;have mm:s'.mea n≤s.mea n:=by unfold St.mea;omega
  refine⟨?_,⟨a1,htg,hhr,eld,esr,ehd,hWW,hnew,mm⟩,?_,?_⟩
  ·refine h.grow a1 a2 ehd eld esr etw ?_ ?_ htg ?_ hhr ?_ hWW a6 ?_ a8 (fun i x _ hx hxo=>(hnew i x hx).resolve_left hxo) ?_
   ·intro k x hx;by_cases e:k=7*f'+6
    ·subst e;exact a4 x hx
    ·rw[a3 k e]at hx;split at hx
     ·rcases(mem_uniS.1 hx).2 with hx|hx
      ·exact h.bd _ _ hx
      ·exact(hTs x hx).1
     ·split at hx
      ·rcases(mem_addS.1 hx).2 with rfl|hx
       ·exact hj'
       ·exact h.bd _ _ hx
      ·exact h.bd _ _ hx
   ·intro i g hi hg;have hif:i≠f':=fun e=>hi (by rw[e];exact hrf)
    have hij:i≠j':=fun e=>hi (by rw[e];exact hrj)
    rw[a3 _ (by omega),if_neg (by omega),if_neg (by omega)];exact h.gone i g hi hg
   ·intro i x hx;rw[etg]at hx;split at hx
    ·rename_i e;obtain⟨rfl,_⟩:=e;rcases(mem_uniS.1 hx).2 with hx|hx
     ·exact h.tg _ _ hx
     ·exact(hTs x hx).2
    ·exact h.tg _ _ hx
   ·intro i y hy;rw[ehr]at hy;split at hy
    ·rename_i e;subst e;rcases(mem_addS.1 hy).2 with rfl|hy
     ·exact hS'
     ·exact h.hr _ _ hy
    ·exact h.hr _ _ hy
   ·intro i hi;rcases(a5 i).1 hi with hi|⟨rfl,_⟩
    ·exact h.wst i hi
    ·exact⟨hj',hrj⟩
   ·intro i x y hi hx hcond hy hyo;rw[ehr]at hy;split at hy
    ·rename_i e;subst e;have hyj:y=j':=(mem_addS.1 hy).2.resolve_right hyo;subst hyj;rw[hrj];refine hTj x ?_
     rw[hT];split
     ·rename_i hd;rw[if_pos hd]at hcond;exact hcond
     ·exact hx
    ·exact absurd hy hyo
  ·refine .inr ⟨j',?_,?_⟩
   ·rw[a1,ef];exact hin
   ·rw[a1,ej];exact hrj
  ·have:=Nat.mul_le_mul_left n mm;unfold St.pt;omega
end
section
def comb(f:Nat)(A B:List Nat):List Nat:=if f=1 then meetS A B else uniS A B
namespace St
theorem fuse_sum{s:St}{n i j:Nat}(hl:s.ss.length=7*n)(hi:i<n)(_hj:j<n)(hij:i≠j) :
  (s.fuse i j).ss.length=7*n∧(∀x f,f<7→(s.fuse i j).ss.getD (7*x+f) []=if x=i then comb f (s.ss.getD (7*i+f) []) (s.ss.getD (7*j+f) [])else s.ss.getD (7*x+f) []) ∧
  (s.fuse i j).rep=(fun n=>if s.rep n == j then i else s.rep n)∧(s.fuse i j).inside=s.inside∧(s.fuse i j).now=s.now∧(s.fuse i j).come=s.come∧(s.fuse i j).susp=s.susp∧(s.fuse i j).un=s.un:=by
 refine⟨by simp[fuse,put];exact hl,?_,rfl,rfl,rfl,rfl,rfl,rfl⟩;intro x f hf;obtain⟨s0,h0⟩:∃s0:St,s0={ s with rep:=fun n=>if s.rep n == j then i else s.rep n }:=⟨_,rfl⟩;obtain⟨s1,h1⟩:∃s1:St,s1=s0.put (7*i) (uniS (s0.tg i) (s0.tg j)):=⟨_,rfl⟩;obtain⟨s2,h2⟩:∃s1':St,s1'=s1.put (7*i+1) (meetS (s1.hd i) (s1.hd j)):=⟨_,rfl⟩;obtain⟨s3,h3⟩:∃s1':St,s1'=s2.put (7*i+2) (uniS (s2.hr i) (s2.hr j)):=⟨_,rfl⟩;obtain⟨s4,h4⟩:∃s1':St,s1'=s3.put (7*i+3) (uniS (s3.ld i) (s3.ld j)):=⟨_,rfl⟩;obtain⟨s5,h5⟩:∃s1':St,s1'=s4.put (7*i+4) (uniS (s4.sr i) (s4.sr j)):=⟨_,rfl⟩;obtain⟨s6,h6⟩:∃s1':St,s1'=s5.put (7*i+5) (uniS (s5.tw i) (s5.tw j)):=⟨_,rfl⟩;obtain⟨s7,h7⟩:∃s1':St,s1'=s6.put (7*i+6) (uniS (s6.tr i) (s6.tr j)):=⟨_,rfl⟩;have hk:s.fuse i j=s7:=by rw[h7,h6,h5,h4,h3,h2,h1,h0];rfl
 rw[hk];have l0:s0.ss=s.ss:=by rw[h0]
 have l1:s1.ss.length=7*n:=by rw[h1,put_len,l0];exact hl
 have l2:s2.ss.length=7*n:=by rw[h2,put_len];exact l1
 have l3:s3.ss.length=7*n:=by rw[h3,put_len];exact l2
 have l4:s4.ss.length=7*n:=by rw[h4,put_len];exact l3
 have l5:s5.ss.length=7*n:=by rw[h5,put_len];exact l4
 have l6:s6.ss.length=7*n:=by rw[h6,put_len];exact l5
 have g1:∀k,s1.ss.getD k []=if k=7*i then uniS (s.tg i) (s.tg j)else s.ss.getD k []:=fun k=>by rw[h1,put_get (by rw[l0];omega)];unfold tg;rw[l0]
 have a1i:s1.hd i=s.hd i:=by unfold hd;rw[g1,if_neg (by omega)]
 have a1j:s1.hd j=s.hd j:=by unfold hd;rw[g1,if_neg (by omega)]
 have g2:∀k,s2.ss.getD k []=if k=7*i+1 then meetS (s.hd i) (s.hd j)else s1.ss.getD k []:=fun k=>by rw[h2,put_get (by omega),a1i,a1j]
 have a2i:s2.hr i=s.hr i:=by unfold hr;rw[g2,if_neg (by omega),g1,if_neg (by omega)]
 have a2j:s2.hr j=s.hr j:=by unfold hr;rw[g2,if_neg (by omega),g1,if_neg (by omega)]
 have g3:∀k,s3.ss.getD k []=if k=7*i+2 then uniS (s.hr i) (s.hr j)else s2.ss.getD k []:=fun k=>by rw[h3,put_get (by omega),a2i,a2j]
 have a3i:s3.ld i=s.ld i:=by unfold ld;rw[g3,if_neg (by omega),g2,if_neg (by omega),g1,if_neg (by omega)]
 have a3j:s3.ld j=s.ld j:=by unfold ld;rw[g3,if_neg (by omega),g2,if_neg (by omega),g1,if_neg (by omega)]
 have g4:∀k,s4.ss.getD k []=if k=7*i+3 then uniS (s.ld i) (s.ld j)else s3.ss.getD k []:=fun k=>by rw[h4,put_get (by omega),a3i,a3j]
 have a4i:s4.sr i=s.sr i:=by unfold sr;rw[g4,if_neg (by omega),g3,if_neg (by omega),g2,if_neg (by omega),g1,if_neg (by omega)]
 have a4j:s4.sr j=s.sr j:=by unfold sr;rw[g4,if_neg (by omega),g3,if_neg (by omega),g2,if_neg (by omega),g1,if_neg (by omega)]
 have g5:∀k,s5.ss.getD k []=if k=7*i+4 then uniS (s.sr i) (s.sr j)else s4.ss.getD k []:=fun k=>by rw[h5,put_get (by omega),a4i,a4j]
 have a5i:s5.tw i=s.tw i:=by unfold tw;rw[g5,if_neg (by omega),g4,if_neg (by omega),g3,if_neg (by omega),g2,if_neg (by omega),g1,if_neg (by omega)]
 have a5j:s5.tw j=s.tw j:=by unfold tw;rw[g5,if_neg (by omega),g4,if_neg (by omega),g3,if_neg (by omega),g2,if_neg (by omega),g1,if_neg (by omega)]
 have g6:∀k,s6.ss.getD k []=if k=7*i+5 then uniS (s.tw i) (s.tw j)else s5.ss.getD k []:=fun k=>by rw[h6,put_get (by omega),a5i,a5j]
 have a6i:s6.tr i=s.tr i:=by unfold tr;rw[g6,if_neg (by omega),g5,if_neg (by omega),g4,if_neg (by omega),g3,if_neg (by omega),g2,if_neg (by omega),g1,if_neg (by omega)]
 have a6j:s6.tr j=s.tr j:=by unfold tr;rw[g6,if_neg (by omega),g5,if_neg (by omega),g4,if_neg (by omega),g3,if_neg (by omega),g2,if_neg (by omega),g1,if_neg (by omega)]
 have g7:∀k,s7.ss.getD k []=if k=7*i+6 then uniS (s.tr i) (s.tr j)else s6.ss.getD k []:=fun k=>by rw[h7,put_get (by omega),a6i,a6j]
 rw[g7,g6,g5,g4,g3,g2,g1];by_cases e:x=i
 ·subst e;rw[if_pos rfl];have:f=0∨f=1∨f=2∨f=3∨f=4∨f=5∨f=6:=by omega
  rcases this with rfl|rfl|rfl|rfl|rfl|rfl|rfl<;>simp[comb,tg,hd,hr,ld,sr,tw,tr]
 ·rw[if_neg e,if_neg (by omega),if_neg (by omega),if_neg (by omega),if_neg (by omega),if_neg (by omega),if_neg (by omega),if_neg (by omega)]
theorem clears{j:Nat}:∀(m:Nat) (s:St) (n:Nat),s.ss.length=7*n→j<n→m≤7 →
  ((List.range m).foldl (fun s k=>s.put (7*j+k) []) s).ss.length=7*n∧(∀k,((List.range m).foldl (fun s k=>s.put (7*j+k) []) s).ss.getD k []=if 7*j≤k∧k<7*j+m then []else s.ss.getD k []) ∧
  ((List.range m).foldl (fun s k=>s.put (7*j+k) []) s).rep=s.rep∧((List.range m).foldl (fun s k=>s.put (7*j+k) []) s).inside=s.inside∧((List.range m).foldl (fun s k=>s.put (7*j+k) []) s).now=s.now∧((List.range m).foldl (fun s k=>s.put (7*j+k) []) s).come=s.come ∧
  ((List.range m).foldl (fun s k=>s.put (7*j+k) []) s).susp=s.susp∧((List.range m).foldl (fun s k=>s.put (7*j+k) []) s).un=s.un:=by
 intro m;induction m with
 |zero=>
  intro s n hl _ _;exact⟨hl,fun k=>by rw[if_neg (by omega)];rfl,rfl,rfl,rfl,rfl,rfl,rfl⟩
 |succ m ih=>
  intro s n hl hj hm;obtain⟨a1,a2,a3,a4,a5,a6,a7,a8⟩:=ih s n hl hj (by omega);rw[List.range_succ,List.foldl_append];simp only[List.foldl_cons,List.foldl_nil];generalize (List.range m).foldl (fun s k=>s.put (7*j+k) []) s=t at *;refine⟨by rw[put_len];exact a1,fun k=>?_,a3,a4,a5,a6,a7,a8⟩;rw[put_get (by omega),a2];by_cases e:k=7*j+m
  ·rw[if_pos e,if_pos (by omega)]
  ·rw[if_neg e];by_cases e2:7*j≤k∧k<7*j+m
   ·rw[if_pos e2,if_pos (by omega)]
   ·rw[if_neg e2,if_neg (by omega)]
theorem clear_sum{s:St}{n j:Nat}(hl:s.ss.length=7*n)(hj:j<n) :
  (s.clear j).ss.length=7*n∧(∀x f,f<7→(s.clear j).ss.getD (7*x+f) []=if x=j then []else s.ss.getD (7*x+f) [])∧(s.clear j).rep=s.rep∧(s.clear j).inside=delS j s.inside∧(s.clear j).now=s.now.filter (· != j)∧(s.clear j).come=s.come.filter (· != j) ∧
  (s.clear j).susp=s.susp∧(s.clear j).un=s.un+1:=by
 obtain⟨a1,a2,a3,a4,a5,a6,a7,a8⟩:=clears (j:=j) 7 ({ s with un:=s.un+1 }:St) n hl hj (by omega);unfold clear drop;refine⟨a1,?_,a3,by show delS j _=_;rw[a4],by show List.filter _ _=_;rw[a5],by show List.filter _ _=_;rw[a6],a7,a8⟩;intro x f hf;show(List.foldl (fun(s:St) k=>s.put (7*j+k) []) _ (List.range 7)).ss.getD _ []=_;rw[a2];by_cases e:x=j
 ·rw[if_pos e,if_pos (by omega)]
 ·rw[if_neg e,if_neg (by omega)]
end St
theorem filter_ne_len(l:List Nat)(j:Nat):(l.filter (· != j)).length≤l.length:=List.length_filter_le _ _
theorem Inv.merge{fs:List (Int × Nat × Nat)}{n:Nat}{c:Way}{E:Nat→Prop}{s:St}(h:Inv fs n c E s){a b:Nat}(ha:a<n)(hb:b<n)(hS:∀t,PtN fs a t↔PtN fs b t) :
  Inv fs n c E (s.merge a b).2∧((s.merge a b).1=false→(s.merge a b).2=s)∧((s.merge a b).1=true→(s.merge a b).2.mea n+1≤s.mea n∧(s.merge a b).2.pt n+n≤s.pt n):=by
 have hn:=h.hn;unfold St.merge;by_cases hab:(s.rep a == s.rep b)=true
 ·rw[if_pos hab];exact⟨h,fun _=>rfl,fun e=>by cases e⟩
 ·rw[if_neg hab];simp only[Bool.true_eq_false,false_implies,true_and,forall_const];simp only[beq_iff_eq]at hab;have hS':∀t,PtN fs (s.rep a) t↔PtN fs (s.rep b) t:=fun t=>((h.same a t).trans (hS t)).trans (h.same b t).symm
  have ra:=h.repi a;have rb:=h.repi b;have la:=h.rlt ha;have lb:=h.rlt hb;obtain⟨i,ei⟩:∃i,i=min (s.rep a) (s.rep b):=⟨_,rfl⟩;obtain⟨j,ej⟩:∃j,j=max (s.rep a) (s.rep b):=⟨_,rfl⟩;rw[← ei,← ej];have hi:i<n:=by omega
  have hj:j<n:=by omega
  have hij:i<j:=by omega
  have ri:s.rep i=i:=by rcases(show i=s.rep a∨i=s.rep b by omega)with e|e<;>rw[e]<;>assumption
  have rj:s.rep j=j:=by rcases(show j=s.rep a∨j=s.rep b by omega)with e|e<;>rw[e]<;>assumption
  have hSij:∀t,PtN fs i t↔PtN fs j t:=by
   intro t;rcases(show(i=s.rep a∧j=s.rep b)∨(i=s.rep b∧j=s.rep a) by omega)with⟨e1,e2⟩|⟨e1,e2⟩<;>rw[e1,e2]
   ·exact hS' t
   ·exact(hS' t).symm
  clear ei ej ra rb la lb hS' hab;obtain⟨f1,f2,f3,f4,f5,f6,f7,f8⟩:=St.fuse_sum (s:=s) h.len hi hj (by omega);have fW:∀x,(s.fuse i j).W x↔s.W x:=fun x=>by unfold St.W;rw[f5,f6]
  have fnw:(s.fuse i j).nw=s.nw:=by unfold St.nw;rw[f5,f6]
  have fins:∀x,x∈(s.fuse i j).inside↔(s.fuse i j).W x:=fun x=>by rw[f4,fW];exact h.ins x
  have gW:∀x,((s.fuse i j).wait i).W x↔s.W x∨x=i:=fun x=>by rw[St.wait_W fins,fW]
  have gins:=St.wait_ins fins (n:=i) (by omega) (fun x hx=>h.w128 x ((fW x).1 hx));have gnw:=St.wait_nw (s.fuse i j) i;obtain⟨c1,c2,c3,c4,c5,c6,c7,c8⟩:=St.clear_sum (s:=(s.fuse i j).wait i) (j:=j) (by rw[St.wait_ss];exact f1) hj;have cW:∀x,(((s.fuse i j).wait i).clear j).W x↔(s.W x∨x=i)∧x≠j:=by
   intro x;have:=gW x;unfold St.W at this ⊢;rw[c5,c6];simp only[List.mem_filter,bne_iff_ne];constructor
   ·rintro(⟨h1,h2⟩|⟨h1,h2⟩)
    ·exact⟨this.1 (.inl h1),h2⟩
    ·exact⟨this.1 (.inr h1),h2⟩
   ·rintro⟨h1,h2⟩;rcases this.2 h1 with h1|h1
    ·exact .inl ⟨h1,h2⟩
    ·exact .inr ⟨h1,h2⟩
  have cins:∀x,x∈(((s.fuse i j).wait i).clear j).inside↔(((s.fuse i j).wait i).clear j).W x:=by
   intro x;rw[c4,cW,mem_delS,gins,gW];constructor
   ·rintro⟨_,h1,h2⟩;exact⟨h2,h1⟩
   ·rintro⟨h2,h1⟩;refine⟨?_,h1,h2⟩;rcases h2 with h2|rfl
    ·exact h.w128 x h2
    ·omega
  have cnw:(((s.fuse i j).wait i).clear j).nw≤s.nw+1:=by
   have h1:(((s.fuse i j).wait i).clear j).nw≤((s.fuse i j).wait i).nw:=by
    unfold St.nw;rw[c5,c6];have:=filter_ne_len ((s.fuse i j).wait i).now j;have:=filter_ne_len ((s.fuse i j).wait i).come j;omega
   omega
  rw[St.wait_rep,f3]at c3;rw[St.wait_susp,f7]at c7;rw[St.wait_un,f8]at c8;simp only[St.wait_ss]at c2;have eg:∀x f,f<7→(((s.fuse i j).wait i).clear j).ss.getD (7*x+f) []=if x=j then []else if x=i then comb f (s.ss.getD (7*i+f) []) (s.ss.getD (7*j+f) [])else s.ss.getD (7*x+f) []:=by
   intro x f hf;rw[c2 x f hf];by_cases e:x=j
   ·rw[if_pos e,if_pos e]
   ·rw[if_neg e,if_neg e,f2 x f hf]
  clear f1 f2 f3 f4 f5 f6 f7 f8 fW fnw fins gW gins gnw c2 c4 c5 c6;generalize ((s.fuse i j).wait i).clear j=s' at *;have hrep:∀x,s'.rep x=if s.rep x=j then i else s.rep x:=fun x=>by rw[c3];by_cases e:s.rep x=j<;>simp[e]
  have rle:∀x,s'.rep x≤s.rep x:=fun x=>by rw[hrep];split<;>omega
  have rstd:∀x,s'.rep x=x→s.rep x=x∧x≠j:=by
   intro x hx;rw[hrep]at hx;split at hx
   ·subst hx;exact⟨ri,by omega⟩
   ·rename_i hne;exact⟨hx,fun e=>hne (by rw[e];exact rj)⟩
  -- what was in a set of one is in that of who stands for it (but for what was handed on)
  have up:∀x f y,s.rep x=x→f<7→f≠1→y∈s.ss.getD (7*x+f) []→y∈s'.ss.getD (7*s'.rep x+f) []:=by
   intro x f y hx hf hf1 hy;have hyb:=h.bd _ _ hy;rw[hrep,hx];split
   ·rename_i e;subst e;rw[eg _ _ hf,if_neg (by omega),if_pos rfl];unfold comb;rw[if_neg hf1];exact mem_uniS.2 ⟨by omega,.inr hy⟩
   ·rename_i e;rw[eg _ _ hf,if_neg e];split
    ·rename_i e2;subst e2;unfold comb;rw[if_neg hf1];exact mem_uniS.2 ⟨by omega,.inl hy⟩
    ·exact hy
  have up':∀x f y,f<7→f≠1→y∈s.ss.getD (7*s.rep x+f) []→y∈s'.ss.getD (7*s'.rep x+f) []:=by
   intro x f y hf hf1 hy;have:=up (s.rep x) f y (h.repi x) hf hf1 hy;rwa [show s'.rep (s.rep x)=s'.rep x by rw[hrep,hrep,h.repi]]at this
  have cong:∀x y,s.rep x=s.rep y→s'.rep x=s'.rep y:=fun x y e=>by rw[hrep,hrep,e]
  have repi':∀x,s'.rep (s'.rep x)=s'.rep x:=by
   intro x;by_cases e:s.rep x=j
   ·have e1:s'.rep x=i:=by rw[hrep,if_pos e]
    rw[e1,hrep,ri,if_neg (by omega)]
   ·have e1:s'.rep x=s.rep x:=by rw[hrep,if_neg e]
    rw[e1,hrep,h.repi,if_neg e]
  have edge:∀t p,s.Edge t p→s'.Edge t p:=by
   rintro t p (e|⟨y,hy,e⟩)
   ·exact .inl (cong _ _ e)
   ·exact .inr ⟨y,up' t 2 y (by omega) (by omega) hy,cong _ _ e⟩
  -- where a set of s' comes from
  have dn:∀x f y,f<7→y∈s'.ss.getD (7*x+f) []→y∈s.ss.getD (7*x+f) []∨(x=i∧y∈s.ss.getD (7*j+f) []):=by
   intro x f y hf hy;rw[eg _ _ hf]at hy;split at hy
   ·cases hy
   ·split at hy
    ·rename_i e;subst e;unfold comb at hy;split at hy
     ·exact .inl (mem_meetS.1 hy).2.1
     ·rcases(mem_uniS.1 hy).2 with hy|hy
      ·exact .inl hy
      ·exact .inr ⟨rfl,hy⟩
    ·exact .inl hy
  have hWi:s'.W i:=(cW i).2 ⟨.inr rfl,by omega⟩;have inv:Inv fs n c E s':=by
   refine⟨h.hn,h.fsb,c1,fun x=>Nat.le_trans (rle x) (h.repl x),repi',?_,?_,?_,?_,?_,?_,?_,?_,?_,?_,?_,?_,?_,?_,cins,?_,by rw[c7];exact h.sus,?_,?_⟩
   ·intro x t;rw[hrep];split
    ·rename_i e;rw[hSij,← e];exact h.same x t
    ·exact h.same x t
   ·intro k x hx;have hk:k=7*(k / 7)+k % 7:=(Nat.div_add_mod k 7).symm;rw[hk]at hx;rcases dn _ _ _ (Nat.mod_lt _ (by omega)) hx with hx|⟨_,hx⟩<;>exact h.bd _ _ hx
   ·intro x f hx hf;rw[eg _ _ hf];split
    ·rfl
    ·rename_i e;have hxs:s.rep x≠x:=by
      intro e2;apply hx;rw[hrep,e2,if_neg e]
     rw[if_neg (fun e2=>hxs (by rw[e2];exact ri))];exact h.gone x f hxs hf
   ·intro x y hy;rcases dn x 0 y (by omega) hy with hy|⟨rfl,hy⟩
    ·exact h.tg _ _ hy
    ·exact(hSij y).2 (h.tg _ _ hy)
   ·intro x y hy;have hy:y∈s'.ss.getD (7*x+1) []:=hy;show y∈s'.ss.getD (7*x+0) [];rw[eg _ _ (by omega)]at hy ⊢;split at hy
    ·cases hy
    ·rename_i e;rw[if_neg e];split at hy
     ·rename_i e2;rw[if_pos e2];have hy:=mem_meetS.1 (show y∈meetS _ _ from hy);exact(mem_uniS.2 ⟨hy.1,.inl (h.hdt _ _ hy.2.1)⟩:y∈uniS _ _)
     ·rename_i e2;rw[if_neg e2];exact h.hdt _ _ hy
   ·intro hc x;show s'.ss.getD (7*x+1) []=[];rw[eg _ _ (by omega)];split
    ·rfl
    ·split
     ·have e1:=h.hdn hc i;unfold St.hd at e1;refine List.eq_nil_iff_forall_not_mem.2 (fun y hy=>?_);have hy:=mem_meetS.1 (show y∈meetS _ _ from hy);rw[e1]at hy;cases hy.2.1
     ·exact h.hdn hc x
   ·intro x y hy t ht;rcases dn x 2 y (by omega) hy with hy|⟨rfl,hy⟩
    ·exact h.hr _ _ hy t ht
    ·exact h.hr _ _ hy t ((hSij t).1 ht)
   ·intro x y hy z t hz ht;rcases dn x 3 y (by omega) hy with hy|⟨rfl,hy⟩
    ·exact h.ld _ _ hy z t hz ht
    ·exact h.ld _ _ hy z t ((hSij z).1 hz) ht
   ·intro x y hy z t hz ht;rcases dn x 4 y (by omega) hy with hy|⟨rfl,hy⟩
    ·exact h.sr _ _ hy z t hz ht
    ·exact h.sr _ _ hy z t ((hSij z).1 hz) ht
   ·intro x y hy z hz t;rcases dn x 5 y (by omega) hy with hy|⟨rfl,hy⟩
    ·exact h.tw _ _ hy z hz t
    ·exact h.tw _ _ hy z ((hSij z).1 hz) t
   ·intro p q hf;exact up' p 0 q (by omega) (by omega) (h.cA p q hf)
   ·intro p q hf;exact up' q 2 p (by omega) (by omega) (h.cC p q hf)
   ·intro p q hf;exact up' q 3 p (by omega) (by omega) (h.cL p q hf)
   ·intro p q hf;exact up' p 4 q (by omega) (by omega) (h.cS p q hf)
   ·intro x hx;obtain⟨h1,h2⟩:=(cW x).1 hx;rcases h1 with h1|rfl
    ·obtain⟨h3,h4⟩:=h.wst x h1;exact⟨h3,by rw[hrep,h4,if_neg h2]⟩
    ·exact⟨hi,by rw[hrep,ri,if_neg h2]⟩
   ·intro x hx hnx hc y hy;obtain⟨hx1,hx2⟩:=rstd x hx;by_cases e:x=i
    ·subst e;exact absurd (.inl hWi) hnx
    ·have hy:y∈s'.ss.getD (7*x+0) []:=hy;show y∈s'.ss.getD (7*x+1) [];rw[eg _ _ (by omega),if_neg hx2,if_neg e]at hy ⊢;refine h.all x hx1 (fun hw=>hnx ?_) hc y hy;exact hw.imp (fun hw=>(cW x).2 ⟨.inl hw,hx2⟩) id
   ·intro x y hx hy hcond;obtain⟨hx1,hx2⟩:=rstd x hx;by_cases e:x=i
    ·subst e;by_cases hc:c.deltas=true
     ·rw[if_pos hc]at hcond;have hm:y∈meetS (s.hd x) (s.hd j):=by
       have hcond:y∈s'.ss.getD (7*x+1) []:=hcond;rw[eg _ _ (by omega),if_neg hx2,if_pos rfl]at hcond;exact hcond
      obtain⟨_,hm1,hm2⟩:=mem_meetS.1 hm;obtain⟨p1,p2,p3⟩:=h.done x y ri (h.hdt _ _ hm1) (by rw[if_pos hc];exact hm1);obtain⟨q1,q2,q3⟩:=h.done j y rj (h.hdt _ _ hm2) (by rw[if_pos hc];exact hm2);refine⟨fun z hz=>?_,fun z hz=>?_,fun z hz=>?_⟩
      ·refine up' z 0 y (by omega) (by omega) ?_
       rcases dn x 2 z (by omega) hz with hz|⟨_,hz⟩
       ·exact p1 z hz
       ·exact q1 z hz
      ·refine edge _ _ ?_
       rcases dn x 3 z (by omega) hz with hz|⟨_,hz⟩
       ·exact p2 z hz
       ·exact q2 z hz
      ·refine edge _ _ ?_
       rcases dn x 4 z (by omega) hz with hz|⟨_,hz⟩
       ·exact p3 z hz
       ·exact q3 z hz
     ·rw[if_neg hc]at hcond;exact absurd (.inl hWi) hcond
    ·have es:∀f,f<7→s'.ss.getD (7*x+f) []=s.ss.getD (7*x+f) []:=fun f hf=>by rw[eg _ _ hf,if_neg hx2,if_neg e]
     have hcond':if c.deltas then y∈s.hd x else ¬(s.W x∨E x):=by
      split
      ·rename_i hc;rw[if_pos hc]at hcond;have hcond:y∈s'.ss.getD (7*x+1) []:=hcond;rw[es 1 (by omega)]at hcond;exact hcond
      ·rename_i hc;rw[if_neg hc]at hcond;exact fun hw=>hcond (hw.imp (fun hw=>(cW x).2 ⟨.inl hw,hx2⟩) id)
     have hy:y∈s'.ss.getD (7*x+0) []:=hy;rw[es 0 (by omega)]at hy;obtain⟨p1,p2,p3⟩:=h.done x y hx1 hy hcond';refine⟨fun z hz=>?_,fun z hz=>?_,fun z hz=>?_⟩
     ·have hz:z∈s'.ss.getD (7*x+2) []:=hz;rw[es 2 (by omega)]at hz;exact up' z 0 y (by omega) (by omega) (p1 z hz)
     ·have hz:z∈s'.ss.getD (7*x+3) []:=hz;rw[es 3 (by omega)]at hz;exact edge _ _ (p2 z hz)
     ·have hz:z∈s'.ss.getD (7*x+4) []:=hz;rw[es 4 (by omega)]at hz;exact edge _ _ (p3 z hz)
  have ms:∀f,f<7→f≠1→s'.mis n f≤s.mis n f:=by
   intro f hf hf1;refine St.mis_le fun x _ hx=>⟨(rstd x hx).1,fun y hy=>?_⟩
   have:=up x f y (rstd x hx).1 hf hf1 hy;rwa [hx]at this
  have m0:=ms 0 (by omega) (by omega);have m2:=ms 2 (by omega) (by omega);have md:s'.dn n<s.dn n:=by
   refine sumN_lt (fun x _=>?_) hj ?_
   ·show(if s'.rep x=x then 1 else 0)≤(if s.rep x=x then 1 else 0);by_cases e:s'.rep x=x
    ·rw[if_pos e,if_pos (rstd x e).1];omega
    ·rw[if_neg e];omega
   ·show(if s'.rep j=j then 1 else 0)<(if s.rep j=j then 1 else 0);rw[if_pos rj,if_neg (fun e=>(rstd j e).2 rfl)];omega
  have mm:s'.mea n+1≤s.mea n:=by unfold St.mea;omega
  refine⟨inv,mm,?_⟩;have:=Nat.mul_le_mul_left n mm;rw[Nat.mul_add,Nat.mul_one]at this;unfold St.pt;omega
end
section
def pushS(y:List Nat × List Nat)(t:Nat):List Nat × List Nat:=if y.1.contains t then y else(addS t y.1,y.2++[t])
theorem reachL_succ(next:Nat→List Nat)(k:Nat)(found rest:List Nat):reachL next (k+1) found rest=match rest.getLast? with
  |none=>some found
  |some x=>reachL next k ((next x).foldl pushS (found,rest.dropLast)).1 ((next x).foldl pushS (found,rest.dropLast)).2:=by
 rw[reachL];rfl
theorem push_inv{P:Nat→Prop}:∀(l:List Nat) (y:List Nat × List Nat),(∀x,x∈l→P x)→(∀x,x∈y.1→P x)→(∀x,x∈y.2→P x)→(∀x,x∈(l.foldl pushS y).1→P x)∧(∀x,x∈(l.foldl pushS y).2→P x):=by
 intro l;induction l with
 |nil=>exact fun y _ h1 h2=>⟨h1,h2⟩
 |cons a r ih=>
  intro y hl h1 h2;rw[List.foldl_cons];refine ih _ (fun x hx=>hl x (List.mem_cons_of_mem _ hx)) ?_ ?_
  ·unfold pushS;split
   ·exact h1
   ·intro x hx;rcases(mem_addS.1 hx).2 with rfl|hx
    ·exact hl _ List.mem_cons_self
    ·exact h1 x hx
  ·unfold pushS;split
   ·exact h2
   ·intro x hx;rcases List.mem_append.1 hx with hx|hx
    ·exact h2 x hx
    ·rw[List.mem_singleton.1 hx];exact hl _ List.mem_cons_self
theorem reachL_inv{next:Nat→List Nat}{P:Nat→Prop}(hP:∀x y,P x→y∈next x→P y):∀(k:Nat) (found rest r:List Nat),reachL next k found rest=some r→(∀x,x∈found→P x)→(∀x,x∈rest→P x)→∀x,x∈r→P x:=by
 intro k;induction k with
 |zero=>intro found rest r h;cases h
 |succ k ih=>
  intro found rest r h h1 h2;rw[reachL_succ]at h;cases hl:rest.getLast? with
  |none=>
   rw[hl]at h;injection h with h;rw[← h];exact h1
  |some a=>
   rw[hl]at h;have ha:P a:=h2 a (List.mem_of_getLast? hl);have hd:∀x,x∈rest.dropLast→P x:=fun x hx=>h2 x ((List.dropLast_sublist rest).subset hx)
   obtain⟨p1,p2⟩:=push_inv (P:=P) (next a) (found,rest.dropLast) (fun x hx=>hP a x ha hx) h1 hd;exact ih _ _ _ h p1 p2
theorem reached_inv{next:Nat→List Nat}{P:Nat→Prop}{k start:Nat}{r:List Nat}(h:reached k start next=some r)(h0:P start)(hP:∀x y,P x→y∈next x→P y):∀x,x∈r→P x:=by
 refine reachL_inv hP k _ _ r h ?_ ?_
 ·intro x hx;rcases(mem_addS.1 hx).2 with rfl|hx
  ·exact h0
  ·cases hx
 ·intro x hx;rw[List.mem_singleton.1 hx];exact h0
theorem around_same{next:Nat→List Nat}{V:Nat→Nat→Prop}(mono:∀x y,y∈next x→∀t,V x t→V y t){k start:Nat}{l:List Nat}(h:around k start next=some l):∀y,y∈l→∀t,V y t↔V start t:=by
 unfold around at h;cases ha:reached k start next with
 |none=>rw[ha]at h;cases h
 |some ahead=>
  rw[ha]at h;have h1:∀x,x∈ahead→∀t,V start t→V x t:=reached_inv (P:=fun x=>∀t,V start t→V x t) ha (fun _ ht=>ht) (fun x y hx hy t ht=>mono x y hy t (hx t ht));have h2:∀x,x∈l→(∀t,V x t→V start t)∧(∀t,V start t→V x t):=by
   refine reached_inv (P:=fun x=>(∀t,V x t→V start t)∧(∀t,V start t→V x t)) (show reached k start (backOf ahead next)=some l from h) ⟨fun _ ht=>ht,fun _ ht=>ht⟩ ?_
   intro x y hx hy;have hy:=mem_mkS.1 hy;simp only[Bool.and_eq_true,List.contains_iff_mem]at hy;exact⟨fun t ht=>hx.1 t (mono y x hy.2.2 t ht),h1 y hy.2.1⟩
  exact fun y hy t=>⟨(h2 y hy).1 t,(h2 y hy).2 t⟩
theorem around_bd{next:Nat→List Nat}{P:Nat→Prop}{k start:Nat}{l:List Nat}(h:around k start next=some l)(h0:P start)(hP:∀x y,y∈next x→P y):∀y,y∈l→P y:=by
 unfold around at h;cases ha:reached k start next with
 |none=>rw[ha]at h;cases h
 |some ahead=>
  rw[ha]at h;have h1:∀x,x∈ahead→P x:=reached_inv ha h0 (fun x y _ hy=>hP x y hy);refine reached_inv (P:=P) (show reached k start (backOf ahead next)=some l from h) h0 (fun x y _ hy=>?_);have hy:=mem_mkS.1 hy;simp only[Bool.and_eq_true,List.contains_iff_mem]at hy;exact h1 y hy.2.1
theorem push_len:∀(l:List Nat) (y:List Nat × List Nat),(∀x,x∈l→x<128)→(128-cnt 128 (l.foldl pushS y).1)+(l.foldl pushS y).2.length≤(128-cnt 128 y.1)+y.2.length:=by
 intro l;induction l with
 |nil=>exact fun y _=>Nat.le_refl _
 |cons a r ih=>
  intro y hl;rw[List.foldl_cons];refine Nat.le_trans (ih _ (fun x hx=>hl x (List.mem_cons_of_mem _ hx))) ?_
  unfold pushS;split
  ·exact Nat.le_refl _
  ·rename_i hc;have ha:=hl a List.mem_cons_self;have h1:cnt 128 y.1<cnt 128 (addS a y.1)∨∃x,x∈y.1∧¬x<128:=by
    by_cases hb:∀x,x∈y.1→x<128
    ·exact .inl (cnt_lt (fun x hx=>mem_addS.2 ⟨hb x hx,.inr hx⟩) ha (by simpa using hc) (mem_addS.2 ⟨ha,.inl rfl⟩))
    ·simp only[Classical.not_forall]at hb;obtain⟨x,hx,hx'⟩:=hb;exact .inr ⟨x,hx,hx'⟩
   have h2:cnt 128 y.1<cnt 128 (addS a y.1):=by
    refine filter_len_lt _ _ _ (fun x hx hy=>?_) (a:=a) (by simpa using ha) (by simpa using hc) (by simpa using mem_addS.2 ⟨ha,.inl rfl⟩);have hx:x<128:=by simpa using hx
    simpa using mem_addS.2 ⟨hx,.inr (by simpa using hy)⟩
   have:=acnt_le 128 (addS a y.1);simp;omega
theorem reachL_ends{next:Nat→List Nat}(hb:∀x y,y∈next x→y<128):∀(k:Nat) (found rest:List Nat),(128-cnt 128 found)+rest.length<k→∃r,reachL next k found rest=some r:=by
 intro k;induction k with
 |zero=>intro _ _ h;omega
 |succ k ih=>
  intro found rest h;rw[reachL_succ];cases hl:rest.getLast? with
  |none=>exact⟨_,rfl⟩
  |some a=>
   have hne:rest≠[]:=fun e=>by rw[e]at hl;cases hl
   have hlen:0<rest.length:=List.length_pos_iff.2 hne;have:=push_len (next a) (found,rest.dropLast) (fun x hx=>hb a x hx);simp only[List.length_dropLast]at this;exact ih _ _ (by omega)
theorem reached_ends{next:Nat→List Nat}(hb:∀x y,y∈next x→y<128){k:Nat}(hk:130≤k)(start:Nat):∃r,reached k start next=some r:=by
 unfold reached;exact reachL_ends hb k _ _ (by simp;omega)
theorem around_ends{next:Nat→List Nat}(hb:∀x y,y∈next x→y<128){k:Nat}(hk:130≤k)(start:Nat):∃r,around k start next=some r:=by
 unfold around;obtain⟨r,hr⟩:=reached_ends hb hk start;rw[hr];exact reached_ends (fun x y hy=>(mem_mkS.1 hy).1) hk start
theorem mem_standing{s:St}:∀ {l:List Nat} {y:Nat},y∈s.standing l↔y<128∧∃x,x∈l∧s.rep x=y:=by
 intro l y;have key:∀(l:List Nat) (f:List Nat),y∈l.foldl (fun f n=>addS (s.rep n) f) f↔(y∈f∧(l=[]∨y<128))∨(y<128∧∃x,x∈l∧s.rep x=y):=by
  intro l;induction l with
  |nil=>intro f;simp
  |cons a r ih=>
   intro f;rw[List.foldl_cons,ih,mem_addS];constructor
   ·rintro(⟨⟨h1,h2⟩,h3⟩|⟨h1,x,hx,e⟩)
    ·rcases h2 with rfl|h2
     ·exact .inr ⟨h1,a,List.mem_cons_self,rfl⟩
     ·exact .inl ⟨h2,.inr h1⟩
    ·exact .inr ⟨h1,x,List.mem_cons_of_mem _ hx,e⟩
   ·rintro(⟨h1,h2⟩|⟨h1,x,hx,e⟩)
    ·rcases h2 with h2|h2
     ·cases h2
     ·exact .inl ⟨⟨h2,.inr h1⟩,.inr h2⟩
    ·rcases List.mem_cons.1 hx with rfl|hx
     ·exact .inl ⟨⟨h1,.inl e.symm⟩,.inr h1⟩
     ·exact .inr ⟨h1,x,hx,e⟩
 unfold St.standing;rw[key];simp
theorem mem_heirsOf{s:St}{n y:Nat}:y∈s.heirsOf n↔y<128∧y≠n∧∃x,x∈s.hr n∧s.rep x=y:=by
 unfold St.heirsOf;rw[mem_delS,mem_standing];constructor
 ·rintro⟨h1,h2,h3⟩;exact⟨h1,h2,h3.2⟩
 ·rintro⟨h1,h2,h3⟩;exact⟨h1,h2,h1,h3⟩
theorem Inv.standing_lt{fs:List (Int × Nat × Nat)}{n:Nat}{c:Way}{E:Nat→Prop}{s:St}(h:Inv fs n c E s){k y:Nat}(hy:y∈s.standing (s.ss.getD k [])):y<n∧s.rep y=y:=by
 obtain⟨_,x,hx,rfl⟩:=mem_standing.1 hy;exact⟨h.rlt (h.bd _ _ hx),h.repi x⟩
theorem Inv.heirs_lt{fs:List (Int × Nat × Nat)}{n:Nat}{c:Way}{E:Nat→Prop}{s:St}(h:Inv fs n c E s){k y:Nat}(hy:y∈s.heirsOf k):y<n∧s.rep y=y∧∀t,PtN fs k t→PtN fs y t:=by
 obtain⟨_,_,x,hx,rfl⟩:=mem_heirsOf.1 hy;exact⟨h.rlt (h.bd _ _ hx),h.repi x,fun t ht=>(h.same x t).2 (h.hr _ _ hx t ht)⟩
end
section
theorem Inv.mergeAll{fs:List (Int × Nat × Nat)}{n:Nat}{c:Way}{E:Nat→Prop}{s:St}(h:Inv fs n c E s){a:Nat}(ha:a<n){l:List Nat}(hl:∀b,b∈l→b<n∧∀t,PtN fs a t↔PtN fs b t) :
  Inv fs n c E (s.mergeAll a l).2∧((s.mergeAll a l).1=false→(s.mergeAll a l).2=s)∧(s.mergeAll a l).2.mea n+(if(s.mergeAll a l).1 then 1 else 0)≤s.mea n∧(s.mergeAll a l).2.pt n+(if(s.mergeAll a l).1 then n else 0)≤s.pt n:=by
 have key:∀(l:List Nat),(∀b,b∈l→b<n∧∀t,PtN fs a t↔PtN fs b t)→∀(x:Bool × St),Inv fs n c E x.2→(x.1=false→x.2=s)→x.2.mea n+(if x.1 then 1 else 0)≤s.mea n→x.2.pt n+(if x.1 then n else 0)≤s.pt n →
   let z:=l.foldl (fun x b=>let y:=x.2.merge a b;(y.1 || x.1,y.2)) x
   Inv fs n c E z.2∧(z.1=false→z.2=s)∧z.2.mea n+(if z.1 then 1 else 0)≤s.mea n∧z.2.pt n+(if z.1 then n else 0)≤s.pt n:=by
  intro l;induction l with
  |nil=>exact fun _ x h1 h2 h3 h4=>⟨h1,h2,h3,h4⟩
  |cons b r ih=>
   intro hl x h1 h2 h3 h4;obtain⟨p1,p2⟩:=hl b List.mem_cons_self;obtain⟨q1,q2,q3⟩:=h1.merge ha p1 p2;refine ih (fun b hb=>hl b (List.mem_cons_of_mem _ hb)) _ q1 ?_ ?_ ?_
   ·intro e;have e:((x.2.merge a b).1 || x.1)=false:=e;rw[Bool.or_eq_false_iff]at e;show(x.2.merge a b).2=s;rw[q2 e.1];exact h2 e.2
   ·show(x.2.merge a b).2.mea n+(if((x.2.merge a b).1 || x.1)=true then 1 else 0)≤_;cases hm:(x.2.merge a b).1
    ·rw[q2 hm];simpa using h3
    ·have:=(q3 hm).1;simp;split at h3<;>omega
   ·show(x.2.merge a b).2.pt n+(if((x.2.merge a b).1 || x.1)=true then n else 0)≤_;cases hm:(x.2.merge a b).1
    ·rw[q2 hm];simpa using h4
    ·have:=(q3 hm).2;simp;split at h4<;>omega
 exact key l hl (false,s) h (fun _=>rfl) (by simp) (by simp)
theorem Inv.collapse{fs:List (Int × Nat × Nat)}{n:Nat}{c:Way}{E:Nat→Prop}{s:St}(h:Inv fs n c E s){a:Nat}{T:List Nat}(hT:∀t,t∈T→t<n∧PtN fs a t) :
  Inv fs n c E (s.collapse a T).2∧((s.collapse a T).1=false→(s.collapse a T).2=s)∧(s.collapse a T).2.mea n+(if(s.collapse a T).1 then 1 else 0)≤s.mea n∧(s.collapse a T).2.pt n+(if(s.collapse a T).1 then n else 0)≤s.pt n:=by
 have htw:∀u,u∈s.tw a→u<n∧∀x,PtN fs a x→∀t,PtN fs x t↔PtN fs u t:=fun u hu=>⟨h.bd _ _ hu,h.tw a u hu⟩
 unfold St.collapse;generalize s.tw a=tw at htw;have key:∀(l:List Nat),(∀t,t∈l→t<n∧PtN fs a t)→∀(x:Bool × St),Inv fs n c E x.2→(x.1=false→x.2=s)→x.2.mea n+(if x.1 then 1 else 0)≤s.mea n→x.2.pt n+(if x.1 then n else 0)≤s.pt n →
   let z:=l.foldl (fun x t=>let y:=x.2.mergeAll t tw;(y.1 || x.1,y.2)) x
   Inv fs n c E z.2∧(z.1=false→z.2=s)∧z.2.mea n+(if z.1 then 1 else 0)≤s.mea n∧z.2.pt n+(if z.1 then n else 0)≤s.pt n:=by
  intro l;induction l with
  |nil=>exact fun _ x h1 h2 h3 h4=>⟨h1,h2,h3,h4⟩
  |cons b r ih=>
   intro hl x h1 h2 h3 h4;obtain⟨p1,p2⟩:=hl b List.mem_cons_self;obtain⟨q1,q2,q3,q4⟩:=h1.mergeAll p1 (l:=tw) (fun u hu=>⟨(htw u hu).1,(htw u hu).2 b p2⟩);refine ih (fun b hb=>hl b (List.mem_cons_of_mem _ hb)) _ q1 ?_ ?_ ?_
   ·intro e;have e:((x.2.mergeAll b tw).1 || x.1)=false:=e;rw[Bool.or_eq_false_iff]at e;show(x.2.mergeAll b tw).2=s;rw[q2 e.1];exact h2 e.2
   ·show(x.2.mergeAll b tw).2.mea n+(if((x.2.mergeAll b tw).1 || x.1)=true then 1 else 0)≤_;cases hm:(x.2.mergeAll b tw).1
    ·rw[q2 hm];simpa using h3
    ·rw[hm]at q3;simp at q3 ⊢;split at h3<;>omega
   ·show(x.2.mergeAll b tw).2.pt n+(if((x.2.mergeAll b tw).1 || x.1)=true then n else 0)≤_;cases hm:(x.2.mergeAll b tw).1
    ·rw[q2 hm];simpa using h4
    ·rw[hm]at q4;simp at q4 ⊢;split at h4<;>omega
 exact key T hT (false,s) h (fun _=>rfl) (by simp) (by simp)
theorem Inv.linkL{fs:List (Int × Nat × Nat)}{n:Nat}{c:Way}{E:Nat→Prop}:∀(l:List (Nat × Nat)) {s:St},Inv fs n c E s→(∀e,e∈l→e.1<n∧e.2<n∧∀t,PtN fs e.1 t→PtN fs e.2 t) →
  Inv fs n c E (l.foldl (fun s e=>s.link c e.1 e.2) s)∧More n s (l.foldl (fun s e=>s.link c e.1 e.2) s)∧(∀e,e∈l→(l.foldl (fun s e=>s.link c e.1 e.2) s).Edge e.1 e.2)∧(l.foldl (fun s e=>s.link c e.1 e.2) s).pt n≤s.pt n:=by
 intro l;induction l with
 |nil=>exact fun h _=>⟨h,More.refl _ _,fun e he=>(by cases he),Nat.le_refl _⟩
 |cons a r ih=>
  intro s h hl;obtain⟨a1,a2,a3⟩:=hl a List.mem_cons_self;obtain⟨p1,p2,p3,p4⟩:=h.link a1 a2 a3;obtain⟨q1,q2,q3,q4⟩:=ih p1 (fun e he=>hl e (List.mem_cons_of_mem _ he));refine⟨q1,p2.trans q2,fun e he=>?_,Nat.le_trans q4 p4⟩;rcases List.mem_cons.1 he with rfl|he
  ·exact q2.edge p3
  ·exact q3 e he
theorem Inv.links{fs:List (Int × Nat × Nat)}{n:Nat}{c:Way}{E:Nat→Prop}{s:St}(h:Inv fs n c E s){a t:Nat}(ht:t<n)(hat:PtN fs a t) :
  Inv fs n c E (s.links c a t)∧More n s (s.links c a t)∧(∀p,p∈s.ld a→(s.links c a t).Edge t p)∧(∀q,q∈s.sr a→(s.links c a t).Edge q t)∧(s.links c a t).pt n≤s.pt n:=by
 have e1:∀(l:List Nat) (s:St),l.foldl (fun s p=>s.link c t p) s=(l.map fun p=>(t,p)).foldl (fun s e=>s.link c e.1 e.2) s:=fun l s=>by rw[List.foldl_map]
 have e2:∀(l:List Nat) (s:St),l.foldl (fun s q=>s.link c q t) s=(l.map fun q=>(q,t)).foldl (fun s e=>s.link c e.1 e.2) s:=fun l s=>by rw[List.foldl_map]
 unfold St.links;simp only[];rw[e1,e2];obtain⟨p1,p2,p3,p4⟩:=h.linkL ((s.ld a).map fun p=>(t,p)) (fun e he=>by
  obtain⟨p,hp,rfl⟩:=List.mem_map.1 he;exact⟨ht,h.bd _ _ hp,fun x hx=>h.ld a p hp t x hat hx⟩)
 generalize ((s.ld a).map fun p=>(t,p)).foldl (fun s e=>s.link c e.1 e.2) s=s1 at *;obtain⟨q1,q2,q3,q4⟩:=p1.linkL ((s1.sr a).map fun q=>(q,t)) (fun e he=>by
  obtain⟨q,hq,rfl⟩:=List.mem_map.1 he;exact⟨p1.bd _ _ hq,ht,fun x hx=>p1.sr a q hq t x hat hx⟩)
 generalize ((s1.sr a).map fun q=>(q,t)).foldl (fun s e=>s.link c e.1 e.2) s1=s2 at *;refine⟨q1,p2.trans q2,fun p hp=>q2.edge (p3 (t,p) (List.mem_map.2 ⟨p,hp,rfl⟩)),fun q hq=>q3 (q,t) (List.mem_map.2 ⟨q,by rw[p2.sr];exact hq,rfl⟩),Nat.le_trans q4 p4⟩
theorem Inv.linksL{fs:List (Int × Nat × Nat)}{n:Nat}{c:Way}{E:Nat→Prop}{a:Nat}:∀(l:List Nat) {s:St},Inv fs n c E s→(∀t,t∈l→t<n∧PtN fs a t) →
  Inv fs n c E (l.foldl (fun s t=>s.links c a t) s)∧More n s (l.foldl (fun s t=>s.links c a t) s)∧(∀t,t∈l→(∀p,p∈s.ld a→(l.foldl (fun s t=>s.links c a t) s).Edge t p)∧(∀q,q∈s.sr a→(l.foldl (fun s t=>s.links c a t) s).Edge q t))∧(l.foldl (fun s t=>s.links c a t) s).pt n≤s.pt n:=by
 intro l;induction l with
 |nil=>exact fun h _=>⟨h,More.refl _ _,fun t ht=>(by cases ht),Nat.le_refl _⟩
 |cons b r ih=>
  intro s h hl;obtain⟨a1,a2⟩:=hl b List.mem_cons_self;obtain⟨p1,p2,p3,p4,p5⟩:=h.links (c:=c) a1 a2;obtain⟨q1,q2,q3,q4⟩:=ih p1 (fun t ht=>hl t (List.mem_cons_of_mem _ ht));refine⟨q1,p2.trans q2,fun t ht=>?_,Nat.le_trans q4 p5⟩;rcases List.mem_cons.1 ht with rfl|ht
  ·exact⟨fun p hp=>q2.edge (p3 p hp),fun q hq=>q2.edge (p4 q hq)⟩
  ·have:=q3 t ht;rw[p2.ld,p2.sr]at this;exact this
theorem Inv.handL{fs:List (Int × Nat × Nat)}{n:Nat}{c:Way}{E:Nat→Prop}{a:Nat}{T:List Nat}:∀(l:List Nat) {s:St},Inv fs n c E s→a<n→s.rep a=a→(∀t,t∈T→t<n∧PtN fs a t)→(∀j,j∈l→j<n∧s.rep j=j∧∀t,PtN fs a t→PtN fs j t) →
  Inv fs n c E (l.foldl (fun s j=>s.hand c T a j) s)∧More n s (l.foldl (fun s j=>s.hand c T a j) s)∧(∀i,(l.foldl (fun s j=>s.hand c T a j) s).hr i=s.hr i)∧(∀j,j∈l→∀x,x∈T→x∈(l.foldl (fun s j=>s.hand c T a j) s).tg j)∧(l.foldl (fun s j=>s.hand c T a j) s).pt n≤s.pt n+l.length:=by
 intro l;induction l with
 |nil=>exact fun h _ _ _ _=>⟨h,More.refl _ _,fun _=>rfl,fun t ht=>(by cases ht),Nat.le_refl _⟩
 |cons b r ih=>
  intro s h ha hra hT hl;obtain⟨b1,b2,b3⟩:=hl b List.mem_cons_self;obtain⟨p1,p2,p3,p4⟩:=h.hand' (c:=c) (T:=T) ha b1 hra b2 (fun x hx=>⟨(hT x hx).1,b3 x (hT x hx).2⟩);have p5:=(h.hand (c:=c) (T:=T) ha b1 hra b2 (fun x hx=>⟨(hT x hx).1,b3 x (hT x hx).2⟩)).2.2.2.2.1;obtain⟨q1,q2,q3,q4,q5⟩:=ih p1 ha (by rw[p2.rep];exact hra) hT (fun j hj=>by rw[p2.rep];exact hl j (List.mem_cons_of_mem _ hj));refine⟨q1,p2.trans q2,fun i=>(q3 i).trans (p5 i),fun j hj x hx=>?_,?_⟩
  ·rcases List.mem_cons.1 hj with rfl|hj
   ·exact q2.tg _ _ (p3 x hx)
   ·exact q4 j hj x hx
  ·simp only[List.length_cons,List.foldl_cons];omega
end
section
theorem mkS_len{p:Nat→Bool}{n:Nat}(h:∀k,k∈mkS p→k<n):(mkS p).length≤n:=by
 have key:∀m,(∀k,k∈(List.range m).filter p→k<n)→((List.range m).filter p).length≤n∧((List.range m).filter p).length≤m:=by
  intro m;induction m with
  |zero=>intro _;simp
  |succ m ih=>
   intro hm;rw[List.range_succ,List.filter_append]at hm ⊢;obtain⟨i1,i2⟩:=ih (fun k hk=>hm k (List.mem_append.2 (.inl hk)));cases hp:p m
   ·simp[List.filter,hp];omega
   ·have:=hm m (List.mem_append.2 (.inr (by simp[List.filter,hp])));simp[List.filter,hp];omega
 exact(key 128 h).1
theorem Inv.unexempt{fs:List (Int × Nat × Nat)}{n:Nat}{c:Way}{a:Nat}{s:St}(h:Inv fs n c (·=a) s)(h1:s.rep a=a→¬s.W a→∀x,x∈s.tg a→(c.deltas=true→x∈s.hd a)∧(c.deltas=false→(∀j,j∈s.hr a→x∈s.tg (s.rep j))∧(∀p,p∈s.ld a→s.Edge x p)∧(∀q,q∈s.sr a→s.Edge q x))):Inv fs n c (fun _=>False) s:=by
 refine { h with all:=?_,done:=?_ }
 ·intro i hi hx hc x hxt;by_cases e:i=a
  ·subst e;exact(h1 hi (fun hw=>hx (.inl hw)) x hxt).1 hc
  ·exact h.all i hi (fun hw=>hx (.inl (hw.resolve_right e))) hc x hxt
 ·intro i x hi hxt hcond;by_cases hc:c.deltas=true
  ·rw[if_pos hc]at hcond;exact h.done i x hi hxt (by rw[if_pos hc];exact hcond)
  ·rw[if_neg hc]at hcond;by_cases e:i=a
   ·subst e;exact(h1 hi (fun hw=>hcond (.inl hw)) x hxt).2 (by simpa using hc)
   ·exact h.done i x hi hxt (by rw[if_neg hc];exact fun hw=>hcond (.inl (hw.resolve_right e)))
theorem Inv.putHd{fs:List (Int × Nat × Nat)}{n:Nat}{c:Way}{a:Nat}{s:St}(h:Inv fs n c (·=a) s)(hc:c.deltas=true)(ha:a<n)(hra:s.rep a=a){F:List Nat}(hF:∀x,x∈F→x∈s.tg a∧(∀j,j∈s.hr a→x∈s.tg (s.rep j))∧(∀p,p∈s.ld a→s.Edge x p)∧(∀q,q∈s.sr a→s.Edge q x))
  (hall:¬s.W a→∀x,x∈s.tg a→x∈s.hd a∨x∈F):Inv fs n c (fun _=>False) (s.put (7*a+1) (uniS (s.hd a) F)):=by
 have hn:=h.hn;have e:∀k,(s.put (7*a+1) (uniS (s.hd a) F)).ss.getD k []=if k=7*a+1 then uniS (s.hd a) F else s.ss.getD k []:=fun k=>St.put_get (by rw[h.len];omega) k
 generalize hs':s.put (7*a+1) (uniS (s.hd a) F)=s' at e;have hrep:s'.rep=s.rep:=by rw[← hs'];rfl
 have hW:∀i,s'.W i↔s.W i:=by rw[← hs'];exact fun _=>Iff.rfl
 have etg:∀i,s'.tg i=s.tg i:=fun i=>by unfold St.tg;rw[e,if_neg (by omega)]
 have ehr:∀i,s'.hr i=s.hr i:=fun i=>by unfold St.hr;rw[e,if_neg (by omega)]
 have eld:∀i,s'.ld i=s.ld i:=fun i=>by unfold St.ld;rw[e,if_neg (by omega)]
 have esr:∀i,s'.sr i=s.sr i:=fun i=>by unfold St.sr;rw[e,if_neg (by omega)]
 have etw:∀i,s'.tw i=s.tw i:=fun i=>by unfold St.tw;rw[e,if_neg (by omega)]
 have ehd:∀i,s'.hd i=if i=a then uniS (s.hd a) F else s.hd i:=by
  intro i;unfold St.hd;rw[e];by_cases e2:i=a
  ·subst e2;rw[if_pos rfl,if_pos rfl];rfl
  ·rw[if_neg (by omega),if_neg e2]
 have edge:∀t p,s.Edge t p→s'.Edge t p:=by
  intro t p he;unfold St.Edge at he ⊢;rw[hrep,ehr];exact he
 refine⟨h.hn,h.fsb,(by rw[← hs',St.put_len];exact h.len),(by rw[hrep];exact h.repl),(by rw[hrep];exact h.repi),(by rw[hrep];exact h.same),?_,?_,(by intro i;rw[etg];exact h.tg i),?_,(fun hc'=>absurd hc' (by rw[hc];simp)),(by intro i;rw[ehr];exact h.hr i),(by intro i;rw[eld];exact h.ld i),(by intro i;rw[esr];exact h.sr i),(by intro i;rw[etw];exact h.tw i),
  (by intro p q hf;rw[hrep,etg];exact h.cA p q hf),(by intro p q hf;rw[hrep,ehr];exact h.cC p q hf),(by intro p q hf;rw[hrep,eld];exact h.cL p q hf),(by intro p q hf;rw[hrep,esr];exact h.cS p q hf),?_,?_,?_,?_,?_⟩
 ·intro k x hx;rw[e]at hx;split at hx
  ·rcases(mem_uniS.1 hx).2 with hx|hx
   ·exact h.bd _ _ hx
   ·exact h.bd _ _ (hF x hx).1
  ·exact h.bd _ _ hx
 ·intro i f hi hf;rw[hrep]at hi;have hia:i≠a:=fun e2=>hi (by rw[e2];exact hra)
  rw[e,if_neg (by omega)];exact h.gone i f hi hf
 ·intro i x hx;rw[ehd]at hx;rw[etg];split at hx
  ·rename_i e2;subst e2;rcases(mem_uniS.1 hx).2 with hx|hx
   ·exact h.hdt _ _ hx
   ·exact(hF x hx).1
  ·exact h.hdt _ _ hx
 ·intro i;rw[hW,← hs'];exact h.ins i
 ·intro i hi;rw[hrep];exact h.wst i ((hW i).1 hi)
 ·rw[← hs'];exact h.sus
 ·intro i hi hx _ x hxt;rw[hrep]at hi;rw[etg]at hxt;rw[ehd];split
  ·rename_i e2;subst e2;have hxb:=h.bd _ _ hxt;exact mem_uniS.2 ⟨by omega,hall (fun hw=>hx (.inl ((hW i).2 hw))) x hxt⟩
  ·rename_i e2;exact h.all i hi (fun hw=>hx (.inl ((hW i).2 (hw.resolve_right e2)))) hc x hxt
 ·intro i x hi hxt hcond;rw[hrep]at hi;rw[etg]at hxt;rw[if_pos hc,ehd]at hcond;have key:(∀j,j∈s.hr i→x∈s.tg (s.rep j))∧(∀p,p∈s.ld i→s.Edge x p)∧(∀q,q∈s.sr i→s.Edge q x):=by
   split at hcond
   ·rename_i e2;subst e2;rcases(mem_uniS.1 hcond).2 with hx|hx
    ·exact h.done i x hi hxt (by rw[if_pos hc];exact hx)
    ·exact(hF x hx).2
   ·exact h.done i x hi hxt (by rw[if_pos hc];exact hcond)
  obtain⟨k1,k2,k3⟩:=key;refine⟨fun j hj=>?_,fun p hp=>?_,fun q hq=>?_⟩
  ·rw[ehr]at hj;rw[hrep,etg];exact k1 j hj
  ·rw[eld]at hp;exact edge _ _ (k2 p hp)
  ·rw[esr]at hq;exact edge _ _ (k3 q hq)
theorem St.put_mis{s:St}{n a:Nat}{F:List Nat}(hl:s.ss.length=7*n)(ha:a<n):(s.put (7*a+1) F).mea n=s.mea n∧(s.put (7*a+1) F).pt n=s.pt n:=by
 have key:∀f,f≠1→f<7→(s.put (7*a+1) F).mis n f=s.mis n f:=by
  intro f hf hf7;unfold St.mis;congr 1
  funext i
  have e1:(s.put (7*a+1) F).ss.getD (7*i+f) []=s.ss.getD (7*i+f) []:=by rw[St.put_get (by omega),if_neg (by omega)]
  rw[e1];rfl
 have m0:=key 0 (by omega) (by omega);have m2:=key 2 (by omega) (by omega);have md:(s.put (7*a+1) F).dn n=s.dn n:=St.dn_eq rfl;have mn:(s.put (7*a+1) F).nw=s.nw:=rfl;have mm:(s.put (7*a+1) F).mea n=s.mea n:=by unfold St.mea;omega
 refine⟨mm,?_⟩;unfold St.pt;rw[mm,m2,md];rfl
theorem Inv.work{fs:List (Int × Nat × Nat)}{n:Nat}{c:Way}{a:Nat}{s:St}(h:Inv fs n c (·=a) s)(ha:a<n)(hra:s.rep a=a):Inv fs n c (fun _=>False) (s.work c a)∧(s.work c a).mea n≤s.mea n∧(s.work c a).pt n≤s.pt n+n:=by
 have hn:=h.hn;have hfr:∀x,x∈subS (s.tg a) (s.hd a)→x∈s.tg a:=fun x hx=>(mem_subS.1 hx).2.1
 have hfr':∀x,x∈s.tg a→x∈s.hd a∨x∈subS (s.tg a) (s.hd a):=by
  intro x hx;by_cases e:x∈s.hd a
  ·exact .inl e
  ·have:=h.bd _ _ hx;exact .inr (mem_subS.2 ⟨by omega,hx,e⟩)
 unfold St.work;generalize subS (s.tg a) (s.hd a)=fresh at *;have hfb:∀x,x∈fresh→x<n∧PtN fs a x:=fun x hx=>⟨h.bd _ _ (hfr x hx),h.tg _ _ (hfr x hx)⟩
 by_cases hfe:fresh.isEmpty=true
 ·simp only[hfe,if_true];refine⟨h.unexempt (fun _ _ x hx=>?_),Nat.le_refl _,Nat.le_add_right _ _⟩;have hfn:fresh=[]:=by simpa using hfe
  have hxh:=(hfr' x hx).resolve_right (by rw[hfn];simp);refine⟨fun _=>hxh,fun hc=>?_⟩;rw[h.hdn hc a]at hxh;cases hxh
 ·simp only[hfe,if_false,Bool.false_eq_true];obtain⟨c1,c2,c3,c4⟩:=h.collapse (T:=fresh) hfb;generalize s.collapse a fresh=m at *;cases hm:m.1
  ·rw[c2 hm];simp only[Bool.false_eq_true,if_false];obtain⟨l1,l2,l3,l4⟩:=h.linksL (c:=c) fresh hfb;generalize fresh.foldl (fun s t=>s.links c a t) s=s2 at *;obtain⟨k1,k2,k3,k4,k5⟩:=l1.handL (c:=c) (a:=a) (T:=fresh) (s2.heirsOf a) ha (by rw[l2.rep];exact hra) hfb (fun j hj=>by obtain⟨q1,q2,q3⟩:=l1.heirs_lt hj;exact⟨q1,q2,q3⟩);have hlen:(s2.heirsOf a).length≤n:=by
    unfold St.heirsOf delS;exact mkS_len (fun k hk=>(l1.heirs_lt (k:=a) (y:=k) hk).1)
   have F2:∀x,x∈fresh→∀j,j∈((s2.heirsOf a).foldl (fun s h=>s.hand c fresh a h) s2).hr a→x∈((s2.heirsOf a).foldl (fun s h=>s.hand c fresh a h) s2).tg (((s2.heirsOf a).foldl (fun s h=>s.hand c fresh a h) s2).rep j):=by
    intro x hx j hj;rw[k3]at hj;rw[k2.rep];by_cases e:s2.rep j=a
    ·rw[e];exact k2.tg _ _ (l2.tg _ _ (hfr x hx))
    ·have:=l1.rlt (l1.bd _ _ hj);exact k4 _ (mem_heirsOf.2 ⟨by omega,e,j,hj,rfl⟩) x hx
   have F1:∀x,x∈fresh→(∀p,p∈((s2.heirsOf a).foldl (fun s h=>s.hand c fresh a h) s2).ld a→((s2.heirsOf a).foldl (fun s h=>s.hand c fresh a h) s2).Edge x p)∧(∀q,q∈((s2.heirsOf a).foldl (fun s h=>s.hand c fresh a h) s2).sr a→((s2.heirsOf a).foldl (fun s h=>s.hand c fresh a h) s2).Edge q x):=by
    intro x hx;rw[k2.ld,k2.sr,l2.ld,l2.sr];exact⟨fun p hp=>k2.edge ((l3 x hx).1 p hp),fun q hq=>k2.edge ((l3 x hx).2 q hq)⟩
   have M:=l2.trans k2;generalize (s2.heirsOf a).foldl (fun s h=>s.hand c fresh a h) s2=s3 at *;have hnew:¬s3.W a→∀x,x∈s3.tg a→x∈s3.hd a∨x∈fresh:=by
    intro hw x hx;rw[M.hd];exact hfr' x ((M.new a x hx).resolve_right hw)
   cases hd:c.deltas
   ·simp only[Bool.false_eq_true,if_false];refine⟨k1.unexempt (fun _ hw x hx=>⟨fun e=>absurd e (by rw[hd];simp),fun _=>?_⟩),M.mea,by omega⟩;have hxf:=(hnew hw x hx).resolve_left (by rw[M.hd,h.hdn hd];simp);exact⟨F2 x hxf,(F1 x hxf).1,(F1 x hxf).2⟩
   ·simp only[if_true];obtain⟨z1,z2⟩:=St.put_mis (s:=s3) (F:=uniS (s3.hd a) fresh) k1.len ha;rw[z1,z2];refine⟨k1.putHd hd ha (by rw[M.rep];exact hra) (fun x hx=>⟨M.tg _ _ (hfr x hx),F2 x hx,(F1 x hx).1,(F1 x hx).2⟩) hnew,M.mea,by omega⟩
  ·simp only[if_true];rw[hm]at c3 c4;simp only[if_true]at c3 c4;have hra':m.2.rep (m.2.rep a)=m.2.rep a:=c1.repi a;have hla:=c1.rlt ha;have w1:=St.wait_nw m.2 (m.2.rep a);have wm:∀f,(m.2.wait (m.2.rep a)).mis n f=m.2.mis n f:=fun f=>by unfold St.mis;rw[St.wait_ss,St.wait_rep]
   have wd:(m.2.wait (m.2.rep a)).dn n=m.2.dn n:=St.dn_eq (St.wait_rep _ _);have wu:=St.wait_un m.2 (m.2.rep a);have mm:(m.2.wait (m.2.rep a)).mea n≤m.2.mea n+1:=by unfold St.mea;rw[wm,wd];omega
   refine⟨(c1.wait hla hra').exempt (fun i hi e=>?_),by omega,?_⟩
   ·subst e;rw[St.wait_rep]at hi;exact .inl ((St.wait_W c1.ins _ _).2 (.inr hi.symm))
   ·have:=Nat.mul_le_mul_left n mm;rw[Nat.mul_add,Nat.mul_one]at this;have e1:(m.2.wait (m.2.rep a)).pt n≤m.2.pt n+n:=by unfold St.pt;rw[wm,wd,wu];omega
    omega
end
end Go.Proofs.YtiamlbhkiehilaaGreatDoor
