import Derived.Test.YtiamlbhkiehilaaGreatDoorKa13
import Derived.Maps.OwnIn
import Derived.Lib.OwnBridge
open Bool renaming or_false→K2
open Go renaming Value→sA,World→vF,callsIn_wide→IV
open Go.IntKind renaming u64→Kc
open Go.Lib renaming compactUpTo→OG
open Go.Op renaming bytesLess→Jc
open Go.Proofs.Tryz renaming prog→hE,underlying144→N5,underlying215→N6
open Go.RowKit renaming Below→OQ
open Go.Value renaming ownBlock→Jh
open Go.World renaming size_alloc→IW
open List renaming mem_cons→sT,mem_append→IK,mem_singleton→A1,contains_append→LV,contains_cons→Mn,contains_nil→Mt,mem_cons_self→Bx,pairwise_cons→KU,mem_cons_of_mem→C1,getElem_toArray→NM,mem_map→Jf,getElem?_eq_getElem→hZ,map_append→Jp,length_pos_iff→K7,length_map→JO,length_dropLast→K3
open Nat renaming le_trans→IH,lt_of_lt_of_le→A2,le_refl→gO
namespace Go.Proofs.YtiamlbhkiehilaaGreatDoor
set_option maxRecDepth 100000
set_option maxHeartbeats 8000000
section
open Go.RowKit Go.Shelf Go.Maps
abbrev TMp:TypeId:=215
def CV(v:sA):Option (DataW sA × List MemPlace):=some (.held v,[])
def Gv:sA:=.agg #[.slice none 0 0]
theorem E6:Keyed hE TN:=int_keyed N5
theorem Gw(w:vF):(zeroValue aL).run hE w=.ok Gv w:=by kernel_rfl
def gD(W:vF)(mb cnt:Nat)(m:Nat→sA):Prop:=∃D:DataW sA,W.ownsMap hE TN CV mb cnt D∧IsMap D∧∀n:Nat,n<128→D.atKey (.int .u64 (n:Int)) (.held Gv)=.held (.agg #[m n])
theorem Ih{n:Nat}(c:n<128):keyOf hE TN (.int .u64 (n:Int))=some (.int .u64 (n:Int)):=by
 refine keyOf_int_mk N5 ?_
 have a:Kc.min=0:=by decide
 have b:Kc.max=18446744073709551615:=by decide
 simp[Lit.wf,a,b];omega
theorem gD.made(W:vF):gD (W.alloc (.map #[] 0)) W.heap.size 0 (fun _=>.slice none 0 0):=
 ⟨.map [],World.ownsMap_made W _ _ _,isMap_empty,fun _ _=>rfl⟩
theorem gD.lt{W:vF}{mb cnt:Nat}{m:Nat→sA}(h:gD W mb cnt m):mb<W.heap.size:=by obtain⟨D,a,_⟩:=h;exact a.lt
theorem gD.obj{W:vF}{mb cnt:Nat}{m:Nat→sA}(h:gD W mb cnt m):∃a b,W.heap[mb]?=some (.map a b):=by obtain⟨D,⟨a,b,c,_⟩,_⟩:=h;exact⟨a,b,c⟩
theorem gD.kb{W W':vF}{mb cnt:Nat}{m:Nat→sA}(h:gD W mb cnt m){L:List Nat}(b:Kb L W W')(c:mb ∉ L):gD W' mb cnt m:=by obtain⟨D,⟨d,e,a,f⟩,g⟩:=h;exact⟨D,⟨d,e,by rw[b.block mb (aB a) c];exact a,f⟩,g⟩
theorem gD.look{W:vF}{mb cnt:Nat}{m:Nat→sA}(h:gD W mb cnt m){n:Nat}(b:n<128):(Instr.lookup TMp (.map (some mb)) (.int .u64 (n:Int)) false).run hE W=.ok (.agg #[m n]) W:=by obtain⟨D,c,_,d⟩:=h;obtain⟨v,e,hr,a⟩:=c.lookup (R:=CV) (z:=Gv) (zd:=.held Gv) (zp:=[]) E6 N6 (Gw W) rfl (Ih b);rw[d n b]at a;simp[CV]at a;rw[hr,a.1]
theorem gD.upd{W:vF}{mb cnt:Nat}{m:Nat→sA}(h:gD W mb cnt m){n:Nat}(c:n<128)(o:cnt<100000)(v:sA):∃W',(Instr.mapUpdate TMp (.map (some mb)) (.int .u64 (n:Int)) (.agg #[v])).run hE W=.ok () W'∧gD W' mb (cnt+1) (fun k=>if k=n then v else m k)∧Kb [mb] W W':=by
 obtain⟨D,f,a,g⟩:=h;obtain⟨W',hr,i,j⟩:=f.update (R:=CV) E6 N6 (by unfold maxLen;omega) (Ih c) (val:=.agg #[v]) (d:=.held (.agg #[v])) (ps:=[]) rfl;refine⟨W',hr,⟨_,i,a.put _ _,fun k l=>?_⟩,aS j⟩;by_cases e:k=n
 ·subst e;simp only[if_true];exact atKey_put_same a (show WideAt.IsKeyLit (.int .u64 (k:Int))from trivial) _ _
 ·simp only[if_neg e];rw[atKey_put_other (by intro b;injection b with _ b;omega)];exact g k l
end
section
open Go.RowKit Go.Shelf
structure AS(M:Nat)(I:World→List Nat→Prop)(w:World)(F0 L:List Nat)(mb cnt:Nat)(m:Nat→Value)(bk:Nat→List Nat)(bxs:List (Nat × Array Value × TypeId))(F:List Nat)(W:World):Prop where
 nx:NxI M I
 hM:M≤w.heap.size
 inv:I W F
 kb:Kb F0 w W
 ft:∀b∈F,b∈F0∨w.heap.size≤b
 bx:∀q∈bxs,W.heap[q.1]?=some (.cells q.2.1 q.2.2 (0,0))∧q.1 ∉ F∧w.heap.size≤q.1∧q.2.2≠T64
 mp:gD W mb cnt m
 mo:mb ∉ F∧w.heap.size≤mb
 st:∀n,n<128→aO W w.heap.size (m n) (bk n)
 so:∀n g,n<128→(m n).ownBlock=some g→g ∉ F
 ap:∀n n',n<128→n'<128→n≠n'→eR (m n) (m n')
 lb:∀k∈L,k ∉ F∧k<W.heap.size∧k≠mb∧∀n,n<128→(m n).ownBlock≠some k
variable {M:Nat} {I:World→List Nat→Prop} {w:World} {F0 L:List Nat} {mb cnt:Nat} {m:Nat→Value} {bk:Nat→List Nat} {bxs:List (Nat × Array Value × TypeId)} {F:List Nat} {W W':World}
theorem AS.mbs(h:AS M I w F0 L mb cnt m bk bxs F W){b:Nat}{c:Array sA}{T:TypeId}{d:Nat × Nat}(f:W.heap[b]?=some (.cells c T d)):b≠mb:=by intro e;obtain⟨g,i,a⟩:=h.mp.obj;rw[← e,f]at a;cases a
theorem AS.side(h:AS M I w F0 L mb cnt m bk bxs F W){X:List Nat}(a:Kb X W W')(c:∀b∈X,w.heap.size≤b∧b ∉ F∧b≠mb∧(∀q∈bxs,q.1≠b)∧∀n,n<128→(m n).ownBlock≠some b):AS M I w F0 L mb cnt m bk bxs F W':=by refine⟨h.nx,h.hM,h.nx.kb W W' F X h.inv a (fun b o=>(c b o).2.1),⟨a.os.trans h.kb.os,a.tape.trans h.kb.tape,a.output.trans h.kb.output,IH h.kb.size a.size,fun j i p=>?_⟩,h.ft,fun q e=>⟨a.heap (h.bx q e).1 (fun d=>(c _ d).2.2.2.1 q e rfl),(h.bx q e).2⟩,h.mp.kb a (fun d=>(c _ d).2.2.1 rfl),h.mo,fun n l=>(h.st n l).kb a (fun g r=>(c g r).2.2.2.2 n l),h.so,h.ap,fun k f=>⟨(h.lb k f).1,A2 (h.lb k f).2.1 a.size,(h.lb k f).2.2⟩⟩;refine(a.block j (A2 i h.kb.size) (fun d=>?_)).trans (h.kb.block j i p);have:=(c j d).1;omega
theorem AS.fresh(h:AS M I w F0 L mb cnt m bk bxs F W)(a:Kb [] W W'):AS M I w F0 L mb cnt m bk bxs F W':=h.side a (by simp)
theorem AS.nF(h:AS M I w F0 L mb cnt m bk bxs F W){D:Nat}{o:Obj}(b:W.heap[D]?=some o)(c:o.isCells=false)(e:w.heap.size≤D):D ∉ F:=by
 intro d;rcases(h.nx.lt W F D h.inv d).2 with a|⟨f,T,a⟩
 ·have:=h.hM;omega
 ·rw[b]at a;cases a;cases c
theorem AS.own(h:AS M I w F0 L mb cnt m bk bxs F W){D:Nat}(l:w.heap.size≤D)(p:mb<D){d:Option Nat}(g:W.grownBy W' d)(hr:∀r,d=some r→D≤r∧∃o:Obj,W.heap[r]?=some o∧o.isCells=false):AS M I w F0 L mb cnt m bk bxs F W':=by
 refine h.side (aS g) (fun b i=>?_);obtain⟨s,o,a,c⟩:=hr b (by simpa using i);refine⟨by omega,h.nF a c (by omega),by omega,fun q j e=>?_,fun n k e=>?_⟩
 ·have:=(h.bx q j).1;rw[e,a]at this;cases this;cases c
 ·obtain⟨t,f⟩:=(h.st n k).block e;rw[a]at f;cases f;cases c
theorem AS.call(h:AS M I w F0 L mb cnt m bk bxs F W){l:List Nat}(z:I W' l)(a:Kb F W W')(t:∀b∈l,b∈F∨W.heap.size≤b):AS M I w F0 L mb cnt m bk bxs l W'∧(∀D,w.heap.size≤D→KeepsFrom D W W')∧KpB L W W':=by
 have p:∀b,b<W.heap.size→b ∉ F→b ∉ l:=fun b u c r=>by
  rcases t b r with d|d
  ·exact c d
  ·omega
 refine⟨⟨h.nx,h.hM,z,⟨a.os.trans h.kb.os,a.tape.trans h.kb.tape,a.output.trans h.kb.output,IH h.kb.size a.size,fun j s x=>?_⟩,fun b u=>?_,fun q i=>⟨a.heap (h.bx q i).1 (h.bx q i).2.1,p _ (aB (h.bx q i).1) (h.bx q i).2.1,(h.bx q i).2.2⟩,h.mp.kb a h.mo.1,⟨p _ h.mp.lt h.mo.1,h.mo.2⟩,fun n c=>(h.st n c).kb a (fun g A e=>h.so n g c e A),fun n g c e=>p g ((h.st n c).lt e).2 (h.so n g c e),h.ap,fun k f=>⟨p k (h.lb k f).2.1 (h.lb k f).1,A2 (h.lb k f).2.1 a.size,(h.lb k f).2.2⟩⟩,fun D B=>⟨a.size,fun j o s y c=>?_⟩,fun k f=>a.block k (h.lb k f).2.1 (h.lb k f).1⟩
 ·refine(a.block j (A2 s h.kb.size) (fun r=>?_)).trans (h.kb.block j s x);rcases h.ft j r with d|d
  ·exact x d
  ·omega
 ·rcases t b u with d|d
  ·exact h.ft b d
  ·exact .inr (IH h.kb.size d)
 ·exact a.heap y (h.nF y c (by omega))
theorem AS.fk(h:AS M I w F0 L mb cnt m bk bxs F W){b:Nat}{c:Array sA}{T:TypeId}(d:W.heap[b]?=some (.cells c T (0,0)))(e:b ∉ F)(f:w.heap.size≤b)(g:T≠T64):AS M I w F0 L mb cnt m bk ((b,c,T)::bxs) F W:=by
 refine⟨h.nx,h.hM,h.inv,h.kb,h.ft,fun q a=>?_,h.mp,h.mo,h.st,h.so,h.ap,h.lb⟩;rcases sT.1 a with rfl|a
 ·exact⟨d,e,f,g⟩
 ·exact h.bx q a
theorem AS.iu(h:AS M I w F0 L mb cnt m bk bxs F W){bxs':List (Nat × Array sA × TypeId)}(a:∀k∈bxs',k∈bxs):AS M I w F0 L mb cnt m bk bxs' F W:=⟨h.nx,h.hM,h.inv,h.kb,h.ft,fun q b=>h.bx q (a q b),h.mp,h.mo,h.st,h.so,h.ap,h.lb⟩
theorem AS.il(h:AS M I w F0 L mb cnt m bk bxs F W){L':List Nat}(a:∀k∈L',k ∉ F∧k<W.heap.size∧k≠mb∧∀n,n<128→(m n).ownBlock≠some k):AS M I w F0 L' mb cnt m bk bxs F W:=⟨h.nx,h.hM,h.inv,h.kb,h.ft,h.bx,h.mp,h.mo,h.st,h.so,h.ap,a⟩
theorem AS.gg(h:AS M I w F0 L mb cnt m bk bxs F W){b:Nat}(c:W.heap.size≤b):b ∉ F:=fun a=>by have:=(h.nx.lt W F b h.inv a).1;omega
theorem AS.cell(h:AS M I w F0 L mb cnt m bk bxs F W){b:Nat}{v:sA}{T:TypeId}(a:(b,#[v],T)∈bxs):W.cell? ⟨b,0,none⟩=some v:=by rw[aC (h.bx _ a).1];rfl
theorem AS.mid(h:AS M I w F0 L mb cnt m bk bxs F W){t:Nat}(c:t<128){b:vF}{d:sA}(f:SetCh (W.alloc (.cells #[m t] aL)) b W.heap.size 0 #[m t] aL (m t) d):gD b mb cnt m:=by
 have g:Kb [] W (W.alloc (.cells #[m t] aL)):=(Kb.refl [] W).alloc _;refine(h.mp.kb g (by simp)).kb f.kb (fun a=>?_);rcases sT.1 a with e|a
 ·have:=h.mp.lt;omega
 ·simp at a;obtain⟨j,i⟩:=(h.st t c).block a;exact h.mbs i rfl
theorem AS.step(h:AS M I w F0 L mb cnt m bk bxs F W){t:Nat}(l:t<128){H q:vF}{x:sA}{R:List Nat}(S:aO H w.heap.size x R)(J:SetCh (W.alloc (.cells #[m t] aL)) H W.heap.size 0 #[m t] aL (m t) x)(hm:gD q mb (cnt+1) (fun k=>if k=t then x else m k))(T:Kb [mb] H q) :
  AS M I w F0 L mb (cnt+1) (fun k=>if k=t then x else m k) (fun k=>if k=t then R else bk k) bxs F q∧(∀D,mb<D→KeepsFrom D W q)∧KpB L W q:=by
 have kA:Kb [] W (W.alloc (.cells #[m t] aL)):=(Kb.refl [] W).alloc _;have i:Kb (W.heap.size::((m t).ownBlock.toList++[mb])) W q:=by
  refine((kA.mono (by simp)).trans (J.kb.mono (l':=W.heap.size::((m t).ownBlock.toList++[mb])) (fun j _ o=>?_))).trans (T.mono (fun j _ o=>?_))
  ·rcases sT.1 o with e|o
   ·simp[e]
   ·simp[o]
  ·simp at o;simp[o]
 have a0:∀ {g n},n<128→n≠t→(m n).ownBlock=some g→g ∉ W.heap.size::((m t).ownBlock.toList++[mb]):=by
  intro g n c a1 e a;have U:=((h.st n c).lt e).2;rcases sT.1 a with y|a
  ·omega
  ·rcases IK.1 a with a|a
   ·simp at a;exact h.ap n t c l a1 g e a
   ·rw[A1.1 a]at e;obtain⟨V,s⟩:=(h.st n c).block e;exact h.mbs s rfl
 have C:∀g,x.ownBlock=some g→(m t).ownBlock=some g∨W.heap.size≤g:=by
  intro g r;rcases J.lies with e|⟨g',e,a2⟩
  ·exact .inl (by rw[← e];exact r)
  ·rw[e]at r;cases r;rw[IW]at a2;exact .inr (by omega)
 have X:∀b∈W.heap.size::((m t).ownBlock.toList++[mb]),w.heap.size≤b∧b ∉ F:=by
  intro b p;rcases sT.1 p with rfl|p
  ·exact⟨h.kb.size,h.gg (gO _)⟩
  ·rcases IK.1 p with p|p
   ·simp at p;exact⟨((h.st t l).lt p).1,h.so t b l p⟩
   ·rw[A1.1 p];exact⟨h.mo.2,h.mo.1⟩
 refine⟨⟨h.nx,h.hM,h.nx.kb W q F _ h.inv i (fun b p=>(X b p).2),⟨i.os.trans h.kb.os,i.tape.trans h.kb.tape,i.output.trans h.kb.output,IH h.kb.size i.size,fun j o U=>?_⟩,h.ft,fun a3 hq=>?_,hm,h.mo,fun n c=>?_,fun n g c e=>?_,fun n z c K Y=>?_,fun k N=>?_⟩,fun D hD=>⟨i.size,fun j a4 o O c=>?_⟩,fun k N=>?_⟩
 ·refine(i.block j (A2 o h.kb.size) (fun a=>?_)).trans (h.kb.block j o U);have:=(X j a).1;omega
 ·obtain⟨A,q2,q3,Z⟩:=h.bx a3 hq;refine⟨i.heap A (fun a=>?_),q2,q3,Z⟩;rcases sT.1 a with e|a
  ·have:=aB A;omega
  ·rcases IK.1 a with a|a
   ·simp at a;exact(h.st t l).ne A Z a
   ·rw[A1.1 a]at A;exact h.mbs A rfl
 ·by_cases e:n=t
  ·simp only[e,if_true];refine S.kb T (fun g r y=>?_);rw[A1.1 r]at y;obtain⟨V,s⟩:=S.block y;obtain⟨es,cl,d⟩:=(h.mid l J).obj;rw[s]at d;cases d
  ·simp only[if_neg e];exact(h.st n c).kb i (fun g r y=>a0 c e y r)
 ·by_cases f:n=t
  ·simp only[f,if_true]at e;rcases C g e with d|d
   ·exact h.so t g l d
   ·exact h.gg d
  ·simp only[if_neg f]at e;exact h.so n g c e
 ·intro g u f;by_cases E:n=t
  ·have B:z≠t:=fun e=>Y (E.trans e.symm)
   simp only[E,if_true]at u;simp only[if_neg B]at f;rcases C g u with d|d
   ·exact h.ap t z l K (fun e=>B e.symm) g d f
   ·have:=((h.st z K).lt f).2;omega
  ·simp only[if_neg E]at u;by_cases B:z=t
   ·simp only[B,if_true]at f;rcases C g f with d|d
    ·exact h.ap n t c l E g u d
    ·have:=((h.st n c).lt u).2;omega
   ·simp only[if_neg B]at f;exact h.ap n z c K Y g u f
 ·obtain⟨l1,P,Q,G⟩:=h.lb k N;refine⟨l1,A2 P i.size,Q,fun n c e=>?_⟩;by_cases f:n=t
  ·simp only[f,if_true]at e;rcases C k e with d|d
   ·exact G t l d
   ·omega
  ·simp only[if_neg f]at e;exact G n c e
 ·refine i.heap O (fun a=>?_);rcases sT.1 a with e|a
  ·have:=aB O;omega
  ·rcases IK.1 a with a|a
   ·simp at a;obtain⟨V,s⟩:=(h.st t l).block a;rw[O]at s;cases s;cases c
   ·rw[A1.1 a]at o;omega
 ·obtain⟨l1,P,Q,G⟩:=h.lb k N;refine i.block k P (fun a=>?_);rcases sT.1 a with e|a
  ·omega
  ·rcases IK.1 a with a|a
   ·simp at a;exact G t l a
   ·exact Q (A1.1 a)
def bkS(a:Nat→List Nat)(pre:List Nat)(b:Nat)(c:List Nat)(n:Nat):List Nat:=mkS fun f=>(pre.contains f && (a f).contains n) || (f == b && c.contains n)
theorem Dx(a:Nat→List Nat)(b:Nat):bkS a [] b []=fun _=>[]:=by
 funext n
 unfold bkS mkS;simp
theorem E7(a:Nat→List Nat)(pre:List Nat)(c1 b:Nat):bkS a pre c1 []=bkS a pre b []:=by
 funext n
 unfold bkS;simp
theorem Gx(b:Nat→List Nat)(pre:List Nat){a:Nat}(c:List Nat)(t:Nat):(fun k=>if k=t then dB a (bkS b pre a c t)else bkS b pre a c k)=bkS b pre a (c++[t]):=by
 funext n
 by_cases e:n=t
 ·simp only[e,if_true];unfold dB;show mkS _=mkS _;refine cT (fun k d=>?_);unfold bkS;rw[bD d];simp only[LV,Mn,Mt,beq_self_eq_true,Bool.or_true,K2,Bool.and_true];cases k == a<;>simp
 ·simp only[if_neg e];refine cT (fun k d=>?_);have:(n == t)=false:=by simpa using e
  simp only[LV,Mn,Mt,this,K2]
theorem Dy(b:Nat→List Nat)(pre:List Nat)(a c2:Nat):bkS b pre a (b a)=bkS b (pre++[a]) c2 []:=by
 funext n
 refine cT (fun k c=>?_);simp only[LV,Mn,Mt,K2,Bool.and_false];by_cases e:k=a
 ·subst e;simp
 ·have:(k == a)=false:=by simpa using e
  simp[this]
theorem Gy(a:Nat→List Nat)(ahead:List Nat)(b n:Nat):bkS a ahead b [] n=mD ahead a n:=by unfold bkS mD;refine cT (fun k c=>?_);simp
end
section
open Go.Lib
abbrev BL:=List UInt8
theorem CW(x y:BL):x≤y↔Jc y x=false:=by rw[Go.Proofs.bytesLess_eq];simp
theorem Ah{x y z:BL}(h1:x≤y)(h2:y≤z):x≤z:=by
 rw[CW]at *;cases h:Jc z x
 ·rfl
 ·by_cases e:y=z
  ·rw[e,h]at h1;cases h1
  ·have:=nI _ _ h2 (Ne.symm e);rw[lO _ _ _ this h]at h1;cases h1
theorem sJ(x y:BL):x≤y∨y≤x:=by
 rw[CW,CW];cases h:Jc y x
 ·exact .inl rfl
 ·right;cases a:Jc x y
  ·rfl
  ·have:=lO _ _ _ h a;rw[jI]at this;cases this
theorem E8{x y z:BL}(h1:x≤y)(h2:y≤z)(h3:y≠z):Jc x z=true:=by
 rw[CW]at *;have a:=nI _ _ h2 (Ne.symm h3);by_cases e:x=y
 ·rw[e];exact a
 ·exact lO _ _ _ (nI _ _ h1 (Ne.symm e)) a
theorem Bw(d:Array BL)(h:∀i j,i≤j→j<d.size→d[i]!≤d[j]!):∀m,m≤d.size→(OG d m).Pairwise (fun x y=>Jc x y=true)∧(∀x,x∈OG d m↔∃j,j<m∧d[j]! = x):=by
 intro m;induction m with
 |zero=>intro _;simp[OG]
 |succ m l=>
  intro q;obtain⟨k,c⟩:=l (by omega);rw[compactUpTo_succ];by_cases a:keeps d m=true
  ·rw[if_pos a];refine⟨?_,fun x=>?_⟩
   ·rw[List.pairwise_append];refine⟨k,by simp,fun x n y o=>?_⟩;rw[A1.1 o];obtain⟨j,b,rfl⟩:=(c x).1 n;have f:m≠0:=by omega
    have p:d[m]!≠d[m-1]!:=by simp[keeps,f]at a;exact a
    exact E8 (h j (m-1) (by omega) (by omega)) (h (m-1) m (by omega) (by omega)) (Ne.symm p)
   ·rw[IK,c,A1];constructor
    ·rintro(⟨j,b,e⟩|e)
     ·exact⟨j,by omega,e⟩
     ·exact⟨m,by omega,e.symm⟩
    ·rintro⟨j,b,e⟩;by_cases g:j=m
     ·right;rw[← e,g]
     ·exact .inl ⟨j,by omega,e⟩
  ·rw[if_neg a,List.append_nil];refine⟨k,fun x=>?_⟩;rw[c];constructor
   ·rintro⟨j,b,e⟩;exact⟨j,by omega,e⟩
   ·rintro⟨j,b,e⟩;by_cases g:j=m
    ·have f:m≠0:=fun r=>a (keeps_lt_one d m (by omega))
     have:d[m]! = d[m-1]!:=by simp[keeps,f]at a;exact a
     exact⟨m-1,by omega,by rw[← e,g,this]⟩
    ·exact⟨j,by omega,e⟩
theorem Gz:∀ {a b:List BL},a.Pairwise (fun x y=>Jc x y=true)→b.Pairwise (fun x y=>Jc x y=true)→(∀x,x∈a↔x∈b)→a=b:=by
 intro a;induction a with
 |nil=>
  intro b _ _ h;cases b with
  |nil=>rfl
  |cons y r=>exact absurd ((h y).2 Bx) (by simp)
 |cons x r i=>
  intro b j k h;cases b with
  |nil=>exact absurd ((h x).1 Bx) (by simp)
  |cons y t=>
   obtain⟨f,l⟩:=KU.1 j;obtain⟨g,n⟩:=KU.1 k;have e:x=y:=by
    rcases sT.1 ((h x).1 Bx)with e|o
    ·exact e
    ·rcases sT.1 ((h y).2 Bx)with e|p
     ·exact e.symm
     ·have:=lO _ _ _ (f y p) (g x o);rw[jI]at this;cases this
   subst e;congr 1
   refine i l n (fun z=>?_);constructor
   ·intro c;rcases sT.1 ((h z).1 (C1 _ c))with e|d
    ·rw[e]at c;have:=f x c;rw[jI]at this;cases this
    ·exact d
   ·intro c;rcases sT.1 ((h z).2 (C1 _ c))with e|d
    ·rw[e]at c;have:=g x c;rw[jI]at this;cases this
    ·exact d
theorem mS{l:List ByteArray}{x:ByteArray}:x∈dV l↔x∈l:=by
 have d:∀(l c:List ByteArray),x∈l.foldl mK c↔x∈c∨x∈l:=by
  intro l;induction l with
  |nil=>intro c;simp
  |cons a r f=>
   intro c;rw[List.foldl_cons,f];have g:x∈mK c a↔x=a∨x∈c:=by
    by_cases h:c[aX c a]?=some a
    ·rw[tV rfl h];exact⟨.inr,fun b=>b.elim (fun e=>e ▸ List.mem_of_getElem? h) id⟩
    ·rw[tU rfl h,IK,sT];constructor
     ·rintro(b|b|b)
      ·exact .inr (List.mem_of_mem_take b)
      ·exact .inl b
      ·exact .inr (List.mem_of_mem_drop b)
     ·rintro(b|b)
      ·exact .inr (.inl b)
      ·rw[← List.take_append_drop (aX c a) c,IK]at b;exact b.elim .inl (fun i=>.inr (.inr i))
   rw[g,sT];constructor
   ·rintro((b|b)|b)
    ·exact .inr (.inl b)
    ·exact .inl b
    ·exact .inr (.inr b)
   ·rintro(b|b|b)
    ·exact .inl (.inr b)
    ·exact .inl (.inl b)
    ·exact .inr b
 unfold dV;rw[d];simp
theorem vN(l:List ByteArray):compact ((l.map (·.data.toList)).mergeSort fun x y=>decide (x≤y))=(dV l).map (·.data.toList):=by
 obtain⟨d,g⟩:∃d,d=(l.map (·.data.toList)).mergeSort fun x y=>decide (x≤y):=⟨_,rfl⟩
 rw[← g];have q:d.Pairwise (fun x y=>decide (x≤y)=true):=by
  rw[g];refine List.pairwise_mergeSort (fun a b c h k=>?_) (fun a b=>?_) _
  ·simp only[decide_eq_true_eq]at *;exact Ah h k
  ·have:=sJ a b;simpa using this
 have r:∀i j,i≤j→j<d.toArray.size→d.toArray[i]!≤d.toArray[j]!:=by
  intro i j u f;have s:j<d.length:=by simpa using f
  rw[getElem!_pos d.toArray i (by simp;omega),getElem!_pos d.toArray j f];simp only[NM];by_cases e:i=j
  ·subst e;exact(sJ _ _).elim id id
  ·have:=List.pairwise_iff_getElem.1 q i j (by omega) s (by omega);simpa using this
 obtain⟨h,k⟩:=Bw d.toArray r d.length (by simp);refine Gz h ?_ (fun x=>?_)
 ·have o:Asc (dV l):=iE l;unfold Asc at o;rw[List.pairwise_map];refine o.imp (fun {a b} p=>?_);have e:cK a b=Jc a.toList b.toList:=rfl;rw[e]at p;simpa[ByteArray.toList_eq]using p
 ·have e:x∈compact d↔x∈d:=by
   refine(k x).trans ?_
   constructor
   ·rintro⟨j,f,e⟩;rw[getElem!_pos d.toArray j (by simpa using f)]at e;rw[← e];simp
   ·intro t;obtain⟨j,f,e⟩:=List.getElem_of_mem t;refine⟨j,f,?_⟩;rw[getElem!_pos d.toArray j (by simpa using f)];simpa using e
  rw[e,g,(List.mergeSort_perm _ _).mem_iff,Jf,Jf];constructor
  ·rintro⟨a,n,e⟩;exact⟨a,mS.2 n,e⟩
  ·rintro⟨a,n,e⟩;exact⟨a,mS.1 n,e⟩
end
section
open Go.RowKit Go.Sort Go.Lib
def nT(ss:List ByteArray):List sA:=ss.map Value.string
structure NmI(w wr:World)(fs:List Fct)(i:Nat)(v:Value):Prop where
 own:wr.ownsRow w.heap.size 9 1 v (2*i) (nT (bI (fs.take i)))
 blw:Below w.heap.size w wr
 nil:i=0→v=.slice none 0 0
theorem Dz{a:List Fct}{i:Nat}{f:Fct}(h:a[i]?=some f):bI (a.take (i+1))=bI (a.take i)++[f.p,f.q]:=by rw[bG h];simp[bI]
theorem Bz{B:Nat}{a w:vF}(h:Below B a w)(d:B≤w.heap.size)(b:Array Obj):Below B a (grow w b):=
 ⟨h.os,h.tape,h.output,by have:=h.size;simp[grow];omega,fun k c=>by rw[← h.block k c];exact heap_grow_old w b (by omega)⟩
theorem uJ(w:vF):Calls hE 136 #[.slice none 0 0,.int .i64 0,.int .i64 0] w fun e w'=>e=.returned (.tuple #[])∧w'=w:=by
 go_enter Tryz.func136,Tryz.ntmps136
 go_wp2;go_loopw [6] (fun v wr=>v=.int .i64 1∧wr=w) (fun _ _=>0)
 case atStart=>exact⟨rfl,rfl⟩
 case round=>
  obtain⟨rfl,rfl⟩:=hrel;go_wp2;go_end0
  exact⟨rfl,rfl⟩
theorem Ai(l:Int)(w:vF):Calls hE 106 #[.slice none 0 0,.int .i64 0,.int .i64 0,.int .i64 l] w fun e w'=>e=.returned (.tuple #[])∧w'=w:=by
 have c:=uJ w;go_enter Tryz.func106,Tryz.ntmps106
 go_wp2;go_loopw [1,2] (fun a b wr=>a=.int .i64 0∧b=.int .i64 0∧wr=w) (fun _ _ _=>0)
 case atStart=>exact⟨rfl,rfl,rfl⟩
 case round=>
  obtain⟨rfl,rfl,rfl⟩:=hrel;go_wp2_with fail
  refine c.mono ?_
  clear c;rintro e d ⟨rfl,rfl⟩;go_wp2;refine bodyPost_ret (results_none rfl _ _ _) rfl ?_
  exact⟨rfl,rfl⟩
theorem yA(w:vF):Calls hE 82 #[.slice none 0 0] w fun e w'=>e=.returned (.tuple #[])∧w'=w:=by
 have a:=Tryz.bits_Len 0 w (by decide) (by decide);have b:=Ai (Lib.bitLen (0:Int).toNat) w;go_enter Tryz.func82,Tryz.ntmps82
 go_wp2_with fail
 refine a.mono ?_
 clear a;rintro e c ⟨rfl,rfl⟩;go_wp2_with fail
 refine b.mono ?_
 clear b;rintro e d ⟨rfl,rfl⟩;go_wp2;go_end0
 exact⟨rfl,rfl⟩
theorem Aj(v:sA)(a:List Fct)(w:vF)(ak:a.length≤1000)(hv:cV v a w) :
  Calls hE 56 #[v] w fun e w'=>∃vn,e=.returned vn∧cY vn (dV (bI a)) w'∧Below w.heap.size w w':=by
 obtain⟨i0,a5,a6,a7,a8⟩:=info_parts iJ;obtain⟨ao,al,rfl,am,an,R⟩:=hv;have a9:=aA R;clear R;go_enter Tryz.func56,Tryz.ntmps56
 go_wp2;go_loopw [3,8] (fun v G wr=>∃i:Nat,G=.int .i64 i∧i≤a.length∧NmI w wr a i v) (fun _ G _=>a.length-(intOf G).toNat)
 case atStart=>exact⟨0,rfl,Nat.zero_le _,World.ownsRow_nil _ _ _ _,Below.refl _ _,fun _=>rfl⟩
 case round=>
  obtain⟨i,rfl,ap,k⟩:=hrel;have H:=aA k;have c:=k.blw;by_cases y:i<a.length
  ·obtain⟨f,hr⟩:∃f,a[i]?=some f:=⟨_,hZ y⟩;have o:a≠[]:=by intro e;rw[e]at y;simp at y
   obtain⟨b,aq,rfl,J,S⟩:=a9.out o;obtain⟨T,U,V⟩:=S i f.k f.p f.q hr;have c0:=(c.cell (p:=⟨b,_,none⟩) J).trans T;have c1:=(c.cell (p:=⟨b,_,none⟩) J).trans U;have c2:=(c.cell (p:=⟨b,_,none⟩) J).trans V;have aa:Hid (∀(l:vF) q,l.ownsRow w.heap.size 9 1 q (2*i+2) (nT (bI (a.take i))++[.string f.p,.string f.q])→Below w.heap.size w l→NmI w l a (i+1) q):=by intro l q h3 h4;refine⟨?_,h4,fun e=>by omega⟩;rw[Dz hr];unfold nT at *;rw[Jp,show 2*(i+1)=2*i+2 by omega];exact h3
   obtain⟨va,vc,rfl,_⟩:=aQ k.own;clear k T U V S hr;go_wp2_with (first|(at_builtin;refine wpList_append_own _ rfl _ _ 44 rfl w.heap.size 9 i0 (.string ⟨#[]⟩) 1 16 Tryz.underlying44 a5 a6 a7 a8 rfl (by decide) _ _ _ rfl ((H.out.own.alloc _).alloc _) ⟨(wr.alloc (.cells #[.int .i64 f.k,.string f.p,.string f.q] 48)).heap.size,0,none⟩ 2 2 [.string f.p,.string f.q] (by simp[Act.eval]) rfl (bU _ _ _ _ rfl) ?x6 ?x7 ?x8 ?x9 ?_)|go_in)
   case x6=>intro ar X;simp at X;rcases X with rfl|rfl<;>rfl
   case x7=>unfold maxLen;omega
   case x8=>omega
   case x9=>have:=c.size;simp;omega
   intro q l Y Z _;have ab:Below w.heap.size w l:=((c.alloc c.size _).alloc (by have:=c.size;simp;omega) _).grown Z (by have:=c.size;simp;omega) (fun j r=>(H.out.own.lt j r).1);have ad:=aa.out l q Y ab;clear Y Z;go_wp2;go_round
   case rel=>exact⟨i+1,by go_num,y,ad⟩
   case measure=>simp[intOf];omega
  ·have ae:i=a.length:=by omega
   subst ae;have s:=k.own;have K:=k.nil;rw[List.take_of_length_le (gO _)]at s;clear k H;have HEq:=aA (vN (bI a));by_cases o:a=[]
   ·have HS:=yA wr;have af:=K (by rw[o];rfl);subst af;have HC:=Tryz.slices_Compact_string_empty none 0 wr;have HN:Hid (dV (bI a)=[]):=by rw[o];exact aA rfl
    clear HEq s K;go_wp2_with fail
    refine HS.mono ?_
    clear HS;rintro e n ⟨rfl,rfl⟩;go_wp2_with fail
    refine HC.mono ?_
    clear HC;rintro e n ⟨rfl,rfl⟩;go_wp2;go_ret
    refine⟨_,rfl,?_,c⟩;rw[HN.out];exact⟨none,0,rfl,gO _,fun _=>rfl,fun h=>absurd rfl h⟩
   ·have au:0<a.length:=K7.2 o;have a0:u3≠.slice none 0 0:=by
     rintro rfl;obtain⟨av,t,e,_⟩:=aQ s;injection e with _ e _;omega
    have a1:wr.ownsRow w.heap.size 9 1 u3 (2*a.length) (((bI a).map (·.data.toList)).map encStr):=by rw[map_encStr];exact s
    obtain⟨g,t,rfl,a2,a3,aw,ax,z,N⟩:=holds_of_ownsRow a1 a0;have A:=Tryz.slices_Sort_string g 0 t ((bI a).map (·.data.toList)) wr N a3 (by rw[z];omega);rw[z]at A;obtain⟨d,B⟩:∃d,d=((bI a).map (·.data.toList)).mergeSort fun x ag=>decide (x≤ag):=⟨_,rfl⟩
    rw[← B]at A;have C:d.length=2*a.length:=by rw[B,List.length_mergeSort,z]
    have O:=aA B;have HH:=aA N;clear B s a1 N z a0 K;go_wp2_with fail
    refine A.mono ?_
    clear A;rintro e n ⟨rfl,q1,os,D⟩;have P:Holds encStr n g 0 d.toArray:=by rw[D];exact holds_grow _ _ _ _ _ _ (by simpa using a3) (holds_putRow _ _ _ _ _ _ (fun j r=>HH.out j r) (by simp[C,iI]))
    have Q:=Tryz.slices_Compact_string g 0 t d n P (by omega) (by omega);rw[C,O.out,HEq.out,JO]at Q;have ah:OQ w.heap.size w n:=by rw[D];exact Bz (below_putRow c a2) (by simpa using c.size) _
    have ai:=aA P;have aj:g<n.heap.size:=by rw[D];simp;omega
    clear D P;go_wp2_with fail
    refine Q.mono ?_
    clear Q;rintro e w2 ⟨rfl,q2,E⟩;have ay:(dV (bI a)).length≤2*a.length:=by have:=compact_length_le d;rw[O.out,HEq.out,JO,← O.out,C]at this;exact this
    have HF:Hid (cY (.slice (some ⟨g,0,none⟩) (dV (bI a)).length t) (dV (bI a)) w2∧OQ w.heap.size w w2):=by
     refine aA ⟨⟨some ⟨g,0,none⟩,t,rfl,by omega,(by intro h;cases h),fun _=>⟨g,0,rfl,?_,?_⟩⟩,?_⟩
     ·rw[E];simpa using aj
     ·intro i az u;rw[E];have a4:=(List.getElem?_eq_some_iff.1 u).1;have hd:((List.map (fun x:ByteArray=>x.data.toList) (dV (bI a))++List.replicate (2*a.length-(dV (bI a)).length) []).toArray).size=d.toArray.size:=by
       simp[C];omega
      rw[cell?_putRow encStr (Go.Sort.ahead n q2) g 0 d.toArray _ (fun j r=>ai.out j r) hd i (by simp;omega),getElem!_pos _ i (by simp;omega)];rw[hZ a4]at u;injection u with u;simp only[NM,encStr];rw[List.getElem_append_left (by simpa using a4),List.getElem_map,u]
     ·rw[E];exact below_putRow ah a2
    clear E;go_wp2;go_ret
    exact⟨_,rfl,HF.out⟩
end
section
open Go.RowKit Go.Shelf
attribute [local go_sem] Oper.semAt_some
attribute [-go_sem] Builtin.append_
theorem GA{N:Nat}(l:List Nat)(y:List Nat × List Nat)(h:∀x∈l,x<N)(h1:∀x∈y.1,x<N)(h2:∀x∈y.2,x<N):(∀x∈(l.foldl fQ y).1,x<N)∧(∀x∈(l.foldl fQ y).2,x<N):=yY (P:=fun x=>x<N) l y h h1 h2
theorem sK{M:Nat}{I:vF→List Nat→Prop}(f:Nat)(fi ca:Array sA)(N:Nat)(u:Nat→List Nat)(a1:NxI M I)(cC:E5 I f fi ca N u)(hF:∀args w,(callFunc f args).run hE w=.ok (.enter f args) w)(cF:∀x y,x<N→y∈u x→y<N)(hN:N≤128)(k z:Nat)(R:List Nat)(w:vF)(F0:List Nat)(hI:I w F0)(hT:bN w)(dj:0<w.heap.size)(az:0 ∉ F0)(cL:M≤w.heap.size)(aV:z<N)(hr:fD k z u=some R) :
  Calls hE 159 #[.int .u64 (z:Int),.func (.func f) fi ca] w fun e w'=>∃v F',e=.returned (.agg #[v])∧aO w' w.heap.size v R∧I w' F'∧Kb F0 w w'∧(∀b∈F',b∈F0∨w.heap.size≤b)∧∀g,v.ownBlock=some g→g ∉ F':=by
 obtain⟨i0,cO,cS,cW,d0⟩:=info_parts CH;have TT:Hid (∀W,Kb F0 w W→bN W):=aA (fun W hk=>hT.kb hk az);obtain⟨H,a5⟩:∃H,H=(w.alloc (.cells #[.slice none 0 0] aL)).alloc (.cells #[.slice none 0 0] aL):=⟨_,rfl⟩;have k0:Kb [] w H:=by rw[a5];exact((Kb.refl [] w).alloc _).alloc _
 have z0:H.heap.size=w.heap.size+2:=by rw[a5];simp
 have y0:H.heap[w.heap.size]?=some (.cells #[.slice none 0 0] aL (0,0)):=by rw[a5];exact aF (aD _ _) _
 have f0:H.heap[w.heap.size+1]?=some (.cells #[.slice none 0 0] aL (0,0)):=by rw[a5];have:=aD (w.alloc (.cells #[.slice none 0 0] aL)) (.cells #[.slice none 0 0] aL);rw[IW]at this;exact this
 have HA:=gS w.heap.size (w.heap.size+1) 0 #[.slice none 0 0] aL (.slice none 0 0) [] z H (by omega) (by decide) f0 rfl (aO.nil _ _) (by omega);have ec:(!([]:List Nat).contains z)=true:=by simp
 rw[ec]at HA;have b0:=aA (a1.kb w H F0 [] hI k0 (by simp));have a6:∀b∈F0,b<w.heap.size:=fun b d=>(a1.lt w F0 b hI d).1
 refine(IV (n:=20)).1 ?_
 refine callsIn_of_wp_marks Tryz.func159 rfl trivial ?_ rfl;simp only[Tryz.ntmps159,List.size_toArray,List.length_cons,List.length_nil,Nat.reduceAdd,Nat.reduceSub,Array.replicate_succ,Array.replicate_zero,List.push_toArray,List.append_toArray,List.nil_append,List.cons_append];gi_wp2
 rw[← a5];refine⟨trivial,?_⟩;refine(IV.2 HA).mono ?_
 clear HA a5;rintro e i ⟨rfl,A,ak,ad⟩;have dl:=ad.kb.size;have e0:Jh (.slice none 0 0)=none:=rfl;have U:Kb [w.heap.size+1] H i:=by have:=ad.kb;rw[e0]at this;simpa using this
 have z1:i.heap[w.heap.size]?=some (.cells #[.slice none 0 0] aL (0,0)):=U.heap y0 (by simp);have c1:i.heap[w.heap.size+1]?=some (.cells #[A] aL (0,0)):=by rw[ad.blk];rfl
 have i1:I i F0:=a1.kb H i F0 _ b0.out U (by intro b d;rw[A1.1 d];intro l;have:=a6 _ l;omega);have a2:Kb F0 w i:=by refine⟨U.os.trans k0.os,U.tape.trans k0.tape,U.output.trans k0.output,IH k0.size U.size,fun j hj _=>(U.block j (by omega) (by simp;omega)).trans (k0.block j hj (by simp))⟩
 obtain⟨w2,a9⟩:∃w2,w2=(i.alloc (.cells #[.int .u64 (z:Int)] TN)).alloc (.cells #[.slice (some ⟨i.heap.size,0,none⟩) 1 1] TNs):=⟨_,rfl⟩;have p:Kb [] i w2:=by rw[a9];exact((Kb.refl [] i).alloc _).alloc _
 have g2:w2.heap[i.heap.size]?=some (.cells #[.int .u64 (z:Int)] TN (0,0)):=by rw[a9];exact aF (aD _ _) _
 have b2:w2.heap[i.heap.size+1]?=some (.cells #[.slice (some ⟨i.heap.size,0,none⟩) 1 1] TNs (0,0)):=by rw[a9];have:=aD (i.alloc (.cells #[.int .u64 (z:Int)] TN)) (.cells #[.slice (some ⟨i.heap.size,0,none⟩) 1 1] TNs);rw[IW]at this;exact this
 have R0:RS M I w F0 [] (dB z []) [z] (w.heap.size+1) (i.heap.size+1) A (.slice (some ⟨i.heap.size,0,none⟩) 1 1) F0 [] w2:=by
  refine⟨a1,cL,a1.kb i w2 F0 [] i1 p (by simp),⟨p.os.trans a2.os,p.tape.trans a2.tape,p.output.trans a2.output,IH a2.size p.size,fun j hj hl=>(p.block j (A2 hj a2.size) (by simp)).trans (a2.block j hj hl)⟩,fun b d=>.inl d,p.heap z1 (by simp),p.heap c1 (by simp),ak.kb p (by simp),b2,⟨⟨rfl,.inr ⟨i.heap.size,1,_,rfl,by omega,g2,gO _,by unfold maxLen;omega,rfl,rfl⟩⟩,by simp;omega⟩,⟨by omega,by omega⟩,?_,by simp,by simp,List.nodup_nil,by simp⟩;rintro b (e|e|e|e|e) l
  ·have:=a6 b l;omega
  ·have:=a6 b l;omega
  ·have:=a6 b l;omega
  ·have:=a6 b l;have:=(ak.lt e).1;omega
  ·have:=a6 b l;simp[Jh]at e;omega
 have b1:=aA R0;clear R0 i1 a2 p g2 b2 ak ad U z1 c1 b0 y0 f0 k0;gi_wp2
 rw[← a9];unfold fD at hr;obtain⟨P,d1⟩:∃P,k=P+1:=by
  cases k with
  |zero=>cases hr
  |succ P=>exact⟨P,rfl⟩
 rw[d1]at hr;refine wpIn_loop_ghost (fun k b3 W=>∃q c n A vr F o x7 x8 b4 b5 b6 b7 b8 b9 ba bb bc bd be bf bg bh bi bj bl bm bn bo bp bq br bs bt,RS M I w F0 [] q c (w.heap.size+1) n A vr F o W∧nC u (k+1) q c=some R∧(∀x∈q,x<N)∧(∀x∈c,x<N)∧(128-cnt 128 q)+c.length≤129∧b3={ tmps:=#[.int .u64 (z:Int),.func (.func f) fi ca,undef,undef,.pointer (some ⟨w.heap.size,0,none⟩),.pointer (some ⟨w.heap.size+1,0,none⟩),.pointer (some ⟨n,0,none⟩),x7,x8,.int .u64 (z:Int),.bool true,.int .u64 (z:Int),.slice (some ⟨i.heap.size,0,none⟩) 1 1,b4,b5,b6,b7,b8,b9,ba,bb,bc,bd,be,bf,bg,bh,bi,bj,bl,bm,bn,bo,bp,bq,br,bs,bt,undef],defers:=o.map uH }) P ⟨_,_,_,_,_,_,[],_,_,_,_,_,_,_,_,_,_,_,_,_,_,_,_,_,_,_,_,_,_,_,_,_,_,_,b1.out,hr,?h1,?h2,?h3,rfl⟩ ?_
 case h1=>
  intro x B;rcases(bA.1 B).2 with rfl|B
  ·exact aV
  ·cases B
 case h2=>intro x B;rw[A1.1 B];exact aV
 case h3=>simp
 clear b1 a9 hr;rintro k b3 W ⟨q,c,n,A,vr,F,o,x7,x8,b4,b5,b6,b7,b8,b9,ba,bb,bc,bd,be,bf,bg,bh,bi,bj,bl,bm,bn,bo,bp,bq,br,bs,bt,a,C,d2,bu,dq,rfl⟩;by_cases aa:c=[]
 ·rw[kN,aa]at C;have d3:q=R:=by simpa using C
  obtain⟨ao,E,a3,_⟩:=a.sr.form;have cr:W.cell? ⟨n,0,none⟩=some (.slice ao 0 E):=by rw[aC a.cr,a3,aa];rfl
  obtain⟨fo,fl,fc,al⟩:=a.sf.form;have cf:W.cell? ⟨w.heap.size+1,0,none⟩=some (.slice fo fl fc):=by rw[aC a.cf,al];rfl
  have cz:W.cell? ⟨w.heap.size,0,none⟩=some (.slice none 0 0):=by rw[aC a.cz];rfl
  have fz:W.frozen? ⟨w.heap.size,0,none⟩=false:=aE a.cz 0;obtain⟨h,V⟩:∃h,h=W.setCell ⟨w.heap.size,0,none⟩ (.slice fo fl fc):=⟨_,rfl⟩;have kS:Kb [w.heap.size] W h:=by rw[V];exact(Kb.refl _ _).setCell (p:=⟨w.heap.size,0,none⟩) (.inl (by simp)) _
  have kC:=xZ o h;have bv:∀D∈o,h.heap[D]?=some (.deferred (some [])):=fun D hD=>kS.heap (a.dd D hD) (fun l=>by
   rw[A1.1 l]at hD;have:=a.dd _ hD;rw[a.cz]at this;cases this)
  have X:Kb (w.heap.size::o) W (o.foldl (fun W D=>W.putObj D (.deferred none)) h):=(kS.mono (by intro k _ hk;simp at hk;simp[hk])).trans (kC.mono (by intro k _ hk;simp[hk]));have am:∀D∈o,∀cs an fz,W.heap[D]?≠some (.cells cs an fz):=fun D hD cs an fz e=>by rw[a.dd D hD]at e;cases e
  have nb:∀b∈w.heap.size::o,w.heap.size≤b∧b ∉ F∧A.ownBlock≠some b:=by
   intro b d;rcases sT.1 d with rfl|d
   ·exact⟨gO _,a.out _ (.inl rfl),a.sf.ne a.cz (by decide)⟩
   ·refine⟨a.dl b d,a.dF (a.dd b d) rfl (a.dl b d),fun e=>?_⟩;obtain⟨cs,Q⟩:=a.sf.block e;exact am b d _ _ _ Q
  have HF:Hid (aO (o.foldl (fun W D=>W.putObj D (.deferred none)) h) w.heap.size A R∧I (o.foldl (fun W D=>W.putObj D (.deferred none)) h) F∧Kb F0 w (o.foldl (fun W D=>W.putObj D (.deferred none)) h)∧(∀b∈F,b∈F0∨w.heap.size≤b)∧∀g,A.ownBlock=some g→g ∉ F):=by
   refine aA ⟨?_,a1.kb W _ F _ a.inv X (fun b d=>(nb b d).2.1),?_,a.ft,fun g G=>a.out g (.inr (.inr (.inr (.inl G))))⟩
   ·rw[← d3];exact a.sf.kb X (fun g G e=>(nb g G).2.2 e)
   ·refine⟨X.os.trans a.kb.os,X.tape.trans a.kb.tape,X.output.trans a.kb.output,IH a.kb.size X.size,fun j hj hl=>?_⟩;refine(X.block j (A2 hj a.kb.size) (fun l=>?_)).trans (a.kb.block j hj hl);have:=(nb j l).1;omega
  have d5:(o.foldl (fun W D=>W.putObj D (.deferred none)) h).cell? ⟨w.heap.size,0,none⟩=some (.slice fo fl fc):=by
   have h1:h.heap[w.heap.size]?=some (.cells #[.slice fo fl fc] aL (0,0)):=by rw[V,aI a.cz];rfl
   rw[aC (kC.heap h1 (fun l=>am _ l _ _ _ a.cz))];rfl
  have HD:=aA (And.intro a.nd bv);have HE:=aA al;clear a kS kC X nb bv am al C a3;gi_wp2
  rw[← V];refine nS o h HD.out.1 HD.out.2 ?_
  refine⟨.agg #[.slice fo fl fc],?_,.slice fo fl fc,F,rfl,by rw[← HE.out];exact HF.out⟩;simp[results,Tryz.results159,go_sem,d5]
 ·obtain⟨x,B⟩:∃x,c.getLast?=some x:=by
   cases G:c.getLast? with
   |none=>exact absurd (List.getLast?_eq_none_iff.1 G) aa
   |some x=>exact⟨x,rfl⟩
  rw[kN,B]at C;have d6:=List.mem_of_getLast? B;have bx:=bu x d6;obtain⟨p,d7⟩:∃p,k=p+1:=by
   cases k with
   |zero=>cases C
   |succ p=>exact⟨p,rfl⟩
  rw[d7]at C;have dr:=K7.2 aa;have ap:c[c.length-1]?=some x:=by rw[← List.getLast?_eq_getElem?];exact B
  obtain⟨ao,E,a3,bz⟩:=a.sr.form;obtain⟨g,d8,cg,_⟩:=bz _ _ ap;subst d8;have cr:W.cell? ⟨n,0,none⟩=some (.slice (some ⟨g,0,none⟩) c.length E):=by rw[aC a.cr,a3];rfl
  have HN:=cC W F x a.inv (TT.out W a.kb) bx;have ds:c.length≤E:=by
   rcases a.sr.1.2 with⟨Y,h9⟩|⟨g',cp,dt,Y,_,_,h9,_⟩
   ·omega
   ·rw[a3]at Y;injection Y with _ _ Y;omega
  have i5:(c.length:Int)-1≤(E:Int):=by omega
  have i6:c.length-1≤E:=by omega
  have i1:(0:Int)<(c.length:Int):=by omega
  have i2:((c.length:Int)-1).toNat=c.length-1:=by omega
  have i3:(0:Int)≤(c.length:Int)-1:=by omega
  have i4:c.length≤129:=by omega
  have HE:=aA (And.intro C (And.intro B ap));have aq:=aA (And.intro a a3);clear a C B ap bz a3;gi_wp2
  refine⟨trivial,?_⟩;refine(IV.2 HN).mono ?_
  clear HN;rintro e J ⟨v,F1,rfl,hv,d9,bF,c0,c2⟩;obtain⟨Z,vl,vc,rfl⟩:=hv.form;have R2:=aq.out.1.call bF c0 c2;have S:Kb [] J (J.alloc (.cells #[.slice Z vl vc] aL)):=(Kb.refl [] J).alloc _;have ar:(J.alloc (.cells #[.slice Z vl vc] aL)).heap[J.heap.size]?=some (.cells #[.slice Z vl vc] aL (0,0)):=aD _ _;obtain⟨h,V⟩:∃h,h=J.alloc (.cells #[.slice Z vl vc] aL):=⟨_,rfl⟩;rw[← V]at S ar;have R3:=R2.fresh S;have ae:=aq.out.2;have da:h.cell? ⟨n,0,none⟩=some (.slice (some ⟨g,0,none⟩) c.length E):=by rw[aC R3.cr,ae];rfl
  have db:h.frozen? ⟨n,0,none⟩=false:=aE R3.cr 0;have c3:=cI.pop (w:=h) (B:=w.heap.size) (ao:=some ⟨g,0,none⟩) (cap:=E) (xs:=c) (by rw[← ae];exact R3.sr) aa;have R4:=(R3.rows (W1:=h) (Kb.refl _ _) c3 (.inl (by rw[ae];rfl))).1;obtain⟨W3,af⟩:∃W3,W3=h.setCell ⟨n,0,none⟩ (.slice (some ⟨g,0,none⟩) (c.length-1) E):=⟨_,rfl⟩;have k3:Kb [n] h W3:=by rw[af];exact(Kb.refl _ _).setCell (p:=⟨n,0,none⟩) (.inl (by simp)) _
  rw[← af]at R4;have dc:J.heap.size≠n:=fun e=>by
   have:=aB R2.cr;omega
  have c4:W3.heap[J.heap.size]?=some (.cells #[.slice Z vl vc] aL (0,0)):=k3.heap ar (by simp;exact dc);have c5:aO W3 0 (.slice Z vl vc) (u x):=(hv.kb S (by simp)).kb k3 (fun b d e=>by
   rw[A1.1 d]at e;obtain⟨cs,Q⟩:=(hv.kb S (by simp)).block e;exact aP Q R3.cr (by decide) rfl)
  have c6:=dN 0 J.heap.size 0 #[.slice Z vl vc] aL (.slice Z vl vc) (u x) W3 c4 rfl c5;have ag:=aA R4;have c7:=aA V;have c8:=aA af;rw[V]at da db;clear R2 R3 R4 c3 S ar c4 c5 hv ae bF c0 c2 d9 k3 aq cr cg V af;gi_wp2
  rw[← c7.out,← c8.out];refine⟨trivial,?_⟩;refine(IV.2 c6).mono ?_
  clear c6 c8 c7;rintro e W4 ⟨c9,va,rfl,dd,cb,au,k4⟩;have R5:=ag.out.fresh k4;obtain⟨L,hL⟩:∃L,L=0::va.ownBlock.toList:=⟨_,rfl⟩;have av:∀b∈L,b ∉ F1∧b<W4.heap.size∧¬uI w.heap.size (w.heap.size+1) n A (.slice (some ⟨g,0,none⟩) (c.length-1) E) b:=by
   intro b d;rw[hL]at d;rcases sT.1 d with rfl|d
   ·refine⟨fun l=>?_,by have:=R5.kb.size;omega,fun ho=>?_⟩
    ·rcases R5.ft _ l with h9|h9
     ·exact az h9
     ·omega
    ·have:=(R5.cells ho).1;omega
   ·simp at d;have h8:=au.lt d;refine⟨fun l=>?_,h8.2,fun ho=>?_⟩
    ·have:=(a1.lt W3 F1 b ag.out.inv l).1;omega
    ·obtain⟨_,cs,an,Q⟩:=ag.out.cells ho;have:=aB Q;omega
  have de:∀b∈L,b<W4.heap.size:=fun b d=>(av b d).2.1
  have df:=bZ 19 c9 W3.heap.size va (u x) L W4 cb au (TT.out _ R5.kb) (fun g G=>by rw[hL];simp[G]) (by rw[hL];simp);have R6:=R5.il av;have cd:∀x∈o,x<W4.heap.size:=fun x B=>aB (R5.dd x B)
  have dv:=R5.kb.size;have ce:=aA R6;have ah:∀y∈u x,y<N:=fun y hy=>cF x y bx hy
  clear R5 R6 av cb ag dd k4 au;gi_wp2
  refine wpIn_rangeFunc_ownG (α:=Mem (u x)) (hro:=rfl) (h1:=by omega) (gf:=127) (lb:=#[.pointer (some ⟨c9,0,none⟩)]) rfl trivial (enters_of Tryz.func127 (by kernel_rfl) rfl) df (fun h1 h2=>h1.trans h2) (fZ de) (Below.refl _ _) (fun _=>rfl)
   (fun pre a4=>∃A vr,RS M I w F0 L ((pre.map (·.1)).foldl fQ (q,c.dropLast)).1 ((pre.map (·.1)).foldl fQ (q,c.dropLast)).2 (w.heap.size+1) n A vr F1 o a4)
   (fun _ _ _=>False) ?hI (fun _ _ _ _ _ hs _ _=>hs) ⟨_,_,ce.out⟩ ?a1 ?assign ?body ?done ?stop
  case hI=>rintro pre a4 X' dy ⟨A,vr,s⟩ G hr;exact⟨A,vr,s.own (by omega) cd G hr⟩
  case assign=>
   intro ch x W dz hK;gi_wp2
   exact hK
  case stop=>rintro D cc pre a4 _ _ hF _;exact hF.elim
  case body=>
   rintro ch pre ⟨t,ci⟩ a4 ⟨ai,K,s⟩ dF;have ht:=ah t ci;have a7:=tI (pre.map (·.1)) (q,c.dropLast) (fun y hy=>by
    obtain⟨a0,_,rfl⟩:=Jf.1 hy;exact A2 (ah a0.1 a0.2) hN)
   have cj:((pre++[(⟨t,ci⟩:Mem (u x))]).map (·.1)).foldl fQ (q,c.dropLast)=fQ ((pre.map (·.1)).foldl fQ (q,c.dropLast)) t:=by rw[Jp,List.foldl_append];rfl
   have aw:=aA cj;obtain⟨y,hy⟩:∃y,y=(pre.map (·.1)).foldl fQ (q,c.dropLast):=⟨_,rfl⟩;rw[← hy]at s a7 aw;have dL:y.2.length≤129:=by simp only[K3]at a7;omega
   have dg:=s.kb.size;have ck:=gS w.heap.size (w.heap.size+1) 0 #[ai] aL ai y.1 t a4 dg (by decide) s.cf rfl s.sf (by omega);have cl:=s.sf.canon;have HQ:=aA s;have HC:=aA cl;clear s hy cj a7 cl;dsimp only[jO,Array.zip,Array.foldl];gi_wp2
   refine⟨trivial,?_⟩;refine(CallsIn.inRound ch (IV.2 ck)).mono ?_
   clear ck;rintro e O ⟨rfl,v3,cm,cn⟩;obtain⟨z1,z2,z3⟩:=HQ.out.l9 cm cn;have HZ:=aA (And.intro z1 (And.intro z2 z3));clear z1 z2 z3 cm cn;cases Q:y.1.contains t
   ·have ab:fQ y t=(dB t y.1,y.2++[t]):=by unfold fQ;rw[Q];rfl
    have HP:=aA ab;have r:=HZ.out.1;obtain⟨co,cq,a8,_⟩:=r.sr.form;have S:Kb [] O (O.alloc (.cells #[.int .u64 (t:Int)] TN)):=(Kb.refl [] O).alloc _;have dT:=r.kb.size;obtain⟨ga,aj,w',ct,cu,cv,cx,_⟩:=run_append_lies (P:=hE) (O.alloc (.cells #[.int .u64 (t:Int)] TN)) TNs TNs w.heap.size TN i0 (.int .u64 0) 1 8 Tryz.underlying106 cO cS cW d0 rfl (by decide) K y.2.length (dO y.2) (r.sr.kb S (by simp)).1 ⟨O.heap.size,0,none⟩ 1 1 [.int .u64 (t:Int)] rfl (bU O _ _ _ rfl) (by intro e2 hu;simp at hu;rw[hu];rfl) (by omega) (by unfold maxLen;omega) (by omega) (by simp;omega) _ rfl;have P:Kb K.ownBlock.toList O w':=(S.mono (by simp)).trans (aS cv);have cy:cI w' w.heap.size (.slice (some ⟨ga,0,none⟩) (y.2.length+1) aj) (y.2++[t]):=by
     refine⟨?_,fun a0 T=>?_⟩
     ·have e1:dO (y.2++[t])=dO y.2++[.int .u64 (t:Int)]:=by simp[dO]
      rw[e1,List.length_append];exact cu
     ·rcases IK.1 T with T|T
      ·exact r.sr.2 a0 T
      ·rw[A1.1 T];omega
    have cA:(Value.slice (some ⟨ga,0,none⟩) (y.2.length+1) aj).ownBlock=K.ownBlock∨∀g,(Value.slice (some ⟨ga,0,none⟩) (y.2.length+1) aj).ownBlock=some g→O.heap.size≤g:=by
     rcases cx with Y|Y
     ·exact .inl Y.symm
     ·refine .inr (fun g G=>?_);simp[Jh]at G;rw[IW]at Y;omega
    obtain⟨u1,u2,u3⟩:=r.rows P cy cA;have HU:=aA (And.intro u1 (And.intro u2 u3));have ax:O.cell? ⟨n,0,none⟩=some K:=by rw[aC r.cr];rfl
    have bw:w'.heap[n]?=some (.cells #[K] TNs (0,0)):=P.heap r.cr (fun l=>by simp at l;exact r.sr.ne r.cr (by decide) l);have cw:w'.cell? ⟨n,0,none⟩=some K:=by rw[aC bw];rfl
    have fw:w'.frozen? ⟨n,0,none⟩=false:=aE bw 0;rw[a8]at ax ct cw;obtain⟨AP,dh⟩:∃AP,Builtin.append_ #[TNs,TNs] TNs #[.slice co y.2.length cq,.slice (some ⟨O.heap.size,0,none⟩) 1 1]=AP:=⟨_,rfl⟩;rw[dh]at ct;clear r a8 cu cv cx P cy cA u1 u2 u3 S bw ab HC HQ;have cB:=aA (And.intro (fun D=>(HZ.out.2.1 D).trans (HU.out.2.1 D)) (HZ.out.2.2.trans HU.out.2.2));gi_wp2
    refine⟨cB.out.1 _,cB.out.2,v3,.slice (some ⟨ga,0,none⟩) (y.2.length+1) aj,?_⟩;rw[aw.out,HP.out];exact HU.out.1
   ·have ab:fQ y t=y:=by unfold fQ;rw[Q];rfl
    have HP:=aA ab;have HS:=aA (nZ HC.out Q);clear ab HC HQ;gi_wp2
    refine⟨HZ.out.2.1 _,HZ.out.2.2,v3,K,?_⟩;rw[aw.out,HP.out];have h9:=HZ.out.1;rw[HS.out]at h9;exact h9
  case done=>
   rintro D xs a4 hD di ⟨ai,K,s⟩ hK;rw[di]at s;have a7:=tI (u x) (q,c.dropLast) (fun y hy=>A2 (ah y hy) hN);have ay:=GA (N:=N) (u x) (q,c.dropLast) ah d2 (fun a0 T=>bu a0 ((List.dropLast_sublist c).subset T));have C:=HE.out.1;simp only[K3]at a7;generalize (u x).foldl fQ (q,c.dropLast)=y at s a7 ay C;have r:=(s.ke hK (fun a0 T=>by have:=cd a0 T;omega) (by omega)).il (L':=[]) (by simp);obtain⟨co,cq,a8,_⟩:=r.sr.form;have ax:a4.cell? ⟨n,0,none⟩=some K:=by rw[aC r.cr];rfl
   have HB:=aA (And.intro r.box (And.intro C ay));rw[a8]at ax;have HV:=aA a8;clear s r a8 C ay HE ce;gi_wp2
   rw[← HV.out];exact⟨p,by omega,y.1,y.2,_,ai,K,F1,D::o,_,_,_,_,_,_,_,_,_,_,_,_,_,_,_,_,_,_,_,_,_,_,_,_,_,_,_,HB.out.1,HB.out.2.1,HB.out.2.2.1,HB.out.2.2.2,by omega,rfl⟩
end
end Go.Proofs.YtiamlbhkiehilaaGreatDoor
