import Derived.Test.YtiamlbhkiehilaaGreatDoorKq07
import Derived.Laws.CopyOwn
import Derived.Deep.RegionLaw
import Derived.Laws.AppendOwnNone
import Derived.Test.YtiamlbhkiehilaaGreatDoorKq01
import Derived.WalkSpells
import Derived.BigQuiet
import Derived.Deep.QuietTactic
import Derived.Scope
import Derived.ScopeJumps
namespace Go.Proofs.YtiamlbhkiehilaaGreatDoor
section
open Go.RowKit Go.Maps
def lessS(a b:ByteArray):Bool:=Op.bytesLess a.toList b.toList
def strsOf(l:List Fct):List ByteArray:=l.flatMap fun f=>[f.p,f.q]
def insAt:List ByteArray→ByteArray→Nat
 | [],_=>0
 |x::r,s=>if lessS x s=true then insAt r s+1 else 0
def insN(l:List ByteArray)(s:ByteArray):List ByteArray:=
 if l[insAt l s]?=some s then l else l.take (insAt l s)++s::l.drop (insAt l s)
def namesS(l:List ByteArray):List ByteArray:=l.foldl insN []
theorem strsOf_length(fs:List Fct):(strsOf fs).length=2*fs.length:=by
 induction fs with
 |nil=>rfl
 |cons f r ih=>
  have:strsOf (f::r)=f.p::f.q::strsOf r:=by simp[strsOf]
  rw[this];simp[ih];omega
theorem insAt_le(l:List ByteArray)(s:ByteArray):insAt l s≤l.length:=by
 induction l with
 |nil=>simp[insAt]
 |cons x r ih=>
  simp only[insAt];split
  ·simp;omega
  ·simp
theorem insAt_of{l:List ByteArray}{s:ByteArray}{k:Nat}(h:∀j x,j<k→l[j]?=some x→lessS x s=true)(hk:k≤l.length)(he:∀x,l[k]?=some x→lessS x s=false):insAt l s=k:=by
 induction l generalizing k with
 |nil=>simp at hk;subst hk;rfl
 |cons x r ih=>
  cases k with
  |zero=>
   have:=he x (by simp);simp[insAt,this]
  |succ k=>
   have h0:=h 0 x (by omega) (by simp);simp only[insAt,h0,if_true];rw[ih (k:=k) (fun j y hj hy=>h (j+1) y (by omega) (by simpa using hy)) (by simpa using hk) (fun y hy=>he y (by simpa using hy))]
theorem insN_new{l:List ByteArray}{s:ByteArray}{k:Nat}(hk:insAt l s=k)(h:l[k]?≠some s):insN l s=l.take k++s::l.drop k:=by
 subst hk;unfold insN;rw[if_neg h]
theorem insN_old{l:List ByteArray}{s:ByteArray}{k:Nat}(hk:insAt l s=k)(h:l[k]?=some s):insN l s=l:=by
 subst hk;unfold insN;rw[if_pos h]
end
section
open Go.RowKit Go.Maps
theorem infoStr:(Tryz.prog.info? 9).map (fun i=>(i.zero,i.size,i.bytes))=some (some (.string ⟨#[]⟩),1,16):=by kernel_rfl
theorem wrap_i64(x:Int)(h1:-9223372036854775808≤x)(h2:x≤9223372036854775807):IntKind.i64.wrap x=x:=by
 rw[IntKind.wrap_i64];omega
theorem lt_of_getElem?{α:Type}{l:List α}{i:Nat}{x:α}(h:l[i]?=some x):i<l.length:=(List.getElem?_eq_some_iff.1 h).1
theorem toList_inj{a b:ByteArray}(h:a.toList=b.toList):a=b:=by
 rw[ByteArray.toList_eq,ByteArray.toList_eq]at h;obtain⟨⟨x⟩⟩:=a;obtain⟨⟨y⟩⟩:=b;simp at h;subst h;rfl
end
section
open Go.RowKit Go.Maps
theorem bl_irrefl:∀x:List UInt8,Op.bytesLess x x=false
 | []=>rfl
 |a::x=>by simp[Op.bytesLess,bl_irrefl x]
theorem bl_trans:∀x y z:List UInt8,Op.bytesLess x y=true→Op.bytesLess y z=true→Op.bytesLess x z=true
 | [],_,[],_,h=>by
  rename_i y _;cases y<;>simp[Op.bytesLess]at h
 | [],_,_::_,_,_=>rfl
 |_::_,[],_,h,_=>by simp[Op.bytesLess]at h
 |_::_,_::_,[],_,h=>by simp[Op.bytesLess]at h
 |a::x,b::y,c::z,h1,h2=>by
  simp only[Op.bytesLess,Bool.or_eq_true,Bool.and_eq_true,decide_eq_true_eq,beq_iff_eq]at *;rcases h1 with h1|⟨rfl,h1⟩
  ·rcases h2 with h2|⟨rfl,_⟩
   ·exact .inl (UInt8.lt_trans h1 h2)
   ·exact .inl h1
  ·rcases h2 with h2|⟨rfl,h2⟩
   ·exact .inl h2
   ·exact .inr ⟨rfl,bl_trans x y z h1 h2⟩
theorem bl_total:∀x y:List UInt8,Op.bytesLess x y=false→x≠y→Op.bytesLess y x=true
 | [],[],_,h=>absurd rfl h
 | [],_::_,h,_=>by simp[Op.bytesLess]at h
 |_::_,[],_,_=>rfl
 |a::x,b::y,h1,h2=>by
  simp only[Op.bytesLess,Bool.or_eq_true,Bool.and_eq_true,Bool.or_eq_false_iff,decide_eq_true_eq,decide_eq_false_iff_not,beq_iff_eq]at *;by_cases e:b=a
  ·subst e;refine .inr ⟨rfl,bl_total x y ?_ (fun e=>h2 (by rw[e]))⟩;simpa using h1.2
  ·rcases UInt8.lt_or_lt_of_ne e with h|h
   ·exact .inl h
   ·exact absurd h h1.1
theorem lessS_irrefl(x:ByteArray):lessS x x=false:=bl_irrefl _
theorem lessS_trans{x y z:ByteArray}(h1:lessS x y=true)(h2:lessS y z=true):lessS x z=true:=bl_trans _ _ _ h1 h2
theorem bytes_inj{a b:ByteArray}(h:a.data.toList=b.data.toList):a=b:=by
 obtain⟨⟨x⟩⟩:=a;obtain⟨⟨y⟩⟩:=b;simp at h;subst h;rfl
theorem lessS_total{x y:ByteArray}(h1:lessS x y=false)(h2:x≠y):lessS y x=true:=
 bl_total _ _ h1 (fun e=>h2 (bytes_inj (by rwa [ByteArray.toList_eq,ByteArray.toList_eq]at e)))
def Asc(l:List ByteArray):Prop:=l.Pairwise fun x y=>lessS x y=true
theorem insAt_lt{l:List ByteArray}{s:ByteArray}:∀x∈l.take (insAt l s),lessS x s=true:=by
 induction l with
 |nil=>intro x hx;simp at hx
 |cons y r ih=>
  intro x hx;simp only[insAt]at hx;split at hx
  ·rename_i h;rw[List.take_succ_cons,List.mem_cons]at hx;rcases hx with rfl|hx
   ·exact h
   ·exact ih x hx
  ·simp at hx
theorem insAt_ge{l:List ByteArray}{s:ByteArray}{x:ByteArray}(h:l[insAt l s]?=some x):lessS x s=false:=by
 induction l with
 |nil=>simp at h
 |cons y r ih=>
  simp only[insAt]at h;split at h
  ·exact ih (by simpa using h)
  ·rename_i hn;simp at h;subst h;simpa using hn
theorem asc_mem{l:List ByteArray}{s:ByteArray}(h:Asc l)(hs:s∈l):l[insAt l s]?=some s:=by
 induction l with
 |nil=>simp at hs
 |cons y r ih=>
  rw[Asc,List.pairwise_cons]at h;rw[List.mem_cons]at hs;simp only[insAt];by_cases e:s=y
  ·subst e;rw[if_neg (by rw[lessS_irrefl];simp)];rfl
  ·have hr:s∈r:=hs.resolve_left e;rw[if_pos (h.1 s hr)];simpa using ih h.2 hr
theorem asc_ins{l:List ByteArray}(s:ByteArray)(h:Asc l):Asc (insN l s):=by
 unfold insN;split
 ·exact h
 ·rename_i hne;have hl:l.take (insAt l s)++l.drop (insAt l s)=l:=List.take_append_drop _ _;have h':=h;rw[Asc,← hl,List.pairwise_append]at h';obtain⟨h1,h2,h3⟩:=h';rw[Asc,List.pairwise_append];have hs:∀y∈l.drop (insAt l s),lessS s y=true:=by
   cases hd:l.drop (insAt l s)with
   |nil=>intro y hy;simp at hy
   |cons z r=>
    have hz:l[insAt l s]?=some z:=by
     have:=congrArg (fun t=>t[0]?) hd;simpa using this
    have hzs:lessS s z=true:=lessS_total (insAt_ge hz) (fun e=>hne (by rw[hz,e]));rw[hd,List.pairwise_cons]at h2;intro y hy;rw[List.mem_cons]at hy;rcases hy with rfl|hy
    ·exact hzs
    ·exact lessS_trans hzs (h2.1 y hy)
  refine⟨h1,List.pairwise_cons.2 ⟨hs,h2⟩,fun a ha b hb=>?_⟩;rw[List.mem_cons]at hb;rcases hb with rfl|hb
  ·exact insAt_lt a ha
  ·exact h3 a ha b hb
theorem perm_ins{l:List ByteArray}{acc:List (List UInt8)}(s:ByteArray)(h:Asc l)(hp:(l.map (·.data.toList)).Perm acc):((insN l s).map (·.data.toList)).Perm (addN acc s.data.toList):=by
 have hm:s∈l↔s.data.toList∈acc:=by
  rw[← hp.mem_iff,List.mem_map];constructor
  ·intro hs;exact⟨s,hs,rfl⟩
  ·rintro⟨y,hy,e⟩;rwa [← bytes_inj e]
 unfold insN addN;by_cases hs:s∈l
 ·rw[if_pos (asc_mem h hs),if_pos (hm.1 hs)];exact hp
 ·rw[if_neg (fun e=>hs (List.mem_of_getElem? e)),if_neg (fun e=>hs (hm.2 e)),List.map_append,List.map_cons];refine List.perm_middle.trans ?_
  rw[← List.map_append,List.take_append_drop];exact(List.Perm.cons _ hp).trans (List.perm_append_singleton _ _).symm
theorem perm_fold(l out:List ByteArray)(acc:List (List UInt8))(h:Asc out)(hp:(out.map (·.data.toList)).Perm acc) :
  Asc (l.foldl insN out)∧((l.foldl insN out).map (·.data.toList)).Perm ((l.map (·.data.toList)).foldl addN acc):=by
 induction l generalizing out acc with
 |nil=>exact⟨h,hp⟩
 |cons s r ih=>exact ih _ _ (asc_ins s h) (perm_ins s h hp)
theorem asc_names(l:List ByteArray):Asc (namesS l):=(perm_fold l [] [] List.Pairwise.nil (List.Perm.refl _)).1
theorem strs_names(fs:List Fct):(strsOf fs).map (·.data.toList)=namesL fs:=by
 induction fs with
 |nil=>rfl
 |cons f r ih=>
  have e1:strsOf (f::r)=f.p::f.q::strsOf r:=by simp[strsOf]
  have e2:namesL (f::r)=f.p.data.toList::f.q.data.toList::namesL r:=by simp[namesL]
  rw[e1,e2,List.map_cons,List.map_cons,ih]
theorem names_length(fs:List Fct):(namesS (strsOf fs)).length=dcount (namesL fs):=by
 have h:=(perm_fold (strsOf fs) [] [] List.Pairwise.nil (List.Perm.refl _)).2.length_eq;rw[List.length_map,strs_names]at h;exact h
end
section
open Go.RowKit Go.Maps
theorem infoFact:(Tryz.prog.info? 48).map (fun i=>(i.zero,i.size,i.bytes))=some (some (.agg #[.int .i64 0,.string ⟨#[]⟩,.string ⟨#[]⟩]),3,40):=by kernel_rfl
def cellsF(fs:List Fct):List Value:=fs.flatMap fun f=>[.int .i64 f.k,.string f.p,.string f.q]
theorem cellsF_get(fs:List Fct)(i:Nat)(k:Int)(p q:ByteArray)(h:fs[i]?=some ⟨k,p,q⟩) :
  (cellsF fs)[i*3]?=some (.int .i64 k)∧(cellsF fs)[i*3+1]?=some (.string p)∧(cellsF fs)[i*3+2]?=some (.string q):=by
 induction fs generalizing i with
 |nil=>simp at h
 |cons f r ih=>
  have e:cellsF (f::r)=.int .i64 f.k :: .string f.p :: .string f.q::cellsF r:=by simp[cellsF]
  rw[e];cases i with
  |zero=>
   simp at h;subst h;exact⟨rfl,rfl,rfl⟩
  |succ i=>
   have:=ih i (by simpa using h);have e2:(i+1)*3=i*3+1+1+1:=by omega
   rw[e2];simpa using this
theorem cellsF_snoc(fs:List Fct)(f:Fct):cellsF (fs++[f])=cellsF fs++[.int .i64 f.k,.string f.p,.string f.q]:=by simp[cellsF]
theorem facts_of_owns{w:World}{B:Nat}{v:Value}{fs:List Fct}(h:w.ownsRow B 48 3 v fs.length (cellsF fs)):IsFacts v fs w:=by
 rcases h.2 with⟨rfl,h0⟩|⟨g,cap,cur,rfl,_,hg,hnc,_,hcs,htk⟩
 ·refine⟨none,0,by rw[h0],by omega,fun _=>rfl,fun hne=>?_⟩;exact absurd (List.length_eq_zero_iff.1 h0) hne
 ·refine⟨some ⟨g,0,none⟩,cap,rfl,hnc,(fun h=>by cases h),fun _=>⟨g,0,rfl,lt_of_heap hg,?_⟩⟩;intro i k p q hi;have hl:=lt_of_getElem? hi;obtain⟨g0,g1,g2⟩:=cellsF_get fs _ _ _ _ hi;have hc:∀j u,j<fs.length*3→(cellsF fs)[j]?=some u→w.cell? ⟨g,0+j,none⟩=some u:=by
   intro j u hj hu;rw[Nat.zero_add,cell_at hg];rw[← htk,List.getElem?_take,if_pos hj]at hu;simpa using hu
  exact⟨hc _ _ (by omega) g0,hc _ _ (by omega) g1,hc _ _ (by omega) g2⟩
theorem cell_three_new(w:World)(a b c:Value)(t:TypeId):∀j u,[a,b,c][j]?=some u→(w.alloc (.cells #[a,b,c] t)).cell? ((⟨w.heap.size,0,none⟩:Addr).add j)=some u:=by
 intro j u hj;rw[Addr.add_lit,Nat.zero_add,cell_at (heap_new w _)];simpa using hj
end
section
open Go.RowKit
theorem lt_get{α:Type}{l:List α}{i:Nat}{x:α}(h:l[i]?=some x):i<l.length:=(List.getElem?_eq_some_iff.1 h).1
structure RowD where
 name:ByteArray
 to:List ByteArray
def leqS(a b:ByteArray):Bool:=Op.bytesLess a.toList b.toList || a.toList == b.toList
theorem leqS_eq(a b:ByteArray):leqS a b=!lessS b a:=by
 unfold leqS;cases h:lessS b a
 ·cases h2:Op.bytesLess a.toList b.toList
  ·by_cases e:a=b
   ·subst e;simp
   ·have:=lessS_total (x:=a) (y:=b) h2 e;rw[h]at this;cases this
  ·simp
 ·have h1:lessS a b=false:=by
   cases h1:lessS a b
   ·rfl
   ·have:=lessS_trans h h1;rw[lessS_irrefl]at this;cases this
  have h2:(a.toList == b.toList)=false:=by
   rw[beq_eq_false_iff_ne];intro e;have e2:a=b:=bytes_inj (by rwa [ByteArray.toList_eq,ByteArray.toList_eq]at e);rw[e2,lessS_irrefl]at h;cases h
  have h3:Op.bytesLess a.toList b.toList=false:=h1;simp[h2,h3]
def ascB:List ByteArray→Bool
 | []=>true
 | [_]=>true
 |a::b::r=>lessS a b && ascB (b::r)
theorem ascB_snoc(l:List ByteArray)(a b:ByteArray):ascB (l++[a,b])=(ascB (l++[a]) && lessS a b):=by
 induction l with
 |nil=>simp[ascB]
 |cons x r ih=>
  cases r with
  |nil=>simp[ascB]
  |cons y s=>
   have e1:(x::y::s)++[a,b]=x::y::(s++[a,b]):=rfl;have e2:(x::y::s)++[a]=x::y::(s++[a]):=rfl;rw[e1,e2];simp only[ascB];have ih':ascB (y::(s++[a,b]))=(ascB (y::(s++[a])) && lessS a b):=ih;rw[ih',Bool.and_assoc]
theorem ascB_take_false{l:List ByteArray}{k:Nat}(h:ascB (l.take k)=false):ascB l=false:=by
 induction l generalizing k with
 |nil=>simp at h;rw[h]
 |cons x r ih=>
  cases k with
  |zero=>simp[ascB]at h
  |succ k=>
   cases r with
   |nil=>simp[ascB]at h
   |cons y s=>
    cases k with
    |zero=>simp[ascB]at h
    |succ k=>
     have e:(x::y::s).take (k+1+1)=x::y::s.take k:=rfl;rw[e]at h;simp only[ascB,Bool.and_eq_false_iff]at h ⊢;rcases h with h|h
     ·exact .inl h
     ·exact .inr (ih (k:=k+1) h)
theorem ascB_step{l:List ByteArray}{k:Nat}{a b:ByteArray}(ha:l[k]?=some a)(hb:l[k+1]?=some b):ascB (l.take (k+1+1))=(ascB (l.take (k+1)) && lessS a b):=by
 rw[take_next hb,take_next ha,List.append_assoc];exact ascB_snoc _ _ _
theorem ascB_one(l:List ByteArray):ascB (l.take 1)=true:=by
 cases l<;>rfl
def longS(s:ByteArray):Bool:=decide (12<s.size)
def isN(s:ByteArray):Bool:=nameB s.data.toList
def rowNames(r:RowD):Bool:=isN r.name && r.to.all isN
def rowLong(r:RowD):Bool:=longS r.name || r.to.any longS
def rowErr(r:RowD)(ahead:ByteArray):Int:=
 if rowNames r && ascB r.to then(if rowLong r then 5 else if leqS r.name ahead then 4 else 0)else 4
def toText:List ByteArray→List UInt8
 | []=>[]
 |s::r=>32::s.data.toList++toText r
def rowText(r:RowD):List UInt8:=r.name.data.toList++58::(toText r.to++[10])
theorem toText_snoc(l:List ByteArray)(s:ByteArray):toText (l++[s])=toText l++32::s.data.toList:=by
 induction l with
 |nil=>simp[toText]
 |cons x r ih=>simp[toText,ih]
def rowsText:List RowD→List UInt8
 | []=>[]
 |r::s=>rowText r++rowsText s
theorem rowsText_snoc(l:List RowD)(r:RowD):rowsText (l++[r])=rowsText l++rowText r:=by
 induction l with
 |nil=>simp[rowsText]
 |cons x s ih=>simp[rowsText,ih]
theorem rowsText_take{l:List RowD}{k:Nat}:(rowsText (l.take k)).length≤(rowsText l).length:=by
 induction l generalizing k with
 |nil=>simp
 |cons x r ih=>
  cases k with
  |zero=>simp[rowsText]
  |succ k=>
   simp only[List.take_succ_cons,rowsText,List.length_append];have:=ih (k:=k);omega
def tellGo(ahead:ByteArray):Nat→List UInt8→List RowD→List UInt8 × Int × Int
 |_,acc,[]=>if 25000<acc.length then([],2,0)else(acc,0,0)
 |i,acc,r::s=>if rowErr r ahead=0 then tellGo r.name (i+1) (acc++rowText r) s else([],rowErr r ahead,(i:Int)+1)
def lastName:List RowD→ByteArray
 | []=>⟨#[]⟩
 | [r]=>r.name
 |_::r::s=>lastName (r::s)
theorem lastName_snoc(l:List RowD)(r:RowD):lastName (l++[r])=r.name:=by
 induction l with
 |nil=>rfl
 |cons x s ih=>
  cases s with
  |nil=>rfl
  |cons y t=>exact ih
end
section
open Go.RowKit
def StrsAt(b off:Nat)(ss:List ByteArray)(w:World):Prop:=∀i s,ss[i]?=some s→w.cell? ⟨b,off+i,none⟩=some (.string s)
def IsStrs(v:Value)(ss:List ByteArray)(w:World):Prop:=
 ∃ao cap,v=.slice ao ss.length cap∧ss.length≤cap∧(ao=none→cap=0)∧(ss≠[]→∃b off,ao=some ⟨b,off,none⟩∧b<w.heap.size∧StrsAt b off ss w)
def fitsS(ss:List ByteArray):Prop:=∀s∈ss,s.size≤maxLen
theorem StrsAt.below{b off:Nat}{ss:List ByteArray}{w w':World}(h:StrsAt b off ss w){B:Nat}(hb:Below B w w')(hlt:b<B):StrsAt b off ss w':=
 fun i s hi=>(hb.cell (p:=⟨b,_,none⟩) hlt).trans (h i s hi)
theorem IsStrs.below{v:Value}{ss:List ByteArray}{w w':World}(h:IsStrs v ss w)(hb:Below w.heap.size w w'):IsStrs v ss w':=by
 obtain⟨ao,cap,rfl,hc,hn,h⟩:=h;refine⟨ao,cap,rfl,hc,hn,fun hne=>?_⟩;obtain⟨b,off,rfl,hlt,hf⟩:=h hne;exact⟨b,off,rfl,Nat.lt_of_lt_of_le hlt hb.size,hf.below hb hlt⟩
theorem below_drewN{w w':World}(h:Below w.heap.size w w')(n:Nat):Below w.heap.size w (w'.drewN n):=⟨h.os,h.tape,h.output,h.size,h.block⟩
theorem ne_nil_of_get{α:Type}{l:List α}{i:Nat}{x:α}(h:l[i]?=some x):l≠[]:=by
 rintro rfl;simp at h
set_option maxHeartbeats 400000 in
theorem inOrder_any(v:Value)(ss:List ByteArray)(w:World)(hlen:ss.length≤maxLen)(hv:IsStrs v ss w) :
  Calls Tryz.prog 102 #[v] w fun e w'=>e=.returned (.bool (ascB ss))∧Below w.heap.size w w':=by
 obtain⟨ao,cap,rfl,_,_,hne0⟩:=hv;have hne:=hide hne0;clear hne0;unfold maxLen at hlen;go_enter Tryz.func102,Tryz.ntmps102
 go_wp2;go_loopw [3] (fun i wr=>∃j:Nat,i=.int .i64 ((j:Int)+1)∧(j+1≤ss.length∨j=0)∧Hid (ascB (ss.take (j+1))=true)∧Below w.heap.size w wr) (fun i _=>ss.length-(intOf i).toNat)
 case atStart=>exact⟨0,rfl,Or.inr rfl,ascB_one ss,Below.refl _ _⟩
 case round=>
  obtain⟨j,rfl,hj,HA,hb⟩:=hrel;by_cases hlt:j+1<ss.length
  ·clear hj;obtain⟨a,ha⟩:∃a,ss[j]?=some a:=⟨_,List.getElem?_eq_getElem (by omega)⟩;obtain⟨c,hc⟩:∃c,ss[j+1]?=some c:=⟨_,List.getElem?_eq_getElem hlt⟩;obtain⟨b,off,hao,hbw,hs⟩:=hne.out (ne_nil_of_get ha);subst hao;have d0:=(hs.below hb hbw) j a ha;have d1:=(hs.below hb hbw) (j+1) c hc;have hst:=ascB_step ha hc;rw[HA.out,Bool.true_and]at hst;have hle:=leqS_eq c a;clear ha hc hs hne;cases hl:lessS a c
   ·rw[hl]at hst hle;have HF:=hide (ascB_take_false hst);have hq:(Op.bytesLess c.toList a.toList || c.toList == a.toList)=true:=hle;clear hst hle hl;go_wp2;go_quiet (fail)
    go_wp2;go_ret
    exact⟨by rw[HF.out];rfl,below_drewN hb _⟩
   ·rw[hl]at hst hle;have HS:=hide hst;have hq:(Op.bytesLess c.toList a.toList || c.toList == a.toList)=false:=hle;clear hst hle hl;go_wp2;go_quiet (fail)
    go_wp2;go_roundw
    case rel=>exact⟨j+1,by go_num,Or.inl (by omega),HS.out,below_drewN hb _⟩
    case measure=>simp[intOf];omega
  ·have HF:Hid (ascB ss=true):=by
    have h:=HA.out;rwa [List.take_of_length_le (by omega)]at h
   go_wp2;go_ret
   exact⟨by rw[HF.out];rfl,hb⟩
end
section
open Go.RowKit Go.Maps
end
section
def jumpsTo(J:Nat→Act→World→Prop)(Q:Exit→Act→World→Prop):Exit→Act→World→Prop
 | .goto l,a,w=>J l a w
 |e,a,w=>Q e a w
theorem wp_scope_labels{P:Program}{a:Act}{w:World}{Q:Exit→Act→World→Prop}{c:Code}(J:Nat→Act→World→Prop)(μ:Nat→Act→World→Nat)
  (pass0:∀l a w,J l a w→∃rest,findLabel c l=some (Code.skip.seq rest)∧rest.wp P (jumpsTo (fun l' a' w'=>J l' a' w'∧μ l' a' w'<μ l a w) Q) a w)
  (first:(∀l a w,J l a w→∃rest,findLabel c l=some (Code.skip.seq rest)∧rest.wp P (jumpsTo J Q) a w)→c.wp P (jumpsTo J Q) a w):(Code.scope c).wp P Q a w:=by
 have pass:∀l a w,J l a w→∃rest,findLabel c l=some rest∧rest.wp P (jumpsTo (fun l' a' w'=>J l' a' w'∧μ l' a' w'<μ l a w) Q) a w:=by
  intro l a w hJ;obtain⟨rest,hr,hw⟩:=pass0 l a w hJ;exact⟨_,hr,wp_seq (wp_skip hw)⟩
 have weak:∀l a w,J l a w→∃rest,findLabel c l=some (Code.skip.seq rest)∧rest.wp P (jumpsTo J Q) a w:=by
  intro l a w hJ;obtain⟨rest,hr,hw⟩:=pass0 l a w hJ;refine⟨rest,hr,Code.wp_mono ?_ hw⟩;intro e a' w' h;cases e
  case goto=>exact h.1
  all_goals exact h
 intro b k cs;have fin:∀(n l:Nat) (a:Act) (w:World),μ l a w=n→J l a w→∀rest,findLabel c l=some rest→∃e a' w',Q e a' w'∧Arrives P (lone (b.at a (.code rest :: .inScope c::k)) cs w) b k cs e a' w':=by
  intro n;induction n using Nat.strongRecOn with
  |_ n ih=>
   intro l a w hn hJ rest hr;obtain⟨rest',hr',hp⟩:=pass l a w hJ;have:rest'=rest:=Option.some.inj (hr'.symm.trans hr);subst this;obtain⟨e,a₁,w₁,hq,harr⟩:=hp b (.inScope c::k) cs;cases e
   case goto l'=>
    obtain⟨hJ',hlt⟩:=hq;obtain⟨r2,hr2,_⟩:=pass l' a₁ w₁ hJ';obtain⟨e₂,a₂,w₂,hq₂,harr₂⟩:=ih _ (hn ▸ hlt) l' a₁ w₁ rfl hJ' r2 hr2;exact⟨e₂,a₂,w₂,hq₂,.of_steps (harr _ (by simp[gotoIn,hr2])) harr₂⟩
   case normal=>exact⟨_,_,_,hq,Steps.trans harr (.one step_inScope)⟩
   case exit id=>exact⟨_,_,_,hq,fun k' hk=>harr k' (by simp[exitTo,hk])⟩
   all_goals exact⟨_,_,_,hq,harr⟩
 obtain⟨e,a₁,w₁,hq,harr⟩:=first weak b (.inScope c::k) cs
 cases e
 case goto l'=>
  obtain⟨r2,hr2,_⟩:=pass l' a₁ w₁ hq;obtain⟨e₂,a₂,w₂,hq₂,harr₂⟩:=fin _ l' a₁ w₁ rfl hq r2 hr2;exact⟨e₂,a₂,w₂,hq₂,.of_steps (.head step_scope (harr _ (by simp[gotoIn,hr2]))) harr₂⟩
 case normal=>exact⟨_,_,_,hq,.head step_scope (Steps.trans harr (.one step_inScope))⟩
 case exit id=>exact⟨_,_,_,hq,fun k' hk=>.head step_scope (harr k' (by simp[exitTo,hk]))⟩
 all_goals exact⟨_,_,_,hq,.of_steps (.one step_scope) harr⟩
end
section
open Go.RowKit Go.Maps
def lnI(s:ByteArray):Nat→List ByteArray × Nat
 |0=>([],0)
 |i+1=>if s.data.toList[i]?=some 10 then((lnI s i).1++[s.extract (lnI s i).2 i],i+1)else lnI s i
def linesB(s:ByteArray):List ByteArray:=(lnI s s.size).1++[s.extract (lnI s s.size).2 s.size]
theorem lnI_le(s:ByteArray)(i:Nat):(lnI s i).2≤i:=by
 induction i with
 |zero=>exact Nat.le_refl _
 |succ i ih=>
  unfold lnI;split
  ·exact Nat.le_refl _
  ·omega
theorem lnI_len(s:ByteArray)(i:Nat):(lnI s i).1.length≤i:=by
 induction i with
 |zero=>exact Nat.le_refl _
 |succ i ih=>
  unfold lnI;split
  ·simp;omega
  ·omega
end
section
open Go.RowKit Go.Maps
def byteAt(s:ByteArray)(k:Nat):Int:=if h:k<s.size then(s[k].toNat:Int)else 0
theorem byteAt_lt{s:ByteArray}{k:Nat}(h:k<s.size):byteAt s k=(s[k].toNat:Int):=by simp[byteAt,h]
def nEndN(s:ByteArray):Nat→Nat→Nat
 |0,k=>k
 |f+1,k=>if partB (byteAt s k)=true then nEndN s f (k+1)else k
def nEnd(s:ByteArray)(k:Nat):Nat:=nEndN s (s.size-k) k
theorem nEnd_end{s:ByteArray}{k:Nat}(h:s.size≤k):nEnd s k=k:=by
 unfold nEnd;rw[Nat.sub_eq_zero_of_le h];rfl
theorem nEnd_no{s:ByteArray}{k:Nat}(h:k<s.size)(hp:partB (s[k].toNat:Int)=false):nEnd s k=k:=by
 unfold nEnd;obtain⟨f,hf⟩:∃f,s.size-k=f+1:=⟨s.size-k-1,by omega⟩;rw[hf];simp only[nEndN,byteAt_lt h,hp];simp
theorem nEnd_yes{s:ByteArray}{k:Nat}(h:k<s.size)(hp:partB (s[k].toNat:Int)=true):nEnd s k=nEnd s (k+1):=by
 unfold nEnd;obtain⟨f,hf⟩:∃f,s.size-k=f+1:=⟨s.size-k-1,by omega⟩;have hf2:s.size-(k+1)=f:=by omega
 rw[hf,hf2];simp only[nEndN,byteAt_lt h,hp];simp
theorem nEndN_ge(s:ByteArray)(f k:Nat):k≤nEndN s f k:=by
 induction f generalizing k with
 |zero=>exact Nat.le_refl _
 |succ f ih=>
  unfold nEndN;split
  ·have:=ih (k+1);omega
  ·exact Nat.le_refl _
theorem nEnd_ge(s:ByteArray)(k:Nat):k≤nEnd s k:=nEndN_ge _ _ _
theorem nEndN_le(s:ByteArray)(f k:Nat):nEndN s f k≤k+f:=by
 induction f generalizing k with
 |zero=>exact Nat.le_refl _
 |succ f ih=>
  unfold nEndN;split
  ·have:=ih (k+1);omega
  ·omega
theorem nEnd_le{s:ByteArray}{k:Nat}(h:k≤s.size):nEnd s k≤s.size:=by
 have:=nEndN_le s (s.size-k) k;unfold nEnd;omega
def kindB(c:Int):Nat:=
 if c=35 then 0 else if c=32∨c=9 then 1 else if c=61∨c=38∨c=42 then 2 else if startB c=true then 3 else 4
def wordsN(s:ByteArray):Nat→Nat→List ByteArray→Option (List ByteArray)
 |0,_,out=>some out
 |f+1,i,out=>
  if s.size≤i then some out
  else if kindB (byteAt s i)=0 then some out
  else if kindB (byteAt s i)=1 then wordsN s f (i+1) out
  else if kindB (byteAt s i)=2 then wordsN s f (i+1) (out++[s.extract i (i+1)])
  else if kindB (byteAt s i)=3 then wordsN s f (nEnd s (i+1)) (out++[s.extract i (nEnd s (i+1))])
  else none
def wordsR(s:ByteArray)(i:Nat)(out:List ByteArray):Option (List ByteArray):=wordsN s (s.size-i) i out
theorem wordsN_end(s:ByteArray)(f i:Nat)(out:List ByteArray)(h:s.size≤i):wordsN s f i out=some out:=by
 cases f with
 |zero=>rfl
 |succ f=>simp only[wordsN,if_pos h]
theorem wordsN_fuel(s:ByteArray)(f g i:Nat)(out:List ByteArray)(hf:s.size-i≤f)(hg:s.size-i≤g):wordsN s f i out=wordsN s g i out:=by
 induction f generalizing g i out with
 |zero=>rw[wordsN_end s 0 i out (by omega),wordsN_end s g i out (by omega)]
 |succ f ih=>
  by_cases h:s.size≤i
  ·rw[wordsN_end s _ i out h,wordsN_end s _ i out h]
  ·obtain⟨g,rfl⟩:∃g',g=g'+1:=⟨g-1,by omega⟩;have hn:=nEnd_ge s (i+1);unfold wordsN;rw[ih g (i+1) out (by omega) (by omega),ih g (i+1) (out++[s.extract i (i+1)]) (by omega) (by omega),ih g (nEnd s (i+1)) _ (by omega) (by omega)]
theorem wordsR_step{s:ByteArray}{i:Nat}{out:List ByteArray}(h:i<s.size):wordsR s i out =
  if kindB (s[i].toNat:Int)=0 then some out
  else if kindB (s[i].toNat:Int)=1 then wordsR s (i+1) out
  else if kindB (s[i].toNat:Int)=2 then wordsR s (i+1) (out++[s.extract i (i+1)])
  else if kindB (s[i].toNat:Int)=3 then wordsR s (nEnd s (i+1)) (out++[s.extract i (nEnd s (i+1))])
  else none:=by
 obtain⟨f,hf⟩:∃f,s.size-i=f+1:=⟨s.size-i-1,by omega⟩;have hn:=nEnd_ge s (i+1);have e1:∀o,wordsR s (i+1) o=wordsN s f (i+1) o:=fun o=>wordsN_fuel _ _ _ _ _ (by omega) (by omega)
 have e2:∀o,wordsR s (nEnd s (i+1)) o=wordsN s f (nEnd s (i+1)) o:=fun o=>wordsN_fuel _ _ _ _ _ (by omega) (by omega)
 simp only[e1,e2];unfold wordsR;rw[hf];simp only[wordsN,byteAt_lt h];rw[if_neg (by omega)]
theorem wordsR_end{s:ByteArray}{i:Nat}{out:List ByteArray}(h:s.size≤i):wordsR s i out=some out:=wordsN_end _ _ _ _ h
theorem wordsR_0{s:ByteArray}{i:Nat}{out:List ByteArray}(h:i<s.size)(k:kindB (s[i].toNat:Int)=0):wordsR s i out=some out:=by simp[wordsR_step h,k]
theorem wordsR_1{s:ByteArray}{i:Nat}{out:List ByteArray}(h:i<s.size)(k:kindB (s[i].toNat:Int)=1):wordsR s i out=wordsR s (i+1) out:=by rw[wordsR_step h,k];simp
theorem wordsR_2{s:ByteArray}{i:Nat}{out:List ByteArray}(h:i<s.size)(k:kindB (s[i].toNat:Int)=2):wordsR s i out=wordsR s (i+1) (out++[s.extract i (i+1)]):=by rw[wordsR_step h,k];simp
theorem wordsR_3{s:ByteArray}{i:Nat}{out:List ByteArray}(h:i<s.size)(k:kindB (s[i].toNat:Int)=3):wordsR s i out=wordsR s (nEnd s (i+1)) (out++[s.extract i (nEnd s (i+1))]):=by rw[wordsR_step h,k];simp
theorem wordsR_4{s:ByteArray}{i:Nat}{out:List ByteArray}(h:i<s.size)(k:kindB (s[i].toNat:Int)=4):wordsR s i out=none:=by rw[wordsR_step h,k];simp
theorem wordsN_size(s:ByteArray)(f i:Nat)(out ws:List ByteArray)(h:wordsN s f i out=some ws)(ho:∀x∈out,x.size≤s.size):∀x∈ws,x.size≤s.size:=by
 have ext:∀a b,∀x∈out++[s.extract a b],x.size≤s.size:=by
  intro a b x hx;rcases List.mem_append.1 hx with hx|hx
  ·exact ho x hx
  ·rw[List.mem_singleton.1 hx,ByteArray.size_extract];omega
 induction f generalizing i out with
 |zero=>
  simp only[wordsN,Option.some.injEq]at h;subst h;exact ho
 |succ f ih=>
  unfold wordsN at h;have ext2:∀(o:List ByteArray),(∀x∈o,x.size≤s.size)→∀a b,∀x∈o++[s.extract a b],x.size≤s.size:=by
   intro o ho a b x hx;rcases List.mem_append.1 hx with hx|hx
   ·exact ho x hx
   ·rw[List.mem_singleton.1 hx,ByteArray.size_extract];omega
  repeat' split at h
  ·simp only[Option.some.injEq]at h;subst h;exact ho
  ·simp only[Option.some.injEq]at h;subst h;exact ho
  ·exact ih _ _ h ho ext
  ·exact ih _ _ h (ext _ _) (ext2 _ (ext _ _))
  ·exact ih _ _ h (ext _ _) (ext2 _ (ext _ _))
  ·cases h
theorem wordsR_size{s:ByteArray}{ws:List ByteArray}(h:wordsR s 0 []=some ws):∀x∈ws,x.size≤s.size:=wordsN_size s _ _ [] ws h (by simp)
theorem kindB_cases(c:Int):(c=35∧kindB c=0)∨(c≠35∧(c=32∨c=9)∧kindB c=1)∨(c≠35∧¬(c=32∨c=9)∧(c=61∨c=38∨c=42)∧kindB c=2) ∨
  (c≠35∧¬(c=32∨c=9)∧¬(c=61∨c=38∨c=42)∧startB c=true∧kindB c=3)∨(c≠35∧¬(c=32∨c=9)∧¬(c=61∨c=38∨c=42)∧startB c=false∧kindB c=4):=by
 unfold kindB;by_cases h1:c=35
 ·simp[h1]
 ·by_cases h2:c=32∨c=9
  ·simp only[if_neg h1,if_pos h2];simp[h1,h2]
  ·by_cases h3:c=61∨c=38∨c=42
   ·simp only[if_neg h1,if_neg h2,if_pos h3];simp[h1,h2,h3]
   ·cases h4:startB c
    ·exact .inr (.inr (.inr (.inr ⟨h1,h2,h3,rfl,by simp[if_neg h1,if_neg h2,if_neg h3]⟩)))
    ·exact .inr (.inr (.inr (.inl ⟨h1,h2,h3,rfl,by simp[if_neg h1,if_neg h2,if_neg h3]⟩)))
end
end Go.Proofs.YtiamlbhkiehilaaGreatDoor
