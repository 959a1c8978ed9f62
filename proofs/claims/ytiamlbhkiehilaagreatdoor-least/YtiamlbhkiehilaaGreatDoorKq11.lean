import Derived.Test.YtiamlbhkiehilaaGreatDoorKq10
import Derived.Test.YtiamlbhkiehilaaGreatDoorKq08
import Derived.ArgAppend
import Derived.Laws.AppendOwn
import Derived.Test.YtiamlbhkiehilaaGreatDoorKq09
import Derived.Deep.AppendLies
import Derived.Deep.RegionLaw
import Derived.Test.YtiamlbhkiehilaaGreatDoorKq07
namespace Go.Proofs.YtiamlbhkiehilaaGreatDoor
section
open Go.RowKit Go.Maps
end
section
open Go.RowKit Go.Maps
end
section
open Go
section
variable {P:Program} (w:World)
end
end
section
open Go.RowKit Go.Maps
theorem own_set{w:World}{B:Nat}{e:TypeId}{size g n cap:Nat}{xs:List Value}(h:w.ownsRow B e size (.slice (some ⟨g,0,none⟩) n cap) n xs)(j:Nat)(v:Value) :
  (w.setCell ⟨g,j,none⟩ v).ownsRow B e size (.slice (some ⟨g,0,none⟩) n cap) n (xs.set j v):=by
 refine⟨by rw[List.length_set];exact h.1,?_⟩;rcases h.2 with⟨h1,_⟩|⟨g',cap',cur,h1,hB,hg,hnc,hcm,hcs,htk⟩
 ·cases h1
 ·injection h1 with e1 _ e3;injection e1 with e1;injection e1 with e1;subst e1 e3;refine .inr ⟨g,cap,_,rfl,hB,heap_set hg j v,hnc,hcm,by simpa using hcs,?_⟩;rw[Array.toList_setIfInBounds,List.take_set,htk]
theorem own_cell{w:World}{B:Nat}{e:TypeId}{size g n cap:Nat}{xs:List Value}(h:w.ownsRow B e size (.slice (some ⟨g,0,none⟩) n cap) n xs) :
  (∀(j:Nat) u,xs[j]?=some u→w.cell? ⟨g,j,none⟩=some u)∧(∀o,w.frozen? ⟨g,o,none⟩=false):=by
 rcases h.2 with⟨h1,_⟩|⟨g',cap',cur,h1,hB,hg,hnc,hcm,hcs,htk⟩
 ·cases h1
 ·injection h1 with e1 _ e3;injection e1 with e1;injection e1 with e1;subst e1 e3;refine⟨fun j u hu=>?_,fun o=>frozen_at hg o⟩;have hl:=lt_of_getElem? hu;rw[h.1]at hl;rw[cell_at hg];rw[← htk,List.getElem?_take,if_pos hl]at hu;simpa using hu
theorem own_form{w:World}{B:Nat}{e:TypeId}{size n:Nat}{v:Value}{xs:List Value}(h:w.ownsRow B e size v n xs) :
  ∃ao cap,v=.slice ao n cap∧(0<n→∃g,ao=some ⟨g,0,none⟩):=by
 rcases h.2 with⟨rfl,rfl⟩|⟨g,cap,cur,rfl,_⟩
 ·exact⟨none,0,rfl,fun h=>absurd h (Nat.lt_irrefl _)⟩
 ·exact⟨_,cap,rfl,fun _=>⟨g,rfl⟩⟩
theorem own_kbL{w w':World}{B:Nat}{e:TypeId}{size n:Nat}{v:Value}{xs:List Value}{L:List Nat}(h:w.ownsRow B e size v n xs)(hk:Kb L w w')(hne:∀g∈L,v.ownBlock≠some g):w'.ownsRow B e size v n xs:=by
 refine⟨h.1,?_⟩;rcases h.2 with h|⟨g,cap,cur,rfl,h2,h3,h4⟩
 ·exact .inl h
 ·exact .inr ⟨g,cap,cur,rfl,h2,hk.heap h3 (fun hm=>hne g hm rfl),h4⟩
theorem cells_new(w:World)(cs:Array Value)(T:TypeId)(xs:List Value)(h:cs.toList=xs):∀j u,xs[j]?=some u→(w.alloc (.cells cs T)).cell? ((⟨w.heap.size,0,none⟩:Addr).add j)=some u:=by
 intro j u hu;rw[Addr.add_lit,cell_at (heap_new w (.cells cs T)),Nat.zero_add];rw[← h]at hu;simpa using hu
theorem own_ne{w:World}{B B':Nat}{e e':TypeId}{size size':Nat}{v v':Value}{n n':Nat}{xs xs':List Value}(h:w.ownsRow B e size v n xs)(h':w.ownsRow B' e' size' v' n' xs')(hne:e≠e'):v.ownBlock=none∨v.ownBlock≠v'.ownBlock:=by
 rcases h.2 with⟨rfl,_⟩|⟨g,cap,cur,rfl,_,hg,_⟩
 ·exact .inl rfl
 ·refine .inr fun heq=>?_
  rcases h'.2 with⟨rfl,_⟩|⟨g',cap',cur',rfl,_,hg',_⟩
  ·cases heq
  ·simp only[Value.ownBlock,Option.some.injEq]at heq;rw[heq,hg']at hg;injection hg with h1;injection h1 with h2 h3;exact hne h3.symm
theorem own_head{w:World}{B:Nat}{e T:TypeId}{size:Nat}{v:Value}{n kb:Nat}{xs:List Value}{c:Array Value}{fz:Nat × Nat}(h:w.ownsRow B e size v n xs)(hk:w.heap[kb]?=some (.cells c T fz))(hne:e≠T):some kb≠v.ownBlock:=by
 intro heq;rcases h.2 with⟨rfl,_⟩|⟨g,cap,cur,rfl,_,hg,_⟩
 ·cases heq
 ·simp only[Value.ownBlock,Option.some.injEq]at heq;rw[← heq,hk]at hg;injection hg with h1;injection h1 with h2 h3;exact hne h3.symm
def may(kb:Nat)(V l:Value):List Nat:=kb::(V.ownBlock.toList++l.ownBlock.toList)
end
section
open Go.RowKit Go.Maps
def stopN(s:ByteArray)(c:Int):Nat→Nat→Nat
 |0,k=>k
 |f+1,k=>if byteAt s k=c then k else stopN s c f (k+1)
def stop(s:ByteArray)(c:Int)(k:Nat):Nat:=stopN s c (s.size-k) k
theorem stop_end{s:ByteArray}{c:Int}{k:Nat}(h:s.size≤k):stop s c k=k:=by
 unfold stop;rw[Nat.sub_eq_zero_of_le h];rfl
theorem stop_yes{s:ByteArray}{c:Int}{k:Nat}(h:k<s.size)(hp:(s[k].toNat:Int)=c):stop s c k=k:=by
 unfold stop;obtain⟨f,hf⟩:∃f,s.size-k=f+1:=⟨s.size-k-1,by omega⟩;rw[hf];simp[stopN,byteAt_lt h,hp]
theorem stop_no{s:ByteArray}{c:Int}{k:Nat}(h:k<s.size)(hp:(s[k].toNat:Int)≠c):stop s c k=stop s c (k+1):=by
 unfold stop;obtain⟨f,hf⟩:∃f,s.size-k=f+1:=⟨s.size-k-1,by omega⟩;have hf2:s.size-(k+1)=f:=by omega
 rw[hf,hf2];simp[stopN,byteAt_lt h,hp]
theorem stopN_ge(s:ByteArray)(c:Int)(f k:Nat):k≤stopN s c f k:=by
 induction f generalizing k with
 |zero=>exact Nat.le_refl _
 |succ f ih=>
  unfold stopN;split
  ·exact Nat.le_refl _
  ·have:=ih (k+1);omega
theorem stop_ge(s:ByteArray)(c:Int)(k:Nat):k≤stop s c k:=stopN_ge _ _ _ _
theorem stopN_le(s:ByteArray)(c:Int)(f k:Nat):stopN s c f k≤k+f:=by
 induction f generalizing k with
 |zero=>exact Nat.le_refl _
 |succ f ih=>
  unfold stopN;split
  ·omega
  ·have:=ih (k+1);omega
theorem stop_le{s:ByteArray}{c:Int}{k:Nat}(h:k≤s.size):stop s c k≤s.size:=by
 have:=stopN_le s c (s.size-k) k;unfold stop;omega
theorem stopN_before(s:ByteArray)(c:Int)(f k:Nat):∀j,k≤j→j<stopN s c f k→byteAt s j≠c:=by
 induction f generalizing k with
 |zero=>intro j h1 h2;simp only[stopN]at h2;omega
 |succ f ih=>
  intro j h1 h2;unfold stopN at h2;split at h2
  ·omega
  ·rename_i hne;by_cases e:j=k
   ·subst e;exact hne
   ·exact ih (k+1) j (by omega) h2
theorem stop_before{s:ByteArray}{c:Int}{k j:Nat}(h1:k≤j)(h2:j<stop s c k):byteAt s j≠c:=stopN_before _ _ _ _ j h1 h2
theorem stopN_at(s:ByteArray)(c:Int)(f k:Nat)(h:stopN s c f k<k+f):byteAt s (stopN s c f k)=c:=by
 induction f generalizing k with
 |zero=>simp only[stopN]at h;omega
 |succ f ih=>
  unfold stopN at h ⊢;split
  ·assumption
  ·rename_i hne;rw[if_neg hne]at h;exact ih (k+1) (by omega)
theorem stop_at{s:ByteArray}{c:Int}{k:Nat}(hk:k≤s.size)(h:stop s c k<s.size):byteAt s (stop s c k)=c:=by
 unfold stop at h ⊢;exact stopN_at _ _ _ _ (by omega)
def tosN(s:ByteArray):Nat→Nat→List ByteArray
 |0,_=>[]
 |f+1,i=>if s.size≤i then []else s.extract (i+1) (stop s 32 (i+1))::tosN s f (stop s 32 (i+1))
def tosR(s:ByteArray)(i:Nat):List ByteArray:=tosN s (s.size-i) i
theorem tosN_end(s:ByteArray)(f i:Nat)(h:s.size≤i):tosN s f i=[]:=by
 cases f with
 |zero=>rfl
 |succ f=>simp only[tosN,if_pos h]
theorem tosN_fuel(s:ByteArray)(f g i:Nat)(hf:s.size-i≤f)(hg:s.size-i≤g):tosN s f i=tosN s g i:=by
 induction f generalizing g i with
 |zero=>rw[tosN_end s 0 i (by omega),tosN_end s g i (by omega)]
 |succ f ih=>
  by_cases h:s.size≤i
  ·rw[tosN_end s _ i h,tosN_end s _ i h]
  ·obtain⟨g,rfl⟩:∃g',g=g'+1:=⟨g-1,by omega⟩;have hn:=stop_ge s 32 (i+1);unfold tosN;rw[ih g (stop s 32 (i+1)) (by omega) (by omega)]
theorem tosR_end{s:ByteArray}{i:Nat}(h:s.size≤i):tosR s i=[]:=tosN_end _ _ _ h
theorem tosR_step{s:ByteArray}{i:Nat}(h:i<s.size):tosR s i=s.extract (i+1) (stop s 32 (i+1))::tosR s (stop s 32 (i+1)):=by
 obtain⟨f,hf⟩:∃f,s.size-i=f+1:=⟨s.size-i-1,by omega⟩;have hn:=stop_ge s 32 (i+1);have e1:tosR s (stop s 32 (i+1))=tosN s f (stop s 32 (i+1)):=tosN_fuel _ _ _ _ (by omega) (by omega);rw[e1];unfold tosR;rw[hf];simp only[tosN];rw[if_neg (by omega)]
def refRow(s:ByteArray):Option RowD:=
 if s.size≤stop s 58 0 then none
 else if s.size≤stop s 58 0+1∨byteAt s (stop s 58 0+1)=32 then some ⟨s.extract 0 (stop s 58 0),tosR s (stop s 58 0+1)⟩
 else none
def lineRow(s:ByteArray):Option RowD:=
 match refRow s with
 |some r=>if rowNames r=true then some r else none
 |none=>none
def gapN(s:ByteArray):Nat→Nat→List ByteArray→Option (List ByteArray)
 |0,_,out=>some out
 |f+1,i,out=>
  if s.size≤i then some out
  else if byteAt s i=32∧startB (byteAt s (i+1))=true then gapN s f (nEnd s (i+2)) (out++[s.extract (i+1) (nEnd s (i+2))])
  else none
def gapR(s:ByteArray)(i:Nat)(out:List ByteArray):Option (List ByteArray):=gapN s (s.size-i) i out
theorem gapN_end(s:ByteArray)(f i:Nat)(out:List ByteArray)(h:s.size≤i):gapN s f i out=some out:=by
 cases f with
 |zero=>rfl
 |succ f=>simp only[gapN,if_pos h]
theorem gapN_fuel(s:ByteArray)(f g i:Nat)(out:List ByteArray)(hf:s.size-i≤f)(hg:s.size-i≤g):gapN s f i out=gapN s g i out:=by
 induction f generalizing g i out with
 |zero=>rw[gapN_end s 0 i out (by omega),gapN_end s g i out (by omega)]
 |succ f ih=>
  by_cases h:s.size≤i
  ·rw[gapN_end s _ i out h,gapN_end s _ i out h]
  ·obtain⟨g,rfl⟩:∃g',g=g'+1:=⟨g-1,by omega⟩;have hn:=nEnd_ge s (i+2);unfold gapN;rw[ih g (nEnd s (i+2)) _ (by omega) (by omega)]
theorem gapR_end{s:ByteArray}{i:Nat}{out:List ByteArray}(h:s.size≤i):gapR s i out=some out:=gapN_end _ _ _ _ h
theorem gapR_step{s:ByteArray}{i:Nat}{out:List ByteArray}(h:i<s.size):gapR s i out =
  if byteAt s i=32∧startB (byteAt s (i+1))=true then gapR s (nEnd s (i+2)) (out++[s.extract (i+1) (nEnd s (i+2))])else none:=by
 obtain⟨f,hf⟩:∃f,s.size-i=f+1:=⟨s.size-i-1,by omega⟩;have hn:=nEnd_ge s (i+2);have e1:∀o,gapR s (nEnd s (i+2)) o=gapN s f (nEnd s (i+2)) o:=fun o=>gapN_fuel _ _ _ _ _ (by omega) (by omega)
 rw[e1];unfold gapR;rw[hf];simp only[gapN];rw[if_neg (by omega)]
def macRow(s:ByteArray):Option RowD:=
 if startB (byteAt s 0)=true∧byteAt s (nEnd s 1)=58 then(gapR s (nEnd s 1+1) []).map (fun t=>⟨s.extract 0 (nEnd s 1),t⟩)else none
theorem byteAt_ge{s:ByteArray}{k:Nat}(h:s.size≤k):byteAt s k=0:=by
 unfold byteAt;rw[dif_neg (by omega)]
theorem lt_of_byte{s:ByteArray}{k:Nat}{p:Int→Prop}(h:p (byteAt s k))(h0:¬p 0):k<s.size:=by
 by_cases hk:k<s.size
 ·exact hk
 ·rw[byteAt_ge (by omega)]at h;exact absurd h h0
theorem start_lt{s:ByteArray}{k:Nat}(h:startB (byteAt s k)=true):k<s.size:=lt_of_byte (p:=fun c=>startB c=true) h (by decide)
theorem isN_extract(s:ByteArray)(a k:Nat)(hk:k≤s.size):isN (s.extract a k)=true↔a<k∧startB (byteAt s a)=true∧∀j,a<j→j<k→partB (byteAt s j)=true:=by
 by_cases hak:a<k
 ·have e:(s.extract a k).data.toList=s[a]::(s.data.toList.drop (a+1)).take (k-(a+1)):=by
   rw[ByteArray.data_extract,Array.toList_extract,List.extract_eq_take_drop,List.drop_eq_getElem_cons (by simp;omega)];have e2:k-a=(k-(a+1))+1:=by omega
   rw[e2,List.take_succ_cons];rfl
  unfold isN;rw[e];simp only[nameB,Bool.and_eq_true,partsB,List.all_eq_true];rw[byteAt_lt (show a<s.size by omega)];constructor
  ·rintro⟨h1,h2⟩;refine⟨hak,h1,fun j hj1 hj2=>?_⟩;rw[byteAt_lt (show j<s.size by omega)];refine h2 s[j] ?_
   refine List.mem_iff_getElem.2 ⟨j-(a+1),by simp;omega,?_⟩;simp only[List.getElem_take,List.getElem_drop,Array.getElem_toList];have:a+1+(j-(a+1))=j:=by omega
   simp only[this];rfl
  ·rintro⟨_,h1,h2⟩;refine⟨h1,fun c hc=>?_⟩;obtain⟨j,hj,hje⟩:=List.mem_iff_getElem.1 hc;simp at hj;have:=h2 (a+1+j) (by omega) (by omega);rw[byteAt_lt (show a+1+j<s.size by omega)]at this;have e3:c=s[a+1+j]:=by
    rw[← hje];simp;rfl
   rw[e3];exact this
 ·constructor
  ·intro h;exfalso;have hz:(s.extract a k).size=0:=by rw[ByteArray.size_extract];omega
   have:=nameB_empty _ hz;unfold isN at h;rw[this]at h;cases h
  ·rintro⟨h,_⟩;exact absurd h hak
theorem nEnd_part{s:ByteArray}{k j:Nat}(hk:k≤s.size)(h1:k≤j)(h2:j<nEnd s k):partB (byteAt s j)=true:=nEnd_parts s (s.size-k) k (by omega) j h1 h2
theorem nEnd_eq{s:ByteArray}{a k:Nat}(hak:a≤k)(hk:k≤s.size)(hp:∀j,a≤j→j<k→partB (byteAt s j)=true)(he:partB (byteAt s k)=false):nEnd s a=k:=by
 induction hd:k-a generalizing a with
 |zero=>
  have:a=k:=by omega
  subst this;by_cases hlt:a<s.size
  ·exact nEnd_no hlt (by rw[← byteAt_lt hlt];exact he)
  ·exact nEnd_end (by omega)
 |succ d ih=>
  have h1:=hp a (Nat.le_refl _) (by omega);rw[byteAt_lt (show a<s.size by omega)]at h1;rw[nEnd_yes (by omega) h1];exact ih (by omega) (fun j h1 h2=>hp j (by omega) h2) (by omega)
theorem piece_name{s:ByteArray}{c:Int}(hc:partB c=false){a:Nat}(ha:a≤s.size):isN (s.extract a (stop s c a))=true↔startB (byteAt s a)=true∧nEnd s (a+1)=stop s c a:=by
 have hge:=stop_ge s c a;have hle:=stop_le (c:=c) ha;have hend:partB (byteAt s (stop s c a))=false:=by
  by_cases h:stop s c a<s.size
  ·rw[stop_at ha h];exact hc
  ·rw[byteAt_ge (by omega)];decide
 rw[isN_extract _ _ _ hle];constructor
 ·rintro⟨h1,h2,h3⟩;exact⟨h2,nEnd_eq (by omega) hle (fun j hj1 hj2=>h3 j (by omega) hj2) hend⟩
 ·rintro⟨h1,h2⟩;have hlt:=start_lt h1;have h3:=nEnd_ge s (a+1);exact⟨by omega,h1,fun j hj1 hj2=>nEnd_part (k:=a+1) (by omega) (by omega) (by omega)⟩
theorem piece_short{s:ByteArray}{c:Int}(hc:partB c=false){a:Nat}(ha:a<s.size)(hs:startB (byteAt s a)=true)(hne:nEnd s (a+1)≠stop s c a):nEnd s (a+1)<stop s c a∧byteAt s (nEnd s (a+1))≠c:=by
 have hge:=stop_ge s c a;have hle:=stop_le (c:=c) (k:=a) (by omega:a≤s.size);have h3:=nEnd_ge s (a+1);have h4:=nEnd_le (s:=s) (k:=a+1) ha;have hlt:nEnd s (a+1)<stop s c a:=by
  rcases Nat.lt_or_ge (nEnd s (a+1)) (stop s c a)with h|h
  ·exact h
  ·exfalso;have h5:stop s c a<nEnd s (a+1):=by omega
   have h6:=stop_at (c:=c) (k:=a) (s:=s) (by omega) (by omega);by_cases e:stop s c a=a
   ·rw[e]at h6;rw[h6]at hs;rw[part_of_start hs]at hc;cases hc
   ·have:=nEnd_part (s:=s) (k:=a+1) (by omega) (by omega) h5;rw[h6,hc]at this;cases this
 exact⟨hlt,stop_before (by omega) hlt⟩
theorem gap_tos(s:ByteArray):∀(d i:Nat) (out:List ByteArray),s.size-i=d→i≤s.size→(i<s.size→byteAt s i=32) →
  gapR s i out=if(tosR s i).all isN=true then some (out++tosR s i)else none:=by
 intro d;induction d using Nat.strongRecOn with
 |_ d ih=>
  intro i out hd hi hb;by_cases hlt:i<s.size
  ·rw[gapR_step hlt,tosR_step hlt];have hb:=hb hlt;have hge:=stop_ge s 32 (i+1);have hle:=stop_le (s:=s) (c:=32) (k:=i+1) hlt;have hpn:=piece_name (s:=s) (c:=32) (by decide) (a:=i+1) hlt;by_cases hs:startB (byteAt s (i+1))=true
   ·rw[if_pos ⟨hb,hs⟩];have hlt1:=start_lt hs;by_cases he:nEnd s (i+1+1)=stop s 32 (i+1)
    ·have hn:=hpn.2 ⟨hs,he⟩;rw[show i+2=i+1+1 from rfl,he,ih (s.size-stop s 32 (i+1)) (by omega) _ _ rfl hle (fun h=>stop_at hlt h)];simp only[List.all_cons,hn,Bool.true_and,List.append_assoc,List.cons_append,List.nil_append]
    ·have hn:isN (s.extract (i+1) (stop s 32 (i+1)))=false:=by
      rw[Bool.eq_false_iff];intro h;exact he (hpn.1 h).2
     obtain⟨h1,h2⟩:=piece_short (c:=32) (by decide) hlt1 hs he;rw[show i+2=i+1+1 from rfl,gapR_step (by omega),if_neg (fun h=>h2 h.1)];simp[hn]
   ·rw[if_neg (fun h=>hs h.2)];have hn:isN (s.extract (i+1) (stop s 32 (i+1)))=false:=by
     rw[Bool.eq_false_iff];intro h;exact hs (hpn.1 h).1
    simp[hn]
  ·rw[gapR_end (by omega),tosR_end (by omega)];simp
theorem mac_line(s:ByteArray):macRow s=lineRow s:=by
 unfold macRow lineRow refRow;have hge:=stop_ge s 58 0;have hle:=stop_le (s:=s) (c:=58) (k:=0) (Nat.zero_le _);have hpn:=piece_name (s:=s) (c:=58) (by decide) (a:=0) (Nat.zero_le _);by_cases hs:startB (byteAt s 0)=true
 ·have hlt:=start_lt hs;by_cases he:nEnd s (0+1)=stop s 58 0
  ·have hn:=hpn.2 ⟨hs,he⟩;have he':nEnd s 1=stop s 58 0:=he;rw[he'];by_cases hend:s.size≤stop s 58 0
   ·rw[if_neg (fun h=>by rw[byteAt_ge hend]at h;exact absurd h.2 (by decide)),if_pos hend]
   ·rw[if_neg hend,if_pos ⟨hs,stop_at (Nat.zero_le _) (by omega)⟩];by_cases hb:s.size≤stop s 58 0+1∨byteAt s (stop s 58 0+1)=32
    ·rw[if_pos hb,gap_tos s _ (stop s 58 0+1) [] rfl (by omega) (fun h=>by
      rcases hb with hb|hb
      ·omega
      ·exact hb)]
     simp only[rowNames,hn,Bool.true_and,List.nil_append];split<;>rfl
    ·rw[if_neg hb];obtain⟨hb1,hb2⟩:=not_or.1 hb;rw[gapR_step (by omega),if_neg (fun h=>hb2 h.1)];rfl
  ·obtain⟨h1,h2⟩:=piece_short (c:=58) (by decide) hlt hs he;have hn:isN (s.extract 0 (stop s 58 0))=false:=by
    rw[Bool.eq_false_iff];intro h;exact he (hpn.1 h).2
   rw[if_neg (fun h=>h2 h.2)];split
   ·rename_i r hr;split at hr
    ·cases hr
    ·split at hr
     ·injection hr with hr;rw[← hr];simp[rowNames,hn]
     ·cases hr
   ·rfl
 ·have hn:isN (s.extract 0 (stop s 58 0))=false:=by
   rw[Bool.eq_false_iff];intro h;exact hs (hpn.1 h).1
  rw[if_neg (fun h=>hs h.1)];split
  ·rename_i r hr;split at hr
   ·cases hr
   ·split at hr
    ·injection hr with hr;rw[← hr];simp[rowNames,hn]
    ·cases hr
  ·rfl
def readGo:List RowD→ByteArray→Nat→List ByteArray→List RowD × Int × Int
 |pre,_,_,[]=>(pre,0,0)
 |pre,_,n,[l]=>if l.size=0 then(pre,0,0)else([],4,(n:Int)+1)
 |pre,last,n,l::l'::r=>
  match lineRow l with
  |none=>([],4,(n:Int)+1)
  |some x=>if chk true x last=0 then readGo (pre++[x]) x.name (n+1) (l'::r)else([],chk true x last,(n:Int)+1)
def readB(s:ByteArray):List RowD × Int × Int:=if 25000<s.size then([],2,0)else readGo [] noB 0 (linesB s)
end
section
open Go.RowKit Go.Maps
def RowRes(o:Option RowD)(w w':World)(e:Ending):Prop:=
 (o=none∧e=.returned (.tuple #[.agg #[.string ⟨#[]⟩,.slice none 0 0],.bool false])∧Below w.heap.size w w') ∨
 (∃r tv,o=some r∧e=.returned (.tuple #[.agg #[.string r.name,tv],.bool true])∧w'.ownsRow w.heap.size 9 1 tv r.to.length (r.to.map Value.string)∧Below w.heap.size w w')
theorem tosR_len(s:ByteArray):∀(d i:Nat),s.size-i=d→(tosR s i).length≤d:=by
 intro d;induction d using Nat.strongRecOn with
 |_ d ih=>
  intro i hd;by_cases h:i<s.size
  ·rw[tosR_step h,List.length_cons];have h1:=stop_ge s 32 (i+1);have:=ih (s.size-stop s 32 (i+1)) (by omega) _ rfl;omega
  ·rw[tosR_end (by omega)];exact Nat.zero_le _
theorem own_store{w:World}{B:Nat}{e T:TypeId}{size n b j:Nat}{v x:Value}{xs:List Value}{c:Array Value}(h:w.ownsRow B e size v n xs)(hne:e≠T)(hb:w.heap[b]?=some (.cells c T (0,0))):(w.setCell ⟨b,j,none⟩ x).ownsRow B e size v n xs:=by
 have hk:Kb [b] w (w.setCell ⟨b,j,none⟩ x):=(Kb.refl _ _).setCell (p:=⟨b,j,none⟩) (.inl (by simp)) _;refine own_kbL h hk (fun g hg heq=>?_);rw[List.mem_singleton.1 hg]at heq;exact own_head h hb hne heq.symm
theorem ownsRow_keep{w:World}{B:Nat}{e T:TypeId}{size n b:Nat}{v x y:Value}{xs:List Value}{c:Array Value}(h:w.ownsRow B e size v n xs)(hne:e≠T)(hb:w.heap[b]?=some (.cells c T (0,0))):((w.setCell ⟨b,0,none⟩ x).setCell ⟨b,1,none⟩ y).ownsRow B e size v n xs:=by
 have hk:Kb [b] w ((w.setCell ⟨b,0,none⟩ x).setCell ⟨b,1,none⟩ y):=((Kb.refl _ _).setCell (p:=⟨b,0,none⟩) (.inl (by simp)) _).setCell (p:=⟨b,1,none⟩) (.inl (by simp)) _;refine own_kbL h hk (fun g hg heq=>?_);rw[List.mem_singleton.1 hg]at heq;exact own_head h hb hne heq.symm
end
section
open Go.RowKit Go.Maps
theorem infoRow:(Tryz.prog.info? 51).map (fun i=>(i.zero,i.size,i.bytes))=some (some (.agg #[.string ⟨#[]⟩,.slice none 0 0]),2,40):=by kernel_rfl
end
section
open Go.RowKit Go.Maps
def cellsP(ps:List (RowD × Value)):List Value:=ps.flatMap fun x=>[.string x.1.name,x.2]
theorem cellsP_get(ps:List (RowD × Value))(i:Nat)(r:RowD)(tv:Value)(h:ps[i]?=some (r,tv)):(cellsP ps)[i*2]?=some (.string r.name)∧(cellsP ps)[i*2+1]?=some tv:=by
 induction ps generalizing i with
 |nil=>simp at h
 |cons f q ih=>
  have e:cellsP (f::q)=.string f.1.name::f.2::cellsP q:=by simp[cellsP]
  rw[e];cases i with
  |zero=>
   simp at h;subst h;exact⟨rfl,rfl⟩
  |succ i=>
   rw[List.getElem?_cons_succ]at h;have:=ih i h;rw[show(i+1)*2=i*2+1+1 by omega,show i*2+1+1+1=(i*2+1)+1+1 by omega];simpa using this
structure OwnR(w:World)(lo hi:Nat)(v:Value)(ps:List (RowD × Value)):Prop where
 row:w.ownsRow lo 51 2 v ps.length (cellsP ps)
 top:∀g,v.ownBlock=some g→g<hi
 tos:∀(i:Nat) r tv,ps[i]?=some (r,tv)→w.ownsRow lo 9 1 tv r.to.length (r.to.map Value.string)
 ttop:∀(i:Nat) r tv,ps[i]?=some (r,tv)→∀g,tv.ownBlock=some g→g<hi
 sep:∀(i j:Nat) x y,i<j→ps[i]?=some x→ps[j]?=some y→x.2.ownBlock=none∨x.2.ownBlock≠y.2.ownBlock
end
section
open Go.RowKit Go.Maps
theorem strs_of_owns{w:World}{B:Nat}{v:Value}{ss:List ByteArray}(h:w.ownsRow B 9 1 v ss.length (ss.map Value.string)):IsStrs v ss w:=by
 rcases h.2 with⟨rfl,h0⟩|⟨g,cap,cur,rfl,_,hg,hnc,_,hcs,htk⟩
 ·exact⟨none,0,by rw[h0],by omega,fun _=>rfl,fun hne=>absurd (List.length_eq_zero_iff.1 h0) hne⟩
 ·refine⟨some ⟨g,0,none⟩,cap,rfl,hnc,(fun h=>by cases h),fun _=>⟨g,0,rfl,lt_of_heap hg,?_⟩⟩;intro i s hi;have hl:=lt_get hi;have hu:(ss.map Value.string)[i]?=some (.string s):=by rw[List.getElem?_map,hi];rfl
  rw[Nat.zero_add,cell_at hg];rw[← htk,List.getElem?_take,if_pos (by omega)]at hu;simpa using hu
theorem OwnR.rows{w:World}{lo hi:Nat}{v:Value}{ps:List (RowD × Value)}(h:OwnR w lo hi v ps):IsRows v (ps.map Prod.fst) w:=by
 have hl:(ps.map Prod.fst).length=ps.length:=List.length_map _;rcases h.row.2 with⟨rfl,h0⟩|⟨g,cap,cur,rfl,_,hg,hnc,_,hcs,htk⟩
 ·refine⟨none,0,by rw[hl,h0],by rw[hl];omega,fun _=>rfl,fun hne=>?_⟩;have:ps=[]:=List.length_eq_zero_iff.1 h0;subst this;exact absurd rfl hne
 ·refine⟨some ⟨g,0,none⟩,cap,by rw[hl],by rw[hl];exact hnc,(fun h=>by cases h),fun _=>⟨g,0,rfl,lt_of_heap hg,?_⟩⟩;intro i n tt hi;rw[List.getElem?_map]at hi;cases hp:ps[i]? with
  |none=>rw[hp]at hi;cases hi
  |some x=>
   obtain⟨r,tv⟩:=x;rw[hp]at hi;have hr:r=⟨n,tt⟩:=by simpa using hi
   subst hr;have hlt:=lt_get hp;obtain⟨c0,c1⟩:=cellsP_get ps i _ tv hp;have hc:∀j u,j<ps.length*2→(cellsP ps)[j]?=some u→w.cell? ⟨g,0+j,none⟩=some u:=by
    intro j u hj hu;rw[Nat.zero_add,cell_at hg];rw[← htk,List.getElem?_take,if_pos hj]at hu;simpa using hu
   exact⟨hc _ _ (by omega) c0,tv,hc _ _ (by omega) c1,strs_of_owns (h.tos i _ tv hp)⟩
theorem OwnR.below{w w':World}{lo hi:Nat}{v:Value}{ps:List (RowD × Value)}(h:OwnR w lo hi v ps)(hb:Below w.heap.size w w'):OwnR w' lo hi v ps:=
 ⟨own_below h.row hb,h.top,fun i r tv hp=>own_below (h.tos i r tv hp) hb,h.ttop,h.sep⟩
theorem OwnR.nil(w:World)(lo hi:Nat):OwnR w lo hi (.slice none 0 0) []:=
 ⟨World.ownsRow_nil _ _ _ _,(fun g h=>nomatch h),(fun i r tv h=>by simp at h),(fun i r tv h=>by simp at h),(fun i j x y _ h=>by simp at h)⟩
theorem OwnR.low{w:World}{lo lo' hi:Nat}{v:Value}{ps:List (RowD × Value)}(h:OwnR w lo hi v ps)(hl:lo'≤lo):OwnR w lo' hi v ps:=
 ⟨own_mono h.row hl,h.top,fun i r tv hp=>own_mono (h.tos i r tv hp) hl,h.ttop,h.sep⟩
theorem OwnR.high{w:World}{lo hi hi':Nat}{v:Value}{ps:List (RowD × Value)}(h:OwnR w lo hi v ps)(hl:hi≤hi'):OwnR w lo hi' v ps:=
 ⟨h.row,fun g hg=>Nat.lt_of_lt_of_le (h.top g hg) hl,h.tos,fun i r tv hp g hg=>Nat.lt_of_lt_of_le (h.ttop i r tv hp g hg) hl,h.sep⟩
theorem OwnR.store{w:World}{lo hi b j:Nat}{x:Value}{v:Value}{ps:List (RowD × Value)}(h:OwnR w lo hi v ps)(hb:b<lo):OwnR (w.setCell ⟨b,j,none⟩ x) lo hi v ps:=
 ⟨ownsRow_setCell_below h.row (a:=⟨b,j,none⟩) hb _,h.top,fun i r tv hp=>ownsRow_setCell_below (h.tos i r tv hp) (a:=⟨b,j,none⟩) hb _,h.ttop,h.sep⟩
theorem cellsP_snoc(ps:List (RowD × Value))(r:RowD)(tv:Value):cellsP (ps++[(r,tv)])=cellsP ps++[.string r.name,tv]:=by simp[cellsP]
theorem OwnR.push{w2 w3:World}{lo hs:Nat}{v v':Value}{ps:List (RowD × Value)}{r:RowD}{tv:Value}{o:Obj}(h:OwnR w2 lo hs v ps)(hlo:lo≤hs)(ht:w2.ownsRow hs 9 1 tv r.to.length (r.to.map Value.string))
  (ho:w3.ownsRow lo 51 2 v' (ps.length+1) (cellsP ps++[.string r.name,tv])) (hg:(w2.alloc o).grownBy w3 v.ownBlock):OwnR w3 lo w3.heap.size v' (ps++[(r,tv)]):=by
 have hold:∀(i:Nat) r' tv',ps[i]?=some (r',tv')→w3.ownsRow lo 9 1 tv' r'.to.length (r'.to.map Value.string):=fun i r' tv' hp=>((h.tos i r' tv' hp).alloc o).kept hg (own_ne (h.tos i r' tv' hp) h.row (by decide))
 have hnew:w3.ownsRow hs 9 1 tv r.to.length (r.to.map Value.string):=(ht.alloc o).kept hg (own_ne ht h.row (by decide));have hall:∀(i:Nat) r' tv',(ps++[(r,tv)])[i]?=some (r',tv')→w3.ownsRow lo 9 1 tv' r'.to.length (r'.to.map Value.string):=by
  intro i r' tv' hp;by_cases hi:i<ps.length
  ·rw[List.getElem?_append_left hi]at hp;exact hold i r' tv' hp
  ·rw[List.getElem?_append_right (by omega)]at hp;have:i-ps.length=0:=by have:=lt_get hp;simp at this;omega
   rw[this]at hp;simp at hp;obtain⟨rfl,rfl⟩:=hp;exact own_mono hnew hlo
 refine⟨by rw[List.length_append,cellsP_snoc];exact ho,fun g hg'=>(ho.lt g hg').2,hall,fun i r' tv' hp g hg'=>((hall i r' tv' hp).lt g hg').2,?_⟩;intro i j x y hij hx hy;by_cases hj:j<ps.length
 ·rw[List.getElem?_append_left hj]at hy;rw[List.getElem?_append_left (by omega)]at hx;exact h.sep i j x y hij hx hy
 ·have hjl:=lt_get hy;rw[List.length_append]at hjl;have hjl':j<ps.length+1:=hjl;rw[List.getElem?_append_left (by omega)]at hx;rw[List.getElem?_append_right (by omega)]at hy;have:j-ps.length=0:=by omega
  rw[this]at hy;simp at hy;subst hy;obtain⟨r',tv'⟩:=x;cases hq:tv'.ownBlock with
  |none=>exact .inl rfl
  |some g=>
   refine .inr (fun e=>?_);have h1:=h.ttop i r' tv' hx g hq;have h2:=(ht.lt g e.symm).1;omega
theorem tos_size(s:ByteArray):∀(d i:Nat),s.size-i=d→∀x∈tosR s i,x.size≤s.size:=by
 intro d;induction d using Nat.strongRecOn with
 |_ d ih=>
  intro i hd x hx;by_cases h:i<s.size
  ·rw[tosR_step h]at hx;have h1:=stop_ge s 32 (i+1);rcases List.mem_cons.1 hx with rfl|hx
   ·rw[ByteArray.size_extract];omega
   ·exact ih (s.size-stop s 32 (i+1)) (by omega) _ rfl x hx
  ·rw[tosR_end (by omega)]at hx;simp at hx
theorem refRow_fits{s:ByteArray}{r:RowD}(h:refRow s=some r):r.name.size≤s.size∧r.to.length≤s.size∧∀x∈r.to,x.size≤s.size:=by
 unfold refRow at h;split at h
 ·cases h
 ·split at h
  ·injection h with h;subst h;refine⟨by rw[ByteArray.size_extract];omega,?_,tos_size s _ _ rfl⟩;have:=tosR_len s _ (stop s 58 0+1) rfl;show(tosR s _).length≤_;omega
  ·cases h
theorem lineRow_ref{s:ByteArray}{r:RowD}(h:lineRow s=some r):refRow s=some r∧rowNames r=true:=by
 unfold lineRow at h;split at h
 ·rename_i r' hr;split at h
  ·injection h with h;subst h;exact⟨hr,by assumption⟩
  ·cases h
 ·cases h
theorem readGo_last{pre:List RowD}{last:ByteArray}{n:Nat}{l:ByteArray}:readGo pre last n [l]=if l.size=0 then(pre,0,0)else([],4,(n:Int)+1):=rfl
theorem readGo_form{pre:List RowD}{last:ByteArray}{n:Nat}{l l':ByteArray}{r:List ByteArray}(h:lineRow l=none):readGo pre last n (l::l'::r)=([],4,(n:Int)+1):=by simp[readGo,h]
theorem readGo_add{pre:List RowD}{last:ByteArray}{n:Nat}{l l':ByteArray}{r:List ByteArray}{x:RowD}(h:lineRow l=some x)(he:chk true x last=0):readGo pre last n (l::l'::r)=readGo (pre++[x]) x.name (n+1) (l'::r):=by simp[readGo,h,he]
theorem readGo_bad{pre:List RowD}{last:ByteArray}{n:Nat}{l l':ByteArray}{r:List ByteArray}{x:RowD}(h:lineRow l=some x)(he:chk true x last≠0):readGo pre last n (l::l'::r)=([],chk true x last,(n:Int)+1):=by simp[readGo,h,he]
def RdRes(w w':World)(s:ByteArray)(e:Ending):Prop:=
 ∃v ps,e=.returned (.tuple #[v,.agg #[.int .i64 (readB s).2.1,.int .i64 (readB s).2.2]])∧ps.map Prod.fst=(readB s).1∧OwnR w' w.heap.size w'.heap.size v ps∧Below w.heap.size w w'
theorem RdRes.bad{w w':World}{s:ByteArray}{k n:Int}(h:readB s=([],k,n))(hb:Below w.heap.size w w'):RdRes w w' s (.returned (.tuple #[.slice none 0 0,.agg #[.int .i64 k,.int .i64 n]])):=
 ⟨.slice none 0 0,[],by rw[h],by rw[h];rfl,OwnR.nil _ _ _,hb⟩
structure RdInv(w1 wr:World)(ls:List ByteArray)(i:Nat)(v:Value)(last:ByteArray)(ps:List (RowD × Value)):Prop where
 lt:i<ls.length
 eqn:readGo [] noB 0 ls=readGo (ps.map Prod.fst) last i (ls.drop i)
 cnt:ps.length≤i
 own:OwnR wr w1.heap.size wr.heap.size v ps
 blw:Below w1.heap.size w1 wr
end
section
open Go.RowKit
variable {B:Nat} {c:Way} {n:Nat} {s:St}
theorem GM.types{w:World}{G:GV}(h:GM w B c n G s){b:Nat}(hb:b∈G.foot):∃cs T,w.heap[b]?=some (.cells cs T (0,0))∧T≠9∧T≠51∧T≠44:=by
 rcases mem_foot.1 hb with rfl|rfl|rfl|⟨v,hv,e⟩|e|e|e|e|e
 ·exact⟨_,_,h.hbg,by decide,by decide,by decide⟩
 ·exact⟨_,_,h.hbn,by decide,by decide,by decide⟩
 ·exact⟨_,_,h.hbl,by decide,by decide,by decide⟩
 ·obtain⟨k,hk⟩:=List.mem_iff_getElem?.1 hv;have hkl:=(List.getElem?_eq_some_iff.1 hk).1;obtain⟨t,ht⟩:∃t,s.ss[k]?=some t:=⟨_,List.getElem?_eq_getElem (by rw[h.lss,← h.lnv];exact hkl)⟩;obtain⟨cs,hc⟩:=(h.sN k v t hk ht).block e;exact⟨cs,_,hc,by decide,by decide,by decide⟩
 ·obtain⟨cs,hc⟩:=h.sS.block e;exact⟨cs,_,hc,by decide,by decide,by decide⟩
 ·obtain⟨cs,hc⟩:=h.sI.block e;exact⟨cs,_,hc,by decide,by decide,by decide⟩
 ·obtain⟨cs,hc⟩:=h.oA.block e;exact⟨cs,_,hc,by decide,by decide,by decide⟩
 ·obtain⟨cs,hc⟩:=h.oN.block e;exact⟨cs,_,hc,by decide,by decide,by decide⟩
 ·obtain⟨cs,hc⟩:=h.oC.block e;exact⟨cs,_,hc,by decide,by decide,by decide⟩
theorem own_kb2{w w':World}{lo:Nat}{e:TypeId}{size m:Nat}{v:Value}{xs:List Value}(h:w.ownsRow lo e size v m xs){L:List Nat}(hk:Kb L w w')(hl:∀g,v.ownBlock=some g→g ∉ L):w'.ownsRow lo e size v m xs:=by
 refine⟨h.1,?_⟩;rcases h.2 with h2|⟨g,cap,cur,rfl,a1,a2,a3⟩
 ·exact .inl h2
 ·exact .inr ⟨g,cap,cur,rfl,a1,hk.heap a2 (hl g rfl),a3⟩
theorem own_cells{w:World}{lo:Nat}{e:TypeId}{size m:Nat}{v:Value}{xs:List Value}(h:w.ownsRow lo e size v m xs){g:Nat}(hg:v.ownBlock=some g):∃cs,w.heap[g]?=some (.cells cs e (0,0)):=by
 rcases h.2 with⟨rfl,_⟩|⟨g',cap,cur,rfl,_,a2,_⟩
 ·cases hg
 ·cases hg;exact⟨_,a2⟩
def Off(w:World)(hi b:Nat):Prop:=hi≤b∨∀cs T fz,w.heap[b]?=some (.cells cs T fz)→T≠9∧T≠51
theorem OwnR.kb{w w':World}{lo hi:Nat}{v:Value}{ps:List (RowD × Value)}(h:OwnR w lo hi v ps){L:List Nat}(hk:Kb L w w')(hl:∀b∈L,Off w hi b):OwnR w' lo hi v ps:=by
 refine⟨own_kb2 h.row hk (fun g hg hm=>?_),h.top,fun i r tv hp=>own_kb2 (h.tos i r tv hp) hk (fun g hg hm=>?_),h.ttop,h.sep⟩
 ·rcases hl g hm with h1|h1
  ·have:=h.top g hg;omega
  ·obtain⟨cs,hc⟩:=own_cells h.row hg;exact(h1 _ _ _ hc).2 rfl
 ·rcases hl g hm with h1|h1
  ·have:=h.ttop i r tv hp g hg;omega
  ·obtain⟨cs,hc⟩:=own_cells (h.tos i r tv hp) hg;exact(h1 _ _ _ hc).1 rfl
structure RI(w:World)(B:Nat)(c:Way)(n:Nat)(G:GV)(s:St)(vn:Value)(L:List Nat)(W:World)(G':GV)(vl:Value)(ps:List (RowD × Value))(hs:Nat)(ds:List Nat):Prop where
 li:LI w B c n G L [(w.heap.size,#[vn],44)] [] W s G'
 row:OwnR W w.heap.size hs vl ps
 hs1:w.heap.size≤hs
 hs2:hs≤W.heap.size
 dd:∀D∈ds,W.heap[D]?=some (.deferred (some []))
 nd:ds.Nodup
 lo:∀D∈ds,w.heap.size≤D
variable {w:World} {G:GV} {vn:Value} {L:List Nat} {W W':World} {G' G1:GV} {vl:Value} {ps:List (RowD × Value)} {hs:Nat} {ds:List Nat}
theorem RI.call(h:RI w B c n G s vn L W G' vl ps hs ds)(h1:GM W' B c n G1 s)(c1:GCh W W' G' G1):RI w B c n G s vn L W' G1 vl ps hs ds∧(∀D,KeepsFrom D W W')∧KpB L W W':=by
 obtain⟨a1,a2,a3⟩:=h.li.call h1 c1;refine⟨⟨a1,h.row.kb c1.kb (fun b hb=>.inr (fun cs T fz hc=>?_)),h.hs1,Nat.le_trans h.hs2 c1.kb.size,fun D hD=>(a2 D).same D _ (Nat.le_refl _) (h.dd D hD) rfl,h.nd,h.lo⟩,a2,a3⟩;obtain⟨cs',T',e,t1,t2,_⟩:=h.li.gm.types hb;rw[hc]at e;injection e with e;injection e with _ e _;rw[e];exact⟨t1,t2⟩
theorem RI.fresh(h:RI w B c n G s vn L W G' vl ps hs ds)(hk:Kb [] W W'):RI w B c n G s vn L W' G' vl ps hs ds∧(∀D,KeepsFrom D W W')∧KpB L W W':=
 h.call (h.li.gm.fresh hk) ⟨hk.mono (by simp),fun _ hb=>.inl hb,rfl,rfl,rfl⟩
theorem RI.own(h:RI w B c n G s vn L W G' vl ps hs ds){D:Nat}(hD:w.heap.size≤D)(hds:∀x∈ds,x<D){row:Option Nat}(hg:W.grownBy W' row)(hr:∀r,row=some r→D≤r∧∃o:Obj,W.heap[r]?=some o∧o.isCells=false):RI w B c n G s vn L W' G' vl ps hs ds:=by
 have hk:=kb_grown hg;refine⟨h.li.own hD hg hr,h.row.kb hk (fun b hb=>.inr (fun cs T fz hc=>?_)),h.hs1,Nat.le_trans h.hs2 hk.size,fun x hx=>?_,h.nd,h.lo⟩
 ·obtain⟨_,o,ho,e⟩:=hr b (by simpa using hb);rw[hc]at ho;cases ho;cases e
 ·have h9:=h.dd x hx;rw[← h9];refine hk.block x (lt_of_heap h9) (fun hm=>?_);have:=(hr x (by simpa using hm)).1;have:=hds x hx;omega
theorem RI.side(h:RI w B c n G s vn L W G' vl ps hs ds){M:List Nat}(hk:Kb M W W')(hM:∀b∈M,hs≤b∧b≠w.heap.size∧b ∉ G'.foot∧b ∉ L∧∃cs T,W.heap[b]?=some (.cells cs T (0,0))):RI w B c n G s vn L W' G' vl ps hs ds∧(∀D,KeepsFrom D W W')∧KpB L W W':=by
 have kf:∀D,KeepsFrom D W W':=fun D=>kb_keepsFrom hk (fun b hb o ho=>by
  obtain⟨_,_,_,_,cs,T,hc⟩:=hM b hb;rw[hc]at ho;cases ho;rfl) D
 refine⟨⟨⟨h.li.gm.beside hk (fun b hb=>(hM b hb).2.2.1),h.li.ch.beside hk (fun b hb=>Nat.le_trans h.hs1 (hM b hb).1),fun q hq=>?_,(by intro q hq;cases hq),fun k hk2=>⟨(h.li.lb k hk2).1,Nat.lt_of_lt_of_le (h.li.lb k hk2).2 hk.size⟩⟩,h.row.kb hk (fun b hb=>.inl (hM b hb).1),h.hs1,Nat.le_trans h.hs2 hk.size,fun D hD=>(kf D).same D _ (Nat.le_refl _) (h.dd D hD) rfl,h.nd,h.lo⟩,kf,fun k hk2=>hk.block k (h.li.lb k hk2).2 (fun hm=>(hM k hm).2.2.2.1 hk2)⟩;obtain⟨q1,q2⟩:=h.li.bx q hq;rw[List.mem_singleton.1 hq]at q1 q2 ⊢;exact⟨hk.heap q1 (fun hm=>(hM _ hm).2.1 rfl),q2⟩
theorem RI.setL(h:RI w B c n G s vn L W G' vl ps hs ds){L':List Nat}(hL:∀k∈L',k ∉ G'.foot∧k<W.heap.size):RI w B c n G s vn L' W G' vl ps hs ds:=⟨⟨h.li.gm,h.li.ch,h.li.bx,h.li.vt,hL⟩,h.row,h.hs1,h.hs2,h.dd,h.nd,h.lo⟩
def collD(D:Nat):Deferred:={ target:=.collected D,args:=#[] }
theorem leaves_coll{F:Fence}{k:Nat}{P:Program}{fn:Func}{tmps:Array Value}{R:Ending→World→Prop}:∀(ds:List Nat) (W:World),ds.Nodup→(∀D∈ds,W.heap[D]?=some (.deferred (some []))) →
  LeavesInM F k P fn tmps R [] .returning (ds.foldl (fun W D=>W.putObj D (.deferred none)) W)→LeavesInM F k P fn tmps R (ds.map collD) .returning W:=by
 intro ds;induction ds with
 |nil=>exact fun _ _ _ h=>h
 |cons D r ih=>
  intro W hn hd h;obtain⟨n1,n2⟩:=List.nodup_cons.1 hn;have hD:=hd D List.mem_cons_self;refine⟨by simp,.inl ⟨_,_,rfl,run_takeDeferred hD,?_⟩⟩;refine ih _ n2 (fun x hx=>?_) h;have hx1:=hd x (List.mem_cons_of_mem _ hx);rw[← hx1];exact(kb_grown (grownBy_putObj' W D (.deferred none))).block x (lt_of_heap hx1) (by simp;intro e;exact n1 (e ▸ hx))
theorem coll_kb:∀(ds:List Nat) (W:World),Kb ds W (ds.foldl (fun W D=>W.putObj D (.deferred none)) W):=by
 intro ds;induction ds with
 |nil=>exact fun W=>Kb.refl _ W
 |cons D r ih=>
  intro W;have k1:=kb_grown (grownBy_putObj' W D (.deferred none));exact(k1.mono (by intro k _ hk;simp at hk;simp[hk])).trans ((ih _).mono (by intro k _ hk;simp[hk]))
end
end Go.Proofs.YtiamlbhkiehilaaGreatDoor
