import Derived.Test.YtiamlbhkiehilaaGreatDoorKa39
open Bool renaming and_eq_true→Js
open ByteArray renaming size→Jz
namespace Go.Proofs.YtiamlbhkiehilaaGreatDoor
section
open Go.RowKit Go.Maps
def rH:List Fct→List Fct→Prop
 |_,[]=>True
 |pre,f::r=>dX f.k f.p f.q=true∧cH pre f=0∧rH (pre++[f]) r
theorem xC{pre a:List Fct}(h:rH pre a):∀f∈a,dX f.k f.p f.q=true:=by
 induction a generalizing pre with
 |nil=>simp
 |cons f r c=>
  intro x b;rcases List.mem_cons.1 b with rfl|b
  ·exact h.1
  ·exact c h.2.2 x b
theorem sM{pre:List Fct}{f:Fct}(h:cH pre f=0):f.p.size≤12∧f.q.size≤12∧pre.length<120:=by
 by_cases a:12<f.p.size∨12<f.q.size
 ·rw[jQ a]at h;cases h
 ·by_cases b:120≤pre.length
  ·rw[jR a b]at h;cases h
  ·exact⟨by omega,by omega,by omega⟩
theorem kI{pre d:List Fct}(h:rH pre d):(∀f∈d,f.p.size≤12∧f.q.size≤12)∧(d=[]∨pre.length+d.length≤120):=by
 induction d generalizing pre with
 |nil=>exact⟨by simp,.inl rfl⟩
 |cons f r i=>
  obtain⟨a,b,c⟩:=sM h.2.1;obtain⟨j,e⟩:=i h.2.2;refine⟨fun x g=>?_,.inr ?_⟩
  ·rcases List.mem_cons.1 g with rfl|g
   ·exact⟨a,b⟩
   ·exact j x g
  ·rcases e with rfl|e
   ·simp;omega
   ·rw[List.length_append]at e;simp only[List.length_cons,List.length_nil]at e ⊢;omega
theorem mT{ws:List ByteArray}{k:Nat}(g:k<4)(h:dG ws k=true):dX (fC ws k).k (fC ws k).p (fC ws k).q=true:=by
 have f:(pat k).length=ws.length:=by simp only[dG,Js,decide_eq_true_eq]at h;exact h.1
 match k,g with
 |0,_=>
  match ws,f with
  | [a,b,c,d],_=>
   rw[BS]at h;simp only[Js,decide_eq_true_eq,gX]at h;have e:fC [a,b,c,d] 0=⟨1,a,d⟩:=by simp[fC,gV,pat,noB,Jz]
   rw[e];simp[dX,h.1.1.1,h.2]
 |1,_=>
  match ws,f with
  | [a,b,c],_=>
   rw[BT]at h;simp only[Js,decide_eq_true_eq,gX]at h;have e:fC [a,b,c] 1=⟨2,a,c⟩:=by simp[fC,gV,pat,noB,Jz]
   rw[e];simp[dX,h.1.1,h.2]
 |2,_=>
  match ws,f with
  | [a,b,c,d],_=>
   rw[BU]at h;simp only[Js,decide_eq_true_eq,gX]at h;have e:fC [a,b,c,d] 2=⟨3,a,d⟩:=by simp[fC,gV,pat,noB,Jz]
   rw[e];simp[dX,h.1.1.1,h.2]
 |3,_=>
  match ws,f with
  | [a,b,c,d],_=>
   rw[BV]at h;simp only[Js,decide_eq_true_eq,gX]at h;have e:fC [a,b,c,d] 3=⟨4,b,d⟩:=by simp[fC,gV,pat,noB,Jz]
   rw[e];simp[dX,h.1.1.2,h.2]
theorem DQ{l:ByteArray}{f:Fct}(h:cU l=(f,0))(a:f.k≠0):dX f.k f.p f.q=true:=by
 cases b:aU l 0 []with
 |none=>rw[mO b]at h;injection h with _ h;cases h
 |some c=>
  rw[jW b]at h;unfold iS at h;split at h
  ·injection h with h _;rw[← h]at a;exact absurd rfl a
  ·split at h
   ·rename_i g;injection h with h _;rw[← h];exact mT (by decide) g
   ·split at h
    ·rename_i g;injection h with h _;rw[← h];exact mT (by decide) g
    ·split at h
     ·rename_i g;injection h with h _;rw[← h];exact mT (by decide) g
     ·split at h
      ·rename_i g;injection h with h _;rw[← h];exact mT (by decide) g
      ·injection h with _ h;cases h
theorem B5{d:List ByteArray}:∀ {pre a:List Fct} {n:Nat} {m:Int},bH pre n d=(a,0,m)→∃r,a=pre++r∧rH pre r:=by
 induction d with
 |nil=>intro pre a n m h;simp only[bH,Prod.mk.injEq]at h;exact⟨[],by rw[← h.1];simp,trivial⟩
 |cons l q e=>
  intro pre a n m h;unfold bH at h;split at h
  ·injection h with _ h;injection h with h _;cases h
  ·split at h
   ·rename_i b;injection h with _ h;injection h with h _;exact absurd h b
   ·rename_i b;split at h
    ·exact e h
    ·rename_i f;split at h
     ·rename_i c;obtain⟨r,hr,g⟩:=e h;refine⟨(cU l).1::r,by rw[hr];simp,DQ (l:=l) ?_ f,c,g⟩;have:(cU l).2=0:=by
       cases hd:decide ((cU l).2=0)
       ·exact absurd (of_decide_eq_false hd) b
       ·exact of_decide_eq_true hd
      rw[← this]
     ·rename_i c;injection h with _ h;injection h with h _;exact absurd h c
theorem qT{s:ByteArray}{a:List Fct}{m:Int}(h:aW s=(a,0,m)):rH [] a:=by
 unfold aW at h;split at h
 ·injection h with _ h;injection h with h _;cases h
 ·obtain⟨r,hr,b⟩:=B5 h;rw[hr];exact b
theorem pI{pre a:List Fct}(h:rH pre a):∀f∈a,1≤f.k∧f.k≤4:=by intro f b;have:=xC h f b;simp only[dX,Js,decide_eq_true_eq]at this;exact this.1
theorem nW:∀ {d pre:List Fct},rH pre d→d=[]∨dU (cX (pre++d))≤40:=by
 intro d;induction d with
 |nil=>intro pre _;exact .inl rfl
 |cons f r i=>
  intro pre h;right;rcases i h.2.2 with e|e
  ·subst e;have g:=h.2.1;obtain⟨a,b,c⟩:=sM g;by_cases j:40<dU (cX (pre++[f]))
   ·rw[jS (by omega) (by omega) j]at g;cases g
   ·omega
  ·rw[List.append_assoc,List.singleton_append]at e;exact e
end
end Go.Proofs.YtiamlbhkiehilaaGreatDoor
