import Derived.Test.YtiamlbhkiehilaaGreatDoorKp18
namespace Go.Proofs.YtiamlbhkiehilaaGreatDoor
section
open Go.RowKit Go.Maps
theorem name_nonl {n:List UInt8} (h:nameB n=true):∀ c∈n,c≠10:=by
 obtain ⟨c,t,rfl,hc,ht⟩:=name_parts h
 intro x hx he
 subst he
 rcases List.mem_cons.1 hx with h1 | h1
 ·rw [← h1] at hc; exact absurd hc (by decide)
 ·exact absurd (ht _ h1) (by decide)
theorem lineL_nonl {f:Fct} (h:factB f.k f.p f.q=true):∀ c∈lineL f,c≠10:=by
 simp only [factB,Bool.and_eq_true] at h
 obtain ⟨_,hp,hq⟩:=h
 have np:=name_nonl hp
 have nq:=name_nonl hq
 intro c hc
 unfold lineL at hc
 split at hc
 ·simp only [List.mem_append,List.mem_cons] at hc
  rcases hc with h | rfl | rfl | rfl | rfl | h
  ·exact np c h
  ·decide
  ·decide
  ·decide
  ·decide
  ·exact nq c h
 ·split at hc
  ·simp only [List.mem_append,List.mem_cons] at hc
   rcases hc with h | rfl | rfl | rfl | rfl | h
   ·exact np c h
   ·decide
   ·decide
   ·decide
   ·decide
   ·exact nq c h
  ·split at hc
   ·simp only [List.mem_append,List.mem_cons] at hc
    rcases hc with rfl | h | rfl | rfl | rfl | h
    ·decide
    ·exact np c h
    ·decide
    ·decide
    ·decide
    ·exact nq c h
   ·simp only [List.mem_append,List.mem_cons] at hc
    rcases hc with h | rfl | rfl | rfl | h
    ·exact np c h
    ·decide
    ·decide
    ·decide
    ·exact nq c h
def textL (fs:List Fct):List UInt8:=fs.flatMap fun f=>lineL f ++ [10]
theorem textL_cons (f:Fct) (r:List Fct):textL (f :: r)=lineL f ++ 10 :: textL r:=by simp [textL]
def okGo:List Fct→List Fct→Prop
 | _,[]=>True
 | pre,f :: r=>factB f.k f.p f.q=true∧errOf pre f=0∧okGo (pre ++ [f]) r
theorem okGo_fact {pre fs:List Fct} (h:okGo pre fs):∀ f∈fs,factB f.k f.p f.q=true:=by
 induction fs generalizing pre with
 | nil=>simp
 | cons f r ih=>
  intro x hx
  rcases List.mem_cons.1 hx with rfl | hx
  ·exact h.1
  ·exact ih h.2.2 x hx
theorem errOf_small {pre:List Fct} {f:Fct} (h:errOf pre f=0):f.p.size≤12∧f.q.size≤12∧pre.length < 120:=by
 by_cases h1:12 < f.p.size∨12 < f.q.size
 ·rw [errOf_name h1] at h; cases h
 ·by_cases h2:120≤pre.length
  ·rw [errOf_many h1 h2] at h; cases h
  ·exact ⟨by omega,by omega,by omega⟩
theorem okGo_small {pre fs:List Fct} (h:okGo pre fs):(∀ f∈fs,f.p.size≤12∧f.q.size≤12)∧(fs=[]∨pre.length+fs.length≤120):=by
 induction fs generalizing pre with
 | nil=>exact ⟨by simp,.inl rfl⟩
 | cons f r ih=>
  obtain ⟨a,b,c⟩:=errOf_small h.2.1
  obtain ⟨h1,h2⟩:=ih h.2.2
  refine ⟨fun x hx=>?_,.inr ?_⟩
  ·rcases List.mem_cons.1 hx with rfl | hx
   ·exact ⟨a,b⟩
   ·exact h1 x hx
  ·rcases h2 with rfl | h2
   ·simp; omega
   ·rw [List.length_append] at h2
    simp only [List.length_cons,List.length_nil] at h2 ⊢
    omega
theorem print_ok {pre fs:List Fct} (h:okGo pre fs) (acc:List UInt8):printGo pre fs acc=(acc ++ textL fs,0,0):=by
 induction fs generalizing pre acc with
 | nil=>simp [printGo,textL]
 | cons f r ih=>rw [printGo_ok h.1 h.2.1,ih h.2.2,lineL_eq,textL_cons]; simp
theorem lnL_text {fs:List Fct} (h:∀ f∈fs,factB f.k f.p f.q=true):lnL (textL fs)=fs.map lineL ++ [[]]:=by
 induction fs with
 | nil=>rfl
 | cons f r ih=>rw [textL_cons,lnL_pre _ _ (lineL_nonl (h f (by simp))),ih (fun x hx=>h x (by simp [hx]))]; rfl
theorem lineL_len (f:Fct):(lineL f).length≤f.p.size+f.q.size+4:=by
 have e1:f.p.data.toList.length=f.p.size:=Array.length_toList
 have e2:f.q.data.toList.length=f.q.size:=Array.length_toList
 unfold lineL
 split
 ·simp only [List.length_append,List.length_cons,e1,e2]; omega
 ·split
  ·simp only [List.length_append,List.length_cons,e1,e2]; omega
  ·split
   ·simp only [List.length_append,List.length_cons,e1,e2]; omega
   ·simp only [List.length_append,List.length_cons,e1,e2]; omega
theorem textL_len {fs:List Fct} (h:∀ f∈fs,f.p.size≤12∧f.q.size≤12):(textL fs).length≤29 * fs.length:=by
 induction fs with
 | nil=>simp [textL]
 | cons f r ih=>
  have h1:=lineL_len f
  have h2:=h f (by simp)
  have h3:=ih (fun x hx=>h x (by simp [hx]))
  rw [textL_cons,List.length_append,List.length_cons,List.length_cons]
  omega
theorem said_empty:saidB ⟨#[]⟩=(noF,0):=by
 have:wordsR ⟨#[]⟩ 0 []=some []:=by rw [words_wl]; rfl
 rw [saidB_some this,saidW_nil rfl]
theorem arr_size (l:List UInt8):(⟨l.toArray⟩:ByteArray).size=l.length:=by
 show l.toArray.size=_
 simp
theorem parse_lines {pre fs:List Fct} (h:okGo pre fs) (n:Nat):parseGo pre n (fs.map (fun f=>⟨(lineL f).toArray⟩) ++ [⟨#[]⟩])=(pre ++ fs,0,0):=by
 induction fs generalizing pre n with
 | nil=>
  rw [List.map_nil,List.nil_append,parseGo_skip (by decide) said_empty rfl]
  simp [parseGo]
 | cons f r ih=>
  obtain ⟨a,b,_⟩:=errOf_small h.2.1
  have hl:=lineL_len f
  have hk:f.k≠0:=by
   have h1:=h.1
   simp only [factB,Bool.and_eq_true,decide_eq_true_eq] at h1
   omega
  rw [List.map_cons,List.cons_append,parseGo_add (by rw [arr_size]; omega) (said_line h.1) hk h.2.1,ih h.2.2]
  simp
theorem print_parse {fs:List Fct} (h:okGo [] fs):parseB ⟨(textL fs).toArray⟩=(fs,0,0):=by
 obtain ⟨h1,h2⟩:=okGo_small h
 have h3:=textL_len h1
 have hl:linesB ⟨(textL fs).toArray⟩=fs.map (fun f=>⟨(lineL f).toArray⟩) ++ [⟨#[]⟩]:=by
  apply map_inj
  rw [linesB_lnL]
  show lnL (textL fs).toArray.toList=_
  rw [List.toList_toArray,lnL_text (okGo_fact h),List.map_append,List.map_map]
  congr 1
 unfold parseB
 rw [if_neg,hl,parse_lines h]
 ·rfl
 ·rw [arr_size]
  rcases h2 with rfl | h2
  ·simp [textL]
  ·simp only [List.length_nil] at h2
   omega
theorem good_names {ws:List ByteArray} {k:Nat} (hk:k < 4) (h:goodW ws k=true):factB (fctW ws k).k (fctW ws k).p (fctW ws k).q=true:=by
 have hl:(pat k).length=ws.length:=by
  simp only [goodW,Bool.and_eq_true,decide_eq_true_eq] at h
  exact h.1
 match k,hk with
 | 0,_=>
  match ws,hl with
  | [a,b,c,d],_=>
   rw [good_0] at h
   simp only [Bool.and_eq_true,decide_eq_true_eq,isNm] at h
   have ef:fctW [a,b,c,d] 0=⟨1,a,d⟩:=by simp [fctW,nmsI,pat,noB,ByteArray.size]
   rw [ef]
   simp [factB,h.1.1.1,h.2]
 | 1,_=>
  match ws,hl with
  | [a,b,c],_=>
   rw [good_1] at h
   simp only [Bool.and_eq_true,decide_eq_true_eq,isNm] at h
   have ef:fctW [a,b,c] 1=⟨2,a,c⟩:=by simp [fctW,nmsI,pat,noB,ByteArray.size]
   rw [ef]
   simp [factB,h.1.1,h.2]
 | 2,_=>
  match ws,hl with
  | [a,b,c,d],_=>
   rw [good_2] at h
   simp only [Bool.and_eq_true,decide_eq_true_eq,isNm] at h
   have ef:fctW [a,b,c,d] 2=⟨3,a,d⟩:=by simp [fctW,nmsI,pat,noB,ByteArray.size]
   rw [ef]
   simp [factB,h.1.1.1,h.2]
 | 3,_=>
  match ws,hl with
  | [a,b,c,d],_=>
   rw [good_3] at h
   simp only [Bool.and_eq_true,decide_eq_true_eq,isNm] at h
   have ef:fctW [a,b,c,d] 3=⟨4,b,d⟩:=by simp [fctW,nmsI,pat,noB,ByteArray.size]
   rw [ef]
   simp [factB,h.1.1.2,h.2]
theorem said_fact {l:ByteArray} {f:Fct} (h:saidB l=(f,0)) (hk:f.k≠0):factB f.k f.p f.q=true:=by
 cases hw:wordsR l 0 [] with
 | none=>rw [saidB_none hw] at h; injection h with _ h; cases h
 | some ws=>
  rw [saidB_some hw] at h
  unfold saidW at h
  split at h
  ·injection h with h _
   rw [← h] at hk
   exact absurd rfl hk
  ·split at h
   ·rename_i g
    injection h with h _
    rw [← h]
    exact good_names (by decide) g
   ·split at h
    ·rename_i g
     injection h with h _
     rw [← h]
     exact good_names (by decide) g
    ·split at h
     ·rename_i g
      injection h with h _
      rw [← h]
      exact good_names (by decide) g
     ·split at h
      ·rename_i g
       injection h with h _
       rw [← h]
       exact good_names (by decide) g
      ·injection h with _ h
       cases h
theorem parse_okGo {ls:List ByteArray}:∀ {pre fs:List Fct} {n:Nat} {m:Int},parseGo pre n ls=(fs,0,m)→∃ r,fs=pre ++ r∧okGo pre r:=by
 induction ls with
 | nil=>
  intro pre fs n m h
  simp only [parseGo,Prod.mk.injEq] at h
  exact ⟨[],by rw [← h.1]; simp,trivial⟩
 | cons l q ih=>
  intro pre fs n m h
  unfold parseGo at h
  split at h
  ·injection h with _ h; injection h with h _; cases h
  ·split at h
   ·rename_i he
    injection h with _ h; injection h with h _
    exact absurd h he
   ·rename_i he
    split at h
    ·exact ih h
    ·rename_i hk
     split at h
     ·rename_i hz
      obtain ⟨r,hr,ho⟩:=ih h
      refine ⟨(saidB l).1 :: r,by rw [hr]; simp,said_fact (l:=l) ?_ hk,hz,ho⟩
      have:(saidB l).2=0:=by
       cases hd:decide ((saidB l).2=0)
       ·exact absurd (of_decide_eq_false hd) he
       ·exact of_decide_eq_true hd
      rw [← this]
     ·rename_i hz
      injection h with _ h; injection h with h _
      exact absurd h hz
theorem parse_ok {s:ByteArray} {fs:List Fct} {m:Int} (h:parseB s=(fs,0,m)):okGo [] fs:=by
 unfold parseB at h
 split at h
 ·injection h with _ h; injection h with h _; cases h
 ·obtain ⟨r,hr,ho⟩:=parse_okGo h
  rw [hr]
  exact ho
end
section
open Go.RowKit Go.Maps
theorem okGo_kinds {pre fs:List Fct} (h:okGo pre fs):∀ f∈fs,1≤f.k∧f.k≤4:=by
 intro f hf
 have:=okGo_fact h f hf
 simp only [factB,Bool.and_eq_true,decide_eq_true_eq] at this
 exact this.1
theorem okGo_dcount:∀ {fs pre:List Fct},okGo pre fs→fs=[]∨dcount (namesL (pre ++ fs))≤40:=by
 intro fs
 induction fs with
 | nil=>intro pre _; exact .inl rfl
 | cons f r ih=>
  intro pre h
  right
  rcases ih h.2.2 with h1 | h1
  ·subst h1
   have h2:=h.2.1
   obtain ⟨a,b,c⟩:=errOf_small h2
   by_cases h3:40 < dcount (namesL (pre ++ [f]))
   ·rw [errOf_full (by omega) (by omega) h3] at h2
    cases h2
   ·omega
  ·rw [List.append_assoc,List.singleton_append] at h1
   exact h1
end
end Go.Proofs.YtiamlbhkiehilaaGreatDoor
