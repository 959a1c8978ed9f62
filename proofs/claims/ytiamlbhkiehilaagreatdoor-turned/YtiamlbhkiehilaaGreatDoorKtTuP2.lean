import Derived.Test.YtiamlbhkiehilaaGreatDoorKpMiss
import Derived.Test.YtiamlbhkiehilaaGreatDoorKtTuP
namespace Go.Proofs.YtiamlbhkiehilaaGreatDoor
open Go.RowKit Go.Maps
def remL:List UInt8:=[35,32,97,32,114,101,109,97,114,107,32,61,32,38]
def sufL:List UInt8:=[32,35,32,116,104,101,32,101,110,100]
def turL (fs:List Fct):List UInt8:=remL ++ 10 :: 10 :: (trL (textL fs) ++ sufL)
theorem said_rem:saidB ⟨remL.toArray⟩=(noF,0):=by kernel_rfl
theorem said_suf:saidB ⟨sufL.toArray⟩=(noF,0):=by kernel_rfl
theorem trL_len (l:List UInt8):(trL l).length≤3 * l.length:=by
 induction l with
 | nil=>simp [trL]
 | cons c r ih=>
  rw [trL_cons,List.length_append,List.length_cons]
  have:(trB c).length≤3:=by unfold trB; split <;> simp
  omega
theorem lineT_len {f:Fct} (h:f.p.size≤2∧f.q.size≤2):(lineT f).length≤26:=by
 have h1:=lineL_len f
 have h2:=trL_len (lineL f)
 unfold lineT
 rw [List.length_append]
 simp
 omega
theorem trL_mem {l:List UInt8} (h:∀ c∈l,c≠10):∀ c∈trL l,c≠10:=by
 intro c hc
 obtain ⟨x,hx,hc⟩:=List.mem_flatMap.1 hc
 unfold trB at hc
 split at hc
 ·rename_i h1
  have hx1:x=61:=h1.resolve_right (h x hx)
  simp only [List.mem_cons,List.not_mem_nil,or_false] at hc
  rcases hc with rfl | rfl | rfl
  ·decide
  ·decide
  ·rw [hx1]; decide
 ·simp only [List.mem_cons,List.not_mem_nil,or_false] at hc
  rw [hc]
  exact h x hx
theorem lineT_nonl {f:Fct} (h:factB f.k f.p f.q=true):∀ c∈lineT f,c≠10:=by
 intro c hc
 rcases List.mem_append.1 hc with hc | hc
 ·exact trL_mem (lineL_nonl h) c hc
 ·simp only [List.mem_cons,List.not_mem_nil,or_false] at hc
  rcases hc with rfl | rfl <;> decide
theorem lnL_turned {fs:List Fct} (h:∀ f∈fs,factB f.k f.p f.q=true):lnL (trL (textL fs) ++ sufL)=fs.map lineT ++ [sufL]:=by
 rw [trL_text]
 induction fs with
 | nil=>exact lnL_none _ (by decide)
 | cons f r ih=>
  rw [List.flatMap_cons,List.append_assoc,List.append_assoc,List.singleton_append,lnL_pre _ _ (lineT_nonl (h f (by simp))),ih (fun x hx=>h x (by simp [hx]))]
  rfl
theorem parse_linesT {pre fs:List Fct} (h:okGo pre fs) (hs:∀ f∈fs,f.p.size≤2∧f.q.size≤2) (n:Nat):parseGo pre n (fs.map (fun f=>⟨(lineT f).toArray⟩) ++ [⟨sufL.toArray⟩])=(pre ++ fs,0,0):=by
 induction fs generalizing pre n with
 | nil=>
  rw [List.map_nil,List.nil_append,parseGo_skip (by decide) said_suf rfl]
  simp [parseGo]
 | cons f r ih=>
  have hl:=lineT_len (hs f (by simp))
  have hk:f.k≠0:=by
   have h1:=h.1
   simp only [factB,Bool.and_eq_true,decide_eq_true_eq] at h1
   omega
  rw [List.map_cons,List.cons_append,parseGo_add (by rw [arr_size]; omega) (said_T h.1) hk h.2.1,ih h.2.2 (fun x hx=>hs x (by simp [hx]))]
  simp
theorem trT_len {fs:List Fct} (hs:∀ f∈fs,f.p.size≤2∧f.q.size≤2):(trL (textL fs)).length≤27 * fs.length:=by
 rw [trL_text]
 induction fs with
 | nil=>simp
 | cons f r ih=>
  have h1:=lineT_len (hs f (by simp))
  have h2:=ih (fun x hx=>hs x (by simp [hx]))
  rw [List.flatMap_cons,List.length_append,List.length_append,List.length_cons,List.length_cons,List.length_nil]
  omega
theorem turL_len {fs:List Fct} (hs:∀ f∈fs,f.p.size≤2∧f.q.size≤2) (hl:fs.length≤120):(turL fs).length≤4000:=by
 have:=trT_len hs
 unfold turL
 simp only [List.length_append,List.length_cons,remL,sufL]
 simp
 omega
theorem turned_parse {fs:List Fct} (h:okGo [] fs) (hs:∀ f∈fs,f.p.size≤2∧f.q.size≤2) (hl2:fs.length≤120):parseB ⟨(turL fs).toArray⟩=(fs,0,0):=by
 have h3:=turL_len hs hl2
 have hl:linesB ⟨(turL fs).toArray⟩=⟨remL.toArray⟩ :: ⟨#[]⟩ :: (fs.map (fun f=>⟨(lineT f).toArray⟩) ++ [⟨sufL.toArray⟩]):=by
  apply map_inj
  rw [linesB_lnL]
  show lnL (turL fs).toArray.toList=_
  rw [List.toList_toArray]
  unfold turL
  rw [lnL_pre _ _ (by decide)]
  show remL :: lnL ([] ++ 10 :: (trL (textL fs) ++ sufL))=_
  rw [lnL_pre _ _ (by simp),lnL_turned (okGo_fact h),List.map_cons,List.map_cons,List.map_append,List.map_map]
  congr 2
 unfold parseB
 rw [if_neg (by rw [arr_size]; omega),hl,parseGo_skip (by decide) said_rem rfl,parseGo_skip (by decide) said_empty rfl,parse_linesT h hs]
 rfl
theorem asc_same {a b:List ByteArray} (ha:Asc a) (hb:Asc b) (h:∀ x,x∈a↔x∈b):a=b:=by
 induction a generalizing b with
 | nil=>
  cases b with
  | nil=>rfl
  | cons y t=>exact absurd ((h y).2 (by simp)) (by simp)
 | cons x s ih=>
  cases b with
  | nil=>exact absurd ((h x).1 (by simp)) (by simp)
  | cons y t=>
   have ha':=List.pairwise_cons.1 ha
   have hb':=List.pairwise_cons.1 hb
   have irr:∀ z,lessS z z=true→False:=fun z hz=>by rw [lessS_irrefl] at hz; cases hz
   have hxy:x=y:=by
    rcases List.mem_cons.1 ((h x).1 (by simp)) with e | hx
    ·exact e
    ·rcases List.mem_cons.1 ((h y).2 (by simp)) with e | hy
     ·exact e.symm
     ·exact (irr x (lessS_trans (ha'.1 y hy) (hb'.1 x hx))).elim
   subst hxy
   congr 1
   refine ih ha'.2 hb'.2 (fun z=>⟨fun hz=>?_,fun hz=>?_⟩)
   ·rcases List.mem_cons.1 ((h z).1 (List.mem_cons_of_mem _ hz)) with e | h9
    ·subst e
     exact (irr z (ha'.1 z hz)).elim
    ·exact h9
   ·rcases List.mem_cons.1 ((h z).2 (List.mem_cons_of_mem _ hz)) with e | h9
    ·subst e
     exact (irr z (hb'.1 z hz)).elim
    ·exact h9
theorem ns_same {fs gs:List Fct} (h:∀ f,f∈fs↔f∈gs):nsOf fs=nsOf gs:=by
 refine asc_same (asc_names _) (asc_names _) (fun x=>?_)
 show x∈nsOf fs↔x∈nsOf gs
 rw [mem_ns,mem_ns]
 exact ⟨fun ⟨f,hf,e⟩=>⟨f,(h f).1 hf,e⟩,fun ⟨f,hf,e⟩=>⟨f,(h f).2 hf,e⟩⟩
theorem raws_lift {rs:List RawD}:∀ {gs:List Fct},(∀ f∈gs,f∈rs.map RawD.fct)→∃ ts:List RawD,gs=ts.map RawD.fct:=by
 intro gs
 induction gs with
 | nil=>exact fun _=>⟨[],rfl⟩
 | cons g r ih=>
  intro h
  obtain ⟨ts,ht⟩:=ih (fun f hf=>h f (by simp [hf]))
  obtain ⟨x,_,hx⟩:=List.mem_map.1 (h g (by simp))
  exact ⟨x :: ts,by rw [List.map_cons,hx,ht]⟩
theorem raw_small (r:RawD):r.fct.p.size≤2∧r.fct.q.size≤2:=by
 have h1:=(nmQ_name (pickB_lt r.p (n:=20) (by decide))).2
 have h2:=(nmQ_name (pickB_lt r.q (n:=20) (by decide))).2
 exact ⟨Nat.le_of_eq h1,Nat.le_of_eq h2⟩
end Go.Proofs.YtiamlbhkiehilaaGreatDoor
