import Derived.Test.YtiamlbhkiehilaaGreatDoorKpMiss
import Derived.Test.YtiamlbhkiehilaaGreatDoorKtA
namespace Go.Proofs.YtiamlbhkiehilaaGreatDoor
open Go.RowKit Go.Maps
def trB (c:UInt8):List UInt8:=if c=61∨c=10 then [9,32,c] else [c]
def trL (l:List UInt8):List UInt8:=l.flatMap trB
theorem trL_app (a b:List UInt8):trL (a ++ b)=trL a ++ trL b:=by simp [trL]
theorem trL_cons (c:UInt8) (r:List UInt8):trL (c :: r)=trB c ++ trL r:=rfl
theorem trL_id {l:List UInt8} (h:∀ c∈l,c≠61∧c≠10):trL l=l:=by
 induction l with
 | nil=>rfl
 | cons c r ih=>
  obtain ⟨h1,h2⟩:=h c (by simp)
  rw [trL_cons,ih (fun x hx=>h x (by simp [hx]))]
  simp [trB,h1,h2]
theorem name_no61 {n:List UInt8} (h:nameB n=true):∀ c∈n,c≠61∧c≠10:=by
 obtain ⟨c,t,rfl,hs,ht⟩:=name_parts h
 have nl:=name_nonl h
 intro x hx
 refine ⟨?_,nl x hx⟩
 rintro rfl
 rcases List.mem_cons.1 hx with e | hx
 ·rw [← e] at hs
  exact absurd hs (by decide)
 ·exact absurd (ht _ hx) (by decide)
def lineT (f:Fct):List UInt8:=trL (lineL f) ++ [9,32]
theorem trL_text (fs:List Fct):trL (textL fs)=fs.flatMap fun f=>lineT f ++ [10]:=by
 induction fs with
 | nil=>rfl
 | cons f r ih=>
  rw [textL_cons,show lineL f ++ 10 :: textL r=lineL f ++ ([10] ++ textL r) by simp,trL_app,trL_app,ih,List.flatMap_cons]
  simp [lineT,trL,trB]
theorem said_T {f:Fct} (h:factB f.k f.p f.q=true):saidB ⟨(lineT f).toArray⟩=(f,0):=by
 have key:wl (lineT f) []=wl (lineL f) []:=by
  obtain ⟨k,p,q⟩:=f
  simp only [factB,Bool.and_eq_true,decide_eq_true_eq] at h
  obtain ⟨⟨hk1,hk4⟩,hp,hq⟩:=h
  have tp:=trL_id (name_no61 hp)
  have tq:=trL_id (name_no61 hq)
  have s61:kindB ((61:UInt8).toNat:Int)=2:=by decide
  have s38:kindB ((38:UInt8).toNat:Int)=2:=by decide
  have s42:kindB ((42:UInt8).toNat:Int)=2:=by decide
  have s32:kindB ((32:UInt8).toNat:Int)=1:=by decide
  have s9:kindB ((9:UInt8).toNat:Int)=1:=by decide
  have hcase:k=1∨k=2∨k=3∨k=4:=by omega
  rcases hcase with rfl | rfl | rfl | rfl
  ·have e:lineT ⟨1,p,q⟩=p.data.toList ++ 32 :: 9 :: 32 :: 61 :: 32 :: 38 :: (q.data.toList ++ 9 :: [32]):=by
    unfold lineT lineL
    rw [if_pos rfl,trL_app,tp]
    simp [trL_cons,trB,tq]
   rw [e,wl_name hp _ _ (by decide),wl_1 s32,wl_1 s9,wl_1 s32,wl_2 s61,wl_1 s32,wl_2 s38,wl_name hq _ _ (by decide),wl_1 s9,wl_1 s32,wl_nil]
   unfold lineL
   rw [if_pos rfl,wl_name hp _ _ (by decide),wl_1 s32,wl_2 s61,wl_1 s32,wl_2 s38,wl_last hq]
  ·have e:lineT ⟨2,p,q⟩=p.data.toList ++ 32 :: 9 :: 32 :: 61 :: 32 :: (q.data.toList ++ 9 :: [32]):=by
    unfold lineT lineL
    rw [if_neg (show ¬ (2:Int)=1 by decide),if_neg (show ¬ (2:Int)=3 by decide),if_neg (show ¬ (2:Int)=4 by decide),trL_app,tp]
    simp [trL_cons,trB,tq]
   rw [e,wl_name hp _ _ (by decide),wl_1 s32,wl_1 s9,wl_1 s32,wl_2 s61,wl_1 s32,wl_name hq _ _ (by decide),wl_1 s9,wl_1 s32,wl_nil]
   unfold lineL
   rw [if_neg (show ¬ (2:Int)=1 by decide),if_neg (show ¬ (2:Int)=3 by decide),if_neg (show ¬ (2:Int)=4 by decide),wl_name hp _ _ (by decide),wl_1 s32,wl_2 s61,wl_1 s32,wl_last hq]
  ·have e:lineT ⟨3,p,q⟩=p.data.toList ++ 32 :: 9 :: 32 :: 61 :: 32 :: 42 :: (q.data.toList ++ 9 :: [32]):=by
    unfold lineT lineL
    rw [if_neg (show ¬ (3:Int)=1 by decide),if_pos rfl,trL_app,tp]
    simp [trL_cons,trB,tq]
   rw [e,wl_name hp _ _ (by decide),wl_1 s32,wl_1 s9,wl_1 s32,wl_2 s61,wl_1 s32,wl_2 s42,wl_name hq _ _ (by decide),wl_1 s9,wl_1 s32,wl_nil]
   unfold lineL
   rw [if_neg (show ¬ (3:Int)=1 by decide),if_pos rfl,wl_name hp _ _ (by decide),wl_1 s32,wl_2 s61,wl_1 s32,wl_2 s42,wl_last hq]
  ·have e:lineT ⟨4,p,q⟩=42 :: (p.data.toList ++ 32 :: 9 :: 32 :: 61 :: 32 :: (q.data.toList ++ 9 :: [32])):=by
    unfold lineT lineL
    rw [if_neg (show ¬ (4:Int)=1 by decide),if_neg (show ¬ (4:Int)=3 by decide),if_pos rfl,trL_cons,trL_app,tp]
    simp [trL_cons,trB,tq]
   rw [e,wl_2 s42,wl_name hp _ _ (by decide),wl_1 s32,wl_1 s9,wl_1 s32,wl_2 s61,wl_1 s32,wl_name hq _ _ (by decide),wl_1 s9,wl_1 s32,wl_nil]
   unfold lineL
   rw [if_neg (show ¬ (4:Int)=1 by decide),if_neg (show ¬ (4:Int)=3 by decide),if_pos rfl,wl_2 s42,wl_name hp _ _ (by decide),wl_1 s32,wl_2 s61,wl_1 s32,wl_last hq]
 rw [← said_line h]
 unfold saidB
 rw [words_wl,words_wl]
 show (match wl (lineT f) [] with | _=>_)=_
 rw [show (⟨(lineL f).toArray⟩:ByteArray).data.toList=lineL f by simp,show (⟨(lineT f).toArray⟩:ByteArray).data.toList=lineT f by simp,key]
end Go.Proofs.YtiamlbhkiehilaaGreatDoor
