import Derived.Test.YtiamlbhkiehilaaGreatDoorAn08
namespace Go.Proofs.YtiamlbhkiehilaaGreatDoor
section
open Go.RowKit Go.Maps
theorem fits_name (x:ByteArray):fitsOne noB x=isNm x:=by simp [fitsOne,noB,ByteArray.size,isNm]
theorem fits_sign (c:UInt8) (x:ByteArray):fitsOne ⟨#[c]⟩ x=decide (x=⟨#[c]⟩):=by simp [fitsOne,ByteArray.size]
theorem good_0 (a b c d:ByteArray):goodW [a,b,c,d] 0=(isNm a && decide (b=⟨#[61]⟩) && decide (c=⟨#[38]⟩) && isNm d):=by
 simp [goodW,pat,fitsI,fits_name,fits_sign]
theorem good_1 (a b c:ByteArray):goodW [a,b,c] 1=(isNm a && decide (b=⟨#[61]⟩) && isNm c):=by
 simp [goodW,pat,fitsI,fits_name,fits_sign]
theorem good_2 (a b c d:ByteArray):goodW [a,b,c,d] 2=(isNm a && decide (b=⟨#[61]⟩) && decide (c=⟨#[42]⟩) && isNm d):=by
 simp [goodW,pat,fitsI,fits_name,fits_sign]
theorem good_3 (a b c d:ByteArray):goodW [a,b,c,d] 3=(decide (a=⟨#[42]⟩) && isNm b && decide (c=⟨#[61]⟩) && isNm d):=by
 simp [goodW,pat,fitsI,fits_name,fits_sign]
theorem good_len {ws:List ByteArray} {k:Nat} (h:(pat k).length≠ws.length):goodW ws k=false:=by simp [goodW,h]
def saidK (ws:List ByteArray):Fct × Int:=
 if (kindS (shapeL ws)).2=true then (if (kindS (shapeL ws)).1=0 then noF else ⟨(kindS (shapeL ws)).1,(nmsL ws).getD 0 noB,(nmsL ws).getD 1 noB⟩,0) else (noF,4)
theorem said_kind4 (a b c d:ByteArray) (ha:isWord a) (hb:isWord b) (hc:isWord c) (hd:isWord d):saidW [a,b,c,d]=saidK [a,b,c,d]∧((kindS (shapeL [a,b,c,d])).1≠0→(nmsL [a,b,c,d]).length=2):=by
 obtain ⟨a1,a2,a3,a4⟩:=shape_eq ha
 obtain ⟨b1,b2,b3,b4⟩:=shape_eq hb
 obtain ⟨c1,c2,c3,c4⟩:=shape_eq hc
 obtain ⟨d1,d2,d3,d4⟩:=shape_eq hd
 have e0:(shapeL [a,b,c,d]=[110,61,38,110])↔goodW [a,b,c,d] 0=true:=by
  rw [good_0]; simp [shapeL,a1,b2,c3,d1,isNm,and_assoc]
 have e1:goodW [a,b,c,d] 1=false:=good_len (by simp [pat])
 have e2:(shapeL [a,b,c,d]=[110,61,42,110])↔goodW [a,b,c,d] 2=true:=by
  rw [good_2]; simp [shapeL,a1,b2,c4,d1,isNm,and_assoc]
 have e3:(shapeL [a,b,c,d]=[42,110,61,110])↔goodW [a,b,c,d] 3=true:=by
  rw [good_3]; simp [shapeL,a4,b1,c2,d1,isNm,and_assoc]
 have f0:shapeL [a,b,c,d]≠[]:=by simp [shapeL]
 have f1:shapeL [a,b,c,d]≠[110,61,110]:=by simp [shapeL]
 have s61:isNm ⟨#[61]⟩=false:=by decide
 have s38:isNm ⟨#[38]⟩=false:=by decide
 have s42:isNm ⟨#[42]⟩=false:=by decide
 unfold saidK kindS saidW
 rw [if_neg (show ¬ ([a,b,c,d]:List ByteArray).length=0 by simp)]
 simp only [f0,f1,if_false,e1,e0,e2,e3]
 by_cases g0:goodW [a,b,c,d] 0=true
 ·have g:=g0
  rw [good_0] at g
  simp only [Bool.and_eq_true,decide_eq_true_eq] at g
  obtain ⟨⟨⟨h1,rfl⟩,rfl⟩,h4⟩:=g
  have en:nmsL [a,⟨#[61]⟩,⟨#[38]⟩,d]=[a,d]:=by simp [nmsL,h1,h4,s61,s38]
  have ef:fctW [a,⟨#[61]⟩,⟨#[38]⟩,d] 0=⟨1,a,d⟩:=by simp [fctW,nmsI,pat,noB,ByteArray.size]
  rw [en]
  simp [g0,ef]
 ·simp only [g0]
  by_cases g2:goodW [a,b,c,d] 2=true
  ·have g:=g2
   rw [good_2] at g
   simp only [Bool.and_eq_true,decide_eq_true_eq] at g
   obtain ⟨⟨⟨h1,rfl⟩,rfl⟩,h4⟩:=g
   have en:nmsL [a,⟨#[61]⟩,⟨#[42]⟩,d]=[a,d]:=by simp [nmsL,h1,h4,s61,s42]
   have ef:fctW [a,⟨#[61]⟩,⟨#[42]⟩,d] 2=⟨3,a,d⟩:=by simp [fctW,nmsI,pat,noB,ByteArray.size]
   rw [en]
   simp [g2,ef]
  ·simp only [g2]
   by_cases g3:goodW [a,b,c,d] 3=true
   ·have g:=g3
    rw [good_3] at g
    simp only [Bool.and_eq_true,decide_eq_true_eq] at g
    obtain ⟨⟨⟨rfl,h2⟩,rfl⟩,h4⟩:=g
    have en:nmsL [⟨#[42]⟩,b,⟨#[61]⟩,d]=[b,d]:=by simp [nmsL,h2,h4,s61,s42]
    have ef:fctW [⟨#[42]⟩,b,⟨#[61]⟩,d] 3=⟨4,b,d⟩:=by simp [fctW,nmsI,pat,noB,ByteArray.size]
    rw [en]
    simp [g3,ef]
   ·simp [g3]
theorem said_kind3 (a b c:ByteArray) (ha:isWord a) (hb:isWord b) (hc:isWord c):saidW [a,b,c]=saidK [a,b,c]∧((kindS (shapeL [a,b,c])).1≠0→(nmsL [a,b,c]).length=2):=by
 obtain ⟨a1,a2,a3,a4⟩:=shape_eq ha
 obtain ⟨b1,b2,b3,b4⟩:=shape_eq hb
 obtain ⟨c1,c2,c3,c4⟩:=shape_eq hc
 have e1:(shapeL [a,b,c]=[110,61,110])↔goodW [a,b,c] 1=true:=by
  rw [good_1]; simp [shapeL,a1,b2,c1,isNm,and_assoc]
 have e0:goodW [a,b,c] 0=false:=good_len (by simp [pat])
 have e2:goodW [a,b,c] 2=false:=good_len (by simp [pat])
 have e3:goodW [a,b,c] 3=false:=good_len (by simp [pat])
 have f0:shapeL [a,b,c]≠[]:=by simp [shapeL]
 have f1:shapeL [a,b,c]≠[110,61,38,110]:=by simp [shapeL]
 have f2:shapeL [a,b,c]≠[110,61,42,110]:=by simp [shapeL]
 have f3:shapeL [a,b,c]≠[42,110,61,110]:=by simp [shapeL]
 have s61:isNm ⟨#[61]⟩=false:=by decide
 unfold saidK kindS saidW
 rw [if_neg (show ¬ ([a,b,c]:List ByteArray).length=0 by simp)]
 simp only [f0,f1,f2,f3,if_false,e1,e0,e2,e3]
 by_cases g0:goodW [a,b,c] 1=true
 ·have g:=g0
  rw [good_1] at g
  simp only [Bool.and_eq_true,decide_eq_true_eq] at g
  obtain ⟨⟨h1,rfl⟩,h4⟩:=g
  have en:nmsL [a,⟨#[61]⟩,c]=[a,c]:=by simp [nmsL,h1,h4,s61]
  have ef:fctW [a,⟨#[61]⟩,c] 1=⟨2,a,c⟩:=by simp [fctW,nmsI,pat,noB,ByteArray.size]
  rw [en]
  simp [g0,ef]
 ·simp [g0]
theorem said_kind (ws:List ByteArray) (h:∀ x∈ws,isWord x):saidW ws=saidK ws∧((kindS (shapeL ws)).1≠0→(nmsL ws).length=2):=by
 have other:∀ ws:List ByteArray,ws.length≠0→ws.length≠3→ws.length≠4→saidW ws=saidK ws∧((kindS (shapeL ws)).1≠0→(nmsL ws).length=2):=by
  intro ws h0 h3 h4
  have hl:(shapeL ws).length=ws.length:=by simp [shapeL]
  have f:∀ l:List UInt8,l.length=0∨l.length=3∨l.length=4→shapeL ws≠l:=by
   intro l hll e
   rw [e] at hl
   omega
  have g:∀ k,k < 4→goodW ws k=false:=by
   intro k hk
   have hc:k=0∨k=1∨k=2∨k=3:=by omega
   rcases hc with rfl | rfl | rfl | rfl <;> exact good_len (by simp [pat]; omega)
  have e:kindS (shapeL ws)=(0,false):=by
   unfold kindS
   rw [if_neg (f _ (by simp)),if_neg (f _ (by simp)),if_neg (f _ (by simp)),if_neg (f _ (by simp)),if_neg (f _ (by simp))]
  rw [saidW_bad (by omega) g]
  unfold saidK
  rw [e]
  simp
 match ws,h with
 | [],_=>exact ⟨rfl,fun h=>absurd rfl h⟩
 | [a],_=>exact other _ (by simp) (by simp) (by simp)
 | [a,b],_=>exact other _ (by simp) (by simp) (by simp)
 | [a,b,c],h=>exact said_kind3 a b c (h a (by simp)) (h b (by simp)) (h c (by simp))
 | [a,b,c,d],h=>exact said_kind4 a b c d (h a (by simp)) (h b (by simp)) (h c (by simp)) (h d (by simp))
 | a :: b :: c :: d :: e :: r,_=>exact other _ (by simp) (by simp) (by simp)
end
end Go.Proofs.YtiamlbhkiehilaaGreatDoor
