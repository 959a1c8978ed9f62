import Derived.Test.YtiamlbhkiehilaaGreatDoorKq09
import Derived.Test.YtiamlbhkiehilaaGreatDoorKq10
import Derived.Test.YtiamlbhkiehilaaGreatDoorKq07
import Derived.Test.YtiamlbhkiehilaaGreatDoorKq08
import Derived.Lib.Split
import Derived.Lib.IndexBytes
import Derived.Test.YtiamlbhkiehilaaGreatDoorKq01
import Derived.Shelf.Strings.BuilderK
import Derived.Deep.RegionWith
namespace Go.Proofs.YtiamlbhkiehilaaGreatDoor
section
open Go.RowKit Go.Maps
theorem fits_name(x:ByteArray):fitsOne noB x=isNm x:=by simp[fitsOne,noB,ByteArray.size,isNm]
theorem fits_sign(c:UInt8)(x:ByteArray):fitsOne ⟨#[c]⟩ x=decide (x=⟨#[c]⟩):=by simp[fitsOne,ByteArray.size]
theorem good_0(a b c d:ByteArray):goodW [a,b,c,d] 0=(isNm a && decide (b=⟨#[61]⟩) && decide (c=⟨#[38]⟩) && isNm d):=by
 simp[goodW,pat,fitsI,fits_name,fits_sign]
theorem good_1(a b c:ByteArray):goodW [a,b,c] 1=(isNm a && decide (b=⟨#[61]⟩) && isNm c):=by
 simp[goodW,pat,fitsI,fits_name,fits_sign]
theorem good_2(a b c d:ByteArray):goodW [a,b,c,d] 2=(isNm a && decide (b=⟨#[61]⟩) && decide (c=⟨#[42]⟩) && isNm d):=by
 simp[goodW,pat,fitsI,fits_name,fits_sign]
theorem good_3(a b c d:ByteArray):goodW [a,b,c,d] 3=(decide (a=⟨#[42]⟩) && isNm b && decide (c=⟨#[61]⟩) && isNm d):=by
 simp[goodW,pat,fitsI,fits_name,fits_sign]
theorem good_len{ws:List ByteArray}{k:Nat}(h:(pat k).length≠ws.length):goodW ws k=false:=by simp[goodW,h]
def saidK(ws:List ByteArray):Fct × Int:=
 if(kindS (shapeL ws)).2=true then(if(kindS (shapeL ws)).1=0 then noF else⟨(kindS (shapeL ws)).1,(nmsL ws).getD 0 noB,(nmsL ws).getD 1 noB⟩,0)else(noF,4)
theorem said_kind4(a b c d:ByteArray)(ha:isWord a)(hb:isWord b)(hc:isWord c)(hd:isWord d):saidW [a,b,c,d]=saidK [a,b,c,d]∧((kindS (shapeL [a,b,c,d])).1≠0→(nmsL [a,b,c,d]).length=2):=by
 obtain⟨a1,a2,a3,a4⟩:=shape_eq ha;obtain⟨b1,b2,b3,b4⟩:=shape_eq hb;obtain⟨c1,c2,c3,c4⟩:=shape_eq hc;obtain⟨d1,d2,d3,d4⟩:=shape_eq hd;have e0:(shapeL [a,b,c,d]=[110,61,38,110])↔goodW [a,b,c,d] 0=true:=by
  rw[good_0];simp[shapeL,a1,b2,c3,d1,isNm,and_assoc]
 have e1:goodW [a,b,c,d] 1=false:=good_len (by simp[pat]);have e2:(shapeL [a,b,c,d]=[110,61,42,110])↔goodW [a,b,c,d] 2=true:=by
  rw[good_2];simp[shapeL,a1,b2,c4,d1,isNm,and_assoc]
 have e3:(shapeL [a,b,c,d]=[42,110,61,110])↔goodW [a,b,c,d] 3=true:=by
  rw[good_3];simp[shapeL,a4,b1,c2,d1,isNm,and_assoc]
 have f0:shapeL [a,b,c,d]≠[]:=by simp[shapeL]
 have f1:shapeL [a,b,c,d]≠[110,61,110]:=by simp[shapeL]
 have s61:isNm ⟨#[61]⟩=false:=by decide
 have s38:isNm ⟨#[38]⟩=false:=by decide
 have s42:isNm ⟨#[42]⟩=false:=by decide
 unfold saidK kindS saidW;rw[if_neg (show ¬([a,b,c,d]:List ByteArray).length=0 by simp)];simp only[f0,f1,if_false,e1,e0,e2,e3];by_cases g0:goodW [a,b,c,d] 0=true
 ·have g:=g0;rw[good_0]at g;simp only[Bool.and_eq_true,decide_eq_true_eq]at g;obtain⟨⟨⟨h1,rfl⟩,rfl⟩,h4⟩:=g;have en:nmsL [a,⟨#[61]⟩,⟨#[38]⟩,d]=[a,d]:=by simp[nmsL,h1,h4,s61,s38]
  have ef:fctW [a,⟨#[61]⟩,⟨#[38]⟩,d] 0=⟨1,a,d⟩:=by simp[fctW,nmsI,pat,noB,ByteArray.size]
  rw[en];simp[g0,ef]
 ·simp only[g0];by_cases g2:goodW [a,b,c,d] 2=true
  ·have g:=g2;rw[good_2]at g;simp only[Bool.and_eq_true,decide_eq_true_eq]at g;obtain⟨⟨⟨h1,rfl⟩,rfl⟩,h4⟩:=g;have en:nmsL [a,⟨#[61]⟩,⟨#[42]⟩,d]=[a,d]:=by simp[nmsL,h1,h4,s61,s42]
   have ef:fctW [a,⟨#[61]⟩,⟨#[42]⟩,d] 2=⟨3,a,d⟩:=by simp[fctW,nmsI,pat,noB,ByteArray.size]
   rw[en];simp[g2,ef]
  ·simp only[g2];by_cases g3:goodW [a,b,c,d] 3=true
   ·have g:=g3;rw[good_3]at g;simp only[Bool.and_eq_true,decide_eq_true_eq]at g;obtain⟨⟨⟨rfl,h2⟩,rfl⟩,h4⟩:=g;have en:nmsL [⟨#[42]⟩,b,⟨#[61]⟩,d]=[b,d]:=by simp[nmsL,h2,h4,s61,s42]
    have ef:fctW [⟨#[42]⟩,b,⟨#[61]⟩,d] 3=⟨4,b,d⟩:=by simp[fctW,nmsI,pat,noB,ByteArray.size]
    rw[en];simp[g3,ef]
   ·simp[g3]
theorem said_kind3(a b c:ByteArray)(ha:isWord a)(hb:isWord b)(hc:isWord c):saidW [a,b,c]=saidK [a,b,c]∧((kindS (shapeL [a,b,c])).1≠0→(nmsL [a,b,c]).length=2):=by
 obtain⟨a1,a2,a3,a4⟩:=shape_eq ha;obtain⟨b1,b2,b3,b4⟩:=shape_eq hb;obtain⟨c1,c2,c3,c4⟩:=shape_eq hc;have e1:(shapeL [a,b,c]=[110,61,110])↔goodW [a,b,c] 1=true:=by
  rw[good_1];simp[shapeL,a1,b2,c1,isNm,and_assoc]
 have e0:goodW [a,b,c] 0=false:=good_len (by simp[pat]);have e2:goodW [a,b,c] 2=false:=good_len (by simp[pat]);have e3:goodW [a,b,c] 3=false:=good_len (by simp[pat]);have f0:shapeL [a,b,c]≠[]:=by simp[shapeL]
 have f1:shapeL [a,b,c]≠[110,61,38,110]:=by simp[shapeL]
 have f2:shapeL [a,b,c]≠[110,61,42,110]:=by simp[shapeL]
 have f3:shapeL [a,b,c]≠[42,110,61,110]:=by simp[shapeL]
 have s61:isNm ⟨#[61]⟩=false:=by decide
 unfold saidK kindS saidW;rw[if_neg (show ¬([a,b,c]:List ByteArray).length=0 by simp)];simp only[f0,f1,f2,f3,if_false,e1,e0,e2,e3];by_cases g0:goodW [a,b,c] 1=true
 ·have g:=g0;rw[good_1]at g;simp only[Bool.and_eq_true,decide_eq_true_eq]at g;obtain⟨⟨h1,rfl⟩,h4⟩:=g;have en:nmsL [a,⟨#[61]⟩,c]=[a,c]:=by simp[nmsL,h1,h4,s61]
  have ef:fctW [a,⟨#[61]⟩,c] 1=⟨2,a,c⟩:=by simp[fctW,nmsI,pat,noB,ByteArray.size]
  rw[en];simp[g0,ef]
 ·simp[g0]
theorem said_kind(ws:List ByteArray)(h:∀x∈ws,isWord x):saidW ws=saidK ws∧((kindS (shapeL ws)).1≠0→(nmsL ws).length=2):=by
 have other:∀ws:List ByteArray,ws.length≠0→ws.length≠3→ws.length≠4→saidW ws=saidK ws∧((kindS (shapeL ws)).1≠0→(nmsL ws).length=2):=by
  intro ws h0 h3 h4;have hl:(shapeL ws).length=ws.length:=by simp[shapeL]
  have f:∀l:List UInt8,l.length=0∨l.length=3∨l.length=4→shapeL ws≠l:=by
   intro l hll e;rw[e]at hl;omega
  have g:∀k,k<4→goodW ws k=false:=by
   intro k hk;have hc:k=0∨k=1∨k=2∨k=3:=by omega
   rcases hc with rfl|rfl|rfl|rfl<;>exact good_len (by simp[pat];omega)
  have e:kindS (shapeL ws)=(0,false):=by
   unfold kindS;rw[if_neg (f _ (by simp)),if_neg (f _ (by simp)),if_neg (f _ (by simp)),if_neg (f _ (by simp)),if_neg (f _ (by simp))]
  rw[saidW_bad (by omega) g];unfold saidK;rw[e];simp
 match ws,h with
 | [],_=>exact⟨rfl,fun h=>absurd rfl h⟩
 | [a],_=>exact other _ (by simp) (by simp) (by simp)
 | [a,b],_=>exact other _ (by simp) (by simp) (by simp)
 | [a,b,c],h=>exact said_kind3 a b c (h a (by simp)) (h b (by simp)) (h c (by simp))
 | [a,b,c,d],h=>exact said_kind4 a b c d (h a (by simp)) (h b (by simp)) (h c (by simp)) (h d (by simp))
 |a::b::c::d::e::r,_=>exact other _ (by simp) (by simp) (by simp)
end
section
open Go.RowKit Go.Maps
set_option maxRecDepth 100000 in
set_option maxHeartbeats 1000000 in
theorem kindOf_any(l:List UInt8)(w:World) :
  Calls Tryz.prog 134 #[.string ⟨l.toArray⟩] w fun e w'=>e=.returned (.tuple #[.int .i64 (kindS l).1,.bool (kindS l).2])∧w'=w:=by
 go_enter Tryz.func134,Tryz.ntmps134
 go_wp2
 ·have h:kindS l=(0,true):=by simp_all[kindS]
  exact bodyPost_ret (v:=.tuple #[.int .i64 0,.bool true]) (by simp[results,Tryz.results134,go_sem]) rfl ⟨by rw[h],rfl⟩
 ·have h:kindS l=(1,true):=by simp_all[kindS]
  exact bodyPost_ret (v:=.tuple #[.int .i64 1,.bool true]) (by simp[results,Tryz.results134,go_sem]) rfl ⟨by rw[h],rfl⟩
 ·have h:kindS l=(2,true):=by simp_all[kindS]
  exact bodyPost_ret (v:=.tuple #[.int .i64 2,.bool true]) (by simp[results,Tryz.results134,go_sem]) rfl ⟨by rw[h],rfl⟩
 ·have h:kindS l=(3,true):=by simp_all[kindS]
  exact bodyPost_ret (v:=.tuple #[.int .i64 3,.bool true]) (by simp[results,Tryz.results134,go_sem]) rfl ⟨by rw[h],rfl⟩
 ·have h:kindS l=(4,true):=by simp_all[kindS]
  exact bodyPost_ret (v:=.tuple #[.int .i64 4,.bool true]) (by simp[results,Tryz.results134,go_sem]) rfl ⟨by rw[h],rfl⟩
 ·have h:kindS l=(0,false):=by simp_all[kindS]
  exact bodyPost_ret (v:=.tuple #[.int .i64 0,.bool false]) (by simp[results,Tryz.results134,go_sem]) rfl ⟨by rw[h],rfl⟩
theorem kindS_range(l:List UInt8):0≤(kindS l).1∧(kindS l).1≤4:=by
 unfold kindS;repeat' split
 all_goals decide
end
section
open Go.RowKit Go.Maps
def factRes(s:ByteArray):Value:=.tuple #[.agg #[.int .i64 (saidB s).1.k,.string (saidB s).1.p,.string (saidB s).1.q],.bool (decide ((saidB s).2=0))]
set_option maxRecDepth 100000 in
set_option maxHeartbeats 1000000 in
theorem fact_any(s:ByteArray)(w:World)(hs:s.size≤1000000) :
  Calls Tryz.prog 98 #[.string s] w fun e w'=>e=.returned (factRes s)∧Below w.heap.size w w':=by
 have g0:=heap_new w (.cells #[.int .i64 0,.string ⟨#[]⟩,.string ⟨#[]⟩] 48);have hb0:Below w.heap.size w (w.alloc (.cells #[.int .i64 0,.string ⟨#[]⟩,.string ⟨#[]⟩] 48)):=(Below.refl _ _).alloc (Nat.le_refl _) _;go_enter Tryz.func98,Tryz.ntmps98
 go_wp2_with fail
 generalize w.alloc (.cells #[.int .i64 0,.string ⟨#[]⟩,.string ⟨#[]⟩] 48)=w0 at g0 hb0 ⊢;have hl0:=lt_of_heap g0;refine(pieces_any s w0 hs).mono ?_
 rintro e w1 (⟨hn,rfl,hb1⟩|⟨v,ws,hsm,hwd,hln,rfl,hown,hb1⟩)
 ·have HE:Hid (factRes s=.tuple #[.agg #[.int .i64 0,.string ⟨#[]⟩,.string ⟨#[]⟩],.bool false]):=by unfold Hid factRes;rw[saidB_none hn];rfl
  have g1:=Below.heapAt hb1 g0 hl0;obtain⟨c0,c1,c2,f0,f1,f2⟩:=res_cells g1;go_wp2_with fail
  refine bodyPost_ret (v:=.tuple #[.agg #[.int .i64 0,.string ⟨#[]⟩,.string ⟨#[]⟩],.bool false]) (by simp[results,Tryz.results98,go_sem,c0,c1,c2]) rfl ⟨by rw[HE.out],?_⟩;exact(((hb0.trans (hb1.mono hb0.size)).setCell (p:=⟨w.heap.size,0,none⟩) (Nat.le_refl _) _).setCell (p:=⟨w.heap.size,1,none⟩) (Nat.le_refl _) _).setCell (p:=⟨w.heap.size,2,none⟩) (Nat.le_refl _) _
 ·obtain⟨hk,h2⟩:=said_kind ws hwd;have hsd:saidB s=saidK ws:=(saidB_some hsm).trans hk;have g1:=Below.heapAt hb1 g0 hl0;have hB1:Below w.heap.size w w1:=hb0.trans (hb1.mono hb0.size);obtain⟨c0,c1,c2,f0,f1,f2⟩:=res_cells g1;have hkr:=kindS_range (shapeL ws);go_wp2_with fail
  refine(kindOf_any (shapeL ws) w1).mono ?_
  rintro e w2 ⟨rfl,rfl⟩;unfold saidK at hsd;generalize kindS (shapeL ws)=kk at *;obtain⟨k,ok⟩:=kk;simp only at hsd h2 hkr ⊢;cases ok
  ·have HE:Hid (factRes s=.tuple #[.agg #[.int .i64 0,.string ⟨#[]⟩,.string ⟨#[]⟩],.bool false]):=by unfold Hid factRes;rw[hsd];rfl
   clear hsd hk hsm hwd h2;go_wp2_with fail
   refine bodyPost_ret (v:=.tuple #[.agg #[.int .i64 0,.string ⟨#[]⟩,.string ⟨#[]⟩],.bool false]) (by simp[results,Tryz.results98,go_sem,c0,c1,c2]) rfl ⟨by rw[HE.out],?_⟩;exact((hB1.setCell (p:=⟨w.heap.size,0,none⟩) (Nat.le_refl _) _).setCell (p:=⟨w.heap.size,1,none⟩) (Nat.le_refl _) _).setCell (p:=⟨w.heap.size,2,none⟩) (Nat.le_refl _) _
  ·by_cases hkz:k=0
   ·subst hkz;have HE:Hid (factRes s=.tuple #[.agg #[.int .i64 0,.string ⟨#[]⟩,.string ⟨#[]⟩],.bool true]):=by unfold Hid factRes;rw[hsd];rfl
    clear hsd hk hsm hwd h2;go_wp2_with fail
    refine bodyPost_ret (v:=.tuple #[.agg #[.int .i64 0,.string ⟨#[]⟩,.string ⟨#[]⟩],.bool true]) (by simp[results,Tryz.results98,go_sem,c0,c1,c2]) rfl ⟨by rw[HE.out],?_⟩;exact((hB1.setCell (p:=⟨w.heap.size,0,none⟩) (Nat.le_refl _) _).setCell (p:=⟨w.heap.size,1,none⟩) (Nat.le_refl _) _).setCell (p:=⟨w.heap.size,2,none⟩) (Nat.le_refl _) _
   ·have hkb:(k == 0)=false:=beq_false_of_ne hkz;have hl2:=h2 hkz;obtain⟨n0,n1,hn⟩:∃n0 n1,nmsL ws=[n0,n1]:=by
     match hm:nmsL ws,hl2 with
     | [n0,n1],_=>exact⟨n0,n1,rfl⟩
    have HE:Hid (factRes s=.tuple #[.agg #[.int .i64 k,.string n0,.string n1],.bool true]):=by
     unfold Hid factRes;rw[hsd,hn];simp[hkz]
    rw[hn]at hown;obtain⟨g',cap',rfl,hnc',hgl',hgB',hrd'⟩:=row_reads (ss:=[n0,n1]) hown (by simp);have d0:=hrd' 0 n0 rfl;have d1:=hrd' 1 n1 rfl;clear hrd' hown hsd hk hsm hwd h2 hl2 hn;go_wp2_with fail
    go_region
    go_wp2;refine bodyPost_ret (v:=.tuple #[.agg #[.int .i64 k,.string n0,.string n1],.bool true]) (by simp[results,Tryz.results98,go_sem,c0,c1,c2]) rfl ⟨by rw[HE.out],?_⟩;exact((hB1.drew.setCell (p:=⟨w.heap.size,0,none⟩) (Nat.le_refl _) _).setCell (p:=⟨w.heap.size,1,none⟩) (Nat.le_refl _) _).setCell (p:=⟨w.heap.size,2,none⟩) (Nat.le_refl _) _
end
section
open Go.RowKit Go.Maps
def lineR(l:ByteArray):Fct × Int:=if 80<l.size then(noF,3)else saidB l
set_option maxRecDepth 100000 in
set_option maxHeartbeats 1000000 in
theorem parseLine_any(s:ByteArray)(w:World)(hs:s.size≤1000000) :
  Calls Tryz.prog 69 #[.string s] w fun e w'=>e=.returned (.tuple #[.agg #[.int .i64 (lineR s).1.k,.string (lineR s).1.p,.string (lineR s).1.q],.int .i64 (lineR s).2])∧Below w.heap.size w w':=by
 have g0:=heap_new w (.cells #[.int .i64 0,.string ⟨#[]⟩,.string ⟨#[]⟩] 48);have hb0:Below w.heap.size w (w.alloc (.cells #[.int .i64 0,.string ⟨#[]⟩,.string ⟨#[]⟩] 48)):=(Below.refl _ _).alloc (Nat.le_refl _) _;by_cases hw:80<s.size
 ·have HE:Hid (lineR s=(noF,3)):=by unfold Hid lineR;rw[if_pos hw]
  go_enter Tryz.func69,Tryz.ntmps69
  go_wp2_with fail
  refine bodyPost_ret (v:=.tuple #[.agg #[.int .i64 0,.string ⟨#[]⟩,.string ⟨#[]⟩],.int .i64 3]) (by simp[results,Tryz.results69,go_sem]) rfl ⟨by rw[HE.out];rfl,?_⟩;exact(Below.refl _ _).alloc (Nat.le_refl _) _
 ·have HE:Hid (lineR s=saidB s):=by unfold Hid lineR;rw[if_neg hw]
  go_enter Tryz.func69,Tryz.ntmps69
  go_wp2_with fail
  generalize w.alloc (.cells #[.int .i64 0,.string ⟨#[]⟩,.string ⟨#[]⟩] 48)=w0 at g0 hb0 ⊢;have hl0:=lt_of_heap g0;refine(fact_any s w0 hs).mono ?_
  rintro e w1 ⟨rfl,hb1⟩;have g1:=Below.heapAt hb1 g0 hl0;have hB1:Below w.heap.size w w1:=hb0.trans (hb1.mono hb0.size);unfold factRes;rcases saidB_cases s with⟨⟨k,p,q⟩,hsd,hp,hq,hk0,hk4⟩|hsd
  ·rw[hsd];have HF:Hid (lineR s=(⟨k,p,q⟩,0)):=HE.out.trans hsd;have g2:=heap_old g1 (.cells #[.int .i64 k,.string p,.string q] 48);obtain⟨c0,c1,c2,f0,f1,f2⟩:=res_cells g2;clear HE hsd g1 g2 hb1;simp only[decide_true];go_wp2_with fail
   refine bodyPost_ret (v:=.tuple #[.agg #[.int .i64 k,.string p,.string q],.int .i64 0]) (by simp[results,Tryz.results69,go_sem,c0,c1,c2]) rfl ⟨by rw[HF.out],?_⟩;exact(((hB1.alloc hB1.size _).setCell (p:=⟨w.heap.size,0,none⟩) (Nat.le_refl _) _).setCell (p:=⟨w.heap.size,1,none⟩) (Nat.le_refl _) _).setCell (p:=⟨w.heap.size,2,none⟩) (Nat.le_refl _) _
  ·rw[hsd];have HF:Hid (lineR s=(noF,4)):=HE.out.trans hsd;have g2:=heap_old g1 (.cells #[.int .i64 0,.string ⟨#[]⟩,.string ⟨#[]⟩] 48);obtain⟨c0,c1,c2,f0,f1,f2⟩:=res_cells g2;clear HE hsd g1 g2 hb1;unfold noF noB;have hd:decide ((4:Int)=0)=false:=by decide
   simp only[hd];go_wp2_with fail
   refine bodyPost_ret (v:=.tuple #[.agg #[.int .i64 0,.string ⟨#[]⟩,.string ⟨#[]⟩],.int .i64 4]) (by simp[results,Tryz.results69,go_sem,c0,c1,c2]) rfl ⟨by rw[HF.out];rfl,?_⟩;exact(((hB1.alloc hB1.size _).setCell (p:=⟨w.heap.size,0,none⟩) (Nat.le_refl _) _).setCell (p:=⟨w.heap.size,1,none⟩) (Nat.le_refl _) _).setCell (p:=⟨w.heap.size,2,none⟩) (Nat.le_refl _) _
theorem own_kb{l:List Nat}{w w':World}{B:Nat}{e:TypeId}{size:Nat}{v:Value}{n:Nat}{xs:List Value}(h:w.ownsRow B e size v n xs)(hk:Kb l w w')(hl:∀x∈l,x<B):w'.ownsRow B e size v n xs:=by
 refine⟨h.1,?_⟩;rcases h.2 with h|⟨g,cap,cur,h1,h2,h3,h4⟩
 ·exact .inl h
 ·exact .inr ⟨g,cap,cur,h1,h2,hk.heap h3 (fun hm=>by have:=hl g hm;omega),h4⟩
structure FPInv(tb bm:Nat)(w3 wr:World)(ls:List ByteArray)(i:Nat)(v:Value)(fs:List Fct):Prop where
 le:i≤ls.length
 eqn:parseGo [] 0 ls=parseGo fs i (ls.drop i)
 cnt:fs.length≤120
 own:wr.ownsRow w3.heap.size 48 3 v fs.length (cellsF fs)
 tal:IsTally tb bm fs.length (2*fs.length) (keysOf fs) wr
 kb:Kb [tb,bm] w3 wr
theorem IsTally.kb{tb bm n c:Nat}{ks:List Lit}{w w':World}(h:IsTally tb bm n c ks w)(hk:Kb [] w w'):IsTally tb bm n c ks w':=⟨hk.heap h.1 (by simp),hk.ownsMap h.2 (by simp)⟩
end
section
open Go.Lib
def lnL:List UInt8→List (List UInt8)
 | []=>[[]]
 |c::r=>if c=10 then []::lnL r else match lnL r with
  |h::t=>(c::h)::t
  | []=>[[c]]
theorem lnL_pre(a b:List UInt8)(h:∀c∈a,c≠10):lnL (a++10::b)=a::lnL b:=by
 induction a with
 |nil=>simp[lnL]
 |cons c r ih=>
  have hc:c≠10:=h c (by simp);have:=ih (fun x hx=>h x (by simp[hx]));rw[List.cons_append,lnL,if_neg hc,this]
theorem lnL_none(a:List UInt8)(h:∀c∈a,c≠10):lnL a=[a]:=by
 induction a with
 |nil=>rfl
 |cons c r ih=>
  have hc:c≠10:=h c (by simp);rw[lnL,if_neg hc,ih (fun x hx=>h x (by simp[hx]))]
theorem split_lnL(l:List UInt8):splitK [10] 0 (count l [10]) l=lnL l:=by
 induction l with
 |nil=>rfl
 |cons c r ih=>
  have e:=index_one (c::r) 10;have er:=index_one r 10;by_cases hc:c=10
  ·subst hc;have e0:index (10::r) [10]=((0:Nat):Int):=by rw[e];simp[indexByte]
   rw[count_hit (by simp) e0,Nat.add_comm,splitK,if_neg (by rw[e0];decide),e0];simp[lnL];exact ih
  ·rw[lnL,if_neg hc];rcases index_spec r [10]with⟨h1,_⟩|⟨j,h1,hj,_⟩
   ·have e1:index (c::r) [10]=-1:=by rw[e,indexByte,if_neg (by simpa using hc),← er,h1];rfl
    rw[count_miss h1]at ih;rw[count_miss e1,← ih];rfl
   ·have e1:index (c::r) [10]=((j+1:Nat):Int):=by
     rw[e,indexByte,if_neg (by simpa using hc),← er,h1,if_neg (by simp)];omega
    rw[count_hit (by simp) h1]at ih;have e2:count (c::r) [10]=1+count (r.drop (j+1)) [10]:=by rw[count_hit (by simp) e1];simp
    have e3:[(10:UInt8)].length=1:=rfl;rw[e3]at ih;rw[e2];rw[Nat.add_comm 1]at ih ⊢;rw[splitK,if_neg (by rw[h1];simp),h1]at ih;rw[splitK,if_neg (by rw[e1];simp;omega),e1,← ih];simp
theorem lnI_lnL(s:ByteArray)(i:Nat)(hi:i≤s.size):(lnI s i).1.map (·.data.toList)++lnL (s.data.toList.drop (lnI s i).2)=lnL s.data.toList∧∀j c,(lnI s i).2≤j→j<i→s.data.toList[j]?=some c→c≠10:=by
 induction i with
 |zero=>exact⟨by simp[lnI],fun j c _ h=>absurd h (Nat.not_lt_zero _)⟩
 |succ i ih=>
  obtain⟨h1,h2⟩:=ih (by omega);have hle:=lnI_le s i;have hsz:s.data.toList.length=s.size:=by simp
  by_cases hc:s.data.toList[i]?=some 10
  ·have e:lnI s (i+1)=((lnI s i).1++[s.extract (lnI s i).2 i],i+1):=by simp only[lnI];rw[if_pos hc]
   rw[e];refine⟨?_,fun j c hj1 hj2=>by simp at hj1;omega⟩;generalize lnI s i=st at *;obtain⟨out,fr⟩:=st;simp only at h1 h2 hle ⊢;have hex:(s.extract fr i).data.toList=(s.data.toList.drop fr).take (i-fr):=by
    rw[ByteArray.data_extract,Array.toList_extract,List.extract_eq_take_drop]
   have hd:s.data.toList.drop fr=(s.data.toList.drop fr).take (i-fr)++10::s.data.toList.drop (i+1):=by
    have hl:i<s.data.toList.length:=by omega
    have:s.data.toList.drop i=10::s.data.toList.drop (i+1):=by
     rw[List.drop_eq_getElem_cons hl];rw[List.getElem?_eq_getElem hl]at hc;rw[Option.some.inj hc]
    rw[← this];have e3:s.data.toList.drop i=(s.data.toList.drop fr).drop (i-fr):=by rw[List.drop_drop];congr 1;omega
    rw[e3,List.take_append_drop]
   rw[hd,lnL_pre]at h1
   ·rw[List.map_append,List.map_cons,List.map_nil,List.append_assoc,hex];exact h1
   ·intro c hcm;obtain⟨j,hje⟩:=List.mem_iff_getElem?.1 hcm;have hj:=(List.getElem?_eq_some_iff.1 hje).1;rw[List.length_take,List.length_drop]at hj;rw[List.getElem?_take,if_pos (by omega),List.getElem?_drop]at hje;exact h2 (fr+j) c (by omega) (by omega) hje
  ·have e:lnI s (i+1)=lnI s i:=by simp only[lnI];rw[if_neg hc]
   rw[e];refine⟨h1,fun j c hj1 hj2 hjc=>?_⟩;by_cases hji:j=i
   ·subst hji;intro e10;rw[e10]at hjc;exact hc hjc
   ·exact h2 j c hj1 (by omega) hjc
theorem linesB_lnL(s:ByteArray):(linesB s).map (·.data.toList)=lnL s.data.toList:=by
 obtain⟨h1,h2⟩:=lnI_lnL s s.size (Nat.le_refl _);have hle:=lnI_le s s.size;unfold linesB;generalize lnI s s.size=st at *;obtain⟨out,fr⟩:=st;simp only at h1 h2 hle ⊢;have hsz:s.data.toList.length=s.size:=by simp
 have hex:(s.extract fr s.size).data.toList=s.data.toList.drop fr:=by
  rw[ByteArray.data_extract,Array.toList_extract,List.extract_eq_take_drop,List.take_of_length_le (by rw[List.length_drop];omega)]
 rw[lnL_none]at h1
 ·rw[List.map_append,List.map_cons,List.map_nil,hex];exact h1
 ·intro c hcm;obtain⟨j,hje⟩:=List.mem_iff_getElem?.1 hcm;have hj:=(List.getElem?_eq_some_iff.1 hje).1;rw[List.length_drop]at hj;rw[List.getElem?_drop]at hje;exact h2 (fr+j) c (by omega) (by omega) hje
theorem data_inj{a b:ByteArray}(h:a.data.toList=b.data.toList):a=b:=by
 obtain⟨⟨x⟩⟩:=a;obtain⟨⟨y⟩⟩:=b;simp at h;subst h;rfl
theorem map_inj{l m:List ByteArray}(h:l.map (·.data.toList)=m.map (·.data.toList)):l=m:=by
 induction l generalizing m with
 |nil=>cases m with
  |nil=>rfl
  |cons y r=>simp at h
 |cons x r ih=>cases m with
  |nil=>simp at h
  |cons y t=>
   rw[List.map_cons,List.map_cons]at h;injection h with h1 h2;rw[data_inj h1,ih h2]
theorem split_lines(s:ByteArray):splitB ⟨#[10]⟩ 0 (countB s ⟨#[10]⟩) s=linesB s:=by
 apply map_inj;rw[splitB_data,linesB_lnL,← split_lnL]
end
section
open Go.RowKit Go.Maps
theorem tally_new(w:World):IsTally (w.heap.size+1) w.heap.size 0 0 (keysOf []) ((w.alloc (.map #[] 0)).alloc (.cells #[.int .i64 0,.map (some w.heap.size)] 158)):=by
 have s1:(w.alloc (.map #[] 0)).heap.size=w.heap.size+1:=by simp
 refine⟨?_,?_⟩
 ·have:=heap_new (w.alloc (.map #[] 0)) (.cells #[.int .i64 0,.map (some w.heap.size)] 158);rw[s1]at this;exact this
 ·exact Kb.ownsMap (l:=[]) ((Kb.refl _ _).alloc _) (World.ownsMap_made (H:=Unit) w Tryz.prog 9 (unitElem (H:=Unit))) (by simp)
set_option maxRecDepth 100000 in
set_option maxHeartbeats 2000000 in
theorem fparse_any(s:ByteArray)(w:World)(m:Int)(hs:s.size≤maxLen)(hm:w.cell? ⟨1,0,none⟩=some (.int .i64 m)) :
  Calls Tryz.prog 37 #[.string s] w fun e w'=>PRes w w' s e:=by
 unfold maxLen at hs;obtain⟨i0,hi0,hz0,hz1,hz2⟩:=info_parts infoFact;have g0:=heap_new w (.cells #[.int .i64 0,.int .i64 0] 27);have hb0:Below w.heap.size w (w.alloc (.cells #[.int .i64 0,.int .i64 0] 27)):=(Below.refl _ _).alloc (Nat.le_refl _) _;have o1:w.heap.size<(w.alloc (.cells #[.int .i64 0,.int .i64 0] 27)).heap.size:=by simp
 by_cases hbig:6000<s.size
 ·have HE:Hid (parseB s=([],2,0)):=by unfold Hid parseB;rw[if_pos hbig]
  go_enter Tryz.func37,Tryz.ntmps37
  go_wp2_with fail
  refine bodyPost_ret (v:=.tuple #[.slice none 0 0,.agg #[.int .i64 2,.int .i64 0]]) (by simp[results,Tryz.results37,go_sem]) rfl (PRes.bad HE.out ?_);exact(Below.refl _ _).alloc (Nat.le_refl _) _
 ·have HE:Hid (parseB s=parseGo [] 0 (linesB s)):=by unfold Hid parseB;rw[if_neg hbig]
  have hsp':=split_lines s;have hcl:=Lib.splitB_all ⟨#[10]⟩ (by decide) 0 _ s rfl;rw[hsp']at hcl;go_enter Tryz.func37,Tryz.ntmps37
  go_wp2_with fail
  generalize w.alloc (.cells #[.int .i64 0,.int .i64 0] 27)=w0 at g0 hb0 o1 ⊢;refine(newTally_any w0).mono ?_
  rintro e w2 ⟨rfl,hw2⟩;have ht0:=tally_new w0;have hb2:Below w0.heap.size w0 ((w0.alloc (.map #[] 0)).alloc (.cells #[.int .i64 0,.map (some w0.heap.size)] 158)):=((Below.refl _ _).alloc (Nat.le_refl _) _).alloc (by simp) _;have o2:w0.heap.size+1<((w0.alloc (.map #[] 0)).alloc (.cells #[.int .i64 0,.map (some w0.heap.size)] 158)).heap.size:=by simp
  rw[← hw2]at ht0 hb2 o2;clear hw2;have g2:=Below.heapAt hb2 g0 (lt_of_heap g0);have hB2:Below w.heap.size w w2:=hb0.trans (hb2.mono hb0.size);have hm2:w2.cell? ⟨1,0,none⟩=some (.int .i64 m):=by rw[hB2.cell (World.block_lt_of_cell? _ _ hm)];exact hm
  go_wp2_with fail
  refine(Tryz.strings_Split s ⟨#[10]⟩ m w2 (by omega) hm2 (by decide)).mono ?_
  rintro e w3 ⟨rfl,hw3⟩;rw[← hcl];rw[hsp']at hw3;have g3:=heap_new w2 (.cells ((linesB s).map Value.string).toArray 9);have o3:w2.heap.size<(w2.alloc (.cells ((linesB s).map Value.string).toArray 9)).heap.size:=by simp
  have hb3:Below w2.heap.size w2 (w2.alloc (.cells ((linesB s).map Value.string).toArray 9)):=(Below.refl _ _).alloc (Nat.le_refl _) _;rw[← hw3]at g3 o3 hb3;clear hw3 hm2 hcl hsp';have ht3:IsTally (w0.heap.size+1) w0.heap.size 0 0 (keysOf []) w3:=ht0.kb (Kb.of_below hb3 []);have g4:=Below.heapAt hb3 g2 (lt_of_heap g2);have hB3:Below w.heap.size w w3:=hB2.trans (hb3.mono hB2.size);have hbd:decide (6000<(s.size:Int))=false:=decide_eq_false (by omega);have hls:=linesB_len s;have HSZ:=hide (linesB_size s);have HRD:=hide (fun(i:Nat) l (hl:(linesB s)[i]?=some l)=>show w3.cell? ⟨w2.heap.size,i,none⟩=some (.string l)from by rw[cell_at g3];simp[hl]);clear g3 g2 hb3 ht0 hb2 hB2;generalize linesB s=ls at *;have o4:w0.heap.size<w0.heap.size+1:=by omega
  clear hb0 g0;generalize w0.heap.size+1=tb at *;generalize w0.heap.size=bm at *;generalize w2.heap.size=g at *;go_wp2_with fail
  go_loopw [4,18] (fun v iv wr=>∃(i:Nat) (fs:List Fct),iv=.int .i64 i∧FPInv tb bm w3 wr ls i v fs) (fun _ iv _=>ls.length-(intOf iv).toNat)
  case atStart=>exact⟨0,[],rfl,Nat.zero_le _,rfl,by simp,World.ownsRow_nil _ _ _ _,ht3,Kb.refl _ _⟩
  case round=>
   obtain⟨i,fs,rfl,hi⟩:=hrel;have hown:=hi.own;have hil:=hi.le;have hcnt:=hi.cnt;have hkb:=hi.kb;have htal:=hi.tal;have hwl:w.heap.size<w3.heap.size:=lt_of_heap g4;have g5:=hkb.heap g4 (by simp;omega);have hBx:Below w.heap.size w wr:=hB3.trans (hkb.below (Nat.le_of_lt hwl) (by simp;omega));by_cases hit:i<ls.length
   ·obtain⟨l,hl⟩:∃l,ls[i]?=some l:=⟨_,List.getElem?_eq_getElem hit⟩;have cl:wr.cell? ⟨g,i,none⟩=some (.string l):=(hkb.cell (p:=⟨g,i,none⟩) (by simp;omega) (by simp;omega)).trans (HRD.out i l hl);have heq:=hi.eqn;rw[drop_here hl]at heq;have hlsz:=HSZ.out l (List.mem_of_getElem? hl);clear hi;go_wp2_with fail
    refine(parseLine_any l wr (by omega)).mono ?_
    rintro e w4 ⟨rfl,hb4⟩;have hk4:Kb [tb,bm] w3 w4:=hkb.trans (Kb.of_below hb4 _);have g6:=Below.heapAt hb4 g5 (lt_of_heap g5);have hB4:Below w.heap.size w w4:=hBx.trans (hb4.mono hBx.size);have hown4:=own_below hown hb4;have ht4:=htal.kb (Kb.of_below hb4 []);have hbad:∀er:Int,er≠0→lineR l=(noF,er)→parseB s=([],er,(i:Int)+1):=by
     intro er her hle;unfold lineR at hle;by_cases hw:80<l.size
     ·rw[if_pos hw]at hle;have e3:(3:Int)=er:=congrArg Prod.snd hle;rw[← e3];exact HE.out.trans (heq.trans (parseGo_wide hw))
     ·rw[if_neg hw]at hle;exact HE.out.trans (heq.trans (parseGo_form hw hle her))
    have hgood:∀f:Fct,lineR l=(f,0)→¬80<l.size∧saidB l=(f,0):=by
     intro f hle;unfold lineR at hle;by_cases hw:80<l.size
     ·rw[if_pos hw]at hle;exact absurd (show(3:Int)=0 from congrArg Prod.snd hle) (by decide)
     ·rw[if_neg hw]at hle;exact⟨hw,hle⟩
    have hcase:(∃f,lineR l=(f,0)∧f.p.size≤l.size∧f.q.size≤l.size)∨(∃er,er≠0∧lineR l=(noF,er)):=by
     unfold lineR;by_cases hw:80<l.size
     ·exact .inr ⟨3,by decide,by rw[if_pos hw]⟩
     ·rw[if_neg hw];rcases saidB_cases l with⟨f,h1,h2,h3,_,_⟩|h
      ·exact .inl ⟨f,h1,h2,h3⟩
      ·exact .inr ⟨4,by decide,h⟩
    clear hown htal hkb hBx hb4;rcases hcase with⟨⟨k,p,q⟩,hle,hp,hq⟩|⟨er,her,hle⟩
    ·obtain⟨hw,hsd⟩:=hgood _ hle;have HQ:=hide heq;clear hbad hgood heq;rw[hle];clear hle;by_cases hkz:k=0
     ·subst hkz;have HN:Hid (parseGo [] 0 ls=parseGo fs (i+1) (ls.drop (i+1))):=HQ.out.trans (parseGo_skip hw hsd rfl);go_wp2_with fail
      go_round
      case rel=>exact⟨i+1,fs,by go_num,hit,HN.out,hcnt,hown4.alloc _,ht4.kb ((Kb.refl _ _).alloc _),hk4.alloc _⟩
      case measure=>simp[intOf];omega
     ·have hkq:(k == 0)=false:=beq_false_of_ne hkz;go_wp2_with fail
      have hown5:=hown4.alloc (.cells #[.int .i64 k,.string p,.string q] 48);have ht5:=ht4.kb ((Kb.refl [] _).alloc (.cells #[.int .i64 k,.string p,.string q] 48));have hk5:=hk4.alloc (.cells #[.int .i64 k,.string p,.string q] 48);have g7:=heap_new w4 (.cells #[.int .i64 k,.string p,.string q] 48);have g8:=heap_old g6 (.cells #[.int .i64 k,.string p,.string q] 48);have o5:w3.heap.size≤w4.heap.size:=hk4.size;generalize hbx:w4.heap.size=bx at *;generalize w4.alloc (.cells #[.int .i64 k,.string p,.string q] 48)=w5 at hown5 ht5 hk5 g7 g8 ⊢;refine(add_any tb bm fs k p q w5 hcnt (by unfold maxLen;omega) (by unfold maxLen;omega) ht5).mono ?_
      rintro e w6 ⟨rfl,hk6,ht6⟩;have hown6:=own_kb hown5 hk6 (by simp;omega);have hk7:=hk5.trans (hk6.mono (fun _ _ h=>h));have g9:=hk6.heap g7 (by simp;omega);have g10:=hk6.heap g8 (by simp;omega);obtain⟨d0,d1,d2,e0,e1,e2⟩:=res_cells g9;obtain⟨c0,c1,f0,f1⟩:=err_cells g10;clear hown4 hown5 ht4 ht5 hk4 hk5 g6 g7 g8 g9 hB4 e0 e1 e2;by_cases herr:errOf fs ⟨k,p,q⟩=0
      ·have HN:Hid (parseGo [] 0 ls=parseGo (fs++[⟨k,p,q⟩]) (i+1) (ls.drop (i+1))):=HQ.out.trans (parseGo_add hw hsd hkz herr);have hc2:=(errOf_zero' herr).2.2;have ht7:=ht6 herr;rw[herr];clear ht6;go_wp2_with (first|(at_builtin;refine wpList_append_own _ rfl _ _ 36 rfl w3.heap.size 48 i0 (.agg #[.int .i64 0,.string ⟨#[]⟩,.string ⟨#[]⟩]) 3 40 Tryz.underlying36 hi0 hz0 hz1 hz2 rfl (by decide) _ _ _ rfl (hown6.alloc _) ⟨w6.heap.size,0,none⟩ 1 1 [.int .i64 k,.string p,.string q] rfl rfl (cell_three_new _ _ _ _ _) ?x6 ?x7 ?x8 ?x9 ?_)|go_in)
       case x6=>intro u hu;simp at hu;rcases hu with rfl|rfl|rfl<;>rfl
       case x7=>unfold maxLen;omega
       case x8=>omega
       case x9=>have:=hk7.size;simp;omega
       intro v' w7 hown7 hgrow7 _;have hk8:Kb [tb,bm] w3 w7:=(hk7.alloc _).grown hgrow7 (fun j hj=>.inr (hown6.lt j hj).1);have ht8:IsTally tb bm (fs.length+1) (2*(fs.length+1)) (keysOf (fs++[⟨k,p,q⟩])) w7:=by
        have ht7':=ht7.kb ((Kb.refl [] _).alloc (.cells #[.int .i64 k,.string p,.string q] 48));have hkk:∀b o,(w6.alloc (.cells #[.int .i64 k,.string p,.string q] 48)).heap[b]?=some o→b<w3.heap.size→w7.heap[b]?=some o:=by
         intro b o hb hlt;refine(hgrow7.block b (lt_of_heap hb) ?_).trans hb;intro e;have:=(hown6.lt b e.symm).1;omega
        refine⟨hkk _ _ ht7'.1 (by omega),?_⟩;obtain⟨es,cl',hbk,r⟩:=ht7'.2;exact⟨es,cl',hkk _ _ hbk (by omega),r⟩
       go_wp2_with fail
       go_round
       case rel=>exact⟨i+1,fs++[⟨k,p,q⟩],by go_num,hit,HN.out,by simp;omega,by rw[cellsF_snoc];simpa using hown7,by simpa using ht8,hk8⟩
       case measure=>simp[intOf];omega
      ·have HF:Hid (parseB s=([],errOf fs ⟨k,p,q⟩,(i:Int)+1)):=HE.out.trans (HQ.out.trans (parseGo_bad hw hsd hkz herr));have heb:(errOf fs ⟨k,p,q⟩ == 0)=false:=beq_false_of_ne herr;clear ht6;generalize errOf fs ⟨k,p,q⟩=er at *;go_wp2_with (first|(at_builtin;refine wpList_append_own _ rfl _ _ 36 rfl w3.heap.size 48 i0 (.agg #[.int .i64 0,.string ⟨#[]⟩,.string ⟨#[]⟩]) 3 40 Tryz.underlying36 hi0 hz0 hz1 hz2 rfl (by decide) _ _ _ rfl (hown6.alloc _) ⟨w6.heap.size,0,none⟩ 1 1 [.int .i64 k,.string p,.string q] rfl rfl (cell_three_new _ _ _ _ _) ?x6 ?x7 ?x8 ?x9 ?_)|go_in)
       case x6=>intro u hu;simp at hu;rcases hu with rfl|rfl|rfl<;>rfl
       case x7=>unfold maxLen;omega
       case x8=>omega
       case x9=>have:=hk7.size;simp;omega
       intro v' w7 hown7 hgrow7 _;have hk8:Kb [tb,bm] w3 w7:=(hk7.alloc _).grown hgrow7 (fun j hj=>.inr (hown6.lt j hj).1);have g11:w7.heap[w.heap.size]?=some (.cells #[.int .i64 0,.int .i64 0] 27 (0,0)):=by
        refine(hgrow7.block _ (lt_of_heap (heap_old g10 _)) ?_).trans (heap_old g10 _);intro e;have:=(hown6.lt _ e.symm).1;omega
       obtain⟨c0',c1',f0',f1'⟩:=err_cells g11;go_wp2_with fail
       refine bodyPost_ret (v:=.tuple #[.slice none 0 0,.agg #[.int .i64 er,.int .i64 ((i:Int)+1)]]) (by simp[results,Tryz.results37,go_sem,c0',c1']) rfl (PRes.bad HF.out ?_);exact((hB3.trans (hk8.below (Nat.le_of_lt hwl) (by simp;omega))).setCell (p:=⟨w.heap.size,0,none⟩) (Nat.le_refl _) _).setCell (p:=⟨w.heap.size,1,none⟩) (Nat.le_refl _) _
    ·have HF:Hid (parseB s=([],er,(i:Int)+1)):=hbad er her hle;have heb:(er == 0)=false:=beq_false_of_ne her;rw[hle];clear hbad hgood heq hle;have g5':=heap_old g6 (.cells #[.int .i64 0,.string ⟨#[]⟩,.string ⟨#[]⟩] 48);obtain⟨c0,c1,f0,f1⟩:=err_cells g5';unfold noF noB;go_wp2_with fail
     refine bodyPost_ret (v:=.tuple #[.slice none 0 0,.agg #[.int .i64 er,.int .i64 ((i:Int)+1)]]) (by simp[results,Tryz.results37,go_sem,c0,c1]) rfl (PRes.bad HF.out ?_);exact((hB4.alloc hB4.size _).setCell (p:=⟨w.heap.size,0,none⟩) (Nat.le_refl _) _).setCell (p:=⟨w.heap.size,1,none⟩) (Nat.le_refl _) _
   ·have hie:i=ls.length:=by omega
    subst hie;have HF:Hid (parseB s=(fs,0,0)):=by
     unfold Hid;rw[HE.out,hi.eqn,List.drop_length];simp[parseGo]
    obtain⟨c0,c1,f0,f1⟩:=err_cells g5;clear hi;go_wp2_with fail
    refine bodyPost_ret (v:=.tuple #[u4,.agg #[.int .i64 0,.int .i64 0]]) (by simp[results,Tryz.results37,go_sem,c0,c1]) rfl ⟨u4,by rw[HF.out],?_,?_⟩
    ·rw[HF.out];exact own_mono (ownsRow_setCell_below (ownsRow_setCell_below hown (a:=⟨w.heap.size,0,none⟩) hwl _) (a:=⟨w.heap.size,1,none⟩) hwl _) (Nat.le_of_lt hwl)
    ·exact(hBx.setCell (p:=⟨w.heap.size,0,none⟩) (Nat.le_refl _) _).setCell (p:=⟨w.heap.size,1,none⟩) (Nat.le_refl _) _
end
section
open Go.RowKit
theorem isEmpty_no(s:ByteArray)(h0:0<s.size):s.toList.isEmpty=false:=by
 rw[ByteArray.toList_eq];cases h:s.data.toList with
 |nil=>simp[ByteArray.size,← Array.length_toList,h]at h0
 |cons c r=>rfl
set_option maxHeartbeats 400000 in
theorem isName_any(s:ByteArray)(w:World)(hs:s.size≤maxLen) :
  Calls Tryz.prog 95 #[.string s] w fun e w'=>e=.returned (.bool (nameB s.data.toList))∧w'=w:=by
 unfold maxLen at hs;by_cases h0:0<s.size
 ·have he:(s.toList.isEmpty)=false:=isEmpty_no s h0;cases hc:startB (s[0].toNat:Int)
  ·have HF:Hid (nameB s.data.toList=false):=nameB_first s h0 hc;have HC:Hid (startB (s[0].toNat:Int)=false):=hc;clear hc;go_enter Tryz.func95,Tryz.ntmps95
   go_wp2_with (go_at_call 99;refine(begins_any _ _).mono ?_;rintro e w' ⟨rfl,rfl⟩;rw[HC.out])
   go_ret
   exact⟨by rw[HF.out];rfl,rfl⟩
  ·have HC:Hid (startB (s[0].toNat:Int)=true):=hc;have HO:Hid (partsB (s.data.toList.take 1)=true):=parts_first s h0 hc;clear hc;go_enter Tryz.func95,Tryz.ntmps95
   go_wp2_with (go_at_call 99;refine(begins_any _ _).mono ?_;rintro e w' ⟨rfl,rfl⟩;rw[HC.out])
   go_loop [3] (fun i=>∃k:Nat,1≤k∧k≤s.size∧i=.int .i64 k∧partsB (s.data.toList.take k)=true) (fun i=>s.size-(intOf i).toNat)
   case atStart=>exact⟨1,Nat.le_refl _,h0,rfl,HO.out⟩
   case round=>
    obtain⟨k,hk1,hk,rfl,hp0⟩:=hrel;have HP:Hid (partsB (s.data.toList.take k)=true):=hp0;clear hp0;by_cases hlt:k<s.size
    ·have hsn:=partsB_snoc (s.data.toList.take k) s[k];rw[← take_snoc s k hlt,HP.out,Bool.true_and]at hsn;cases hc:partB (s[k].toNat:Int)
     ·rw[hc]at hsn;have HF:Hid (nameB s.data.toList=false):=nameB_parts _ (partsB_of_take hsn);have HC:Hid (partB (s[k].toNat:Int)=false):=hc;clear hsn hc;go_wp2_with (go_at_call 100;refine(goesOn_any _ _).mono ?_;rintro e w' ⟨rfl,rfl⟩;rw[HC.out])
      go_ret
      exact⟨by rw[HF.out];rfl,rfl⟩
     ·rw[hc]at hsn;have HS:Hid (partsB (s.data.toList.take (k+1))=true):=hsn;have HC:Hid (partB (s[k].toNat:Int)=true):=hc;clear hsn hc;go_wp2_with (go_at_call 100;refine(goesOn_any _ _).mono ?_;rintro e w' ⟨rfl,rfl⟩;rw[HC.out])
      go_round
      case rel=>exact⟨k+1,by omega,by omega,by go_num,HS.out⟩
      case measure=>simp[intOf];omega
    ·have HF:Hid (nameB s.data.toList=true):=(nameB_all s h0 (parts_full HP.out (by omega))).trans HC.out;go_wp2;go_ret
     exact⟨by rw[HF.out];rfl,rfl⟩
 ·have HF:Hid (nameB s.data.toList=false):=nameB_empty s (by omega);have hse:s=ByteArray.empty:=by
   obtain⟨⟨l⟩⟩:=s;cases l with
   |nil=>rfl
   |cons c r=>simp[ByteArray.size]at h0
  subst hse;go_enter Tryz.func95,Tryz.ntmps95
  go_wp2;go_ret
  exact⟨rfl,rfl⟩
end
section
open Go.RowKit
set_option maxHeartbeats 400000 in
theorem areNames_any(n:ByteArray)(v:Value)(ss:List ByteArray)(w:World)(hn:n.size≤maxLen)(hlen:ss.length≤maxLen)(hv:IsStrs v ss w)(hfit:fitsS ss) :
  Calls Tryz.prog 72 #[.agg #[.string n,v]] w fun e w'=>e=.returned (.bool (rowNames ⟨n,ss⟩))∧Below w.heap.size w w':=by
 obtain⟨ao,cap,rfl,_,_,hne0⟩:=hv;have hne:=hide hne0;clear hne0;unfold maxLen at hlen;go_enter Tryz.func72,Tryz.ntmps72
 go_wp2;have hb:Below w.heap.size w (w.alloc (.cells #[.string n,.slice ao ss.length cap] 51)):=(Below.refl _ _).alloc (Nat.le_refl _) _;have g0:(w.alloc (.cells #[.string n,.slice ao ss.length cap] 51)).cell? ⟨w.heap.size,0,none⟩=some (.string n):=by rw[cell_at (heap_new _ _)];rfl
 generalize w.alloc (.cells #[.string n,.slice ao ss.length cap] 51)=w1 at hb g0 ⊢;go_loop [8] (fun i=>∃k:Nat,i=.int .i64 k∧k≤ss.length∧Hid ((ss.take k).all isN=true)) (fun i=>ss.length-(intOf i).toNat)
 case atStart=>exact⟨0,rfl,Nat.zero_le _,rfl⟩
 case round=>
  obtain⟨k,rfl,hk,HA⟩:=hrel;by_cases hlt:k<ss.length
  ·obtain⟨x,hx⟩:∃x,ss[k]?=some x:=⟨_,List.getElem?_eq_getElem hlt⟩;obtain⟨b,off,hao,hbw,hs⟩:=hne.out (ne_nil_of_get hx);subst hao;have d0:=(hs.below hb hbw) k x hx;have hxs:=hfit x (List.mem_of_getElem? hx);have hst:=all_step (p:=isN) hx;rw[HA.out,Bool.true_and]at hst;cases hp:isN x
   ·have HF:Hid (rowNames ⟨n,ss⟩=false):=by unfold Hid rowNames;simp only[all_take_false hx hp,Bool.and_false]
    have HP:Hid (nameB x.data.toList=false):=hp;clear hst hp hx hs hne;go_wp2_with (go_at_call 95;refine(isName_any _ _ hxs).mono ?_;rintro e w' ⟨rfl,rfl⟩;rw[HP.out])
    go_ret
    exact⟨by rw[HF.out];rfl,hb⟩
   ·rw[hp]at hst;have HS:=hide hst;have HP:Hid (nameB x.data.toList=true):=hp;clear hst hp hx hs hne;go_wp2_with (go_at_call 95;refine(isName_any _ _ hxs).mono ?_;rintro e w' ⟨rfl,rfl⟩;rw[HP.out])
    go_round
    case rel=>exact⟨k+1,by go_num,by omega,HS.out⟩
    case measure=>simp[intOf];omega
  ·have HF:Hid (rowNames ⟨n,ss⟩=nameB n.data.toList):=by
    have h:=HA.out;rw[List.take_of_length_le (by omega)]at h;unfold Hid rowNames isN at *;simp only[h,Bool.and_true]
   go_wp2_with (go_at_call 95;refine(isName_any _ _ hn).mono ?_;rintro e w' ⟨rfl,rfl⟩)
   go_ret
   exact⟨by rw[HF.out];rfl,hb⟩
set_option maxHeartbeats 400000 in
theorem width_any(n:ByteArray)(v:Value)(ss:List ByteArray)(w:World)(hlen:ss.length≤maxLen)(hv:IsStrs v ss w)(hbound:n.size+2+toWidth ss≤1000000000000) :
  Calls Tryz.prog 73 #[.agg #[.string n,v]] w fun e w'=>e=.returned (.int .i64 ((n.size+2+toWidth ss:Nat):Int))∧Below w.heap.size w w':=by
 obtain⟨ao,cap,rfl,_,_,hne0⟩:=hv;have hne:=hide hne0;clear hne0;unfold maxLen at hlen;go_enter Tryz.func73,Tryz.ntmps73
 go_wp2;have hb:Below w.heap.size w (w.alloc (.cells #[.string n,.slice ao ss.length cap] 51)):=(Below.refl _ _).alloc (Nat.le_refl _) _;generalize w.alloc (.cells #[.string n,.slice ao ss.length cap] 51)=w1 at hb ⊢;go_loop [3,13] (fun s i=>∃k:Nat,i=.int .i64 k∧k≤ss.length∧s=.int .i64 ((n.size:Int)+2+(toWidth (ss.take k):Int))) (fun _ i=>ss.length-(intOf i).toNat)
 case atStart=>exact⟨0,rfl,Nat.zero_le _,by simp[toWidth]⟩
 case round=>
  obtain⟨k,rfl,hk,rfl⟩:=hrel;by_cases hlt:k<ss.length
  ·obtain⟨x,hx⟩:∃x,ss[k]?=some x:=⟨_,List.getElem?_eq_getElem hlt⟩;obtain⟨b,off,hao,hbw,hs⟩:=hne.out (ne_nil_of_get hx);subst hao;have d0:=(hs.below hb hbw) k x hx;have hst:=toWidth_snoc (ss.take k) x;rw[← take_next hx]at hst;have htk:=toWidth_take ss (k+1);have HS:=hide hst;have hle:toWidth (ss.take k)+1+x.size≤toWidth ss:=by omega
   clear hst hx hs hne htk;generalize toWidth (ss.take k)=t at *;go_wp2;go_round
   case rel=>exact⟨k+1,by go_num,by omega,by rw[HS.out];go_num⟩
   case measure=>simp[intOf];omega
  ·have HF:Hid (toWidth (ss.take k)=toWidth ss):=by unfold Hid;rw[List.take_of_length_le (by omega)]
   go_wp2;go_ret
   exact⟨ret_int (by rw[HF.out]),hb⟩
end
section
open Go.RowKit Go.Shelf
theorem infoByte:(Tryz.prog.info? 5).map (fun i=>(i.zero,i.size,i.bytes))=some (some (.int .u8 0),1,1):=by kernel_rfl
theorem sizeBuilder:(Tryz.prog.info? 118).map (·.size)=some 2:=by kernel_rfl
theorem liesBuilder:liesAt Tryz.prog Tryz.prog.depth 118 (2 / Tryz.prog.cellsOf 118) 0 118 1=true:=by kernel_rfl
set_option maxHeartbeats 1000000 in
set_option maxRecDepth 100000 in
theorem copyCheck_fresh(b:Nat)(w:World)(h0:w.cell? ⟨b,0,none⟩=some (.pointer none))(hsh:w.shape? b=some (118,2))(hfz:w.frozen? ⟨b,0,none⟩=false) :
  Calls Tryz.prog 96 #[.pointer (some ⟨b,0,none⟩)] w fun e w'=>e=.returned (.tuple #[])∧w'=w.setCell ⟨b,0,none⟩ (.pointer (some ⟨b,0,none⟩)):=by
 obtain⟨j,hj,hjs⟩:=Option.map_eq_some_iff.1 sizeBuilder;go_enter Tryz.func96,Tryz.ntmps96
 go_wp2;rw[Lib.run_to_unsafe w ⟨b,0,none⟩ Tryz.underlying115 Tryz.underlying188 hj (by rw[hjs];decide) hsh (Nat.zero_lt_succ 1)];simp only[Result.andThen];rw[Oper.upon_value];go_wp2;rw[run_callFunc_extern Tryz.func129 (by kernel_rfl) (by kernel_rfl) (by kernel_rfl) (e:=Extern.AbiNoEscape.same) (by kernel_rfl)];rw[Lib.run_noEscape];simp only[Result.andThen];rw[Oper.upon_value];go_wp2;rw[Lib.run_from_unsafe w ⟨b,0,none⟩ Tryz.underlying188 Tryz.underlying115 hj hsh liesBuilder];simp only[Result.andThen];rw[Oper.upon_value];go_wp2;go_end0
 exact⟨rfl,rfl⟩
set_option maxHeartbeats 1000000 in
theorem copyCheck_used(b:Nat)(w:World)(h0:w.cell? ⟨b,0,none⟩=some (.pointer (some ⟨b,0,none⟩))) :
  Calls Tryz.prog 96 #[.pointer (some ⟨b,0,none⟩)] w fun e w'=>e=.returned (.tuple #[])∧w'=w:=by
 obtain⟨j,hj,hjs⟩:=Option.map_eq_some_iff.1 sizeBuilder;have hn:=Lib.run_neq_ptr_same (P:=Tryz.prog) w (tp:=115) ⟨b,0,none⟩ Tryz.underlying115 hj;go_enter Tryz.func96,Tryz.ntmps96
 go_wp2;go_end0
 exact⟨rfl,rfl⟩
theorem copyCheck_any(B b:Nat)(bs:List Value)(w:World)(h:Lib.IsBuilderF 118 5 B b bs w) :
  Calls Tryz.prog 96 #[.pointer (some ⟨b,0,none⟩)] w fun e w'=>e=.returned (.tuple #[])∧(Lib.BuilderAtF 118 5 B b (.pointer (some ⟨b,0,none⟩)) bs w'∧Below B w w'∧Lib.OthersKept 5 (some b) w w'):=by
 rcases h with h|h
 ·refine(copyCheck_fresh b w h.cell0 h.shape h.frozen0).mono ?_
  rintro e w' ⟨rfl,rfl⟩;exact⟨rfl,h.used _,(Below.refl B w).setCell (p:=⟨b,0,none⟩) h.1 _,(Lib.OthersKept.refl _ _ w).setCell ⟨b,0,none⟩ rfl _⟩
 ·refine(copyCheck_used b w h.cell0).mono ?_
  rintro e w' ⟨rfl,rfl⟩;exact⟨rfl,h,Below.refl B _,Lib.OthersKept.refl _ _ _⟩
set_option maxHeartbeats 1000000 in
set_option maxRecDepth 100000 in
theorem writeString_any(B b:Nat)(bs:List Value)(s:ByteArray)(w:World)(h:Lib.IsBuilderF 118 5 B b bs w)(hlen:bs.length+s.size≤140737488355328)(hBw:B≤w.heap.size) :
  Calls Tryz.prog 65 #[.pointer (some ⟨b,0,none⟩),.string s] w fun e w'=>e=.returned (.tuple #[.int .i64 s.size,.nilIface])∧(Lib.IsBuilderF 118 5 B b (bs++Lib.strCells s) w'∧Below B w w'∧Lib.OthersKept 5 (some b) w w'):=by
 obtain⟨i0,hi,hz0,hz1,hz2⟩:=info_parts infoByte;go_enter Tryz.func65,Tryz.ntmps65
 go_wp2_with (go_at_call 96;refine(copyCheck_any B b bs _ h).mono ?_)
 rintro e w1 ⟨rfl,h1,hb1,hk1⟩;obtain⟨hB,v,hbk,hown,hne⟩:=h1;have c0:w1.cell? ⟨b,0,none⟩=some (.pointer (some ⟨b,0,none⟩)):=by rw[Lib.cell_of_heap hbk];rfl
 have c1:w1.cell? ⟨b,1,none⟩=some v:=by rw[Lib.cell_of_heap hbk];rfl
 go_wp2_with (at_builtin;refine Lib.wpList_append_own_stringF _ rfl _ _ 116 9 rfl B 5 i0 Tryz.underlying116 Tryz.underlying9 hi hz0 hz1 hz2 _ _ _ rfl hown s rfl ?c3 ?c4 ?c5 ?_)
 case c3=>unfold maxLen;omega
 case c4=>omega
 case c5=>have:=hb1.size;omega
 intro v' w2 hown' hgrow _;have hlt:b<w1.heap.size:=lt_of_heap hbk;have hb2:w2.heap[b]?=some (.cells #[.pointer (some ⟨b,0,none⟩),v] 118 (0,0)):=by
  rw[hgrow.block b hlt (fun e=>hne e.symm)];exact hbk
 have d0:w2.cell? ⟨b,0,none⟩=some (.pointer (some ⟨b,0,none⟩)):=by rw[Lib.cell_of_heap hb2];rfl
 have d1:w2.cell? ⟨b,1,none⟩=some v:=by rw[Lib.cell_of_heap hb2];rfl
 have f1:w2.frozen? ⟨b,1,none⟩=false:=Lib.frozen_of_heap hb2 1;obtain⟨ao,n',cap,rfl⟩:∃ao n' cap,v'=.slice ao n' cap:=by
  rcases hown'.2 with⟨hv,_⟩|⟨g,cap,cur,fz,hv,_⟩
  ·exact⟨_,_,_,hv⟩
  ·exact⟨_,_,_,hv⟩
 go_wp2;go_ret2
 refine⟨rfl,.inr ?_,?_,(hk1.grown hgrow (Lib.ownsRowF_kind hown)).setCell ⟨b,1,none⟩ rfl _⟩
 ·exact Lib.BuilderAtF.put (T:=118) (e:=5) hB hb2 (bs':=bs++Lib.strCells s) (by simpa[Lib.strCells_length]using hown') (by decide)
 ·exact(hb1.grown hgrow (by have:=hb1.size;omega) (fun k hk=>(hown.lt k hk).1)).setCell (p:=⟨b,1,none⟩) hB _
def renS:Ren:=⟨fun|169=>67|n=>n,fun|70=>115|9=>9|0=>0|72=>118|37=>116|127=>160|3=>3|5=>5|n=>n,fun|n=>n⟩
theorem laysS:Go.Proofs.Lays.n169 Tryz.prog renS:={
 mixed:=by kernel_rfl
 f169:=Tryz.func67.trans (congrArg some (by kernel_rfl))
 t0:=Tryz.underlying0
 a0:=Tryz.isAgg0
 z0:=Tryz.sizeOf0
 v0:=Tryz.zeroValue0
 t3:=Tryz.underlying3
 a3:=Tryz.isAgg3
 z3:=Tryz.sizeOf3
 v3:=Tryz.zeroValue3
 t9:=Tryz.underlying9
 a9:=Tryz.isAgg9
 z9:=Tryz.sizeOf9
 v9:=Tryz.zeroValue9
 t37:=Tryz.underlying116
 a37:=Tryz.isAgg116
 z37:=Tryz.sizeOf116
 v37:=Tryz.zeroValue116
 t70:=Tryz.underlying115
 a70:=Tryz.isAgg115
 z70:=Tryz.sizeOf115
 v70:=Tryz.zeroValue115
 t72:=Tryz.underlying118
 a72:=Tryz.isAgg118
 z72:=Tryz.sizeOf118
 v72:=Tryz.zeroValue118
 t127:=Tryz.underlying160
 a127:=Tryz.isAgg160
 z127:=Tryz.sizeOf160
 v127:=Tryz.zeroValue160 }
theorem extraS:Builder.Extra Tryz.prog renS:={
 sizeBuilder:=by kernel_rfl
 liesBuilder:=by kernel_rfl
 t5:=Tryz.underlying5
 a5:=Tryz.isAgg5
 z5:=Tryz.sizeOf5
 v5:=Tryz.zeroValue5
 infoByte:=by kernel_rfl
 cellsByte:=by kernel_rfl
 sizeByte:=by kernel_rfl
 neB5:=by decide }
theorem builderString_any(B b:Nat)(l:List UInt8)(w:World)(h:Lib.IsBuilderF 118 5 B b (Lib.byteCells l) w)(hBw:B≤w.heap.size) :
  Calls Tryz.prog 67 #[.pointer (some ⟨b,0,none⟩)] w fun e w'=>e=.returned (.string ⟨l.toArray⟩)∧(Lib.IsBuilderF 118 5 B b (Lib.byteCells l) w'∧Below B w w'∧Lib.OthersKept 5 (some b) w w'):=
 Any.Builder_String_any_k laysS extraS B b l w h hBw
end
section
open Go.RowKit
theorem bytes_app(a:List UInt8)(s:ByteArray):Lib.byteCells a++Lib.strCells s=Lib.byteCells (a++s.data.toList):=by simp[Lib.byteCells,Lib.strCells]
structure WrInv(w wr:World)(rs:List RowD)(n:Nat):Prop where
 le:n≤rs.length
 bld:Lib.IsBuilderF 118 5 w.heap.size w.heap.size (Lib.byteCells (rowsText (rs.take n))) wr
 blw:Below w.heap.size w wr
set_option maxHeartbeats 1000000 in
theorem write_any(v:Value)(rs:List RowD)(w:World)(hlen:rs.length≤maxLen)(hv:IsRows v rs w)(hfit:fitsR rs)(hbound:(rowsText rs).length≤1000000000000) :
  Calls Tryz.prog 59 #[v] w fun e w'=>e=.returned (.string ⟨(rowsText rs).toArray⟩)∧Below w.heap.size w w':=by
 obtain⟨ao,cap,rfl,_,_,hne0⟩:=hv;have hne:=hide hne0;clear hne0;unfold maxLen at hlen;go_enter Tryz.func59,Tryz.ntmps59
 go_wp2;go_loopw [10] (fun i wr=>∃n:Nat,i=.int .i64 n∧WrInv w wr rs n) (fun i _=>rs.length-(intOf i).toNat)
 case atStart=>exact⟨0,rfl,Nat.zero_le _,.inl ⟨Nat.le_refl _,.slice none 0 0,heap_new _ _,World.ownsRowF_nil _ _ _ _,by simp[Value.ownBlock]⟩,(Below.refl _ _).alloc (Nat.le_refl _) _⟩
 case round=>
  obtain⟨n,rfl,hi⟩:=hrel;have hbl:=hi.blw;have hbd:=hi.bld;by_cases hlt:n<rs.length
  ·obtain⟨⟨nm,tgs⟩,hr⟩:∃r,rs[n]?=some r:=⟨_,List.getElem?_eq_getElem hlt⟩;obtain⟨b,off,hao,hbw,hrs⟩:=hne.out (ne_nil_of_get hr);subst hao;obtain⟨d0w,tv,d1w,hst0⟩:=hrs n nm tgs hr;have d0:=(hbl.cell (p:=⟨b,off+n*2,none⟩) hbw).trans d0w;have d1:=(hbl.cell (p:=⟨b,off+n*2+1,none⟩) hbw).trans d1w;clear d0w d1w;obtain⟨ao2,cap2,htv,_,_,hn2⟩:=hst0;have hst:=hide hn2;clear hn2;subst htv;obtain⟨hf1,hf2,_⟩:=hfit _ (List.mem_of_getElem? hr);simp only at hf1 hf2;unfold maxLen at hf2;have htx:=rowsText_snoc (rs.take n) ⟨nm,tgs⟩;rw[← take_next hr]at htx;have hL:=rowsText_take (l:=rs) (k:=n+1);rw[htx,List.length_append,rowText_length]at hL;simp only at hL;have HTX:=hide htx;clear htx hr hrs hi;generalize rowsText (rs.take n)=acc at *;have hsz:=hbd.elim (fun h=>h.lt) (fun h=>h.lt);go_wp2_with fail
   have hk1:Kb [] _ _:=(Kb.refl [] wr).alloc (.cells #[.string nm,.slice ao2 tgs.length cap2] 51);have g1:=heap_new wr (.cells #[.string nm,.slice ao2 tgs.length cap2] 51);have hbd1:=hk1.builder hbd (by simp) (by simp);have hbl1:=hbl.alloc hbl.size (.cells #[.string nm,.slice ao2 tgs.length cap2] 51);have hbc:(Lib.byteCells acc).length=acc.length:=Lib.byteCells_length acc;refine(writeString_any w.heap.size w.heap.size (Lib.byteCells acc) nm _ hbd1 (by omega) hbl1.size).mono ?_
   rintro e w2 ⟨rfl,hbd2,hb2,ho2⟩;rw[bytes_app]at hbd2;have g2:=ho2 _ _ g1 (by intro e;injection e;omega) (by intro c fz e;cases e);have hbl2:=hbl1.trans hb2;clear hk1 hbd1 hbl1 hb2 ho2 g1 hbc hbd d0 d1;go_wp2_with fail
   have hbc:(Lib.byteCells (acc++nm.data.toList)).length=acc.length+nm.size:=by rw[Lib.byteCells_length,List.length_append];rfl
   have e58:(⟨#[58]⟩:ByteArray).size=1:=rfl;refine(writeString_any w.heap.size w.heap.size (Lib.byteCells (acc++nm.data.toList)) ⟨#[58]⟩ _ hbd2 (by omega) hbl2.size).mono ?_
   rintro e w3 ⟨rfl,hbd3,hb3,ho3⟩;rw[bytes_app]at hbd3;have g3:=ho3 _ _ g2 (by intro e;injection e;omega) (by intro c fz e;cases e);have hbl3:=hbl2.trans hb3;have c1:w3.cell? ⟨wr.heap.size,1,none⟩=some (.slice ao2 tgs.length cap2):=by rw[cell_at g3];rfl
   clear hbl2 hb3 ho3 hbd2 g2 hbc e58 g3;go_wp2_with fail
   go_loopw [21] (fun i wx=>∃k:Nat,i=.int .i64 k∧k≤tgs.length∧Lib.IsBuilderF 118 5 w.heap.size w.heap.size (Lib.byteCells (acc++nm.data.toList++[58]++toText (tgs.take k))) wx∧Below w.heap.size w wx) (fun i _=>tgs.length-(intOf i).toNat)
   case atStart=>exact⟨0,rfl,Nat.zero_le _,by simpa[toText]using hbd3,hbl3⟩
   case round=>
    clear hbd3 hbl3;obtain⟨k,rfl,hk,hbd4,hbl4⟩:=hrel;by_cases hkt:k<tgs.length
    ·obtain⟨x,hx⟩:∃x,tgs[k]?=some x:=⟨_,List.getElem?_eq_getElem hkt⟩;obtain⟨b2,off2,hao2,hb2w,hs2⟩:=hst.out (ne_nil_of_get hx);subst hao2;have x0:=(hs2.below hbl4 hb2w) k x hx;have hts:=toText_snoc (tgs.take k) x;rw[← take_next hx]at hts;have hw1:=toWidth_take tgs (k+1);have hw2:=toWidth_snoc (tgs.take k) x;rw[← take_next hx]at hw2;have htl:=toWidth_text (tgs.take k);have HTS:=hide hts;clear hts hx hs2 hst;generalize toText (tgs.take k)=tt at *;have e32:(⟨#[32]⟩:ByteArray).size=1:=rfl;have hbc:(Lib.byteCells (acc++nm.data.toList++[58]++tt)).length=acc.length+nm.size+1+tt.length:=by
      rw[Lib.byteCells_length,List.length_append,List.length_append,List.length_append];rfl
     go_wp2_with fail
     refine(writeString_any w.heap.size w.heap.size _ ⟨#[32]⟩ _ hbd4 (by omega) hbl4.size).mono ?_
     rintro e w5 ⟨rfl,hbd5,hb5,ho5⟩;rw[bytes_app]at hbd5;have hbl5:=hbl4.trans hb5;clear hbd4 hb5 ho5 hbc x0;have hbc:(Lib.byteCells (acc++nm.data.toList++[58]++tt++(⟨#[32]⟩:ByteArray).data.toList)).length=acc.length+nm.size+1+tt.length+1:=by
      rw[Lib.byteCells_length,List.length_append,List.length_append,List.length_append,List.length_append];rfl
     go_wp2_with fail
     refine(writeString_any w.heap.size w.heap.size _ x _ hbd5 (by omega) hbl5.size).mono ?_
     rintro e w6 ⟨rfl,hbd6,hb6,ho6⟩;rw[bytes_app]at hbd6;have hbl6:=hbl5.trans hb6;have hfin:Lib.IsBuilderF 118 5 w.heap.size w.heap.size (Lib.byteCells (acc++nm.data.toList++[58]++toText (tgs.take (k+1)))) w6:=by
      rw[HTS.out];simpa using hbd6
     clear hbd5 hbd6 hb6 ho6 hbl5 hbc;go_wp2;go_roundw
     case rel=>exact⟨k+1,by go_num,by omega,hfin,hbl6⟩
     case measure=>simp[intOf];omega
    ·have htk:tgs.take k=tgs:=List.take_of_length_le (by omega);rw[htk]at hbd4;clear htk;have e10:(⟨#[10]⟩:ByteArray).size=1:=rfl;have hbc:(Lib.byteCells (acc++nm.data.toList++[58]++toText tgs)).length=acc.length+nm.size+1+toWidth tgs:=by
      rw[Lib.byteCells_length,List.length_append,List.length_append,List.length_append,toWidth_text];rfl
     go_wp2_with fail
     refine(writeString_any w.heap.size w.heap.size _ ⟨#[10]⟩ _ hbd4 (by omega) hbl4.size).mono ?_
     rintro e w5 ⟨rfl,hbd5,hb5,ho5⟩;rw[bytes_app]at hbd5;have hbl5:=hbl4.trans hb5;have hfin:WrInv w w5 rs (n+1):=by
      refine⟨hlt,?_,hbl5⟩;rw[HTX.out];simpa[rowText]using hbd5
     clear hbd4 hbd5 hb5 ho5 hbc hbl4;go_wp2;go_roundw
     case rel=>exact⟨n+1,by go_num,hfin⟩
     case measure=>simp[intOf];omega
  ·have htk:rs.take n=rs:=List.take_of_length_le (by omega);rw[htk]at hbd;clear htk hi;go_wp2_with fail
   refine(builderString_any w.heap.size w.heap.size (rowsText rs) _ hbd hbl.size).mono ?_
   rintro e w2 ⟨rfl,_,hb2,_⟩;have hbl2:=hbl.trans hb2;clear hb2 hbl;go_wp2;go_ret
   exact⟨rfl,hbl2⟩
end
end Go.Proofs.YtiamlbhkiehilaaGreatDoor
