import Derived.Test.YtiamlbhkiehilaaGreatDoorKq03
import Derived.Test.YtiamlbhkiehilaaGreatDoorKq07
import Derived.Test.YtiamlbhkiehilaaGreatDoorKq08
namespace Go.Proofs.YtiamlbhkiehilaaGreatDoor
section
open Go.RowKit
variable {B:Nat} {c:Way} {n:Nat} {s:St}
theorem wnew_any(o:Int)(w:World) :
  Calls Tryz.prog 84 #[.int .i64 o] w fun e w'=>e=.returned (.pointer (some ⟨w.heap.size,0,none⟩))∧w'=w.alloc (.cells #[.int .i64 o,.slice none 0 0,.slice none 0 0,.slice none 0 0] TL):=by
 go_enter Tryz.func84,Tryz.ntmps84
 go_wp2;go_ret
 exact⟨rfl,rfl⟩
set_option maxRecDepth 100000 in
theorem glay_any(k:Int)(p q:Nat)(w:World)(G:GV)(h:GM w B c n G s)(hp:p<n)(hq:q<n)(hk:1≤k∧k≤4) :
  Calls Tryz.prog 85 #[.pointer (some ⟨G.bg,0,none⟩),.int .i64 k,.int .u64 p,.int .u64 q] w fun e w'=>e=.returned (.tuple #[])∧∃G',GM w' B c n G' (s.lay k p q)∧GCh w w' G G':=by
 have hn:=h.n40;have r5:=h.reads.2.2.2.2.2.1;have A1:=gadd_any (7*p) q w G h (by omega) (by omega);have A2:=gadd_any (7*q+2) p w G h (by omega) (by omega);have A3:=gadd_any (7*q+3) p w G h (by omega) (by omega);have A4:=gadd_any (7*p+4) q w G h (by omega) (by omega);have e1:Hid (s.lay 1 p q=s.addAt (7*p) q):=hide rfl;have e2:Hid (s.lay 2 p q=s.addAt (7*q+2) p):=hide rfl;have e3:Hid (s.lay 3 p q=s.addAt (7*q+3) p):=hide rfl;have e4:Hid (s.lay 4 p q=s.addAt (7*p+4) q):=hide rfl;rw[← e1.out,show 7*p=p*7 by omega]at A1;rw[← e2.out,show 7*q+2=q*7+2 by omega]at A2;rw[← e3.out,show 7*q+3=q*7+3 by omega]at A3;rw[← e4.out,show 7*p+4=p*7+4 by omega]at A4;clear h;go_enter Tryz.func85,Tryz.ntmps85
 have hk4:k=1∨k=2∨k=3∨k=4:=by omega
 rcases hk4 with rfl|rfl|rfl|rfl
 ·clear A2 A3 A4;go_wp2_with fail
  refine A1.mono ?_
  clear A1;rintro e w1 ⟨rfl,G',h1,h2⟩;have H:=hide (And.intro h1 h2);clear h1 h2;go_wp2;go_end0
  exact⟨rfl,G',H.out⟩
 ·clear A1 A3 A4;go_wp2_with fail
  refine A2.mono ?_
  clear A2;rintro e w1 ⟨rfl,G',h1,h2⟩;have H:=hide (And.intro h1 h2);clear h1 h2;go_wp2;go_end0
  exact⟨rfl,G',H.out⟩
 ·clear A1 A2 A4;go_wp2_with fail
  refine A3.mono ?_
  clear A3;rintro e w1 ⟨rfl,G',h1,h2⟩;have H:=hide (And.intro h1 h2);clear h1 h2;go_wp2;go_end0
  exact⟨rfl,G',H.out⟩
 ·clear A1 A2 A3;go_wp2_with fail
  refine A4.mono ?_
  clear A4;rintro e w1 ⟨rfl,G',h1,h2⟩;have H:=hide (And.intro h1 h2);clear h1 h2;go_wp2;go_end0
  exact⟨rfl,G',H.out⟩
end
section
open Go.RowKit
theorem isnanS_any(x:ByteArray)(w:World):Calls Tryz.prog 173 #[.string x] w fun e w'=>e=.returned (.bool false)∧w'=w:=by
 go_enter Tryz.func173,Tryz.ntmps173
 go_wp2;go_ret
 exact⟨by simp,rfl⟩
theorem lessC_any(x y:ByteArray)(w:World):Calls Tryz.prog 142 #[.string x,.string y] w fun e w'=>e=.returned (.bool (lessS x y))∧w'=w:=by
 have HX:=isnanS_any x w;have hq:Op.bytesLess x.toList y.toList=lessS x y:=rfl;go_enter Tryz.func142,Tryz.ntmps142
 go_wp2_with fail
 refine HX.mono ?_
 clear HX;rintro e w1 ⟨rfl,rfl⟩;go_wp2;go_ret
 exact⟨by simp,rfl⟩
theorem insAt_between{ss:List ByteArray}{t:ByteArray}{i:Nat}(h1:∀k x,k<i→ss[k]?=some x→lessS x t=true)(h2:∀k x,i≤k→ss[k]?=some x→lessS x t=false)(hi:i≤ss.length):insAt ss t=i:=
 insAt_of h1 hi (fun x hx=>h2 i x (Nat.le_refl _) hx)
set_option maxRecDepth 100000 in
set_option maxHeartbeats 1000000 in
theorem search_any(v:Value)(ss:List ByteArray)(t:ByteArray)(w:World)(hlen:ss.length≤1000)(hv:IsStrs v ss w)(ha:Asc ss)(ht:t∈ss) :
  Calls Tryz.prog 109 #[v,.string t] w fun e w'=>e=.returned (.tuple #[.int .i64 ((insAt ss t:Nat):Int),.bool true])∧Below w.heap.size w w':=by
 obtain⟨ao,cap,rfl,_,_,hne0⟩:=hv;obtain⟨b,off,rfl,hbw,hs⟩:=hne0 (List.ne_nil_of_mem ht);clear hne0;have HS:=hide hs;have HAs:=hide ha;clear hs ha;go_enter Tryz.func109,Tryz.ntmps109
 go_wp2;go_loopw [7,8] (fun vi vj wr=>∃i j:Nat,vi=.int .i64 (i:Int)∧vj=.int .i64 (j:Int)∧i≤j∧j≤ss.length∧Hid ((∀k x,k<i→ss[k]?=some x→lessS x t=true)∧(∀k x,j≤k→ss[k]?=some x→lessS x t=false))∧Below w.heap.size w wr) (fun vi vj _=>(intOf vj).toNat-(intOf vi).toNat)
 case atStart=>exact⟨0,ss.length,rfl,rfl,Nat.zero_le _,Nat.le_refl _,hide ⟨fun k x hk=>by omega,fun k x hk hx=>by rw[List.getElem?_eq_none hk]at hx;cases hx⟩,Below.refl _ _⟩
 case round=>
  obtain⟨i,j,rfl,rfl,hij,hj,HP,hb⟩:=hrel;by_cases hlt:i<j
  ·have hhl:(i+j) / 2<ss.length:=by omega
   obtain⟨x,hx⟩:∃x,ss[(i+j) / 2]?=some x:=⟨_,List.getElem?_eq_getElem hhl⟩;have d0:=(HS.out.below hb hbw) _ x hx;have HL:=lessC_any x t wr;have HX:=hide hx;have hc:(((i+j) / 2:Nat):Int)=((i:Int)+j) / 2:=by omega
   have HC:=hide hc;have mono:Hid (∀k y,k≤(i+j) / 2→ss[k]?=some y→lessS x t=true→lessS y t=true):=by
    refine hide (fun k y hk hy hlx=>?_);by_cases e:k=(i+j) / 2
    ·rw[e,hx]at hy;cases hy;exact hlx
    ·have h1:=List.pairwise_iff_getElem.1 HAs.out k ((i+j) / 2) (by omega) hhl (by omega);rw[List.getElem?_eq_getElem (by omega)]at hy hx;cases hy;cases hx;exact lessS_trans h1 hlx
   have mono2:Hid (∀k y,(i+j) / 2≤k→ss[k]?=some y→lessS x t=false→lessS y t=false):=by
    refine hide (fun k y hk hy hlx=>?_);by_cases e:k=(i+j) / 2
    ·rw[e,hx]at hy;cases hy;exact hlx
    ·cases hyt:lessS y t
     ·rfl
     ·have hkl:=(List.getElem?_eq_some_iff.1 hy).1;have h1:=List.pairwise_iff_getElem.1 HAs.out ((i+j) / 2) k hhl hkl (by omega);rw[List.getElem?_eq_getElem hkl]at hy;rw[List.getElem?_eq_getElem hhl]at hx;cases hy;cases hx;rw[lessS_trans h1 hyt]at hlx;cases hlx
   clear hx hc;go_wp2_with fail
   refine HL.mono ?_
   clear HL;rintro e w1 ⟨rfl,rfl⟩;cases hl:lessS x t
   ·have HL:=hide hl;clear hl;go_wp2;go_roundw
    case rel=>exact⟨i,(i+j) / 2,rfl,by rw[HC.out],by omega,by omega,hide ⟨HP.out.1,fun k y hk hy=>mono2.out k y hk hy HL.out⟩,hb⟩
    case measure=>simp[intOf];omega
   ·have HL:=hide hl;clear hl;go_wp2;go_roundw
    case rel=>exact⟨(i+j) / 2+1,j,by rw[← HC.out];go_num,rfl,by omega,by omega,hide ⟨fun k y hk hy=>mono.out k y (by omega) hy HL.out,HP.out.2⟩,hb⟩
    case measure=>simp[intOf];omega
  ·have e:insAt ss t=i:=insAt_between HP.out.1 (fun k x hk=>HP.out.2 k x (by omega)) (by omega);have hx:=asc_mem HAs.out ht;rw[e]at hx;have hil:=(List.getElem?_eq_some_iff.1 hx).1;have d0:=(HS.out.below hb hbw) _ t hx;have HE:=hide e;have hij2:i=j:=by omega
   subst hij2;clear hx HP e;go_wp2;refine bodyPost_ret (v:=.tuple #[.int .i64 (i:Int),.bool true]) (by simp[results,Tryz.results109,go_sem]) rfl ?_
   exact⟨by rw[HE.out],hb⟩
theorem number_any(v:Value)(ss:List ByteArray)(t:ByteArray)(w:World)(hlen:ss.length≤1000)(hv:IsStrs v ss w)(ha:Asc ss)(ht:t∈ss) :
  Calls Tryz.prog 86 #[.string t,v] w fun e w'=>e=.returned (.int .u64 ((insAt ss t:Nat):Int))∧Below w.heap.size w w':=by
 have HS:=search_any v ss t w hlen hv ha ht;have hi:=insAt_le ss t;go_enter Tryz.func86,Tryz.ntmps86
 go_wp2_with fail
 refine HS.mono ?_
 clear HS;rintro e w1 ⟨rfl,hb⟩;go_wp2;go_ret
 exact⟨rfl,hb⟩
end
end Go.Proofs.YtiamlbhkiehilaaGreatDoor
