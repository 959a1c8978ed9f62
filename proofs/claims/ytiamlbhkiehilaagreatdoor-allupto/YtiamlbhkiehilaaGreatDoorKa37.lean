import Derived.Test.YtiamlbhkiehilaaGreatDoorKa08
open Go.Proofs.Tryz renaming prog→hE
open List renaming getElem?_eq_getElem→hZ,pairwise_iff_getElem→Nh,getElem?_eq_some_iff→II
namespace Go.Proofs.YtiamlbhkiehilaaGreatDoor
set_option maxRecDepth 100000
section
open Go.RowKit
variable {B:Nat} {c:Way} {n:Nat} {s:St}
theorem Fk(o:Int)(w:World) :
  Calls hE 84 #[.int .i64 o] w fun e w'=>e=.returned (.pointer (some ⟨w.heap.size,0,none⟩))∧w'=w.alloc (.cells #[.int .i64 o,.slice none 0 0,.slice none 0 0,.slice none 0 0] TL):=by
 go_enter Tryz.func84,Tryz.ntmps84
 go_wp2;go_ret
 exact⟨rfl,rfl⟩
theorem Fl(k:Int)(p q:Nat)(w:World)(G:GV)(h:GM w B c n G s)(x:p<n)(y:q<n)(z:1≤k∧k≤4) :
  Calls hE 85 #[.pointer (some ⟨G.bg,0,none⟩),.int .i64 k,.int .u64 p,.int .u64 q] w fun e w'=>e=.returned (.tuple #[])∧∃d,GM w' B c n d (s.lay k p q)∧GCh w w' G d:=by
 have A:=h.n40;have C:=h.reads.2.2.2.2.2.1;have f:=lL (7*p) q w G h (by omega) (by omega);have g:=lL (7*q+2) p w G h (by omega) (by omega);have i:=lL (7*q+3) p w G h (by omega) (by omega);have j:=lL (7*p+4) q w G h (by omega) (by omega);have m:Hid (s.lay 1 p q=s.addAt (7*p) q):=aA rfl;have o:Hid (s.lay 2 p q=s.addAt (7*q+2) p):=aA rfl;have r:Hid (s.lay 3 p q=s.addAt (7*q+3) p):=aA rfl;have t:Hid (s.lay 4 p q=s.addAt (7*p+4) q):=aA rfl;rw[← m.out,show 7*p=p*7 by omega]at f;rw[← o.out,show 7*q+2=q*7+2 by omega]at g;rw[← r.out,show 7*q+3=q*7+3 by omega]at i;rw[← t.out,show 7*p+4=p*7+4 by omega]at j;clear h;go_enter Tryz.func85,Tryz.ntmps85
 have u:k=1∨k=2∨k=3∨k=4:=by omega
 rcases u with rfl|rfl|rfl|rfl
 ·clear g i j;go_wp2_with fail
  refine f.mono ?_
  clear f;rintro e l ⟨rfl,d,a,b⟩;have H:=aA (And.intro a b);clear a b;go_wp2;go_end0
  exact⟨rfl,d,H.out⟩
 ·clear f i j;go_wp2_with fail
  refine g.mono ?_
  clear g;rintro e l ⟨rfl,d,a,b⟩;have H:=aA (And.intro a b);clear a b;go_wp2;go_end0
  exact⟨rfl,d,H.out⟩
 ·clear f g j;go_wp2_with fail
  refine i.mono ?_
  clear i;rintro e l ⟨rfl,d,a,b⟩;have H:=aA (And.intro a b);clear a b;go_wp2;go_end0
  exact⟨rfl,d,H.out⟩
 ·clear f g i;go_wp2_with fail
  refine j.mono ?_
  clear j;rintro e l ⟨rfl,d,a,b⟩;have H:=aA (And.intro a b);clear a b;go_wp2;go_end0
  exact⟨rfl,d,H.out⟩
end
section
open Go.RowKit
theorem BO(x:ByteArray)(w:World):Calls hE 173 #[.string x] w fun e w'=>e=.returned (.bool false)∧w'=w:=by
 go_enter Tryz.func173,Tryz.ntmps173
 go_wp2;go_ret
 exact⟨by simp,rfl⟩
theorem DK(x y:ByteArray)(w:World):Calls hE 142 #[.string x,.string y] w fun e w'=>e=.returned (.bool (cK x y))∧w'=w:=by
 have a:=BO x w;have b:Op.bytesLess x.toList y.toList=cK x y:=rfl;go_enter Tryz.func142,Tryz.ntmps142
 go_wp2_with fail
 refine a.mono ?_
 clear a;rintro e d ⟨rfl,rfl⟩;go_wp2;go_ret
 exact⟨by simp,rfl⟩
theorem vS{ss:List ByteArray}{t:ByteArray}{i:Nat}(h1:∀k x,k<i→ss[k]?=some x→cK x t=true)(h2:∀k x,i≤k→ss[k]?=some x→cK x t=false)(a:i≤ss.length):aX ss t=i:=
 jT h1 a (fun x b=>h2 i x (Nat.le_refl _) b)
set_option maxHeartbeats 1000000 in
theorem BP(v:Value)(ss:List ByteArray)(t:ByteArray)(w:World)(R:ss.length≤1000)(K:cY v ss w)(A:Asc ss)(C:t∈ss) :
  Calls hE 109 #[v,.string t] w fun e w'=>e=.returned (.tuple #[.int .i64 ((aX ss t:Nat):Int),.bool true])∧Below w.heap.size w w':=by
 obtain⟨S,T,rfl,_,_,D⟩:=K;obtain⟨b,U,rfl,E,F⟩:=D (List.ne_nil_of_mem C);clear D;have G:=aA F;have q:=aA A;clear F A;go_enter Tryz.func109,Tryz.ntmps109
 go_wp2;go_loopw [7,8] (fun r u wr=>∃i j:Nat,r=.int .i64 (i:Int)∧u=.int .i64 (j:Int)∧i≤j∧j≤ss.length∧Hid ((∀k x,k<i→ss[k]?=some x→cK x t=true)∧(∀k x,j≤k→ss[k]?=some x→cK x t=false))∧Below w.heap.size w wr) (fun r u _=>(intOf u).toNat-(intOf r).toNat)
 case atStart=>exact⟨0,ss.length,rfl,rfl,Nat.zero_le _,Nat.le_refl _,aA ⟨fun k x f=>by omega,fun k x f a=>by rw[List.getElem?_eq_none f]at a;cases a⟩,Below.refl _ _⟩
 case round=>
  obtain⟨i,j,rfl,rfl,V,X,l,m⟩:=hrel;by_cases Y:i<j
  ·have o:(i+j) / 2<ss.length:=by omega
   obtain⟨x,a⟩:∃x,ss[(i+j) / 2]?=some x:=⟨_,hZ o⟩;have L:=(G.out.below m E) _ x a;have g:=DK x t wr;have Z:=aA a;have H:(((i+j) / 2:Nat):Int)=((i:Int)+j) / 2:=by omega
   have I:=aA H;have M:Hid (∀k y,k≤(i+j) / 2→ss[k]?=some y→cK x t=true→cK y t=true):=by
    refine aA (fun k y f d h=>?_);by_cases e:k=(i+j) / 2
    ·rw[e,a]at d;cases d;exact h
    ·have z:=Nh.1 q.out k ((i+j) / 2) (by omega) o (by omega);rw[hZ (by omega)]at d a;cases d;cases a;exact kP z h
   have N:Hid (∀k y,(i+j) / 2≤k→ss[k]?=some y→cK x t=false→cK y t=false):=by
    refine aA (fun k y f d h=>?_);by_cases e:k=(i+j) / 2
    ·rw[e,a]at d;cases d;exact h
    ·cases O:cK y t
     ·rfl
     ·have J:=(II.1 d).1;have z:=Nh.1 q.out ((i+j) / 2) k o J (by omega);rw[hZ J]at d;rw[hZ o]at a;cases d;cases a;rw[kP z O]at h;cases h
   clear a H;go_wp2_with fail
   refine g.mono ?_
   clear g;rintro e w1 ⟨rfl,rfl⟩;cases p:cK x t
   ·have g:=aA p;clear p;go_wp2;go_roundw
    case rel=>exact⟨i,(i+j) / 2,rfl,by rw[I.out],by omega,by omega,aA ⟨l.out.1,fun k y f d=>N.out k y f d g.out⟩,m⟩
    case measure=>simp[intOf];omega
   ·have g:=aA p;clear p;go_wp2;go_roundw
    case rel=>exact⟨(i+j) / 2+1,j,by rw[← I.out];go_num,rfl,by omega,by omega,aA ⟨fun k y f d=>M.out k y (by omega) d g.out,l.out.2⟩,m⟩
    case measure=>simp[intOf];omega
  ·have e:aX ss t=i:=vS l.out.1 (fun k x f=>l.out.2 k x (by omega)) (by omega);have a:=fH q.out C;rw[e]at a;have a0:=(II.1 a).1;have L:=(G.out.below m E) _ t a;have P:=aA e;have Q:i=j:=by omega
   subst Q;clear a l e;go_wp2;refine bodyPost_ret (v:=.tuple #[.int .i64 (i:Int),.bool true]) (by simp[results,Tryz.results109,go_sem]) rfl ?_
   exact⟨by rw[P.out],m⟩
theorem BQ(v:Value)(ss:List ByteArray)(t:ByteArray)(w:World)(b:ss.length≤1000)(d:cY v ss w)(f:Asc ss)(g:t∈ss) :
  Calls hE 86 #[.string t,v] w fun e w'=>e=.returned (.int .u64 ((aX ss t:Nat):Int))∧Below w.heap.size w w':=by
 have a:=BP v ss t w b d f g;have i:=zL ss t;go_enter Tryz.func86,Tryz.ntmps86
 go_wp2_with fail
 refine a.mono ?_
 clear a;rintro e j ⟨rfl,h⟩;go_wp2;go_ret
 exact⟨rfl,h⟩
end
end Go.Proofs.YtiamlbhkiehilaaGreatDoor
