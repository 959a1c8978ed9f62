import Derived.Test.YtiamlbhkiehilaaGreatDoorKa42
open Go renaming bodyPost_ret→IG,results→Jl
open Go.Proofs.Tryz renaming prog→hE,results42→Lb
open List renaming length_take→Ji
open Nat renaming le_refl→gO,lt_of_lt_of_le→A2
namespace Go.Proofs.YtiamlbhkiehilaaGreatDoor
set_option maxHeartbeats 4000000
section
open Go.RowKit Go.Maps
structure RInv(w wr:World)(fs:List Fct)(n:Nat)(acc:ByteArray):Prop where
 le:n≤fs.length
 few:n≤120
 short:acc.size≤29*n
 rest:bK (fs.take n) (fs.drop n) acc.data.toList=bK [] fs []
 res:wr.heap[w.heap.size]?=some (.cells #[.int .i64 0,.int .i64 0] 27 (0,0))
 blw:Below w.heap.size w wr
def capOf:Value→Nat
 | .slice _ _ c=>c
 |_=>0
theorem FX{k:Int}{p q:ByteArray}(a:dX k p q=false):bP p.data.toList=false∨(bP p.data.toList=true∧bP q.data.toList=false)∨(bP p.data.toList=true∧bP q.data.toList=true∧k<1)∨(bP p.data.toList=true∧bP q.data.toList=true∧1≤k∧4<k):=by
 unfold dX at a;cases b:bP p.data.toList
 ·exact .inl rfl
 ·cases c:bP q.data.toList
  ·exact .inr (.inl ⟨rfl,rfl⟩)
  ·simp[b,c]at a;by_cases d:k<1
   ·exact .inr (.inr (.inl ⟨rfl,rfl,d⟩))
   ·exact .inr (.inr (.inr ⟨rfl,rfl,by omega,a (by omega)⟩))
theorem D8{k:Int}{p q:ByteArray}(a:dX k p q=true):bP p.data.toList=true∧bP q.data.toList=true∧1≤k∧k≤4:=by simp only[dX,Bool.and_eq_true,decide_eq_true_eq]at a;exact⟨a.2.1,a.2.2,a.1.1,a.1.2⟩
theorem RInv.next{w wr b:World}{a:List Fct}{n:Nat}{d:ByteArray}{k:Int}{p q:ByteArray}(h:RInv w wr a n d)(c:a[n]?=some ⟨k,p,q⟩)(r:dX k p q=true)(g:cH (a.take n) ⟨k,p,q⟩=0)
  (i:b.heap[w.heap.size]?=some (.cells #[.int .i64 0,.int .i64 0] 27 (0,0))) (s:Below w.heap.size w b) (j:ByteArray) (t:j=d++fR k p q) (l:World) (m:Below b.heap.size b l):RInv w l a (n+1) j:=by
 have u:=aK c;have x:(a.take n).length=n:=by rw[Ji];omega
 obtain⟨y,z,o⟩:=mU g;rw[x]at o;simp only at y z;have A:=aB i;subst t;refine⟨u,o,?_,?_,Below.fj m i A,s.trans (m.mono (by omega))⟩
 ·have B:=oZ k p q;have C:=h.short;rw[ByteArray.size_append];omega
 ·have e:=h.rest;rw[cR c,tS (f:=⟨k,p,q⟩) r g,← bG c]at e;rw[← e];simp
theorem Iq(a p q:ByteArray):a++⟨#[]⟩++p++⟨#[32,61,32]⟩++⟨#[38]⟩++q++⟨#[10]⟩=a++fR 1 p q:=fM (by simp[fR])
theorem Ir(a p q:ByteArray):a++⟨#[]⟩++p++⟨#[32,61,32]⟩++⟨#[]⟩++q++⟨#[10]⟩=a++fR 2 p q:=fM (by simp[fR])
theorem Is(a p q:ByteArray):a++⟨#[]⟩++p++⟨#[32,61,32]⟩++⟨#[42]⟩++q++⟨#[10]⟩=a++fR 3 p q:=fM (by simp[fR])
theorem Iu(a p q:ByteArray):a++⟨#[42]⟩++p++⟨#[32,61,32]⟩++⟨#[]⟩++q++⟨#[10]⟩=a++fR 4 p q:=fM (by simp[fR])
theorem fG.take{b c:Nat}{d:List Fct}{w:World}(h:fG b c d w)(n:Nat):fG b c (d.take n) w:=by
 intro i k p q a;refine h i k p q ?_
 rw[List.getElem?_take]at a;split at a
 ·exact a
 ·simp at a
set_option maxRecDepth 100000 in
theorem AG(b E cap:Nat)(c:List Fct)(w:World)(a1:c.length≤maxLen)(hc:c.length≤cap)(a9:cap≤maxLen)(hf:fG b E c w)(M:b<w.heap.size)(aa:qA c) :
  Calls hE 42 #[.slice (some ⟨b,E,none⟩) c.length cap] w fun e w'=>e=.returned (.tuple #[.string ⟨(bK [] c []).1.toArray⟩,.agg #[.int .i64 (bK [] c []).2.1,.int .i64 (bK [] c []).2.2]])∧Below w.heap.size w w':=by
 have ab:=a1;unfold maxLen at a1 a9;go_enter Tryz.func42,Tryz.ntmps42
 go_wp2_with fail
 go_loopw [4,5] (fun ad i wr=>∃n s,i=.int .i64 (n:Nat)∧ad=.string s∧RInv w wr c n s) (fun _ i _=>c.length-(intOf i).toNat)
 case atStart=>exact⟨0,ByteArray.empty,rfl,rfl,Nat.zero_le _,Nat.zero_le _,gO _,rfl,aD _ _,(Below.refl _ _).alloc (gO _) _⟩
 case round=>
  obtain⟨n,s,rfl,rfl,l⟩:=hrel;have F:=l.blw;have j:=l.res;have ai:=aB j;by_cases a2:n<c.length
  ·obtain⟨⟨k,p,q⟩,N⟩:∃f,c[n]?=some f:=⟨_,List.getElem?_eq_getElem a2⟩;have O:Hid (c[n]?=some ⟨k,p,q⟩):=N;obtain⟨R,S,T⟩:=(hf.below l.blw M) n k p q N;obtain⟨G,H⟩:=aa _ (List.mem_of_getElem? N);simp only at G H;clear N;have a3:(c.take n).length=n:=by rw[Ji];omega
   have y:=aA a3;clear a3;cases B:dX k p q
   ·have z:Hid (bK [] c []=([],4,(n:Int)+1)):=by
     have e:=l.rest;rw[cR O.out,pX (f:=⟨k,p,q⟩) B,y.out]at e;exact e.symm
    have ae:=FX B;clear B l;rcases ae with m|⟨m,o⟩|⟨m,o,U⟩|⟨m,o,U,h4⟩
    ·have I:=aA m;clear m;cases o:bP q.data.toList;all_goals
      have J:=aA o;clear o;go_wp2_with fail
      refine(bM _ _ G).mono ?_
      rintro e a ⟨rfl,rfl⟩;rw[I.out];go_wp2_with fail
      refine(bM _ _ H).mono ?_
      rintro e w3 ⟨rfl,rfl⟩;rw[J.out];have h:=(Kb.refl [] wr).alloc (.cells #[.int .i64 k,.string p,.string q] 48);have d:=aD wr (.cells #[.int .i64 k,.string p,.string q] 48);generalize wr.alloc (.cells #[.int .i64 k,.string p,.string q] 48)=a at h d ⊢;have g:=h.heap j (by simp);have r:=F.trans (h.below (B:=w.heap.size) (by omega) (by simp));have V:a.cell? ⟨wr.heap.size,0,none⟩=some (.int .i64 k):=by rw[aC d];rfl
      have X:a.cell? ⟨wr.heap.size,1,none⟩=some (.string p):=by rw[aC d];rfl
      have Y:a.cell? ⟨wr.heap.size,2,none⟩=some (.string q):=by rw[aC d];rfl
      have t:a.cell? ⟨w.heap.size,0,none⟩=some (.int .i64 0):=by rw[aC g];rfl
      have u:a.cell? ⟨w.heap.size,1,none⟩=some (.int .i64 0):=by rw[aC g];rfl
      have K:a.frozen? ⟨w.heap.size,0,none⟩=false:=aE g _;have L:a.frozen? ⟨w.heap.size,1,none⟩=false:=aE g _;clear d h g j R S T;go_wp2;refine IG (v:=.tuple #[.string ⟨#[]⟩,.agg #[.int .i64 4,.int .i64 ((n:Int)+1)]]) (by simp[Jl,Lb,go_sem,t,u]) rfl ⟨by rw[z.out],?_⟩;exact(r.setCell (p:=⟨w.heap.size,0,none⟩) (gO _) _).setCell (p:=⟨w.heap.size,1,none⟩) (gO _) _
    all_goals
     have I:=aA m;have J:=aA o;clear m o;go_wp2_with fail
     refine(bM _ _ G).mono ?_
     rintro e a ⟨rfl,rfl⟩;rw[I.out];go_wp2_with fail
     refine(bM _ _ H).mono ?_
     rintro e w3 ⟨rfl,rfl⟩;rw[J.out];have h:=(Kb.refl [] wr).alloc (.cells #[.int .i64 k,.string p,.string q] 48);have d:=aD wr (.cells #[.int .i64 k,.string p,.string q] 48);generalize wr.alloc (.cells #[.int .i64 k,.string p,.string q] 48)=a at h d ⊢;have g:=h.heap j (by simp);have r:=F.trans (h.below (B:=w.heap.size) (by omega) (by simp));have V:a.cell? ⟨wr.heap.size,0,none⟩=some (.int .i64 k):=by rw[aC d];rfl
     have X:a.cell? ⟨wr.heap.size,1,none⟩=some (.string p):=by rw[aC d];rfl
     have Y:a.cell? ⟨wr.heap.size,2,none⟩=some (.string q):=by rw[aC d];rfl
     have t:a.cell? ⟨w.heap.size,0,none⟩=some (.int .i64 0):=by rw[aC g];rfl
     have u:a.cell? ⟨w.heap.size,1,none⟩=some (.int .i64 0):=by rw[aC g];rfl
     have K:a.frozen? ⟨w.heap.size,0,none⟩=false:=aE g _;have L:a.frozen? ⟨w.heap.size,1,none⟩=false:=aE g _;clear d h g j R S T;go_wp2;refine IG (v:=.tuple #[.string ⟨#[]⟩,.agg #[.int .i64 4,.int .i64 ((n:Int)+1)]]) (by simp[Jl,Lb,go_sem,t,u]) rfl ⟨by rw[z.out],?_⟩;exact(r.setCell (p:=⟨w.heap.size,0,none⟩) (gO _) _).setCell (p:=⟨w.heap.size,1,none⟩) (gO _) _
   ·obtain⟨m,o,U,h4⟩:=D8 B;have I:=aA m;have J:=aA o;have Z:=aA B;clear m o B;go_wp2_with fail
    refine(bM _ _ G).mono ?_
    rintro e a ⟨rfl,rfl⟩;rw[I.out];go_wp2_with fail
    refine(bM _ _ H).mono ?_
    rintro e w3 ⟨rfl,rfl⟩;rw[J.out];have h:=(Kb.refl [] wr).alloc (.cells #[.int .i64 k,.string p,.string q] 48);have d:=aD wr (.cells #[.int .i64 k,.string p,.string q] 48);generalize wr.alloc (.cells #[.int .i64 k,.string p,.string q] 48)=a at h d ⊢;have g:=h.heap j (by simp);have r:=F.trans (h.below (B:=w.heap.size) (by omega) (by simp));have V:a.cell? ⟨wr.heap.size,0,none⟩=some (.int .i64 k):=by rw[aC d];rfl
    have X:a.cell? ⟨wr.heap.size,1,none⟩=some (.string p):=by rw[aC d];rfl
    have Y:a.cell? ⟨wr.heap.size,2,none⟩=some (.string q):=by rw[aC d];rfl
    have t:a.cell? ⟨w.heap.size,0,none⟩=some (.int .i64 0):=by rw[aC g];rfl
    have u:a.cell? ⟨w.heap.size,1,none⟩=some (.int .i64 0):=by rw[aC g];rfl
    have K:a.frozen? ⟨w.heap.size,0,none⟩=false:=aE g _;have L:a.frozen? ⟨w.heap.size,1,none⟩=false:=aE g _;have a5:=aA (fun w' (a6:Below a.heap.size a w')=>wS (.slice (some ⟨b,E,none⟩) n cap) (c.take n) k p q w' (by rw[y.out];exact Nat.le_trans (Nat.le_of_lt a2) ab) ⟨some ⟨b,E,none⟩,cap,by rw[y.out],by rw[y.out];omega,(fun e=>by cases e),fun _=>⟨b,E,rfl,A2 (A2 M r.size) a6.size,((hf.below r M).below (a6.mono r.size) M).take n⟩⟩ G H);have aj:(n:Int)≤(cap:Int):=by omega
    have af:=aB d;go_wp2_with fail
    go_region_with (go_at_call 52;refine((iX a5) a.drew (Below.refl _ _).drew).mono ?_;rintro e x ⟨rfl,a7⟩)
    all_goals
     have P:Below a.heap.size a x:=(Below.refl _ _).drew.trans a7;have C:=Below.fj P d af;have A:=Below.fj P g (by omega);have a0:=r.trans (P.mono r.size);have ak:=aB C;have V:x.cell? ⟨wr.heap.size,0,none⟩=some (.int .i64 k):=by rw[aC C];rfl
     have X:x.cell? ⟨wr.heap.size,1,none⟩=some (.string p):=by rw[aC C];rfl
     have Y:x.cell? ⟨wr.heap.size,2,none⟩=some (.string q):=by rw[aC C];rfl
     have t:x.cell? ⟨w.heap.size,0,none⟩=some (.int .i64 0):=by rw[aC A];rfl
     have u:x.cell? ⟨w.heap.size,1,none⟩=some (.int .i64 0):=by rw[aC A];rfl
     have K:x.frozen? ⟨w.heap.size,0,none⟩=false:=aE A _;have L:x.frozen? ⟨w.heap.size,1,none⟩=false:=aE A _;clear a7 P a5 g r h j F R S T d;by_cases D:cH (c.take n) ⟨k,p,q⟩=0
     ·have Q:=aA D;rw[Q.out];clear D;obtain⟨s1,s2,s3⟩:=mU Q.out;simp only at s1 s2;rw[y.out]at s3;have al:=l.short;have ag:=aA (l.next O.out Z.out Q.out A a0);clear l A a0 C t u K L O Z Q y;have ah:k=1∨k=2∨k=3∨k=4:=by omega
      clear U h4;rcases ah with rfl|rfl|rfl|rfl
      all_goals
       go_wp2;go_roundw
       case rel=>
        refine⟨n+1,_,by go_num,rfl,(iX ag) _ ?_ _ ?_⟩
        ·first|exact Iq s p q|exact Ir s p q|exact Is s p q|exact Iu s p q
        ·exact((Below.refl _ _).alloc (gO _) _).alloc (by simp) _
       case measure=>simp[intOf];omega
     ·have z:Hid (bK [] c []=([],cH (c.take n) ⟨k,p,q⟩,(n:Int)+1)):=by
       have e:=l.rest;rw[cR O.out,rR (f:=⟨k,p,q⟩) Z.out rfl D,y.out]at e;exact e.symm
      generalize cH (c.take n) ⟨k,p,q⟩=a8 at z D ⊢;have hx:(a8 != 0)=true:=bne_iff_ne.2 D;clear D A C;go_wp2;refine IG (v:=.tuple #[.string ⟨#[]⟩,.agg #[.int .i64 a8,.int .i64 ((n:Int)+1)]]) (by simp[Jl,Lb,go_sem,t,u]) rfl ⟨by rw[z.out],?_⟩;exact(a0.setCell (p:=⟨w.heap.size,0,none⟩) (gO _) _).setCell (p:=⟨w.heap.size,1,none⟩) (gO _) _
  ·have z:Hid (bK [] c []=(s.data.toList,0,0)):=by
    have e:=l.rest;rw[List.drop_of_length_le (by omega),rQ]at e;exact e.symm
   have t:wr.cell? ⟨w.heap.size,0,none⟩=some (.int .i64 0):=by rw[aC j];rfl
   have u:wr.cell? ⟨w.heap.size,1,none⟩=some (.int .i64 0):=by rw[aC j];rfl
   have K:wr.frozen? ⟨w.heap.size,0,none⟩=false:=aE j _;have L:wr.frozen? ⟨w.heap.size,1,none⟩=false:=aE j _;clear l j;go_wp2;refine IG (v:=.tuple #[.string s,.agg #[.int .i64 0,.int .i64 0]]) (by simp[Jl,Lb,go_sem,t,u]) rfl ⟨by rw[z.out],?_⟩;exact(F.setCell (p:=⟨w.heap.size,0,none⟩) (gO _) _).setCell (p:=⟨w.heap.size,1,none⟩) (gO _) _
theorem AH(ao:Option Addr)(cap:Nat)(w:World) :
  Calls hE 42 #[.slice ao 0 cap] w fun e w'=>e=.returned (.tuple #[.string ⟨#[]⟩,.agg #[.int .i64 0,.int .i64 0]])∧Below w.heap.size w w':=by
 go_enter Tryz.func42,Tryz.ntmps42
 go_wp2;refine wp_loop_rounds 1 ?_
 rw[rounds_succ];go_wp2;exact IG (v:=.tuple #[.string ⟨#[]⟩,.agg #[.int .i64 0,.int .i64 0]]) (by simp[Jl,Lb,go_sem]) rfl ⟨rfl,(Below.refl _ _).alloc (gO _) _⟩
theorem Ct(v:Value)(a:List Fct)(w:World)(i:capOf v≤maxLen)(j:cV v a w)(k:qA a) :
  Calls hE 42 #[v] w fun e w'=>e=.returned (.tuple #[.string ⟨(bK [] a []).1.toArray⟩,.agg #[.int .i64 (bK [] a []).2.1,.int .i64 (bK [] a []).2.2]])∧Below w.heap.size w w':=by
 obtain⟨l,c,rfl,d,_,h⟩:=j;have f:c≤maxLen:=i;by_cases g:a=[]
 ·subst g;exact AH l c w
 ·obtain⟨b,m,rfl,n,o⟩:=h g;exact AG b m c a w (Nat.le_trans d f) d f o n k
end
end Go.Proofs.YtiamlbhkiehilaaGreatDoor
