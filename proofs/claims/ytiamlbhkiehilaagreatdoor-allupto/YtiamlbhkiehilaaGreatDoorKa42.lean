import Derived.Test.YtiamlbhkiehilaaGreatDoorKa39
import Derived.Test.YtiamlbhkiehilaaGreatDoorKa13
open Go renaming ahead→JG,World→vF,Value→sA,maxLen→IU,Calls→I5,bodyPost_ret→IG,results→Jl
open Go.ByteArray renaming toList_eq→JV
open Go.Lib renaming IsBuilderF→J4,byteCells→Jj,strCells→Lo
open Go.Proofs.Tryz renaming prog→hE,results39→M9,func63→MJ,ntmps63→Mw,results34→LY
open Go.RowKit renaming Hid→I3
open Go.Value renaming ownBlock→Jh,bool→IY
open List renaming getElem?_eq_getElem→hZ,mem_of_getElem?→IJ,length_append→A4,take_of_length_le→I6,drop_of_length_le→Nu,mem_cons→sT,not_mem_nil→JT,getElem?_eq_some_iff→II,length_take→Ji,zipWith→J7,length_zipWith→K4,set_cons_zero→Jo,length_set→JD,getElem?_set_self→Kv,getElem?_set_ne→Jt,getElem?_map→Jx,getD_eq_getElem?_getD→E1,getElem?_of_mem→J6,map_cons→JX,sum_cons→Nl,length_cons→Jn,length_eq_zero_iff→LJ,getElem?_eq_none→Ja
open Nat renaming zero_le→IM,le_refl→gO
open Option renaming getD_some→Oa
open Option.some renaming inj→KY
namespace Go.Proofs.YtiamlbhkiehilaaGreatDoor
set_option maxRecDepth 100000
set_option maxHeartbeats 2000000
section
open Go.RowKit
theorem DR{JG:ByteArray}{i:Nat}{a:List UInt8}{r:RowD}{s:List RowD}(h:cE r JG=0):eD JG i a (r::s)=eD r.name (i+1) (a++jC r) s:=by simp[eD,h]
theorem uX{JG:ByteArray}{i:Nat}{a:List UInt8}{r:RowD}{s:List RowD}{e:Int}(h:cE r JG=e)(b:e≠0):eD JG i a (r::s)=([],e,(i:Int)+1):=by simp[eD,h,b]
theorem uY{JG:ByteArray}{i:Nat}{a:List UInt8}:eD JG i a []=if 25000<a.length then([],2,0)else(a,0,0):=by simp[eD]
structure TInv(w wr:World)(rs:List RowD)(n:Nat):Prop where
 le:n≤rs.length
 rest:eD (iQ (rs.take n)) n (aJ (rs.take n)) (rs.drop n)=eD ⟨#[]⟩ 0 [] rs
 res:wr.heap[w.heap.size]?=some (.cells #[.int .i64 0,.int .i64 0] 27 (0,0))
 blw:Below w.heap.size w wr
theorem TInv.next{w wr a:vF}{rs:List RowD}{n:Nat}{r:RowD}(h:TInv w wr rs n)(hr:rs[n]?=some r)(b:cE r (iQ (rs.take n))=0)(c:a.heap[w.heap.size]?=some (.cells #[.int .i64 0,.int .i64 0] 27 (0,0)))(d:Below w.heap.size w a):TInv w a rs (n+1):=by refine⟨bV hr,?_,c,d⟩;have e:=h.rest;rw[cR hr,DR b]at e;rw[bG hr,lB,gB];exact e
theorem DS(v:sA)(rs:List RowD)(w:vF)(U:rs.length≤IU)(V:dP v rs w)(X:fitsR rs)(ag:(aJ rs).length≤1000000000000) :
  I5 hE 39 #[v] w fun e w'=>e=.returned (.tuple #[.string ⟨(eD ⟨#[]⟩ 0 [] rs).1.toArray⟩,.agg #[.int .i64 (eD ⟨#[]⟩ 0 [] rs).2.1,.int .i64 (eD ⟨#[]⟩ 0 [] rs).2.2]])∧Below w.heap.size w w':=by
 have ah:=aA V;have ai:=U;obtain⟨ao,b1,aj,_,_,Y⟩:=V;subst aj;have ak:=aA Y;clear Y;unfold IU at U;go_enter Tryz.func39,Tryz.ntmps39
 go_wp2;go_loopw [4,5,11] (fun al am i wr=>∃n:Nat,i=.int .i64 n∧al=.int .i64 ((min (aJ (rs.take n)).length 25001:Nat):Int)∧am=.string (iQ (rs.take n))∧TInv w wr rs n) (fun _ _ i _=>rs.length-(intOf i).toNat)
 case atStart=>exact⟨0,rfl,rfl,rfl,IM _,rfl,aD _ _,(Below.refl _ _).alloc (gO _) _⟩
 case round=>
  obtain⟨n,rfl,rfl,rfl,k⟩:=hrel;have f:=k.blw;have d:=k.res;have b2:=aB d;by_cases an:n<rs.length
  ·obtain⟨⟨a,c⟩,hr⟩:∃ap,rs[n]?=some ap:=⟨_,hZ an⟩;obtain⟨b,Z,aq,a0,a1⟩:=ak.out (bT hr);subst aq;obtain⟨a2,tv,a3,a4⟩:=a1 n a c hr;have d0:=(f.cell (p:=⟨b,Z+n*2,none⟩) a0).trans a2;have d1:=(f.cell (p:=⟨b,Z+n*2+1,none⟩) a0).trans a3;clear a2 a3;have I:I3 (∀w',Below w.heap.size w w'→cY tv c w'):=fun w' ar=>a4.below ar
   obtain⟨o,q,au,_⟩:=a4;subst au;obtain⟨J,E,K⟩:=X _ (IJ hr);simp only at J E K;have L:=gB (rs.take n) ⟨a,c⟩;rw[← bG hr]at L;have hL:=lA (l:=rs) (k:=n+1);have a5:(aJ (rs.take (n+1))).length=(aJ (rs.take n)).length+(a.size+2+bB c):=by rw[L,A4,fK]
   have M:=lB (rs.take n) ⟨a,c⟩;rw[← bG hr]at M;have HR:=aA hr;have av:=aA a5;have aw:=aA M;have ax:a.size+2+bB c≤1000000000000:=by omega
   clear L hr a1 a5 M;generalize a6:iQ (rs.take n)=JG at *;have a7:=aA a6;clear a6;go_wp2_with fail
   have F:=(Kb.refl [] wr).alloc (.cells #[.string a,.slice o c.length q] 51);have r:=aD wr (.cells #[.string a,.slice o c.length q] 51);generalize wr.alloc (.cells #[.string a,.slice o c.length q] 51)=l at F r ⊢;have s:Below w.heap.size w l:=f.trans (F.below f.size (by simp));have N:=F.heap d (by simp);have a8:=aB r;have p0:l.cell? ⟨wr.heap.size,0,none⟩=some (.string a):=by rw[aC r];rfl
   have p1:l.cell? ⟨wr.heap.size,1,none⟩=some (.slice o c.length q):=by rw[aC r];rfl
   clear F d f d0 d1;go_region_with (first|(go_at_call 72;refine(yF a _ c _ J E (I.out _ s.drew) K).mono ?_;rintro e h ⟨rfl,t⟩;have y:Below l.heap.size l h:=(Below.refl _ _).drew.trans t;have O:=Below.fj y r a8;have P:h.cell? ⟨wr.heap.size,0,none⟩=some (.string a):=(by rw[aC O];rfl);have Q:h.cell? ⟨wr.heap.size,1,none⟩=some (.slice o c.length q):=(by rw[aC O];rfl))|(go_at_call 71;refine(rE a _ c _ JG _ J E (I.out _ (s.trans (y.mono s.size))) K).mono ?_;rintro e m ⟨rfl,a9⟩))
   all_goals
    have G:Below l.heap.size l m:=y.trans (a9.mono y.size);have u:=Below.fj G r a8;have z:=s.trans (G.mono s.size);have j:=Below.fj G N (aB N);have k0:m.cell? ⟨wr.heap.size,0,none⟩=some (.string a):=by rw[aC u];rfl
    have k1:m.cell? ⟨wr.heap.size,1,none⟩=some (.slice o c.length q):=by rw[aC u];rfl
    have A:m.cell? ⟨w.heap.size,0,none⟩=some (.int .i64 0):=by rw[aC j];rfl
    have B:m.cell? ⟨w.heap.size,1,none⟩=some (.int .i64 0):=by rw[aC j];rfl
    have R:m.frozen? ⟨w.heap.size,0,none⟩=false:=aE j _;have S:m.frozen? ⟨w.heap.size,1,none⟩=false:=aE j _;clear t y a9 G O P Q p0 p1 N s;rw[← Br];by_cases x:cE ⟨a,c⟩ JG=0
    ·have g:=aA x;rw[g.out];clear x;go_wp2_with fail
     refine(DO a _ c _ E (I.out _ z) ax).mono ?_
     rintro e w4 ⟨rfl,H⟩;have g4:=Below.fj H u (aB u);have ay:=z.trans (H.mono z.size);have aa:=Below.fj H j (aB j);have m0:w4.cell? ⟨wr.heap.size,0,none⟩=some (.string a):=by rw[aC g4];rfl
     have az:=k.next HR.out (by rw[a7.out];exact g.out) aa ay
     have ab:min (min (aJ (rs.take n)).length 25001+(a.size+2+bB c)) 25001=min (aJ (rs.take (n+1))).length 25001:=by rw[av.out];omega
     have aV:=aA ab;clear H u g4 j aa z k ab k0 k1 A B R S;generalize (aJ (rs.take n)).length=ad at *;have b5:min ad 25001≤25001:=Nat.min_le_right _ _;generalize min ad 25001=sz at *;generalize a.size+2+bB c=wd at *;go_wp2;go_roundw
     case rel=>exact⟨n+1,by go_num,congrArg (Value.int .i64) (by rw[← aV.out];omega),by rw[aw.out],az⟩
     case measure=>simp[intOf];omega
    ·have g:I3 (eD ⟨#[]⟩ 0 [] rs=([],cE ⟨a,c⟩ JG,(n:Int)+1)):=by
      have e:=k.rest;rw[cR HR.out,a7.out,uX rfl x]at e;exact e.symm
     generalize cE ⟨a,c⟩ JG=ae at g x ⊢;have hx:(ae != 0)=true:=bne_iff_ne.2 x;clear x j u;go_wp2;refine IG (v:=.tuple #[.string ⟨#[]⟩,.agg #[.int .i64 ae,.int .i64 ((n:Int)+1)]]) (by simp[Jl,M9,go_sem,A,B]) rfl ⟨by rw[g.out],?_⟩;exact(z.setCell (p:=⟨w.heap.size,0,none⟩) (gO _) _).setCell (p:=⟨w.heap.size,1,none⟩) (gO _) _
  ·have T:rs.take n=rs:=I6 (by omega);have e:=k.rest;rw[Nu (by omega),uY,T]at e;rw[T];have A:wr.cell? ⟨w.heap.size,0,none⟩=some (.int .i64 0):=by rw[aC d];rfl
   have B:wr.cell? ⟨w.heap.size,1,none⟩=some (.int .i64 0):=by rw[aC d];rfl
   have R:wr.frozen? ⟨w.heap.size,0,none⟩=false:=aE d _;have S:wr.frozen? ⟨w.heap.size,1,none⟩=false:=aE d _;clear k T;by_cases af:25000<(aJ rs).length
   ·rw[if_pos af]at e;have g:=aA e.symm;have C:min (aJ rs).length 25001=25001:=by omega
    rw[C];clear e C d;go_wp2;refine IG (v:=.tuple #[.string ⟨#[]⟩,.agg #[.int .i64 2,.int .i64 0]]) (by simp[Jl,M9,go_sem,A,B]) rfl ⟨by rw[g.out],?_⟩;exact(f.setCell (p:=⟨w.heap.size,0,none⟩) (gO _) _).setCell (p:=⟨w.heap.size,1,none⟩) (gO _) _
   ·rw[if_neg af]at e;have g:=aA e.symm;have C:min (aJ rs).length 25001=(aJ rs).length:=by omega
    rw[C];clear e C;have b6:((aJ rs).length:Int)≤25000:=by omega
    go_wp2_with fail
    refine(xB _ rs _ ai (ah.out.below f) X ag).mono ?_
    rintro e h ⟨rfl,t⟩;have D:=Below.fj t d (aB d);have b0:=f.trans (t.mono f.size);have P:h.cell? ⟨w.heap.size,0,none⟩=some (.int .i64 0):=by rw[aC D];rfl
    have Q:h.cell? ⟨w.heap.size,1,none⟩=some (.int .i64 0):=by rw[aC D];rfl
    have q2:h.frozen? ⟨w.heap.size,0,none⟩=false:=aE D _;have q3:h.frozen? ⟨w.heap.size,1,none⟩=false:=aE D _;clear t d D f A B R S;go_wp2;refine IG (v:=.tuple #[.string ⟨(aJ rs).toArray⟩,.agg #[.int .i64 0,.int .i64 0]]) (by simp[Jl,M9,go_sem,P,Q]) rfl ⟨by rw[g.out],?_⟩;exact(b0.setCell (p:=⟨w.heap.size,0,none⟩) (gO _) _).setCell (p:=⟨w.heap.size,1,none⟩) (gO _) _
theorem DT(v:sA)(rs:List RowD)(w:vF)(h:rs.length≤IU)(i:dP v rs w)(j:fitsR rs)(k:(aJ rs).length≤1000000000000) :
  I5 hE 26 #[v] w fun e w'=>e=.returned (.tuple #[.string ⟨(eD ⟨#[]⟩ 0 [] rs).1.toArray⟩,.agg #[.int .i64 (eD ⟨#[]⟩ 0 [] rs).2.1,.int .i64 (eD ⟨#[]⟩ 0 [] rs).2.2]])∧Below w.heap.size w w':=by
 have f:Below w.heap.size w (w.alloc (.cells #[.int .i64 0,.int .i64 0] 27)):=(Below.refl _ _).alloc (gO _) _;have c:=DS v rs _ h (i.below f) j k;generalize eD ⟨#[]⟩ 0 [] rs=R at c ⊢;have g:I3 (I5 _ _ _ _ _):=c;clear c;go_enter Tryz.func26,Tryz.ntmps26
 go_wp2_with fail
 refine(g.out).mono ?_
 rintro e a ⟨rfl,d⟩;have b:a.heap[w.heap.size]?=some (.cells #[.int .i64 0,.int .i64 0] 27 (0,0)):=Below.fj d (aD _ _) (by simp);have l:a.cell? ⟨w.heap.size,0,none⟩=some (.int .i64 0):=by rw[aC b];rfl
 have m:a.cell? ⟨w.heap.size,1,none⟩=some (.int .i64 0):=by rw[aC b];rfl
 have o:a.frozen? ⟨w.heap.size,0,none⟩=false:=aE b _;have q:a.frozen? ⟨w.heap.size,1,none⟩=false:=aE b _;have n:Below w.heap.size w a:=f.trans (d.mono (by simp));clear d b g;go_wp2;refine IG (v:=.tuple #[.string ⟨R.1.toArray⟩,.agg #[.int .i64 R.2.1,.int .i64 R.2.2]]) (by simp[Jl,Tryz.results26,go_sem,l,m]) rfl ⟨rfl,?_⟩;exact(n.setCell (p:=⟨w.heap.size,0,none⟩) (gO _) _).setCell (p:=⟨w.heap.size,1,none⟩) (gO _) _
theorem B6(k:Int)(p q:ByteArray)(w:vF)(f:p.size≤IU)(i:q.size≤IU) :
  I5 hE 63 #[.agg #[.int .i64 k,.string p,.string q]] w fun e w'=>e=.returned (.bool (dX k p q))∧Below w.heap.size w w':=by
 have c:∀o,Below w.heap.size w (w.alloc o):=fun o=>(Below.refl _ _).alloc (gO _) o
 by_cases g:1≤k
 ·by_cases h:k≤4
  ·cases b:bP p.data.toList
   ·have d:I3 (bP p.data.toList=false):=b;have a:I3 (dX k p q=false):=by simp[dX,b,I3]
    clear b;go_enter MJ,Mw
    go_wp2_with (go_at_call 95;refine(iG _ _ f).mono ?_;rintro e w' ⟨rfl,rfl⟩;rw[d.out])
    go_ret
    exact⟨by rw[a.out];rfl,c _⟩
   ·have d:I3 (bP p.data.toList=true):=b;have a:I3 (dX k p q=bP q.data.toList):=by simp[dX,b,I3,g,h]
    clear b;go_enter MJ,Mw
    go_wp2_with fail
    refine(iG _ _ f).mono ?_;rintro e w' ⟨rfl,rfl⟩;rw[d.out];go_wp2_with fail
    refine(iG _ _ i).mono ?_;rintro e w' ⟨rfl,rfl⟩;go_wp2;go_ret
    exact⟨by rw[a.out];rfl,c _⟩
  ·have a:I3 (dX k p q=false):=by simp[dX,h,I3]
   go_enter MJ,Mw
   go_wp2;go_ret
   exact⟨by rw[a.out];rfl,c _⟩
 ·have a:I3 (dX k p q=false):=by simp[dX,g,I3]
  go_enter MJ,Mw
  go_wp2;go_ret
  exact⟨by rw[a.out];rfl,c _⟩
theorem GH{a b:ByteArray}(h:a=b):Ending.returned (.string a)=.returned (.string b):=by rw[h]
theorem vV(k:Int)(p q:ByteArray)(w:vF)(a:p.size≤12)(b:q.size≤12) :
  I5 hE 66 #[.agg #[.int .i64 k,.string p,.string q]] w fun e w'=>e=.returned (.string (fR k p q))∧Below w.heap.size w w':=by
 go_enter Tryz.func66,Tryz.ntmps66
 go_wp2;all_goals
  go_ret
  refine⟨GH ?_,(Below.refl _ _).alloc (gO _) _⟩;simp_all[fR]
end
section
open Go.RowKit Go.Maps
theorem nm2{x a b:Nat}(h1:x≠a)(h2:x≠b):x ∉ [a,b]:=by simp[h1,h2]
structure PInv(w wr:World)(fs:List Fct)(n:Nat)(acc:List UInt8):Prop where
 le:n≤fs.length
 few:n≤120
 short:acc.length≤29*n
 rest:bK (fs.take n) (fs.drop n) acc=bK [] fs []
 res:wr.heap[w.heap.size]?=some (.cells #[.int .i64 0,.int .i64 0] 27 (0,0))
 bld:Lib.IsBuilderF 118 5 w.heap.size (w.heap.size+1) (Lib.byteCells acc) wr
 tal:eI (w.heap.size+1+1+1) (w.heap.size+1+1) n (2*n) (fJ (fs.take n)) wr
 blw:Below w.heap.size w wr
theorem PInv.start(w:vF)(a:List Fct) :
  PInv w ((((w.alloc (.cells #[.int .i64 0,.int .i64 0] 27)).alloc (.cells #[.pointer none,.slice none 0 0] 118)).alloc (.map #[] 0)).alloc (.cells #[.int .i64 0,.map (some (w.heap.size+1+1))] 158)) a 0 []:=by
 have b:(w.alloc (.cells #[.int .i64 0,.int .i64 0] 27)).heap.size=w.heap.size+1:=by simp
 have c:((w.alloc (.cells #[.int .i64 0,.int .i64 0] 27)).alloc (.cells #[.pointer none,.slice none 0 0] 118)).heap.size=w.heap.size+1+1:=by simp
 have d:(((w.alloc (.cells #[.int .i64 0,.int .i64 0] 27)).alloc (.cells #[.pointer none,.slice none 0 0] 118)).alloc (.map #[] 0)).heap.size=w.heap.size+1+1+1:=by simp
 refine⟨IM _,IM _,gO _,rfl,?_,?_,⟨?_,?_⟩,?_⟩
 ·exact aF (aF (aF (aD w _) _) _) _
 ·refine .inl ⟨Nat.le_succ _,.slice none 0 0,?_,World.ownsRowF_nil _ _ _ _,by simp[Jh]⟩;have:=aD (w.alloc (.cells #[.int .i64 0,.int .i64 0] 27)) (.cells #[.pointer none,.slice none 0 0] 118);rw[b]at this;exact aF (aF this _) _
 ·have:=aD (((w.alloc (.cells #[.int .i64 0,.int .i64 0] 27)).alloc (.cells #[.pointer none,.slice none 0 0] 118)).alloc (.map #[] 0)) (.cells #[.int .i64 0,.map (some (w.heap.size+1+1))] 158);rw[d]at this;exact this
 ·have:=World.ownsMap_made (H:=Unit) ((w.alloc (.cells #[.int .i64 0,.int .i64 0] 27)).alloc (.cells #[.pointer none,.slice none 0 0] 118)) hE 9 (unitElem (H:=Unit));rw[c]at this;exact Kb.ownsMap (l:=[]) ((Kb.refl _ _).alloc _) this (by simp)
 ·exact((((Below.refl _ _).alloc (gO _) _).alloc (by simp) _).alloc (by simp;omega) _).alloc (by simp;omega) _
theorem PInv.kept{w wr b:vF}{c:List Fct}{n:Nat}{d:List UInt8}(h:PInv w wr c n d)(a:Kb [] wr b):PInv w b c n d:=
 ⟨h.le,h.few,h.short,h.rest,a.heap h.res (by simp),a.builder h.bld (by simp) (by simp),⟨a.heap h.tal.1 (by simp),a.ownsMap h.tal.2 (by simp)⟩,
  h.blw.trans (a.below (by have:=aB h.res;omega) (by simp))⟩
theorem mU{pre:List Fct}{f:Fct}(h:cH pre f=0):f.p.size≤12∧f.q.size≤12∧pre.length<120:=by
 by_cases a:12<f.p.size∨12<f.q.size
 ·rw[jQ a]at h;cases h
 ·by_cases b:120≤pre.length
  ·rw[jR a b]at h;cases h
  ·omega
theorem PInv.mid{w d e b:vF}{k:List Fct}{n:Nat}{f:List UInt8}(h:PInv w d k n f)(g:Kb [w.heap.size+1+1+1,w.heap.size+1+1] d e)(i:Kb [] e b) :
  J4 118 5 w.heap.size (w.heap.size+1) (Jj f) b∧w.heap.size≤b.heap.size:=by
 refine⟨i.builder (g.builder h.bld (nm2 (by omega) (by omega)) ?_) (by simp) (by simp),?_⟩
 ·intro x j c m a;simp only[sT,JT,or_false]at j;rcases j with rfl|rfl
  ·rw[h.tal.1]at a;cases a
  ·obtain⟨o,p,l,_⟩:=h.tal.2;rw[l]at a;cases a
 ·have:=aB h.res;have:=g.size;have:=i.size;omega
theorem PInv.next{w s j l d:vF}{a:List Fct}{n:Nat}{b:List UInt8}{k:Int}{p q:ByteArray}(h:PInv w s a n b)(g:a[n]?=some ⟨k,p,q⟩)(z:dX k p q=true)(t:cH (a.take n) ⟨k,p,q⟩=0)
  (m:Kb [w.heap.size+1+1+1,w.heap.size+1+1] s j) (o:eI (w.heap.size+1+1+1) (w.heap.size+1+1) ((a.take n).length+1) (2*((a.take n).length+1)) (fJ (a.take n++[⟨k,p,q⟩])) j)
  (i:Kb [] j l) (A:J4 118 5 w.heap.size (w.heap.size+1) (Jj b++Lo (fR k p q)) d) (B:Below w.heap.size l d) (r:Lib.OthersKept 5 (some (w.heap.size+1)) l d) :
  PInv w d a (n+1) (b++(fR k p q).data.toList):=by
 have C:=(II.1 g).1;have u:(a.take n).length=n:=by rw[Ji];have:=h.le;omega
 rw[u,← bG g]at o;obtain⟨D,E,y⟩:=mU t;rw[u]at y;simp only at D E;refine⟨C,y,?_,?_,?_,?_,⟨?_,?_⟩,?_⟩
 ·have I:=oZ k p q;have F:(fR k p q).data.toList.length=(fR k p q).size:=Array.length_toList;have J:=h.short;rw[A4,F];omega
 ·have e:=h.rest;rw[cR g,tS (f:=⟨k,p,q⟩) z t,← bG g]at e;exact e
 ·exact r _ _ (i.heap (m.heap h.res (nm2 (by omega) (by omega))) (by simp)) (by intro e;injection e;omega) (by intro c G e;cases e)
 ·have e:Jj (b++(fR k p q).data.toList)=Jj b++Lo (fR k p q):=by simp[Jj,Lo]
  rw[e];exact A
 ·exact r _ _ (i.heap o.1 (by simp)) (by intro e;injection e;omega) (by intro c G e;cases e)
 ·exact tJ r (i.ownsMap o.2 (by simp)) (by intro e;injection e;omega)
 ·have K:=aB h.res;have L:=m.size;refine((h.blw.trans (m.below (by omega) ?_)).trans (i.below (by omega) (by simp))).trans B;intro x H;simp only[sT,JT,or_false]at H;omega
theorem Au(b K cap:Nat)(a:List Fct)(w:vF)(a1:a.length≤IU)(hf:fG b K a w)(hb:b<w.heap.size)(a2:qA a) :
  I5 hE 34 #[.slice (some ⟨b,K,none⟩) a.length cap] w fun e w'=>e=.returned (.tuple #[.string ⟨(bK [] a []).1.toArray⟩,.agg #[.int .i64 (bK [] a []).2.1,.int .i64 (bK [] a []).2.2]])∧Below w.heap.size w w':=by
 unfold IU at a1;go_enter Tryz.func34,Tryz.ntmps34
 go_wp2_with fail
 refine(mJ _).mono ?_
 rintro e w1 ⟨rfl,rfl⟩;go_wp2_with fail
 go_loopw [12] (fun i wr=>∃n j,i=.int .i64 (n:Nat)∧PInv w wr a n j) (fun i _=>a.length-(intOf i).toNat)
 case atStart=>exact⟨0,[],rfl,PInv.start w a⟩
 case round=>
  obtain⟨n,j,rfl,l⟩:=hrel;by_cases a3:n<a.length
  ·obtain⟨⟨k,p,q⟩,y⟩:∃f,a[n]?=some f:=⟨_,hZ a3⟩;have E:I3 (a[n]?=some ⟨k,p,q⟩):=y;obtain⟨d0,d1,d2⟩:=(hf.below l.blw hb) n k p q y;obtain⟨F,G⟩:=a2 _ (IJ y);simp only at F G;clear y;go_wp2_with fail
   refine(B6 k p q _ F G).mono ?_
   rintro e d ⟨rfl,s⟩;have L:Kb [] wr d:=((Kb.refl _ _).alloc _).trans (Kb.gi s []);have c:=l.kept L;have g:d.heap[wr.heap.size]?=some (.cells #[.int .i64 k,.string p,.string q] 48 (0,0)):=Below.fj s (aD _ _) (by simp);have g1:d.cell? ⟨wr.heap.size,0,none⟩=some (.int .i64 k):=by rw[aC g];rfl
   have g2:d.cell? ⟨wr.heap.size,1,none⟩=some (.string p):=by rw[aC g];rfl
   have g3:d.cell? ⟨wr.heap.size,2,none⟩=some (.string q):=by rw[aC g];rfl
   have z:d.cell? ⟨w.heap.size,0,none⟩=some (.int .i64 0):=by rw[aC c.res];rfl
   have A:d.cell? ⟨w.heap.size,1,none⟩=some (.int .i64 0):=by rw[aC c.res];rfl
   have M:d.frozen? ⟨w.heap.size,0,none⟩=false:=aE c.res _;have N:d.frozen? ⟨w.heap.size,1,none⟩=false:=aE c.res _;have a9:=aB l.tal.1;clear s d0 d1 d2 l L;cases B:dX k p q
   ·have r:I3 (bK [] a []=([],4,(n:Int)+1)):=by
     have e:=c.rest;rw[cR E.out,pX (f:=⟨k,p,q⟩) B,Ji,Nat.min_eq_left (by omega)]at e;exact e.symm
    clear B;have t:=c.blw;clear c;go_wp2;refine IG (v:=.tuple #[.string ⟨#[]⟩,.agg #[.int .i64 4,.int .i64 ((n:Int)+1)]]) (by simp[Jl,LY,go_sem,z,A]) rfl ⟨by rw[r.out],?_⟩;exact(t.setCell (p:=⟨w.heap.size,0,none⟩) (gO _) _).setCell (p:=⟨w.heap.size,1,none⟩) (gO _) _
   ·have O:I3 (dX k p q=true):=B;clear B;go_wp2_with fail
    have P:(a.take n).length=n:=by rw[Ji];omega
    have Q:=c.tal;have aa:=c.few;refine(CO (w.heap.size+1+1+1) (w.heap.size+1+1) (a.take n) k p q _ (by omega) F G (by rw[P];exact Q)).mono ?_
    rintro e h ⟨rfl,o,H⟩;clear Q;have a4:=aB c.tal.1;have ab:=aB g;have C:h.heap[wr.heap.size]?=some (.cells #[.int .i64 k,.string p,.string q] 48 (0,0)):=o.heap g (nm2 (by omega) (by omega));have u:h.heap[w.heap.size]?=some (.cells #[.int .i64 0,.int .i64 0] 27 (0,0)):=o.heap c.res (nm2 (by omega) (by omega));have k1:h.cell? ⟨wr.heap.size,0,none⟩=some (.int .i64 k):=by rw[aC C];rfl
    have k2:h.cell? ⟨wr.heap.size,1,none⟩=some (.string p):=by rw[aC C];rfl
    have k3:h.cell? ⟨wr.heap.size,2,none⟩=some (.string q):=by rw[aC C];rfl
    have q0:h.cell? ⟨w.heap.size,0,none⟩=some (.int .i64 0):=by rw[aC u];rfl
    have q1:h.cell? ⟨w.heap.size,1,none⟩=some (.int .i64 0):=by rw[aC u];rfl
    have q2:h.frozen? ⟨w.heap.size,0,none⟩=false:=aE u _;have q3:h.frozen? ⟨w.heap.size,1,none⟩=false:=aE u _;clear C u g g1 g2 g3 z A M N;by_cases m:cH (a.take n) ⟨k,p,q⟩=0
    ·have R:=H m;obtain⟨S,T,_⟩:=mU m;simp only at S T;have U:I3 (cH (a.take n) ⟨k,p,q⟩=0):=m;rw[U.out];clear m H;go_wp2_with fail
     refine(vV k p q _ S T).mono ?_
     rintro e w4 ⟨rfl,a5⟩;have I:Kb [] h w4:=Kb.gi a5 [];obtain⟨D,a6⟩:=c.mid o I;have ad:=c.short;have ae:=oZ k p q;have af:(Jj j).length=j.length:=Lib.byteCells_length j;go_wp2_with fail
     refine(eK w.heap.size (w.heap.size+1) (Jj j) (fR k p q) _ D (by omega) a6).mono ?_
     rintro e w5 ⟨rfl,V,X,Y⟩;have a7:=c.next E.out O.out U.out o R I V X Y
     clear c o R I V X Y D;go_wp2;go_roundw
     case rel=>exact⟨n+1,_,by go_num,a7⟩
     case measure=>simp[intOf];omega
    ·have r:I3 (bK [] a []=([],cH (a.take n) ⟨k,p,q⟩,(n:Int)+1)):=by
      have e:=c.rest;rw[cR E.out,rR (f:=⟨k,p,q⟩) O.out rfl m,P]at e;exact e.symm
     have t:=c.blw.trans (o.below (B:=w.heap.size) (by omega) (by intro x Z;simp only[sT,JT,or_false]at Z;omega));clear c o H;generalize cH (a.take n) ⟨k,p,q⟩=x at r m ⊢;have Z:(x != 0)=true:=bne_iff_ne.2 m;clear m;go_wp2;refine IG (v:=.tuple #[.string ⟨#[]⟩,.agg #[.int .i64 x,.int .i64 ((n:Int)+1)]]) (by simp[Jl,LY,go_sem,q0,q1]) rfl ⟨by rw[r.out],?_⟩;exact(t.setCell (p:=⟨w.heap.size,0,none⟩) (gO _) _).setCell (p:=⟨w.heap.size,1,none⟩) (gO _) _
  ·have r:I3 (bK [] a []=(j,0,0)):=by
    have e:=l.rest;rw[Nu (by omega),rQ]at e;exact e.symm
   have J:=l.res;have t:=l.blw;have D:=l.bld;have a4:=aB J;clear l;go_wp2_with fail
   refine(iA w.heap.size (w.heap.size+1) j _ D (by omega)).mono ?_
   rintro e d ⟨rfl,s,a8,a0⟩;have g:d.heap[w.heap.size]?=some (.cells #[.int .i64 0,.int .i64 0] 27 (0,0)):=a0 _ _ J (by intro e;injection e;omega) (by intro ah fz e;cases e);have z:d.cell? ⟨w.heap.size,0,none⟩=some (.int .i64 0):=by rw[aC g];rfl
   have A:d.cell? ⟨w.heap.size,1,none⟩=some (.int .i64 0):=by rw[aC g];rfl
   have M:d.frozen? ⟨w.heap.size,0,none⟩=false:=aE g _;have N:d.frozen? ⟨w.heap.size,1,none⟩=false:=aE g _;clear a0 J s;go_wp2;refine IG (v:=.tuple #[.string ⟨j.toArray⟩,.agg #[.int .i64 0,.int .i64 0]]) (by simp[Jl,LY,go_sem,z,A]) rfl ⟨by rw[r.out],?_⟩;exact((t.trans a8).setCell (p:=⟨w.heap.size,0,none⟩) (gO _) _).setCell (p:=⟨w.heap.size,1,none⟩) (gO _) _
theorem Av(ao:Option Addr)(cap:Nat)(w:vF) :
  I5 hE 34 #[.slice ao 0 cap] w fun e w'=>e=.returned (.tuple #[.string ⟨#[]⟩,.agg #[.int .i64 0,.int .i64 0]])∧Below w.heap.size w w':=by
 go_enter Tryz.func34,Tryz.ntmps34
 go_wp2_with fail
 refine(mJ _).mono ?_
 rintro e n ⟨rfl,rfl⟩;have b:=PInv.start w [];go_wp2_with fail
 refine wp_loop_rounds 1 ?_
 rw[rounds_succ];have f:=b.res;have h:=b.blw;have i:=b.bld;have o:=aB f;generalize ((((w.alloc (.cells #[.int .i64 0,.int .i64 0] 27)).alloc (.cells #[.pointer none,.slice none 0 0] 118)).alloc (.map #[] 0)).alloc (.cells #[.int .i64 0,.map (some (w.heap.size+1+1))] 158))=wr at *;clear b;go_wp2_with fail
 refine(iA w.heap.size (w.heap.size+1) [] _ i (by omega)).mono ?_
 rintro e a ⟨rfl,j,k,g⟩;have d:a.heap[w.heap.size]?=some (.cells #[.int .i64 0,.int .i64 0] 27 (0,0)):=g _ _ f (by intro e;injection e;omega) (by intro c q e;cases e);have l:a.cell? ⟨w.heap.size,0,none⟩=some (.int .i64 0):=by rw[aC d];rfl
 have m:a.cell? ⟨w.heap.size,1,none⟩=some (.int .i64 0):=by rw[aC d];rfl
 have r:a.frozen? ⟨w.heap.size,0,none⟩=false:=aE d _;have s:a.frozen? ⟨w.heap.size,1,none⟩=false:=aE d _;clear g f j;go_wp2;refine IG (v:=.tuple #[.string ⟨#[]⟩,.agg #[.int .i64 0,.int .i64 0]]) (by simp[Jl,LY,go_sem,l,m]) rfl ⟨rfl,?_⟩;exact((h.trans k).setCell (p:=⟨w.heap.size,0,none⟩) (gO _) _).setCell (p:=⟨w.heap.size,1,none⟩) (gO _) _
theorem B7(v:sA)(a:List Fct)(w:vF)(f:a.length≤IU)(g:cV v a w)(i:qA a) :
  I5 hE 34 #[v] w fun e w'=>e=.returned (.tuple #[.string ⟨(bK [] a []).1.toArray⟩,.agg #[.int .i64 (bK [] a []).2.1,.int .i64 (bK [] a []).2.2]])∧Below w.heap.size w w':=by
 obtain⟨j,c,rfl,_,_,h⟩:=g;by_cases d:a=[]
 ·subst d;exact Av j c w
 ·obtain⟨b,k,rfl,l,m⟩:=h d;exact Au b k c a w f m l i
theorem B8(v:sA)(a:List Fct)(w:vF)(j:a.length≤IU)(k:cV v a w)(l:qA a) :
  I5 hE 14 #[v] w fun e w'=>e=.returned (.tuple #[.string ⟨(bK [] a []).1.toArray⟩,.agg #[.int .i64 (bK [] a []).2.1,.int .i64 (bK [] a []).2.2]])∧Below w.heap.size w w':=by
 have g:Below w.heap.size w (w.alloc (.cells #[.int .i64 0,.int .i64 0] 27)):=(Below.refl _ _).alloc (gO _) _;have h:=B7 v a _ j (k.below g) l;have d:=Hid.out (p:=I5 _ _ _ _ _) h;clear h;generalize bK [] a []=R at d ⊢;have i:I3 (I5 _ _ _ _ _):=d;clear d;go_enter Tryz.func14,Tryz.ntmps14
 go_wp2_with fail
 refine(i.out).mono ?_
 rintro e b ⟨rfl,f⟩;have c:b.heap[w.heap.size]?=some (.cells #[.int .i64 0,.int .i64 0] 27 (0,0)):=Below.fj f (aD _ _) (by simp);have m:b.cell? ⟨w.heap.size,0,none⟩=some (.int .i64 0):=by rw[aC c];rfl
 have n:b.cell? ⟨w.heap.size,1,none⟩=some (.int .i64 0):=by rw[aC c];rfl
 have q:b.frozen? ⟨w.heap.size,0,none⟩=false:=aE c _;have r:b.frozen? ⟨w.heap.size,1,none⟩=false:=aE c _;have o:Below w.heap.size w b:=g.trans (f.mono (by simp));clear f c i;go_wp2;refine IG (v:=.tuple #[.string ⟨R.1.toArray⟩,.agg #[.int .i64 R.2.1,.int .i64 R.2.2]]) (by simp[Jl,Tryz.results14,go_sem,m,n]) rfl ⟨rfl,?_⟩;exact(o.setCell (p:=⟨w.heap.size,0,none⟩) (gO _) _).setCell (p:=⟨w.heap.size,1,none⟩) (gO _) _
theorem fL{w:vF}{B:Nat}{e:TypeId}{size n:Nat}{v:sA}{xs:List sA}(h:w.ownsRow B e size v n xs)(a:0<n):∃g cap,v=.slice (some ⟨g,0,none⟩) n cap∧g<w.heap.size∧∀(j:Nat) u,xs[j]?=some u→w.cell? ⟨g,j,none⟩=some u:=by obtain⟨c,cap,rfl,b⟩:=aQ h;obtain⟨g,rfl⟩:=b a;exact⟨g,cap,rfl,(h.lt g rfl).2,(eZ h).1⟩
theorem mB{α:Type}{l:List α}{i:Nat}{x:α}(h:l[i]?=some x):l.set i x=l:=by obtain⟨a,rfl⟩:=II.1 h;exact List.set_getElem_self a
structure OwnM(w:World)(B:Nat)(v:Value)(M:List (List Bool))(rv:List Value):Prop where
 len:rv.length=M.length
 row:w.ownsRow B 99 1 v M.length rv
 rows:∀(i:Nat) r u,M[i]?=some r→rv[i]?=some u→r.length=M.length∧w.ownsRow B 4 1 u r.length (r.map Value.bool)
 sep:∀(i j:Nat) t u,i≠j→rv[i]?=some t→rv[j]?=some u→t.ownBlock=none∨t.ownBlock≠u.ownBlock
def orK(X Y:List Bool)(k:Nat):List Bool:=(J7 or X Y).take k++X.drop k
theorem Fs(X Y:List Bool):orK X Y 0=X:=by simp[orK]
theorem GI{X Y:List Bool}(h:X.length=Y.length)(k:Nat):(orK X Y k).length=X.length:=by simp[orK,K4];omega
theorem GJ{X Y:List Bool}(h:X.length=Y.length){k:Nat}(b:k<X.length):(orK X Y k)[k]?=X[k]?:=by
 unfold orK;have a:((J7 or X Y).take k).length=k:=by rw[Ji,K4];omega
 rw[List.getElem?_append_right (by omega),a,Nat.sub_self,List.getElem?_drop];rfl
theorem Ft{X Y:List Bool}(h:X.length=Y.length){k:Nat}{x y:Bool}(a:X[k]?=some x)(b:Y[k]?=some y):orK X Y (k+1)=(orK X Y k).set k (x || y):=by
 have e:k<X.length:=bV a;have c:(J7 or X Y)[k]?=some (x || y):=by rw[List.getElem?_zipWith,a,b]
 unfold orK;have d:((J7 or X Y).take k).length=k:=by rw[Ji,K4];omega
 rw[bG c,cR a,List.set_append_right _ _ (by omega),d,Nat.sub_self,Jo,List.append_assoc];rfl
theorem Fu(X:List Bool)(k:Nat):orK X X k=X:=by
 unfold orK;have:J7 or X X=X:=by
  induction X with
  |nil=>rfl
  |cons a r b=>simp
 rw[this,List.take_append_drop]
def oR(X Y:List Bool)(k:Nat):Bool:=((X.zip Y).take k).any fun x=>x.2 && !x.1
theorem DU{X Y:List Bool}{k:Nat}{x y:Bool}(a:X[k]?=some x)(b:Y[k]?=some y):oR X Y (k+1)=(oR X Y k || (y && !x)):=by
 have c:(X.zip Y)[k]?=some (x,y):=by rw[List.getElem?_zip_eq_some];exact⟨a,b⟩
 unfold oR;rw[bG c,List.any_append];simp
structure FlInv(w wr:World)(B:Nat)(v:Value)(M:List (List Bool))(rv:List Value)(a i:Nat)(X Y:List Bool)(u:Value)(ch:Bool):Prop where
 le:i≤M.length
 own:OwnM wr B v (M.set a (orK X Y i)) rv
 chg:ch=oR X Y i
 kb:Kb u.ownBlock.toList w wr
theorem OwnM.set{w:vF}{B:Nat}{v:sA}{M:List (List Bool)}{f:List sA}(h:OwnM w B v M f){a i g cap:Nat}{Z:List Bool}(o:M[a]?=some Z)(k:f[a]?=some (.slice (some ⟨g,0,none⟩) Z.length cap))(x:Bool) :
  OwnM (w.setCell ⟨g,i,none⟩ (.bool x)) B v (M.set a (Z.set i x)) f:=by
 have l:=h.rows a Z _ o k;have u:Kb [g] w (w.setCell ⟨g,i,none⟩ (.bool x)):=(Kb.refl _ _).setCell (p:=⟨g,i,none⟩) (.inl (by simp)) _;have q:∀ {e:TypeId} {size n:Nat} {t:sA} {m:List sA},w.ownsRow B e size t n m→(t.ownBlock=none∨t.ownBlock≠some g)→(w.setCell ⟨g,i,none⟩ (.bool x)).ownsRow B e size t n m:=by
  intro e size n t m y c;refine eT y u (fun b z d=>?_);rw[List.mem_singleton.1 z]at d;rcases c with c|c
  ·rw[c]at d;cases d
  ·exact c d
 refine⟨by rw[JD];exact h.len,?_,?_,h.sep⟩
 ·rw[JD];exact q h.row (gL h.row l.2 (by decide))
 ·intro j r t hr c;rw[JD];by_cases s:j=a
  ·subst s;rw[Kv (bV o)]at hr;injection hr with hr;subst hr;rw[k]at c;injection c with c;subst c;rw[JD];refine⟨l.1,?_⟩;have:=mR l.2 i (.bool x);rw[List.map_set];exact this
  ·rw[Jt (by omega)]at hr;obtain⟨A,C⟩:=h.rows j r t hr c;exact⟨A,q C (h.sep j a t _ s c k)⟩
theorem rI(B:Nat)(v:sA)(M:List (List Bool))(d:List sA)(a b:Nat)(X Y:List Bool)(w:vF)(hn:M.length≤1000)(h:OwnM w B v M d)(k:M[a]?=some X)(l:M[b]?=some Y) :
  I5 hE 81 #[v,.int .i64 a,.int .i64 b] w fun e w'=>∃u,d[a]?=some u∧e=.returned (.bool (oR X Y M.length))∧OwnM w' B v (M.set a (orK X Y M.length)) d∧Kb u.ownBlock.toList w w':=by
 have Q:=bV k;have a2:=bV l;obtain⟨u,g⟩:∃u,d[a]?=some u:=⟨_,hZ (by rw[h.len];exact Q)⟩;obtain⟨R,r⟩:∃u,d[b]?=some u:=⟨_,hZ (by rw[h.len];exact a2)⟩;have a8:=(h.rows a X u k g).1;have a9:=(h.rows b Y R l r).1;obtain⟨j,s,rfl,_,_⟩:=fL (h.rows a X u k g).2 (by omega);obtain⟨gb,cb,rfl,_,_⟩:=fL (h.rows b Y R l r).2 (by omega);obtain⟨t,z,rfl,_,_⟩:=fL h.row (by omega);have a3:M.set a (orK X Y 0)=M:=by rw[Fs];exact mB k
 go_enter Tryz.func81,Tryz.ntmps81
 go_wp2;have HS:=aA h;go_loopw [7,8] (fun cv H wr=>∃(i:Nat) (f:Bool),cv=.bool f∧H=.int .i64 i∧FlInv w wr B (.slice (some ⟨t,0,none⟩) M.length z) M d a i X Y (.slice (some ⟨j,0,none⟩) X.length s) f) (fun _ H _=>M.length-(intOf H).toNat)
 case atStart=>exact⟨0,false,rfl,rfl,IM _,by rw[a3];exact h,by simp[oR],Kb.refl _ _⟩
 case round=>
  clear h;obtain⟨i,f,rfl,rfl,c⟩:=hrel;have aa:=c.le;by_cases I:i<M.length
  ·obtain⟨x,A⟩:∃x,X[i]?=some x:=⟨_,hZ (by omega)⟩;obtain⟨y,m⟩:∃y,Y[i]?=some y:=⟨_,hZ (by omega)⟩;have C:X.length=Y.length:=by omega
   have J:(orK X Y i).length=X.length:=GI C i;have D:(M.set a (orK X Y i))[a]?=some (orK X Y i):=Kv Q;have K:(orK X Y i)[i]?=some x:=by rw[GJ C (by omega)];exact A
   obtain⟨Z,S,a4,T⟩:∃Z,(M.set a (orK X Y i))[b]?=some Z∧Z.length=Y.length∧Z[i]?=some y:=by
    by_cases a5:b=a
    ·subst a5;have e:X=Y:=KY (k.symm.trans l);subst e;exact⟨_,D,J,by rw[Fu];exact m⟩
    ·exact⟨Y,by rw[Jt (by omega)];exact l,rfl,m⟩
   have E:=c.own.row;rw[JD]at E;have ra:=(eZ E).1 a _ g;have rb:=(eZ E).1 b _ r;have F:=(c.own.rows a _ _ D g).2;rw[J]at F;have L:=(c.own.rows b _ _ S r).2;rw[a4]at L;have ab:=(eZ F).1 i (.bool x) (by rw[Jx,K];rfl);have ad:=(eZ L).1 i (.bool y) (by rw[Jx,T];rfl);have za:=(eZ F).2 i;have fS:=Ft C A m;have U:=DU A m;have V:=c.own;have N:=c.kb;have a0:=c.chg;have O:=aA (And.intro fS (And.intro U (And.intro V a0)));have a6:=aA D;have a1:=aA K;clear c E F L D S fS U V a0 K A m T C;cases y
   ·have n:I3 (FlInv w wr B (.slice (some ⟨t,0,none⟩) M.length z) M d a (i+1) X Y (.slice (some ⟨j,0,none⟩) X.length s) f):=by
     obtain⟨o,p,q,G⟩:=O.out;exact⟨I,by rw[o,Bool.or_false,mB a1.out];exact q,by rw[p,G];simp,N⟩
    go_wp2;go_roundw
    case rel=>exact⟨i+1,f,rfl,by go_num,n.out⟩
    case measure=>simp[intOf];omega
   ·cases x
    ·have n:I3 (FlInv w (wr.setCell ⟨j,i,none⟩ (.bool true)) B (.slice (some ⟨t,0,none⟩) M.length z) M d a (i+1) X Y (.slice (some ⟨j,0,none⟩) X.length s) true):=by
      obtain⟨o,p,q,G⟩:=O.out;refine⟨I,?_,by rw[p];simp,N.setCell (p:=⟨j,i,none⟩) (.inl (by simp[Jh])) _⟩;have:=q.set (i:=i) a6.out (by rw[J];exact g) true;rw[List.set_set]at this;rw[o];exact this
     go_wp2;go_roundw
     case rel=>exact⟨i+1,true,rfl,by go_num,n.out⟩
     case measure=>simp[intOf];omega
    ·have n:I3 (FlInv w wr B (.slice (some ⟨t,0,none⟩) M.length z) M d a (i+1) X Y (.slice (some ⟨j,0,none⟩) X.length s) f):=by
      obtain⟨o,p,q,G⟩:=O.out;exact⟨I,by rw[o,Bool.true_or,mB a1.out];exact q,by rw[p,G];simp,N⟩
     go_wp2;go_roundw
     case rel=>exact⟨i+1,f,rfl,by go_num,n.out⟩
     case measure=>simp[intOf];omega
  ·have a7:i=M.length:=by omega
   subst a7;have P:=aA c;clear c;go_wp2;go_ret
   exact⟨_,g,by rw[← P.out.chg];rfl,P.out.own,P.out.kb⟩
def Pts(a:List Fct)(p x:ByteArray):Prop:=∀R:ByteArray→ByteArray→Prop,(∀p q,(⟨1,p,q⟩:Fct)∈a→R p q)→(∀p q x,(⟨2,p,q⟩:Fct)∈a→R q x→R p x)→(∀p q v x,(⟨3,p,q⟩:Fct)∈a→R q v→R v x→R p x)→(∀p q v x,(⟨4,p,q⟩:Fct)∈a→R p v→R q x→R v x)→R p x
theorem Pts.addr{b:List Fct}{p q:ByteArray}(h:(⟨1,p,q⟩:Fct)∈b):Pts b p q:=fun _ a _ _ _=>a p q h
theorem Pts.copy{e:List Fct}{p q x:ByteArray}(h:(⟨2,p,q⟩:Fct)∈e)(h1:Pts e q x):Pts e p x:=fun R a b c d=>b p q x h (h1 R a b c d)
theorem Pts.load{e:List Fct}{p q v x:ByteArray}(h:(⟨3,p,q⟩:Fct)∈e)(h1:Pts e q v)(h2:Pts e v x):Pts e p x:=fun R a b c d=>c p q v x h (h1 R a b c d) (h2 R a b c d)
theorem Pts.store{e:List Fct}{p q v x:ByteArray}(h:(⟨4,p,q⟩:Fct)∈e)(h1:Pts e p v)(h2:Pts e q x):Pts e v x:=fun R a b c d=>d p q v x h (h1 R a b c d) (h2 R a b c d)
theorem Pts.ind{a:List Fct}{motive:∀p x,Pts a p x→Prop}(addr:∀ {p q:ByteArray} (h:(⟨1,p,q⟩:Fct)∈a),motive p q (.addr h))(copy:∀ {p q x:ByteArray} (h:(⟨2,p,q⟩:Fct)∈a) (h1:Pts a q x),motive q x h1→motive p x (.copy h h1))
  (load:∀ {p q v x:ByteArray} (h:(⟨3,p,q⟩:Fct)∈a) (h1:Pts a q v) (h2:Pts a v x),motive q v h1→motive v x h2→motive p x (.load h h1 h2)) (store:∀ {p q v x:ByteArray} (h:(⟨4,p,q⟩:Fct)∈a) (h1:Pts a p v) (h2:Pts a q x),motive p v h1→motive q x h2→motive v x (.store h h1 h2))
  {p x:ByteArray} (t:Pts a p x):motive p x t:=by
 obtain⟨_,h⟩:=t (fun p x=>∃h:Pts a p x,motive p x h) (fun p q h=>⟨.addr h,addr h⟩) (fun p q x h ⟨h1,b⟩=>⟨.copy h h1,copy h h1 b⟩) (fun p q v x h ⟨h1,b⟩ ⟨h2,c⟩=>⟨.load h h1 h2,load h h1 h2 b c⟩) (fun p q v x h ⟨h1,b⟩ ⟨h2,c⟩=>⟨.store h h1 h2,store h h1 h2 b c⟩);exact h
def bY(M:List (List Bool))(i j:Nat):Bool:=(M.getD i []).getD j false
theorem gE{M:List (List Bool)}{i:Nat}{r:List Bool}(h:M[i]?=some r)(j:Nat):bY M i j=r.getD j false:=by simp[bY,h]
theorem DV{M:List (List Bool)}{i j:Nat}(h:bY M i j=true):∃r,M[i]?=some r∧r[j]?=some true:=by
 unfold bY at h;cases hr:M[i]? with
 |none=>simp[hr]at h
 |some r=>
  refine⟨r,rfl,?_⟩;simp only[E1,hr,Oa]at h;cases a:r[j]? with
  |none=>rw[a]at h;cases h
  |some b=>rw[a]at h;simp only[Oa]at h;rw[h]
theorem nX{M:List (List Bool)}{a i:Nat}(h:i≠a)(R:List Bool)(j:Nat):bY (M.set a R) i j=bY M i j:=by simp[bY,Jt (Ne.symm h)]
theorem kT{M:List (List Bool)}{a:Nat}(h:a<M.length)(R:List Bool)(j:Nat):bY (M.set a R) a j=R.getD j false:=by simp[bY,h]
def kU(a:List ByteArray)(M:List (List Bool))(f:Fct):Prop:=
 (f.k=1→∀i j,a[i]?=some f.p→a[j]?=some f.q→bY M i j=true) ∧
 (f.k=2→∀i j x,a[i]?=some f.p→a[j]?=some f.q→bY M j x=true→bY M i x=true) ∧
 (f.k=3→∀i j v x,a[i]?=some f.p→a[j]?=some f.q→bY M j v=true→bY M v x=true→bY M i x=true) ∧
 (f.k=4→∀i j v x,a[i]?=some f.p→a[j]?=some f.q→bY M i v=true→bY M j x=true→bY M v x=true)
def uZ(d:List Fct)(c:List ByteArray)(M:List (List Bool)):Prop:=∀i j,bY M i j=true→∃a b,c[i]?=some a∧c[j]?=some b∧Pts d a b
theorem DW{o:List Fct}{g:List ByteArray}{M:List (List Bool)}(u:g.Nodup)(p:∀f∈o,f.p∈g∧f.q∈g)(n:∀f∈o,kU g M f){a b:ByteArray}(h:Pts o a b):∃i j,g[i]?=some a∧g[j]?=some b∧bY M i j=true:=by
 have w:∀ {i j:Nat} {x:ByteArray},g[i]?=some x→g[j]?=some x→i=j:=by intro i j x c d;obtain⟨y,z⟩:=II.1 c;obtain⟨A,B⟩:=II.1 d;exact(List.getElem_inj (h₀:=y) (h₁:=A) u).1 (z.trans B.symm)
 induction h using Pts.ind with
 |addr e=>obtain⟨k,C⟩:=p _ e;obtain⟨i,c⟩:=J6 k;obtain⟨j,d⟩:=J6 C;exact⟨i,j,c,d,(n _ e).1 rfl i j c d⟩
 |copy e _ D=>obtain⟨k,_⟩:=p _ e;obtain⟨i,c⟩:=J6 k;obtain⟨j,x,d,l,m⟩:=D;exact⟨i,x,c,l,(n _ e).2.1 rfl i j x c d m⟩
 |load e _ _ q r=>obtain⟨k,_⟩:=p _ e;obtain⟨i,c⟩:=J6 k;obtain⟨j,v,d,s,m⟩:=q;obtain⟨H,x,E,l,t⟩:=r;have:=w E s;subst this;exact⟨i,x,c,l,(n _ e).2.2.1 rfl i j _ x c d m t⟩
 |store e _ _ q r=>obtain⟨i,v,c,s,m⟩:=q;obtain⟨j,x,d,l,t⟩:=r;exact⟨v,x,s,l,(n _ e).2.2.2 rfl i j v x c d m t⟩
def kK(M:List (List Bool)):Nat:=(M.map (List.count true)).sum
theorem C0{M:List (List Bool)}{a:Nat}{X:List Bool}(h:M[a]?=some X)(R:List Bool):kK (M.set a R)+X.count true=kK M+R.count true:=by
 induction M generalizing a with
 |nil=>simp at h
 |cons Z q b=>
  cases a with
  |zero=>simp at h;subst h;simp only[kK,Jo,JX,Nl];omega
  |succ a=>rw[List.getElem?_cons_succ]at h;have:=b h;simp only[kK,List.set_cons_succ,JX,Nl]at this ⊢;omega
theorem Ht{M:List (List Bool)}{n:Nat}(h:∀r∈M,r.length≤n):kK M≤M.length*n:=by
 induction M with
 |nil=>simp[kK]
 |cons Z q a=>have b:=a (fun r hr=>h r (by simp[hr]));have c:=h Z (by simp);have d:Z.count true≤Z.length:=List.count_le_length;simp only[kK,JX,Nl,Jn,Nat.succ_mul]at b ⊢;omega
theorem Fw{X Y:List Bool}(h:X.length=Y.length):orK X Y X.length=J7 or X Y:=by unfold orK;rw[List.drop_length,List.append_nil,I6 (by rw[K4];omega)]
theorem DX{X Y:List Bool}(h:X.length=Y.length):oR X Y X.length=(X.zip Y).any fun x=>x.2 && !x.1:=by unfold oR;rw[I6 (by rw[List.length_zip];omega)]
theorem Fx(X Y:List Bool)(h:X.length=Y.length):X.count true≤(J7 or X Y).count true∧(((X.zip Y).any fun x=>x.2 && !x.1)=true→X.count true<(J7 or X Y).count true)∧(((X.zip Y).any fun x=>x.2 && !x.1)=false→J7 or X Y=X∧∀j,Y.getD j false=true→X.getD j false=true) ∧
  ∀j,(J7 or X Y).getD j false=(X.getD j false || Y.getD j false):=by
 induction X generalizing Y with
 |nil=>
  cases Y with
  |nil=>simp
  |cons b Y=>simp at h
 |cons a X k=>
  cases Y with
  |nil=>simp at h
  |cons b Y=>
   simp only[Jn,Nat.add_right_cancel_iff]at h;obtain⟨m,g,i,l⟩:=k Y h;refine⟨?_,?_,?_,?_⟩
   ·cases a<;>cases b<;>simp<;>omega
   ·intro c;cases a<;>cases b<;>simp at c ⊢
    ·exact g (by simpa using c)
    ·omega
    ·exact g (by simpa using c)
    ·exact g (by simpa using c)
   ·intro c;cases a<;>cases b<;>simp at c
    ·obtain⟨e,f⟩:=i (by simpa using c);refine⟨by simp[e],fun j d=>?_⟩;cases j with
     |zero=>simp at d
     |succ j=>simpa using f j (by simpa using d)
    ·obtain⟨e,f⟩:=i (by simpa using c);refine⟨by simp[e],fun j d=>?_⟩;cases j with
     |zero=>simp
     |succ j=>simpa using f j (by simpa using d)
    ·obtain⟨e,f⟩:=i (by simpa using c);refine⟨by simp[e],fun j d=>?_⟩;cases j with
     |zero=>simp
     |succ j=>simpa using f j (by simpa using d)
   ·intro j;cases j with
    |zero=>simp
    |succ j=>simpa using l j
theorem xD(v:sA)(a:List ByteArray)(s:ByteArray)(w:vF)(E:a.length≤1000000)(r:cY v a w) :
  I5 hE 80 #[v,.string s] w fun e w'=>∃k:Nat,e=.returned (.int .i64 k)∧(s∈a→a[k]?=some s)∧Below w.heap.size w w':=by
 obtain⟨F,G,rfl,_,_,o⟩:=r;have t:=aA o;clear o;go_enter Tryz.func80,Tryz.ntmps80
 go_wp2;go_loopw [5] (fun l wr=>∃i:Nat,l=.int .i64 i∧i≤a.length∧(∀j,j<i→a[j]?≠some s)∧Below w.heap.size w wr) (fun l _=>a.length-(intOf l).toNat)
 case atStart=>exact⟨0,rfl,IM _,(fun j c=>absurd c (Nat.not_lt_zero _)),Below.refl _ _⟩
 case round=>
  obtain⟨i,rfl,H,p,f⟩:=hrel;have q:=aA p;clear p;by_cases g:i<a.length
  ·obtain⟨x,d⟩:∃x,a[i]?=some x:=⟨_,hZ g⟩;have u:a≠[]:=by intro e;rw[e]at g;simp at g
   obtain⟨b,I,rfl,y,m⟩:=t.out u;have J:=(m.below f y) i x d;by_cases n:x=s
   ·subst n;have z:=aA d;clear m d;go_wp2;go_ret
    exact⟨i,rfl,fun _=>z.out,f⟩
   ·have K:(x.toList == s.toList)=false:=by
     rw[beq_eq_false_iff_ne];intro h;exact n (fM (by rwa [JV,JV]at h))
    have A:I3 (∀j,j<i+1→a[j]?≠some s):=by
     intro j c;by_cases B:j=i
     ·subst B;rw[d];intro h;exact n (KY h)
     ·exact q.out j (by omega)
    clear m d;go_wp2;go_roundw
    case rel=>exact⟨i+1,by go_num,g,A.out,f⟩
    case measure=>simp[intOf];omega
  ·have C:I3 (s∈a→a[0]?=some s):=by
    intro D;obtain⟨j,c⟩:=J6 D;exact absurd c (q.out j (by have:=bV c;omega))
   go_wp2;go_ret
   exact⟨0,rfl,C.out,f⟩
theorem yH{a b:List Bool}(h:a.map IY=b.map IY):a=b:=by
 induction a generalizing b with
 |nil=>cases b with
  |nil=>rfl
  |cons y t=>simp at h
 |cons x r d=>cases b with
  |nil=>simp at h
  |cons y t=>rw[JX,JX]at h;injection h with c e;injection c with c;rw[c,d e]
theorem B9{w:vF}{B:Nat}{e:TypeId}{size n:Nat}{v:sA}{xs ys:List sA}(h:w.ownsRow B e size v n xs)(c:w.ownsRow B e size v n ys):xs=ys:=by
 rcases h.2 with⟨rfl,i⟩|⟨g,m,o,rfl,_,j,_,_,_,k⟩
 ·have d:=h.1;have f:=c.1;rw[i,Nat.zero_mul]at d f;rw[LJ.1 d,LJ.1 f]
 ·rcases c.2 with⟨a,_⟩|⟨p,q,r,a,_,b,_,_,_,l⟩
  ·cases a
  ·injection a with a _ _;injection a with a;injection a with a;subst a;rw[j]at b;injection b with b;injection b with b;subst b;rw[← k,← l]
theorem OwnM.unique{w:vF}{B:Nat}{v:sA}{M a:List (List Bool)}{b:List sA}(h:OwnM w B v M b)(c:OwnM w B v a b):M=a:=by
 have k:M.length=a.length:=by rw[← h.len,c.len]
 refine List.ext_getElem? fun i=>?_
 by_cases d:i<M.length
 ·obtain⟨r,hr⟩:∃r,M[i]?=some r:=⟨_,hZ d⟩;obtain⟨l,e⟩:∃r,a[i]?=some r:=⟨_,hZ (by omega)⟩;obtain⟨u,f⟩:∃u,b[i]?=some u:=⟨_,hZ (by rw[h.len];exact d)⟩;obtain⟨m,g⟩:=h.rows i r u hr f;obtain⟨n,j⟩:=c.rows i l u e f;rw[m]at g;rw[n,← k]at j;rw[hr,e,yH (B9 g j)]
 ·rw[Ja (by omega),Ja (by omega)]
open Classical in
theorem Hu:∃f:Nat→Value→List Value→World→Nat,∀(w:World) (B:Nat) (v:Value) (M:List (List Bool)) (a:List Value),OwnM w B v M a→f B v a w=kK M:=by refine⟨fun B v a w=>if h:∃M,OwnM w B v M a then kK (Classical.choose h)else 0,?_⟩;intro w B v M a h;have b:∃M,OwnM w B v M a:=⟨M,h⟩;dsimp only;rw[dif_pos b,(Classical.choose_spec b).unique h]
theorem oL{M:List (List Bool)}{a b n:Nat}{X Y:List Bool}(c:M[a]?=some X)(g:M[b]?=some Y)(o:X.length=n)(p:Y.length=n) :
  (oR X Y n=false→M.set a (orK X Y n)=M∧∀j,bY M b j=true→bY M a j=true)∧(oR X Y n=true→kK M<kK (M.set a (orK X Y n))) ∧
  (∀i j,bY (M.set a (orK X Y n)) i j=true→bY M i j=true∨(i=a∧bY M b j=true))∧(∀i j,bY M i j=true→bY (M.set a (orK X Y n)) i j=true):=by
 subst o;have e:X.length=Y.length:=p.symm;obtain⟨w,q,r,k⟩:=Fx X Y e;rw[Fw e,DX e];have l:=bV c;have x:=C0 c (J7 or X Y);refine⟨fun f=>?_,fun f=>?_,?_,?_⟩
 ·obtain⟨s,t⟩:=r f;refine⟨by rw[s];exact mB c,fun j m=>?_⟩;rw[gE g]at m;rw[gE c];exact t j m
 ·have:=q f;omega
 ·intro i j h;by_cases d:i=a
  ·subst d;rw[kT l,k j]at h;rw[gE c,gE g];cases u:X.getD j false
   ·rw[u,Bool.false_or]at h;exact .inr ⟨rfl,h⟩
   ·exact .inl rfl
  ·rw[nX d]at h;exact .inl h
 ·intro i j h;by_cases d:i=a
  ·subst d;rw[gE c]at h;rw[kT l,k j,h,Bool.true_or]
  ·rw[nX d];exact h
theorem DY{M:List (List Bool)}{a b:Nat}{X:List Bool}{x:Bool}(c:M[a]?=some X)(d:X[b]?=some x) :
  (x=true→M.set a (X.set b true)=M∧bY M a b=true)∧(x=false→kK M<kK (M.set a (X.set b true))) ∧
  (∀i j,bY (M.set a (X.set b true)) i j=true→bY M i j=true∨(i=a∧j=b))∧bY (M.set a (X.set b true)) a b=true:=by
 have e:=bV c;have k:=bV d;have n:=C0 c (X.set b true);refine⟨fun h=>?_,fun h=>?_,?_,?_⟩
 ·subst h;refine⟨by rw[mB d];exact mB c,?_⟩;rw[gE c,E1,d];rfl
 ·subst h;have:(X.set b true).count true=X.count true+1:=by
   obtain⟨l,m⟩:=II.1 d;rw[List.count_set l,m];simp
  omega
 ·intro i j h;by_cases f:i=a
  ·subst f;rw[kT e,E1]at h;by_cases g:j=b
   ·exact .inr ⟨rfl,g⟩
   ·rw[Jt (Ne.symm g)]at h;exact .inl (by rw[gE c,E1];exact h)
  ·rw[nX f]at h;exact .inl h
 ·rw[kT e,E1,Kv k];rfl
end
end Go.Proofs.YtiamlbhkiehilaaGreatDoor
