import Derived.Test.YtiamlbhkiehilaaGreatDoorKa08
open Array renaming length_toList→IR
open Go renaming World→vF,bodyPost_ret→IG,wpList_append_own→Jg,cell_one_new→Kk,maxLen→IU,ahead→JG
open Go.Proofs.Tryz renaming prog→hE,results79→M6,underlying44→I7,func71→MG,ntmps71→Ms
open Go.RowKit renaming Hid→I3
open List renaming mem_singleton→A1,mem_of_getElem?→IJ,length_cons→Jn,length_append→A4
open Nat renaming le_refl→gO
namespace Go.Proofs.YtiamlbhkiehilaaGreatDoor
set_option maxHeartbeats 2000000
section
open Go.RowKit Go.Maps
structure WInv(w wr:World)(s:ByteArray)(i:Nat)(v:Value)(out:List ByteArray):Prop where
 le:i≤s.size
 short:out.length≤i
 eqn:aU s 0 []=aU s i out
 own:wr.ownsRow w.heap.size 9 1 v out.length (out.map Value.string)
 blw:Below w.heap.size w wr
def Iw(w w':vF)(s:ByteArray)(e:Ending):Prop:=
 (aU s 0 []=none∧e=.returned (.tuple #[.slice none 0 0,.bool false])∧Below w.heap.size w w') ∨
 (∃v a,aU s 0 []=some a∧a.length≤s.size∧e=.returned (.tuple #[v,.bool true])∧w'.ownsRow w.heap.size 9 1 v a.length (a.map Value.string)∧Below w.heap.size w w')
set_option maxRecDepth 100000 in
theorem Dq(s:ByteArray)(w:vF)(Y:s.size≤1000000) :
  Calls hE 79 #[.string s] w fun e w'=>Iw w w' s e:=by
 obtain⟨D,E,F,G,H⟩:=info_parts iJ;go_enter Tryz.func79,Tryz.ntmps79
 go_wp2;go_loopw [4,5] (fun v i wr=>∃m d,i=.int .i64 (m:Nat)∧WInv w wr s m v d) (fun _ i _=>s.size-(intOf i).toNat)
 case atStart=>exact⟨0,[],rfl,Nat.zero_le _,gO _,rfl,World.ownsRow_nil _ _ _ _,Below.refl _ _⟩
 case round=>
  obtain⟨m,d,rfl,f⟩:=hrel;have a:=f.blw;have l:=f.own;have Z:=f.short;have a0:=f.le;by_cases n:m<s.size
  ·rcases rX (s[m].toNat:Int)with⟨C,b⟩|⟨C,g,b⟩|⟨C,g,h,b⟩|⟨C,g,h,q,b⟩|⟨C,g,h,q,b⟩
   ·have c:I3 (aU s 0 []=some d):=f.eqn.trans (zP n b);clear b;go_wp2;exact IG (v:=.tuple #[u4,.bool true]) (by simp[results,M6,go_sem]) rfl (.inr ⟨_,d,c.out,by omega,rfl,l,a⟩)
   ·have c:I3 (aU s 0 []=aU s (m+1) d):=f.eqn.trans (zQ n b);clear b;rcases g with g|g
    all_goals
     go_wp2;go_round
     case rel=>exact⟨m+1,d,by go_num,n,by omega,c.out,l,a⟩
     case measure=>simp[intOf];omega
   ·have c:I3 (aU s 0 []=aU s (m+1) (d++[s.extract m (m+1)])):=f.eqn.trans (zR n b);clear b;rcases h with h|h|h
    all_goals
     go_wp2_with (first|(at_builtin;refine Jg _ rfl _ _ 44 rfl w.heap.size 9 D (.string ⟨#[]⟩) 1 16 I7 E F G H rfl (by decide) _ _ _ rfl (l.alloc _) ⟨wr.heap.size,0,none⟩ 1 1 [.string (s.extract m (m+1))] rfl rfl (Kk _ _ _) ?c2 ?c3 ?c4 ?c5 ?_)|go_in)
     case c2=>first|rfl|(intro u r;rw[A1.1 r];rfl)
     case c3=>unfold IU;omega
     case c4=>omega
     case c5=>have:=a.size;simp;omega
     intro Q t x y _;have z:Below w.heap.size w t:=(a.alloc a.size _).grown y (by have:=a.size;simp;omega) (fun j A=>(l.lt j A).1);go_wp2;go_round
     case rel=>exact⟨m+1,d++[s.extract m (m+1)],by go_num,n,by simp;omega,c.out,by simpa using x,z⟩
     case measure=>simp[intOf];omega
   ·have c:I3 (aU s 0 []=aU s (bX s (m+1)) (d++[s.extract m (bX s (m+1))])):=f.eqn.trans (zS n b);clear b;have I:I3 (bC (s[m].toNat:Int)=true):=q;clear q;obtain⟨J,K⟩:=not_or.1 g;obtain⟨L,o⟩:=not_or.1 h;obtain⟨M,o⟩:=not_or.1 o;have S:((s[m].toNat:Int) == 32)=false:=beq_false_of_ne J;have T:((s[m].toNat:Int) == 9)=false:=beq_false_of_ne K;have U:((s[m].toNat:Int) == 61)=false:=beq_false_of_ne L;have V:((s[m].toNat:Int) == 38)=false:=beq_false_of_ne M;have X:((s[m].toNat:Int) == 42)=false:=beq_false_of_ne o;clear g h;go_wp2_with fail
    refine(oE _ _).mono ?_
    rintro e w' ⟨rfl,rfl⟩;rw[I.out];go_wp2_with fail
    go_loop [6] (fun i=>∃k:Nat,i=.int .i64 k∧m+1≤k∧k≤s.size∧I3 (bX s (m+1)=bX s k)) (fun i=>s.size-(intOf i).toNat)
    case atStart=>exact⟨m+1,by go_num,gO _,n,rfl⟩
    case round=>
     obtain⟨k,rfl,a1,R,N⟩:=hrel;by_cases O:k<s.size
     ·cases p:dE (s[k].toNat:Int)
      ·have P:I3 (dE (s[k].toNat:Int)=false):=p;have B:I3 (bX s (m+1)=k):=N.out.trans (sX O p);clear p;go_wp2_with fail
       refine(qB _ _).mono ?_
       rintro e w' ⟨rfl,rfl⟩;rw[P.out];go_wp2_with (first|(at_builtin;refine Jg _ rfl _ _ 44 rfl w.heap.size 9 D (.string ⟨#[]⟩) 1 16 I7 E F G H rfl (by decide) _ _ _ rfl (l.alloc _) ⟨w'.heap.size,0,none⟩ 1 1 [.string (s.extract m k)] rfl rfl (Kk _ _ _) ?c2 ?c3 ?c4 ?c5 ?_)|go_in)
       case c2=>first|rfl|(intro u r;rw[A1.1 r];rfl)
       case c3=>unfold IU;omega
       case c4=>omega
       case c5=>have:=a.size;simp;omega
       intro Q t x y _;have z:Below w.heap.size w t:=(a.alloc a.size _).grown y (by have:=a.size;simp;omega) (fun j A=>(l.lt j A).1);rw[B.out]at c;go_wp2;go_round
       case rel=>exact⟨k,d++[s.extract m k],rfl,R,by simp;omega,c.out,by simpa using x,z⟩
       case measure=>simp[intOf];omega
      ·have P:I3 (dE (s[k].toNat:Int)=true):=p;have B:I3 (bX s (m+1)=bX s (k+1)):=N.out.trans (qD O p);clear p;go_wp2_with fail
       refine(qB _ _).mono ?_
       rintro e w' ⟨rfl,rfl⟩;rw[P.out];go_wp2_with fail
       go_round
       case rel=>exact⟨k+1,by go_num,by omega,O,B⟩
       case measure=>simp[intOf];omega
     ·have B:I3 (bX s (m+1)=k):=N.out.trans (qC (by omega));go_wp2_with (first|(at_builtin;refine Jg _ rfl _ _ 44 rfl w.heap.size 9 D (.string ⟨#[]⟩) 1 16 I7 E F G H rfl (by decide) _ _ _ rfl (l.alloc _) ⟨w'.heap.size,0,none⟩ 1 1 [.string (s.extract m k)] rfl rfl (Kk _ _ _) ?c2 ?c3 ?c4 ?c5 ?_)|go_in)
      case c2=>first|rfl|(intro u r;rw[A1.1 r];rfl)
      case c3=>unfold IU;omega
      case c4=>omega
      case c5=>have:=a.size;simp;omega
      intro Q t x y _;have z:Below w.heap.size w t:=(a.alloc a.size _).grown y (by have:=a.size;simp;omega) (fun j A=>(l.lt j A).1);rw[B.out]at c;go_wp2;go_round
      case rel=>exact⟨k,d++[s.extract m k],rfl,R,by simp;omega,c.out,by simpa using x,z⟩
      case measure=>simp[intOf];omega
   ·have c:I3 (aU s 0 []=none):=f.eqn.trans (zT n b);clear b;have I:I3 (bC (s[m].toNat:Int)=false):=q;clear q;obtain⟨J,K⟩:=not_or.1 g;obtain⟨L,o⟩:=not_or.1 h;obtain⟨M,o⟩:=not_or.1 o;have S:((s[m].toNat:Int) == 32)=false:=beq_false_of_ne J;have T:((s[m].toNat:Int) == 9)=false:=beq_false_of_ne K;have U:((s[m].toNat:Int) == 61)=false:=beq_false_of_ne L;have V:((s[m].toNat:Int) == 38)=false:=beq_false_of_ne M;have X:((s[m].toNat:Int) == 42)=false:=beq_false_of_ne o;clear g h;go_wp2_with fail
    refine(oE _ _).mono ?_
    rintro e w' ⟨rfl,rfl⟩;rw[I.out];go_wp2_with fail
    exact IG (v:=.tuple #[.slice none 0 0,.bool false]) (by simp[results,M6,go_sem]) rfl (.inl ⟨c.out,rfl,a⟩)
  ·have c:I3 (aU s 0 []=some d):=f.eqn.trans (tY (by omega));go_wp2;exact IG (v:=.tuple #[u4,.bool true]) (by simp[results,M6,go_sem]) rfl (.inr ⟨_,d,c.out,by omega,rfl,l,a⟩)
end
section
open Go.RowKit
theorem uA{l:List ByteArray}{p:ByteArray→Bool}{k:Nat}{x:ByteArray}(h:l[k]?=some x)(a:p x=false):l.all p=false:=by rw[List.all_eq_false];exact⟨x,IJ h,by simp[a]⟩
theorem vM{l:List ByteArray}{p:ByteArray→Bool}{k:Nat}{x:ByteArray}(h:l[k]?=some x)(a:p x=true):l.any p=true:=by rw[List.any_eq_true];exact⟨x,IJ h,a⟩
theorem uB{l:List ByteArray}{p:ByteArray→Bool}{k:Nat}{x:ByteArray}(h:l[k]?=some x):(l.take (k+1)).all p=((l.take k).all p && p x):=by rw[bG h,List.all_append];simp
theorem zW{l:List ByteArray}{p:ByteArray→Bool}{k:Nat}{x:ByteArray}(h:l[k]?=some x):(l.take (k+1)).any p=((l.take k).any p || p x):=by rw[bG h,List.any_append];simp
theorem sC(n:ByteArray)(v:Value)(ss:List ByteArray)(w:vF)(s:n.size≤IU)(t:ss.length≤IU)(u:cY v ss w)(y:rU ss) :
  Calls hE 103 #[.agg #[.string n,v]] w fun e w'=>e=.returned (.bool (fO ⟨n,ss⟩))∧Below w.heap.size w w':=by
 obtain⟨f,g,rfl,_,_,o⟩:=u;have j:=aA o;clear o;unfold IU at t s;go_enter Tryz.func103,Tryz.ntmps103
 go_wp2;have c:Below w.heap.size w (w.alloc (.cells #[.string n,.slice f ss.length g] 51)):=(Below.refl _ _).alloc (gO _) _;have z:(w.alloc (.cells #[.string n,.slice f ss.length g] 51)).cell? ⟨w.heap.size,0,none⟩=some (.string n):=by rw[aC (aD _ _)];rfl
 generalize w.alloc (.cells #[.string n,.slice f ss.length g] 51)=F at c z ⊢;go_loop [8] (fun i=>∃k:Nat,i=.int .i64 k∧k≤ss.length∧I3 ((ss.take k).any eS=false)) (fun i=>ss.length-(intOf i).toNat)
 case atStart=>exact⟨0,rfl,Nat.zero_le _,rfl⟩
 case round=>
  obtain⟨k,rfl,G,q⟩:=hrel;by_cases A:k<ss.length
  ·obtain⟨x,a⟩:∃x,ss[k]?=some x:=⟨_,List.getElem?_eq_getElem A⟩;obtain⟨b,H,B,C,l⟩:=j.out (bT a);subst B;have I:=(l.below c C) k x a;have D:=y x (IJ a);unfold IU at D;have d:=zW (p:=eS) a;rw[q.out,Bool.false_or]at d;by_cases r:12<x.size
   ·have m:I3 (fO ⟨n,ss⟩=true):=by
     unfold I3 fO;simp only[vM a (show eS x=true by simp[eS,r]),Bool.or_true]
    clear d a l j;go_wp2;go_ret
    exact⟨by rw[m.out];rfl,c⟩
   ·have E:I3 ((ss.take (k+1)).any eS=false):=by unfold I3;rw[d];simp[eS,r]
    clear d a l j;go_wp2;go_round
    case rel=>exact⟨k+1,by go_num,by omega,E.out⟩
    case measure=>simp[intOf];omega
  ·have m:I3 (fO ⟨n,ss⟩=decide (12<n.size)):=by
    have h:=q.out;rw[List.take_of_length_le (by omega)]at h;unfold I3 fO eS at *;simp only[h,Bool.or_false]
   go_wp2;go_ret
   refine⟨mZ ?_,c⟩;rw[m.out,Bool.eq_iff_iff];simp only[decide_eq_true_eq];omega
def bB:List ByteArray→Nat
 | []=>0
 |s::r=>1+s.size+bB r
theorem jD(l:List ByteArray):(eP l).length=bB l:=by
 induction l with
 |nil=>rfl
 |cons s r a=>have:s.data.toList.length=s.size:=IR;simp only[eP,bB,List.cons_append,Jn,A4,a,this];omega
theorem mP(l:List ByteArray)(s:ByteArray):bB (l++[s])=bB l+1+s.size:=by
 induction l with
 |nil=>simp[bB]
 |cons x r a=>simp[bB,a];omega
theorem mQ(l:List ByteArray)(k:Nat):bB (l.take k)≤bB l:=by
 induction l generalizing k with
 |nil=>simp
 |cons x r a=>
  cases k with
  |zero=>simp[bB]
  |succ k=>simp only[List.take_succ_cons,bB];have:=a k;omega
theorem fK(r:RowD):(jC r).length=r.name.size+2+bB r.to:=by have:r.name.data.toList.length=r.name.size:=IR;simp only[jC,A4,Jn,List.length_nil,jD,this];omega
def chk(a:Bool)(r:RowD)(JG:ByteArray):Int:=if a && gA r.to then(if fO r then 5 else if zN r.name JG then 4 else 0)else 4
theorem Br(r:RowD)(JG:ByteArray):cE r JG=chk (dC r) r JG:=rfl
theorem rE(n:ByteArray)(v:Value)(ss:List ByteArray)(s:Bool)(JG:ByteArray)(w:vF)(A:n.size≤IU)(l:ss.length≤IU)(B:cY v ss w)(C:rU ss) :
  Calls hE 71 #[.agg #[.string n,v],.bool s,.string JG] w fun e w'=>e=.returned (.int .i64 (chk s ⟨n,ss⟩ JG))∧Below w.heap.size w w':=by
 have F:=aA B;obtain⟨m,o,G,_⟩:=B;subst G;have c:Below w.heap.size w (w.alloc (.cells #[.string n,.slice m ss.length o] 51)):=(Below.refl _ _).alloc (gO _) _;cases s
 ·have d:I3 (chk false ⟨n,ss⟩ JG=4):=by simp[chk,I3]
  go_enter MG,Ms
  go_wp2;go_ret
  exact⟨by rw[d.out];rfl,c⟩
 ·have p:=aA (F.out.below c);cases f:gA ss
  ·have d:I3 (chk true ⟨n,ss⟩ JG=4):=by simp[chk,I3,f]
   have q:=aA f;clear f;go_enter MG,Ms
   go_wp2_with fail
   refine(nL _ ss _ l p.out).mono ?_
   rintro e h ⟨rfl,a⟩;rw[q.out];have g:=c.trans (a.mono c.size);clear a;go_wp2;go_ret
   exact⟨by rw[d.out];rfl,g⟩
  ·have q:=aA f;cases i:fO ⟨n,ss⟩
   ·have d:I3 (chk true ⟨n,ss⟩ JG=if zN n JG then 4 else 0):=by simp[chk,I3,f,i]
    have t:=aA i;clear f i;go_enter MG,Ms
    go_wp2_with fail
    refine(nL _ ss _ l p.out).mono ?_
    rintro e h ⟨rfl,a⟩;rw[q.out];have b:=Below.fj a (aD w (.cells #[.string n,.slice m ss.length o] 51)) (by simp);have u:h.cell? ⟨w.heap.size,0,none⟩=some (.string n):=by rw[aC b];rfl
    have x:h.cell? ⟨w.heap.size,1,none⟩=some (.slice m ss.length o):=by rw[aC b];rfl
    have y:=aA (p.out.below a);have g:=c.trans (a.mono c.size);clear a;go_wp2_with fail
    refine(sC n _ ss _ A l y.out C).mono ?_
    rintro e D ⟨rfl,j⟩;rw[t.out];have E:=Below.fj j b (aB b);have I:D.cell? ⟨w.heap.size,0,none⟩=some (.string n):=by rw[aC E];rfl
    have r:=g.trans (j.mono g.size);clear j b E u x;cases k:zN n JG
    ·have H:(Op.bytesLess n.toList JG.toList || n.toList == JG.toList)=false:=k;have z:=aA k;clear k;go_wp2;go_ret
     exact⟨by rw[d.out,z.out];rfl,r⟩
    ·have H:(Op.bytesLess n.toList JG.toList || n.toList == JG.toList)=true:=k;have z:=aA k;clear k;go_wp2;go_ret
     exact⟨by rw[d.out,z.out];rfl,r⟩
   ·have d:I3 (chk true ⟨n,ss⟩ JG=5):=by simp[chk,I3,f,i]
    have t:=aA i;clear f i;go_enter MG,Ms
    go_wp2_with fail
    refine(nL _ ss _ l p.out).mono ?_
    rintro e h ⟨rfl,a⟩;rw[q.out];have b:=Below.fj a (aD w (.cells #[.string n,.slice m ss.length o] 51)) (by simp);have u:h.cell? ⟨w.heap.size,0,none⟩=some (.string n):=by rw[aC b];rfl
    have x:h.cell? ⟨w.heap.size,1,none⟩=some (.slice m ss.length o):=by rw[aC b];rfl
    have y:=aA (p.out.below a);have g:=c.trans (a.mono c.size);clear a;go_wp2_with fail
    refine(sC n _ ss _ A l y.out C).mono ?_
    rintro e D ⟨rfl,j⟩;rw[t.out];have r:=g.trans (j.mono g.size);clear j b u x;go_wp2;go_ret
    exact⟨by rw[d.out];rfl,r⟩
def xT(b a:Nat)(rs:List RowD)(w:vF):Prop:=
 ∀i n c,rs[i]?=some ⟨n,c⟩→w.cell? ⟨b,a+i*2,none⟩=some (.string n)∧∃d,w.cell? ⟨b,a+i*2+1,none⟩=some d∧cY d c w
theorem xT.below{b c:Nat}{rs:List RowD}{w w':vF}(h:xT b c rs w)(a:Below w.heap.size w w')(d:b<w.heap.size):xT b c rs w':=by intro i n e f;obtain⟨g,j,k,l⟩:=h i n e f;exact⟨(a.cell (p:=⟨b,_,none⟩) d).trans g,j,(a.cell (p:=⟨b,_,none⟩) d).trans k,l.below a⟩
def dP(v:Value)(rs:List RowD)(w:vF):Prop:=
 ∃a c,v=.slice a rs.length c∧rs.length≤c∧(a=none→c=0)∧(rs≠[]→∃b d,a=some ⟨b,d,none⟩∧b<w.heap.size∧xT b d rs w)
theorem dP.below{v:Value}{rs:List RowD}{w w':vF}(h:dP v rs w)(a:Below w.heap.size w w'):dP v rs w':=by obtain⟨d,e,rfl,f,g,h⟩:=h;refine⟨d,e,rfl,f,g,fun i=>?_⟩;obtain⟨b,j,rfl,c,k⟩:=h i;exact⟨b,j,rfl,Nat.lt_of_lt_of_le c a.size,k.below a c⟩
def fitsR(rs:List RowD):Prop:=∀r∈rs,r.name.size≤IU∧r.to.length≤IU∧rU r.to
end
end Go.Proofs.YtiamlbhkiehilaaGreatDoor
