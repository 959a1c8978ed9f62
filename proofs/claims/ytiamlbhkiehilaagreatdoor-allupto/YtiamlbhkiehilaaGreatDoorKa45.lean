import Derived.Test.YtiamlbhkiehilaaGreatDoorKa44
open Array renaming getElem?_toList→Ke
open Go renaming World→vF,Calls→I5,bodyPost_ret→IG,results_none→KW,results→Jl
open Go.Calls renaming quiet_of_same→I4
open Go.Exit renaming inBlock→LF
open Go.IntKind renaming u64→Kc,wrap_u64→JJ
open Go.Lib renaming bitLen→Lh
open Go.Proofs.Tryz renaming prog→hE,results209→OI,results196→OJ,results201→OK
open Go.RowKit renaming Hid→I3,cell?_setCell_some→KS
open Go.Sort renaming insInner→Mp,swp→Ob,insOuter→NF,size_swp→J9,siftDown→Ks,PermIn→Kz,permIn_refl→OH,SortedIn→Md
open Go.World renaming drewN_drewN→Kg
open Int renaming tdiv_eq_ediv_of_nonneg→KA
open List renaming getElem?_eq_getElem→hZ,getElem?_take_of_lt→JM,getElem?_eq_none→Ja
open Nat renaming add_sub_cancel→ML,le_refl→gO,eq_zero_or_pos→Oh,zero_le→IM,mul_one→Jv
namespace Go.Proofs.YtiamlbhkiehilaaGreatDoor
set_option maxRecDepth 100000
set_option maxHeartbeats 8000000
section
open Go.RowKit Go.Sort
theorem Ip{a j:Nat}{d:Array Nat}(c:a<j)(b:ltN d[j]! d[j-1]! = true):Mp ltN a j d=Mp ltN a (j-1) (Ob d j (j-1)):=by
 cases j with
 |zero=>omega
 |succ k=>
  rw[Mp,if_pos]
  ·rfl
  ·simp only[ML]at b;simp[c,b]
theorem GN{a j:Nat}{d:Array Nat}(h:j≤a∨ltN d[j]! d[j-1]! = false):Mp ltN a j d=d:=by
 cases j with
 |zero=>rfl
 |succ k=>
  rw[Mp,if_neg];simp only[ML]at h;rcases h with h|h
  ·simp;omega
  ·simp[h]
theorem FK(g cap S a b:Nat)(d:Array Nat)(w:vF)(h:Rw w g S d)(F:b≤d.size)(G:d.size≤1000)(I:a≤b) :
  I5 hE 193 #[.slice (some ⟨g,0,none⟩) d.size cap,.int .i64 a,.int .i64 b] w fun e w'=>e=.returned (.tuple #[])∧Rw w' g S (insertionSort ltN d a b)∧Kb [g] w w':=by
 go_enter Tryz.func193,Tryz.ntmps193
 go_wp2;go_loopg [6] (b+1-a) (fun k x wr=>∃(i:Nat) (l:Array Nat),x=.int .i64 i∧a<i∧i≤b+1∧b+1-i≤k∧l.size=d.size∧I3 (Rw wr g S l∧Kb [g] w wr∧NF ltN a b i l=NF ltN a b (a+1) d))
 case atStart=>exact⟨a+1,d,by go_num,by omega,by omega,by omega,rfl,aA ⟨h,Kb.refl _ _,rfl⟩⟩
 case round=>
  obtain⟨i,l,rfl,J,K,L,y,H⟩:=hrel;by_cases r:i<b
  ·have z:(i:Int)<(b:Int):=by omega
   go_wp2;go_loopg [7] i (fun A B s=>∃(j:Nat) (c:Array Nat),B=.int .i64 j∧a≤j∧j≤i∧j≤A∧c.size=d.size∧I3 (Rw s g S c∧Kb [g] w s∧Mp ltN a j c=Mp ltN a i l))
   case atStart=>exact⟨i,l,rfl,by omega,gO _,gO _,y,aA ⟨H.out.1,H.out.2.1,rfl⟩⟩
   case round=>
    obtain⟨j,c,rfl,M,N,O,n,f⟩:=hrel;obtain⟨V,o⟩:∃V:Nat→Nat,∀t,V t=c[t]!:=⟨fun t=>c[t]!,fun _=>rfl⟩;have P:∀t,t<d.size→wr.cell? ⟨g,t,none⟩=some (.int .u64 ((V t:Nat):Int)):=fun t Q=>by rw[o];exact f.out.1.cell (by omega)
    have R:∀t,t<d.size→wr.frozen? ⟨g,t,none⟩=false:=fun t _=>f.out.1.fz t
    have m:=aA o;clear o;have u:I3 ((j≤a∨ltN c[j]! c[j-1]! = false)→∀q,Rw (wr.drewN q) g S c∧Kb [g] w (wr.drewN q)∧NF ltN a b (i+1) c=NF ltN a b (a+1) d):=by refine aA (fun C q=>⟨f.out.1.kb ((Kb.refl [] wr).drewN q) (by simp),f.out.2.1.trans (((Kb.refl [] wr).drewN q).mono (by simp)),?_⟩);rw[← H.out.2.2,insOuter.eq_1 ltN a b i,if_pos r,← f.out.2.2,GN C]
    by_cases D:a<j
    ·have E:(a:Int)<(j:Int):=by omega
     have T:(j:Int)<(d.size:Int):=by omega
     have U:j<d.size:=by omega
     have X:(j:Int)-1<(d.size:Int):=by omega
     have Y:j-1<d.size:=by omega
     have Z:(0:Int)≤(j:Int)-1:=by omega
     have b6:((j:Int)-1).toNat=j-1:=by omega
     go_wp2;go_quiet (first|(go_at_call 199;refine I4 (cN _ _ _)))
     go_wp2
     ·have p:ltN (V j) (V (j-1))=true:=by assumption
      go_region
      all_goals go_wp2
      go_roundg (j-1)
      case measure=>omega
      case rel=>
       refine⟨j-1,Ob c j (j-1),by congr 1;omega,by omega,by omega,gO _,by rw[J9];exact n,aA ⟨?_,?_,?_⟩⟩
       ·exact(f.out.1.im f.out.2.1 (by omega) (by omega) m.out (nq+1)).1
       ·exact(f.out.1.im f.out.2.1 (by omega) (by omega) m.out (nq+1)).2
       ·rw[← f.out.2.2,Ip D (by rw[← m.out,← m.out];exact p)]
     ·have p:ltN (V j) (V (j-1))=false:=by assumption
      go_roundg (b-i)
      case measure=>omega
      case rel=>exact⟨i+1,c,by go_num,by omega,by omega,by omega,n,aA (u.out (.inr (by rw[← m.out,← m.out];exact p)) nq)⟩
    ·have E:decide ((j:Int) > (a:Int))=false:=decide_eq_false (by omega);go_wp2;go_quiet (first|(go_at_call 199;refine I4 (cN _ _ _)))
     go_wp2;go_roundg (b-i)
     case measure=>omega
     case rel=>exact⟨i+1,c,by go_num,by omega,by omega,by omega,n,aA (u.out (.inl (by omega)) nq)⟩
  ·have z:¬(i:Int)<(b:Int):=by omega
   go_wp2;go_end0
   refine⟨rfl,?_,H.out.2.1⟩;unfold insertionSort;rw[← H.out.2.2,NF,if_neg r];exact H.out.1
def kid(b first a:Nat)(d:Array Nat):Nat:=if 2*a+2<b∧ltN d[first+(2*a+1)]! d[first+(2*a+1)+1]! = true then 2*a+2 else 2*a+1
theorem FL{a first b:Nat}{d:Array Nat}(h:¬a≤2*b+1):kid a first b d<a∧2*b+1≤kid a first b d:=by unfold kid;split<;>omega
theorem yO{a first b:Nat}{d:Array Nat}(h:a≤2*b+1):Ks ltN a first b d=d:=by rw[Ks,dif_pos h]
theorem C5{b first a:Nat}{d:Array Nat}(h:¬b≤2*a+1)(c:ltN d[first+a]! d[first+kid b first a d]! = false):Ks ltN b first a d=d:=by
 rw[Ks,dif_neg h];unfold kid at c;split
 ·rename_i e;have f:2*a+2<b∧ltN d[first+(2*a+1)]! d[first+(2*a+1)+1]! = true:=by simpa using e
  rw[if_pos f]at c;rw[if_pos (by rw[c];rfl)]
 ·rename_i e;have f:¬(2*a+2<b∧ltN d[first+(2*a+1)]! d[first+(2*a+1)+1]! = true):=by simpa using e
  rw[if_neg f]at c;rw[if_pos (by rw[c];rfl)]
theorem GW{b first a:Nat}{d:Array Nat}(h:¬b≤2*a+1)(c:ltN d[first+a]! d[first+kid b first a d]! = true):Ks ltN b first a d=Ks ltN b first (kid b first a d) (Ob d (first+a) (first+kid b first a d)):=by
 rw[Ks,dif_neg h];unfold kid at c ⊢;split
 ·rename_i f;have e:2*a+2<b∧ltN d[first+(2*a+1)]! d[first+(2*a+1)+1]! = true:=by simpa using f
  rw[if_pos e]at c ⊢;rw[if_neg (by rw[c];decide),dif_pos e.1]
 ·rename_i f;have e:¬(2*a+2<b∧ltN d[first+(2*a+1)]! d[first+(2*a+1)+1]! = true):=by simpa using f
  rw[if_neg e]at c ⊢;rw[if_neg (by rw[c];decide)]
theorem rJ(g cap S l b first:Nat)(d:Array Nat)(w:vF)(h:Rw w g S d)(B:l≤b)(U:first+b≤d.size)(X:d.size≤1000) :
  I5 hE 205 #[.slice (some ⟨g,0,none⟩) d.size cap,.int .i64 l,.int .i64 b,.int .i64 first] w fun e w'=>e=.returned (.tuple #[])∧Rw w' g S (Ks ltN b first l d)∧Kb [g] w w':=by
 go_enter Tryz.func205,Tryz.ntmps205
 go_wp2;go_loopg [8] (b-l) (fun k C wr=>∃(a:Nat) (f:Array Nat),C=.int .i64 a∧a≤b∧b-a≤k∧f.size=d.size∧I3 (Rw wr g S f∧Kb [g] w wr∧Ks ltN b first a f=Ks ltN b first l d))
 case atStart=>exact⟨l,d,rfl,B,gO _,rfl,aA ⟨h,Kb.refl _ _,rfl⟩⟩
 case round=>
  obtain⟨a,f,rfl,hr,Y,D,H⟩:=hrel;by_cases n:b≤2*a+1
  ·have E:(b:Int)≤2*(a:Int)+1:=by omega
   go_wp2;go_end0
   refine⟨rfl,?_,H.out.2.1⟩;rw[← H.out.2.2,yO n];exact H.out.1
  ·have E:¬(b:Int)≤2*(a:Int)+1:=by omega
   obtain⟨c,p⟩:∃c,c=kid b first a f:=⟨_,rfl⟩
   obtain⟨F,G⟩:=FL (d:=f) (first:=first) n;rw[← p]at F G;have m:=aA p;clear p;obtain⟨V,u⟩:∃V:Nat→Nat,∀t,V t=f[t]!:=⟨fun t=>f[t]!,fun _=>rfl⟩;have i:=aA u;clear u;have x:∀t,t<d.size→wr.cell? ⟨g,t,none⟩=some (.int .u64 ((V t:Nat):Int)):=fun t I=>by rw[i.out];exact H.out.1.cell (by omega)
   go_upto_region 3 with fail
   go_cut [36] (fun J r=>J=.bool (decide (c=2*a+2))∧∃q,r=wr.drewN q)
   case first=>
    by_cases y:2*a+2<b
    ·have K:2*(a:Int)+1+1<(b:Int):=by omega
     have L:(first:Int)+(2*(a:Int)+1)<(d.size:Int):=by omega
     have M:first+(2*a+1)<d.size:=by omega
     have N:(first:Int)+(2*(a:Int)+1)+1<(d.size:Int):=by omega
     have O:first+(2*a+1)+1<d.size:=by omega
     have P:((first:Int)+(2*(a:Int)+1)).toNat=first+(2*a+1):=by omega
     have Q:((first:Int)+(2*(a:Int)+1)+1).toNat=first+(2*a+1)+1:=by omega
     go_quiet (first|(go_at_call 199;refine I4 (cN _ _ _)))
     go_wp2;go_meet
     case rel=>
      refine⟨?_,nq,rfl⟩;rw[m.out,i.out,i.out];unfold kid;cases Z:ltN f[first+(2*a+1)]! f[first+(2*a+1)+1]!
      ·simp
      ·simp[y]
    ·have K:decide (2*(a:Int)+1+1<(b:Int))=false:=decide_eq_false (by omega);go_quiet (first|(go_at_call 199;refine I4 (cN _ _ _)))
     go_wp2;go_meet
     case rel=>refine⟨?_,nq,rfl⟩;rw[m.out];unfold kid;simp[y]
   case rest=>
    obtain⟨rfl,q,rfl⟩:=hcut;have j:I3 (Rw (wr.drewN q) g S f∧Kb [g] w (wr.drewN q)):=aA ⟨H.out.1.kb ((Kb.refl [] wr).drewN q) (by simp),H.out.2.1.drewN q⟩;clear x;generalize wr.drewN q=R at j ⊢;go_upto_if 36 with fail
    go_cut [9] (fun T r=>T=.int .i64 c∧r=R)
    case first=>
     cases z:decide (c=2*a+2)
     ·have s:c=2*a+1:=by
       have:=of_decide_eq_false z;have a0:c≤2*a+2:=by rw[m.out];unfold kid;split<;>omega
       omega
      go_wp2_with fail
      go_meet
      case rel=>exact⟨by rw[s];congr 1,rfl⟩
     ·have s:c=2*a+2:=of_decide_eq_true z;go_wp2_with fail
      go_meet
      case rel=>exact⟨by rw[s];first|rfl|(congr 1;omega),rfl⟩
    case rest=>
     obtain⟨rfl,rfl⟩:=hcut;have x:∀t,t<d.size→wc.cell? ⟨g,t,none⟩=some (.int .u64 ((V t:Nat):Int)):=fun t I=>by rw[i.out];exact j.out.1.cell (by omega)
     have a1:∀t,t<d.size→wc.frozen? ⟨g,t,none⟩=false:=fun t _=>j.out.1.fz t
     have L:(first:Int)+(a:Int)<(d.size:Int):=by omega
     have M:first+a<d.size:=by omega
     have N:(first:Int)+(c:Int)<(d.size:Int):=by omega
     have O:first+c<d.size:=by omega
     have P:((first:Int)+(a:Int)).toNat=first+a:=by omega
     have Q:((first:Int)+(c:Int)).toNat=first+c:=by omega
     go_wp2_with fail
     go_quiet (first|(go_at_call 199;refine I4 (cN _ _ _)))
     cases o:ltN (V (first+a)) (V (first+c))
     ·go_wp2_with fail
      (try simp only[LF,Exit.then])
      refine IG (KW rfl _ _ _) rfl ?_
      refine⟨rfl,?_,j.out.2.drewN nq⟩;rw[i.out,i.out,m.out]at o;rw[← H.out.2.2,C5 n o];exact j.out.1.kb ((Kb.refl [] wc).drewN nq) (by simp)
     ·go_wp2_with fail
      go_region
      all_goals go_wp2
      go_roundg (b-c)
      case measure=>omega
      case rel=>have A:=j.out.1.im j.out.2 (i:=first+a) (j:=first+c) (by omega) (by omega) i.out (nq+1);refine⟨c,Ob f (first+a) (first+c),rfl,by omega,gO _,by rw[J9];exact D,aA ⟨A.1,A.2,?_⟩⟩;rw[i.out,i.out,m.out]at o;rw[← H.out.2.2,GW n o,m.out]
theorem yP(b first a:Nat)(d:Array Nat):(Ks ltN b first a d).size=d.size:=by
 suffices h:∀(k a:Nat) (d:Array Nat),b-a≤k→(Ks ltN b first a d).size=d.size from h _ a d (gO _)
 intro k;induction k with
 |zero=>intro a d f;rw[yO (by omega)]
 |succ k g=>
  intro a d f;by_cases c:b≤2*a+1
  ·rw[yO c]
  ·obtain⟨i,j⟩:=FL (d:=d) (first:=first) c;cases e:ltN d[first+a]! d[first+kid b first a d]!
   ·rw[C5 c e]
   ·rw[GW c e,g _ _ (by omega),J9]
theorem D5(g cap S a b:Nat)(d:Array Nat)(w:vF)(h:Rw w g S d)(N:a<b)(O:b≤d.size)(P:d.size≤1000) :
  I5 hE 194 #[.slice (some ⟨g,0,none⟩) d.size cap,.int .i64 a,.int .i64 b] w fun e w'=>e=.returned (.tuple #[])∧Rw w' g S (heapSort ltN d a b)∧Kb [g] w w':=by
 have A:(b:Int)-(a:Int)=((b-a:Nat):Int):=by omega
 have Q:(((b-a:Nat):Int)-1).tdiv 2=((((b-a-1) / 2+1:Nat):Int)-1):=by rw[KA (by omega)];omega
 go_enter Tryz.func194,Tryz.ntmps194
 go_wp2;rw[A]at *;go_loopg [9] ((b-a-1) / 2+1) (fun k B wr=>B=.int .i64 ((k:Int)-1)∧k≤(b-a-1) / 2+1∧∃(l:Array Nat),l.size=d.size∧I3 (Rw wr g S l∧Kb [g] w wr∧heapBuild ltN (b-a) a k l=heapBuild ltN (b-a) a ((b-a-1) / 2+1) d))
 case atStart=>exact⟨by congr 1;first|omega|(rw[KA (by omega)];omega),gO _,d,rfl,aA ⟨h,Kb.refl _ _,rfl⟩⟩
 case round=>
  obtain⟨rfl,R,l,s,H⟩:=hrel;cases gk with
  |zero=>
   go_wp2;go_loopg [10] (b-a) (fun k C x=>C=.int .i64 ((k:Int)-1)∧k≤b-a∧∃(f:Array Nat),f.size=d.size∧I3 (Rw x g S f∧Kb [g] w x∧heapPop ltN a k f=heapPop ltN a (b-a) l))
   case atStart=>exact⟨rfl,gO _,l,s,aA ⟨H.out.1,H.out.2.1,rfl⟩⟩
   case round=>
    obtain⟨rfl,T,f,q,c⟩:=hrel;cases gk with
    |zero=>
     go_wp2;go_end0
     refine⟨rfl,?_,c.out.2.1⟩;have e:f=heapSort ltN d a b:=by rw[heapSort,← H.out.2.2];exact c.out.2.2
     rw[← e];exact c.out.1
    |succ k=>
     obtain⟨V,y⟩:∃V:Nat→Nat,∀t,V t=f[t]!:=⟨fun t=>f[t]!,fun _=>rfl⟩;have r:=aA y;clear y;rcases Oh k with D|U
     ·subst D;have E:∀t,t<d.size→wr.cell? ⟨g,t,none⟩=some (.int .u64 ((V t:Nat):Int)):=fun t F=>by rw[r.out];exact c.out.1.cell (by omega)
      have G:∀t,t<d.size→wr.frozen? ⟨g,t,none⟩=false:=fun t _=>c.out.1.fz t
      have I:(a:Int)<(d.size:Int):=by omega
      have J:a<d.size:=by omega
      have K:(a:Int)<(d.size:Int):=by omega
      have L:a<d.size:=by omega
      have M:((a:Int)).toNat=a:=by omega
      have n:=c.out.1.im c.out.2.1 (i:=a) (j:=a) (by omega) (by omega) r.out 1;have m:=rJ g cap S 0 0 a (Ob f a (a)) _ n.1 (IM _) (by rw[J9];omega) (by rw[J9];omega);rw[J9,q]at m;have u:=aA n.2;clear n;go_wp2_with fail
      go_region
      all_goals go_wp2_with fail
      refine m.mono ?_
      rintro e z ⟨rfl,o,p⟩;go_wp2;go_roundg 0
      case measure=>omega
      case rel=>exact⟨by first|rfl|(congr 1;omega),by omega,Ks ltN 0 a 0 (Ob f a (a)),by rw[yP,J9];exact q,aA ⟨o,u.out.trans p,c.out.2.2⟩⟩
     ·skip
      have E:∀t,t<d.size→wr.cell? ⟨g,t,none⟩=some (.int .u64 ((V t:Nat):Int)):=fun t F=>by rw[r.out];exact c.out.1.cell (by omega)
      have G:∀t,t<d.size→wr.frozen? ⟨g,t,none⟩=false:=fun t _=>c.out.1.fz t
      have I:(a:Int)<(d.size:Int):=by omega
      have J:a<d.size:=by omega
      have K:(a:Int)+(k:Int)<(d.size:Int):=by omega
      have L:a+k<d.size:=by omega
      have M:((a:Int)+(k:Int)).toNat=a+k:=by omega
      have n:=c.out.1.im c.out.2.1 (i:=a) (j:=a+k) (by omega) (by omega) r.out 1;have m:=rJ g cap S 0 k a (Ob f a (a+k)) _ n.1 (IM _) (by rw[J9];omega) (by rw[J9];omega);rw[J9,q]at m;have u:=aA n.2;clear n;go_wp2_with fail
      go_region
      all_goals go_wp2_with fail
      refine m.mono ?_
      rintro e z ⟨rfl,o,p⟩;go_wp2;go_roundg k
      case measure=>omega
      case rel=>exact⟨by first|rfl|(congr 1;omega),by omega,Ks ltN k a 0 (Ob f a (a+k)),by rw[yP,J9];exact q,aA ⟨o,u.out.trans p,c.out.2.2⟩⟩
  |succ k=>
   have m:=rJ g cap S k (b-a) a l wr H.out.1 (by omega) (by omega) (by omega);rw[s]at m;go_wp2_with fail
   refine m.mono ?_
   rintro e z ⟨rfl,o,p⟩;go_wp2;go_roundg k
   case measure=>omega
   case rel=>exact⟨by congr 1,by omega,Ks ltN (b-a) a k l,by rw[yP];exact s,aA ⟨o,H.out.2.1.trans p,H.out.2.2⟩⟩
theorem FM(g cap S a b:Nat)(d:Array Nat)(w:vF)(h:Rw w g S d)(x:a<b)(y:b≤d.size)(z:d.size≤1000) :
  I5 hE 197 #[.slice (some ⟨g,0,none⟩) d.size cap,.int .i64 a,.int .i64 b] w fun e w'=>e=.returned (.tuple #[])∧∃f,Rw w' g S f∧Kz a b d f∧Kb [g] w w':=by
 go_enter Tryz.func197,Tryz.ntmps197
 go_wp2;go_loopg [6,7] (b-a) (fun k o p wr=>∃(i j:Nat) (c:Array Nat),o=.int .i64 i∧p=.int .i64 j∧a≤i∧j<b∧j-i≤k∧c.size=d.size∧I3 (Rw wr g S c∧Kb [g] w wr∧Kz a b d c))
 case atStart=>exact⟨a,b-1,d,rfl,by congr 1;omega,gO _,by omega,by omega,rfl,aA ⟨h,Kb.refl _ _,OH _ _ _⟩⟩
 case round=>
  obtain⟨i,j,c,rfl,rfl,q,r,A,s,H⟩:=hrel;by_cases B:i<j
  ·have u:(i:Int)<(j:Int):=by omega
   obtain⟨V,l⟩:∃V:Nat→Nat,∀t,V t=c[t]!:=⟨fun t=>c[t]!,fun _=>rfl⟩;have m:=aA l;clear l;have C:∀t,t<d.size→wr.cell? ⟨g,t,none⟩=some (.int .u64 ((V t:Nat):Int)):=fun t D=>by rw[m.out];exact H.out.1.cell (by omega)
   have E:∀t,t<d.size→wr.frozen? ⟨g,t,none⟩=false:=fun t _=>H.out.1.fz t
   have F:(i:Int)<(d.size:Int):=by omega
   have G:i<d.size:=by omega
   have I:(j:Int)<(d.size:Int):=by omega
   have J:j<d.size:=by omega
   go_wp2_with fail
   go_region
   all_goals go_wp2
   go_roundg (j-1-(i+1))
   case measure=>omega
   case rel=>have n:=H.out.1.im H.out.2.1 (i:=i) (j:=j) (by omega) (by omega) m.out 1;exact⟨i+1,j-1,Ob c i j,by first|rfl|(congr 1;omega),by first|rfl|(congr 1;omega),by omega,by omega,gO _,by rw[J9];exact s,aA ⟨n.1,n.2,permIn_trans _ _ _ _ _ H.out.2.2 (swp_permIn _ _ _ _ _ q (by omega) (by omega) r (by omega))⟩⟩
  ·have u:¬(i:Int)<(j:Int):=by omega
   go_wp2;go_end0
   exact⟨rfl,c,H.out.1,H.out.2.2,H.out.2.1⟩
def vB(w:vF)(a s:Nat):Prop:=w.heap[a]?=some (.cells #[.int .i64 (s:Int)] 3 (0,0))
theorem pJ(g cap S a s x y:Nat)(d:Array Nat)(w:vF)(h:Rw w g S d)(b:vB w a s)(l:x<d.size)(m:y<d.size)(n:s≤1000) :
  I5 hE 209 #[.slice (some ⟨g,0,none⟩) d.size cap,.int .i64 x,.int .i64 y,.pointer (some ⟨a,0,none⟩)] w fun e w'=>∃p q c:Nat,e=.returned (.tuple #[.int .i64 p,.int .i64 q])∧((p=x∧q=y)∨(p=y∧q=x))∧c≤s+1∧vB w' a c∧Kb [a] w w':=by
 obtain⟨V,f⟩:∃V:Nat→Nat,∀t,V t=d[t]!:=⟨fun t=>d[t]!,fun _=>rfl⟩;have j:=aA f;clear f;have o:∀t,t<d.size→w.cell? ⟨g,t,none⟩=some (.int .u64 ((V t:Nat):Int)):=fun t k=>by rw[j.out];exact h.cell k
 have r:(x:Int)<(d.size:Int):=by omega
 have u:(y:Int)<(d.size:Int):=by omega
 have z:w.cell? ⟨a,0,none⟩=some (.int .i64 (s:Int)):=by rw[aC b];rfl
 have A:w.frozen? ⟨a,0,none⟩=false:=aE b 0;have i:=aA b;clear b;go_enter Tryz.func209,Tryz.ntmps209
 go_wp2_with fail
 go_quiet (first|(go_at_call 199;refine I4 (cN _ _ _)))
 cases B:ltN (V y) (V x)
 ·go_wp2;refine IG (v:=.tuple #[.int .i64 x,.int .i64 y]) (by simp[Jl,OI,go_sem]) rfl ?_
  exact⟨x,y,s,rfl,.inl ⟨rfl,rfl⟩,by omega,i.out,(Kb.refl _ _).drewN nq⟩
 ·go_wp2;refine IG (v:=.tuple #[.int .i64 y,.int .i64 x]) (by simp[Jl,OI,go_sem]) rfl ?_
  refine⟨y,x,s+1,rfl,.inr ⟨rfl,rfl⟩,by omega,?_,?_⟩
  ·unfold vB;rw[aI (w:=w.drewN nq) i.out];rfl
  ·exact((Kb.refl _ _).drewN nq).setCell (p:=⟨a,0,none⟩) (.inl (by simp)) _
theorem Ck(g cap S a s x y z:Nat)(d:Array Nat)(w:vF)(h:Rw w g S d)(n:vB w a s)(b:g≠a)(o:x<d.size)(q:y<d.size)(r:z<d.size)(M:s≤900) :
  I5 hE 207 #[.slice (some ⟨g,0,none⟩) d.size cap,.int .i64 x,.int .i64 y,.int .i64 z,.pointer (some ⟨a,0,none⟩)] w fun e w'=>∃p c:Nat,e=.returned (.int .i64 p)∧(p=x∨p=y∨p=z)∧c≤s+3∧vB w' a c∧Kb [a] w w':=by
 have f:=pJ g cap S a s x y d w h n o q (by omega);go_enter Tryz.func207,Tryz.ntmps207
 go_wp2_with fail
 refine f.mono ?_
 rintro e t ⟨u,A,B,rfl,N,O,C,i⟩;have j:=h.kb i (by simpa using b);have k:=pJ g cap S a B A z d t j C (by omega) r (by omega);clear f;go_wp2_with fail
 refine k.mono ?_
 rintro e D ⟨E,P,F,rfl,Q,R,G,l⟩;have H:=j.kb l (by simpa using b);have m:=pJ g cap S a F u E d D H G (by omega) (by omega) (by omega);clear k;go_wp2_with fail
 refine m.mono ?_
 rintro e T ⟨U,I,J,rfl,V,X,K,L⟩;clear m;go_wp2;go_ret
 exact⟨I,J,rfl,by omega,by omega,K,(i.trans l).trans L⟩
theorem Cl(g cap S a b:Nat)(d:Array Nat)(w:vF)(h:Rw w g S d)(C:a+8≤b)(D:b-a<50)(E:b≤d.size)(F:d.size≤1000) :
  I5 hE 196 #[.slice (some ⟨g,0,none⟩) d.size cap,.int .i64 a,.int .i64 b] w fun e w'=>∃p t:Nat,e=.returned (.tuple #[.int .i64 p,.int .i64 t])∧a≤p∧p<b∧t≤2∧Kb [] w w':=by
 obtain⟨f,j⟩:∃f,f=w.alloc (.cells #[.int .i64 0] 3):=⟨_,rfl⟩;have m:Kb [] w f:=by rw[j];exact(Kb.refl [] w).alloc _
 have o:vB f w.heap.size 0:=by unfold vB;rw[j];exact aD _ _
 have G:=h.lt;have l:=Ck g cap S w.heap.size 0 (a+(b-a) / 4*1) (a+(b-a) / 4*2) (a+(b-a) / 4*3) d f (h.kb m (by simp)) o (by omega) (by omega) (by omega) (by omega) (by omega);have H:(8:Int)≤(b:Int)-(a:Int):=by omega
 have I:¬(50:Int)≤(b:Int)-(a:Int):=by omega
 have y:((b:Int)-(a:Int)).tdiv 4=(((b-a) / 4:Nat):Int):=by rw[KA (by omega)];omega
 have z:((b:Int)-(a:Int)) / 4=(((b-a) / 4:Nat):Int):=by omega
 obtain⟨q,n⟩:∃q,q=(b-a) / 4:=⟨_,rfl⟩;rw[← n]at l y z;have J:q*4≤b-a:=by omega
 have K:q≤100:=by omega
 have r:=aA (And.intro n m);rw[show((a+q*1:Nat):Int)=(a:Int)+(q:Int) by omega,show((a+q*2:Nat):Int)=(a:Int)+(q:Int)*2 by omega,show((a+q*3:Nat):Int)=(a:Int)+(q:Int)*3 by omega]at l;clear n m;go_enter Tryz.func196,Tryz.ntmps196
 go_wp2_with fail
 rw[← j];refine l.mono ?_
 rintro e s ⟨p,i,rfl,L,M,u,x⟩;have N:s.cell? ⟨w.heap.size,0,none⟩=some (.int .i64 (i:Int)):=by rw[aC u];rfl
 have c:I3 (Kb [] w s∧a≤p∧p<b):=by
  refine aA ⟨?_,by omega,by omega⟩;refine(r.out.2.mono (l':=[w.heap.size]) (by simp)).trans x |>.mono ?_
  intro k P A;simp at A;omega
 clear l j x u r o;have Q:¬(i:Int)=12:=by omega
 by_cases R:i=0
 ·have B:(i:Int)=0:=by omega
  go_wp2;refine IG (v:=.tuple #[.int .i64 p,.int .i64 1]) (by simp[Jl,OJ,go_sem]) rfl ?_
  exact⟨p,1,rfl,c.out.2.1,c.out.2.2,by omega,c.out.1⟩
 ·have B:¬(i:Int)=0:=by omega
  go_wp2;refine IG (v:=.tuple #[.int .i64 p,.int .i64 0]) (by simp[Jl,OJ,go_sem]) rfl ?_
  exact⟨p,0,rfl,c.out.2.1,c.out.2.2,by omega,c.out.1⟩
theorem D6(g cap S a b:Nat)(d:Array Nat)(w:vF)(h:Rw w g S d)(x:a<b)(y:b-a<50)(z:b≤d.size)(A:d.size≤1000) :
  I5 hE 198 #[.slice (some ⟨g,0,none⟩) d.size cap,.int .i64 a,.int .i64 b] w fun e w'=>∃r:Bool,e=.returned (.bool r)∧(r=true→Md ltN a b d)∧Kb [] w w':=by
 have B:(b:Int)-(a:Int)<50:=by omega
 obtain⟨V,m⟩:∃V:Nat→Nat,∀t,V t=d[t]!:=⟨fun t=>d[t]!,fun _=>rfl⟩;have c:=aA m;clear m;go_enter Tryz.func198,Tryz.ntmps198
 go_wp2;go_loopg [7,8] 1 (fun k f o wr=>k=1∧f=.int .i64 ((a:Int)+1)∧o=.int .i64 0∧wr=w)
 case atStart=>exact⟨rfl,rfl,rfl,rfl⟩
 case round=>
  obtain⟨rfl,rfl,rfl,C⟩:=hrel;subst wr;go_wp2;go_loopg [7] (b-a) (fun k f wr=>∃i:Nat,f=.int .i64 i∧a<i∧i≤b∧b-i≤k∧I3 (Md ltN a i d∧∃q,wr=w.drewN q))
  case atStart=>exact⟨a+1,by go_num,by omega,by omega,by omega,aA ⟨fun i j D E F=>by omega,0,rfl⟩⟩
  case round=>
   obtain⟨i,rfl,G,I,J,H⟩:=hrel;have K:∀t,t<d.size→wr.cell? ⟨g,t,none⟩=some (.int .u64 ((V t:Nat):Int)):=fun t p=>by
    obtain⟨q,e⟩:=H.out.2;rw[c.out,e];exact(h.kb ((Kb.refl [] w).drewN q) (by simp)).cell p
   have n:I3 (∀q,Kb [] w (wr.drewN q)):=by refine aA (fun q=>?_);obtain⟨l,e⟩:=H.out.2;rw[e];exact((Kb.refl [] w).drewN l).drewN q
   by_cases L:i<b
   ·have s:(i:Int)<(b:Int):=by omega
    have M:(i:Int)<(d.size:Int):=by omega
    have N:i<d.size:=by omega
    have O:(i:Int)-1<(d.size:Int):=by omega
    have P:i-1<d.size:=by omega
    have Q:(0:Int)≤(i:Int)-1:=by omega
    have R:((i:Int)-1).toNat=i-1:=by omega
    go_wp2_with fail
    go_quiet (first|(go_at_call 199;refine I4 (cN _ _ _)))
    cases u:ltN (V i) (V (i-1))
    ·go_wp2;go_roundg (b-(i+1))
     case measure=>omega
     case rel=>refine⟨i+1,by go_num,by omega,by omega,gO _,aA ⟨H.out.1.snoc tE (by rw[← c.out,← c.out];exact u),?_⟩⟩;obtain⟨l,e⟩:=H.out.2;exact⟨l+nq,by rw[e,Kg]⟩
    ·have T:¬(i:Int)=(b:Int):=by omega
     go_wp2;go_ret
     exact⟨false,rfl,by simp,n.out nq⟩
   ·have s:decide ((i:Int)<(b:Int))=false:=decide_eq_false (by omega);have e:i=b:=by omega
    subst e;go_wp2_with fail
    go_quiet (first|(go_at_call 199;refine I4 (cN _ _ _)))
    go_wp2;go_ret
    exact⟨true,rfl,fun _=>H.out.1,n.out nq⟩
theorem FN(g cap S a b l:Nat)(d:Array Nat)(w:vF)(h:Rw w g S d)(a0:a≤l)(a1:l<b)(hb:b≤d.size)(aa:d.size≤1000) :
  I5 hE 200 #[.slice (some ⟨g,0,none⟩) d.size cap,.int .i64 a,.int .i64 b,.int .i64 l] w fun e w'=>∃mid y,e=.returned (.int .i64 ((mid:Nat):Int))∧Rw w' g S y∧Kb [g] w w'∧a<mid∧mid≤b∧Kz a b d y∧(∀t,a≤t→t<mid→y[t]!≤d[l]!)∧(∀t,mid≤t→t<b→d[l]! < y[t]!):=by
 obtain⟨p,K⟩:∃p,p=d[l]!:=⟨_,rfl⟩;obtain⟨q,X⟩:∃q:Nat→Bool,∀x,q x=!ltN p x:=⟨fun x=>!ltN p x,fun _=>rfl⟩;have Y:Prt q d (Ob d a l) a b p (a+1) (b-1):=by rw[K];exact Prt.start a0 a1 hb
 rw[← K];have Z:=aA X;have HP:=aA Y;clear X K Y;obtain⟨U,hU⟩:∃U:Nat→Nat,∀t,U t=d[t]!:=⟨fun t=>d[t]!,fun _=>rfl⟩;have L:=aA hU;clear hU;have ca:w.cell? ⟨g,a,none⟩=some (.int .u64 ((U a:Nat):Int)):=by rw[L.out];exact h.cell (by omega)
 have cp:w.cell? ⟨g,l,none⟩=some (.int .u64 ((U l:Nat):Int)):=by rw[L.out];exact h.cell (by omega)
 have fa:w.frozen? ⟨g,a,none⟩=false:=h.fz a;have fp:w.frozen? ⟨g,l,none⟩=false:=h.fz l;have b1:(a:Int)<(d.size:Int):=by omega
 have b2:a<d.size:=by omega
 have b3:(l:Int)<(d.size:Int):=by omega
 have b4:l<d.size:=by omega
 obtain⟨v',a2⟩:=KS (w:=w) (p:=⟨g,a,none⟩) (x:=.int .u64 ((U l:Nat):Int)) (q:=⟨g,l,none⟩) cp;go_enter Tryz.func200,Tryz.ntmps200
 go_wp2_with fail
 go_region
 go_wp2_with fail
 go_loopg [9,10] (b-a) (fun k M N wr=>∃(i j:Nat) (m:Array Nat),M=.int .i64 i∧N=.int .i64 j∧a<i∧i≤j+1∧j<b∧j+1-i≤k∧m.size=d.size∧I3 (Rw wr g S m∧Kb [g] w wr∧Prt q d m a b p i j))
 case atStart=>have r:=h.im (Kb.refl [g] w) (i:=a) (j:=l) (by omega) (by omega) L.out 1;exact⟨a+1,b-1,Ob d a l,by first|rfl|(congr 1;omega),by first|rfl|(congr 1;omega),by omega,by omega,by omega,by omega,J9 _ _ _,aA ⟨r.1,r.2,HP.out⟩⟩
 case round=>
  obtain⟨i,j,m,rfl,rfl,ab,a3,ad,hk,a4,H⟩:=hrel;clear ca cp fa fp a2 b1 b2 b3 b4;obtain⟨V,hV⟩:∃V:Nat→Nat,∀t,V t=m[t]!:=⟨fun t=>m[t]!,fun _=>rfl⟩;have s:=aA hV;clear hV;have z:I3 (∀t,q m[t]! = !ltN (V a) (V t)):=aA (fun t=>by rw[Z.out,s.out,s.out,H.out.2.2.piv]);go_wp2_with fail
  go_loopg [9] (j+1-i) (fun k M w1=>∃c:Nat,M=.int .i64 c∧i≤c∧c≤j+1∧j+1-c≤k∧I3 (Prt q d m a b p c j∧∃n,w1=wr.drewN n))
  case atStart=>exact⟨i,rfl,gO _,a3,gO _,aA ⟨H.out.2.2,0,rfl⟩⟩
  case round=>
   obtain⟨c,rfl,ae,a5,af,A⟩:=hrel;rename vF=>B
   have C:∀t,t<d.size→B.cell? ⟨g,t,none⟩=some (.int .u64 ((V t:Nat):Int)):=fun t ht=>by
    obtain⟨n,e⟩:=A.out.2;rw[s.out,e];exact(H.out.1.kb ((Kb.refl [] wr).drewN n) (by simp)).cell (by omega)
   have c0:(a:Int)<(d.size:Int):=by omega
   have c1:a<d.size:=by omega
   go_upto_region 3 with fail
   go_cut [43] (fun a6 O=>a6=.bool (decide (c≤j) && !ltN (V a) (V c))∧∃n,O=B.drewN n)
   case first=>
    by_cases o:c≤j
    ·have P:(c:Int)≤(j:Int):=by omega
     have c2:(c:Int)<(d.size:Int):=by omega
     have c3:c<d.size:=by omega
     go_quiet (first|(go_at_call 199;refine I4 (cN _ _ _)))
     go_wp2;go_meet
     case rel=>exact⟨by simp[o],nq,rfl⟩
    ·have P:decide ((c:Int)≤(j:Int))=false:=decide_eq_false (by omega);go_quiet (first|(go_at_call 199;refine I4 (cN _ _ _)))
     go_wp2;go_meet
     case rel=>exact⟨by simp[o],nq,rfl⟩
   case rest=>
    obtain⟨rfl,Q,rfl⟩:=hcut;have R:I3 (∃n,B.drewN Q=wr.drewN n):=by obtain⟨n,e⟩:=A.out.2;exact aA ⟨n+Q,by rw[e,Kg]⟩
    clear C;generalize B.drewN Q=W2 at R ⊢;cases D:(decide (c≤j) && !ltN (V a) (V c))
    ·go_wp2_with fail
     go_loopg [10] (j+1) (fun k N w2=>∃f:Nat,N=.int .i64 f∧f≤j∧c≤f+1∧f≤k∧I3 (Prt q d m a b p c f∧∃n,w2=wr.drewN n))
     case atStart=>exact⟨j,rfl,gO _,a5,by omega,aA ⟨A.out.1,R.out⟩⟩
     case round=>
      obtain⟨f,rfl,ag,ah,ai,u⟩:=hrel;rename vF=>E
      have C:∀t,t<d.size→E.cell? ⟨g,t,none⟩=some (.int .u64 ((V t:Nat):Int)):=fun t ht=>by
       obtain⟨n,e⟩:=u.out.2;rw[s.out,e];exact(H.out.1.kb ((Kb.refl [] wr).drewN n) (by simp)).cell (by omega)
      go_upto_region 5 with fail
      go_cut [59] (fun a7 O=>a7=.bool (decide (c≤f) && ltN (V a) (V f))∧∃n,O=E.drewN n)
      case first=>
       by_cases o:c≤f
       ·have P:(c:Int)≤(f:Int):=by omega
        have c2:(f:Int)<(d.size:Int):=by omega
        have c3:f<d.size:=by omega
        go_quiet (first|(go_at_call 199;refine I4 (cN _ _ _)))
        go_wp2;go_meet
        case rel=>exact⟨by simp[o],nq,rfl⟩
       ·have P:decide ((c:Int)≤(f:Int))=false:=decide_eq_false (by omega);go_quiet (first|(go_at_call 199;refine I4 (cN _ _ _)))
        go_wp2;go_meet
        case rel=>exact⟨by simp[o],nq,rfl⟩
      case rest=>
       obtain⟨rfl,T,rfl⟩:=hcut;have F:I3 (∃n,E.drewN T=wr.drewN n):=by obtain⟨n,e⟩:=u.out.2;exact aA ⟨n+T,by rw[e,Kg]⟩
       clear C;generalize E.drewN T=G at F ⊢;cases I:(decide (c≤f) && ltN (V a) (V f))
       ·by_cases r:f<c
        ·have a8:(f:Int)<(c:Int):=by omega
         go_wp2;go_ret
         obtain⟨f1,f2,f3,f4,f5⟩:=u.out.1.mc Z.out r;obtain⟨n,e⟩:=F.out;exact⟨c,m,rfl,by rw[e];exact H.out.1.kb ((Kb.refl [] wr).drewN n) (by simp),by rw[e];exact H.out.2.1.drewN n,f1,f2,f3,f4,f5⟩
        ·have a8:¬(f:Int)<(c:Int):=by omega
         have q1:q m[c]! = false:=by
          rw[z.out];have:c≤j:=by omega
          simpa[this]using D
         have q2:q m[f]! = true:=by
          rw[z.out];have:c≤f:=by omega
          simpa[this]using I
         obtain⟨aj,HN⟩:=u.out.1.swap (by omega) q1 q2;have a9:=aA HN;clear HN q1 q2;have J:I3 (Rw G g S m∧Kb [g] w G):=by obtain⟨n,e⟩:=F.out;rw[e];exact aA ⟨H.out.1.kb ((Kb.refl [] wr).drewN n) (by simp),H.out.2.1.drewN n⟩
         have C:∀t,t<d.size→G.cell? ⟨g,t,none⟩=some (.int .u64 ((V t:Nat):Int)):=fun t ht=>by rw[s.out];exact J.out.1.cell (by omega)
         have ak:∀t,t<d.size→G.frozen? ⟨g,t,none⟩=false:=fun t _=>J.out.1.fz t
         have c2:(f:Int)<(d.size:Int):=by omega
         have c3:f<d.size:=by omega
         have c4:(c:Int)<(d.size:Int):=by omega
         have c5:c<d.size:=by omega
         go_wp2_with fail
         go_region
         all_goals go_wp2
         go_roundg (f-1+1-(c+1))
         case measure=>omega
         case rel=>have r:=J.out.1.im J.out.2 (i:=c) (j:=f) (by omega) (by omega) s.out 1;exact⟨c+1,f-1,Ob m c f,by first|rfl|(congr 1;omega),by first|rfl|(congr 1;omega),by omega,by omega,by omega,gO _,by rw[J9];exact a4,aA ⟨r.1,r.2,a9.out⟩⟩
       ·have o:c≤f:=by
         simp at I;exact I.1
        go_wp2;go_roundg (f-1)
        case measure=>omega
        case rel=>refine⟨f-1,by first|rfl|(congr 1;omega),by omega,by omega,gO _,aA ⟨u.out.1.down o ?_,F.out⟩⟩;rw[z.out];simpa[o]using I
    ·have o:c≤j:=by
      simp at D;exact D.1
     go_wp2;go_roundg (j+1-(c+1))
     case measure=>omega
     case rel=>refine⟨c+1,by first|rfl|(congr 1;omega),by omega,by omega,gO _,aA ⟨A.out.1.up o ?_,R.out⟩⟩;rw[z.out];simpa[o]using D
theorem FO(g cap S a b o:Nat)(d:Array Nat)(w:vF)(h:Rw w g S d)(ab:a≤o)(ad:o<b)(hb:b≤d.size)(ao:d.size≤1000) :
  I5 hE 201 #[.slice (some ⟨g,0,none⟩) d.size cap,.int .i64 a,.int .i64 b,.int .i64 o] w fun e w'=>∃mid al R,e=.returned (.tuple #[.int .i64 ((mid:Nat):Int),.bool al])∧Rw w' g S R∧Kb [g] w w'∧a≤mid∧mid<b∧Kz a b d R∧(∀t,a≤t→t<mid→R[t]! < R[mid]!)∧(∀t,mid<t→t<b→R[mid]!≤R[t]!):=by
 obtain⟨p,hp⟩:∃p,p=d[o]!:=⟨_,rfl⟩;obtain⟨q,hq⟩:∃q:Nat→Bool,∀x,q x=ltN x p:=⟨fun x=>ltN x p,fun _=>rfl⟩;have P0:Prt q d (Ob d a o) a b p (a+1) (b-1):=by rw[hp];exact Prt.start ab ad hb
 have HQ:=aA hq;have HP:=aA P0;clear hq hp P0;obtain⟨U,hU⟩:∃U:Nat→Nat,∀t,U t=d[t]!:=⟨fun t=>d[t]!,fun _=>rfl⟩;have HU:=aA hU;clear hU;have ca:w.cell? ⟨g,a,none⟩=some (.int .u64 ((U a:Nat):Int)):=by rw[HU.out];exact h.cell (by omega)
 have cp:w.cell? ⟨g,o,none⟩=some (.int .u64 ((U o:Nat):Int)):=by rw[HU.out];exact h.cell (by omega)
 have fa:w.frozen? ⟨g,a,none⟩=false:=h.fz a;have fp:w.frozen? ⟨g,o,none⟩=false:=h.fz o;have b1:(a:Int)<(d.size:Int):=by omega
 have b2:a<d.size:=by omega
 have b3:(o:Int)<(d.size:Int):=by omega
 have b4:o<d.size:=by omega
 obtain⟨v',a5⟩:=KS (w:=w) (p:=⟨g,a,none⟩) (x:=.int .u64 ((U o:Nat):Int)) (q:=⟨g,o,none⟩) cp;have L:=h.im (Kb.refl [g] w) (i:=a) (j:=o) (by omega) (by omega) HU.out 1;go_enter Tryz.func201,Tryz.ntmps201
 go_wp2_with fail
 go_region
 go_wp2_with fail
 clear ca cp fa fp b1 b2 b3 b4 a5 v';have ei:(a:Int)+1=((a+1:Nat):Int):=by omega
 have ej:(b:Int)-1=((b-1:Nat):Int):=by omega
 rw[ei,ej];clear ei ej;obtain⟨i,hi⟩:∃i,i=a+1:=⟨_,rfl⟩;obtain⟨j,hj⟩:∃j,j=b-1:=⟨_,rfl⟩;obtain⟨wr,a6⟩:∃wr,wr=((w.setCell ⟨g,a,none⟩ (.int .u64 ((U o:Nat):Int))).setCell ⟨g,o,none⟩ (.int .u64 ((U a:Nat):Int))).drew:=⟨_,rfl⟩;have H:I3 (Rw wr g S (Ob d a o)∧Kb [g] w wr∧Prt q d (Ob d a o) a b p i j):=by rw[a6,hi,hj];exact aA ⟨L.1,L.2,HP.out⟩
 have a3:(Ob d a o).size=d.size:=J9 _ _ _;clear HP L;rw[← hi,← hj,← a6];clear a6;clear HU;have a7:i≤j+1:=by omega
 have ae:j<b:=by omega
 have af:a<i:=by omega
 clear hi hj;generalize Ob d a o=l at H a3;obtain⟨V,X⟩:∃V:Nat→Nat,∀t,V t=l[t]!:=⟨fun t=>l[t]!,fun _=>rfl⟩;have r:=aA X;clear X;have A:I3 (∀t,q l[t]! = ltN (V t) (V a)):=aA (fun t=>by rw[HQ.out,r.out,r.out,H.out.2.2.piv]);have c0:(a:Int)<(d.size:Int):=by omega
 have c1:a<d.size:=by omega
 go_wp2_with fail
 go_loopg [10] (j+1-i) (fun k Y w1=>∃c:Nat,Y=.int .i64 c∧i≤c∧c≤j+1∧j+1-c≤k∧I3 (Prt q d l a b p c j∧∃n,w1=wr.drewN n))
 case atStart=>exact⟨i,rfl,gO _,a7,gO _,aA ⟨H.out.2.2,0,rfl⟩⟩
 case round=>
  obtain⟨c,rfl,ag,a8,ah,B⟩:=hrel;rename vF=>E
  have u:∀t,t<d.size→E.cell? ⟨g,t,none⟩=some (.int .u64 ((V t:Nat):Int)):=fun t Z=>by
   obtain⟨n,e⟩:=B.out.2;rw[r.out,e];exact(H.out.1.kb ((Kb.refl [] wr).drewN n) (by simp)).cell (by omega)
  go_upto_region 3 with fail
  go_cut [43] (fun M N=>M=.bool (decide (c≤j) && ltN (V c) (V a))∧∃n,N=E.drewN n)
  case first=>
   by_cases m:c≤j
   ·have O:(c:Int)≤(j:Int):=by omega
    have G:(c:Int)<(d.size:Int):=by omega
    have I:c<d.size:=by omega
    go_quiet (first|(go_at_call 199;refine I4 (cN _ _ _)))
    go_wp2;go_meet
    case rel=>exact⟨by simp[m],nq,rfl⟩
   ·have O:decide ((c:Int)≤(j:Int))=false:=decide_eq_false (by omega);go_quiet (first|(go_at_call 199;refine I4 (cN _ _ _)))
    go_wp2;go_meet
    case rel=>exact⟨by simp[m],nq,rfl⟩
  case rest=>
   obtain⟨rfl,P,rfl⟩:=hcut;have J:I3 (∃n,E.drewN P=wr.drewN n):=by obtain⟨n,e⟩:=B.out.2;exact aA ⟨n+P,by rw[e,Kg]⟩
   clear u;generalize E.drewN P=W2 at J ⊢;cases C:(decide (c≤j) && ltN (V c) (V a))
   ·go_wp2_with fail
    go_loopg [11] (j+1) (fun k a0 w2=>∃f:Nat,a0=.int .i64 f∧f≤j∧c≤f+1∧f≤k∧I3 (Prt q d l a b p c f∧∃n,w2=wr.drewN n))
    case atStart=>exact⟨j,rfl,gO _,a8,by omega,aA ⟨B.out.1,J.out⟩⟩
    case round=>
     obtain⟨f,rfl,ai,aj,ak,y⟩:=hrel;rename vF=>F
     have u:∀t,t<d.size→F.cell? ⟨g,t,none⟩=some (.int .u64 ((V t:Nat):Int)):=fun t Z=>by
      obtain⟨n,e⟩:=y.out.2;rw[r.out,e];exact(H.out.1.kb ((Kb.refl [] wr).drewN n) (by simp)).cell (by omega)
     go_upto_region 5 with fail
     go_cut [60] (fun M N=>M=.bool (decide (c≤f) && !ltN (V f) (V a))∧∃n,N=F.drewN n)
     case first=>
      by_cases m:c≤f
      ·have O:(c:Int)≤(f:Int):=by omega
       have G:(f:Int)<(d.size:Int):=by omega
       have I:f<d.size:=by omega
       go_quiet (first|(go_at_call 199;refine I4 (cN _ _ _)))
       go_wp2;go_meet
       case rel=>exact⟨by simp[m],nq,rfl⟩
      ·have O:decide ((c:Int)≤(f:Int))=false:=decide_eq_false (by omega);go_quiet (first|(go_at_call 199;refine I4 (cN _ _ _)))
       go_wp2;go_meet
       case rel=>exact⟨by simp[m],nq,rfl⟩
     case rest=>
      obtain⟨rfl,Q,rfl⟩:=hcut;have K:I3 (∃n,F.drewN Q=wr.drewN n):=by obtain⟨n,e⟩:=y.out.2;exact aA ⟨n+Q,by rw[e,Kg]⟩
      clear u;generalize F.drewN Q=z at K ⊢;cases D:(decide (c≤f) && !ltN (V f) (V a))
      ·have s:I3 (Rw z g S l∧Kb [g] w z):=by
        obtain⟨n,e⟩:=K.out;rw[e];exact aA ⟨H.out.1.kb ((Kb.refl [] wr).drewN n) (by simp),H.out.2.1.drewN n⟩
       have u:∀t,t<d.size→z.cell? ⟨g,t,none⟩=some (.int .u64 ((V t:Nat):Int)):=fun t Z=>by rw[r.out];exact s.out.1.cell (by omega)
       have aa:∀t,t<d.size→z.frozen? ⟨g,t,none⟩=false:=fun t _=>s.out.1.fz t
       by_cases L:f<c
       ·have a9:(f:Int)<(c:Int):=by omega
        have am:a≤f:=by omega
        have G:(f:Int)<(d.size:Int):=by omega
        have I:f<d.size:=by omega
        obtain⟨v',a5⟩:=KS (w:=z) (p:=⟨g,f,none⟩) (x:=.int .u64 ((V a:Nat):Int)) (q:=⟨g,a,none⟩) (u a (by omega));go_wp2_with fail
        go_region
        all_goals go_wp2
        refine IG (v:=.tuple #[.int .i64 f,.bool true]) (by simp[Jl,OK,go_sem]) rfl ?_
        obtain⟨f1,f2,f3,f4,f5⟩:=y.out.1.fin HQ.out L;have a1:=s.out.1.im s.out.2 (i:=f) (j:=a) (by omega) (by omega) r.out 1;exact⟨f,true,Ob l f a,rfl,a1.1,a1.2,f1,f2,f3,f4,f5⟩
       ·have a9:¬(f:Int)<(c:Int):=by omega
        have q1:q l[c]! = false:=by
         rw[A.out];have:c≤j:=by omega
         simpa[this]using C
        have q2:q l[f]! = true:=by
         rw[A.out];have:c≤f:=by omega
         simpa[this]using D
        obtain⟨an,HN⟩:=y.out.1.swap (by omega) q1 q2;have a4:=aA HN;clear HN q1 q2;have G:(f:Int)<(d.size:Int):=by omega
        have I:f<d.size:=by omega
        have c4:(c:Int)<(d.size:Int):=by omega
        have c5:c<d.size:=by omega
        have a2:=s.out.1.im s.out.2 (i:=c) (j:=f) (by omega) (by omega) r.out 1;have T:=aA a2;clear a2;go_wp2_with fail
        go_region
        all_goals go_wp2_with fail
        clear u aa c0 c1 G I c4 c5;go_loopg [10,11] (b-a) (fun k Y a0 wr=>∃(i j:Nat) (l:Array Nat),Y=.int .i64 i∧a0=.int .i64 j∧a<i∧i≤j+1∧j<b∧j+1-i≤k∧l.size=d.size∧I3 (Rw wr g S l∧Kb [g] w wr∧Prt q d l a b p i j))
        case atStart=>exact⟨c+1,f-1,Ob l c f,by first|rfl|(congr 1;omega),by first|rfl|(congr 1;omega),by omega,by omega,by omega,by omega,by rw[J9];exact a3,aA ⟨T.out.1,T.out.2,a4.out⟩⟩
        case round=>
         clear H r A B y J K s a4 T C D;obtain⟨i,j,l,rfl,rfl,af,a7,ae,hk,a3,H⟩:=hrel;obtain⟨V,X⟩:∃V:Nat→Nat,∀t,V t=l[t]!:=⟨fun t=>l[t]!,fun _=>rfl⟩;have r:=aA X;clear X;have A:I3 (∀t,q l[t]! = ltN (V t) (V a)):=aA (fun t=>by rw[HQ.out,r.out,r.out,H.out.2.2.piv]);have c0:(a:Int)<(d.size:Int):=by omega
         have c1:a<d.size:=by omega
         go_wp2_with fail
         go_loopg [10] (j+1-i) (fun k Y w1=>∃c:Nat,Y=.int .i64 c∧i≤c∧c≤j+1∧j+1-c≤k∧I3 (Prt q d l a b p c j∧∃n,w1=wr.drewN n))
         case atStart=>exact⟨i,rfl,gO _,a7,gO _,aA ⟨H.out.2.2,0,rfl⟩⟩
         case round=>
          obtain⟨c,rfl,ag,a8,ah,B⟩:=hrel;rename vF=>E
          have u:∀t,t<d.size→E.cell? ⟨g,t,none⟩=some (.int .u64 ((V t:Nat):Int)):=fun t Z=>by
           obtain⟨n,e⟩:=B.out.2;rw[r.out,e];exact(H.out.1.kb ((Kb.refl [] wr).drewN n) (by simp)).cell (by omega)
          go_upto_region 13 with fail
          go_cut [112] (fun M N=>M=.bool (decide (c≤j) && ltN (V c) (V a))∧∃n,N=E.drewN n)
          case first=>
           by_cases m:c≤j
           ·have O:(c:Int)≤(j:Int):=by omega
            have G:(c:Int)<(d.size:Int):=by omega
            have I:c<d.size:=by omega
            go_quiet (first|(go_at_call 199;refine I4 (cN _ _ _)))
            go_wp2;go_meet
            case rel=>exact⟨by simp[m],nq,rfl⟩
           ·have O:decide ((c:Int)≤(j:Int))=false:=decide_eq_false (by omega);go_quiet (first|(go_at_call 199;refine I4 (cN _ _ _)))
            go_wp2;go_meet
            case rel=>exact⟨by simp[m],nq,rfl⟩
          case rest=>
           obtain⟨rfl,P,rfl⟩:=hcut;have J:I3 (∃n,E.drewN P=wr.drewN n):=by obtain⟨n,e⟩:=B.out.2;exact aA ⟨n+P,by rw[e,Kg]⟩
           clear u;generalize E.drewN P=W2 at J ⊢;cases C:(decide (c≤j) && ltN (V c) (V a))
           ·go_wp2_with fail
            go_loopg [11] (j+1) (fun k a0 w2=>∃f:Nat,a0=.int .i64 f∧f≤j∧c≤f+1∧f≤k∧I3 (Prt q d l a b p c f∧∃n,w2=wr.drewN n))
            case atStart=>exact⟨j,rfl,gO _,a8,by omega,aA ⟨B.out.1,J.out⟩⟩
            case round=>
             obtain⟨f,rfl,ai,aj,ak,y⟩:=hrel;rename vF=>F
             have u:∀t,t<d.size→F.cell? ⟨g,t,none⟩=some (.int .u64 ((V t:Nat):Int)):=fun t Z=>by
              obtain⟨n,e⟩:=y.out.2;rw[r.out,e];exact(H.out.1.kb ((Kb.refl [] wr).drewN n) (by simp)).cell (by omega)
             go_upto_region 15 with fail
             go_cut [129] (fun M N=>M=.bool (decide (c≤f) && !ltN (V f) (V a))∧∃n,N=F.drewN n)
             case first=>
              by_cases m:c≤f
              ·have O:(c:Int)≤(f:Int):=by omega
               have G:(f:Int)<(d.size:Int):=by omega
               have I:f<d.size:=by omega
               go_quiet (first|(go_at_call 199;refine I4 (cN _ _ _)))
               go_wp2;go_meet
               case rel=>exact⟨by simp[m],nq,rfl⟩
              ·have O:decide ((c:Int)≤(f:Int))=false:=decide_eq_false (by omega);go_quiet (first|(go_at_call 199;refine I4 (cN _ _ _)))
               go_wp2;go_meet
               case rel=>exact⟨by simp[m],nq,rfl⟩
             case rest=>
              obtain⟨rfl,Q,rfl⟩:=hcut;have K:I3 (∃n,F.drewN Q=wr.drewN n):=by obtain⟨n,e⟩:=y.out.2;exact aA ⟨n+Q,by rw[e,Kg]⟩
              clear u;generalize F.drewN Q=z at K ⊢;cases D:(decide (c≤f) && !ltN (V f) (V a))
              ·have s:I3 (Rw z g S l∧Kb [g] w z):=by
                obtain⟨n,e⟩:=K.out;rw[e];exact aA ⟨H.out.1.kb ((Kb.refl [] wr).drewN n) (by simp),H.out.2.1.drewN n⟩
               have u:∀t,t<d.size→z.cell? ⟨g,t,none⟩=some (.int .u64 ((V t:Nat):Int)):=fun t Z=>by rw[r.out];exact s.out.1.cell (by omega)
               have aa:∀t,t<d.size→z.frozen? ⟨g,t,none⟩=false:=fun t _=>s.out.1.fz t
               by_cases L:f<c
               ·have a9:(f:Int)<(c:Int):=by omega
                have am:a≤f:=by omega
                have G:(f:Int)<(d.size:Int):=by omega
                have I:f<d.size:=by omega
                obtain⟨v',a5⟩:=KS (w:=z) (p:=⟨g,f,none⟩) (x:=.int .u64 ((V a:Nat):Int)) (q:=⟨g,a,none⟩) (u a (by omega));go_wp2_with fail
                go_region
                all_goals go_wp2
                refine IG (v:=.tuple #[.int .i64 f,.bool false]) (by simp[Jl,OK,go_sem]) rfl ?_
                obtain⟨f1,f2,f3,f4,f5⟩:=y.out.1.fin HQ.out L;have a1:=s.out.1.im s.out.2 (i:=f) (j:=a) (by omega) (by omega) r.out 1;exact⟨f,false,Ob l f a,rfl,a1.1,a1.2,f1,f2,f3,f4,f5⟩
               ·have a9:¬(f:Int)<(c:Int):=by omega
                have q1:q l[c]! = false:=by
                 rw[A.out];have:c≤j:=by omega
                 simpa[this]using C
                have q2:q l[f]! = true:=by
                 rw[A.out];have:c≤f:=by omega
                 simpa[this]using D
                obtain⟨an,HN⟩:=y.out.1.swap (by omega) q1 q2;have a4:=aA HN;clear HN q1 q2;have G:(f:Int)<(d.size:Int):=by omega
                have I:f<d.size:=by omega
                have c4:(c:Int)<(d.size:Int):=by omega
                have c5:c<d.size:=by omega
                have a2:=s.out.1.im s.out.2 (i:=c) (j:=f) (by omega) (by omega) r.out 1;have T:=aA a2;clear a2;go_wp2_with fail
                go_region
                all_goals go_wp2_with fail
                go_roundg (f-1+1-(c+1))
                case measure=>omega
                case rel=>exact⟨c+1,f-1,Ob l c f,by first|rfl|(congr 1;omega),by first|rfl|(congr 1;omega),by omega,by omega,by omega,gO _,by rw[J9];exact a3,aA ⟨T.out.1,T.out.2,a4.out⟩⟩
              ·have m:c≤f:=by
                simp at D;exact D.1
               go_wp2;go_roundg (f-1)
               case measure=>omega
               case rel=>refine⟨f-1,by first|rfl|(congr 1;omega),by omega,by omega,gO _,aA ⟨y.out.1.down m ?_,K.out⟩⟩;rw[A.out];simpa[m]using D
           ·have m:c≤j:=by
             simp at C;exact C.1
            go_wp2;go_roundg (j+1-(c+1))
            case measure=>omega
            case rel=>refine⟨c+1,by first|rfl|(congr 1;omega),by omega,by omega,gO _,aA ⟨B.out.1.up m ?_,J.out⟩⟩;rw[A.out];simpa[m]using C
      ·have m:c≤f:=by
        simp at D;exact D.1
       go_wp2;go_roundg (f-1)
       case measure=>omega
       case rel=>refine⟨f-1,by first|rfl|(congr 1;omega),by omega,by omega,gO _,aA ⟨y.out.1.down m ?_,K.out⟩⟩;rw[A.out];simpa[m]using D
   ·have m:c≤j:=by
     simp at C;exact C.1
    go_wp2;go_roundg (j+1-(c+1))
    case measure=>omega
    case rel=>refine⟨c+1,by first|rfl|(congr 1;omega),by omega,by omega,gO _,aA ⟨B.out.1.up m ?_,J.out⟩⟩;rw[A.out];simpa[m]using C
def AC(w:vF)(a:Nat):Prop:=∃r:Nat,r<18446744073709551616∧w.heap[a]?=some (.cells #[.int .u64 (r:Int)] 224 (0,0))
theorem Cm{x y:Nat}(a:x<18446744073709551616)(b:y<18446744073709551616):∃r:Nat,r<18446744073709551616∧bits .xor .u64 (x:Int) (y:Int)=(r:Int):=
 ⟨x ^^^ y,Nat.xor_lt_two_pow (n:=64) a b,bits_xor_u64_nat x y a b⟩
theorem D7(a:Nat)(w:vF)(h:AC w a) :
  I5 hE 170 #[.pointer (some ⟨a,0,none⟩)] w fun e w'=>∃r:Nat,r<18446744073709551616∧e=.returned (.int .u64 (r:Int))∧AC w' a∧Kb [a] w w':=by
 obtain⟨r,hr,l⟩:=h;have B:w.cell? ⟨a,0,none⟩=some (.int .u64 (r:Int)):=by rw[aC l];rfl
 have C:w.frozen? ⟨a,0,none⟩=false:=aE l 0;obtain⟨b,D,E⟩:=Cm (x:=r) (y:=r*8192 % 18446744073709551616) hr (by omega);rw[show((r*8192 % 18446744073709551616:Nat):Int)=Kc.wrap ((r:Int)*8192) by rw[JJ];omega]at E;obtain⟨c,F,G⟩:=Cm (x:=b) (y:=b / 128) D (by omega);rw[show((b / 128:Nat):Int)=(b:Int) / 128 by omega]at G;obtain⟨d,q,H⟩:=Cm (x:=c) (y:=c*131072 % 18446744073709551616) F (by omega);rw[show((c*131072 % 18446744073709551616:Nat):Int)=Kc.wrap ((c:Int)*131072) by rw[JJ];omega]at H;have s:=aA (And.intro l (Kb.refl [a] w));clear l;go_enter Tryz.func170,Tryz.ntmps170
 go_wp2;go_region
 have f:(w.setCell ⟨a,0,none⟩ (.int .u64 (b:Int))).drew.heap[a]?=some (.cells #[.int .u64 (b:Int)] 224 (0,0)):=aI s.out.1 0 _;have m:Kb [a] w (w.setCell ⟨a,0,none⟩ (.int .u64 (b:Int))).drew:=(s.out.2.setCell (p:=⟨a,0,none⟩) (.inl (by simp)) _).drew;clear B C;generalize (w.setCell ⟨a,0,none⟩ (.int .u64 (b:Int))).drew=g at f m ⊢;have I:g.cell? ⟨a,0,none⟩=some (.int .u64 (b:Int)):=by rw[aC f];rfl
 have J:g.frozen? ⟨a,0,none⟩=false:=aE f 0;have t:=aA (And.intro f m);clear f m;go_wp2;go_region
 have i:(g.setCell ⟨a,0,none⟩ (.int .u64 (c:Int))).drew.heap[a]?=some (.cells #[.int .u64 (c:Int)] 224 (0,0)):=aI t.out.1 0 _;have n:Kb [a] w (g.setCell ⟨a,0,none⟩ (.int .u64 (c:Int))).drew:=(t.out.2.setCell (p:=⟨a,0,none⟩) (.inl (by simp)) _).drew;clear I J;generalize (g.setCell ⟨a,0,none⟩ (.int .u64 (c:Int))).drew=j at i n ⊢;have K:j.cell? ⟨a,0,none⟩=some (.int .u64 (c:Int)):=by rw[aC i];rfl
 have L:j.frozen? ⟨a,0,none⟩=false:=aE i 0;have u:=aA (And.intro i n);clear i n;go_wp2;go_region
 have k:(j.setCell ⟨a,0,none⟩ (.int .u64 (d:Int))).drew.heap[a]?=some (.cells #[.int .u64 (d:Int)] 224 (0,0)):=aI u.out.1 0 _;have o:Kb [a] w (j.setCell ⟨a,0,none⟩ (.int .u64 (d:Int))).drew:=(u.out.2.setCell (p:=⟨a,0,none⟩) (.inl (by simp)) _).drew;clear K L;generalize (j.setCell ⟨a,0,none⟩ (.int .u64 (d:Int))).drew=z at k o ⊢;have M:z.cell? ⟨a,0,none⟩=some (.int .u64 (d:Int)):=by rw[aC k];rfl
 have N:z.frozen? ⟨a,0,none⟩=false:=aE k 0;have A:=aA (And.intro k o);clear k o;go_wp2;go_ret
 exact⟨d,q,rfl,⟨d,q,A.out.1⟩,A.out.2⟩
theorem Hx:∀n:Nat,n≤40→1≤n→1≤2^Lh n∧2^Lh n≤2*n:=by decide
theorem xE:∀n:Nat,n≤40→Lh n≤6:=by decide
theorem FP(n:Nat)(w:vF)(c:n≤40) :
  I5 hE 169 #[.int .i64 (n:Int)] w fun e w'=>e=.returned (.int .u64 ((2^Lh n:Nat):Int))∧w'=w:=by
 have a:=Tryz.bits_Len (n:Int) w (by omega) (by omega);have d:=xE n c;have f:((n:Int)).toNat=n:=by omega
 rw[f]at a;generalize Lh n=k at *;go_enter Tryz.func169,Tryz.ntmps169
 go_wp2_with fail
 refine a.mono ?_
 rintro e h ⟨rfl,rfl⟩;go_wp2;go_ret
 refine⟨?_,rfl⟩;have i:(2:Nat)^k≤64:=Nat.pow_le_pow_right (n:=2) (by omega) d;have b:((2^k:Nat):Int)=2^k:=by simp
 have g:Kc.wrap (2^k)=((2^k:Nat):Int):=by rw[JJ,← b];clear b;generalize (2:Nat)^k=P at *;omega
 simp[g]
theorem Cn(g cap S a b:Nat)(d:Array Nat)(w:vF)(h:Rw w g S d)(a3:a+12<b)(hb:b≤d.size)(a4:d.size≤40) :
  I5 hE 195 #[.slice (some ⟨g,0,none⟩) d.size cap,.int .i64 a,.int .i64 b] w fun e w'=>e=.returned (.tuple #[])∧∃B,Rw w' g S B∧Kz a b d B∧Kb [g] w w':=by
 have a5:=h.lt;obtain⟨l,P⟩:∃l,l=b-a:=⟨_,rfl⟩;have ez:(b:Int)-(a:Int)=(l:Int):=by omega
 obtain⟨u,x⟩:∃u,u=w.alloc (.cells #[.int .u64 (l:Int)] 224):=⟨_,rfl⟩;have C:Kb [] w u:=by rw[x];exact(Kb.refl [] w).alloc _
 have D:AC u w.heap.size:=⟨l,by omega,by rw[x];exact aD _ _⟩;have E:=FP l u (by omega);obtain⟨m1,m2⟩:=Hx l (by omega) (by omega);generalize 2^Lh l=m at *;have z1:(8:Int)≤(l:Int):=by omega
 obtain⟨q,F⟩:∃q,q=l / 4*2:=⟨_,rfl⟩;have z3:(l:Int).tdiv 4*2=(q:Int):=by rw[KA (by omega)];omega
 have z4:(l:Int) / 4*2=(q:Int):=by omega
 have a6:4≤q∧q+1<l:=by omega
 have y:=aA (And.intro C D);have a7:a+l≤b:=by omega
 have a8:b≤a+l:=by omega
 have HQ:=aA F;clear C D P F;have a9:Kc.wrap (l:Int)=(l:Int):=by rw[JJ];omega
 go_enter Tryz.func195,Tryz.ntmps195
 go_wp2_with fail
 rw[← x];refine E.mono ?_
 rintro e Q ⟨rfl,aa⟩;subst Q;clear x E;go_wp2_with fail
 go_loopg [9] 3 (fun k R wr=>∃(i:Nat) (f:Array Nat),R=.int .i64 (i:Int)∧a+q≤i+1∧i≤a+q+2∧a+q+2-i≤k∧f.size=d.size∧I3 (Rw wr g S f∧Kb [g] w wr∧AC wr w.heap.size∧Kz a b d f))
 case atStart=>exact⟨a+q-1,d,by congr 1;omega,by omega,by omega,by omega,rfl,aA ⟨h.kb y.out.1 (by simp),y.out.1.mono (by simp),y.out.2,OH _ _ _⟩⟩
 case round=>
  obtain⟨i,f,rfl,ab,ad,n,T,H⟩:=hrel;by_cases ae:i≤a+q+1
  ·have U:(i:Int)≤(a:Int)+(q:Int)+1:=by omega
   have G:=D7 w.heap.size wr H.out.2.2.1;go_wp2_with fail
   refine G.mono ?_
   clear G;rintro e j ⟨r,hr,rfl,I,z⟩;have af:w.heap.size≠g:=by omega
   have s:I3 (Rw j g S f∧Kb [g] w j∧AC j w.heap.size∧Kz a b d f):=by refine aA ⟨H.out.1.kb z (by simp;omega),(H.out.2.1.mono (l':=[g,w.heap.size]) (by intro k _ n;simp at n;simp[n])).trans (z.mono (by intro k _ n;simp at n;simp[n])) |>.mono ?_,I,H.out.2.2.2⟩;intro k n J;simp at J ⊢;omega
   clear z I;obtain⟨V,K⟩:∃V:Nat→Nat,∀t,V t=f[t]!:=⟨fun t=>f[t]!,fun _=>rfl⟩;have L:=aA K;clear K;have X:∀t,t<d.size→j.cell? ⟨g,t,none⟩=some (.int .u64 ((V t:Nat):Int)):=fun t ht=>by rw[L.out];exact s.out.1.cell (by omega)
   have ag:∀t,t<d.size→j.frozen? ⟨g,t,none⟩=false:=fun t _=>s.out.1.fz t
   have J:Kc.wrap ((m:Int)-1)=((m-1:Nat):Int):=by rw[JJ];omega
   have hand:=u64_and_nat r (m-1) hr (by omega);have Y:=Nat.and_le_right (n:=r) (m:=m-1);generalize r &&& (m-1)=o at hand Y;have ai:IntKind.i64.wrap (o:Int)=(o:Int):=by rw[IntKind.wrap_i64];omega
   have b1:(i:Int)<(d.size:Int):=by omega
   have b2:i<d.size:=by omega
   obtain⟨c,A⟩:∃c,c=if l≤o then o-l else o:=⟨_,rfl⟩
   have aj:c<l:=by rw[A];split<;>omega
   have M:=aA A;clear A;go_upto_if 43 with fail
   go_cut [10] (fun Z wx=>Z=.int .i64 (c:Int)∧wx=j)
   case first=>
    by_cases N:l≤o
    ·have a0:(l:Int)≤(o:Int):=by omega
     go_wp2_with fail
     go_meet
     case rel=>exact⟨by rw[M.out,if_pos N];congr 1;omega,rfl⟩
    ·have a0:¬(l:Int)≤(o:Int):=by omega
     go_wp2_with fail
     go_meet
     case rel=>exact⟨by rw[M.out,if_neg N],rfl⟩
   case rest=>
    obtain⟨rfl,ak⟩:=hcut;subst wc;have b3:(a:Int)+(c:Int)<(d.size:Int):=by omega
    have b4:a+c<d.size:=by omega
    have e2:((a:Int)+(c:Int)).toNat=a+c:=by omega
    obtain⟨v',al⟩:=KS (w:=j) (p:=⟨g,i,none⟩) (x:=.int .u64 ((V (a+c):Nat):Int)) (q:=⟨g,a+c,none⟩) (X (a+c) (by omega));go_wp2_with fail
    go_region
    all_goals go_wp2
    go_roundg (a+q+2-(i+1))
    case measure=>omega
    case rel=>have O:=s.out.1.im s.out.2.1 (i:=i) (j:=a+c) (by omega) (by omega) L.out 1;refine⟨i+1,Ob f i (a+c),by first|rfl|(congr 1;omega),by omega,by omega,gO _,by rw[J9];exact T,aA ⟨O.1,O.2,?_,permIn_trans _ _ _ _ _ s.out.2.2.2 (swp_permIn _ _ _ _ _ (by omega) (by omega) (by omega) (by omega) (by omega))⟩⟩;obtain⟨r',a1,a2⟩:=s.out.2.2.1;have kk:Kb [g] j (((j.drewN 1).setCell ⟨g,i,none⟩ (.int .u64 ((V (a+c):Nat):Int))).setCell ⟨g,a+c,none⟩ (.int .u64 ((V i:Nat):Int))):=(((Kb.refl [g] j).drewN 1).setCell (p:=⟨g,i,none⟩) (.inl (by simp)) _).setCell (p:=⟨g,a+c,none⟩) (.inl (by simp)) _;exact⟨r',a1,kk.heap a2 (by simp;omega)⟩
  ·have U:¬(i:Int)≤(a:Int)+(q:Int)+1:=by omega
   go_wp2;go_end0
   exact⟨rfl,f,H.out.1,H.out.2.2.2,H.out.2.1⟩
theorem FQ:∀(N g cap S a b a0:Nat) (d:Array Nat) (w:vF),b-a<N→Rw w g S d→a≤b→b≤d.size→d.size≤40→a0≤1000→Below ltN a b d →
  I5 hE 179 #[.slice (some ⟨g,0,none⟩) d.size cap,.int .i64 a,.int .i64 b,.int .i64 a0] w fun e w'=>e=.returned (.tuple #[])∧∃d',Rw w' g S d'∧Kz a b d d'∧Md ltN a b d'∧Kb [g] w w':=by
 intro N;induction N with
 |zero=>intro _ _ _ _ _ _ _ _ a6;omega
 |succ N ih=>
  intro g cap S a b a0 d w hN a6 a7 u ar a9 aa;go_enter Tryz.func179,Tryz.ntmps179
  go_wp2;go_loopg [1,2,3,8,9] (b-a) (fun ab v1 v2 v3 v8 v9 wr=>∃(c h k:Nat) (I wp:Bool) (f:Array Nat),v1=.int .i64 c∧v2=.int .i64 h∧v3=.int .i64 k∧v8=.bool I∧v9=.bool wp∧a≤c∧c≤h∧h≤b∧h-c≤ab∧k≤1000∧f.size=d.size∧I3 (Rw wr g S f∧Kb [g] w wr∧Rest d a b f c h))
  case atStart=>exact⟨a,b,a0,true,true,d,rfl,rfl,rfl,rfl,rfl,gO _,a7,gO _,gO _,a9,rfl,aA ⟨a6,Kb.refl _ _,Rest.start a7 aa⟩⟩
  case round=>
   obtain⟨c,h,k,I,wp,f,rfl,rfl,rfl,rfl,rfl,au,a1,ad,hk,z,j,H⟩:=hrel;by_cases av:h-c≤12
   ·have ae:(h:Int)-(c:Int)≤12:=by omega
    have i:=FK g cap S c h f wr H.out.1 (by omega) (by omega) a1;rw[j]at i;go_wp2_with fail
    refine i.mono ?_
    clear i;rintro e w1 ⟨rfl,m,n⟩;have l:=aA (And.intro m n);clear m n;go_wp2_with fail
    (try simp only[LF,Exit.then])
    refine IG (KW rfl _ _ _) rfl ?_
    obtain⟨x,p2⟩:=insertionSort_holds tE f c h a1 (by omega);obtain⟨J,K⟩:=H.out.2.2.done u x p2;exact⟨rfl,_,l.out.1,J,K,H.out.2.1.trans l.out.2⟩
   ·have ae:¬(h:Int)-(c:Int)≤12:=by omega
    by_cases af:k=0
    ·have a8:(k:Int)=0:=by omega
     have i:=D5 g cap S c h f wr H.out.1 (by omega) (by omega) (by omega);rw[j]at i;go_wp2_with fail
     refine i.mono ?_
     clear i;rintro e w1 ⟨rfl,m,n⟩;have l:=aA (And.intro m n);clear m n;go_wp2_with fail
     (try simp only[LF,Exit.then])
     refine IG (KW rfl _ _ _) rfl ?_
     obtain⟨x,p2⟩:=heapSort_holds tE f c h a1 (by omega);obtain⟨J,K⟩:=H.out.2.2.done u x p2;exact⟨rfl,_,l.out.1,J,K,H.out.2.1.trans l.out.2⟩
    ·have a8:¬(k:Int)=0:=by omega
     go_upto_if 35 with fail
     go_cut [3] (fun v3 wc=>∃(k:Nat) (f:Array Nat),v3=.int .i64 k∧k≤1000∧f.size=d.size∧I3 (Rw wc g S f∧Kb [g] w wc∧Rest d a b f c h))
     case first=>
      cases I
      ·have i:=Cn g cap S c h f wr H.out.1 (by omega) (by omega) (by omega);rw[j]at i;go_wp2_with fail
       refine i.mono ?_
       clear i;rintro e w1 ⟨rfl,d1,m,x,n⟩;have l:=aA (And.intro m (And.intro x n));clear m n x;go_wp2_with fail
       go_meet
       case rel=>exact⟨k-1,d1,by congr 1;omega,by omega,l.out.2.1.1.trans j,aA ⟨l.out.1,H.out.2.1.trans l.out.2.2,H.out.2.2.step u l.out.2.1⟩⟩
      ·go_wp2_with fail
       go_meet
       case rel=>exact⟨k,f,rfl,z,j,H⟩
     case rest=>
      clear H j z af a8;obtain⟨k,f,rfl,z,j,H⟩:=hcut;have HP:=Cl g cap S c h f wc H.out.1 (by omega) (by omega) (by omega) (by omega);rw[j]at HP;go_upto_if 50 with(go_at_call 196;refine HP.mono ?_;clear HP;rintro e w2 ⟨p,t,rfl,L,M,ht,k2⟩)
      have O:I3 (Rw w2 g S f∧Kb [g] w w2∧Rest d a b f c h):=aA ⟨H.out.1.kb k2 (by simp),H.out.2.1.trans (k2.mono (by simp)),H.out.2.2⟩;clear H k2;go_cut [11,12] (fun ag ah wc=>∃(p t:Nat) (f:Array Nat),ag=.int .i64 p∧ah=.int .i64 t∧c≤p∧p<h∧t≤2∧f.size=d.size∧I3 (Rw wc g S f∧Kb [g] w wc∧Rest d a b f c h))
      case first=>
       by_cases aw:t=2
       ·have ai:(t:Int)=2:=by omega
        have i:=FM g cap S c h f w2 O.out.1 (by omega) (by omega) (by omega);rw[j]at i;go_wp2_with fail
        refine i.mono ?_
        clear i;rintro e o ⟨rfl,d1,m,x,n⟩;have l:=aA (And.intro m (And.intro x n));clear m n x;go_wp2_with fail
        go_meet
        case rel=>exact⟨h-1-(p-c),1,d1,by congr 1;omega,rfl,by omega,by omega,by omega,l.out.2.1.1.trans j,aA ⟨l.out.1,O.out.2.1.trans l.out.2.2,O.out.2.2.step u l.out.2.1⟩⟩
       ·have ai:¬(t:Int)=2:=by omega
        go_wp2_with fail
        go_meet
        case rel=>exact⟨p,t,f,rfl,rfl,L,M,ht,j,O⟩
      case rest=>
       clear O j L M ht;obtain⟨p,t,f,rfl,rfl,L,M,ht,j,H⟩:=hcut;go_upto_region 15 with fail
       go_cut [68] (fun aj A=>∃a2:Bool,aj=.bool a2∧I3 (Rw A g S f∧Kb [g] w A∧Rest d a b f c h))
       case first=>
        have ak:t=0∨t=1∨t=2:=by omega
        rcases ak with rfl|rfl|rfl<;>cases I<;>cases wp <;>
         (go_wp2_with fail
          go_meet
          exact⟨_,rfl,H⟩)
       case rest=>
        clear H;obtain⟨a2,rfl,H⟩:=hcut;go_upto_if 68 with fail
        go_cut [] (fun A=>I3 (Rw A g S f∧Kb [g] w A∧Rest d a b f c h))
        case first=>
         cases a2
         ·go_wp2_with fail
          go_meet
          case rel=>exact H
         ·have i:=D6 g cap S c h f wc H.out.1 (by omega) (by omega) (by omega) (by omega);rw[j]at i;go_wp2_with fail
          refine i.mono ?_
          clear i;rintro e o ⟨am,rfl,hr,y⟩;have r:I3 (Rw o g S f∧Kb [g] w o∧Rest d a b f c h):=aA ⟨H.out.1.kb y (by simp),H.out.2.1.trans (y.mono (by simp)),H.out.2.2⟩;have HR:=aA hr;clear H y hr;cases am
          ·go_wp2_with fail
           go_meet
           case rel=>exact r
          ·go_wp2_with fail
           (try simp only[LF,Exit.then])
           refine IG (KW rfl _ _ _) rfl ?_
           obtain⟨J,K⟩:=r.out.2.2.done u (OH _ _ _) (HR.out (by trivial));exact⟨rfl,f,r.out.1,J,K,r.out.2.1⟩
        case rest=>
         clear H;rename I3 _=>H
         obtain⟨V,hV⟩:∃V:Nat→Nat,∀t,V t=f[t]!:=⟨fun t=>f[t]!,fun _=>rfl⟩;have HV:=aA hV;clear hV;have an:∀t,t<d.size→wc.cell? ⟨g,t,none⟩=some (.int .u64 ((V t:Nat):Int)):=fun t ht=>by rw[HV.out];exact H.out.1.cell (by omega)
         go_upto_region 17 with fail
         go_cut [87] (fun ao A=>ao=.bool (decide (0<c) && !ltN (V (c-1)) (V p))∧I3 (Rw A g S f∧Kb [g] w A∧Rest d a b f c h))
         case first=>
          have hq:I3 (∀q,Rw (wc.drewN q) g S f∧Kb [g] w (wc.drewN q)∧Rest d a b f c h):=aA (fun q=>⟨H.out.1.kb ((Kb.refl [] wc).drewN q) (by simp),H.out.2.1.drewN q,H.out.2.2⟩);rcases Oh c with a3|a3
          ·have ap:decide ((c:Int) > 0)=false:=decide_eq_false (by omega);go_quiet (first|(go_at_call 199;refine I4 (cN _ _ _)))
           go_wp2_with fail
           go_meet
           case rel=>exact⟨by simp[a3],aA (hq.out nq)⟩
          ·have ap:(c:Int) > 0:=by omega
           have b1:(c:Int)-1<(d.size:Int):=by omega
           have b2:c-1<d.size:=by omega
           have b3:(0:Int)≤(c:Int)-1:=by omega
           have b4:((c:Int)-1).toNat=c-1:=by omega
           have b5:(p:Int)<(d.size:Int):=by omega
           have b6:p<d.size:=by omega
           go_quiet (first|(go_at_call 199;refine I4 (cN _ _ _)))
           go_wp2_with fail
           go_meet
           case rel=>exact⟨by simp[a3],aA (hq.out nq)⟩
         case rest=>
          clear H an;obtain⟨rfl,H⟩:=hcut;cases a4:(decide (0<c) && !ltN (V (c-1)) (V p))
          ·have i:=FO g cap S c h p f wc H.out.1 L M (by omega) (by omega);rw[j]at i;go_upto_if 113 with(go_at_call 201;refine i.mono ?_;clear i;rintro e o ⟨mid,al,C,rfl,P,y,Q,D,E,R,T⟩)
           have r:I3 (Rw o g S C∧Kb [g] w o):=aA ⟨P,H.out.2.1.trans y⟩;have G:=E.1;have B:=aA (And.intro E (And.intro R T));clear P y E R T;by_cases h4:mid-c<h-mid
           ·have aq:(mid:Int)-(c:Int)<(h:Int)-(mid:Int):=by omega
            have F:=ih g cap S c mid k C o (by omega) r.out.1 Q (by omega) (by omega) z (H.out.2.2.me u D B.out.1);rw[G,j]at F;go_wp2_with fail
            refine F.mono ?_
            clear F;rintro e w4 ⟨rfl,dL,U,X,Y,Z⟩;have s:=aA (And.intro U (And.intro X (And.intro Y Z)));clear U X Y Z;go_wp2;go_roundg (h-(mid+1))
            case measure=>omega
            case rel=>exact⟨mid+1,h,k,_,al,dL,by first|rfl|(congr 1;omega),rfl,rfl,rfl,rfl,by omega,by omega,by omega,gO _,z,by rw[s.out.2.1.1,G,j],aA ⟨s.out.1,r.out.2.trans s.out.2.2.2,H.out.2.2.left u Q D B.out.1 B.out.2.1 B.out.2.2 s.out.2.1 s.out.2.2.1⟩⟩
           ·have aq:¬(mid:Int)-(c:Int)<(h:Int)-(mid:Int):=by omega
            have F:=ih g cap S (mid+1) h k C o (by omega) r.out.1 D (by omega) (by omega) z (IB B.out.2.2);rw[G,j,show((mid+1:Nat):Int)=(mid:Int)+1 by omega]at F;go_wp2_with fail
            refine F.mono ?_
            clear F;rintro e w4 ⟨rfl,dL,U,X,Y,Z⟩;have s:=aA (And.intro U (And.intro X (And.intro Y Z)));clear U X Y Z;go_wp2;go_roundg (mid-c)
            case measure=>omega
            case rel=>exact⟨c,mid,k,_,al,dL,rfl,rfl,rfl,rfl,rfl,by omega,by omega,by omega,gO _,z,by rw[s.out.2.1.1,G,j],aA ⟨s.out.1,r.out.2.trans s.out.2.2.2,H.out.2.2.right u Q D B.out.1 B.out.2.1 B.out.2.2 s.out.2.1 s.out.2.2.1⟩⟩
          ·have a5:0<c∧V p≤V (c-1):=by
            simp only[Bool.and_eq_true,decide_eq_true_eq,Bool.not_eq_true']at a4;exact⟨a4.1,dR.1 a4.2⟩
           rw[HV.out,HV.out]at a5;have i:=FN g cap S c h p f wc H.out.1 L M (by omega) (by omega);rw[j]at i;go_wp2_with fail
           refine i.mono ?_
           clear i;rintro e o ⟨mid,C,rfl,P,y,Q,D,E,R,T⟩;have r:I3 (Rw o g S C∧Kb [g] w o∧Rest d a b C mid h):=aA ⟨P,H.out.2.1.trans y,H.out.2.2.eq u a5.1 a5.2 Q D E R T⟩;have G:=E.1;clear P y E R T;go_wp2;go_roundg (h-mid)
           case measure=>omega
           case rel=>exact⟨mid,h,k,I,wp,C,rfl,rfl,rfl,rfl,rfl,by omega,D,ad,gO _,z,G.trans j,r⟩
theorem cI.rw{w:vF}{B g cap:Nat}{xs:List Nat}(h:cI w B (.slice (some ⟨g,0,none⟩) xs.length cap) xs):Rw w g cap xs.toArray∧B≤g∧xs.length≤cap∧cap≤maxLen:=by
 rcases h.1.2 with⟨e,_⟩|⟨p,q,j,e,k,l,c,m,d,f⟩
 ·cases e
 ·injection e with a r n;injection a with a;injection a with a;subst a n;rw[Jv]at d f;refine⟨⟨j,l,d,by simpa using c,fun t o=>?_⟩,k,c,m⟩;have b:t<xs.length:=by simpa using o
  have i:(dO xs)[t]?=some (.int .u64 ((xs[t]:Nat):Int)):=lI (hZ b);rw[← f,JM b,Ke]at i;rw[i];simp[b]
theorem Rw.own{w:vF}{B g cap:Nat}{d:Array Nat}(h:Rw w g cap d)(b:B≤g)(h1:d.size≤cap)(h2:cap≤maxLen)(h3:∀x∈d.toList,x<18446744073709551616):cI w B (.slice (some ⟨g,0,none⟩) d.toList.length cap) d.toList:=by
 obtain⟨c,e,f,l,i⟩:=h.ex;refine⟨⟨by rw[fY,Jv],.inr ⟨g,cap,c,rfl,b,e,by simpa using h1,h2,by rw[f,Jv],?_⟩⟩,h3⟩;apply List.ext_getElem?;intro t;rw[Jv];by_cases a:t<d.toList.length
 ·rw[JM a,Ke,i t (by simpa using a)];have j:(dO d.toList)[t]?=some (.int .u64 ((d.toList[t]:Nat):Int)):=lI (hZ a);rw[j];have k:t<d.size:=by simpa using a
  simp[k]
 ·rw[Ja (by rw[List.length_take];omega),Ja (by rw[fY];omega)]
theorem FR(w:vF):I5 hE 193 #[.slice none 0 0,.int .i64 0,.int .i64 0] w fun e w'=>e=.returned (.tuple #[])∧w'=w:=by
 go_enter Tryz.func193,Tryz.ntmps193
 go_wp2;go_loopg [6] 1 (fun k a wr=>a=.int .i64 1∧wr=w)
 case atStart=>exact⟨rfl,rfl⟩
 case round=>
  obtain⟨rfl,b⟩:=hrel;subst wr;go_wp2;go_end0
  exact⟨rfl,rfl⟩
theorem FS(w:vF)(b:Nat):I5 hE 179 #[.slice none 0 0,.int .i64 0,.int .i64 0,.int .i64 b] w fun e w'=>e=.returned (.tuple #[])∧w'=w:=by
 go_enter Tryz.func179,Tryz.ntmps179
 go_wp2;go_loopg [1,2,3,8,9] 1 (fun k c d g h i wr=>c=.int .i64 0∧d=.int .i64 0∧wr=w)
 case atStart=>exact⟨rfl,rfl,rfl⟩
 case round=>
  obtain⟨rfl,rfl,j⟩:=hrel;subst wr;have a:=FR w;go_wp2_with fail
  refine a.mono ?_
  clear a;rintro e f ⟨rfl,l⟩;subst f;go_wp2_with fail
  (try simp only[LF,Exit.then])
  refine IG (KW rfl _ _ _) rfl ?_
  exact⟨rfl,rfl⟩
theorem Co{d a:Array Nat}(h1:Kz 0 d.size d a)(h2:Md ltN 0 d.size a):a.toList=d.toList.mergeSort (·≤·):=by
 have:=sorted_unique_holds (lt:=ltN) tE (by intro x y;simp[ltN];omega) d a h1 h2;rw[this];congr 1
 funext x y
 unfold ltN;by_cases e:y<x
 ·simp[e,Nat.not_le.2 e]
 ·simp[e,Nat.le_of_not_lt e]
theorem GO(B:Nat):tR B:=by
 intro v a w h p;have c:=Tryz.bits_Len (a.length:Int) w (by omega) (by omega);have H:=xE a.length p;have z:((a.length:Int)).toNat=a.length:=by omega
 rw[z]at c;generalize Lh a.length=k at *;rcases h.1.2 with⟨rfl,A⟩|⟨g,q,I,rfl,_⟩
 ·have j:a=[]:=List.eq_nil_of_length_eq_zero A;subst j;have f:=FS w k;simp only[List.length_nil]at c;go_enter Tryz.func155,Tryz.ntmps155
  go_wp2_with fail
  refine c.mono ?_
  clear c;rintro e i ⟨rfl,r⟩;subst i;go_wp2_with fail
  refine f.mono ?_
  clear f;rintro e i ⟨rfl,r⟩;subst i;go_wp2;go_end0
  exact⟨rfl,by rw[List.mergeSort_nil];exact h,Kb.refl _ _⟩
 ·obtain⟨b,C,D,E⟩:=h.rw;have s:=h.2;have f:=FQ (a.length+1) g q q 0 a.length k a.toArray w (by omega) b (IM _) (by simp) (by simpa using p) (by omega) (.inl rfl);rw[show a.toArray.size=a.length by simp]at f;have F:=aA s;clear b h s;go_enter Tryz.func155,Tryz.ntmps155
  go_wp2_with fail
  refine c.mono ?_
  clear c;rintro e i ⟨rfl,r⟩;subst i;go_wp2_with fail
  refine f.mono ?_
  clear f;rintro e J ⟨rfl,t,b,l,m,n⟩;have G:=aA (And.intro b (And.intro l (And.intro m n)));clear b l m n;go_wp2;go_end0
  obtain⟨b,l,m,n⟩:=G.out;have o:t.toList=a.mergeSort (·≤·):=Co (d:=a.toArray) (by simpa using l) (by simpa using m);have u:t.toList.length=a.length:=by rw[o,List.length_mergeSort]
  have y:=b.own C (by rw[← Array.length_toList,u];exact D) E (fun x j=>F.out x (by rw[o]at j;exact List.mem_mergeSort.1 j));rw[u,o]at y;exact⟨rfl,y,n⟩
end
end Go.Proofs.YtiamlbhkiehilaaGreatDoor
