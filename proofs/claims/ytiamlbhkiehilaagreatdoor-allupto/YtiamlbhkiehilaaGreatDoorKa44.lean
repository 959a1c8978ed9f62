import Derived.Test.YtiamlbhkiehilaaGreatDoorKa43
import Derived.Test.YtiamlbhkiehilaaGreatDoorKa41
import Derived.Test.YtiamlbhkiehilaaGreatDoorKa33
import Derived.Deep.DeepCutAuto
open Array renaming getElem?_setIfInBounds_ne→My
open Bool renaming and_eq_true→Js
open ByteArray renaming size_append→JH
open Go renaming World→vF,Calls→I5,bodyPost_ret→IG,results→Jl
open Go.ByteArray renaming toList_eq→JV
open Go.Proofs.Tryz renaming prog→hE,func11→NP,ntmps11→Nv,results11→LZ,results55→OV,results32→OW
open Go.RowKit renaming Hid→I3
open Go.Sort renaming PermIn→Kz,SortedIn→Md,permIn_trans→MY,permIn_mono→LD,permIn_all→MK
open List renaming mem_of_getElem?→IJ,mem_append→IK,getElem?_zip_eq_some→Lj,getElem?_eq_getElem→hZ,getElem?_map→Jx,take_of_length_le→I6,length_zip→MR,ext_getElem?→Mx,getElem?_eq_none→Ja,getD_eq_getElem?_getD→E1,pairwise_cons→KU,length_cons→Jn,mem_filter→Li,mem_map→Jf,range→IQ,contains_iff_mem→JZ,getElem?_range→La
open Nat renaming zero_le→IM,le_refl→gO,mul_le_mul_left→Kq,add_sub_cancel→ML
open Option renaming map_some→Og
open Option.some renaming injEq→Kh
namespace Go.Proofs.YtiamlbhkiehilaaGreatDoor
set_option maxRecDepth 100000
set_option maxHeartbeats 4000000
section
open Go.RowKit Go.Maps
theorem FB{l:List ByteArray}{s x:ByteArray}:x∈mK l s↔x=s∨x∈l:=by
 by_cases h:l[aX l s]?=some s
 ·rw[tV rfl h];constructor
  ·exact .inr
  ·rintro(rfl|f)
   ·exact IJ h
   ·exact f
 ·rw[tU rfl h];constructor
  ·intro e;rcases IK.1 e with e|e
   ·exact .inr (List.mem_of_mem_take e)
   ·rcases List.mem_cons.1 e with e|e
    ·exact .inl e
    ·exact .inr (List.mem_of_mem_drop e)
  ·rintro(rfl|f)
   ·simp
   ·rw[← List.take_append_drop (aX l s) l]at f;rcases IK.1 f with f|f
    ·exact List.mem_append_left _ f
    ·exact List.mem_append_right _ (List.mem_cons_of_mem _ f)
theorem FC{l:List ByteArray}:∀ {e:List ByteArray} {x:ByteArray},x∈l.foldl mK e↔x∈e∨x∈l:=by
 induction l with
 |nil=>intro e x;simp
 |cons a r f=>
  intro e x;rw[List.foldl_cons,f,FB];constructor
  ·rintro((rfl|h)|h)
   ·exact .inr (by simp)
   ·exact .inl h
   ·exact .inr (by simp[h])
  ·rintro(h|h)
   ·exact .inl (.inr h)
   ·rcases List.mem_cons.1 h with rfl|h
    ·exact .inl (.inl rfl)
    ·exact .inr h
def cD(e:List Fct):List ByteArray:=dV (bI e)
theorem kJ{e:List Fct}{x:ByteArray}:x∈cD e↔∃f∈e,x=f.p∨x=f.q:=by unfold cD dV;rw[FC];simp[bI]
theorem vA(f:List Fct):(cD f).Nodup:=by have h:=iE (bI f);exact List.Pairwise.imp (fun {a b} k e=>by subst e;rw[jB]at k;cases k) h
def toM(e:List ByteArray)(r:List Bool)(k:Nat):List ByteArray:=((e.zip r).take k).filterMap fun x=>if x.2=true then some x.1 else none
def yI(e:List ByteArray)(M:List (List Bool))(k:Nat):List RowD:=((e.zip M).take k).map fun x=>⟨x.1,toM e x.2 e.length⟩
theorem FD{e:List ByteArray}{r:List Bool}{k:Nat}{x:ByteArray}{b:Bool}(f:e[k]?=some x)(h:r[k]?=some b):toM e r (k+1)=toM e r k++(if b=true then [x]else []):=by
 have l:(e.zip r)[k]?=some (x,b):=by rw[Lj];exact⟨f,h⟩
 unfold toM;rw[bG l,List.filterMap_append];cases b<;>rfl
theorem D3{e:List ByteArray}{M:List (List Bool)}{k:Nat}{x:ByteArray}{r:List Bool}(f:e[k]?=some x)(hr:M[k]?=some r):yI e M (k+1)=yI e M k++[⟨x,toM e r e.length⟩]:=by
 have h:(e.zip M)[k]?=some (x,r):=by rw[Lj];exact⟨f,hr⟩
 unfold yI;rw[bG h,List.map_append];rfl
theorem vW(vl:Value)(l:List Fct)(w:vF)(aw:l.length≤500)(L:cV vl l w)(hk:∀f∈l,1≤f.k∧f.k≤4)(N:∀f∈l,f.p.size≤1000∧f.q.size≤1000) :
  I5 hE 31 #[vl] w fun e w'=>∃M,e=.returned (.string ⟨(aJ (yI (cD l) M (cD l).length)).toArray⟩)∧M.length=(cD l).length∧(∀r∈M,r.length=(cD l).length)∧uZ l (cD l) M∧(∀f∈l,kU (cD l) M f)∧Below w.heap.size w w':=by
 have a2:I3 (∀n∈cD l,n.size≤1000):=by
  intro n hn;obtain⟨f,z,h|h⟩:=kJ.1 hn
  ·rw[h];exact(N f z).1
  ·rw[h];exact(N f z).2
 have aa:=aA (vA l);have ab:I3 (∀f∈l,f.p∈cD l∧f.q∈cD l):=fun f z=>⟨kJ.2 ⟨f,z,.inl rfl⟩,kJ.2 ⟨f,z,.inr rfl⟩⟩
 have HK:=aA hk;have ad:=aA L;have u:=oG vl l w (by omega) L;clear hk N L;go_enter Tryz.func31,Tryz.ntmps31
 go_wp2_with fail
 refine u.mono ?_
 rintro e O ⟨vn,rfl,F⟩;have G:O.ownsRow w.heap.size 9 1 vn (cD l).length ((cD l).map Value.string):=F.own;have ae:(cD l).length≤1000:=by have:=F.short;have e:cD l=dV (bI l):=rfl;rw[e];omega
 have H:=F.blw;have A:=jF G;have a3:=Cd vl vn l (cD l) O (by omega) ae (ad.out.below H) A aa.out ab.out HK.out;obtain⟨na,ax,rfl,af⟩:=aQ G;have ag:=aA G;clear u F G A;generalize a4:cD l=m at *;have ah:=aA a4;clear a4;go_wp2_with fail
 refine a3.mono ?_
 rintro e P ⟨vt,M,rv,rfl,a5,Q,I,R,a6⟩;have ai:Below w.heap.size w P:=H.trans (I.mono H.size);have J:PtI l m O P vt rv M:=⟨Q,a5,R,I⟩;obtain⟨ta,tc,rfl,_⟩:=aQ Q.row;rw[a5]at *;have HR:=aA (And.intro R a6);have aj:=aA (aM ag.out I);clear a3 Q R a6 H I;go_wp2_with fail
 go_loopw [5,6] (fun T U wr=>∃(i:Nat) (t:ByteArray),T=.string t∧U=.int .i64 i∧i≤m.length∧t.size≤i*1100000∧I3 (t.data.toList=aJ (yI m M i))∧wr=P) (fun _ U _=>m.length-(intOf U).toNat)
 case atStart=>exact⟨0,⟨#[]⟩,rfl,rfl,IM _,IM _,rfl,rfl⟩
 case round=>
  obtain⟨i,t,rfl,rfl,hi,ay,a7,rfl⟩:=hrel;have V:=aA J;by_cases Y:i<m.length
  ·obtain⟨C,u⟩:∃x,m[i]?=some x:=⟨_,hZ Y⟩;have az:=a2.out C (IJ u);obtain⟨gv,X,ga,ca,ak,y,lX,hu,rx,aV,a8,al⟩:=J.reads rfl Y;subst ak;obtain⟨gn,am⟩:=af (by omega);subst am;have Z:=(eZ aj.out).1;have n0:=Z i (.string C) (by rw[Jx,u];rfl);have an:=aA Z;have ao:=aA a8;have ap:=aA u;have HX:=aA y;clear Z a8 al J u y hu;go_wp2_with fail
   go_loop [5,7] (fun T kv=>∃(k:Nat) (o:ByteArray),T=.string o∧kv=.int .i64 k∧k≤m.length∧o.size≤t.size+1001+k*1001∧I3 (o.data.toList=t.data.toList++C.data.toList++[58]++eP (toM m X k))) (fun _ kv=>m.length-(intOf kv).toNat)
   case atStart=>exact⟨0,_,rfl,rfl,IM _,by rw[JH,JH,show(⟨#[58]⟩:ByteArray).size=1 from rfl];omega,by simp[I3,eP,toM]⟩
   case round=>
    obtain⟨k,o,rfl,rfl,b0,b1,HB⟩:=hrel;by_cases a0:k<m.length
    ·obtain⟨x,K⟩:∃x,m[k]?=some x:=⟨_,hZ a0⟩;obtain⟨b,hb⟩:∃b,X[k]?=some b:=⟨_,hZ (by omega)⟩;have b2:=a2.out x (IJ K);have c0:=ao.out k b hb;have x0:=an.out k (.string x) (by rw[Jx,K];rfl);have A:=FD K hb;have a9:=aA A;clear K hb A;cases b
     ·have D:I3 (o.data.toList=t.data.toList++C.data.toList++[58]++eP (toM m X (k+1))):=by
       unfold I3;rw[a9.out,HB.out];simp
      go_wp2;go_round
      case rel=>exact⟨k+1,o,rfl,by go_num,a0,by omega,D.out⟩
      case measure=>simp[intOf];omega
     ·have D:I3 ((o++⟨#[32]⟩++x).data.toList=t.data.toList++C.data.toList++[58]++eP (toM m X (k+1))):=by
       unfold I3;rw[a9.out,if_pos rfl,nK];simp[HB.out]
      have aq:o.size+1+x.size≤1000000000000:=by omega
      have b3:o.size+1≤1000000000000:=by omega
      have E:(o++⟨#[32]⟩++x).size≤t.size+1001+(k+1)*1001:=by rw[JH,JH,show(⟨#[32]⟩:ByteArray).size=1 from rfl];omega
      have a1:=aA E;clear E;go_wp2;go_round
      case rel=>exact⟨k+1,_,rfl,by go_num,a0,a1.out,D.out⟩
      case measure=>simp[intOf];omega
    ·have ar:k=m.length:=by omega
     subst ar;have D:I3 ((o++⟨#[10]⟩).data.toList=aJ (yI m M (i+1))):=by unfold I3;rw[D3 ap.out HX.out,gB,← a7.out];simp[HB.out,jC]
     have aq:o.size+1≤1000000000000:=by omega
     have E:(o++⟨#[10]⟩).size≤(i+1)*1100000:=by rw[JH,show(⟨#[10]⟩:ByteArray).size=1 from rfl];omega
     have a1:=aA E;clear E;go_wp2;go_roundw
     case rel=>exact⟨i+1,_,rfl,by go_num,Y,a1.out,D.out,by first|rfl|trivial⟩
     case measure=>simp[intOf];omega
  ·have au:i=m.length:=by omega
   subst au;have HF:I3 (t=⟨(aJ (yI m M m.length)).toArray⟩):=by apply fM;rw[a7.out]
   have av:I3 (∀r∈M,r.length=m.length):=by intro r hr;obtain⟨j,hj⟩:=List.getElem?_of_mem hr;obtain⟨X,y,lX⟩:=V.out.row (i:=j) (by have:=bV hj;rw[V.out.len]at this;exact this);rw[hj]at y;injection y with y;rw[y,lX]
   clear J;go_wp2;go_ret
   have e:=ah.out;subst e;exact⟨M,by rw[← HF.out];rfl,V.out.len,av.out,HR.out.1,HR.out.2,ai⟩
abbrev DP:=∀(e:List Fct) (a b:ByteArray),Decidable (Pts e a b)
def kL[DP](e:List Fct):List RowD:=(cD e).map fun a=>⟨a,(cD e).filter fun b=>decide (Pts e a b)⟩
theorem Ce{P:ByteArray→Prop}[DecidablePred P]:∀ {e:List ByteArray} {r:List Bool},r.length=e.length→(∀(j:Nat) b x,e[j]?=some b→r[j]?=some x→(x=true↔P b))→(e.zip r).filterMap (fun x=>if x.2=true then some x.1 else none)=e.filter fun b=>decide (P b):=by
 intro e;induction e with
 |nil=>intro r _ _;simp
 |cons a q u=>
  intro r l m;cases r with
  |nil=>simp at l
  |cons y t=>
   have o:=m 0 a y rfl rfl;have:=u (r:=t) (by simpa using l) (fun j b x z A=>m (j+1) b x (by simpa using z) (by simpa using A));by_cases f:y=true
   ·have k:=o.1 f;simp[f,k,this]
   ·have k:¬P a:=fun h=>f (o.2 h)
    simp[f,k,this]
theorem FE[DP]{e:List Fct}{M:List (List Bool)}(I:M.length=(cD e).length)(hr:∀r∈M,r.length=(cD e).length)(C:uZ e (cD e) M)(D:∀f∈e,kU (cD e) M f):yI (cD e) M (cD e).length=kL e:=by
 have E:∀f∈e,f.p∈cD e∧f.q∈cD e:=fun f z=>⟨kJ.2 ⟨f,z,.inl rfl⟩,kJ.2 ⟨f,z,.inr rfl⟩⟩
 have t:=vA e;unfold yI kL;rw[I6 (by rw[MR];omega)];refine Mx fun i=>?_
 rw[Jx,Jx];cases m:(cD e)[i]? with
 |none=>have k:(cD e).length≤i:=List.getElem?_eq_none_iff.1 m;rw[Ja (by rw[MR];omega)];rfl
 |some a=>
  have J:=bV m;obtain⟨r,u⟩:∃r,M[i]?=some r:=⟨_,hZ (by omega)⟩;have F:((cD e).zip M)[i]?=some (a,r):=by rw[Lj];exact⟨m,u⟩
  have G:=hr r (IJ u);rw[F];simp only[Og,Kh,RowD.mk.injEq,true_and];unfold toM;rw[I6 (by rw[MR];omega)];refine Ce G (fun j b x A H=>?_);have y:bY M i j=x:=by rw[gE u,E1,H];rfl
  constructor
  ·intro h;rw[h]at y;obtain⟨a',b',k,l,o⟩:=C i j y;rw[m]at k;rw[A]at l;injection k with k;injection l with l;rw[k,l];exact o
  ·intro h;obtain⟨K,L,k,l,o⟩:=DW t E D h;rw[iZ t k m,iZ t l A]at o;rw[← y];exact o
theorem yJ[DP](vl:Value)(h:List Fct)(w:vF)(k:h.length≤500)(l:cV vl h w)(m:∀f∈h,1≤f.k∧f.k≤4)(o:∀f∈h,f.p.size≤1000∧f.q.size≤1000) :
  I5 hE 31 #[vl] w fun e w'=>e=.returned (.string ⟨(aJ (kL h)).toArray⟩)∧Below w.heap.size w w':=by
 refine(vW vl h w k l m o).mono ?_
 rintro e w' ⟨M,rfl,r,t,u,x,y⟩;rw[FE r t u x];exact⟨rfl,y⟩
def dS[DP](s:ByteArray)(o:Int):ByteArray × Int × Int:=
 if o<0∨2<o then(⟨#[]⟩,1,0)else if(aW s).2.1≠0 then(⟨#[]⟩,(aW s).2.1,(aW s).2.2)else(⟨(aJ (kL (aW s).1)).toArray⟩,0,0)
theorem Aw(s:ByteArray):(aW s).2.1=0→(aW s).1.length≤120:=by
 intro h;have f:rH [] (aW s).1:=by generalize hr:aW s=r at *;obtain⟨l,k,n⟩:=r;simp only at h;subst h;exact qT hr
 rcases(kI f).2 with e|e
 ·rw[e];simp
 ·simpa using e
theorem yK[DP](s:ByteArray)(o:Int)(t b2 u x:Bool)(w:vF)(hs:s.size≤maxLen) :
  I5 hE 11 #[.string s,.agg #[.int .i64 o,.bool t,.bool b2,.bool u,.bool x]] w fun e w'=>e=.returned (.tuple #[.string (dS s o).1,.agg #[.int .i64 (dS s o).2.1,.int .i64 (dS s o).2.2]])∧Below w.heap.size w w':=by
 have K:=aD w (.cells #[.int .i64 o,.bool t,.bool b2,.bool u,.bool x] 24);have F:Below w.heap.size w (w.alloc (.cells #[.int .i64 o,.bool t,.bool b2,.bool u,.bool x] 24)):=(Below.refl _ _).alloc (gO _) _;have G:(w.alloc (.cells #[.int .i64 o,.bool t,.bool b2,.bool u,.bool x] 24)).heap.size=w.heap.size+1:=by simp
 have y:=aD (w.alloc (.cells #[.int .i64 o,.bool t,.bool b2,.bool u,.bool x] 24)) (.cells #[.int .i64 0,.int .i64 0] 27);rw[G]at y;have H:Below w.heap.size w ((w.alloc (.cells #[.int .i64 o,.bool t,.bool b2,.bool u,.bool x] 24)).alloc (.cells #[.int .i64 0,.int .i64 0] 27)):=F.alloc (by simp) _;by_cases h1:o<0
 ·have f:I3 (dS s o=(⟨#[]⟩,1,0)):=by unfold I3 dS;rw[if_pos (.inl h1)]
  clear K y G;go_enter NP,Nv
  go_wp2_with fail
  refine IG (v:=.tuple #[.string ⟨#[]⟩,.agg #[.int .i64 1,.int .i64 0]]) (by simp[Jl,LZ,go_sem]) rfl ⟨by rw[f.out],?_⟩;exact F.alloc (by simp) _
 ·by_cases h2:2<o
  ·have f:I3 (dS s o=(⟨#[]⟩,1,0)):=by unfold I3 dS;rw[if_pos (.inr h2)]
   clear K y G;go_enter NP,Nv
   go_wp2_with fail
   refine IG (v:=.tuple #[.string ⟨#[]⟩,.agg #[.int .i64 1,.int .i64 0]]) (by simp[Jl,LZ,go_sem]) rfl ⟨by rw[f.out],?_⟩;exact F.alloc (by simp) _
  ·have f:I3 (dS s o=if(aW s).2.1≠0 then(⟨#[]⟩,(aW s).2.1,(aW s).2.2)else(⟨(aJ (kL (aW s).1)).toArray⟩,0,0)):=by unfold I3 dS;rw[if_neg (by omega)]
   have T:=Aw s;clear K F G;go_enter NP,Nv
   go_wp2_with fail
   generalize (w.alloc (.cells #[.int .i64 o,.bool t,.bool b2,.bool u,.bool x] 24)).alloc (.cells #[.int .i64 0,.int .i64 0] 27)=w1 at y H ⊢;refine(uC s w1 hs).mono ?_
   rintro e l ⟨v,rfl,I,L⟩;have E:=Below.fj L y (aB y);have C:Below w.heap.size w l:=H.trans (L.mono H.size);have U:∀r m,aW s=(r,0,m)→rH [] r:=fun r m h=>qT h
   have M:=aA U;have a0:w.heap.size+1<l.heap.size:=aB E;generalize aW s=a1 at *;obtain⟨r,k,n⟩:=a1;simp only at I T f ⊢;clear U y H L;by_cases J:k=0
   ·subst J;have N:I3 (dS s o=(⟨(aJ (kL r)).toArray⟩,0,0)):=by unfold I3;rw[f.out,if_neg (fun h=>h rfl)]
    have O:=M.out r n rfl;have a5:=T rfl;obtain⟨V,_⟩:=kI O;have X:=pI O;have z:=aF E (.cells #[.int .i64 0,.int .i64 n] 27);have D:Below w.heap.size w (l.alloc (.cells #[.int .i64 0,.int .i64 n] 27)):=C.alloc C.size _;have Y:=dY (I.alloc (.cells #[.int .i64 0,.int .i64 n] 27));have Z:=yJ v r (l.alloc (.cells #[.int .i64 0,.int .i64 n] 27)) (by omega) Y X (fun a2 hf=>by have:=V a2 hf;omega);have a3:=aA Z;clear O V X Y Z M f I;go_wp2_with fail
    refine a3.out.mono ?_
    rintro e w4 ⟨rfl,P⟩;have A:=Below.fj P z (aB z);have a4:Below w.heap.size w w4:=D.trans (P.mono D.size);obtain⟨Q,R,f0,f1⟩:=aH A;clear E z A C D P;go_wp2_with fail
    refine IG (v:=.tuple #[.string ⟨(aJ (kL r)).toArray⟩,.agg #[.int .i64 0,.int .i64 0]]) (by simp[Jl,LZ,go_sem,Q,R]) rfl ⟨by rw[N.out],?_⟩;exact(a4.setCell (p:=⟨w.heap.size+1,0,none⟩) (by show w.heap.size≤w.heap.size+1;omega) _).setCell (p:=⟨w.heap.size+1,1,none⟩) (by show w.heap.size≤w.heap.size+1;omega) _
   ·have N:I3 (dS s o=(⟨#[]⟩,k,n)):=by unfold I3;rw[f.out,if_pos J]
    have a6:(k == 0)=false:=beq_false_of_ne J;have a7:(k != 0)=true:=by simp[J]
    have z:=aF E (.cells #[.int .i64 k,.int .i64 n] 27);have D:Below w.heap.size w (l.alloc (.cells #[.int .i64 k,.int .i64 n] 27)):=C.alloc C.size _;have A:=aD l (.cells #[.int .i64 k,.int .i64 n] 27);clear I M f;go_wp2_with fail
    generalize l.alloc (.cells #[.int .i64 k,.int .i64 n] 27)=w3 at z A D ⊢;generalize l.heap.size=be at A a0 ⊢;obtain⟨Q,R,f0,f1⟩:=aH z;obtain⟨d0,d1,_,_⟩:=aH A;have a8:be≠w.heap.size+1:=by omega
    clear E z A C;go_region
    all_goals
     go_wp2;refine IG (v:=.tuple #[.string ⟨#[]⟩,.agg #[.int .i64 k,.int .i64 n]]) (by simp[Jl,LZ,go_sem,Q,R]) rfl ⟨by rw[N.out],?_⟩;exact(D.drew.setCell (p:=⟨w.heap.size+1,0,none⟩) (by show w.heap.size≤w.heap.size+1;omega) _).setCell (p:=⟨w.heap.size+1,1,none⟩) (by show w.heap.size≤w.heap.size+1;omega) _
end
section
open Go.RowKit Go.Shelf
attribute [local go_sem] Oper.semAt_some
theorem D4(c:Way)(w:vF)(f:c.order<0∨2<c.order):I5 hE 55 #[yG c] w fun e w'=>e=.returned (.bool false)∧Below w.heap.size w w':=by
 rcases f with h|h
 ·have k:¬(0≤c.order):=by omega
  go_enter Tryz.func55,Tryz.ntmps55
  go_wp2_with fail
  exact IG (v:=.bool false) (by simp[Jl,OV,go_sem]) rfl ⟨rfl,(Below.refl _ _).alloc (gO _) _⟩
 ·have k:0≤c.order:=by omega
  have l:¬(c.order≤2):=by omega
  go_enter Tryz.func55,Tryz.ntmps55
  go_wp2_with fail
  exact IG (v:=.bool false) (by simp[Jl,OV,go_sem]) rfl ⟨rfl,(Below.refl _ _).alloc (gO _) _⟩
theorem yL(t:ByteArray)(c:Way)(w:vF)(l:c.order<0∨2<c.order) :
  I5 hE 32 #[.string t,yG c] w fun e w'=>e=.returned (.tuple #[.agg #[.string ⟨#[]⟩,.int .i64 0],.agg #[.int .i64 1,.int .i64 0]])∧Below w.heap.size w w':=by
 have m:=aA (fun W=>D4 c W l);clear l;have k:=Bxs.start w c;go_enter Tryz.func32,Tryz.ntmps32
 go_wp2_with fail
 generalize ((w.alloc (.cells #[.int .i64 c.order,.bool c.cycles,.bool c.collapse,.bool c.subst,.bool c.deltas] 24)).alloc (.cells #[.string ⟨#[]⟩,.int .i64 0] 31)).alloc (.cells #[.int .i64 0,.int .i64 0] 27)=u at k ⊢;refine(m.out u).mono ?_
 rintro e D ⟨rfl,o⟩;have r:=k.below o;obtain⟨E,F,x⟩:=r.fin ⟨#[]⟩ 0 1 0;obtain⟨_,f,h,_⟩:=r;obtain⟨G,H,I,J⟩:=aH f;obtain⟨K,L,M,N⟩:=aH h;clear f h k o m;go_wp2_with fail
 obtain⟨f,h,y⟩:=x;obtain⟨z,A,_,_⟩:=aH f;obtain⟨d0,C,_,_⟩:=aH h;exact IG (v:=.tuple #[.agg #[.string ⟨#[]⟩,.int .i64 0],.agg #[.int .i64 1,.int .i64 0]]) (by simp[Jl,OW,go_sem,z,A,d0,C]) rfl ⟨rfl,y⟩
theorem yM(f:ByteArray)(c:Way)(w:vF)(m:Int)(J:f.size≤maxLen)(K:w.cell? ⟨1,0,none⟩=some (.int .i64 m))(L:1<w.heap.size)(M:0≤c.order∧c.order≤2)(U:(aW f).2.1≠0) :
  I5 hE 32 #[.string f,yG c] w fun e w'=>e=.returned (.tuple #[.agg #[.string ⟨#[]⟩,.int .i64 0],.agg #[.int .i64 (aW f).2.1,.int .i64 (aW f).2.2]])∧Below w.heap.size w w':=by
 have N:=aA (fun W=>Ar c W M);have O:=aA (fun(W:vF) (h:W.cell? ⟨1,0,none⟩=some (.int .i64 m))=>pH f W m J h);have C:=aA (And.intro K L);obtain⟨k,u⟩:∃k,k=(aW f).2.1:=⟨_,rfl⟩;obtain⟨l,D⟩:∃l,l=(aW f).2.2:=⟨_,rfl⟩;rw[← u]at U;rw[← u,← D];have E:=aA (And.intro u D);clear M J K L u D;have F:=Bxs.start w c;go_enter Tryz.func32,Tryz.ntmps32
 go_wp2_with fail
 generalize ((w.alloc (.cells #[.int .i64 c.order,.bool c.cycles,.bool c.collapse,.bool c.subst,.bool c.deltas] 24)).alloc (.cells #[.string ⟨#[]⟩,.int .i64 0] 31)).alloc (.cells #[.int .i64 0,.int .i64 0] 27)=V at F ⊢;refine(N.out V).mono ?_
 rintro e X ⟨rfl,P⟩;have G:=F.below P;clear F P;go_wp2_with fail
 refine(O.out X ((G.2.2.2.cell (p:=⟨1,0,none⟩) C.out.2).trans C.out.1)).mono ?_
 rintro e r ⟨v,rfl,Y,Q⟩;rw[← E.out.1,← E.out.2];have R:=G.below Q;have H:=R.below ((Below.refl _ r).alloc (gO _) (.cells #[.int .i64 k,.int .i64 l] 27));have I:=aD r (.cells #[.int .i64 k,.int .i64 l] 27);clear G Q R Y O N C E;generalize T:r.alloc (.cells #[.int .i64 k,.int .i64 l] 27)=W6 at H I;obtain⟨e0,e1,e2,e3⟩:=aH I;obtain⟨a6,a7,Z⟩:=H.fin ⟨#[]⟩ 0 k l;obtain⟨_,o,t,_⟩:=H;obtain⟨a0,a1,a2,a3⟩:=aH o;obtain⟨b0,b1,b2,b3⟩:=aH t;have a4:r.heap.size≠w.heap.size+1:=fun e=>aP I o (by decide) e
 clear o t;have a5:=aA T;clear T;go_wp2_with fail
 obtain⟨o,t,x⟩:=Z;obtain⟨y,z,_,_⟩:=aH o;obtain⟨d0,A,_,_⟩:=aH t;have HF:=aA (And.intro x (And.intro y (And.intro z (And.intro d0 A))));clear o t x y z d0 A;have a8:¬r.heap.size=w.heap.size+1:=a4;rw[a5.out];go_region
 all_goals
  obtain⟨x,y,z,d0,A⟩:=HF.out;go_wp2;exact IG (v:=.tuple #[.agg #[.string ⟨#[]⟩,.int .i64 0],.agg #[.int .i64 k,.int .i64 l]]) (by simp[Jl,OW,go_sem,y,z,d0,A]) rfl ⟨rfl,x.drew⟩
end
section
open Go.RowKit Go.Maps
def Cf:ByteArray→List RowD→Prop
 |_,[]=>True
 |e,r::q=>cE r e=0∧Cf r.name q
theorem Ax{r:RowD}{e:ByteArray}:cE r e=0↔dC r=true∧chk true r e=0:=by
 cases h:dC r
 ·simp[cE,h]
 ·simp[cE,chk,h]
theorem FF{l:List ByteArray}(h:Asc l):gA l=true:=by
 induction l with
 |nil=>rfl
 |cons a r f=>
  cases r with
  |nil=>rfl
  |cons b q=>have e:=KU.1 h;simp only[gA,Js];exact⟨e.1 b (by simp),f e.2⟩
theorem Cg{n:ByteArray}(h:bP n.data.toList=true):cK noB n=true:=by obtain⟨c,t,e,_,_⟩:=B4 h;unfold cK;rw[JV,JV,e];rfl
theorem Ch{F:ByteArray→List ByteArray}:∀ {l:List ByteArray} {f:ByteArray},Asc l→(∀a∈l,cK f a=true)→(∀a∈l,isN a=true∧a.size≤12∧Asc (F a)∧∀b∈F a,isN b=true∧b.size≤12)→Cf f (l.map fun a=>⟨a,F a⟩):=by
 intro l;induction l with
 |nil=>intro f _ _ _;trivial
 |cons a q o=>
  intro f r t h;have k:=KU.1 r;obtain⟨u,C,x,m⟩:=h a (by simp);refine⟨Ax.2 ⟨?_,?_⟩,o k.2 (fun b e=>k.1 b e) (fun b e=>h b (by simp[e]))⟩
  ·simp only[dC,Js,List.all_eq_true];exact⟨u,fun b e=>(m b e).1⟩
  ·have y:gA (F a)=true:=FF x;have z:fO ⟨a,F a⟩=false:=by
    simp only[fO,eS,Bool.or_eq_false_iff,decide_eq_false_iff_not,List.any_eq_false,decide_eq_true_eq];exact⟨by omega,fun b e=>by have:=(m b e).2;omega⟩
   have A:zN a f=false:=by rw[CQ,t a (by simp)];rfl
   simp[chk,y,z,A]
theorem Ci{l:List ByteArray}(h:∀b∈l,b.size≤12):bB l≤13*l.length:=by
 induction l with
 |nil=>simp[bB]
 |cons a q e=>have k:=h a (by simp);have m:=e (fun b f=>h b (by simp[f]));simp only[bB,Jn];omega
theorem Ay{rs:List RowD}{m:Nat}(h:∀r∈rs,r.name.size≤12∧r.to.length≤m∧∀b∈r.to,b.size≤12):(aJ rs).length≤(14+13*m)*rs.length:=by
 induction rs with
 |nil=>simp[aJ]
 |cons a q e=>obtain⟨o,f,k⟩:=h a (by simp);have t:=Ci k;have u:=e (fun b l=>h b (by simp[l]));rw[aJ,List.length_append,fK,Jn,Nat.mul_succ];have x:13*a.to.length≤13*m:=Kq _ f;omega
theorem Hv[DP]{e:List Fct}(h:rH [] e):Cf noB (kL e)∧(aJ (kL e)).length≤25000:=by
 have A:=xC h;have C:=(kI h).1;have o:∀a∈cD e,bP a.data.toList=true∧a.size≤12:=by
  intro a k;obtain⟨f,u,D⟩:=kJ.1 k;have l:=A f u;simp only[dX,Js]at l;have x:=C f u;rcases D with rfl|rfl
  ·exact⟨l.2.1,x.1⟩
  ·exact⟨l.2.2,x.2⟩
 have y:Asc (cD e):=iE _;have z:(cD e).length≤40:=by
  rcases nW h with l|l
  ·subst l;decide
  ·rw[List.nil_append,← fN]at l;exact l
 refine⟨Ch y (fun a k=>Cg (o a k).1) (fun a k=>⟨(o a k).1,(o a k).2,List.Pairwise.filter _ y,fun b t=>?_⟩),?_⟩
 ·have:=(Li.1 t).1;exact⟨(o b this).1,(o b this).2⟩
 ·have:=Ay (rs:=kL e) (m:=40) (fun r hr=>by
   unfold kL at hr;obtain⟨a,k,rfl⟩:=Jf.1 hr;exact⟨(o a k).2,Nat.le_trans (List.length_filter_le _ _) z,fun b t=>(o b (Li.1 t).1).2⟩)
  have E:(kL e).length=(cD e).length:=by unfold kL;rw[List.length_map]
  rw[E]at this;have G:(14+13*40)*(cD e).length≤(14+13*40)*40:=Kq _ z;omega
end
section
open Go.RowKit Go.Maps
variable {n:Nat} {s:St}
theorem GK{A:List Fct}{m:List ByteArray}(H:Asc m)(O:m.Nodup)(P:∀f∈A,f.p∈m∧f.q∈m){i j:Nat}{a b:ByteArray}(I:m[i]?=some a)(J:m[j]?=some b):PtN (A.map (lW m)) i j↔Pts A a b:=by
 have num:∀ {k:Int} {p q:Nat},(k,p,q)∈A.map (lW m)→∃f∈A,f.k=k∧m[p]?=some f.p∧m[q]?=some f.q:=by intro k p q r;obtain⟨f,t,e⟩:=Jf.1 r;unfold lW at e;injection e with R e;injection e with T U;exact⟨f,t,R,by rw[← T];exact fH H (P f t).1,by rw[← U];exact fH H (P f t).2⟩
 have D:∀ {u:Nat} {x y:ByteArray},m[u]?=some x→m[u]?=some y→x=y:=fun l o=>by rw[l]at o;injection o
 constructor
 ·intro h;obtain⟨a',b',l,o,E⟩:=h (fun i j=>∃a b,m[i]?=some a∧m[j]?=some b∧Pts A a b)
   (fun p q r=>by
    obtain⟨⟨k,K,L⟩,t,z,l,o⟩:=num r;simp only at z l o;subst z;exact⟨_,_,l,o,.addr t⟩)
   (fun p q x r ⟨a,b,E,F,C⟩=>by
    obtain⟨⟨k,K,L⟩,t,z,l,o⟩:=num r;simp only at z l o;subst z;rw[← D o E]at C;exact⟨_,_,l,F,.copy t C⟩)
   (fun p q v x r ⟨a,b,E,F,C⟩ ⟨a',b',M,N,G⟩=>by
    obtain⟨⟨k,K,L⟩,t,z,l,o⟩:=num r;simp only at z l o;subst z;rw[← D o E]at C;rw[← D F M]at G;exact⟨_,_,l,N,.load t C G⟩)
   (fun p q v x r ⟨a,b,E,F,C⟩ ⟨a',b',M,N,G⟩=>by
    obtain⟨⟨k,K,L⟩,t,z,l,o⟩:=num r;simp only at z l o;subst z;rw[← D l E]at C;rw[← D o M]at G;exact⟨_,_,F,N,.store t C G⟩)
  rw[D I l,D J o];exact E
 ·intro h;have Q:PtN (A.map (lW m)) (aX m a) (aX m b):=h (fun a b=>PtN (A.map (lW m)) (aX m a) (aX m b))
   (fun p q r=>.addr (Jf.2 ⟨_,r,rfl⟩))
   (fun p q x r l=>.copy (Jf.2 ⟨_,r,rfl⟩) l)
   (fun p q v x r l o=>.load (Jf.2 ⟨_,r,rfl⟩) l o)
   (fun p q v x r l o=>.store (Jf.2 ⟨_,r,rfl⟩) l o)
  rw[iZ O (fH H (IJ I)) I,iZ O (fH H (IJ J)) J]at Q;exact Q
theorem Az{t:List Nat}(h:t=mkS (t.contains ·))(r:n≤128)(f:∀x∈t,x<n):t=(IQ n).filter (t.contains ·):=by
 have e:IQ 128=IQ n++(IQ (128-n)).map (n + ·):=by
  rw[← List.range_add];congr 1
  omega
 have k:mkS (t.contains ·)=(IQ n).filter (t.contains ·):=by
  unfold mkS;rw[e,List.filter_append];have l:((IQ (128-n)).map (n + ·)).filter (t.contains ·)=[]:=by rw[List.filter_eq_nil_iff];intro x m;obtain⟨y,_,rfl⟩:=Jf.1 m;intro o;have:=f _ (JZ.1 o);omega
  rw[l,List.append_nil]
 exact h.trans k
theorem Cj{α:Type}(l:List α)(d:α):l=(IQ l.length).map (l.getD · d):=by
 refine Mx fun i=>?_
 rw[Jx];by_cases e:i<l.length
 ·rw[La e,hZ e];simp[E1,e]
 ·rw[Ja (by omega),Ja (by simp;omega)];rfl
theorem FG[DP]{e:List Fct}{sF:St}(t:∀f∈e,f.p∈cD e∧f.q∈cD e)(M:(cD e).length≤40)(u:∀i x,x∈sF.tg (sF.rep i)↔PtN (e.map (lW (cD e))) i x)(y:∀k x,x∈sF.ss.getD k []→x<(cD e).length)
  (z:∀m,sF.ss.getD m []=mkS ((sF.ss.getD m []).contains ·)):lV sF (cD e)=kL e:=by
 have A:Asc (cD e):=iE _;have C:=vA e;generalize D:cD e=h at *;unfold lV kL;rw[D];refine Mx fun i=>?_
 rw[Jx,Jx];by_cases o:i<h.length
 ·obtain⟨a,l⟩:∃a,h[i]?=some a:=⟨_,hZ o⟩;have E:h.getD i ⟨#[]⟩=a:=by rw[E1,l];rfl
  rw[La o,l];simp only[Og,Kh,RowD.mk.injEq];refine⟨E,?_⟩;have F:=Az (n:=h.length) (z (7*sF.rep i)) (by omega) (y _);have G:sF.tg (sF.rep i)=(IQ h.length).filter ((sF.tg (sF.rep i)).contains ·):=F;have H:h.filter (fun b=>decide (Pts e a b))=((IQ h.length).filter (fun j=>decide (Pts e a (h.getD j ⟨#[]⟩)))).map (h.getD · ⟨#[]⟩):=by have:=Cj h (⟨#[]⟩:ByteArray);rw[show h.filter (fun b=>decide (Pts e a b))=((IQ h.length).map (h.getD · ⟨#[]⟩)).filter (fun b=>decide (Pts e a b)) by rw[← this],List.filter_map];rfl
  rw[H,G];congr 1
  refine List.filter_congr fun j I=>?_
  have J:=List.mem_range.1 I;obtain⟨b,r⟩:∃b,h[j]?=some b:=⟨_,hZ J⟩;have K:h.getD j ⟨#[]⟩=b:=by rw[E1,r];rfl
  rw[K];have L:=(u i j).trans (GK A C t l r);rw[Bool.eq_iff_iff,decide_eq_true_eq,JZ];exact L
 ·rw[Ja (by simp;omega),Ja (by omega)];rfl
def unS(e:List Fct)(c:Way):Nat:=((St.solve 5000 c (St.start (cD e).length (e.map (lW (cD e)))) (cD e).length).map (·.un)).getD 0
theorem AA{k:Nat}:∀(j:Nat) {s sF:St},WF n s→St.substitute k n j s=some sF→WU n s sF:=by
 intro j;induction j with
 |zero=>intro s sF _ h;cases h
 |succ j r=>
  intro s sF t h;obtain⟨l,_,f⟩:=pF h;obtain⟨m,o⟩:=t.same l;cases e:(s.mergeSame n l).1
  ·rw[e]at f;cases f;exact⟨m,o⟩
  ·rw[e]at f;have:=r m f;exact⟨this.1,Nat.le_trans o this.2⟩
theorem FH{k:Nat}(r:130≤k){s f:St}(l:WF n s)(h:s.findTwins k n=some f):WU n s f:=by unfold St.findTwins at h;refine An (P:=(· < n)) (fun s x z m o e=>?_) (s.all n) s f l (fun x o=>l.ic o) h;obtain⟨t,u,y⟩:=qO (i:=x) r m;rw[u]at e;injection e with e;rw[← e];exact⟨m.put (by omega) y,gO _⟩
theorem FI{k:Nat}(r:130≤k){c:Way}{s m:St}(o:WF n s)(h:s.lookAhead k c n=some m):WU n s m:=by
 unfold St.lookAhead at h;cases e:(if c.subst=true then St.substitute k n k s else some s)with
 |none=>rw[e]at h;cases h
 |some t=>
  rw[e]at h;simp only[Option.bind_some]at h;have l:WU n s t:=by
   cases f:c.subst
   ·rw[f]at e;cases e;exact WU.refl o
   ·rw[f]at e;exact AA k o e
  cases f:c.collapse
  ·rw[f]at h;cases h;exact l
  ·rw[f]at h;exact l.trans (FH r l.1 h)
end
section
open Go.RowKit Go.Shelf
attribute [local go_sem] Oper.semAt_some
variable {B:Nat} {c:Way} {n:Nat} {s:St}
theorem FJ{s:St}{k:Nat}(h:k<s.ss.length):s.put k (s.ss.getD k [])=s:=by unfold St.put;rw[E1,hZ h];simp
theorem yN(f j:Nat)(w:vF)(G:GV)(h:GM w B c n G s)(hf:f<n)(hj:j<n) :
  I5 hE 158 #[.pointer (some ⟨G.bg,0,none⟩),.int .u64 f,.int .u64 j] w fun e w'=>e=.returned (.tuple #[])∧∃o,GM w' B c n o (s.suspect f j)∧GCh w w' G o:=by
 have hn:=h.n40;obtain⟨R,T,U,V,X,r5,Y,Z,a0⟩:=h.reads;have C:f*7=7*f:=Nat.mul_comm _ _;have L:j*7=7*j:=Nat.mul_comm _ _;obtain⟨E,D⟩:∃E,E=(s.tg f == s.tg j):=⟨_,rfl⟩;have HEq:I3 (∀W,iP w W→I5 hE 110 #[.pointer (some ⟨G.bn,f*7,none⟩),.pointer (some ⟨G.bn,j*7,none⟩)] W fun e w'=>e=.returned (.bool E)∧∃m,w'=W.drewN m):=aA (fun W k=>by rw[C,L,D];exact Bc (7*f) (7*j) W G (h.same k) (by omega) (by omega));have M:I3 (∀W,iP w W→I5 hE 108 #[.pointer (some ⟨G.bn,f*7+6,none⟩),.int .u64 j] W fun e w'=>e=.returned (.bool (!(s.tr f).contains j))∧∃o,GM w' B c n o (s.addAt (7*f+6) j)∧GCh W w' G o):=aA (fun W k=>by rw[C];exact lL (7*f+6) j W G (h.same k) (by omega) (by omega));have H:=aA h;have N:=aA D;clear h C L D R T U V X Y Z a0;go_enter Tryz.func158,Tryz.ntmps158
 go_wp2;cases E
 ·have F:I3 (∀W,iP w W→GM W B c n G (s.suspect f j)∧GCh w W G G):=by
   refine aA (fun W k=>?_);have l:s.suspect f j=s:=by unfold St.suspect;rw[← N.out];rfl
   rw[l];exact⟨H.out.same k,GCh.same k G⟩
  first|(go_region_with (go_at_call 110;refine(HEq.out w.drew ⟨rfl,rfl,rfl,rfl⟩).mono ?_;rintro e w1 ⟨rfl,m,rfl⟩))|fail
  all_goals
   go_wp2;go_end0
   exact⟨rfl,G,F.out _ ⟨rfl,rfl,rfl,rfl⟩⟩
 ·obtain⟨b,I⟩:∃b,b=(!(s.tr f).contains j):=⟨_,rfl⟩;rw[← I]at M;have O:=aA I;clear I;go_region_with (first|(go_at_call 110;refine(HEq.out w.drew ⟨rfl,rfl,rfl,rfl⟩).mono ?_;rintro e w1 ⟨rfl,m,rfl⟩)|(go_at_call 108;refine(M.out (w.drewN (1+m)) ⟨rfl,rfl,rfl,rfl⟩).mono ?_;rintro e x ⟨rfl,r,y,t⟩))
  all_goals
   have H2:=aA (And.intro y t);have z:GCh w x G r:=((GCh.same (w:=w) (W:=w.drewN (1+m)) ⟨rfl,rfl,rfl,rfl⟩ G)).trans t;cases b
   ·have F:I3 (GM x B c n r (s.suspect f j)∧GCh w x G r):=by
     refine aA ⟨?_,z⟩;have A:(s.tr f).contains j=true:=by
      have u:=O.out;cases J:(s.tr f).contains j
      ·rw[J]at u;cases u
      ·rfl
     have l:s.suspect f j=s:=by unfold St.suspect;rw[A];simp
     have P:7*f+6<7*n:=by omega
     obtain⟨v,q,q',qs⟩:=H.out.get P;have e2:s.addAt (7*f+6) j=s:=by unfold St.addAt;rw[nZ qs.canon A];exact FJ (by rw[H.out.lss];exact P)
     rw[l];have Q:=H2.out.1;rw[e2]at Q;exact Q
    clear y t z;go_wp2;go_end0
    exact⟨rfl,r,F.out⟩
   ·have K:=Dd f x r y (by omega);rw[t.e1]at K;have l:s.suspect f j={ s.addAt (7*f+6) j with susp:=dB f (s.addAt (7*f+6) j).susp }:=by
     have u:=O.out;unfold St.suspect;rw[← N.out];have A:(s.tr f).contains j=false:=by
      cases J:(s.tr f).contains j
      ·rfl
      ·rw[J]at u;cases u
     rw[A];rfl
    have a1:=aA z;have a2:=aA l;clear y t z l;go_wp2_with fail
    refine K.mono ?_
    clear K;rintro e w3 ⟨rfl,G3,a3,a4⟩;go_wp2;go_end0
    refine⟨rfl,G3,?_,a1.out.trans a4⟩;rw[a2.out];exact a3
theorem Hw:wK B c n:=fun _ f j w G h e k=>yN f j w G h e k
end
section
open Go.Sort
def ltN(x y:Nat):Bool:=decide (x<y)
theorem tE:SWO ltN:=⟨by intro x;simp[ltN],by intro x y z;simp[ltN];omega,by intro x y z;simp[ltN];omega⟩
theorem AB{x y:Nat}:ltN x y=true↔x<y:=by simp[ltN]
theorem dR{x y:Nat}:ltN x y=false↔y≤x:=by simp[ltN]
theorem kW(d:Array Nat){i j:Nat}(f:i<d.size)(h:j<d.size)(k:Nat):(swp d i j)[k]! = if k=j then d[i]! else if k=i then d[j]! else d[k]!:=by
 split
 ·rename_i e;subst e;exact swp_right d i k h
 ·split
  ·rename_i l e;subst e;exact swp_left d k j f l
  ·exact swp_other d i j k (by assumption) (by assumption)
structure Rest(d:Array Nat)(a b:Nat)(dk:Array Nat)(a' b':Nat):Prop where
 ord:a≤a'∧a'≤b'∧b'≤b
 perm:PermIn a b d dk
 bel:Below ltN a' b' dk
 fin:∀R,PermIn a' b' dk R→SortedIn ltN a' b' R→SortedIn ltN a b R
variable {d dk d4 dL:Array Nat} {a b a' b' mid p:Nat}
theorem Rest.start(e:a≤b)(h:Below ltN a b d):Rest d a b d a b:=⟨⟨gO _,e,gO _⟩,permIn_refl _ _ _,h,fun _ _ h=>h⟩
theorem Rest.step(h:Rest d a b dk a' b')(o:b≤d.size){k:Array Nat}(e:Kz a' b' dk k):Rest d a b k a' b':=by have r:=h.perm.1;have f:=h.ord;exact⟨f,MY _ _ _ _ _ h.perm (LD _ _ _ _ _ _ f.1 f.2.2 (by omega) e),h.bel.perm (by omega) e,fun R l m=>h.fin R (MY _ _ _ _ _ e l) m⟩
theorem Rest.done(h:Rest d a b dk a' b')(k:b≤d.size){e:Array Nat}(f:Kz a' b' dk e)(l:Md ltN a' b' e):Kz a b d e∧Md ltN a b e:=
 ⟨(h.step k f).perm,h.fin e f l⟩
theorem Rest.eq(h:Rest d a b dk a' b')(A:b≤d.size)(I:0<a')(J:p≤dk[a'-1]!)(h1:a'<mid)(h2:mid≤b')(h3:Kz a' b' dk d4)(l:∀i,a'≤i→i<mid→d4[i]!≤p)(t:∀i,mid≤i→i<b'→p<d4[i]!):Rest d a b d4 mid b':=by
 have k:=h.step A h3;have C:=h.ord;have K:=k.perm.1;have D:∀i,a'≤i→i<b'→p≤d4[i]!:=by
  intro i m o;have e:d4[a'-1]! = dk[a'-1]!:=h3.2.1 (a'-1) (.inl (by omega));rcases k.bel with u|u
  ·omega
  ·have:=dR.1 (u i m o);omega
 refine⟨⟨by omega,h2,C.2.2⟩,k.perm,.inr fun i m o=>dR.2 ?_,fun R f E=>k.fin R (LD _ _ _ _ _ _ (by omega) (gO _) (by omega) f) fun i j y F r=>dR.2 ?_⟩
 ·have:=l (mid-1) (by omega) (by omega);have:=t i m o;omega
 ·have G:=MK d4 R mid b' (fun x=>p<x) (by omega) f t;by_cases H:j<mid
  ·rw[f.2.1 i (.inl (by omega)),f.2.1 j (.inl H)];have:=l i y (by omega);have:=D j (by omega) r;omega
  ·have:=G j (by omega) r;by_cases z:i<mid
   ·rw[f.2.1 i (.inl z)];have:=l i y z;omega
   ·exact dR.1 (E i j (by omega) F r)
theorem Rest.left(h:Rest d a b dk a' b')(t:b≤d.size)(h1:a'≤mid)(h2:mid<b')(h3:Kz a' b' dk d4)(D:∀i,a'≤i→i<mid→d4[i]! < d4[mid]!)(E:∀i,mid<i→i<b'→d4[mid]!≤d4[i]!)(k:Kz a' mid d4 dL)(F:Md ltN a' mid dL):Rest d a b dL (mid+1) b':=by
 have G:=h.ord;have u:=h.step t h3;have N:=u.perm.1;have l:=u.step t (LD _ _ _ _ _ _ (gO _) (by omega:mid≤b') (by omega) k);have m:dL[mid]! = d4[mid]!:=k.2.1 mid (.inr (gO _));have O:=l.perm.1;have y:=MK d4 dL a' mid (fun x=>x<d4[mid]!) (by omega) k D;have z:∀i,mid+1≤i→i<b'→d4[mid]!≤dL[i]!:=by intro i A e;rw[k.2.1 i (.inr (by omega))];exact E i (by omega) e
 refine⟨⟨by omega,by omega,G.2.2⟩,l.perm,.inr fun i A e=>dR.2 ?_,fun R f H=>l.fin R (LD _ _ _ _ _ _ (by omega) (gO _) (by omega) f) fun i j o r C=>dR.2 ?_⟩
 ·rw[ML,m];exact z i A e
 ·have I:=MK dL R (mid+1) b' (fun x=>d4[mid]!≤x) (by omega) f z;by_cases J:j<mid+1
  ·rw[f.2.1 i (.inl (by omega)),f.2.1 j (.inl J)];by_cases K:j=mid
   ·subst K;rw[m];have:=y i o r;omega
   ·exact dR.1 (F i j o r (by omega))
  ·have L:=I j (by omega) C;by_cases M:i<mid+1
   ·rw[f.2.1 i (.inl M)];by_cases e:i=mid
    ·subst e;rw[m];exact L
    ·have:=y i o (by omega);omega
   ·exact dR.1 (H i j (by omega) r C)
theorem Rest.right(h:Rest d a b dk a' b')(r:b≤d.size)(h1:a'≤mid)(h2:mid<b')(h3:Kz a' b' dk d4)(D:∀i,a'≤i→i<mid→d4[i]! < d4[mid]!)(E:∀i,mid<i→i<b'→d4[mid]!≤d4[i]!)(f:Kz (mid+1) b' d4 dL)(F:Md ltN (mid+1) b' dL):Rest d a b dL a' mid:=by
 have G:=h.ord;have t:=h.step r h3;have O:=t.perm.1;have k:=t.step r (LD _ _ _ _ _ _ (by omega:a'≤mid+1) (gO _) (by omega) f);have u:dL[mid]! = d4[mid]!:=f.2.1 mid (.inl (by omega));have P:=k.perm.1;have H:=MK d4 dL (mid+1) b' (fun x=>d4[mid]!≤x) (by omega) f (fun i y m=>E i (by omega) m);have I:∀i,a'≤i→i<mid→dL[i]! < d4[mid]!:=by intro i y m;rw[f.2.1 i (.inl (by omega))];exact D i y m
 refine⟨⟨G.1,h1,by omega⟩,k.perm,k.bel.mono (by omega),fun R l J=>k.fin R (LD _ _ _ _ _ _ (gO _) (by omega) (by omega) l) fun i j z A C=>dR.2 ?_⟩;have K:=MK dL R a' mid (fun x=>x<d4[mid]!) (by omega) l I;by_cases L:j<mid
 ·exact dR.1 (J i j z A L)
 ·have o:R[j]! = dL[j]!:=l.2.1 j (.inr (by omega));have M:d4[mid]!≤R[j]!:=by
   rw[o];by_cases e:j=mid
   ·rw[e,u];exact gO _
   ·exact H j (by omega) C
  by_cases N:i<mid
  ·have:=K i z N;omega
  ·rw[o,l.2.1 i (.inr (by omega))];by_cases e:i=mid
   ·rw[e,u,← o];exact M
   ·exact dR.1 (F i j (by omega) A C)
theorem Rest.me(h:Rest d a b dk a' b')(e:b≤d.size)(h2:mid<b')(h3:Kz a' b' dk d4):Below ltN a' mid d4:=(h.step e h3).bel.mono (by omega)
theorem IB(e:∀i,mid<i→i<b'→d4[mid]!≤d4[i]!):Below ltN (mid+1) b' d4:=.inr fun i h f=>dR.2 (by rw[ML];exact e i (by omega) f)
structure Prt(q:Nat→Bool)(d0 dk:Array Nat)(a b p i j:Nat):Prop where
 perm:PermIn a b d0 dk
 piv:dk[a]! = p
 lo:∀t,a<t→t<i→q dk[t]! = true
 hi:∀t,j<t→t<b→q dk[t]! = false
 rg:a<i∧i≤j+1∧j<b∧b≤d0.size
variable {q ltq:Nat→Bool} {d0:Array Nat} {i j pivot:Nat}
theorem Prt.start(f:a≤pivot)(h:pivot<b)(k:b≤d0.size):Prt q d0 (swp d0 a pivot) a b d0[pivot]! (a+1) (b-1):=by
 refine⟨swp_permIn _ _ _ _ _ (gO _) (by omega) f h k,?_,fun t l m=>by omega,fun t l m=>by omega,by omega⟩;rw[kW d0 (by omega) (by omega)];split
 ·rename_i e;rw[e]
 ·simp
theorem Prt.up(h:Prt q d0 dk a b p i j)(l:i≤j)(f:q dk[i]! = true):Prt q d0 dk a b p (i+1) j:=
 ⟨h.perm,h.piv,fun t k m=>by
  by_cases e:t=i
  ·rw[e];exact f
  ·exact h.lo t k (by omega),h.hi,by have:=h.rg;omega⟩
theorem Prt.down(h:Prt q d0 dk a b p i j)(l:i≤j)(f:q dk[j]! = false):Prt q d0 dk a b p i (j-1):=
 ⟨h.perm,h.piv,h.lo,fun t m k=>by
  by_cases e:t=j
  ·rw[e];exact f
  ·exact h.hi t (by omega) k,by have:=h.rg;omega⟩
theorem Prt.swap(h:Prt q d0 dk a b p i j)(l:i≤j)(h1:q dk[i]! = false)(h2:q dk[j]! = true):i<j∧Prt q d0 (swp dk i j) a b p (i+1) (j-1):=by
 have hr:=h.rg;have m:=h.perm.1;have o:i≠j:=by intro e;rw[e,h2]at h1;cases h1
 refine⟨by omega,MY _ _ _ _ _ h.perm (swp_permIn _ _ _ _ _ (by omega) (by omega) (by omega) (by omega) (by omega)),?_,fun t f k=>?_,fun t f k=>?_,by omega⟩
 ·rw[kW dk (by omega) (by omega),if_neg (by omega),if_neg (by omega)];exact h.piv
 ·rw[kW dk (by omega) (by omega),if_neg (by omega)];split
  ·exact h2
  ·exact h.lo t f (by omega)
 ·rw[kW dk (by omega) (by omega)];split
  ·exact h1
  ·rw[if_neg (by omega)];exact h.hi t (by omega) k
theorem Prt.fin(h:Prt ltq d0 dk a b p i j)(f:∀x,ltq x=ltN x p)(o:j<i):a≤j∧j<b∧Kz a b d0 (swp dk j a)∧(∀t,a≤t→t<j→(swp dk j a)[t]! < (swp dk j a)[j]!)∧(∀t,j<t→t<b→(swp dk j a)[j]!≤(swp dk j a)[t]!):=by
 have hr:=h.rg;have r:=h.perm.1;have k:(swp dk j a)[j]! = p:=by
  rw[kW dk (by omega) (by omega)];split
  ·rename_i e;rw[e];exact h.piv
  ·rw[if_pos rfl];exact h.piv
 refine⟨by omega,by omega,MY _ _ _ _ _ h.perm (swp_permIn _ _ _ _ _ (by omega) (by omega) (by omega) (by omega) (by omega)),fun t l m=>?_,fun t l m=>?_⟩
 ·rw[k,kW dk (by omega) (by omega)];split
  ·have:=h.lo j (by omega) (by omega);rw[f]at this;exact AB.1 this
  ·rw[if_neg (by omega)];have:=h.lo t (by omega) (by omega);rw[f]at this;exact AB.1 this
 ·rw[k,kW dk (by omega) (by omega),if_neg (by omega),if_neg (by omega)];have:=h.hi t l m;rw[f]at this;exact dR.1 this
theorem Prt.mc(h:Prt ltq d0 dk a b p i j)(k:∀x,ltq x=!ltN p x)(m:j<i):a<i∧i≤b∧Kz a b d0 dk∧(∀t,a≤t→t<i→dk[t]!≤p)∧(∀t,i≤t→t<b→p<dk[t]!):=by
 have hr:=h.rg;refine⟨hr.1,by omega,h.perm,fun t l f=>?_,fun t l f=>?_⟩
 ·by_cases e:t=a
  ·rw[e,h.piv];exact gO _
  ·have:=h.lo t (by omega) f;rw[k]at this;simpa[ltN]using this
 ·have:=h.hi t (by omega) f;rw[k]at this;simpa[ltN]using this
end
section
open Go.RowKit Go.Sort
structure Rw(w:World)(g S:Nat)(d:Array Nat):Prop where
 ex:∃cs:Array Value,w.heap[g]?=some (.cells cs TN (0,0))∧cs.size=S∧d.size≤S∧∀t,t<d.size→cs[t]?=some (.int .u64 ((d[t]!:Nat):Int))
variable {w w':World} {g S:Nat} {d:Array Nat}
theorem Rw.cell(h:Rw w g S d){t:Nat}(e:t<d.size):w.cell? ⟨g,t,none⟩=some (.int .u64 ((d[t]!:Nat):Int)):=by obtain⟨l,f,_,_,k⟩:=h.ex;rw[aC f];exact k t e
theorem Rw.fz(h:Rw w g S d)(t:Nat):w.frozen? ⟨g,t,none⟩=false:=by obtain⟨f,e,_,_,k⟩:=h.ex;exact aE e t
theorem Rw.kb(h:Rw w g S d){L:List Nat}(e:Kb L w w')(f:g ∉ L):Rw w' g S d:=by obtain⟨k,l,m⟩:=h.ex;exact⟨k,e.heap l f,m⟩
theorem Rw.lt(h:Rw w g S d):g<w.heap.size:=by obtain⟨f,e,_⟩:=h.ex;exact aB e
theorem Rw.swap(h:Rw w g S d){i j:Nat}(m:i<d.size)(o:j<d.size):Rw ((w.setCell ⟨g,i,none⟩ (.int .u64 ((d[j]!:Nat):Int))).setCell ⟨g,j,none⟩ (.int .u64 ((d[i]!:Nat):Int))) g S (swp d i j):=by
 obtain⟨f,r,u,x,y⟩:=h.ex;have z:=aI r i (.int .u64 ((d[j]!:Nat):Int));refine⟨(f.setIfInBounds i (.int .u64 ((d[j]!:Nat):Int))).setIfInBounds j (.int .u64 ((d[i]!:Nat):Int)),aI z _ _,by simpa using u,by rw[size_swp];exact x,fun t k=>?_⟩;rw[size_swp]at k;rw[kW d m o t];have A:j<f.size:=by omega
 have C:i<f.size:=by omega
 by_cases e:t=j
 ·subst e;simp[A]
 ·rw[if_neg e,My (by omega)];by_cases l:t=i
  ·subst l;simp[C]
  ·rw[if_neg l,My (by omega)];exact y t k
theorem Rw.im{wr:vF}(h:Rw wr g S d)(k:Kb [g] w wr){i j:Nat}(f:i<d.size)(l:j<d.size){V:Nat→Nat}(e:∀t,V t=d[t]!)(q:Nat) :
  Rw (((wr.drewN q).setCell ⟨g,i,none⟩ (.int .u64 ((V j:Nat):Int))).setCell ⟨g,j,none⟩ (.int .u64 ((V i:Nat):Int))) g S (swp d i j)∧Kb [g] w (((wr.drewN q).setCell ⟨g,i,none⟩ (.int .u64 ((V j:Nat):Int))).setCell ⟨g,j,none⟩ (.int .u64 ((V i:Nat):Int))):=by
 rw[e i,e j];exact⟨(h.kb ((Kb.refl [] wr).drewN q) (by simp)).swap f l,((k.drewN q).setCell (p:=⟨g,i,none⟩) (.inl (by simp)) _).setCell (p:=⟨g,j,none⟩) (.inl (by simp)) _⟩
theorem GL(x:Nat)(w:vF):I5 hE 208 #[.int .u64 (x:Int)] w fun e w'=>e=.returned (.bool false)∧w'=w:=by
 go_enter Tryz.func208,Tryz.ntmps208
 go_wp2;go_ret
 exact⟨by simp,rfl⟩
theorem cN(x y:Nat)(w:vF):I5 hE 199 #[.int .u64 (x:Int),.int .u64 (y:Int)] w fun e w'=>e=.returned (.bool (ltN x y))∧w'=w:=by
 go_enter Tryz.func199,Tryz.ntmps199
 go_wp2_with (go_at_call 208;refine(GL _ _).mono ?_;rintro e w' ⟨rfl,rfl⟩)
 go_ret
 exact⟨by simp[ltN],rfl⟩
end
end Go.Proofs.YtiamlbhkiehilaaGreatDoor
