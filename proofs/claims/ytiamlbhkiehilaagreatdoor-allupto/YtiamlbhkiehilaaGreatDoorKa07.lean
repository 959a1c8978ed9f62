import Derived.Test.YtiamlbhkiehilaaGreatDoorKa06
open Array renaming toArray_toList→Kf,length_toList→IR,getElem?_eq_getElem→JU
open Go renaming maxLen→IU,splice→Nf,length_splice→KN,wpList_append_own→Jg,cell_one_new→Kk,Addr→Mo,step_copy_splice→KH
open Go.Act renaming put→J2
open Go.Addr renaming add_lit→Kl
open Go.ByteArray renaming toList_eq→JV
open Go.IntKind renaming i64→KE
open Go.Proofs.Tryz renaming prog→hE,underlying44→I7
open Go.RowKit renaming Hid→I3
open Go.Value renaming string→F2
open Go.World renaming ownsRow_nil→JW
open List renaming map_drop→KF,getElem?_eq_getElem→hZ,mem_map→Jf,getElem?_append_left→IL,getElem?_drop→Kd,getElem?_take→Jr,size_toArray→Km
open Nat renaming mul_one→Jv,zero_le→IM,le_refl→gO,min_eq_right→KC
namespace Go.Proofs.YtiamlbhkiehilaaGreatDoor
section
open Go.RowKit Go.Maps
theorem iJ:(hE.info? 9).map (fun i=>(i.zero,i.size,i.bytes))=some (some (.string ⟨#[]⟩),1,16):=by kernel_rfl
theorem oF:(hE.info? 9).map (·.size)=some 1:=by kernel_rfl
theorem wrap_i64(x:Int)(h1:-9223372036854775808≤x)(h2:x≤9223372036854775807):KE.wrap x=x:=by rw[IntKind.wrap_i64];omega
theorem aK{α:Type}{l:List α}{i:Nat}{x:α}(h:l[i]?=some x):i<l.length:=(List.getElem?_eq_some_iff.1 h).1
structure NInv(w wr:World)(fs:List Fct)(m:Nat)(v:Value)(out:List ByteArray):Prop where
 le:m≤2*fs.length
 eqn:out=dV ((bI fs).take m)
 short:out.length≤m
 own:wr.ownsRow w.heap.size 9 1 v out.length (out.map Value.string)
 blw:Below w.heap.size w wr
theorem NInv.ins{w wr c:World}{d:List Fct}{m k g cp:Nat}{v:Value}{a:List ByteArray}{s:ByteArray}{b:List Value}(f:NInv w wr d m v a)(h:(bI d)[m]?=some s)(i:aX a s=k)(o:a[k]?≠some s)
  (j:w.heap.size≤g) (q:a.length+1≤cp) (r:cp≤IU) (t:b.length=cp) (u:b.take (a.length+1)=a.map F2++[.string ⟨#[]⟩])
  (x:c.heap[g]?=some (.cells (Nf b (k+1) ((a.drop k).map F2)).toArray 9 (0,0))) (y:Below w.heap.size w c) :
  NInv w (c.setCell ⟨g,k,none⟩ (.string s)) d (m+1) (.slice (some ⟨g,0,none⟩) (a.length+1) cp) (mK a s):=by
 have z:k≤a.length:=i ▸ zL a s;have l:mK a s=a.take k++s::a.drop k:=tU i o;have e:(mK a s).length=a.length+1:=by rw[l];simp;omega
 have n:=aK h;rw[iI]at n;refine⟨n,?_,?_,?_,y.setCell (p:=⟨g,k,none⟩) j _⟩
 ·rw[wQ h,← f.eqn]
 ·rw[e];have:=f.short;omega
 ·rw[e];refine⟨by simp[e],.inr ⟨g,cp,(Nf b (k+1) ((a.drop k).map F2)).toArray.setIfInBounds k (.string s),rfl,j,aI x k _,q,r,?_,?_⟩⟩
  ·simp;rw[KN _ _ _ (by simp;omega),t]
  ·have:=Gm b (a.map F2) (.string ⟨#[]⟩) (.string s) k (by simpa using z) (by simpa using u);rw[List.length_map,← KF]at this;rw[Jv,l];simpa using this
theorem NInv.old{w wr:World}{c:List Fct}{m k:Nat}{v:Value}{a:List ByteArray}{s:ByteArray}(b:NInv w wr c m v a)(d:(bI c)[m]?=some s)(f:aX a s=k)(g:a[k]?=some s):NInv w wr c (m+1) v a:=by have e:=aK d;rw[iI]at e;refine⟨e,?_,by have:=b.short;omega,b.own,b.blw⟩;rw[wQ d,← b.eqn,tV f g]
theorem toList_inj{a b:ByteArray}(h:a.toList=b.toList):a=b:=by rw[JV,JV]at h;obtain⟨⟨x⟩⟩:=a;obtain⟨⟨y⟩⟩:=b;simp at h;subst h;rfl
set_option maxRecDepth 100000 in
set_option maxHeartbeats 4000000 in
theorem Bg(b aq cap:Nat)(Y:List Fct)(w:World)(az:Y.length≤1000)(hf:fG b aq Y w)(hb:b<w.heap.size) :
  Calls hE 53 #[.slice (some ⟨b,aq,none⟩) Y.length cap] w fun e w'=>∃v,e=.returned v∧NInv w w' Y (2*Y.length) v (dV (bI Y)):=by
 go_enter Tryz.func53,Tryz.ntmps53
 go_wp2;go_loopw [3,4] (fun v i wr=>∃m a,i=.int .i64 (m:Nat)∧NInv w wr Y m v a) (fun _ i _=>2*Y.length-(intOf i).toNat)
 case atStart=>exact⟨0,[],rfl,IM _,rfl,gO _,JW _ _ _ _,Below.refl _ _⟩
 case round=>
  obtain⟨m,a,rfl,F⟩:=hrel;by_cases aV:m<2*Y.length
  ·obtain⟨⟨k,a0,a1⟩,ao⟩:∃aw,Y[m / 2]?=some aw:=⟨_,hZ (by omega)⟩;obtain⟨d0,d1,d2⟩:=(hf.below F.blw hb) (m / 2) k a0 a1 ao;clear d0;have HF:I3 (Y[m / 2]?=some ⟨k,a0,a1⟩):=ao;clear ao;have b0:=F.short;have s:=F.blw;have ar:((m:Int) % 2 == 1)=true∨((m:Int) % 2 == 1)=false:=by cases ((m:Int) % 2 == 1)<;>simp
   obtain⟨i0,aa,ab,ad,ae⟩:=info_parts iJ;rcases F.own.2 with⟨t,au⟩|⟨g,cp,r,t,b1,hg,b2,b3,b4,av⟩
   ·rw[t];rw[t]at F;have a2:=F.own;have b5:a.length≤0:=Nat.le_of_eq au;clear au;rcases ar with ho|ho
    ·have HS:I3 ((bI Y)[m]?=some a1):=by
      have:=tT HF.out;have e:2*(m / 2)+1=m:=by have:=beq_iff_eq.1 ho;omega
      rwa [e]at this
     clear HF hf;go_wp2;go_loop [6] (fun i=>∃k:Nat,i=.int .i64 k∧k≤0) (fun i=>0-(intOf i).toNat)
     case atStart=>exact⟨0,rfl,IM _⟩
     case round=>
      obtain⟨k,rfl,ax⟩:=hrel;have a9:k≤a.length:=by omega
      have HK:I3 (aX a a1=k):=jT (fun j x h=>by omega) a9 (fun y G=>absurd (aK G) (by omega));have HN:I3 (a[k]?≠some a1):=fun h=>absurd (aK h) (by omega)
      go_wp2_with (first|(at_builtin;refine Jg _ rfl _ _ 44 rfl w.heap.size 9 i0 (.string ⟨#[]⟩) 1 16 I7 aa ab ad ae rfl (by decide) _ _ _ rfl (a2.alloc _) ⟨wr.heap.size,0,none⟩ 1 1 [.string ⟨#[]⟩] rfl rfl (Kk _ _ _) ?c2 ?c3 ?c4 ?c5 ?_)|go_in)
      case c2=>rfl
      case c3=>unfold IU;omega
      case c4=>omega
      case c5=>have:=s.size;simp;omega
      intro v' n H I _;obtain⟨c,o,f,a4,J,u,a5,a6,a7,z⟩:∃g cap r,v'=.slice (some ⟨g,0,none⟩) (a.length+1) cap∧w.heap.size≤g∧n.heap[g]?=some (.cells r 9 (0,0))∧a.length+1≤cap∧cap≤IU∧r.size=cap*1∧r.toList.take ((a.length+1)*1)=a.map F2++[.string ⟨#[]⟩]:=by
       rcases H.2 with⟨_,A⟩|h
       ·omega
       ·exact h
      rw[a4];go_wp2;have af:KE.wrap ((k:Int)+1)=(k:Int)+1:=by rw[wrap_i64 _ (by omega) (by omega)]
      have ag:(k:Int)+1≤(a.length:Int)+1:=by omega
      have ah:(k:Int)≤(a.length:Int)+1:=by omega
      have ai:0≤(k:Int)+1:=by omega
      have aj:((k:Int)+1).toNat=k+1:=by omega
      have K:n.drew.heap[c]?=some (.cells f.toList.toArray 9 (0,0)):=by rw[Kf];exact u
      obtain⟨d,p⟩:∃d,d=(a.drop k).map F2:=⟨_,rfl⟩;have a8:d.length=a.length-k:=by rw[p];simp
      have L:∀v∈d,v.oneCell'=true:=by intro v t;rw[p]at t;obtain⟨y,_,rfl⟩:=Jf.1 t;rfl
      have B:I3 (d=(a.drop k).map F2):=p;clear p;have M:Below w.heap.size w n.drew:=((s.alloc s.size _).grown I (by have:=s.size;simp;omega) (fun j l=>(a2.lt j l).1)).drew;have N:∀j v,d[j]?=some v→n.drew.cell? ((⟨c,k,none⟩:Mo).add j)=some v:=by
       intro j v l;have ak:j<d.length:=aK l;have O:(f.toList.take ((a.length+1)*1))[k+j]?=some v:=by rw[z,IL (by simp;omega)];rw[B.out,KF,Kd]at l;exact l
       rw[Jr,if_pos (by omega)]at O;have h2:n.drew.heap[c]?=some (.cells f 9 (0,0)):=u;rw[Kl,aC h2];simpa using O
      have P:=aA N;clear N;have al:¬o=k:=by omega
      obtain⟨D,hD,Q⟩:∃D:Mo,(if o=k+1 then some (⟨c,0,none⟩:Mo)else some ⟨c,k+1,none⟩)=some D∧I3 (0<d.length→D=⟨c,k+1,none⟩):=by
       by_cases h:o=k+1
       ·exact⟨⟨c,0,none⟩,by simp[h],fun A=>by omega⟩
       ·exact⟨⟨c,k+1,none⟩,by simp[h],fun _=>rfl⟩
      have R:I3 (d.length=Nat.min (a.length+1-k) (a.length-k)):=by rw[a8];exact(KC (by omega)).symm
      have S:k+1+d.length≤f.toList.length:=by rw[show f.toList.length=f.size from IR];omega
      have C:=aA S;clear S;have T:=aA L;clear L;go_region_law (refine KH rfl (.tmp 61) (.tmp 64) 44 44 rfl 9 I7 oF (some D) (some ⟨c,k,none⟩) (a.length-k) (o-(k+1)) (a.length+1-k) (o-k) (by simp[Act.eval,J2]) (by simp[Act.eval,J2]) c (k+1) f.toList 9 K d R.out (fun A=>⟨congrArg some (Q.out A),⟨c,k,none⟩,rfl,iX P⟩) C.out T.out w.heap.size w M J ?_;intro E U V)
      have q:E.heap[c]?=some (.cells (Nf f.toList (k+1) ((a.drop k).map F2)).toArray 9 (0,0)):=by rw[← B.out];exact U.out
      have Z:=F.ins HS.out HK.out HN.out J a5 a6 (by rw[IR,a7,Jv]) (by rw[← z,Jv]) q V;obtain⟨X,am⟩:∃X,E.cell? ⟨c,k,none⟩=some X:=by rw[aC q];refine⟨_,JU ?_⟩;rw[Km,KN _ _ _ (by rw[← B.out];exact C.out),IR];omega
      have an:E.frozen? ⟨c,k,none⟩=false:=aE q _;clear q U V K M P hD Q R C T H I u z;go_wp2;go_roundw
      case rel=>exact⟨m+1,_,by go_num,Z⟩
      case measure=>simp[intOf];omega
    ·have HS:I3 ((bI Y)[m]?=some a0):=by
      have:=rS HF.out;have e:2*(m / 2)=m:=by have:=beq_eq_false_iff_ne.1 ho;omega
      rwa [e]at this
     clear HF hf;go_wp2;go_loop [6] (fun i=>∃k:Nat,i=.int .i64 k∧k≤0) (fun i=>0-(intOf i).toNat)
     case atStart=>exact⟨0,rfl,IM _⟩
     case round=>
      obtain⟨k,rfl,ax⟩:=hrel;have a9:k≤a.length:=by omega
      have HK:I3 (aX a a0=k):=jT (fun j x h=>by omega) a9 (fun y G=>absurd (aK G) (by omega));have HN:I3 (a[k]?≠some a0):=fun h=>absurd (aK h) (by omega)
      go_wp2_with (first|(at_builtin;refine Jg _ rfl _ _ 44 rfl w.heap.size 9 i0 (.string ⟨#[]⟩) 1 16 I7 aa ab ad ae rfl (by decide) _ _ _ rfl (a2.alloc _) ⟨wr.heap.size,0,none⟩ 1 1 [.string ⟨#[]⟩] rfl rfl (Kk _ _ _) ?c2 ?c3 ?c4 ?c5 ?_)|go_in)
      case c2=>rfl
      case c3=>unfold IU;omega
      case c4=>omega
      case c5=>have:=s.size;simp;omega
      intro v' n H I _;obtain⟨c,o,f,a4,J,u,a5,a6,a7,z⟩:∃g cap r,v'=.slice (some ⟨g,0,none⟩) (a.length+1) cap∧w.heap.size≤g∧n.heap[g]?=some (.cells r 9 (0,0))∧a.length+1≤cap∧cap≤IU∧r.size=cap*1∧r.toList.take ((a.length+1)*1)=a.map F2++[.string ⟨#[]⟩]:=by
       rcases H.2 with⟨_,A⟩|h
       ·omega
       ·exact h
      rw[a4];go_wp2;have af:KE.wrap ((k:Int)+1)=(k:Int)+1:=by rw[wrap_i64 _ (by omega) (by omega)]
      have ag:(k:Int)+1≤(a.length:Int)+1:=by omega
      have ah:(k:Int)≤(a.length:Int)+1:=by omega
      have ai:0≤(k:Int)+1:=by omega
      have aj:((k:Int)+1).toNat=k+1:=by omega
      have K:n.drew.heap[c]?=some (.cells f.toList.toArray 9 (0,0)):=by rw[Kf];exact u
      obtain⟨d,p⟩:∃d,d=(a.drop k).map F2:=⟨_,rfl⟩;have a8:d.length=a.length-k:=by rw[p];simp
      have L:∀v∈d,v.oneCell'=true:=by intro v t;rw[p]at t;obtain⟨y,_,rfl⟩:=Jf.1 t;rfl
      have B:I3 (d=(a.drop k).map F2):=p;clear p;have M:Below w.heap.size w n.drew:=((s.alloc s.size _).grown I (by have:=s.size;simp;omega) (fun j l=>(a2.lt j l).1)).drew;have N:∀j v,d[j]?=some v→n.drew.cell? ((⟨c,k,none⟩:Mo).add j)=some v:=by
       intro j v l;have ak:j<d.length:=aK l;have O:(f.toList.take ((a.length+1)*1))[k+j]?=some v:=by rw[z,IL (by simp;omega)];rw[B.out,KF,Kd]at l;exact l
       rw[Jr,if_pos (by omega)]at O;have h2:n.drew.heap[c]?=some (.cells f 9 (0,0)):=u;rw[Kl,aC h2];simpa using O
      have P:=aA N;clear N;have al:¬o=k:=by omega
      obtain⟨D,hD,Q⟩:∃D:Mo,(if o=k+1 then some (⟨c,0,none⟩:Mo)else some ⟨c,k+1,none⟩)=some D∧I3 (0<d.length→D=⟨c,k+1,none⟩):=by
       by_cases h:o=k+1
       ·exact⟨⟨c,0,none⟩,by simp[h],fun A=>by omega⟩
       ·exact⟨⟨c,k+1,none⟩,by simp[h],fun _=>rfl⟩
      have R:I3 (d.length=Nat.min (a.length+1-k) (a.length-k)):=by rw[a8];exact(KC (by omega)).symm
      have S:k+1+d.length≤f.toList.length:=by rw[show f.toList.length=f.size from IR];omega
      have C:=aA S;clear S;have T:=aA L;clear L;go_region_law (refine KH rfl (.tmp 61) (.tmp 64) 44 44 rfl 9 I7 oF (some D) (some ⟨c,k,none⟩) (a.length-k) (o-(k+1)) (a.length+1-k) (o-k) (by simp[Act.eval,J2]) (by simp[Act.eval,J2]) c (k+1) f.toList 9 K d R.out (fun A=>⟨congrArg some (Q.out A),⟨c,k,none⟩,rfl,iX P⟩) C.out T.out w.heap.size w M J ?_;intro E U V)
      have q:E.heap[c]?=some (.cells (Nf f.toList (k+1) ((a.drop k).map F2)).toArray 9 (0,0)):=by rw[← B.out];exact U.out
      have Z:=F.ins HS.out HK.out HN.out J a5 a6 (by rw[IR,a7,Jv]) (by rw[← z,Jv]) q V;obtain⟨X,am⟩:∃X,E.cell? ⟨c,k,none⟩=some X:=by rw[aC q];refine⟨_,JU ?_⟩;rw[Km,KN _ _ _ (by rw[← B.out];exact C.out),IR];omega
      have an:E.frozen? ⟨c,k,none⟩=false:=aE q _;clear q U V K M P hD Q R C T H I u z;go_wp2;go_roundw
      case rel=>exact⟨m+1,_,by go_num,Z⟩
      case measure=>simp[intOf];omega
   ·rw[t];rw[t]at F;have a2:=F.own;rcases ar with ho|ho
    ·have HS:I3 ((bI Y)[m]?=some a1):=by
      have:=tT HF.out;have e:2*(m / 2)+1=m:=by have:=beq_iff_eq.1 ho;omega
      rwa [e]at this
     clear HF hf;go_wp2;have ap:I3 (∀j x,a[j]?=some x→wr.cell? ⟨g,j,none⟩=some (.string x)):=by
      intro j x l;rw[aC hg];have:(r.toList.take (a.length*1))[j]?=(a.map F2)[j]?:=by rw[av]
      rw[Jr,if_pos (by have:=aK l;omega)]at this;simpa[l]using this
     go_loop [6] (fun i=>∃k:Nat,i=.int .i64 k∧k≤a.length∧∀j x,j<k→a[j]?=some x→cK x a1=true) (fun i=>a.length-(intOf i).toNat)
     case atStart=>exact⟨0,rfl,IM _,fun j x h=>by omega⟩
     case round=>
      obtain⟨k,rfl,a9,a3⟩:=hrel;by_cases hk:k<a.length
      ·obtain⟨x,hx⟩:∃x,a[k]?=some x:=⟨_,hZ hk⟩;have ay:=ap.out k x hx;have HX:I3 (a[k]?=some x):=hx;clear hx;cases hl:Op.bytesLess x.toList a1.toList
       ·have HK:I3 (aX a a1=k):=jT a3 a9 (fun y G=>by have:=HX.out.symm.trans G;injection this with e;subst e;exact hl);clear a3;cases he:(x.toList == a1.toList)
        ·have HN:I3 (a[k]?≠some a1):=by
          intro h;rw[HX.out]at h;injection h with h;subst h;simp at he
         go_wp2_with (first|(at_builtin;refine Jg _ rfl _ _ 44 rfl w.heap.size 9 i0 (.string ⟨#[]⟩) 1 16 I7 aa ab ad ae rfl (by decide) _ _ _ rfl (a2.alloc _) ⟨wr.heap.size,0,none⟩ 1 1 [.string ⟨#[]⟩] rfl rfl (Kk _ _ _) ?c2 ?c3 ?c4 ?c5 ?_)|go_in)
         case c2=>rfl
         case c3=>unfold IU;omega
         case c4=>omega
         case c5=>have:=s.size;simp;omega
         intro v' n H I _;obtain⟨c,o,f,a4,J,u,a5,a6,a7,z⟩:∃g cap r,v'=.slice (some ⟨g,0,none⟩) (a.length+1) cap∧w.heap.size≤g∧n.heap[g]?=some (.cells r 9 (0,0))∧a.length+1≤cap∧cap≤IU∧r.size=cap*1∧r.toList.take ((a.length+1)*1)=a.map F2++[.string ⟨#[]⟩]:=by
          rcases H.2 with⟨_,A⟩|h
          ·omega
          ·exact h
         rw[a4];go_wp2;have af:KE.wrap ((k:Int)+1)=(k:Int)+1:=by rw[wrap_i64 _ (by omega) (by omega)]
         have ag:(k:Int)+1≤(a.length:Int)+1:=by omega
         have ah:(k:Int)≤(a.length:Int)+1:=by omega
         have ai:0≤(k:Int)+1:=by omega
         have aj:((k:Int)+1).toNat=k+1:=by omega
         have K:n.drew.heap[c]?=some (.cells f.toList.toArray 9 (0,0)):=by rw[Kf];exact u
         obtain⟨d,p⟩:∃d,d=(a.drop k).map F2:=⟨_,rfl⟩;have a8:d.length=a.length-k:=by rw[p];simp
         have L:∀v∈d,v.oneCell'=true:=by intro v t;rw[p]at t;obtain⟨y,_,rfl⟩:=Jf.1 t;rfl
         have B:I3 (d=(a.drop k).map F2):=p;clear p;have M:Below w.heap.size w n.drew:=((s.alloc s.size _).grown I (by have:=s.size;simp;omega) (fun j l=>(a2.lt j l).1)).drew;have N:∀j v,d[j]?=some v→n.drew.cell? ((⟨c,k,none⟩:Mo).add j)=some v:=by
          intro j v l;have ak:j<d.length:=aK l;have O:(f.toList.take ((a.length+1)*1))[k+j]?=some v:=by rw[z,IL (by simp;omega)];rw[B.out,KF,Kd]at l;exact l
          rw[Jr,if_pos (by omega)]at O;have h2:n.drew.heap[c]?=some (.cells f 9 (0,0)):=u;rw[Kl,aC h2];simpa using O
         have P:=aA N;clear N;have al:¬o=k:=by omega
         obtain⟨D,hD,Q⟩:∃D:Mo,(if o=k+1 then some (⟨c,0,none⟩:Mo)else some ⟨c,k+1,none⟩)=some D∧I3 (0<d.length→D=⟨c,k+1,none⟩):=by
          by_cases h:o=k+1
          ·exact⟨⟨c,0,none⟩,by simp[h],fun A=>by omega⟩
          ·exact⟨⟨c,k+1,none⟩,by simp[h],fun _=>rfl⟩
         have R:I3 (d.length=Nat.min (a.length+1-k) (a.length-k)):=by rw[a8];exact(KC (by omega)).symm
         have S:k+1+d.length≤f.toList.length:=by rw[show f.toList.length=f.size from IR];omega
         have C:=aA S;clear S;have T:=aA L;clear L;go_region_law (refine KH rfl (.tmp 61) (.tmp 64) 44 44 rfl 9 I7 oF (some D) (some ⟨c,k,none⟩) (a.length-k) (o-(k+1)) (a.length+1-k) (o-k) (by simp[Act.eval,J2]) (by simp[Act.eval,J2]) c (k+1) f.toList 9 K d R.out (fun A=>⟨congrArg some (Q.out A),⟨c,k,none⟩,rfl,iX P⟩) C.out T.out w.heap.size w M J ?_;intro E U V)
         have q:E.heap[c]?=some (.cells (Nf f.toList (k+1) ((a.drop k).map F2)).toArray 9 (0,0)):=by rw[← B.out];exact U.out
         have Z:=F.ins HS.out HK.out HN.out J a5 a6 (by rw[IR,a7,Jv]) (by rw[← z,Jv]) q V;obtain⟨X,am⟩:∃X,E.cell? ⟨c,k,none⟩=some X:=by rw[aC q];refine⟨_,JU ?_⟩;rw[Km,KN _ _ _ (by rw[← B.out];exact C.out),IR];omega
         have an:E.frozen? ⟨c,k,none⟩=false:=aE q _;clear q U V K M P hD Q R C T H I u z;go_wp2;go_roundw
         case rel=>exact⟨m+1,_,by go_num,Z⟩
         case measure=>simp[intOf];omega
        ·have Z:=F.old HS.out HK.out (by rw[HX.out,toList_inj (beq_iff_eq.1 he)]);go_wp2;go_roundw
         case rel=>exact⟨m+1,_,by go_num,Z⟩
         case measure=>simp[intOf];omega
       ·have HA:I3 (∀j y,j<k+1→a[j]?=some y→cK y a1=true):=by
         intro j y l G;by_cases h:j<k
         ·exact a3 j y h G
         ·have e:j=k:=by omega
          subst e;have:=HX.out.symm.trans G;injection this with e;subst e;exact hl
        clear a3;go_wp2;go_round
        case rel=>exact⟨k+1,by go_num,by omega,HA.out⟩
        case measure=>simp[intOf];omega
      ·have HK:I3 (aX a a1=k):=jT a3 a9 (fun y G=>absurd (aK G) hk);have HN:I3 (a[k]?≠some a1):=fun h=>hk (aK h)
       clear a3;go_wp2_with (first|(at_builtin;refine Jg _ rfl _ _ 44 rfl w.heap.size 9 i0 (.string ⟨#[]⟩) 1 16 I7 aa ab ad ae rfl (by decide) _ _ _ rfl (a2.alloc _) ⟨wr.heap.size,0,none⟩ 1 1 [.string ⟨#[]⟩] rfl rfl (Kk _ _ _) ?c2 ?c3 ?c4 ?c5 ?_)|go_in)
       case c2=>rfl
       case c3=>unfold IU;omega
       case c4=>omega
       case c5=>have:=s.size;simp;omega
       intro v' n H I _;obtain⟨c,o,f,a4,J,u,a5,a6,a7,z⟩:∃g cap r,v'=.slice (some ⟨g,0,none⟩) (a.length+1) cap∧w.heap.size≤g∧n.heap[g]?=some (.cells r 9 (0,0))∧a.length+1≤cap∧cap≤IU∧r.size=cap*1∧r.toList.take ((a.length+1)*1)=a.map F2++[.string ⟨#[]⟩]:=by
        rcases H.2 with⟨_,A⟩|h
        ·omega
        ·exact h
       rw[a4];go_wp2;have af:KE.wrap ((k:Int)+1)=(k:Int)+1:=by rw[wrap_i64 _ (by omega) (by omega)]
       have ag:(k:Int)+1≤(a.length:Int)+1:=by omega
       have ah:(k:Int)≤(a.length:Int)+1:=by omega
       have ai:0≤(k:Int)+1:=by omega
       have aj:((k:Int)+1).toNat=k+1:=by omega
       have K:n.drew.heap[c]?=some (.cells f.toList.toArray 9 (0,0)):=by rw[Kf];exact u
       obtain⟨d,p⟩:∃d,d=(a.drop k).map F2:=⟨_,rfl⟩;have a8:d.length=a.length-k:=by rw[p];simp
       have L:∀v∈d,v.oneCell'=true:=by intro v t;rw[p]at t;obtain⟨y,_,rfl⟩:=Jf.1 t;rfl
       have B:I3 (d=(a.drop k).map F2):=p;clear p;have M:Below w.heap.size w n.drew:=((s.alloc s.size _).grown I (by have:=s.size;simp;omega) (fun j l=>(a2.lt j l).1)).drew;have N:∀j v,d[j]?=some v→n.drew.cell? ((⟨c,k,none⟩:Mo).add j)=some v:=by
        intro j v l;have ak:j<d.length:=aK l;have O:(f.toList.take ((a.length+1)*1))[k+j]?=some v:=by rw[z,IL (by simp;omega)];rw[B.out,KF,Kd]at l;exact l
        rw[Jr,if_pos (by omega)]at O;have h2:n.drew.heap[c]?=some (.cells f 9 (0,0)):=u;rw[Kl,aC h2];simpa using O
       have P:=aA N;clear N;have al:¬o=k:=by omega
       obtain⟨D,hD,Q⟩:∃D:Mo,(if o=k+1 then some (⟨c,0,none⟩:Mo)else some ⟨c,k+1,none⟩)=some D∧I3 (0<d.length→D=⟨c,k+1,none⟩):=by
        by_cases h:o=k+1
        ·exact⟨⟨c,0,none⟩,by simp[h],fun A=>by omega⟩
        ·exact⟨⟨c,k+1,none⟩,by simp[h],fun _=>rfl⟩
       have R:I3 (d.length=Nat.min (a.length+1-k) (a.length-k)):=by rw[a8];exact(KC (by omega)).symm
       have S:k+1+d.length≤f.toList.length:=by rw[show f.toList.length=f.size from IR];omega
       have C:=aA S;clear S;have T:=aA L;clear L;go_region_law (refine KH rfl (.tmp 61) (.tmp 64) 44 44 rfl 9 I7 oF (some D) (some ⟨c,k,none⟩) (a.length-k) (o-(k+1)) (a.length+1-k) (o-k) (by simp[Act.eval,J2]) (by simp[Act.eval,J2]) c (k+1) f.toList 9 K d R.out (fun A=>⟨congrArg some (Q.out A),⟨c,k,none⟩,rfl,iX P⟩) C.out T.out w.heap.size w M J ?_;intro E U V)
       have q:E.heap[c]?=some (.cells (Nf f.toList (k+1) ((a.drop k).map F2)).toArray 9 (0,0)):=by rw[← B.out];exact U.out
       have Z:=F.ins HS.out HK.out HN.out J a5 a6 (by rw[IR,a7,Jv]) (by rw[← z,Jv]) q V;obtain⟨X,am⟩:∃X,E.cell? ⟨c,k,none⟩=some X:=by rw[aC q];refine⟨_,JU ?_⟩;rw[Km,KN _ _ _ (by rw[← B.out];exact C.out),IR];omega
       have an:E.frozen? ⟨c,k,none⟩=false:=aE q _;clear q U V K M P hD Q R C T H I u z;go_wp2;go_roundw
       case rel=>exact⟨m+1,_,by go_num,Z⟩
       case measure=>simp[intOf];omega
    ·have HS:I3 ((bI Y)[m]?=some a0):=by
      have:=rS HF.out;have e:2*(m / 2)=m:=by have:=beq_eq_false_iff_ne.1 ho;omega
      rwa [e]at this
     clear HF hf;go_wp2;have ap:I3 (∀j x,a[j]?=some x→wr.cell? ⟨g,j,none⟩=some (.string x)):=by
      intro j x l;rw[aC hg];have:(r.toList.take (a.length*1))[j]?=(a.map F2)[j]?:=by rw[av]
      rw[Jr,if_pos (by have:=aK l;omega)]at this;simpa[l]using this
     go_loop [6] (fun i=>∃k:Nat,i=.int .i64 k∧k≤a.length∧∀j x,j<k→a[j]?=some x→cK x a0=true) (fun i=>a.length-(intOf i).toNat)
     case atStart=>exact⟨0,rfl,IM _,fun j x h=>by omega⟩
     case round=>
      obtain⟨k,rfl,a9,a3⟩:=hrel;by_cases hk:k<a.length
      ·obtain⟨x,hx⟩:∃x,a[k]?=some x:=⟨_,hZ hk⟩;have ay:=ap.out k x hx;have HX:I3 (a[k]?=some x):=hx;clear hx;cases hl:Op.bytesLess x.toList a0.toList
       ·have HK:I3 (aX a a0=k):=jT a3 a9 (fun y G=>by have:=HX.out.symm.trans G;injection this with e;subst e;exact hl);clear a3;cases he:(x.toList == a0.toList)
        ·have HN:I3 (a[k]?≠some a0):=by
          intro h;rw[HX.out]at h;injection h with h;subst h;simp at he
         go_wp2_with (first|(at_builtin;refine Jg _ rfl _ _ 44 rfl w.heap.size 9 i0 (.string ⟨#[]⟩) 1 16 I7 aa ab ad ae rfl (by decide) _ _ _ rfl (a2.alloc _) ⟨wr.heap.size,0,none⟩ 1 1 [.string ⟨#[]⟩] rfl rfl (Kk _ _ _) ?c2 ?c3 ?c4 ?c5 ?_)|go_in)
         case c2=>rfl
         case c3=>unfold IU;omega
         case c4=>omega
         case c5=>have:=s.size;simp;omega
         intro v' n H I _;obtain⟨c,o,f,a4,J,u,a5,a6,a7,z⟩:∃g cap r,v'=.slice (some ⟨g,0,none⟩) (a.length+1) cap∧w.heap.size≤g∧n.heap[g]?=some (.cells r 9 (0,0))∧a.length+1≤cap∧cap≤IU∧r.size=cap*1∧r.toList.take ((a.length+1)*1)=a.map F2++[.string ⟨#[]⟩]:=by
          rcases H.2 with⟨_,A⟩|h
          ·omega
          ·exact h
         rw[a4];go_wp2;have af:KE.wrap ((k:Int)+1)=(k:Int)+1:=by rw[wrap_i64 _ (by omega) (by omega)]
         have ag:(k:Int)+1≤(a.length:Int)+1:=by omega
         have ah:(k:Int)≤(a.length:Int)+1:=by omega
         have ai:0≤(k:Int)+1:=by omega
         have aj:((k:Int)+1).toNat=k+1:=by omega
         have K:n.drew.heap[c]?=some (.cells f.toList.toArray 9 (0,0)):=by rw[Kf];exact u
         obtain⟨d,p⟩:∃d,d=(a.drop k).map F2:=⟨_,rfl⟩;have a8:d.length=a.length-k:=by rw[p];simp
         have L:∀v∈d,v.oneCell'=true:=by intro v t;rw[p]at t;obtain⟨y,_,rfl⟩:=Jf.1 t;rfl
         have B:I3 (d=(a.drop k).map F2):=p;clear p;have M:Below w.heap.size w n.drew:=((s.alloc s.size _).grown I (by have:=s.size;simp;omega) (fun j l=>(a2.lt j l).1)).drew;have N:∀j v,d[j]?=some v→n.drew.cell? ((⟨c,k,none⟩:Mo).add j)=some v:=by
          intro j v l;have ak:j<d.length:=aK l;have O:(f.toList.take ((a.length+1)*1))[k+j]?=some v:=by rw[z,IL (by simp;omega)];rw[B.out,KF,Kd]at l;exact l
          rw[Jr,if_pos (by omega)]at O;have h2:n.drew.heap[c]?=some (.cells f 9 (0,0)):=u;rw[Kl,aC h2];simpa using O
         have P:=aA N;clear N;have al:¬o=k:=by omega
         obtain⟨D,hD,Q⟩:∃D:Mo,(if o=k+1 then some (⟨c,0,none⟩:Mo)else some ⟨c,k+1,none⟩)=some D∧I3 (0<d.length→D=⟨c,k+1,none⟩):=by
          by_cases h:o=k+1
          ·exact⟨⟨c,0,none⟩,by simp[h],fun A=>by omega⟩
          ·exact⟨⟨c,k+1,none⟩,by simp[h],fun _=>rfl⟩
         have R:I3 (d.length=Nat.min (a.length+1-k) (a.length-k)):=by rw[a8];exact(KC (by omega)).symm
         have S:k+1+d.length≤f.toList.length:=by rw[show f.toList.length=f.size from IR];omega
         have C:=aA S;clear S;have T:=aA L;clear L;go_region_law (refine KH rfl (.tmp 61) (.tmp 64) 44 44 rfl 9 I7 oF (some D) (some ⟨c,k,none⟩) (a.length-k) (o-(k+1)) (a.length+1-k) (o-k) (by simp[Act.eval,J2]) (by simp[Act.eval,J2]) c (k+1) f.toList 9 K d R.out (fun A=>⟨congrArg some (Q.out A),⟨c,k,none⟩,rfl,iX P⟩) C.out T.out w.heap.size w M J ?_;intro E U V)
         have q:E.heap[c]?=some (.cells (Nf f.toList (k+1) ((a.drop k).map F2)).toArray 9 (0,0)):=by rw[← B.out];exact U.out
         have Z:=F.ins HS.out HK.out HN.out J a5 a6 (by rw[IR,a7,Jv]) (by rw[← z,Jv]) q V;obtain⟨X,am⟩:∃X,E.cell? ⟨c,k,none⟩=some X:=by rw[aC q];refine⟨_,JU ?_⟩;rw[Km,KN _ _ _ (by rw[← B.out];exact C.out),IR];omega
         have an:E.frozen? ⟨c,k,none⟩=false:=aE q _;clear q U V K M P hD Q R C T H I u z;go_wp2;go_roundw
         case rel=>exact⟨m+1,_,by go_num,Z⟩
         case measure=>simp[intOf];omega
        ·have Z:=F.old HS.out HK.out (by rw[HX.out,toList_inj (beq_iff_eq.1 he)]);go_wp2;go_roundw
         case rel=>exact⟨m+1,_,by go_num,Z⟩
         case measure=>simp[intOf];omega
       ·have HA:I3 (∀j y,j<k+1→a[j]?=some y→cK y a0=true):=by
         intro j y l G;by_cases h:j<k
         ·exact a3 j y h G
         ·have e:j=k:=by omega
          subst e;have:=HX.out.symm.trans G;injection this with e;subst e;exact hl
        clear a3;go_wp2;go_round
        case rel=>exact⟨k+1,by go_num,by omega,HA.out⟩
        case measure=>simp[intOf];omega
      ·have HK:I3 (aX a a0=k):=jT a3 a9 (fun y G=>absurd (aK G) hk);have HN:I3 (a[k]?≠some a0):=fun h=>hk (aK h)
       clear a3;go_wp2_with (first|(at_builtin;refine Jg _ rfl _ _ 44 rfl w.heap.size 9 i0 (.string ⟨#[]⟩) 1 16 I7 aa ab ad ae rfl (by decide) _ _ _ rfl (a2.alloc _) ⟨wr.heap.size,0,none⟩ 1 1 [.string ⟨#[]⟩] rfl rfl (Kk _ _ _) ?c2 ?c3 ?c4 ?c5 ?_)|go_in)
       case c2=>rfl
       case c3=>unfold IU;omega
       case c4=>omega
       case c5=>have:=s.size;simp;omega
       intro v' n H I _;obtain⟨c,o,f,a4,J,u,a5,a6,a7,z⟩:∃g cap r,v'=.slice (some ⟨g,0,none⟩) (a.length+1) cap∧w.heap.size≤g∧n.heap[g]?=some (.cells r 9 (0,0))∧a.length+1≤cap∧cap≤IU∧r.size=cap*1∧r.toList.take ((a.length+1)*1)=a.map F2++[.string ⟨#[]⟩]:=by
        rcases H.2 with⟨_,A⟩|h
        ·omega
        ·exact h
       rw[a4];go_wp2;have af:KE.wrap ((k:Int)+1)=(k:Int)+1:=by rw[wrap_i64 _ (by omega) (by omega)]
       have ag:(k:Int)+1≤(a.length:Int)+1:=by omega
       have ah:(k:Int)≤(a.length:Int)+1:=by omega
       have ai:0≤(k:Int)+1:=by omega
       have aj:((k:Int)+1).toNat=k+1:=by omega
       have K:n.drew.heap[c]?=some (.cells f.toList.toArray 9 (0,0)):=by rw[Kf];exact u
       obtain⟨d,p⟩:∃d,d=(a.drop k).map F2:=⟨_,rfl⟩;have a8:d.length=a.length-k:=by rw[p];simp
       have L:∀v∈d,v.oneCell'=true:=by intro v t;rw[p]at t;obtain⟨y,_,rfl⟩:=Jf.1 t;rfl
       have B:I3 (d=(a.drop k).map F2):=p;clear p;have M:Below w.heap.size w n.drew:=((s.alloc s.size _).grown I (by have:=s.size;simp;omega) (fun j l=>(a2.lt j l).1)).drew;have N:∀j v,d[j]?=some v→n.drew.cell? ((⟨c,k,none⟩:Mo).add j)=some v:=by
        intro j v l;have ak:j<d.length:=aK l;have O:(f.toList.take ((a.length+1)*1))[k+j]?=some v:=by rw[z,IL (by simp;omega)];rw[B.out,KF,Kd]at l;exact l
        rw[Jr,if_pos (by omega)]at O;have h2:n.drew.heap[c]?=some (.cells f 9 (0,0)):=u;rw[Kl,aC h2];simpa using O
       have P:=aA N;clear N;have al:¬o=k:=by omega
       obtain⟨D,hD,Q⟩:∃D:Mo,(if o=k+1 then some (⟨c,0,none⟩:Mo)else some ⟨c,k+1,none⟩)=some D∧I3 (0<d.length→D=⟨c,k+1,none⟩):=by
        by_cases h:o=k+1
        ·exact⟨⟨c,0,none⟩,by simp[h],fun A=>by omega⟩
        ·exact⟨⟨c,k+1,none⟩,by simp[h],fun _=>rfl⟩
       have R:I3 (d.length=Nat.min (a.length+1-k) (a.length-k)):=by rw[a8];exact(KC (by omega)).symm
       have S:k+1+d.length≤f.toList.length:=by rw[show f.toList.length=f.size from IR];omega
       have C:=aA S;clear S;have T:=aA L;clear L;go_region_law (refine KH rfl (.tmp 61) (.tmp 64) 44 44 rfl 9 I7 oF (some D) (some ⟨c,k,none⟩) (a.length-k) (o-(k+1)) (a.length+1-k) (o-k) (by simp[Act.eval,J2]) (by simp[Act.eval,J2]) c (k+1) f.toList 9 K d R.out (fun A=>⟨congrArg some (Q.out A),⟨c,k,none⟩,rfl,iX P⟩) C.out T.out w.heap.size w M J ?_;intro E U V)
       have q:E.heap[c]?=some (.cells (Nf f.toList (k+1) ((a.drop k).map F2)).toArray 9 (0,0)):=by rw[← B.out];exact U.out
       have Z:=F.ins HS.out HK.out HN.out J a5 a6 (by rw[IR,a7,Jv]) (by rw[← z,Jv]) q V;obtain⟨X,am⟩:∃X,E.cell? ⟨c,k,none⟩=some X:=by rw[aC q];refine⟨_,JU ?_⟩;rw[Km,KN _ _ _ (by rw[← B.out];exact C.out),IR];omega
       have an:E.frozen? ⟨c,k,none⟩=false:=aE q _;clear q U V K M P hD Q R C T H I u z;go_wp2;go_roundw
       case rel=>exact⟨m+1,_,by go_num,Z⟩
       case measure=>simp[intOf];omega
  ·go_wp2;have hm:m=2*Y.length:=by have:=F.le;omega
   subst hm;go_ret
   refine⟨_,rfl,?_⟩;have e:=F.eqn;rw[List.take_of_length_le (by rw[iI];omega)]at e;rw[← e];exact F
theorem Bh(ao:Option Mo)(cap:Nat)(w:World) :
  Calls hE 53 #[.slice ao 0 cap] w fun e w'=>∃v,e=.returned v∧NInv w w' [] 0 v (dV (bI [])):=by
 go_enter Tryz.func53,Tryz.ntmps53
 go_wp2;refine wp_loop_rounds 1 ?_
 rw[rounds_succ];go_wp2;go_ret
 exact⟨_,rfl,gO _,rfl,gO _,JW _ _ _ _,Below.refl _ _⟩
theorem oG(v:Value)(a:List Fct)(w:World)(f:a.length≤1000)(g:cV v a w) :
  Calls hE 53 #[v] w fun e w'=>∃v,e=.returned v∧NInv w w' a (2*a.length) v (dV (bI a)):=by
 obtain⟨i,c,rfl,_,_,h⟩:=g;by_cases d:a=[]
 ·subst d;exact Bh i c w
 ·obtain⟨b,j,rfl,k,l⟩:=h d;exact Bg b j c a w f l k
end
end Go.Proofs.YtiamlbhkiehilaaGreatDoor
