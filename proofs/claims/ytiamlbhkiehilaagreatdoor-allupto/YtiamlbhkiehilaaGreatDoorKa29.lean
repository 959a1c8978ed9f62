import Derived.Test.YtiamlbhkiehilaaGreatDoorKa02
open Array renaming getElem?_eq_some_iff→Jm
open Go renaming World→vF,Calls→I5,Value→sA,TypeId→I1
open Go.Proofs.Tryz renaming prog→hE
open Go.RowKit renaming Hid→I3
open Go.Value renaming ownBlock→Jh
open Go.World renaming size_alloc→IW
open List renaming getElem?_eq_getElem→hZ,getElem?_eq_none→Ja,mem_singleton→A1
open Nat renaming le_of_not_lt→Ki,le_refl→gO
namespace Go.Proofs.YtiamlbhkiehilaaGreatDoor
set_option maxRecDepth 100000
section
open Go.RowKit
theorem BG(n q a:Nat)(h:n<128)(b:q=n / 64)(c:a=2^(n % 64))(w:vF):I5 hE 189 #[.int .u64 n] w fun e w'=>e=.returned (.tuple #[.int .i64 q,.int .u64 a])∧w'=w:=by
 have f:2^(n % 64)<18446744073709551616:=by have:n % 64<64:=Nat.mod_lt _ (by omega);exact Nat.lt_of_lt_of_le (Nat.pow_lt_pow_right (by omega) this) (by decide)
 have d:=aA (And.intro b c);clear b c;go_enter Tryz.func189,Tryz.ntmps189
 go_wp2;have g:IntKind.u64.wrap (2^(n % 64))=((2^(n % 64):Nat):Int):=by
  rw[IntKind.wrap_u64];have e:((2:Int)^(n % 64))=((2^(n % 64):Nat):Int):=by simp
  rw[e];generalize 2^(n % 64)=p at f;omega
 refine bodyPost_ret (v:=.tuple #[.int .i64 ((n / 64:Nat):Int),.int .u64 ((2^(n % 64):Nat):Int)]) (by simp[results,Tryz.results189,go_sem,g]) rfl ⟨by rw[d.out.1,d.out.2],rfl⟩
theorem xA(B b o:Nat)(c:Array sA)(T:I1)(v:sA)(ws:List Nat)(a:Nat)(w:vF)(i:w.heap[b]?=some (.cells c T (0,0)))(j:c[o]?=some v)(h:eJ w B v ws) :
  I5 hE 188 #[.pointer (some ⟨b,o,none⟩),.int .i64 a] w fun e w'=>e=.returned (.int .u64 ((ws.getD a 0:Nat):Int))∧w'=w:=by
 have l:w.cell? ⟨b,o,none⟩=some v:=by rw[aC i];exact j
 obtain⟨m,n,rfl,k⟩:=h.form;go_enter Tryz.func188,Tryz.ntmps188
 by_cases d:a<ws.length
 ·obtain⟨x,f⟩:∃x,ws[a]?=some x:=⟨_,hZ d⟩;obtain⟨g,rfl,p,_⟩:=k a x f;have e:ws.getD a 0=x:=by simp[f]
  go_wp2;go_ret
  exact⟨by rw[e];rfl,rfl⟩
 ·have e:ws.getD a 0=0:=by simp[Ja (Ki d)]
  go_wp2;go_ret
  exact⟨by rw[e];rfl,rfl⟩
theorem uP(B b o:Nat)(c:Array sA)(T:I1)(v:sA)(ws:List Nat)(size:Nat)(w:vF)(hB:B≤w.heap.size)(K:T≠T64)(L:w.heap[b]?=some (.cells c T (0,0)))(A:c[o]?=some v)(h:eJ w B v ws)(hs:size≤1000) :
  I5 hE 190 #[.pointer (some ⟨b,o,none⟩),.int .i64 size] w fun e w'=>e=.returned (.tuple #[])∧∃v',eJ w' B v' (eO ws size)∧SetCh w w' b o c T v v':=by
 obtain⟨M,N,O,P,Q⟩:=info_parts AY;have q:o<c.size:=(Jm.1 A).1;go_enter Tryz.func190,Tryz.ntmps190
 go_wp2;have C:I3 (RcInv w w B b o c T v ws ws.length v):=aA ⟨gO _,by rw[jH (gO _)];exact h,SetCh.refl L A⟩;clear h;go_loopw [] (fun wr=>∃(k:Nat) (D:sA),(k=ws.length∨k≤size)∧RcInv w wr B b o c T v ws k D) (fun wr=>size-jM wr b o)
 case atStart=>exact⟨ws.length,v,.inl rfl,C.out⟩
 case round=>
  clear C;obtain⟨k,D,E,a⟩:=hrel;have R:=a.le;have r:(eO ws k).length=k:=by rw[lJ];omega
  obtain⟨f,i,rfl,_⟩:=a.own.form;rw[r]at a;have l:=a.ch.blk;have S:wr.cell? ⟨b,o,none⟩=some (.slice f k i):=by rw[aC l];simp[q]
  have a3:wr.frozen? ⟨b,o,none⟩=false:=aE l o;have F:jM wr b o=k:=by unfold jM;rw[S]
  by_cases U:k<size
  ·have a4:=a.ch.kb.size;have G:(Value.slice f k i).ownBlock≠some b:=a.own.ne l K;have H:=a.own.alloc (.cells #[.int .u64 0] 186);have m:=aA a;have V:=aA F;have s:=aA G;have t:=aA l;have X:I3 (B≤(wr.alloc (.cells #[.int .u64 0] 186)).heap.size):=aA (by rw[IW];omega);have Y:I3 (b<(wr.alloc (.cells #[.int .u64 0] 186)).heap.size):=aA (by rw[IW];exact Nat.lt_succ_of_lt (aB l));have Z:I3 ((c.setIfInBounds o (.slice f k i))[o]?=some (.slice f k i)):=aA (by simp[q]);have u:=H.1;rw[r]at u;have I:=aA u;clear a F G l H u;go_wp2_with (first
    |(at_builtin;go_loud (refine wpList_append_lies _ rfl (.tmp 15) (.tmp 16) 110 rfl B 186 M (.int .u64 0) 1 8 Tryz.underlying110 N O P Q rfl (by decide) (.slice f k i) k (dO (eO ws k)) (by simp[Act.eval]) I.out ⟨wr.heap.size,0,none⟩ 1 1 [.int .u64 0] (by simp[Act.eval]) rfl (mG wr #[.int .u64 0] 186 [.int .u64 0] rfl) (by intro a5 hu;rw[A1.1 hu];rfl) (by decide) (by unfold maxLen;omega) (by omega) X.out _ rfl ?_;intro g p j J y z a0;have n:j.heap[b]?=some (.cells (c.setIfInBounds o (.slice f k i)) T (0,0)):=(y.block b Y.out (fun e=>s.out e.symm)).trans (aF t.out _);have a6:j.cell? ⟨b,o,none⟩=some (.slice f k i):=(aC n o).trans Z.out;have a7:j.frozen? ⟨b,o,none⟩=false:=aE n o))
    |go_in)
   have HX:I3 (RcInv w (j.setCell ⟨b,o,none⟩ (.slice (some ⟨g,0,none⟩) (k+1) p)) B b o c T v ws (k+1) (.slice (some ⟨g,0,none⟩) (k+1) p)):=by
    have a1:g≠b:=by
     rcases z with e|e
     ·intro e2;subst e2;exact s.out e
     ·have:=aB t.out;simp at e;omega
    refine aA ⟨by omega,?_,?_⟩
    ·have hO:eJ j B (.slice (some ⟨g,0,none⟩) (k+1) p) (eO ws (k+1)):=by
      rw[wC R];refine⟨?_,fun x d=>?_⟩
      ·have e1:dO (eO ws k++[0])=dO (eO ws k)++[.int .u64 0]:=by simp[dO]
       rw[e1,List.length_append,r];exact J
      ·rcases List.mem_append.1 d with d|d
       ·exact m.out.own.2 x d
       ·rw[A1.1 d];decide
     exact hO.kb ((Kb.refl [b] j).setCell (p:=⟨b,o,none⟩) (.inl (by simp)) _) (by intro x d;rw[A1.1 d];intro e;cases e;exact a1 rfl)
    ·refine m.out.ch.trans ⟨?_,?_,?_⟩
     ·rw[aI n]
     ·refine(((Kb.refl _ wr).alloc _).grown y (fun x d=>?_)).setCell (p:=⟨b,o,none⟩) (.inl (by simp)) _;exact .inl (by simp[d])
     ·rcases z with e|e
      ·exact .inl e.symm
      ·refine .inr ⟨g,rfl,?_⟩;simp at e;omega
   have HL:I3 (jM (j.setCell ⟨b,o,none⟩ (.slice (some ⟨g,0,none⟩) (k+1) p)) b o=k+1):=by
    refine aA ?_
    unfold jM;rw[aC (aI n o _)];simp[q]
   clear J y z a0 n I t s;go_wp2;go_roundw
   case rel=>exact⟨k+1,_,.inr (by omega),HX.out⟩
   case measure=>rw[HL.out,V.out];omega
  ·have m:=aA a;clear a;go_wp2;go_end0
   refine⟨rfl,_,?_,m.out.ch⟩;have e:eO ws size=eO ws k:=by
    rcases E with rfl|E
    ·rw[jH (Ki U),jH (gO _)]
    ·rw[show k=size by omega]
   rw[e];exact m.out.own
theorem uQ(B b o:Nat)(d:Array sA)(T:I1)(v:sA)(s:List Nat)(n:Nat)(w:vF)(J:B≤w.heap.size)(C:T≠T64)(K:w.heap[b]?=some (.cells d T (0,0)))(D:d[o]?=some v)(h:aO w B v s)(E:n<128) :
  I5 hE 175 #[.pointer (some ⟨b,o,none⟩),.int .u64 n] w fun e w'=>e=.returned (.bool (!s.contains n))∧∃v',aO w' B v' (dB n s)∧SetCh w w' b o d T v v':=by
 obtain⟨c,L,F,rfl⟩:=h;have M:o<d.size:=(Jm.1 D).1;obtain⟨q,t⟩:∃q,q=n / 64:=⟨_,rfl⟩;obtain⟨a,m⟩:∃a,a=2^(n % 64):=⟨_,rfl⟩;have u:a<18446744073709551616:=by rw[m];exact zC n
 have V:q≤1:=by omega
 have G:=BG n q a E t m w;have p:=aA (And.intro t m);clear t m;go_enter Tryz.func175,Tryz.ntmps175
 go_wp2_with fail
 refine G.mono ?_
 clear G;rintro e w' ⟨rfl,rfl⟩;go_wp2_with fail
 refine(uP B b o d T v c (q+1) w' J C K D F (by omega)).mono ?_
 rintro e j ⟨rfl,X,l,y⟩;have N:=lJ c (q+1);have H:I3 (∀k,cQ (eO c (q+1)) k=cQ c k):=pR c (q+1);have Y:(eO c (q+1)).length≤2:=by omega
 have O:q<(eO c (q+1)).length:=by omega
 generalize eO c (q+1)=f at *;clear N L F;obtain⟨x,i⟩:∃x,f[q]?=some x:=⟨_,hZ O⟩;obtain⟨Z,z,rfl,I⟩:=l.form;obtain⟨g,rfl,hg,a0⟩:=I _ x i;have A:x<18446744073709551616:=l.2 x (List.mem_of_getElem? i);have r:=y.blk;have hc:j.cell? ⟨b,o,none⟩=some (.slice (some ⟨g,0,none⟩) f.length z):=by rw[aC r];simp[M]
 have P:g≠b:=fun e=>l.ne r C (by rw[e];rfl)
 have Q:I3 (aO (j.setCell ⟨g,q,none⟩ (.int .u64 ((x ||| a:Nat):Int))) B (.slice (some ⟨g,0,none⟩) f.length z) (dB n (mkS (cQ c)))∧SetCh w' (j.setCell ⟨g,q,none⟩ (.int .u64 ((x ||| a:Nat):Int))) b o d T v (.slice (some ⟨g,0,none⟩) f.length z)):=by
  refine aA ⟨⟨f.set q (x ||| a),by rw[List.length_set];omega,l.set _ _ (xP A u),?_⟩,y.trans ⟨?_,(Kb.refl _ _).setCell (p:=⟨g,q,none⟩) (.inl (by simp[Jh])) _,.inl rfl⟩⟩
  ·unfold dB;refine cT fun k R=>?_
   rw[CF p.out.1 p.out.2 i,bD R,H.out]
  ·have S:(j.setCell ⟨g,q,none⟩ (.int .u64 ((x ||| a:Nat):Int))).heap[b]?=j.heap[b]?:=Below.heap_setCell _ _ _ _ (fun e=>P e.symm);rw[S,r,jL]
 have U:I3 ((!(mkS (cQ c)).contains n)=decide (x &&& a=0)):=by
  refine aA ?_
  rw[bD E,← H.out,CG p.out.1 i,xO p.out.2]
 have HX:=aA i;have hand:=u64_and_nat x a A u;have a2:=u64_or_nat x a A u;generalize f.length=a3 at *;clear l y I r i;go_wp2;go_ret
 refine⟨?_,_,Q.out⟩;rw[U.out,← Hc];rfl
theorem BH(B b o b2 p:Nat)(f a3:Array sA)(T T2:I1)(v G:sA)(s H:List Nat)(w:vF)(hB:B≤w.heap.size)(t:T≠T64)(ag:T2≠T64)(I:w.heap[b]?=some (.cells f T (0,0)))(hv:f[o]?=some v)(J:w.heap[b2]?=some (.cells a3 T2 (0,0)))(K:a3[p]?=some G)(ah:b2≠b∨p≠o)(h:aO w B v s)(h2:aO w B G H)(ha:eR v G) :
  I5 hE 192 #[.pointer (some ⟨b,o,none⟩),.pointer (some ⟨b2,p,none⟩)] w fun e w'=>e=.returned (.bool (iM s H))∧∃v',aO w' B v' (cP s H)∧SetCh w w' b o f T v v':=by
 obtain⟨c,hl,L,rfl⟩:=h;obtain⟨a,ai,M,rfl⟩:=h2;have ho:o<f.size:=(Jm.1 hv).1;obtain⟨N,O,rfl,aj⟩:=M.form;have ak:w.cell? ⟨b2,p,none⟩=some (.slice N a.length O):=by rw[aC J];exact K
 have HR:=uP B b o f T v c a.length w hB t I hv L (by omega);go_enter Tryz.func192,Tryz.ntmps192
 go_wp2_with fail
 refine HR.mono ?_
 clear HR;rintro e P ⟨rfl,v1,u,q⟩;obtain⟨aq,a4,a5⟩:=q.other I L J K ag ah;obtain⟨Q,a6⟩:=q.apart I t M ha;have ar:P.cell? ⟨b2,p,none⟩=some (.slice N a.length O):=by rw[aC a4];exact a5
 have al:=lJ c a.length;have HH:I3 (∀k,cQ (eO c a.length) k=cQ c k):=pR c a.length;have au:(eO c a.length).length≤2:=by omega
 have am:a.length≤(eO c a.length).length:=by omega
 generalize eO c a.length=d at *;clear al L ak aj;have a7:=u.2;have a8:=Q.2;have H0:I3 (UnInv w P B b o f T v v1 d a 0 false):=aA ⟨Nat.zero_le _,⟨d,rfl,u,fun av=>by simp⟩,by simp,q⟩;obtain⟨R,S,rfl,aw⟩:=u.form;have HA:=aA a6;have a9:=aA Q;have an:=aA q.blk;clear a6 u q Q a4 a5 J K M;go_wp2;go_loopw [5,20] (fun gv U wr=>∃(i:Nat) (z:Bool),gv=.bool z∧U=.int .i64 i∧UnInv w wr B b o f T v (.slice R d.length S) d a i z∧Kb (b::(Value.slice R d.length S).ownBlock.toList) P wr) (fun _ U _=>a.length-(intOf U).toNat)
 case atStart=>exact⟨0,false,rfl,rfl,H0.out,Kb.refl _ _⟩
 case round=>
  clear H0;obtain⟨i,z,rfl,rfl,j,A⟩:=hrel;have ax:=j.le;have V:=j.ch.blk;have hc:wr.cell? ⟨b,o,none⟩=some (.slice R d.length S):=by rw[aC V];simp[ho]
  by_cases aa:i<a.length
  ·have ab:eJ wr B (.slice N a.length O) a:=a9.out.kb A (by
    intro g r;rcases List.mem_cons.1 r with rfl|r
    ·exact a9.out.ne an.out t
    ·simp at r;exact HA.out g r)
   obtain⟨y,X⟩:∃y,a[i]?=some y:=⟨_,hZ aa⟩;obtain⟨ay,az,Y,ad⟩:=ab.form;injection Y with Y _ e4;subst Y e4;obtain⟨g2,rfl,aV,_⟩:=ad i y X;obtain⟨Z,q1,C,D⟩:=j.ws;obtain⟨x,hx⟩:∃x,Z[i]?=some x:=⟨_,hZ (by omega)⟩;obtain⟨b0,b1,e5,ae⟩:=C.form;injection e5 with e5 _ e6;subst e5 e6;obtain⟨g,rfl,r,b3⟩:=ae i x hx;have E:a.getD i 0=y:=by simp[X]
   have F:d.getD i 0=x:=by have:=D i;rw[if_neg (by omega)]at this;rw[← this];simp[hx]
   have a0:x<18446744073709551616:=by rw[← F];exact dM a7 i
   have a1:y<18446744073709551616:=by rw[← E];exact dM a8 i
   have l:=j.step rfl t aa am (by rw[F];exact a0) (by rw[E];exact a1);rw[F,E]at l;have m:=aA (And.intro l (A.setCell (p:=⟨g,i,none⟩) (.inl (by simp[Jh])) (.int .u64 ((x ||| y:Nat):Int))));have hand:=u64_andNot_nat y x a1 a0;have b5:=u64_or_nat x y a0 a1;have af:(iC y x=0)=(y &&& (18446744073709551615-x)=0):=rfl;have HZ:=aA af;clear l j A V ab q1 C D ad ae af X hx F E;cases z
   ·by_cases n:iC y x=0
    ·have a2:y &&& (18446744073709551615-x)=0:=n;have HY:I3 ((false || !decide (iC y x=0))=false):=aA (by simp[n]);clear n;rw[a2]at hand;go_wp2;go_roundw
     case rel=>exact⟨i+1,false,rfl,by go_num,by rw[← HY.out];exact m.out.1,m.out.2⟩
     case measure=>simp[intOf];omega
    ·have HY:I3 ((false || !decide (iC y x=0))=true):=aA (by simp[n]);have a2:¬(((y &&& (18446744073709551615-x):Nat):Int)=0):=fun e=>n (by unfold iC;omega)
     have ao:I3 ((((y &&& (18446744073709551615-x):Nat):Int) != 0)=true):=aA (bne_iff_ne.2 a2);clear n;go_wp2;go_roundw
     case rel=>exact⟨i+1,true,by rw[ao.out],by go_num,by rw[← HY.out];exact m.out.1,m.out.2⟩
     case measure=>simp[intOf];omega
   ·go_wp2;go_roundw
    case rel=>exact⟨i+1,true,rfl,by go_num,m.out.1,m.out.2⟩
    case measure=>simp[intOf];omega
  ·have ap:i=a.length:=by omega
   subst ap;have l:=aA j;clear j A V;go_wp2;go_ret
   obtain⟨Z,q1,C,D⟩:=l.out.ws;have eH:mkS (cQ d)=mkS (cQ c):=cT fun k _=>HH.out k
   refine⟨?_,_,⟨Z,by omega,C,?_⟩,l.out.ch⟩
   ·rw[← eH,tN a7 a8 ai,← l.out.gr];rfl
   ·unfold cP;refine cT fun k hk=>?_
    rw[bD hk,bD hk,← HH.out];unfold cQ;rw[D];by_cases e:k / 64<a.length
    ·rw[if_pos e,Nat.testBit_or]
    ·rw[if_neg e];have:a.getD (k / 64) 0=0:=by rw[List.getD_eq_getElem?_getD,Ja (Ki e)];rfl
     rw[this];simp
theorem uR(B I b o b2 k:Nat)(x y:Array sA)(T J:I1)(v t:sA)(s K:List Nat)(w:vF)(f:w.heap[b]?=some (.cells x T (0,0)))(z:x[o]?=some v)(A:w.heap[b2]?=some (.cells y J (0,0)))(C:y[k]?=some t)(h:aO w B v s)(h2:aO w I t K) :
  I5 hE 174 #[.pointer (some ⟨b,o,none⟩),.pointer (some ⟨b2,k,none⟩)] w fun e w'=>e=.returned (.bool (s == K))∧∃n,w'=w.drewN n:=by
 obtain⟨a,V,l,rfl⟩:=h;obtain⟨c,X,p,rfl⟩:=h2;have Y:w.cell? ⟨b,o,none⟩=some v:=by rw[aC f];exact z
 have Z:w.cell? ⟨b2,k,none⟩=some t:=by rw[aC A];exact C
 have L:=fun n d=>xA B b o x T v a d (w.drewN n) f z l
 have M:=fun n d=>xA I b2 k y J t c d (w.drewN n) A C p
 have N:=aA (zE l.2 p.2 V X);obtain⟨ao,a7,rfl,_⟩:=l.form;obtain⟨a8,a9,rfl,_⟩:=p.form;have a0:=l.2;have a1:=p.2;clear l p f A z C;go_enter Tryz.func174,Tryz.ntmps174
 go_wp2;go_region
 have O:(if a.length<c.length then((c.length:Nat):Int)else((a.length:Nat):Int))=((max a.length c.length:Nat):Int):=by split<;>omega
 rw[O];have aa:max a.length c.length≤2:=by omega
 generalize max a.length c.length=m at *;clear O;obtain⟨g,q⟩:∃g,g=w.drew:=⟨_,rfl⟩;have P:=aA q;have D:∀d:Nat,I5 hE 188 #[.pointer (some ⟨b,o,none⟩),.int .i64 d] g fun e w'=>e=.returned (.int .u64 ((a.getD d 0:Nat):Int))∧w'=g:=by rw[q];exact L 1
 have E:∀d:Nat,I5 hE 188 #[.pointer (some ⟨b2,k,none⟩),.int .i64 d] g fun e w'=>e=.returned (.int .u64 ((c.getD d 0:Nat):Int))∧w'=g:=by rw[q];exact M 1
 rw[← q];clear L M q Y Z;go_wp2;go_loopw [17] (fun F wr=>∃(i:Nat),F=.int .i64 i∧i≤m∧wr=g∧I3 (∀j,j<i→a.getD j 0=c.getD j 0)) (fun F _=>m-(intOf F).toNat)
 case atStart=>exact⟨0,rfl,Nat.zero_le _,rfl,aA (fun j Q=>by omega)⟩
 case round=>
  obtain⟨i,rfl,ab,rfl,R⟩:=hrel;by_cases a2:i<m
  ·have G:=D i;have f:=E i;have a3:=dM a0 i;have a4:=dM a1 i;clear D E;generalize S:a.getD i 0=a5 at G a3;generalize U:c.getD i 0=a6 at f a4;have u:=aA (And.intro S U);clear S U;go_wp2_with fail
   refine G.mono ?_
   clear G;rintro e w2 ⟨rfl,rfl⟩;go_wp2_with fail
   refine f.mono ?_
   clear f;rintro e w2 ⟨rfl,rfl⟩;by_cases H:a5=a6
   ·have r:I3 (a.getD i 0=c.getD i 0):=aA (by rw[u.out.1,u.out.2];exact H);subst H;go_wp2;go_roundw
    case rel=>
     refine⟨i+1,by go_num,by omega,(by first|rfl|trivial),aA (fun j Q=>?_)⟩;by_cases e:j=i
     ·subst e;exact r.out
     ·exact R.out j (by omega)
    case measure=>simp[intOf];omega
   ·have r:I3 ((mkS (cQ a) == mkS (cQ c))=false):=by
     refine aA ?_
     rw[beq_eq_false_iff_ne];exact fun e=>H (by rw[← u.out.1,← u.out.2];exact N.out.2 e i a2)
    go_wp2;go_ret
    exact⟨by rw[r.out];rfl,1,P.out⟩
  ·have r:I3 ((mkS (cQ a) == mkS (cQ c))=true):=by
    refine aA ?_
    rw[beq_iff_eq];exact N.out.1 (fun j Q=>R.out j (by omega))
   clear D E;go_wp2;go_ret
   exact⟨by rw[r.out];rfl,1,P.out⟩
theorem BI(B b o:Nat)(a:Array sA)(T:I1)(v:sA)(s:List Nat)(w:vF)(c:w.heap[b]?=some (.cells a T (0,0)))(d:a[o]?=some v)(h:aO w B v s) :
  I5 hE 191 #[.pointer (some ⟨b,o,none⟩)] w fun e w'=>e=.returned (.bool s.isEmpty)∧Kb [] w w':=by
 have f:=uR B 0 b o w.heap.size 0 a #[.slice none 0 0] T 230 v (.slice none 0 0) s [] (w.alloc (.cells #[.slice none 0 0] 230)) (aF c _) d (aD _ _) rfl (h.kb ((Kb.refl [] w).alloc _) (by simp)) (aO.nil _ _);have g:I3 ((s == [])=s.isEmpty):=aA (by cases s<;>rfl);clear c d h;go_enter Tryz.func191,Tryz.ntmps191
 go_wp2_with fail
 refine f.mono ?_
 clear f;rintro e i ⟨rfl,n,rfl⟩;go_wp2;go_ret
 exact⟨by rw[← g.out];rfl,((Kb.refl [] w).alloc _).drewN n⟩
end
end Go.Proofs.YtiamlbhkiehilaaGreatDoor
