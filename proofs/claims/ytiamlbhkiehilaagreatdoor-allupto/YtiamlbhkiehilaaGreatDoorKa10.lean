import Derived.Test.YtiamlbhkiehilaaGreatDoorKa09
open Go renaming World→vF,bodyPost_ret→IG
open Go.Obj renaming cells→MH
open Go.Proofs.Tryz renaming results51→LU,underlying44→I7
open Go.Value renaming string→F2,bool→IY
open Go.World renaming cell?_of_block→J3
open List renaming mem_of_getElem?→IJ,getElem?_eq_getElem→hZ,mem_singleton→A1
open Nat renaming le_refl→gO,lt_of_lt_of_le→A2
namespace Go.Proofs.YtiamlbhkiehilaaGreatDoor
section
open Go.RowKit Go.Maps
def xU(L N:Nat)(w:vF):Prop:=
 ∀k,k<4→∃b,b<N∧w.cell? ⟨L,k,none⟩=some (.slice (some ⟨b,0,none⟩) (pat k).length (pat k).length)∧∀(i:Nat) x,(pat k)[i]?=some x→w.cell? ⟨b,i,none⟩=some (.string x)
theorem xU.below{L N:Nat}{w w':vF}(h:xU L N w)(d:L<N)(a:Below N w w'):xU L N w':=by
 intro k e;obtain⟨b,c,f,g⟩:=h k e;refine⟨b,c,?_,fun i x j=>?_⟩
 ·rw[J3 (w:=w) (a.block L d)];exact f
 ·rw[J3 (w:=w) (a.block b c)];exact g i x j
theorem lP{w:vF}{B:Nat}{v:Value}{ss:List ByteArray}(h:w.ownsRow B 9 1 v ss.length (ss.map F2))(f:0<ss.length) :
  ∃g cap,v=.slice (some ⟨g,0,none⟩) ss.length cap∧ss.length≤cap∧g<w.heap.size∧B≤g∧∀(i:Nat) x,ss[i]?=some x→w.cell? ⟨g,i,none⟩=some (.string x):=by
 rcases h.2 with⟨_,j⟩|⟨g,cap,k,rfl,c,a,d,_,_,e⟩
 ·omega
 ·refine⟨g,cap,rfl,d,aB a,c,fun i x b=>?_⟩;have l:=aK b;rw[aC a];have:(ss.map F2)[i]?=some (.string x):=by simp[b]
  rw[← e,List.getElem?_take,if_pos (by omega)]at this;simpa using this
theorem zX(x:ByteArray)(l:List UInt8):(x.toList == l)=decide (x=⟨l.toArray⟩):=by rw[ByteArray.toList_eq,Bool.eq_iff_iff];obtain⟨⟨y⟩⟩:=x;simp
theorem jE(l:List ByteArray)(i:Nat)(x:ByteArray)(h:l[i]?=some x):(l.map F2).toArray[i]?=some (.string x):=by simp[h]
theorem aZ{w:vF}{b:Nat}{x y z:Value}{T:TypeId}(h:w.heap[b]?=some (.cells #[x,y,z] T (0,0))) :
  w.cell? ⟨b,0,none⟩=some x∧w.cell? ⟨b,1,none⟩=some y∧w.cell? ⟨b,2,none⟩=some z∧w.frozen? ⟨b,0,none⟩=false∧w.frozen? ⟨b,1,none⟩=false∧w.frozen? ⟨b,2,none⟩=false:=
 ⟨by rw[aC h];rfl,by rw[aC h];rfl,by rw[aC h];rfl,aE h _,aE h _,aE h _⟩
theorem Dr(w:vF):∃h,(((((w.alloc (.cells #[.string ⟨#[]⟩,.string ⟨#[61]⟩,.string ⟨#[38]⟩,.string ⟨#[]⟩] 9)).alloc (.cells #[.string ⟨#[]⟩,.string ⟨#[61]⟩,.string ⟨#[]⟩] 9)).alloc (.cells #[.string ⟨#[]⟩,.string ⟨#[61]⟩,.string ⟨#[42]⟩,.string ⟨#[]⟩] 9)).alloc (.cells #[.string ⟨#[42]⟩,.string ⟨#[]⟩,.string ⟨#[61]⟩,.string ⟨#[]⟩] 9)).alloc (.cells #[.slice (some ⟨w.heap.size,0,none⟩) 4 4,.slice (some ⟨w.heap.size+1,0,none⟩) 3 3,.slice (some ⟨w.heap.size+1+1,0,none⟩) 4 4,.slice (some ⟨w.heap.size+1+1+1,0,none⟩) 4 4] 44))=h ∧
  xU (w.heap.size+1+1+1+1) h.heap.size h∧w.heap.size+1+1+1+1<h.heap.size∧Below w.heap.size w h:=by
 refine⟨_,rfl,?_,by simp,?_⟩
 ·generalize o:MH #[.string ⟨#[]⟩,.string ⟨#[61]⟩,.string ⟨#[38]⟩,.string ⟨#[]⟩] 9=a;generalize p:MH #[.string ⟨#[]⟩,.string ⟨#[61]⟩,.string ⟨#[]⟩] 9=b;generalize q:MH #[.string ⟨#[]⟩,.string ⟨#[61]⟩,.string ⟨#[42]⟩,.string ⟨#[]⟩] 9=c;generalize r:MH #[.string ⟨#[42]⟩,.string ⟨#[]⟩,.string ⟨#[61]⟩,.string ⟨#[]⟩] 9=d;generalize s:MH #[.slice (some ⟨w.heap.size,0,none⟩) 4 4,.slice (some ⟨w.heap.size+1,0,none⟩) 3 3,.slice (some ⟨w.heap.size+1+1,0,none⟩) 4 4,.slice (some ⟨w.heap.size+1+1+1,0,none⟩) 4 4] 44=e;have t:(w.alloc a).heap.size=w.heap.size+1:=by simp
  have u:((w.alloc a).alloc b).heap.size=w.heap.size+1+1:=by simp
  have y:(((w.alloc a).alloc b).alloc c).heap.size=w.heap.size+1+1+1:=by simp
  have z:((((w.alloc a).alloc b).alloc c).alloc d).heap.size=w.heap.size+1+1+1+1:=by simp
  have A:(((((w.alloc a).alloc b).alloc c).alloc d).alloc e).heap.size=w.heap.size+1+1+1+1+1:=by simp
  have n:=aF (aF (aF (aF (aD w a) b) c) d) e;have j:=aF (aF (aF (aD (w.alloc a) b) c) d) e;have l:=aF (aF (aD ((w.alloc a).alloc b) c) d) e;have m:=aF (aD (((w.alloc a).alloc b).alloc c) d) e;have f:=aD ((((w.alloc a).alloc b).alloc c).alloc d) e;rw[t]at j;rw[u]at l;rw[y]at m;rw[z]at f;rw[A];generalize (((((w.alloc a).alloc b).alloc c).alloc d).alloc e)=W at n j l m f ⊢;rw[← o]at n;rw[← p]at j;rw[← q]at l;rw[← r]at m;rw[← s]at f;intro k C;have B:k=0∨k=1∨k=2∨k=3:=by omega
  rcases B with rfl|rfl|rfl|rfl
  ·refine⟨w.heap.size,by omega,by rw[aC f];rfl,fun i x g=>?_⟩;rw[aC n];exact jE (pat 0) i x g
  ·refine⟨w.heap.size+1,by omega,by rw[aC f];rfl,fun i x g=>?_⟩;rw[aC j];exact jE (pat 1) i x g
  ·refine⟨w.heap.size+1+1,by omega,by rw[aC f];rfl,fun i x g=>?_⟩;rw[aC l];exact jE (pat 2) i x g
  ·refine⟨w.heap.size+1+1+1,by omega,by rw[aC f];rfl,fun i x g=>?_⟩;rw[aC m];exact jE (pat 3) i x g
 ·exact(((((Below.refl _ _).alloc (gO _) _).alloc (by simp) _).alloc (by simp;omega) _).alloc (by simp;omega) _).alloc (by simp;omega) _
theorem Gs{k i:Nat}{p:ByteArray}(c:k<4)(h:(pat k)[i]?=some p):p=⟨#[]⟩∨p=⟨#[61]⟩∨p=⟨#[38]⟩∨p=⟨#[42]⟩:=by
 have a:=IJ h;have b:k=0∨k=1∨k=2∨k=3:=by omega
 rcases b with rfl|rfl|rfl|rfl<;>simp only[pat,noB,List.mem_cons,List.not_mem_nil,or_false]at a
 ·rcases a with rfl|rfl|rfl|rfl<;>simp
 ·rcases a with rfl|rfl|rfl<;>simp
 ·rcases a with rfl|rfl|rfl|rfl<;>simp
 ·rcases a with rfl|rfl|rfl|rfl<;>simp
structure SInv(w2 wr:World)(ps ws:List ByteArray)(i:Nat)(v:Value):Prop where
 le:i≤ws.length
 own:wr.ownsRow w2.heap.size 9 1 v (gV ps ws i).length ((gV ps ws i).map Value.string)
 blw:Below w2.heap.size w2 wr
def Ix(w w':vF)(s:ByteArray)(e:Ending):Prop:=
 e=.returned (.tuple #[.agg #[.int .i64 (cU s).1.k,.string (cU s).1.p,.string (cU s).1.q],.int .i64 (cU s).2])∧Below w.heap.size w w'
set_option maxRecDepth 100000 in
set_option maxHeartbeats 2000000 in
theorem ER(s:ByteArray)(w:vF)(hs:s.size≤1000000) :
  Calls Tryz.prog 51 #[.string s] w fun e w'=>Ix w w' s e:=by
 obtain⟨i0,a5,a6,a7,a8⟩:=info_parts iJ;have F:=aD w (.cells #[.int .i64 0,.string ⟨#[]⟩,.string ⟨#[]⟩] 48);have n:Below w.heap.size w (w.alloc (.cells #[.int .i64 0,.string ⟨#[]⟩,.string ⟨#[]⟩] 48)):=(Below.refl _ _).alloc (gO _) _;go_enter Tryz.func51,Tryz.ntmps51
 go_wp2_with fail
 generalize w.alloc (.cells #[.int .i64 0,.string ⟨#[]⟩,.string ⟨#[]⟩] 48)=w0 at F n ⊢;have R:=aB F;refine(Dq s w0 hs).mono ?_
 rintro e o (⟨G,rfl,f⟩|⟨v,a,N,ar,rfl,c,f⟩)
 ·have B:Hid (cU s=(noF,4)):=mO G;have H:=Below.fj f F R;obtain⟨u,y,c2,S,T,U⟩:=aZ H;go_wp2_with fail
  refine IG (v:=.tuple #[.agg #[.int .i64 0,.string ⟨#[]⟩,.string ⟨#[]⟩],.int .i64 4]) (by simp[results,LU,go_sem,u,y,c2]) rfl ⟨by rw[B.out];rfl,?_⟩;exact(((n.trans (f.mono n.size)).setCell (p:=⟨w.heap.size,0,none⟩) (gO _) _).setCell (p:=⟨w.heap.size,1,none⟩) (gO _) _).setCell (p:=⟨w.heap.size,2,none⟩) (gO _) _
 ·have H:=Below.fj f F R;by_cases hz:a.length=0
  ·have B:Hid (cU s=(noF,0)):=(jW N).trans (Dn hz);obtain⟨u,y,c2,S,T,U⟩:=aZ H;obtain⟨ao,V,rfl⟩:∃ao V,v=.slice ao 0 V:=by
    rcases c.2 with⟨h,_⟩|⟨g,af,au,h,_⟩
    ·exact⟨_,_,h⟩
    ·exact⟨_,_,hz ▸ h⟩
   go_wp2_with fail
   refine IG (v:=.tuple #[.agg #[.int .i64 0,.string ⟨#[]⟩,.string ⟨#[]⟩],.int .i64 0]) (by simp[results,LU,go_sem,u,y,c2]) rfl ⟨by rw[B.out];rfl,?_⟩;exact(((n.trans (f.mono n.size)).setCell (p:=⟨w.heap.size,0,none⟩) (gO _) _).setCell (p:=⟨w.heap.size,1,none⟩) (gO _) _).setCell (p:=⟨w.heap.size,2,none⟩) (gO _) _
  ·obtain⟨g,af,rfl,av,X,aw,a9⟩:=lP c (by omega);have B:Hid (cU s=iS a):=jW N;have ag:=aA (rW N);have ax:((a.length:Int) == 0)=false:=beq_false_of_ne (by omega);clear N c;go_wp2_with fail
   obtain⟨d,aa,Y,Z,C⟩:=Dr o;rw[aa];clear aa;have ab:w.heap.size<o.heap.size:=A2 R f.size;have g2:=Below.fj C H ab;have ad:Below w.heap.size w d:=(n.trans (f.mono n.size)).trans (C.mono (by omega));have ah:=aA (fun(i:Nat) x (q:a[i]?=some x)=>(J3 (w:=o) (w':=d) (a:=⟨g,i,none⟩) (C.block g X)).trans (a9 i x q));have aj:g<d.heap.size:=A2 X C.size;have O:w.heap.size<d.heap.size:=A2 ab C.size;clear a9 C X H f F n;generalize o.heap.size+1+1+1+1=ay at Y Z ⊢;go_loopw [7] (fun kv wr=>∃k:Nat,kv=.int .i64 k∧k≤4∧Hid (∀j,j<k→dG a j=false)∧Below d.heap.size d wr) (fun kv _=>4-(intOf kv).toNat)
   case atStart=>exact⟨0,rfl,by decide,fun j z=>absurd z (Nat.not_lt_zero _),Below.refl _ _⟩
   case round=>
    obtain⟨k,rfl,az,P,D⟩:=hrel;by_cases I:k<4
    ·obtain⟨ak,a0,p0,A⟩:=(Y.below Z D) k I;by_cases a1:(pat k).length=a.length
     ·have hq:(((pat k).length:Int) != (a.length:Int))=false:=by simp;omega
      have aV:decide ((k:Int)<4)=true:=decide_eq_true (by omega);have al:=aA A;clear A;go_wp2_with fail
      go_loopw [8,9,10] (fun v am iv wr=>∃i:Nat,iv=.int .i64 i∧am=.bool (jA (pat k) a i)∧SInv d wr (pat k) a i v) (fun _ _ iv _=>a.length-(intOf iv).toNat)
      case atStart=>exact⟨0,rfl,rfl,Nat.zero_le _,World.ownsRow_nil _ _ _ _,D⟩
      case round=>
       clear D p0 al a0;obtain⟨i,rfl,rfl,Q⟩:=hrel;have b:=Q.blw;have c:=Q.own;have b0:=EQ (pat k) a i;have b1:=Q.le;obtain⟨ak,a0,p0,A⟩:=(Y.below Z b) k I;by_cases J:i<a.length
       ·obtain⟨x,q⟩:∃x,a[i]?=some x:=⟨_,hZ J⟩;obtain⟨p,E⟩:∃p,(pat k)[i]?=some p:=⟨_,hZ (by omega)⟩;have cx:wr.cell? ⟨g,i,none⟩=some (.string x):=(J3 (w:=d) (a:=⟨g,i,none⟩) (b.block g aj)).trans (ah.out i x q);have V:=A i p E;clear A;have ae:x.size≤maxLen:=by have:=ag.out x (IJ q);unfold maxLen;omega
        rcases Gs I E with rfl|an
        ·obtain⟨K,L⟩:=Bn E q rfl;have l:=aA K;have M:=aA L;clear K L E q;go_wp2_with fail
         refine(bM _ _ ae).mono ?_
         rintro e w' ⟨rfl,rfl⟩;cases m:jA (pat k) a i
         ·rw[m]at l;go_wp2_with (first|(at_builtin;refine wpList_append_own _ rfl _ _ 44 rfl d.heap.size 9 i0 (.string ⟨#[]⟩) 1 16 I7 a5 a6 a7 a8 rfl (by decide) _ _ _ rfl (c.alloc _) ⟨w'.heap.size,0,none⟩ 1 1 [.string x] rfl rfl (cell_one_new _ _ _) ?c2 ?c3 ?c4 ?c5 ?_)|go_in)
          case c2=>first|rfl|(intro ap hu;rw[A1.1 hu];rfl)
          case c3=>unfold maxLen;omega
          case c4=>omega
          case c5=>have:=b.size;simp;omega
          intro v' o a2 a3 _;have f:Below d.heap.size d o:=(b.alloc b.size _).grown a3 (by have:=b.size;simp;omega) (fun j z=>(c.lt j z).1);go_wp2_with fail
          go_round
          case rel=>exact⟨i+1,by go_num,congrArg IY (by rw[l.out];first|rfl|simp),J,by rw[M.out];simpa using a2,f⟩
          case measure=>simp[intOf];omega
         ·rw[m]at l;go_wp2_with (first|(at_builtin;refine wpList_append_own _ rfl _ _ 44 rfl d.heap.size 9 i0 (.string ⟨#[]⟩) 1 16 I7 a5 a6 a7 a8 rfl (by decide) _ _ _ rfl (c.alloc _) ⟨w'.heap.size,0,none⟩ 1 1 [.string x] rfl rfl (cell_one_new _ _ _) ?c2 ?c3 ?c4 ?c5 ?_)|go_in)
          case c2=>first|rfl|(intro ap hu;rw[A1.1 hu];rfl)
          case c3=>unfold maxLen;omega
          case c4=>omega
          case c5=>have:=b.size;simp;omega
          intro v' o a2 a3 _;have f:Below d.heap.size d o:=(b.alloc b.size _).grown a3 (by have:=b.size;simp;omega) (fun j z=>(c.lt j z).1);go_wp2_with fail
          go_round
          case rel=>exact⟨i+1,by go_num,congrArg IY (by rw[l.out];first|rfl|simp),J,by rw[M.out];simpa using a2,f⟩
          case measure=>simp[intOf];omega
        ·rcases an with rfl|rfl|rfl
         all_goals
          obtain⟨K,L⟩:=Bo E q (by decide);have l:=aA K;have M:=aA L;clear K L E q;go_wp2_with fail
          refine(bM _ _ ae).mono ?_
          rintro e w' ⟨rfl,rfl⟩;cases m:jA (pat k) a i
          ·rw[m]at l;go_wp2_with fail
           go_quiet (fail)
           go_wp2_with fail
           go_roundw
           case rel=>exact⟨i+1,by go_num,congrArg IY (by rw[l.out];first|rfl|(simp;done)|(simp;exact zX _ _)),J,by rw[M.out];exact c,aN b _⟩
           case measure=>simp[intOf];omega
          ·rw[m]at l;go_wp2_with fail
           go_quiet (fail)
           go_wp2_with fail
           go_roundw
           case rel=>exact⟨i+1,by go_num,congrArg IY (by rw[l.out];first|rfl|(simp;done)|(simp;exact zX _ _)),J,by rw[M.out];exact c,aN b _⟩
           case measure=>simp[intOf];omega
       ·have aq:i=a.length:=by omega
        subst aq;clear A p0 a0;cases m:jA (pat k) a a.length
        ·have HB:Hid (∀j,j<k+1→dG a j=false):=by
          intro j z;by_cases e:j=k
          ·subst e;simp[dG,m]
          ·exact P.out j (by omega)
         go_wp2_with fail
         go_round
         case rel=>exact⟨k+1,by go_num,by omega,HB,b⟩
         case measure=>simp[intOf];omega
        ·have HF:Hid (cU s=(fC a k,0)):=B.out.trans (Bq (by omega) I P.out (by simp[dG,a1,m]));have h2:=Gq I a1;rw[h2]at c;obtain⟨r,t,G⟩:∃r t,gV (pat k) a a.length=[r,t]:=by
          match hm:gV (pat k) a a.length,h2 with
          | [r,t],_=>exact⟨r,t,rfl⟩
         have HK:Hid (fC a k=⟨(k:Int)+1,r,t⟩):=by unfold Hid fC;rw[G];rfl
         rw[G]at c;obtain⟨g',b2,rfl,b3,b4,b5,a4⟩:=lP (ss:=[r,t]) c (by simp);have d0:=a4 0 r rfl;have d1:=a4 1 t rfl;have g3:=Below.fj b g2 O;obtain⟨u,y,c2,S,T,U⟩:=aZ g3;clear a4 Q c m h2 G;go_wp2_with fail
         go_region
         go_wp2;refine IG (v:=.tuple #[.agg #[.int .i64 ((k:Int)+1),.string r,.string t],.int .i64 0]) (by simp[results,LU,go_sem,u,y,c2]) rfl ⟨by rw[HF.out,HK.out],?_⟩;exact((((ad.trans (b.mono (Nat.le_of_lt O))).drew).setCell (p:=⟨w.heap.size,0,none⟩) (gO _) _).setCell (p:=⟨w.heap.size,1,none⟩) (gO _) _).setCell (p:=⟨w.heap.size,2,none⟩) (gO _) _
     ·have HB:Hid (∀j,j<k+1→dG a j=false):=by
       intro j z;by_cases e:j=k
       ·subst e;simp[dG,a1]
       ·exact P.out j (by omega)
      have hq:(((pat k).length:Int) != (a.length:Int))=true:=by simp;omega
      clear A;go_wp2_with fail
      go_round
      case rel=>exact⟨k+1,by go_num,by omega,HB,D⟩
      case measure=>simp[intOf];omega
    ·have hk:k=4:=by omega
     subst hk;have HF:Hid (cU s=(noF,4)):=B.out.trans (wU (by omega) P.out);have g3:=Below.fj D g2 O;obtain⟨u,y,c2,S,T,U⟩:=aZ g3;go_wp2_with fail
     refine IG (v:=.tuple #[.agg #[.int .i64 0,.string ⟨#[]⟩,.string ⟨#[]⟩],.int .i64 4]) (by simp[results,LU,go_sem,u,y,c2]) rfl ⟨by rw[HF.out];rfl,?_⟩;exact(((ad.trans (D.mono (Nat.le_of_lt O))).setCell (p:=⟨w.heap.size,0,none⟩) (gO _) _).setCell (p:=⟨w.heap.size,1,none⟩) (gO _) _).setCell (p:=⟨w.heap.size,2,none⟩) (gO _) _
end
end Go.Proofs.YtiamlbhkiehilaaGreatDoor
