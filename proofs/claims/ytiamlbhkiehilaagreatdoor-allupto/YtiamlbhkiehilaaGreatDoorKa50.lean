import Derived.Test.YtiamlbhkiehilaaGreatDoorKa49
import Derived.ProofKit
import Derived.Deep.Strs
import Derived.Deep.DeepHandedRow
open Array renaming length_toList→IR
open Go renaming World→vF,Value→sA,Calls→I5,maxLen→IU,bodyPost_ret→IG,DataW→KV,MemPlace→KO,frozen→Ok
open Go.Addr renaming add_lit→Kl,add→Lu
open Go.DataW renaming trod→JC,trod_int→M0,trod_string→Lk,trod_struct→Oc,trod_bool→LG
open Go.Proofs.Tryz renaming prog→hE,underlying40→KZ,underlying44→I7,results47→Nb,underlying9→Kj,underlying3→Ou,underlying4→Lv
open Go.Proofs.YtiamlbhkiehilaaGreatDoor.Rows renaming uptoBulkAll→Jd,uptoBulk→Jb
open Go.RowKit renaming Hid→I3
open Go.Value renaming string→F2,int→Mj
open Go.World renaming cell?_spot→Oj,cells?_some→KP
open List renaming replicate→A3,replicate_zero→N0,append_nil→JK,take_of_length_le→I6,replicate_succ'→K5,append_assoc→JI,length_append→A4,getElem?_eq_getElem→hZ,mem_of_getElem?→IJ,getElem?_map→Jx,length_map→JO,eq_nil_of_length_eq_zero→MM,getElem?_append_right→IZ,getElem?_append_left→IL,getElem?_replicate→Jk,flatMap_append→N1,map_append→Jp,sum_append→OM,length_nil→J1,map_cons→JX,range→IQ,getElem?_range→La,mem_range→Lt,getElem?_of_mem→J6,length_cons→Jn,length_range→Ol
open Nat renaming le_refl→gO,zero_le→IM,le_trans→IH,lt_of_lt_of_le→A2,add_zero→NH
namespace Go.Proofs.YtiamlbhkiehilaaGreatDoor
set_option maxRecDepth 100000
set_option maxHeartbeats 2000000
section
open Go.RowKit
theorem F5:(hE.info? 51).map (fun i=>(i.zero,i.size,i.bytes))=some (some (.agg #[.string ⟨#[]⟩,.slice none 0 0]),2,40):=by kernel_rfl
theorem H9:(hE.info? 9).map (fun i=>(i.zero,i.size,i.bytes))=some (some (.string ⟨#[]⟩),1,16):=by kernel_rfl
theorem Ia:(hE.info? 9).map (·.size)=some 1:=by kernel_rfl
structure LentI(w wr:World)(rs:List RowD)(j:Nat)(hs:List Nat)(rest:List Value):Prop where
 le:j≤rs.length+8
 fam:Fam w.heap.size hs (rs.take j) wr
 row:jG w.heap.size (eV hs (rs.take j)++List.replicate (j-rs.length) pM) rest wr
 len:rest.length=(rs.length+8-j)*2
 blw:Below w.heap.size w wr
theorem LentI.ma{w wr:vF}{rs:List RowD}{j H:Nat}{c:List Nat}{r:List sA}{b:ByteArray}{a:List ByteArray}(_hj8:j<rs.length+8)(x:j<rs.length)(hr:rs[j]?=some ⟨b,a⟩)
  (d:Fam w.heap.size c (rs.take j) wr) (k:qX H (a++A3 8 qW) [] wr)
  (g:jG w.heap.size (eV c (rs.take j)++A3 (j-rs.length) pM++[(b,slv H a)]) r ((wr.setCell ⟨w.heap.size,j*2,none⟩ (.string b)).setCell ⟨w.heap.size,j*2+1,none⟩ (slv H a)))
  (l:r.length=(rs.length+8-(j+1))*2) (i:Below w.heap.size w wr) (m:∀h∈c,h<H) (n:w.heap.size<H) :
  LentI w (((wr.setCell ⟨w.heap.size,j*2,none⟩ (.string b)).setCell ⟨w.heap.size,j*2+1,none⟩ (slv H a)).drew) rs (j+1) (c++[H]) r:=by
 have f:Kb [w.heap.size] wr (((wr.setCell ⟨w.heap.size,j*2,none⟩ (.string b)).setCell ⟨w.heap.size,j*2+1,none⟩ (slv H a)).drew):=(((Kb.refl _ _).setCell (Or.inl (by simp)) _).setCell (Or.inl (by simp)) _).drew;have o:=d.kb f (fun h p e=>by have:=d.gt h p;simp at e;omega);have q:qX H (a++A3 8 qW) [] (((wr.setCell ⟨w.heap.size,j*2,none⟩ (.string b)).setCell ⟨w.heap.size,j*2+1,none⟩ (slv H a)).drew):=f.heap k (by simp;omega);refine⟨by omega,?_,?_,l,i.trans (f.below i.size (by simp))⟩
 ·rw[bG hr];exact o.snoc (r:=⟨b,a⟩) q (fun s=>by have:=m H s;omega) n
 ·have t:j-rs.length=0:=by omega
  have u:j+1-rs.length=0:=by omega
  rw[t,N0,JK]at g;rw[bG hr,Cx d.len,u,N0,JK];exact g
theorem LentI.bey{w wr:vF}{rs:List RowD}{j:Nat}{b:List Nat}{rest r:List sA}(a:LentI w wr rs j b rest)(k:j<rs.length+8)(l:¬j<rs.length)
  {W:vF} (f:jG w.heap.size (eV b (rs.take j)++A3 (j-rs.length) pM++[(⟨#[98,101,121,111,110,100]⟩,.slice none 0 0)]) r W) (c:Kb [w.heap.size] wr W) (g:r.length=(rs.length+8-(j+1))*2) :
  LentI w W rs (j+1) b r:=by
 have d:rs.take (j+1)=rs.take j:=by rw[I6 (by omega),I6 (by omega)]
 refine⟨by omega,?_,?_,g,a.blw.trans (c.below a.blw.size (by simp))⟩
 ·rw[d];exact a.fam.kb c (fun h i e=>by have:=a.fam.gt h i;simp at e;omega)
 ·rw[d,show j+1-rs.length=(j-rs.length)+1 by omega,K5,← JI];exact f
theorem Ef{m:Nat}(rest:List sA)(h:rest.length=(m+1)*2):∃x y r,rest=x::y::r∧r.length=m*2:=by
 match rest,h with
 | [],h=>simp at h
 | [_],h=>simp at h;omega
 |x::y::r,h=>exact⟨x,y,r,rfl,by simp at h;omega⟩
theorem Eg{m:Nat}(rest:List sA)(h:rest.length=m+1):∃x r,rest=x::r∧r.length=m:=by
 match rest,h with
 | [],h=>simp at h
 |x::r,h=>exact⟨x,r,rfl,by simpa using h⟩
theorem F6(v:sA)(rs:List RowD)(w:vF)(y:dP v rs w)(cm:rs.length≤1000000000000)(bk:∀r∈rs,r.to.length≤1000000000000) :
  I5 hE 46 #[v] w fun e w'=>e=.returned (.slice (some ⟨w.heap.size,0,none⟩) (rs.length+8) (rs.length+8))∧Below w.heap.size w w' ∧
   ∃c,Fam w.heap.size c rs w'∧jG w.heap.size (eV c rs++A3 8 pM) [] w':=by
 obtain⟨ao,cn,bl,_,_,af⟩:=y;subst bl;have bm:=aA af;clear af;obtain⟨i0,bn,bo,bp,bq⟩:=info_parts F5;obtain⟨i1,br,bs,bt,bu⟩:=info_parts H9;go_enter Tryz.func46,Tryz.ntmps46
 go_wp2_with (first|(at_make;refine wpList_make_full _ rfl _ _ 40 rfl w.heap.size 51 i0 (.agg #[.string ⟨#[]⟩,.slice none 0 0]) 2 KZ bn bo bp .i64 .i64 _ _ (rs.length+8) rfl rfl (by simp) (by simp) ?c1 ?c2 (gO _) ?_)|go_in)
 case c1=>rw[bq];omega
 case c2=>unfold IU;omega
 intro Q ag ah;obtain⟨d,ai,aj⟩:∃d,Q.heap[w.heap.size]?=some (.cells d 51 (0,0))∧d.size=(rs.length+8)*2:=by
  rcases ag.2 with⟨h,_⟩|⟨bv,cp,d,y,_,S,_,_,c,_⟩
  ·cases h
  ·injection y with f e2 U;injection f with f;injection f with f;subst f U;exact⟨d,S,c⟩
 have ak:Below w.heap.size w Q:=(Below.refl _ _).grown ah (gO _) (fun j V=>by cases V);have hL:LentI w Q rs 0 [] d.toList:=by
  refine⟨IM _,⟨rfl,List.nodup_nil,fun h z=>by simp at z,fun j h r h1=>by simp at h1⟩,?_,?_,ak⟩
  ·unfold jG;rw[ai];simp[eV,eG]
  ·rw[show d.toList.length=d.size from IR,aj,Nat.sub_zero]
 clear ag ah ai aj ak;go_wp2_with fail
 go_loopw [4] (fun i wr=>∃(j:Nat) (c:List Nat) (I:List sA),i=.int .i64 j∧LentI w wr rs j c I) (fun i _=>(rs.length+8)-(intOf i).toNat)
 case atStart=>exact⟨0,[],_,rfl,hL⟩
 case round=>
  clear hL;obtain⟨j,c,I,rfl,g⟩:=hrel;by_cases al:j<rs.length+8
  ·obtain⟨bw,am,r,hr,an⟩:=Ef (m:=rs.length+8-(j+1)) I (by rw[g.len];omega);have k:=g.row;rw[hr]at k;have n:=g.blw;have p:=g.fam;have hz:=aB k;have X:(eV c (rs.take j)++A3 (j-rs.length) pM).length=j:=by
    rw[A4,iB p.len,List.length_take,List.length_replicate];omega
   have Y:=k.push qW (.slice none 0 0);have Z:(eG (eV c (rs.take j)++A3 (j-rs.length) pM)).length=j*2:=by rw[iL,X]
   rw[X]at Y;have c0:wr.cell? ⟨w.heap.size,j*2,none⟩=some bw:=by rw[aC k];simp[Z]
   have c1:wr.cell? ⟨w.heap.size,j*2+1,none⟩=some am:=by rw[aC k];simp[Z]
   have f0:∀o,wr.frozen? ⟨w.heap.size,o,none⟩=false:=fun o=>aE k o
   have t:Kb [w.heap.size] wr ((wr.setCell ⟨w.heap.size,j*2,none⟩ (.string qW)).setCell ⟨w.heap.size,j*2+1,none⟩ (.slice none 0 0)):=((Kb.refl _ _).setCell (Or.inl (by simp)) _).setCell (Or.inl (by simp)) _;have u:=aA Y;clear k Y Z hr;unfold qW at u t;by_cases a0:j<rs.length
   ·obtain⟨⟨nm,a⟩,A⟩:∃r,rs[j]?=some r:=⟨_,hZ a0⟩;obtain⟨b,J,bx,ap,aq⟩:=bm.out (bT A);subst bx;obtain⟨ar,tv,au,bz⟩:=aq j nm a A;have bF:I3 (∀w',Below w.heap.size w w'→w'.cell? ⟨b,J+j*2,none⟩=some (.string nm)):=fun w' h=>(h.cell (p:=⟨b,J+j*2,none⟩) ap).trans ar
    have K:I3 (∀w',Below w.heap.size w w'→w'.cell? ⟨b,J+j*2+1,none⟩=some tv):=fun w' h=>(h.cell (p:=⟨b,J+j*2+1,none⟩) ap).trans au
    clear ar au;obtain⟨a1,c5,c6,co,aw,ax⟩:=bz;have ay:=aA ax;have az:I3 (a1=none→a.length=0):=fun h=>by have:=aw h;omega
    clear ax aw;subst c6;have c7:=bk _ (IJ A);simp only at c7;have c8:=aA A;have c9:Below w.heap.size w ((wr.setCell ⟨w.heap.size,j*2,none⟩ (.string ⟨#[98,101,121,111,110,100]⟩)).setCell ⟨w.heap.size,j*2+1,none⟩ (.slice none 0 0)):=n.trans (t.below n.size (by simp));have f:=K.out _ n;clear A aq g;have ca:((wr.setCell ⟨w.heap.size,j*2,none⟩ (.string ⟨#[98,101,121,111,110,100]⟩)).setCell ⟨w.heap.size,j*2+1,none⟩ (.slice none 0 0)).heap.size=wr.heap.size:=by simp[World.setCell]
    go_wp2_with (first|(at_make;refine wpList_make_full _ rfl _ _ 44 rfl wr.heap.size 9 i1 (.string ⟨#[]⟩) 1 I7 br bs bt .i64 .i64 _ _ (a.length+8) rfl rfl (by simp) (by simp) ?c3 ?c4 (Nat.le_of_eq ca.symm) ?_)|go_in)
    case c3=>rw[bu];omega
    case c4=>unfold IU;omega
    intro C aV a2;generalize ((wr.setCell ⟨w.heap.size,j*2,none⟩ (.string ⟨#[98,101,121,111,110,100]⟩)).setCell ⟨w.heap.size,j*2+1,none⟩ (.slice none 0 0))=W1 at *;obtain⟨L,b0,a3⟩:∃d,C.heap[wr.heap.size]?=some (.cells d 9 (0,0))∧d.size=a.length+8:=by
     rcases aV.2 with⟨h,_⟩|⟨bv,cp,d,y,_,S,_,_,c,_⟩
     ·cases h
     ·injection y with f e2 U;injection f with f;injection f with f;subst f U;exact⟨d,S,by omega⟩
    have b1:Kb [w.heap.size] wr C:=t.grown a2 (fun a4 s=>by cases s);have a5:jG w.heap.size (eV c (rs.take j)++A3 (j-rs.length) pM++[(⟨#[98,101,121,111,110,100]⟩,.slice none 0 0)]) r C:=(a2.block _ (aB u.out) (by simp)).trans u.out;have D:Below w.heap.size w C:=c9.grown a2 (by have:=n.size;omega) (fun a4 s=>by cases s);have d1:=K.out _ D;have b3:I3 (∀a6,a1=some a6→∀i v,(a.map F2)[i]?=some v→C.cell? (a6.add i)=some v):=by intro a6 M i v b4;rw[Jx]at b4;obtain⟨cb,b5,cc⟩:=Option.map_eq_some_iff.1 b4;obtain⟨b2,cq,cd,ce,cf⟩:=ay.out (bT b5);rw[cd]at M;injection M with M;subst M;rw[Kl,← cc];exact(cf.below D ce) i cb b5
    have b6:∀b7∈a.map F2,b7.oneCell'=true:=by intro b7 hu;obtain⟨am,_,rfl⟩:=List.mem_map.1 hu;rfl
    have b8:=aA b6;clear b6 aV t u f ay c0 c1 f0;go_wp2_with (first|(refine qV rfl (.tmp 34) (.tmp 39) 44 44 rfl 9 1 I7 Ia wr.heap.size (a.length+8) (a.length+8) a1 a.length c5 rfl rfl L 9 b0 (a.map F2) (by omega) (by simp) az.out b3.out (by rw[JO,a3];omega) b8.out ?_;intro E b9 N;have O:Below w.heap.size w E:=D.grown N D.size (fun a4 s=>(by cases s;exact n.size));have d3:=K.out _ O)|go_in)
    have ba:Kb [w.heap.size] wr E:=b1.grown N (fun a4 s=>by cases s;exact Or.inr (gO _));have bb:jG w.heap.size (eV c (rs.take j)++A3 (j-rs.length) pM++[(⟨#[98,101,121,111,110,100]⟩,.slice none 0 0)]) r E:=(N.block _ (aB a5) (by intro e;injection e;omega)).trans a5;obtain⟨l,a7⟩:∃l,l=L.toList.drop (a.map F2).length:=⟨_,rfl⟩;have bc:qX wr.heap.size a l E:=by unfold qX;rw[a7];exact b9.out
    have a8:l.length=8:=by rw[a7,List.length_drop,JO,show L.toList.length=L.size from IR,a3];omega
    clear b9 N a5 b1 b0 a3 a7 b3 az b8 D d1 d3;have cg:=n.size;have bd:∀h∈c,h<wr.heap.size:=p.lt;have be:=p.kb ba (fun h z e=>by have:=p.gt h z;simp at e;omega);clear p ba;generalize ch:wr.heap.size=H at *;clear ch n;go_loopw [6] (fun i wx=>∃(m:Nat) (l:List sA),i=.int .i64 ((a.length:Int)+(m:Nat))∧m≤8∧l.length=8-m∧qX H (a++A3 m qW) l wx∧Kb [H] E wx) (fun i _=>(a.length+8)-(intOf i).toNat)
    case atStart=>exact⟨0,l,by simp,IM _,a8,by simpa using bc,Kb.refl _ _⟩
    case round=>
     clear bc a8;obtain⟨m,l,rfl,hm,a8,q,G⟩:=hrel;have a9:Below w.heap.size w wr:=O.trans (G.below O.size (by simp;exact cg));by_cases ci:m<8
     ·obtain⟨x2,r2,aa,cj⟩:=Eg (m:=8-(m+1)) l (by omega);rw[aa]at q;have bf:(a++A3 m qW).length=a.length+m:=by simp
      have ab:=q.push qW;rw[bf]at ab;have c2:wr.cell? ⟨H,a.length+m,none⟩=some x2:=by rw[aC q];simp
      have f2:wr.frozen? ⟨H,a.length+m,none⟩=false:=aE q _;have bg:=aA ab;unfold qW at bg;clear ab q bf;go_wp2;go_roundw
      case rel=>refine⟨m+1,r2,by go_num,ci,cj,?_,G.setCell (p:=⟨H,_,none⟩) (Or.inl (by simp)) _⟩;rw[K5,← JI];exact bg.out
      case measure=>simp[intOf];omega
     ·have ck:m=8:=by omega
      subst ck;have aa:l=[]:=MM (by omega);subst aa;have q0:=bF.out _ a9;have q1:=K.out _ a9;have bh:(eV c (rs.take j)++A3 (j-rs.length) pM).length=j:=X;have P:jG w.heap.size (eV c (rs.take j)++A3 (j-rs.length) pM++[(⟨#[98,101,121,111,110,100]⟩,.slice none 0 0)]) r wr:=G.heap bb (by simp;omega);obtain⟨z0,z1⟩:=P.get (i:=j) (n:=⟨#[98,101,121,111,110,100]⟩) (v:=.slice none 0 0) (by rw[IZ (by omega),bh];simp);have f0:∀o,wr.frozen? ⟨w.heap.size,o,none⟩=false:=fun o=>aE P o
      have ad:=P.over nm (slv H a);rw[bh]at ad;have bi:=aA ad;have bj:=be.kb G (fun h z e=>by have:=bd h z;simp at e;omega);have cs:=aB q;clear ad P bb G O be;have ct:(j:Int)<(rs.length:Int):=by omega
      have cu:(j:Int)<(rs.length:Int)+8:=by omega
      have cv:(a.length:Int)≤(a.length:Int)+8:=by omega
      have x:=LentI.ma al a0 c8.out bj q bi.out an a9 bd (by omega);clear bj q;unfold slv at x;have ae:=aA x;clear x bi;go_wp2;go_region
      go_wp2;go_roundw
      case rel=>exact⟨j+1,_,_,by go_num,ae.out⟩
      case measure=>simp[intOf];omega
   ·have x:=LentI.bey g al a0 u.out t an;have ae:=aA x;clear x u g t p n;go_wp2;go_roundw
    case rel=>exact⟨j+1,_,_,by go_num,ae.out⟩
    case measure=>simp[intOf];omega
  ·have V:j=rs.length+8:=by have:=g.le;omega
   subst V;have cl:I=[]:=MM (by rw[g.len];omega);subst cl;have p:=g.fam;have k:=g.row;rw[I6 (by omega)]at p k;rw[show rs.length+8-rs.length=8 by omega]at k;have n:=g.blw;clear g;go_wp2;go_ret
   exact⟨rfl,n,c,p,k⟩
theorem F7(g:Nat)(v:sA)(rs:List RowD)(n:List Nat)(w:vF)(U:dP v rs w)(c:Fam g n rs w)(o:jG g (eV n rs++A3 8 pM) [] w)(ad:rs.length≤1000000000000)(V:∀r∈rs,r.to.length≤1000000000000) :
  I5 hE 48 #[.slice (some ⟨g,0,none⟩) (rs.length+8) (rs.length+8),v] w fun e w'=>e=.returned (.bool true)∧Below w.heap.size w w':=by
 obtain⟨ao,ae,X,_,_,I⟩:=U;subst X;have Y:=aA I;clear I;have Z:=aB o;go_enter Tryz.func48,Tryz.ntmps48
 go_wp2;go_loopw [5] (fun i wr=>∃j:Nat,i=.int .i64 j∧j≤rs.length+8∧Below w.heap.size w wr) (fun i _=>(rs.length+8)-(intOf i).toNat)
 case atStart=>exact⟨0,rfl,IM _,Below.refl _ _⟩
 case round=>
  obtain⟨j,rfl,hj,d⟩:=hrel;have q:jG g (eV n rs++A3 8 pM) [] wr:=Below.fj d o Z;by_cases af:j<rs.length+8
  ·by_cases u:j<rs.length
   ·obtain⟨⟨J,a⟩,f⟩:∃r,rs[j]?=some r:=⟨_,hZ u⟩;obtain⟨h,y⟩:∃h,n[j]?=some h:=⟨_,hZ (by rw[c.len];exact u)⟩;obtain⟨b,s,a0,z,K⟩:=Y.out (bT f);subst a0;obtain⟨L,tv,A,a1⟩:=K j J a f;obtain⟨a2,a3,a4,ag,_,M⟩:=a1;have N:=aA M;clear M;subst a4;have d0:=(d.cell (p:=⟨b,s+j*2,none⟩) z).trans L;have C:=(d.cell (p:=⟨b,s+j*2+1,none⟩) z).trans A;have O:=xH y f;obtain⟨P,D⟩:=q.get (i:=j) (n:=J) (v:=slv h a) (by rw[IL (by rw[iB c.len];exact u)];exact O);unfold slv at D;have E:=c.blk j h _ y f;have a6:=aB E;have a7:=V _ (IJ f);simp only at a7 E
    have a8:I3 (∀w',Below w.heap.size w w'→w'.cell? ⟨b,s+j*2+1,none⟩=some (.slice a2 a.length a3)):=fun w' h=>(h.cell (p:=⟨b,s+j*2+1,none⟩) z).trans A
    clear f y K L A O q c o;have i1:(j:Int)<(rs.length:Int):=by omega
    have i2:(j:Int)<(rs.length:Int)+8:=by omega
    go_wp2;go_quiet (fail)
    go_wp2_with fail
    have G:Below w.heap.size w (wr.drewN nq):=aN d nq;clear d d0 C P D;generalize wr.drewN nq=wy at G ⊢;go_loopw [8] (fun i wx=>∃k:Nat,i=.int .i64 k∧k≤a.length+8∧Below w.heap.size w wx) (fun i _=>(a.length+8)-(intOf i).toNat)
    case atStart=>exact⟨0,rfl,IM _,G⟩
    case round=>
     clear G;obtain⟨k,rfl,hk,l⟩:=hrel;have m:qX h (a++A3 8 qW) [] wr:=Below.fj l E a6;have C:=a8.out _ l;by_cases ah:k<a.length+8
     ·have k8:(k:Int)<(a.length:Int)+8:=by omega
      by_cases Q:k<a.length
      ·obtain⟨x,t⟩:∃x,a[k]?=some x:=⟨_,hZ Q⟩;obtain⟨b2,ai,a9,aa,S⟩:=N.out (bT t);subst a9;have x0:=(S.below l aa) k x t;have x1:=m.get (i:=k) (s:=x) (by rw[IL Q];exact t);clear t S m N;have k1:(k:Int)<(a.length:Int):=by omega
       have k2:decide ((a.length:Int)≤(k:Int))=false:=by simp;omega
       have k3:¬a.length≤k:=by omega
       go_wp2;go_quiet (fail)
       go_wp2;go_roundw
       case rel=>exact⟨k+1,by go_num,by omega,aN l _⟩
       case measure=>simp[intOf];omega
      ·have x1:=m.get (i:=k) (s:=⟨#[98,101,121,111,110,100]⟩) (by rw[IZ (by omega),Jk,if_pos (by omega)];rfl);clear m;have k1:(a.length:Int)≤(k:Int):=by omega
       have k2:decide ((k:Int)<(a.length:Int))=false:=by simp;omega
       have k3:a.length≤k:=by omega
       go_wp2;go_quiet (fail)
       go_wp2;go_roundw
       case rel=>exact⟨k+1,by go_num,by omega,aN l _⟩
       case measure=>simp[intOf];omega
     ·clear m C;go_wp2;go_roundw
      case rel=>exact⟨j+1,by go_num,by omega,l⟩
      case measure=>simp[intOf];omega
   ·obtain⟨P,D⟩:=q.get (i:=j) (n:=⟨#[98,101,121,111,110,100]⟩) (v:=.slice none 0 0) (by rw[IZ (by rw[iB c.len];omega),iB c.len,Jk,if_pos (by omega)];rfl);have aj:=fun w'=>run_neq_slice_nil_any (P:=hE) w' 44 9 none 0 0 0 0 I7
    have i1:(rs.length:Int)≤(j:Int):=by omega
    have i2:(j:Int)<(rs.length:Int)+8:=by omega
    clear q c o;go_wp2;go_roundw
    case rel=>exact⟨j+1,by go_num,by omega,d⟩
    case measure=>simp[intOf];omega
  ·go_wp2;go_ret
   exact⟨rfl,d⟩
end
section
open Go.RowKit Go.Maps
def oV(a:List Nat)(rs:List RowD):List (RowD × sA):=List.zipWith (fun h r=>(r,slv h r.to)) a rs++A3 8 (⟨qW,[]⟩,.slice none 0 0)
theorem sO(a:List Nat)(rs:List RowD):cZ (oV a rs)=eG (eV a rs++A3 8 pM):=by
 unfold oV cZ eG eV;rw[N1,N1];congr 1
 ·induction a generalizing rs with
  |nil=>rfl
  |cons h t b=>
   cases rs with
   |nil=>rfl
   |cons r q=>simp only[List.zipWith_cons_cons,List.flatMap_cons,b]
theorem qY{a:List Nat}{rs:List RowD}(h:a.length=rs.length):(oV a rs).length=rs.length+8:=by simp[oV,h]
theorem mC{a:List Nat}{rs:List RowD}(b:a.length=rs.length){i:Nat}{r:RowD}{tv:sA}(h:(oV a rs)[i]?=some (r,tv)):(∃k,a[i]?=some k∧rs[i]?=some r∧tv=slv k r.to)∨(rs.length≤i∧r.to=[]∧tv=.slice none 0 0):=by
 unfold oV at h;by_cases c:i<rs.length
 ·rw[IL (by simp[b,c])]at h;have d:a[i]?=some a[i]:=hZ (by omega);have e:rs[i]?=some rs[i]:=hZ c;rw[List.getElem?_zipWith,d,e]at h;simp only[Option.some.injEq,Prod.mk.injEq]at h;obtain⟨rfl,rfl⟩:=h;exact .inl ⟨_,d,e,rfl⟩
 ·rw[IZ (by simp[b];omega)]at h;have:=IJ h;have:=List.eq_of_mem_replicate this;injection this with f g;subst f g;exact .inr ⟨by omega,rfl,rfl⟩
theorem F8{g:Nat}{l:List Nat}{rs:List RowD}{w:vF}(c:Fam g l rs w)(q:jG g (eV l rs++A3 8 pM) [] w)(D:rs.length≤1000000000000)(u:∀r∈rs,r.to.length≤1000000000000) :
  OwnR w g w.heap.size (.slice (some ⟨g,0,none⟩) (rs.length+8) (rs.length+8)) (oV l rs):=by
 have s:=qY c.len;refine⟨?_,?_,?_,?_,?_⟩
 ·rw[s];have n:(cZ (oV l rs)).length=(rs.length+8)*2:=by rw[oT,s]
  refine⟨n,.inr ⟨g,_,_,rfl,gO _,q,gO _,by unfold IU;omega,?_,?_⟩⟩
  ·rw[List.size_toArray,JK,← sO,n]
  ·rw[JK,← sO];exact I6 (by rw[n];exact gO _)
 ·intro b a;injection a with a;subst a;exact aB q
 ·intro i r o h;rcases mC c.len h with⟨k,f,d,rfl⟩|⟨_,d,rfl⟩
  ·have a:=c.blk i k r f d;have E:=u r (IJ d);have G:=c.gt k (IJ f);refine⟨by simp,.inr ⟨k,_,_,rfl,by omega,a,by omega,by unfold IU;omega,by simp,?_⟩⟩;simp[Jp]
  ·rw[d];exact⟨rfl,.inl ⟨rfl,rfl⟩⟩
 ·intro i r o h b a;rcases mC c.len h with⟨k,f,d,rfl⟩|⟨_,d,rfl⟩
  ·injection a with a;subst a;exact aB (c.blk i _ r f d)
  ·cases a
 ·intro i j x y I h z;rcases mC c.len (r:=x.1) (tv:=x.2) h with⟨k,f,d,m⟩|⟨_,d,m⟩
  ·rcases mC c.len (r:=y.1) (tv:=y.2) z with⟨J,t,A,p⟩|⟨_,A,p⟩
   ·refine .inr fun e=>?_
    rw[m,p]at e;injection e with e;simp only at e;subst e;have C:=aK f;have K:=aK t;have:=(List.getElem?_inj C c.nodup).1 (f.trans t.symm);omega
   ·refine .inr fun e=>?_
    rw[m,p]at e;cases e
  ·exact .inl (by rw[m];rfl)
end
section
open Go.RowKit
theorem yT(a:ByteArray)(x:ByteArray)(t:List UInt8)(h:a.data.toList=t):(a++⟨#[32]⟩++x).data.toList=t++32::x.data.toList:=by simp[h]
theorem AK(v:sA)(rs:List RowD)(w:vF)(aa:rs.length≤IU)(hv:dP v rs w)(ab:fitsR rs)(az:(aJ rs).length≤1000000000000) :
  I5 hE 47 #[v] w fun e w'=>e=.returned (.tuple #[.string ⟨(eD ⟨#[]⟩ 0 [] rs).1.toArray⟩,.agg #[.int .i64 (eD ⟨#[]⟩ 0 [] rs).2.1,.int .i64 (eD ⟨#[]⟩ 0 [] rs).2.2]])∧Below w.heap.size w w':=by
 obtain⟨ao,aV,ad,_,_,P⟩:=hv;subst ad;have ae:=aA P;clear P;unfold IU at aa;go_enter Tryz.func47,Tryz.ntmps47
 go_wp2;go_loopw [4,5,6] (fun s af i wr=>∃(n:Nat) (d:ByteArray),i=.int .i64 n∧s=.string d∧I3 (d.data.toList=aJ (rs.take n))∧af=.string (iQ (rs.take n))∧TInv w wr rs n) (fun _ _ i _=>rs.length-(intOf i).toNat)
 case atStart=>exact⟨0,⟨#[]⟩,rfl,rfl,rfl,rfl,IM _,rfl,aD _ _,(Below.refl _ _).alloc (gO _) _⟩
 case round=>
  obtain⟨n,d,rfl,rfl,G,rfl,m⟩:=hrel;have j:=m.blw;have l:=m.res;have ag:=aB l;by_cases ah:n<rs.length
  ·obtain⟨⟨c,a⟩,hr⟩:∃ai,rs[n]?=some ai:=⟨_,hZ ah⟩;obtain⟨b,z,aj,Q,S⟩:=ae.out (bT hr);subst aj;obtain⟨U,V,X,Y⟩:=S n c a hr;have Z:I3 (∀w',Below w.heap.size w w'→w'.cell? ⟨b,z+n*2,none⟩=some (.string c)):=fun w' h=>(h.cell (p:=⟨b,z+n*2,none⟩) Q).trans U
   have a0:I3 (∀w',Below w.heap.size w w'→w'.cell? ⟨b,z+n*2+1,none⟩=some V):=fun w' h=>(h.cell (p:=⟨b,z+n*2+1,none⟩) Q).trans X
   clear U X;have ak:I3 (∀w',Below w.heap.size w w'→cY V a w'):=fun w' h=>Y.below h
   obtain⟨b0,b1,al,_,_,a1⟩:=Y;have a2:=aA a1;clear a1;subst al;obtain⟨a3,I,a4⟩:=ab _ (IJ hr);simp only at a3 I a4;have b3:(a.length:Int)≤9223372036854775807:=by unfold IU at I;omega
   have A:=gB (rs.take n) ⟨c,a⟩;rw[← bG hr]at A;have hL:=lA (l:=rs) (k:=n+1);have am:(aJ (rs.take (n+1))).length=(aJ (rs.take n)).length+(c.size+2+bB a):=by rw[A,A4,fK]
   have r:d.size=(aJ (rs.take n)).length:=by rw[← G.out];exact IR.symm
   have b5:d.size+(c.size+2+bB a)≤1000000000000:=by omega
   have J:=lB (rs.take n) ⟨c,a⟩;rw[← bG hr]at J;have HR:=aA hr;have an:=aA A;have ap:=aA J;have d0:=Z.out _ j;have d1:=a0.out _ j;clear A hr S am J r hL;generalize a5:iQ (rs.take n)=ahead at *;have a6:=aA a5;clear a5;go_wp2_with fail
   refine(pK c _ a _ _ a3 I (ak.out _ j) a4).mono ?_
   rintro e C ⟨rfl,K⟩;have y:=j.trans (K.mono j.size);have o:=Below.fj K l ag;have p0:=Z.out _ y;have p1:=a0.out _ y;clear K l j d0 d1;by_cases t:cE ⟨c,a⟩ ahead=0
   ·have g:=aA t;rw[g.out];clear t;have aq:=m.next HR.out (by rw[a6.out];exact g.out) o y
    clear m o;go_wp2_with fail
    go_loop [4,8] (fun s i=>∃(k:Nat) (f:ByteArray),i=.int .i64 k∧k≤a.length∧s=.string f∧I3 (f.data.toList=d.data.toList++c.data.toList++[58]++eP (a.take k))) (fun _ i=>a.length-(intOf i).toNat)
    case atStart=>exact⟨0,_,rfl,IM _,rfl,by simp[I3,eP]⟩
    case round=>
     obtain⟨k,f,rfl,hk,rfl,L⟩:=hrel;have M:f.size=d.size+c.size+1+bB (a.take k):=by have h:=congrArg List.length L.out;rw[A4,A4,A4,jD]at h;exact h
     by_cases ar:k<a.length
     ·obtain⟨x,u⟩:∃x,a[k]?=some x:=⟨_,hZ ar⟩;obtain⟨b2,b6,au,av,a7⟩:=a2.out (bT u);subst au;have x0:=(a7.below y av) k x u;have N:=nK (a.take k) x;rw[← bG u]at N;have a8:=mP (a.take k) x;rw[← bG u]at a8;have aw:=mQ a (k+1);have O:I3 ((f++⟨#[32]⟩++x).data.toList=d.data.toList++c.data.toList++[58]++eP (a.take (k+1))):=by
       unfold I3;rw[N,yT f x _ L.out,JI _ (eP _)]
      have ax:f.size+1+x.size≤1000000000000:=by omega
      have b7:f.size+1≤1000000000000:=by omega
      clear N u a7 a2 a8 aw M;go_wp2;go_round
      case rel=>exact⟨k+1,_,by go_num,by omega,rfl,O.out⟩
      case measure=>simp[intOf];omega
     ·have q:a.take k=a:=I6 (by omega);rw[q]at M;have O:I3 ((f++⟨#[10]⟩).data.toList=aJ (rs.take (n+1))):=by
       have h:=L.out;rw[q]at h;unfold I3;rw[an.out,← G.out];simp[h,jC]
      have ax:f.size+1≤1000000000000:=by omega
      clear q M;go_wp2;go_roundw
      case rel=>exact⟨n+1,_,by go_num,rfl,O.out,by rw[ap.out],aq⟩
      case measure=>simp[intOf];omega
   ·have g:I3 (eD ⟨#[]⟩ 0 [] rs=([],cE ⟨c,a⟩ ahead,(n:Int)+1)):=by
     have e:=m.rest;rw[cR HR.out,a6.out,uX rfl t]at e;exact e.symm
    have D:C.cell? ⟨w.heap.size,0,none⟩=some (.int .i64 0):=by rw[aC o];rfl
    have E:C.cell? ⟨w.heap.size,1,none⟩=some (.int .i64 0):=by rw[aC o];rfl
    have r2:C.frozen? ⟨w.heap.size,0,none⟩=false:=aE o _;have r3:C.frozen? ⟨w.heap.size,1,none⟩=false:=aE o _;generalize cE ⟨c,a⟩ ahead=x at g t ⊢;have u:(x != 0)=true:=bne_iff_ne.2 t;clear t o;go_wp2;refine IG (v:=.tuple #[.string ⟨#[]⟩,.agg #[.int .i64 x,.int .i64 ((n:Int)+1)]]) (by simp[results,Nb,go_sem,D,E]) rfl ⟨by rw[g.out],?_⟩;exact(y.setCell (p:=⟨w.heap.size,0,none⟩) (gO _) _).setCell (p:=⟨w.heap.size,1,none⟩) (gO _) _
  ·have q:rs.take n=rs:=I6 (by omega);have e:=m.rest;rw[List.drop_of_length_le (by omega),uY,q]at e;have r:=G.out;rw[q]at r;have a9:d.size=(aJ rs).length:=by rw[← r];exact IR.symm
   have ay:I3 (d=⟨(aJ rs).toArray⟩):=by unfold I3;rw[← r]
   have D:wr.cell? ⟨w.heap.size,0,none⟩=some (.int .i64 0):=by rw[aC l];rfl
   have E:wr.cell? ⟨w.heap.size,1,none⟩=some (.int .i64 0):=by rw[aC l];rfl
   have r2:wr.frozen? ⟨w.heap.size,0,none⟩=false:=aE l _;have r3:wr.frozen? ⟨w.heap.size,1,none⟩=false:=aE l _;clear m q r l;by_cases b8:25000<d.size
   ·rw[if_pos (by omega)]at e;have g:=aA e.symm;clear e a9;go_wp2;refine IG (v:=.tuple #[.string ⟨#[]⟩,.agg #[.int .i64 2,.int .i64 0]]) (by simp[results,Nb,go_sem,D,E]) rfl ⟨by rw[g.out],?_⟩;exact(j.setCell (p:=⟨w.heap.size,0,none⟩) (gO _) _).setCell (p:=⟨w.heap.size,1,none⟩) (gO _) _
   ·rw[if_neg (by omega)]at e;have g:=aA e.symm;clear e a9;go_wp2;refine IG (v:=.tuple #[.string d,.agg #[.int .i64 0,.int .i64 0]]) (by simp[results,Nb,go_sem,D,E]) rfl ⟨by rw[g.out,ay.out],?_⟩;exact(j.setCell (p:=⟨w.heap.size,0,none⟩) (gO _) _).setCell (p:=⟨w.heap.size,1,none⟩) (gO _) _
end
section
open Go.RowKit Go.Maps
variable {B kb:Nat} {fs:List Value} {F:Value} {ts:List Value} {T:Value} {rs:List Value} {R:Value}
theorem Ib(s:ByteArray)(G rv:sA)(c:Way)(xs:List RowD)(w:vF)(hr:dP rv xs w)(V:fitsR xs)(X:(aJ xs).length≤1000000000000)(b6:xs.length≤1400000)(Y:∀r∈xs,r.to.length≤1500000)
  (ay:ts.length % 4=0) (az:rs.length % 4=0) (b7:ts.length≤400000000000) (b8:rs.length≤100000000) (I:BookA B kb fs F ts T rs R w) :
  I5 hE 28 #[.pointer (some ⟨kb,0,none⟩),iW 5 s G c rv] w fun e w'=>e=.returned (.bool true)∧∃J Z K R',J.length=ts.length+4*(xs.length+8)∧K.length=rs.length+4∧BookA B kb fs F J Z K R' w'∧Below B w w':=by
 have aV:B≤w.heap.size:=IH I.f.le (Nat.le_of_lt (aB I.f.head));have HB:=aA I;have HV:=aA hr;have b0:=aA Y;have aa:∀r∈xs,r.to.length≤1000000000000:=fun r h=>IH (Y r h) (by omega)
 have a4:=aA aa;obtain⟨b,d,rfl,_⟩:=hr;have HL:=aA (fun(W:vF) (h:dP (.slice b xs.length d) xs W)=>F6 (.slice b xs.length d) xs W h (by omega) a4.out);have HQ:=aA (fun(v:sA) (W:vF) (h:dP v xs W)=>DT v xs W (by unfold IU;omega) h V X);have HR:=aA (fun(v:sA) (W:vF) (h:dP v xs W)=>AK v xs W (by unfold IU;omega) h V X);have HK:=aA (fun(g:Nat) (j:List Nat) (W:vF) (h:dP (.slice b xs.length d) xs W) (hf:Fam g j xs W) (hp:jG g (eV j xs++A3 8 pM) [] W)=>F7 g (.slice b xs.length d) xs j W h hf hp (by omega) a4.out);clear I V X Y aa;unfold iW;go_enter Tryz.func28,Tryz.ntmps28
 go_wp2_with fail
 have y:=aD w (.cells #[.int .i64 5,.string s,G,.int .i64 c.order,.bool c.cycles,.bool c.collapse,.bool c.subst,.bool c.deltas,.slice b xs.length d] 78);have m:Below w.heap.size w (w.alloc (.cells #[.int .i64 5,.string s,G,.int .i64 c.order,.bool c.cycles,.bool c.collapse,.bool c.subst,.bool c.deltas,.slice b xs.length d] 78)):=(Below.refl _ _).alloc (gO _) _;generalize b9:w.heap.size=f at y ⊢;generalize w.alloc (.cells #[.int .i64 5,.string s,G,.int .i64 c.order,.bool c.cycles,.bool c.collapse,.bool c.subst,.bool c.deltas,.slice b xs.length d] 78)=L at y m ⊢;have ab:=aB y;have cO:L.cell? ⟨f,8,none⟩=some (.slice b xs.length d):=by rw[aC y];rfl
 clear y;refine(HL.out L (HV.out.below m)).mono ?_
 rintro e a ⟨rfl,z,j,M,N⟩;have ad:=(z.cell (p:=⟨f,8,none⟩) ab).trans cO;have ae:=A2 ab z.size;have l:Below w.heap.size w a:=m.trans (z.mono m.size);have af:dP (.slice (some ⟨L.heap.size,0,none⟩) xs.length (xs.length+8)) xs a:=Ee M N (by omega);have ag:=F8 M N (by omega) a4.out;have A:=aA (And.intro M N);clear M N HL;have ba:=m.size;have bb:=z.size;generalize L.heap.size=g at *;go_wp2_with fail
 refine(HQ.out _ a af).mono ?_
 clear HQ af;generalize eD ⟨#[]⟩ 0 [] xs=r at *;obtain⟨tx,k,n⟩:=r;rintro e i ⟨rfl,o⟩;simp only at HR ⊢;have ah:=(o.cell (p:=⟨f,8,none⟩) ae).trans ad;have ai:=A2 ae o.size;clear ad cO;go_wp2_with fail
 have p:=aD i (.cells #[.int .i64 k,.int .i64 n] 27);have C:Below a.heap.size a (i.alloc (.cells #[.int .i64 k,.int .i64 n] 27)):=o.alloc o.size _;have a6:(i.alloc (.cells #[.int .i64 k,.int .i64 n] 27)).cell? ⟨f,8,none⟩=some (.slice b xs.length d):=(((Below.refl i.heap.size i).alloc (gO _) (.cells #[.int .i64 k,.int .i64 n] 27)).cell (p:=⟨f,8,none⟩) ai).trans ah;have b1:a.heap.size≤i.heap.size:=o.size;generalize i.alloc (.cells #[.int .i64 k,.int .i64 n] 27)=D at p C a6 ⊢;generalize i.heap.size=be at p b1 ai ⊢;have aj:Below w.heap.size w D:=l.trans (C.mono l.size);have bc:=aB p;refine(HR.out _ D (HV.out.below aj)).mono ?_
 rintro e q ⟨rfl,t⟩;simp only;have b2:=(t.cell (p:=⟨f,8,none⟩) (by show f<_;omega)).trans a6;have bd:f<q.heap.size:=by have:=t.size;omega
 clear ah a6 o HR;go_wp2_with fail
 have E:=aD q (.cells #[.int .i64 k,.int .i64 n] 27);have O:Below D.heap.size D (q.alloc (.cells #[.int .i64 k,.int .i64 n] 27)):=t.alloc t.size _;have P:=Below.fj O p (aB p);have b3:D.heap.size≤q.heap.size:=t.size;generalize q.alloc (.cells #[.int .i64 k,.int .i64 n] 27)=w5 at E O P ⊢;generalize q.heap.size=bf at E b3 ⊢;have u:Below a.heap.size a w5:=C.trans (O.mono C.size);have ak:Below w.heap.size w w5:=l.trans (u.mono l.size);refine(HK.out g j w5 (HV.out.below ak) (A.out.1.kb (Kb.gi u []) (by simp)) (Below.fj u A.out.2 (aB A.out.2))).mono ?_
 rintro e w6 ⟨rfl,Q⟩;have al:=Below.fj Q P (aB P);have am:=Below.fj Q E (aB E);have S:Below a.heap.size a w6:=u.trans (Q.mono u.size);have a7:Below w.heap.size w w6:=l.trans (S.mono l.size);have an:=ag.below S;have ao:=HB.out.below a7;have bg:=S.size;have ll:=qY A.out.1.len;have ap:∀x∈oV j xs,x.1.to.length≤1500000:=by
  intro x hx;obtain⟨bh,hi⟩:=List.mem_iff_getElem?.1 hx;rcases mC A.out.1.len (r:=x.1) (tv:=x.2) hi with⟨k',h1,h2,h3⟩|⟨_,h2,_⟩
  ·exact b0.out _ (IJ h2)
  ·rw[h2];exact IM _
 have aq:=vG g a.heap.size (.slice (some ⟨g,0,none⟩) (xs.length+8) (xs.length+8)) (oV j xs) (by omega) (by omega) ay az (by omega) (by omega) (by omega) ap ao an (fun b4 hu b5 hq=>.inl (by have:=HB.out.lt b4 hu b5 hq;omega));clear b2 p P E ag HK C t O;go_wp2_with fail
 refine aq.mono ?_
 rintro e w9 ⟨rfl,J,Z,K,R',ar,a8,au,av,a9⟩;have aw:=a9 _ _ _ _ al (by decide) (by decide) (by decide) (.inr (by omega));have ax:=a9 _ _ _ _ am (by decide) (by decide) (by decide) (.inr (by omega));obtain⟨a0,a1,_,_⟩:=aH aw;obtain⟨a2,a3,_,_⟩:=aH ax;have q1:=pW k n;have q3:=nH;rw[ll]at a8;have U:=aA (And.intro a8 (And.intro ar (And.intro au ((a7.mono aV).trans av))));clear aq ao au av a9 ar a8 an al am aw ax a7 S u ak aj Q l m z ll ap;go_wp2;go_ret
 exact⟨rfl,J,Z,K,R',U.out.1,U.out.2.1,U.out.2.2.1,U.out.2.2.2⟩
end
section
open Go.RowKit Go.Maps
structure CallD where
 k:Int
 s:ByteArray
 xs:List Fct
 c:Way
 ys:List RowD
structure CallAt(d:CallD)(fv rv:Value)(w:World):Prop where
 size:d.s.size≤maxLen
 facts:cV fv d.xs w
 fits:qA d.xs
 cap:capOf fv≤maxLen
 len:d.xs.length≤1400000
 rows:dP rv d.ys w
 fitsR:fitsR d.ys
 text:(aJ d.ys).length≤1000000000000
 rlen:d.ys.length≤1400000
 rto:∀r∈d.ys,r.to.length≤1500000
def BkA(B kb n m:Nat)(w:vF):Prop:=
 ∃fs F ts T rs R,BookA B kb fs F ts T rs R w∧fs.length % 4=0∧ts.length % 4=0∧rs.length % 4=0∧fs.length≤4*n∧rs.length≤4*n∧ts.length≤104000*n+4*m
theorem oO[DP](d:CallD)(f g:sA)(B kb n m:Nat)(w:vF)(q:Int)(h:CallAt d f g w)(I:BkA B kb n m w)(N:n≤2000000)(O:m≤2000000)
  (o:w.cell? ⟨1,0,none⟩=some (.int .i64 q)) (p:1<B) (J:bN w) (K:0<B) :
  I5 hE 28 #[.pointer (some ⟨kb,0,none⟩),iW d.k d.s f d.c g] w fun e w'=>e=.returned (.bool true)∧BkA B kb (n+1) (m+d.ys.length) w'∧Below B w w':=by
 obtain⟨fs,F,ts,T,rs,R,i,j,k,l,P,Q,S⟩:=I;by_cases A:d.k=1
 ·rw[A];refine(Hy d.s f g d.c w q h.size o p j (by omega) i).mono ?_
  rintro e w' ⟨a,r,s,t,b,c⟩;exact⟨a,⟨s,r,ts,T,rs,R,b,by omega,k,l,by omega,by omega,by omega⟩,c⟩
 by_cases C:d.k=2
 ·rw[C];refine(H6 d.s f g d.c d.xs w h.facts h.fits h.cap h.len j (by omega) i).mono ?_
  rintro e w' ⟨a,r,s,t,b,c⟩;exact⟨a,⟨s,r,ts,T,rs,R,b,by omega,k,l,by omega,by omega,by omega⟩,c⟩
 by_cases D:d.k=3
 ·rw[D];refine(H7 d.s f g d.c w q h.size o p J K i).mono ?_
  rintro e w' ⟨a,b,c⟩;exact⟨a,⟨fs,F,ts,T,rs,R,b,j,k,l,by omega,by omega,by omega⟩,c⟩
 by_cases E:d.k=4
 ·rw[E];refine(H8 d.s f g d.c w q h.size o p k l (by omega) (by omega) i).mono ?_
  rintro e w' ⟨a,u,x,y,z,t,L,M,b,c⟩;exact⟨a,⟨fs,F,u,x,y,z,b,j,L,by omega,by omega,by omega,by omega⟩,c⟩
 by_cases G:d.k=5
 ·rw[G];refine(Ib d.s f g d.c d.ys w h.rows h.fitsR h.text h.rlen h.rto k l (by omega) (by omega) i).mono ?_
  rintro e w' ⟨a,u,x,y,z,t,M,b,c⟩;exact⟨a,⟨fs,F,u,x,y,z,b,j,by omega,by omega,by omega,by omega,by omega⟩,c⟩
 refine(Hz d.k d.s f g d.c w A C D E G i).mono ?_
 rintro e w' ⟨a,b,c⟩;exact⟨a,⟨fs,F,ts,T,rs,R,b,j,k,l,by omega,by omega,by omega⟩,c⟩
theorem vH{B kb n m:Nat}{w:vF}(c:BkA B kb n m w)(l:n≤2000000)(o:m≤3000000) :
  I5 hE 29 #[.pointer (some ⟨kb,0,none⟩)] w fun e w'=>e=.returned (.bool true)∧BkA B kb n m w'∧Below w.heap.size w w':=by
 obtain⟨fs,F,ts,T,rs,R,a,d,f,g,h,i,j⟩:=c;refine(Cq B kb fs F ts T rs R w (by omega) (by omega) (by omega) a).mono ?_
 rintro e w' ⟨k,b⟩;exact⟨k,⟨fs,F,ts,T,rs,R,a.below b,d,f,g,h,i,j⟩,b⟩
theorem BkA.start{B kb:Nat}{w:vF}(a:B≤kb)(b:w.heap[kb]?=some (.cells #[.slice none 0 0,.slice none 0 0,.slice none 0 0] 75 (0,0))):BkA B kb 0 0 w:=
 ⟨[],.slice none 0 0,[],.slice none 0 0,[],.slice none 0 0,⟨⟨a,b,⟨rfl,.inl ⟨rfl,rfl⟩⟩,fun i v h=>by cases h⟩,⟨a,b,⟨rfl,.inl ⟨rfl,rfl⟩⟩,(fun i v h=>by cases h),⟨rfl,.inl ⟨rfl,rfl⟩⟩,fun i v h=>by cases h⟩⟩,rfl,rfl,rfl,by simp,by simp,by simp⟩
theorem CallAt.below{d:CallD}{a b:sA}{w w':vF}(h:CallAt d a b w)(c:Below w.heap.size w w'):CallAt d a b w':=
 ⟨h.size,h.facts.below c,h.fits,h.cap,h.len,h.rows.below c,h.fitsR,h.text,h.rlen,h.rto⟩
def C6(b a:Nat)(f:List (CallD × sA × sA))(w:vF):Prop:=
 ∀(i:Nat) d c e,f[i]?=some (d,c,e)→CallAt d c e w ∧
  w.cell? ⟨b,a+i*9,none⟩=some (.int .i64 d.k)∧w.cell? ⟨b,a+i*9+1,none⟩=some (.string d.s)∧w.cell? ⟨b,a+i*9+2,none⟩=some c ∧
  w.cell? ⟨b,a+i*9+3,none⟩=some (.int .i64 d.c.order)∧w.cell? ⟨b,a+i*9+4,none⟩=some (.bool d.c.cycles)∧w.cell? ⟨b,a+i*9+5,none⟩=some (.bool d.c.collapse) ∧
  w.cell? ⟨b,a+i*9+6,none⟩=some (.bool d.c.subst)∧w.cell? ⟨b,a+i*9+7,none⟩=some (.bool d.c.deltas)∧w.cell? ⟨b,a+i*9+8,none⟩=some e
def nY(a:List (CallD × sA × sA)):Nat:=(a.map (fun x=>x.1.ys.length)).sum
theorem Eh{a:List (CallD × sA × sA)}{i:Nat}{x:CallD × sA × sA}(h:a[i]?=some x):nY (a.take (i+1))=nY (a.take i)+x.1.ys.length:=by unfold nY;rw[List.take_add_one,h,Jp,OM];simp
theorem yU(a:List (CallD × sA × sA))(i:Nat):nY (a.take i)≤nY a:=by
 have h:nY a=nY (a.take i)+nY (a.drop i):=by unfold nY;rw[← OM,← Jp,List.take_append_drop]
 omega
def w0A:Way:=⟨0,false,false,false,false⟩
def d3A:CallD:=⟨3,⟨#[112,32,61,32,38,97,10,113,32,61,32,112]⟩,[],w0A,[]⟩
def d4A:CallD:=⟨4,⟨#[97,58,10,112,58,32,97,10]⟩,[],w0A,[]⟩
def d1A:CallD:=⟨1,⟨#[112,32,61,32,42,113]⟩,[],w0A,[]⟩
theorem Cy(k:Int)(s:ByteArray)(hs:s.size≤IU)(w:vF):CallAt ⟨k,s,[],w0A,[]⟩ (.slice none 0 0) (.slice none 0 0) w where
 size:=hs
 facts:=⟨none,0,rfl,gO _,(fun _=>rfl),fun h=>absurd rfl h⟩
 fits:=by intro f hf;cases hf
 cap:=IM _
 len:=IM _
 rows:=by refine⟨none,0,rfl,?_⟩;simp
 fitsR:=by intro f hf;cases hf
 text:=by show(aJ []).length≤_;decide
 rlen:=IM _
 rto:=by intro f hf;cases hf
theorem F9[DP](ao:Option Addr)(cap:Nat)(a:List (CallD × sA × sA))(w:vF)(q:Int)(Z:w.cell? ⟨1,0,none⟩=some (.int .i64 q))(h:1<w.heap.size)(hT:bN w)(t:0<w.heap.size)
  (a9:a.length≤1100000) (aa:nY a≤1100000) (u:a≠[]→∃b D,ao=some ⟨b,D,none⟩∧b<w.heap.size∧C6 b D a w) :
  I5 hE 10 #[.slice ao a.length cap] w fun e w'=>e=.returned (.bool true)∧Below w.heap.size w w':=by
 have HA:=aA u;clear u;have gk:=aD w (.cells #[.slice none 0 0,.slice none 0 0,.slice none 0 0] 75);have E:Below w.heap.size w (w.alloc (.cells #[.slice none 0 0,.slice none 0 0,.slice none 0 0] 75)):=(Below.refl _ _).alloc (gO _) _;have x:=aA (fun(W:vF) (d:Below w.heap.size w W)=>And.intro ((d.cell (p:=⟨1,0,none⟩) h).trans Z) (hT.kb (Kb.gi d []) (by simp)));clear Z hT;go_enter Tryz.func10,Tryz.ntmps10
 go_wp2_with fail
 generalize w.alloc (.cells #[.slice none 0 0,.slice none 0 0,.slice none 0 0] 75)=w0 at gk E ⊢;have g:I3 (BkA w.heap.size w.heap.size 0 0 w0):=aA (BkA.start (gO _) gk);go_loopw [4] (fun G wr=>∃i:Nat,G=.int .i64 i∧i≤a.length∧I3 (BkA w.heap.size w.heap.size i (nY (a.take i)) wr)∧Below w.heap.size w wr) (fun G _=>a.length-(intOf G).toNat)
 case atStart=>exact⟨0,rfl,IM _,g,E⟩
 case round=>
  clear g E gk;obtain⟨i,rfl,hi,g,c⟩:=hrel;by_cases y:i<a.length
  ·obtain⟨⟨a0,fv,rv⟩,hd⟩:∃a7,a[i]?=some a7:=⟨_,hZ y⟩;have u:a≠[]:=by intro e;rw[e]at y;simp at y
   obtain⟨b,D,rfl,d,a1⟩:=HA.out u;obtain⟨a2,I,J,K,L,M,N,O,P,Q⟩:=a1 i a0 fv rv hd;replace I:=(c.cell (p:=⟨b,_,none⟩) d).trans I;replace J:=(c.cell (p:=⟨b,_,none⟩) d).trans J;replace K:=(c.cell (p:=⟨b,_,none⟩) d).trans K;replace L:=(c.cell (p:=⟨b,_,none⟩) d).trans L;replace M:=(c.cell (p:=⟨b,_,none⟩) d).trans M;replace N:=(c.cell (p:=⟨b,_,none⟩) d).trans N;replace O:=(c.cell (p:=⟨b,_,none⟩) d).trans O;replace P:=(c.cell (p:=⟨b,_,none⟩) d).trans P;replace Q:=(c.cell (p:=⟨b,_,none⟩) d).trans Q;have a8:=yU a i;have ab:=yU a (i+1);have a3:=Eh hd;obtain⟨j,k⟩:=x.out wr c;have f:=oO a0 fv rv w.heap.size w.heap.size i (nY (a.take i)) wr q (a2.below c) g.out (by omega) (by omega) j h k t;rw[← a3]at f;unfold iW at f;clear a1 a2 hd j k a3;go_wp2_with fail
   refine f.mono ?_
   rintro e z ⟨rfl,l,m⟩;have n:=vH l (by omega) (by omega);clear f I J K L M N O P Q g;go_wp2_with fail
   refine n.mono ?_
   rintro e o ⟨rfl,r,s⟩;have HN:=aA r;have S:=(c.trans m);have U:Below w.heap.size w o:=S.trans (s.mono S.size);clear n l r m s S;go_wp2;go_roundw
   case rel=>exact⟨i+1,by go_num,y,HN,U⟩
   case measure=>simp[intOf];omega
  ·obtain rfl:i=a.length:=by omega
   have a8:=yU a a.length;obtain⟨j,k⟩:=x.out wr c;have f:=oO d3A (.slice none 0 0) (.slice none 0 0) w.heap.size w.heap.size a.length (nY (a.take a.length)) wr q (Cy 3 _ (by decide) wr) g.out (by omega) (by omega) j h k t;unfold iW d3A w0A at f;simp only[J1,NH]at f;go_wp2_with fail
   refine f.mono ?_
   rintro e z ⟨rfl,l,m⟩;have V:=c.trans m;obtain⟨g3,g4⟩:=x.out z V;have A:=oO d4A (.slice none 0 0) (.slice none 0 0) w.heap.size w.heap.size _ _ z q (Cy 4 _ (by decide) z) l (by omega) (by omega) g3 h g4 t;unfold iW d4A w0A at A;simp only[J1,NH]at A;clear f g j k;go_wp2_with fail
   refine A.mono ?_
   rintro e o ⟨rfl,r,s⟩;have X:=V.trans s;obtain⟨g5,g6⟩:=x.out o X;have C:=oO d1A (.slice none 0 0) (.slice none 0 0) w.heap.size w.heap.size _ _ o q (Cy 1 _ (by decide) o) r (by omega) (by omega) g5 h g6 t;unfold iW d1A w0A at C;simp only[J1,NH]at C;clear A l g3 g4;go_wp2_with fail
   refine C.mono ?_
   rintro e w4 ⟨rfl,a4,a5⟩;have Y:=X.trans a5;have n:=vH a4 (by omega) (by omega);clear C r g5 g6 a4;go_wp2_with fail
   refine n.mono ?_
   rintro e w5 ⟨rfl,_,a6⟩;have U:Below w.heap.size w w5:=Y.trans (a6.mono Y.size);clear n a6 Y X V c m s a5;go_wp2;go_ret
   exact⟨rfl,U⟩
end
section
open Go.ChangeShapes Go.WideShapes Go.ChangeAt Go.RowKit Go.Deep
theorem oP:hE.cellsOf 9=1:=by kernel_rfl
theorem mV{α:Type}{n:Nat}{p:Nat→α→Prop}(h:∀i,i<n→∃x,p i x):∃l:List α,l.length=n∧∀i x,l[i]?=some x→p i x:=by
 induction n with
 |zero=>exact⟨[],rfl,fun i x b=>by simp at b⟩
 |succ n c=>
  obtain⟨l,d,e⟩:=c (fun i f=>h i (by omega));obtain⟨x,b⟩:=h n (by omega);refine⟨l++[x],by simp[d],fun i y a=>?_⟩;rw[List.getElem?_append]at a;split at a
  ·exact e i y a
  ·rename_i f;have g:i-l.length=0:=by
    have:=bV a;simp at this;omega
   rw[g]at a;simp at a;have:i=n:=by omega
   subst this;exact a ▸ b
section
variable {H:Type} {enc:TypeId × Value→H} {w:World} {held:Bool}
theorem rK{a:Addr}{v:sA}(h:w.cell? a=some v):a.spot=none∧a.block<w.heap.size:=by
 refine⟨Oj h,?_⟩;unfold World.cell? at h;cases b:w.heap[a.block]? with
 |none=>rw[b]at h;cases h
 |some o=>exact aB b
theorem Ei(ss:List ByteArray):Jd (H:=H) (ss.map fun s=>.lit (.string s.data.toList))=bB ss:=by
 induction ss with
 |nil=>rfl
 |cons s r a=>have:s.data.toList.length=s.size:=IR;simp only[JX,Jd,Jb,a,bB,this];omega
theorem Cz{r:Nat}{l:List sA}{x:KV H × List KO}(h:JC enc hE w 0 (fun _=>true) held r 44 l=some x) :
  ∃tv ss,l=[tv]∧cY tv ss w∧rU ss∧ss.length≤IU∧bB ss+1≤Jb x.1:=by
 rcases open_strs I7 Kj oP h with⟨rfl,rfl⟩|⟨a,c,D,m,f,rfl,_,t,E,o,rfl,j⟩
 ·exact⟨_,[],rfl,⟨none,0,rfl,gO _,(fun _=>rfl),fun h=>absurd rfl h⟩,(fun s k=>by simp at k),IM _,gO _⟩
 ·simp only[if_true]at o;subst o;have g:((IQ c).map f).length=c:=by simp
  refine⟨_,(IQ c).map f,rfl,⟨some a,m,by rw[g],by rw[g];exact t,(fun h=>by cases h),fun u=>?_⟩,?_,by rw[g];omega,?_⟩
  ·have G:0<c:=by
    cases c with
    |zero=>exact absurd rfl u
    |succ n=>omega
   have y:=(j 0 (by omega)).1;obtain⟨b,z,A⟩:=a;have p:=rK y;have C:A=none:=by simpa[Lu]using p.1
   subst C;refine⟨b,z,rfl,by simpa[Lu]using p.2,?_⟩;intro i s d;have q:=bV d;rw[g]at q;rw[Jx,La q]at d;simp at d;have:=(j i (by omega)).1;rw[Kl]at this;rw[this,d]
  ·intro s k;obtain⟨i,d,rfl⟩:=List.mem_map.1 k;exact(j i (by have:=Lt.1 d;omega)).2
  ·have e:((IQ c).map fun i=>DataW.lit (H:=H) (.string (f i).data.toList))=((IQ c).map f).map fun s=>.lit (.string s.data.toList):=by rw[List.map_map];rfl
   simp only[Jb];rw[e,Ei];omega
end
end
section
open Go.ChangeShapes Go.WideShapes Go.ChangeAt Go.RowKit Go.Deep Go.ChangeMaps
theorem IC:ownKnob hE.godebug=none:=by kernel_rfl
def ID:Obj→Obj
 | .cells _ t Ok=>.cells (Go.Pinned.utf8FirstZ.map fun(n:Nat)=>Mj .u8 n).toArray t Ok
 |o=>o
def IE:Obj→Obj
 | .cells _ t Ok=>.cells (([128,191,160,191,128,159,144,191,128,143]++A3 22 0).map fun(n:Nat)=>Mj .u8 n).toArray t Ok
 |o=>o
def IF:Obj→Obj
 | .cells _ t Ok=>.cells (zH.map fun(n:Nat)=>Mj .u8 n).toArray t Ok
 |o=>o
theorem AL(W:vF)(a:W.ShapedOpen hE):∃m,W.cell? ⟨1,0,none⟩=some (.int .i64 m):=
 Go.Proofs.cell_of_shapedOpen_int (zero:=#[.int .i64 0]) (t:=3) a (of_decide_eq_true (by kernel_rfl)) (by kernel_rfl) rfl (by kernel_rfl) (by kernel_rfl) Ou
theorem AM {W : vF} {rest : List (String × KV Unit)} (h : laidMet hE (("math/bits.deBruijn64tab", Rows.laid_math_bits_deBruijn64tab) :: rest) W) : bN W ∧ 0 < W.heap.size := by
 have c : Lib.TabIs hE W "math/bits.deBruijn64tab" .u8 (zH.map fun (n : Nat) => (n : Int)) := Lib.tabIs_of_head (g := 0) (t := 219) (e := 5) (n := 64) (by kernel_rfl) (by kernel_rfl) (by kernel_rfl) (by kernel_rfl) (by kernel_rfl) (by kernel_rfl) h
 have a:∀i,i<64→W.cell? ⟨0,i,none⟩=some (.int .u8 ((zH.map fun(n:Nat)=>(n:Int)).getD i 0)):=fun i d=>c.cell (by kernel_rfl) i d
 refine⟨fun j x b=>?_,World.block_lt_of_cell? _ _ (a 0 (by decide))⟩;have f:j<64:=(List.getElem?_eq_some_iff.1 b).1;rw[a j f,List.getD_eq_getElem?_getD,Jx,b];rfl
theorem AN:hE.cellsOf 24=5:=by kernel_rfl
theorem Ga:hE.cellsOf 22=1:=by kernel_rfl
theorem Ej:hE.cellsOf 4=1:=by kernel_rfl
section
variable {H:Type} {enc:TypeId × Value→H} {w:World} {base:Nat} {sp:Nat→Bool} {held:Bool}
end
end
section
open Go.ChangeShapes Go.WideShapes Go.ChangeAt Go.RowKit Go.Deep
theorem xI:hE.cellsOf 48=3:=by kernel_rfl
theorem Ek:hE.cellsOf 46=1:=by kernel_rfl
theorem AO:hE.cellsOf 51=2:=by kernel_rfl
theorem El:hE.cellsOf 44=1:=by kernel_rfl
theorem CA:hE.cellsOf 36=1:=by kernel_rfl
theorem Em:hE.cellsOf 40=1:=by kernel_rfl
theorem xJ:hE.cellsOf 78=9:=by kernel_rfl
section
variable {H:Type} {enc:TypeId × Value→H} {w:World} {spare:Nat→Bool} {held:Bool}
theorem En{o:Nat}{d:List sA}{x:KV H × List KO}(h:JC enc hE w 0 spare held o 48 d=some x) :
  ∃k p q,d=[.int .i64 k,.string p,.string q]∧p.size≤IU∧q.size≤IU:=by
 obtain⟨t,u,y,n,_,e,f,g,i⟩:=trod_struct3 Tryz.underlying48 h;rw[xI]at e;simp only[Ek,oP]at f g i;obtain⟨k,j,_,_⟩:=M0 Tryz.underlying46 f;obtain⟨p,l,_,r⟩:=Lk Kj g;obtain⟨q,m,_,s⟩:=Lk Kj i;match d,e with
 | [a,b,c],_=>simp at j l m;subst j l m;exact⟨k,p,q,rfl,r,s⟩
theorem CB{u:Nat}{g:List sA}{x:KV H × List KO}(h:JC enc hE w 0 (fun _=>true) held u 36 g=some x) :
  (g=[.slice none 0 0]∧x=(.nil,[])) ∨
  ∃(a:Addr) (len cap:Nat) (D:Nat→KV H) (ps:List KO) (fs:List Fct),g=[.slice (some a) len cap]∧len≤cap∧cap≤IU∧x=(.slice ((IQ len).map D) ((IQ (cap-len)).map fun j=>D (len+j)),ps) ∧
   fs.length=len∧qA fs∧(fs≠[]→∃b e,a=⟨b,e,none⟩∧b<w.heap.size∧fG b e fs w):=by
 rcases open_slice Tryz.underlying36 h with y|⟨a,len,cap,m,n,D,Pl,z,_,A,C,o,E,r⟩
 ·exact Or.inl y
 ·right;simp only[if_true]at o;subst o;rw[xI]at r;obtain⟨fs,G,l⟩:=mV (n:=len) (p:=fun i (f:Fct)=>(w.cells? 0 (a.add (i*3)) 3=some [.int .i64 f.k,.string f.p,.string f.q])∧f.p.size≤IU∧f.q.size≤IU) (fun i c=>by
   obtain⟨a0,I,J⟩:=r i (by omega);obtain⟨k,p,q,rfl,K,L⟩:=En J;exact⟨⟨k,p,q⟩,I,K,L⟩)
  refine⟨a,len,m,D,_,fs,z,A,C,E,G,?_,?_⟩
  ·intro f M;obtain⟨i,c⟩:=J6 M;exact(l i f c).2
  ·intro N;have O:0<fs.length:=by
    cases fs with
    |nil=>exact absurd rfl N
    |cons f a1=>simp
   have s:∀i k p q,fs[i]?=some ⟨k,p,q⟩→∀j,j<3→w.cell? ((a.add (i*3)).add j)=[Mj .i64 k,.string p,.string q][j]?:=by intro i k p q c j P;obtain⟨_,_,d⟩:=KP (l i _ c).1;exact d j P
   obtain⟨⟨Q,S,U⟩,t⟩:∃f,fs[0]?=some f:=⟨_,hZ O⟩;have V:=s 0 Q S U t 0 (by omega);obtain⟨b,e,X⟩:=a;have Y:X=none:=by simpa[Lu]using Oj V
   subst Y;have Z:b<w.heap.size:=by have:=World.cells?_block (l 0 _ t).1 (by omega);simpa[Lu]using this
   refine⟨b,e,rfl,Z,fun i k p q c=>?_⟩;have d:=s i k p q c;simp only[Kl]at d;exact⟨d 0 (by omega),d 1 (by omega),d 2 (by omega)⟩
theorem Gb{k:Nat}{d:List sA}{x:KV H × List KO}(h:JC enc hE w 0 (fun _=>true) held k 51 d=some x) :
  ∃c tv ss,d=[.string c,tv]∧c.size≤IU∧cY tv ss w∧rU ss∧ss.length≤IU∧c.size+bB ss+2≤Jb x.1:=by
 obtain⟨r,s,n,rfl,e,f,g⟩:=trod_struct2 Tryz.underlying51 h;rw[AO]at e;simp only[oP,El]at f g;obtain⟨c,i,l,m⟩:=Lk Kj f;obtain⟨tv,ss,j,o,p,q,t⟩:=Cz g;match d,e with
 | [a,b],_=>simp at i j;subst i j;refine⟨c,b,ss,rfl,m,o,p,q,?_⟩;have:c.data.toList.length=c.size:=IR;simp only[Jb,Jd,l,this];omega
theorem Eo{t:Nat}{g:List sA}{x:KV H × List KO}(h:JC enc hE w 0 (fun _=>true) held t 40 g=some x) :
  (g=[.slice none 0 0]∧x=(.nil,[])) ∨
  ∃(a:Addr) (len cap:Nat) (D:Nat→KV H) (sp:List (KV H)) (ps:List KO) (rs:List RowD),g=[.slice (some a) len cap]∧x=(.slice ((IQ len).map D) sp,ps)∧rs.length=len ∧
   dP (.slice (some a) len cap) rs w∧fitsR rs∧∀i r,rs[i]?=some r→r.name.size+bB r.to+2≤Jb (D i):=by
 rcases open_slice KZ h with u|⟨a,len,cap,m,n,D,Pl,y,_,z,hm,j,A,k⟩
 ·exact Or.inl u
 ·right;simp only[if_true]at j;subst j;rw[AO]at k;obtain⟨rs,C,e⟩:=mV (n:=len) (p:=fun i (r:RowD)=>(∃c,w.cells? 0 (a.add (i*2)) 2=some [.string r.name,c]∧cY c r.to w)∧(r.name.size≤IU∧r.to.length≤IU∧rU r.to)∧r.name.size+bB r.to+2≤Jb (D i)) (fun i d=>by
   obtain⟨a3,E,G⟩:=k i (by omega);obtain⟨l,c,I,rfl,J,K,L,M,N⟩:=Gb G;exact⟨⟨l,I⟩,⟨c,E,K⟩,⟨J,M,L⟩,N⟩)
  subst C;refine⟨a,rs.length,m,D,_,_,rs,y,A,rfl,⟨some a,m,rfl,z,(fun h=>by cases h),fun O=>?_⟩,?_,fun i r d=>(e i r d).2.2⟩
  ·have P:0<rs.length:=by
    cases rs with
    |nil=>exact absurd rfl O
    |cons f r=>simp
   obtain⟨Q,S⟩:∃f,rs[0]?=some f:=⟨_,hZ P⟩;obtain⟨a4,U,_⟩:=(e 0 Q S).1;obtain⟨_,_,V⟩:=KP U;have X:=V 0 (by omega);obtain⟨b,Y,Z⟩:=a;have o:=rK X;have a0:Z=none:=by simpa[Lu]using o.1
   subst a0;refine⟨b,Y,rfl,by simpa[Lu]using o.2,?_⟩;intro i l tt d;obtain⟨c,hc,a1⟩:=(e i _ d).1;obtain⟨_,_,p⟩:=KP hc;have q:=p 0 (by omega);have s:=p 1 (by omega);simp only[Kl]at q s;exact⟨q,c,s,a1⟩
  ·intro r hr;obtain⟨i,d⟩:=J6 hr;exact(e i r d).2.1
end
theorem AQ{H:Type}(d:KV H):1≤Jb d:=by unfold Jb;split<;>omega
theorem AR{H:Type}(a:List (KV H)):a.length≤Jd a:=by
 induction a with
 |nil=>simp[Jd]
 |cons d r b=>have:=AQ d;simp only[Jn,Jd];omega
theorem Ep{H:Type}(rs:List RowD)(c:List (KV H))(g:c.length=rs.length)(h:∀(i:Nat) (r:RowD) (d:KV H),rs[i]?=some r→c[i]?=some d→r.name.size+bB r.to+2≤Jb d) :
  (aJ rs).length≤Jd c∧rs.length≤Jd c∧∀r∈rs,r.to.length≤Jd c:=by
 induction rs generalizing c with
 |nil=>simp[aJ]
 |cons r s j=>
  cases c with
  |nil=>simp at g
  |cons d c=>
   have n:=h 0 r d rfl rfl;obtain⟨o,p,k⟩:=j c (by simpa using g) (fun i f m a b=>h (i+1) f m (by simpa using a) (by simpa using b));have q:r.to.length≤bB r.to:=by
    generalize r.to=l;induction l with
    |nil=>simp
    |cons x t u=>simp only[Jn,bB];omega
   refine⟨?_,?_,?_⟩
   ·simp only[aJ,A4,fK,Jd];omega
   ·simp only[Jn,Jd];omega
   ·intro f e;rw[List.mem_cons]at e;simp only[Jd];rcases e with rfl|e
    ·omega
    ·have:=k f e;omega
section
variable {H:Type} {enc:TypeId × Value→H} {w:World} {held:Bool}
theorem Er:hE.cellsOf 3=1:=by kernel_rfl
theorem Es{z:Nat}{i:List sA}{x:KV H × List KO}(h:JC enc hE w 0 (fun _=>true) held z 24 i=some x) :
  ∃c:Way,i=[.int .i64 c.order,.bool c.cycles,.bool c.collapse,.bool c.subst,.bool c.deltas]:=by
 obtain⟨A,n,_,O,j,C,a⟩:=Oc Tryz.underlying24 h;rw[AN]at j;match i,j with
 | [b,d,e,f,g],_=>
  match A,C with
  | [D,E,G,I,J],_=>
   have k:JC enc hE w 0 (fun _=>true) held n 22 (([b,d,e,f,g].drop 0).take (hE.cellsOf 22))=some D:=a 0 _ rfl;have l:JC enc hE w 0 (fun _=>true) held n 4 (([b,d,e,f,g].drop 1).take (hE.cellsOf 4))=some E:=a 1 _ rfl;have m:JC enc hE w 0 (fun _=>true) held n 4 (([b,d,e,f,g].drop 2).take (hE.cellsOf 4))=some G:=a 2 _ rfl;have p:JC enc hE w 0 (fun _=>true) held n 4 (([b,d,e,f,g].drop 3).take (hE.cellsOf 4))=some I:=a 3 _ rfl;have q:JC enc hE w 0 (fun _=>true) held n 4 (([b,d,e,f,g].drop 4).take (hE.cellsOf 4))=some J:=a 4 _ rfl;rw[Ga]at k;rw[Ej]at l m p q;obtain⟨o,r,_,_⟩:=M0 Tryz.underlying22 k;obtain⟨K,s,_⟩:=LG Lv l;obtain⟨L,t,_⟩:=LG Lv m
   obtain⟨M,u,_⟩:=LG Lv p;obtain⟨N,y,_⟩:=LG Lv q;simp at r s t u y;subst r s t u y;exact⟨⟨o,K,L,M,N⟩,rfl⟩
theorem Gc{g:Nat}{d:List sA}{x:KV H × List KO}(h:JC enc hE w 0 (fun _=>true) held g 36 d=some x) :
  ∃c fs,d=[c]∧cV c fs w∧qA fs∧capOf c≤IU∧fs.length≤Jb x.1:=by
 rcases CB h with⟨e,_⟩|⟨a,u,i,D,y,fs,e,j,k,l,m,n,o⟩
 ·exact⟨.slice none 0 0,[],e,⟨none,0,rfl,gO _,(fun _=>rfl),fun h=>absurd rfl h⟩,(by intro f p;cases p),IM _,IM _⟩
 ·subst m;refine⟨_,fs,e,⟨some a,i,rfl,j,(fun h=>by cases h),fun q=>?_⟩,n,k,?_⟩
  ·obtain⟨b,r,rfl,s,t⟩:=o q;exact⟨b,r,rfl,s,t⟩
  ·rw[l];have:=AR ((IQ fs.length).map D);simp only[JO,Ol]at this;simp only[Jb];omega
theorem GS{k:Nat}{c:List sA}{x:KV H × List KO}(h:JC enc hE w 0 (fun _=>true) held k 40 c=some x) :
  ∃g rs,c=[g]∧dP g rs w∧fitsR rs∧(aJ rs).length≤Jb x.1∧rs.length≤Jb x.1∧∀r∈rs,r.to.length≤Jb x.1:=by
 rcases Eo h with⟨e,_⟩|⟨a,t,u,D,sp,y,rs,e,l,m,hr,n,o⟩
 ·exact⟨.slice none 0 0,[],e,⟨none,0,rfl,gO _,(fun _=>rfl),fun h=>absurd rfl h⟩,(by intro f b;cases b),IM _,IM _,(by intro f b;cases b)⟩
 ·subst m;obtain⟨z,A,p⟩:=Ep rs ((IQ rs.length).map D) (by simp) (fun i r d j hd=>by
   have q:=aK j;have:=o i r j;simp[Jx,La q]at hd;rw[← hd];exact this)
  have s:Jd ((IQ rs.length).map D)≤Jb x.1:=by rw[l];simp only[Jb];omega
  exact⟨_,rs,e,hr,n,by omega,by omega,fun r h=>IH (p r h) s⟩
theorem Et{L:Nat}{o:List sA}{x:KV H × List KO}(h:JC enc hE w 0 (fun _=>true) held L 78 o=some x)(r:Jb x.1≤1048576) :
  ∃d p q,o=[.int .i64 d.k,.string d.s,p,.int .i64 d.c.order,.bool d.c.cycles,.bool d.c.collapse,.bool d.c.subst,.bool d.c.deltas,q]∧CallAt d p q w∧d.ys.length+1≤Jb x.1:=by
 obtain⟨M,n,hl,N,t,O,a⟩:=Oc Tryz.underlying78 h;rw[xJ]at t;match o,t with
 | [b,c,e,f,g,i,j,l,m],_=>
  match M,O with
  | [u,P,Q,S,U],_=>
   have y:JC enc hE w 0 (fun _=>true) held n 3 (([b,c,e,f,g,i,j,l,m].drop 0).take (hE.cellsOf 3))=some u:=a 0 _ rfl;have z:JC enc hE w 0 (fun _=>true) held n 9 (([b,c,e,f,g,i,j,l,m].drop 1).take (hE.cellsOf 9))=some P:=a 1 _ rfl;have A:JC enc hE w 0 (fun _=>true) held n 36 (([b,c,e,f,g,i,j,l,m].drop 2).take (hE.cellsOf 36))=some Q:=a 2 _ rfl;have C:JC enc hE w 0 (fun _=>true) held n 24 (([b,c,e,f,g,i,j,l,m].drop 3).take (hE.cellsOf 24))=some S:=a 3 _ rfl;have D:JC enc hE w 0 (fun _=>true) held n 40 (([b,c,e,f,g,i,j,l,m].drop 8).take (hE.cellsOf 40))=some U:=a 4 _ rfl;rw[Er]at y;rw[oP]at z;rw[CA]at A;rw[AN]at C;rw[Em]at D;obtain⟨k,E,_,_⟩:=M0 Ou y
   obtain⟨s,G,_,V⟩:=Lk Kj z;obtain⟨p,fs,I,X,Y,Z,h4⟩:=Gc A;obtain⟨a0,J⟩:=Es C;obtain⟨q,rs,K,r1,r2,r3,r4,r5⟩:=GS D;simp at E G I J K;obtain⟨q3,q4,q5,q6,q7⟩:=J;subst E G I q3 q4 q5 q6 q7 K;rw[N]at r ⊢;simp only[JX,List.map_nil,Jb,Jd]at r ⊢;have z0:=AQ u.1;refine⟨⟨k,s,fs,a0,rs⟩,_,_,rfl,⟨V,X,Y,Z,?_,r1,r2,?_,?_,fun a1 hr=>?_⟩,?_⟩
   ·show fs.length≤_;omega
   ·show(aJ rs).length≤_;omega
   ·show rs.length≤_;omega
   ·have:=r5 a1 hr;omega
   ·show rs.length+1≤_;omega
end
end
section
open Go.ChangeShapes Go.WideShapes Go.ChangeAt Go.RowKit Go.Deep
theorem Gd{H:Type}{a:List (KV H)}{d:KV H}(h:d∈a):Jb d≤Jd a:=by
 induction a with
 |nil=>cases h
 |cons e r b=>
  simp only[Jd];rcases List.mem_cons.1 h with rfl|h
  ·omega
  ·have:=b h;omega
theorem Eu{H:Type}(f:List (CallD × sA × sA))(e:List (KV H))(g:e.length=f.length)(h:∀(i:Nat) (c:CallD × sA × sA) (d:KV H),f[i]?=some c→e[i]?=some d→c.1.ys.length+1≤Jb d) :
  nY f≤Jd e:=by
 induction f generalizing e with
 |nil=>simp[nY]
 |cons r s j=>
  cases e with
  |nil=>simp at g
  |cons d e=>have n:=h 0 r d rfl rfl;have k:=j e (by simpa using g) (fun i l m a b=>h (i+1) l m (by simpa using a) (by simpa using b));unfold nY at k ⊢;simp only[JX,List.sum_cons,Jd];omega
section
variable {H:Type} {enc:TypeId × Value→H} {w:World} {held:Bool}
theorem CC{N:Nat}{p:List sA}{x:KV H × List KO}(h:JC enc hE w 0 (fun _=>true) held N 70 p=some x)(q:Jb x.1≤1048576) :
  ∃ao cap e,p=[.slice ao e.length cap]∧e.length≤1100000∧nY e≤1100000∧(e≠[]→∃b k,ao=some ⟨b,k,none⟩∧b<w.heap.size∧C6 b k e w):=by
 rcases open_slice Tryz.underlying70 h with⟨O,_⟩|⟨a,r,cap,m,n,D,Pl,P,_,hl,hm,s,Q,t⟩
 ·exact⟨none,0,[],O,IM _,IM _,fun h=>absurd rfl h⟩
 ·simp only[if_true]at s;subst s;rw[xJ]at t;have S:Jd ((IQ r).map D)≤1048576:=by
   rw[Q]at q;simp only[Jb]at q;omega
  obtain⟨e,U,l⟩:=mV (n:=r) (p:=fun i (c:CallD × sA × sA)=>w.cells? 0 (a.add (i*9)) 9=some [.int .i64 c.1.k,.string c.1.s,c.2.1,.int .i64 c.1.c.order,.bool c.1.c.cycles,.bool c.1.c.collapse,.bool c.1.c.subst,.bool c.1.c.deltas,c.2.2]∧CallAt c.1 c.2.1 c.2.2 w∧c.1.ys.length+1≤Jb (D i)) (fun i j=>by
   obtain⟨ab,V,X⟩:=t i (by omega);have Y:Jb (D i)≤1048576:=IH (Gd (List.mem_map_of_mem (Lt.2 j))) S;obtain⟨d,u,y,rfl,o,Z⟩:=Et X Y;exact⟨(d,u,y),V,o,Z⟩)
  subst U;have a0:=AR ((IQ e.length).map D);simp only[JO,Ol]at a0;have ad:=Eu e ((IQ e.length).map D) (by simp) (fun i c d j hd=>by
   have a1:=aK j;have:=(l i c j).2.2;simp[Jx,La a1]at hd;rw[← hd];exact this)
  refine⟨some a,m,e,P,by omega,by omega,fun a2=>?_⟩;have a3:0<e.length:=by
   cases e with
   |nil=>exact absurd rfl a2
   |cons f ae=>simp
  obtain⟨r0,a4⟩:∃f,e[0]?=some f:=⟨_,hZ a3⟩;obtain⟨_,_,a5⟩:=KP (l 0 r0 a4).1;have a6:=a5 0 (by omega);obtain⟨b,k,a7⟩:=a;have z:=rK a6;have a8:a7=none:=by simpa[Lu]using z.1
  subst a8;refine⟨b,k,rfl,by simpa[Lu]using z.2,?_⟩;intro i d u y j;obtain⟨o,a9,_⟩:=l i _ j;obtain⟨_,_,g⟩:=KP o;have A:=g 0 (by omega);have C:=g 1 (by omega);have E:=g 2 (by omega);have G:=g 3 (by omega);have I:=g 4 (by omega);have J:=g 5 (by omega);have K:=g 6 (by omega);have L:=g 7 (by omega);have M:=g 8 (by omega);simp only[Kl]at A C E G I J K L M;exact⟨a9,A,C,E,G,I,J,K,L,M⟩
end
end
end Go.Proofs.YtiamlbhkiehilaaGreatDoor
