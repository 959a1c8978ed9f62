import Derived.Test.YtiamlbhkiehilaaGreatDoorKa11
open ByteArray renaming size_extract→Jw
open Go renaming World→vF,Value→sA,run_convert_bytes_string→NW,wpList_append_own→Jg,cell_one_new→Kk
open Go.Proofs.Tryz renaming prog→hE,underlying116→Ku,underlying5→On,underlying9→Kj,results133→OB,underlying44→I7
open Go.Value renaming string→F2
open Go.World renaming ownsRow_nil→JW
open List renaming mem_append→IK,mem_singleton→A1
open Nat renaming le_refl→gO
namespace Go.Proofs.YtiamlbhkiehilaaGreatDoor
section
open Go.RowKit Go.Maps
theorem Hf:(hE.info? 5).map (fun i=>(i.zero,i.size,i.bytes))=some (some (.int .u8 0),1,1):=by kernel_rfl
theorem jZ{w:vF}{B:Nat}{e b:TypeId}{v v':sA}{n d:Nat}{xs f:List sA}(h:w.ownsRow B e 1 v n xs)(i:w.ownsRow B b 1 v' d f)(j:e≠b):v.ownBlock=none∨v.ownBlock≠v'.ownBlock:=by
 rcases h.2 with⟨rfl,_⟩|⟨g,o,p,rfl,_,c,_⟩
 ·exact .inl rfl
 ·refine .inr fun a=>?_
  rcases i.2 with⟨rfl,_⟩|⟨q,r,s,rfl,_,k,_⟩
  ·cases a
  ·simp only[Value.ownBlock,Option.some.injEq]at a;rw[a,k]at c;injection c with l;injection l with t m;exact j m.symm
def fU(l:List UInt8):List sA:=l.map fun c=>.int .u8 c.toNat
structure PcInv(w w':World)(s:ByteArray)(out:List ByteArray)(v5 v6:Value):Prop where
 own5:w'.ownsRow w.heap.size 5 1 v5 (aT out).length (fU (aT out))
 own6:w'.ownsRow w.heap.size 9 1 v6 (eX out).length ((eX out).map Value.string)
 word:∀x∈out,iY x
 blw:Below w.heap.size w w'
theorem Ds(l:List UInt8)(b:ByteArray):((l.map fun c=>(c.toNat:Int)).foldl (fun r n=>r.push (UInt8.ofNat n.toNat)) b)=⟨(b.data.toList++l).toArray⟩:=by
 induction l generalizing b with
 |nil=>simp
 |cons c r a=>rw[List.map_cons,List.foldl_cons,a];simp
theorem qI{w:vF}{B:Nat}{v:sA}{l:List UInt8}(h:w.ownsRow B 5 1 v l.length (fU l)):(convert 116 9 v).run hE w=.ok (.string ⟨l.toArray⟩) w:=by
 rcases h.2 with⟨rfl,b⟩|⟨g,i,k,rfl,_,d,_,_,_,e⟩
 ·rw[NW w _ _ 5 none 0 0 Ku On Kj];have:l=[]:=List.length_eq_zero_iff.1 b;subst this;rfl
 ·rw[NW w _ _ 5 _ _ _ Ku On Kj];have f:(loadCells ⟨g,0,none⟩ l.length).run hE w=.ok ((l.map fun c=>(c.toNat:Int)).map (Value.int .u8)).toArray w:=by
   have:=run_loadCells_list (P:=hE) (w:=w) ⟨g,0,none⟩ (fU l) (by
    intro j v a;rw[← e,List.getElem?_take]at a;rw[Addr.add_lit,Nat.zero_add,aC d];split at a
    ·simpa using a
    ·cases a)
   rw[show(fU l).length=l.length by simp[fU]]at this;rw[this];simp[fU]
  rw[run_bytesToString w _ _ _ _ f,Ds];rfl
def JL(s:ByteArray)(l i a:Nat)(b:List ByteArray):Prop:=
 (l=1∧i≤s.size∧b.length≤i∧aU s 0 []=aU s i b) ∨
 (l=2∧i<s.size∧b.length≤i+1∧aU s 0 []=aU s (i+1) b) ∨
 (l=3∧a≤i∧i<s.size∧b.length≤a∧gX (s.extract a (bX s (a+1)))=true∧aU s 0 []=aU s (bX s (a+1)) (b++[s.extract a (bX s (a+1))])∧bX s (a+1)=bX s (i+1)) ∨
 (l=0∧b.length≤s.size∧aU s 0 []=some b)
set_option maxRecDepth 1000000 in
def JP(w:vF)(s:ByteArray)(l:Nat)(a:Act)(w':vF):Prop:=
 ∃(i b:Nat) (c:Int) (d:List ByteArray) (e f u9 u10 u11 u12 u13 u14 u15 u16 u17 u18 u19 u20 u21 u22 u23 u24 u25 u26 u27 u28 u29 u30 u31 u32 u33 u34 u35 u36 u37 u38 u39 u40 u41 u42 u43 u44 u45 u46 u47 u48 u49 u50 u51 u52 u53 u54 u55 u56 u57 u58 u59 u60 u61 u62 u63 u64 u65 u66 u67 u68 u69 u70 u71 u72:sA),a=⟨#[.string s,undef,.string ⟨#[]⟩,.slice none 0 0,.bool false,e,f,.int .i64 c,.int .i64 b,u9,u10,u11,u12,u13,u14,u15,u16,u17,u18,u19,u20,u21,u22,u23,u24,u25,u26,u27,u28,u29,u30,u31,u32,u33,u34,u35,u36,u37,u38,u39,u40,u41,u42,u43,u44,u45,u46,u47,u48,u49,u50,u51,u52,u53,u54,u55,u56,u57,u58,u59,u60,u61,u62,u63,u64,u65,u66,u67,u68,u69,u70,u71,u72,undef],[]⟩∧c=(i:Int)∧PcInv w w' s d e f∧JL s l i b d
def muP(s:ByteArray)(l:Nat)(a:Act)(_:vF):Nat:=if l=0 then 0 else 2*(s.size-(intOf (a.tmps.getD 7 undef)).toNat)+if l=1 then 1 else 0
def Iy(w w':vF)(s:ByteArray)(e:Ending):Prop:=
 (aU s 0 []=none∧e=.returned (.tuple #[.string ⟨#[]⟩,.slice none 0 0,.bool false])∧Below w.heap.size w w') ∨
 (∃v a,aU s 0 []=some a∧(∀x∈a,iY x)∧a.length≤s.size∧e=.returned (.tuple #[.string ⟨(aT a).toArray⟩,v,.bool true])∧w'.ownsRow w.heap.size 9 1 v (eX a).length ((eX a).map F2)∧Below w.heap.size w w')
set_option maxRecDepth 1000000 in
set_option maxHeartbeats 2000000 in
theorem Bs(s:ByteArray)(w:vF)(hs:s.size≤1000000) :
  Calls hE 133 #[.string s] w fun e w'=>Iy w w' s e:=by
 obtain⟨i0,a9,aa,ab,ad⟩:=info_parts iJ;obtain⟨T,U,V,X,Y⟩:=info_parts Hf;go_enter Tryz.func133,Tryz.ntmps133
 go_wp2;refine mY (JP w s) (muP s) ?_ ?_
 ·rintro am an w' ⟨i,d,ai,a,L,h,u9,u10,u11,u12,u13,u14,u15,u16,u17,u18,u19,u20,u21,u22,u23,u24,u25,u26,u27,u28,u29,u30,u31,u32,u33,u34,u35,u36,u37,u38,u39,u40,u41,u42,u43,u44,u45,u46,u47,u48,u49,u50,u51,u52,u53,u54,u55,u56,u57,u58,u59,u60,u61,u62,u63,u64,u65,u66,u67,u68,u69,u70,u71,u72,rfl,rfl,b,hJ⟩;have Z:(aT a).length=a.length:=by simp[aT]
  have ao:(eX a).length≤a.length:=List.length_filter_le _ _;rcases hJ with⟨rfl,hi,E,k⟩|⟨rfl,hi,E,k⟩|⟨rfl,ap,hi,E,a0,k,ae⟩|⟨rfl,E,k⟩
  ·refine⟨_,rfl,?_⟩;by_cases l:i<s.size
   ·have af:((i:Int) == (s.size:Int))=false:=beq_false_of_ne (by omega);rcases rX (s[i].toNat:Int)with⟨F,m⟩|⟨F,o,m⟩|⟨F,o,g,m⟩|⟨F,o,g,M,m⟩|⟨F,o,g,M,m⟩
    ·have p:Hid (aU s 0 []=some a):=k.trans (zP l m);clear m;go_wp2_with fail
     go_step3
     show JP w s 0 _ _∧_;refine⟨⟨i,d,_,a,L,h,_,_,_,_,_,_,_,_,_,_,_,_,_,_,_,_,_,_,_,_,_,_,_,_,_,_,_,_,_,_,_,_,_,_,_,_,_,_,_,_,_,_,_,_,_,_,_,_,_,_,_,_,_,_,_,_,_,_,_,_,_,_,_,_,rfl,by omega,b,.inr (.inr (.inr ⟨rfl,by omega,p.out⟩))⟩,?_⟩;simp[muP]
    ·have p:Hid (aU s 0 []=aU s (i+1) a):=k.trans (zQ l m);clear m;rcases o with o|o
     all_goals
      go_wp2_with fail
      go_step3
      show JP w s 2 _ _∧_;refine⟨⟨i,d,_,a,L,h,_,_,_,_,_,_,_,_,_,_,_,_,_,_,_,_,_,_,_,_,_,_,_,_,_,_,_,_,_,_,_,_,_,_,_,_,_,_,_,_,_,_,_,_,_,_,_,_,_,_,_,_,_,_,_,_,_,_,_,_,_,_,_,_,rfl,by omega,b,.inr (.inl ⟨rfl,l,by omega,p.out⟩)⟩,?_⟩;simp[muP]
    ·have ag:=Do l g;have p:Hid (aU s 0 []=aU s (i+1) (a++[s.extract i (i+1)])):=k.trans (zR l m);have HW:=aA ag;clear m ag;obtain⟨O,P⟩:=not_or.1 o;have q0:((s[i].toNat:Int) == 35)=false:=beq_false_of_ne F;have q1:((s[i].toNat:Int) == 32)=false:=beq_false_of_ne O;have q2:((s[i].toNat:Int) == 9)=false:=beq_false_of_ne P;clear o;have q3:(((s[i].toNat:Int) == 61) || ((s[i].toNat:Int) == 38) || ((s[i].toNat:Int) == 42))=true:=by
      rcases g with g|g|g<;>simp[g]
     have ah:∀(c:vF) (f:sA),c.ownsRow w.heap.size 5 1 f ((aT a).length+1) (fU (aT a)++[.int .u8 s[i].toNat])→c.ownsRow w.heap.size 9 1 h (eX a).length ((eX a).map F2)→Below w.heap.size w c→PcInv w c s (a++[s.extract i (i+1)]) f h:=by
      intro c f y q hb;have e5:aT (a++[s.extract i (i+1)])=aT a++[s[i]]:=by simp[aT,HW.out.2.2]
      have e6:eX (a++[s.extract i (i+1)])=eX a:=by simp[eX,HW.out.2.1]
      refine⟨?_,by rw[e6];exact q,?_,hb⟩
      ·rw[e5];simpa[fU]using y
      ·intro a1 r;rcases IK.1 r with r|r
       ·exact b.word a1 r
       ·rw[A1.1 r];exact HW.out.1
     have aj:=aA ah;clear ah;rcases g with g|g|g
     all_goals
      rw[g]at aj;go_wp2_with (first|(at_builtin;refine Jg _ rfl _ _ 116 rfl w.heap.size 5 T (.int .u8 0) 1 1 Ku U V X Y rfl (by decide) _ _ _ rfl (b.own5.alloc _) ⟨w'.heap.size,0,none⟩ 1 1 [.int .u8 _] rfl rfl (Kk _ _ _) ?x2 ?x3 ?x4 ?x5 ?_)|go_in)
      case x2=>first|rfl|(intro u z;rw[A1.1 z];rfl)
      case x3=>unfold maxLen;omega
      case x4=>omega
      case x5=>have:=b.blw.size;simp;omega
      intro f c t x _;have A:Below w.heap.size w c:=(b.blw.alloc b.blw.size _).grown x (by have:=b.blw.size;simp;omega) (fun j B=>(b.own5.lt j B).1);have q:c.ownsRow w.heap.size 9 1 h (eX a).length ((eX a).map F2):=(b.own6.alloc _).kept x (jZ b.own6 b.own5 (by decide));go_wp2_with fail
      go_step3
      show JP w s 2 _ _∧_;refine⟨⟨i,d,_,a++[s.extract i (i+1)],f,h,_,_,_,_,_,_,_,_,_,_,_,_,_,_,_,_,_,_,_,_,_,_,_,_,_,_,_,_,_,_,_,_,_,_,_,_,_,_,_,_,_,_,_,_,_,_,_,_,_,_,_,_,_,_,_,_,_,_,_,_,_,_,_,_,rfl,by omega,aj.out c f (by first|exact t|(rw[Z];exact t)) q A,.inr (.inl ⟨rfl,l,by simp;omega,p.out⟩)⟩,?_⟩;simp[muP]
    ·have p:Hid (aU s 0 []=aU s (bX s (i+1)) (a++[s.extract i (bX s (i+1))])):=k.trans (zS l m);have HM:Hid (gX (s.extract i (bX s (i+1)))=true):=Dp l M;clear m;have G:Hid (bC (s[i].toNat:Int)=true):=M;clear M;obtain⟨O,P⟩:=not_or.1 o;obtain⟨a2,H⟩:=not_or.1 g;obtain⟨a3,H⟩:=not_or.1 H;have q0:((s[i].toNat:Int) == 35)=false:=beq_false_of_ne F;have q1:((s[i].toNat:Int) == 32)=false:=beq_false_of_ne O;have q2:((s[i].toNat:Int) == 9)=false:=beq_false_of_ne P;have q3:((s[i].toNat:Int) == 61)=false:=beq_false_of_ne a2;have q4:((s[i].toNat:Int) == 38)=false:=beq_false_of_ne a3;have q5:((s[i].toNat:Int) == 42)=false:=beq_false_of_ne H;clear o g;go_wp2_with fail
     refine(gI _ _).mono ?_
     rintro e n ⟨rfl,rfl⟩;rw[G.out];go_wp2_with fail
     go_step3
     show JP w s 3 _ _∧_;refine⟨⟨i,i,_,a,L,h,_,_,_,_,_,_,_,_,_,_,_,_,_,_,_,_,_,_,_,_,_,_,_,_,_,_,_,_,_,_,_,_,_,_,_,_,_,_,_,_,_,_,_,_,_,_,_,_,_,_,_,_,_,_,_,_,_,_,_,_,_,_,_,_,rfl,by omega,b,.inr (.inr (.inl ⟨rfl,gO _,l,E,HM.out,p.out,rfl⟩))⟩,?_⟩;simp[muP]
    ·have p:Hid (aU s 0 []=none):=k.trans (zT l m);clear m;have G:Hid (bC (s[i].toNat:Int)=false):=M;clear M;obtain⟨O,P⟩:=not_or.1 o;obtain⟨a2,H⟩:=not_or.1 g;obtain⟨a3,H⟩:=not_or.1 H;have q0:((s[i].toNat:Int) == 35)=false:=beq_false_of_ne F;have q1:((s[i].toNat:Int) == 32)=false:=beq_false_of_ne O;have q2:((s[i].toNat:Int) == 9)=false:=beq_false_of_ne P;have q3:((s[i].toNat:Int) == 61)=false:=beq_false_of_ne a2;have q4:((s[i].toNat:Int) == 38)=false:=beq_false_of_ne a3;have q5:((s[i].toNat:Int) == 42)=false:=beq_false_of_ne H;clear o g;go_wp2_with fail
     refine(gI _ _).mono ?_
     rintro e n ⟨rfl,rfl⟩;rw[G.out];go_wp2_with fail
     simp only[gT];exact bodyPost_ret (v:=.tuple #[.string ⟨#[]⟩,.slice none 0 0,.bool false]) (by simp[results,OB,go_sem]) rfl (.inl ⟨p.out,rfl,b.blw⟩)
   ·have af:i=s.size:=by omega
    subst af;have p:Hid (aU s 0 []=some a):=k.trans (tY (gO _));go_wp2_with fail
    go_step3
    show JP w s 0 _ _∧_;refine⟨⟨s.size,d,_,a,L,h,_,_,_,_,_,_,_,_,_,_,_,_,_,_,_,_,_,_,_,_,_,_,_,_,_,_,_,_,_,_,_,_,_,_,_,_,_,_,_,_,_,_,_,_,_,_,_,_,_,_,_,_,_,_,_,_,_,_,_,_,_,_,_,_,rfl,by omega,b,.inr (.inr (.inr ⟨rfl,by omega,p.out⟩))⟩,?_⟩;simp[muP]
  ·refine⟨_,rfl,?_⟩;go_wp2_with fail
   go_step3
   show JP w s 1 _ _∧_;refine⟨⟨i+1,d,_,a,L,h,_,_,_,_,_,_,_,_,_,_,_,_,_,_,_,_,_,_,_,_,_,_,_,_,_,_,_,_,_,_,_,_,_,_,_,_,_,_,_,_,_,_,_,_,_,_,_,_,_,_,_,_,_,_,_,_,_,_,_,_,_,_,_,_,rfl,by omega,b,.inl ⟨rfl,hi,E,k⟩⟩,?_⟩;simp[muP,intOf];omega
  ·have a4:∀a5,a5=bX s (i+1)→i+1=a5→gX (s.extract d (i+1))=true∧aU s 0 []=aU s (i+1) (a++[s.extract d (i+1)]):=by
    intro a5 e1 e2;subst e2;rw[ae,← e1]at k a0;exact⟨a0,k⟩
   have ak:bX s (i+1)=i+1→∀(c:vF) (f:sA),c.ownsRow w.heap.size 5 1 f ((aT a).length+1) (fU (aT a)++[.int .u8 110])→c.ownsRow w.heap.size 9 1 h (eX a).length ((eX a).map F2)→Below w.heap.size w c →
     ∀(n:vF) (C:sA),n.ownsRow w.heap.size 5 1 f ((aT a).length+1) (fU (aT a)++[.int .u8 110])→n.ownsRow w.heap.size 9 1 C ((eX a).length+1) ((eX a).map F2++[.string (s.extract d (i+1))])→Below w.heap.size w n→PcInv w n s (a++[s.extract d (i+1)]) f C:=by
    intro he c f _ _ _ n C y q hb;obtain⟨hn,_⟩:=a4 _ rfl he.symm;have e5:aT (a++[s.extract d (i+1)])=aT a++[110]:=by
     have:lC (s.extract d (i+1))=110:=by unfold lC;rw[if_pos (show bP _=true from hn)]
     simp[aT,this]
    have e6:eX (a++[s.extract d (i+1)])=eX a++[s.extract d (i+1)]:=by simp[eX,hn]
    refine⟨?_,by rw[e6];simpa using q,?_,hb⟩
    ·rw[e5];simpa[fU]using y
    ·intro a1 r;rcases IK.1 r with r|r
     ·exact b.word a1 r
     ·rw[A1.1 r];exact .inl hn
   have HL:=aA ak;have HD:=aA a4;clear ak a4;refine⟨_,rfl,?_⟩;by_cases l:i+1<s.size
   ·cases N:dE (s[i+1].toNat:Int)
    ·have G:Hid (dE (s[i+1].toNat:Int)=false):=N;have I:Hid (bX s (i+1)=i+1):=sX l N;clear N;go_wp2_with fail
     refine(gJ _ _).mono ?_
     rintro e' wc ⟨rfl,rfl⟩;rw[G.out];go_wp2_with (first|(at_builtin;refine Jg _ rfl _ _ 116 rfl w.heap.size 5 T (.int .u8 0) 1 1 Ku U V X Y rfl (by decide) _ _ _ rfl (b.own5.alloc _) ⟨wc.heap.size,0,none⟩ 1 1 [.int .u8 110] rfl rfl (Kk _ _ _) ?x2 ?x3 ?x4 ?x5 ?_)|go_in)
     case x2=>first|rfl|(intro u z;rw[A1.1 z];rfl)
     case x3=>unfold maxLen;omega
     case x4=>omega
     case x5=>have:=b.blw.size;simp;omega
     intro f c t x _;have A:Below w.heap.size w c:=(b.blw.alloc b.blw.size _).grown x (by have:=b.blw.size;simp;omega) (fun j B=>(b.own5.lt j B).1);have q:c.ownsRow w.heap.size 9 1 h (eX a).length ((eX a).map F2):=(b.own6.alloc _).kept x (jZ b.own6 b.own5 (by decide));have y:c.ownsRow w.heap.size 5 1 f ((aT a).length+1) (fU (aT a)++[.int .u8 110]):=by first|exact t|(rw[Z];exact t)
     clear t x;go_wp2_with fail
     refine(lQ _ _ (by rw[Jw];omega)).mono ?_
     rintro e n ⟨rfl,J⟩;have D:Below w.heap.size w n:=A.trans (J.mono A.size);have Q:=aM y J;have K:=aM q J;go_wp2_with (first|(at_builtin;refine Jg _ rfl _ _ 44 rfl w.heap.size 9 i0 (.string ⟨#[]⟩) 1 16 I7 a9 aa ab ad rfl (by decide) _ _ _ rfl (K.alloc _) ⟨n.heap.size,0,none⟩ 1 1 [.string (s.extract d (i+1))] rfl rfl (Kk _ _ _) ?y2 ?y3 ?y4 ?y5 ?_)|go_in)
     case y2=>first|rfl|(intro u z;rw[A1.1 z];rfl)
     case y3=>unfold maxLen;omega
     case y4=>omega
     case y5=>have:=D.size;simp;omega
     intro C R a6 S _;have a7:Below w.heap.size w R:=(D.alloc D.size _).grown S (by have:=D.size;simp;omega) (fun j B=>(K.lt j B).1);have a8:=(Q.alloc _).kept S (jZ Q K (by decide));go_wp2_with fail
     go_step3
     show JP w s 1 _ _∧_;refine⟨⟨i+1,d,_,a++[s.extract d (i+1)],f,C,_,_,_,_,_,_,_,_,_,_,_,_,_,_,_,_,_,_,_,_,_,_,_,_,_,_,_,_,_,_,_,_,_,_,_,_,_,_,_,_,_,_,_,_,_,_,_,_,_,_,_,_,_,_,_,_,_,_,_,_,_,_,_,_,rfl,by omega,HL.out I.out c f y q A R C a8 a6 a7,.inl ⟨rfl,by omega,by simp;omega,(HD.out _ rfl I.out.symm).2⟩⟩,?_⟩;simp[muP,intOf];omega
    ·have G:Hid (dE (s[i+1].toNat:Int)=true):=N;have I:Hid (bX s (d+1)=bX s (i+1+1)):=ae.trans (qD l N);clear N;go_wp2_with fail
     refine(gJ _ _).mono ?_
     rintro e' wc ⟨rfl,rfl⟩;rw[G.out];go_wp2_with fail
     go_step3
     show JP w s 3 _ _∧_;refine⟨⟨i+1,d,_,a,L,h,_,_,_,_,_,_,_,_,_,_,_,_,_,_,_,_,_,_,_,_,_,_,_,_,_,_,_,_,_,_,_,_,_,_,_,_,_,_,_,_,_,_,_,_,_,_,_,_,_,_,_,_,_,_,_,_,_,_,_,_,_,_,_,_,rfl,by omega,b,.inr (.inr (.inl ⟨rfl,by omega,l,E,a0,k,I.out⟩))⟩,?_⟩;simp[muP,intOf];omega
   ·have I:Hid (bX s (i+1)=i+1):=qC (by omega);go_wp2_with (first|(at_builtin;refine Jg _ rfl _ _ 116 rfl w.heap.size 5 T (.int .u8 0) 1 1 Ku U V X Y rfl (by decide) _ _ _ rfl (b.own5.alloc _) ⟨w'.heap.size,0,none⟩ 1 1 [.int .u8 110] rfl rfl (Kk _ _ _) ?x2 ?x3 ?x4 ?x5 ?_)|go_in)
    case x2=>first|rfl|(intro u z;rw[A1.1 z];rfl)
    case x3=>unfold maxLen;omega
    case x4=>omega
    case x5=>have:=b.blw.size;simp;omega
    intro f c t x _;have A:Below w.heap.size w c:=(b.blw.alloc b.blw.size _).grown x (by have:=b.blw.size;simp;omega) (fun j B=>(b.own5.lt j B).1);have q:c.ownsRow w.heap.size 9 1 h (eX a).length ((eX a).map F2):=(b.own6.alloc _).kept x (jZ b.own6 b.own5 (by decide));have y:c.ownsRow w.heap.size 5 1 f ((aT a).length+1) (fU (aT a)++[.int .u8 110]):=by first|exact t|(rw[Z];exact t)
    clear t x;go_wp2_with fail
    refine(lQ _ _ (by rw[Jw];omega)).mono ?_
    rintro e n ⟨rfl,J⟩;have D:Below w.heap.size w n:=A.trans (J.mono A.size);have Q:=aM y J;have K:=aM q J;go_wp2_with (first|(at_builtin;refine Jg _ rfl _ _ 44 rfl w.heap.size 9 i0 (.string ⟨#[]⟩) 1 16 I7 a9 aa ab ad rfl (by decide) _ _ _ rfl (K.alloc _) ⟨n.heap.size,0,none⟩ 1 1 [.string (s.extract d (i+1))] rfl rfl (Kk _ _ _) ?y2 ?y3 ?y4 ?y5 ?_)|go_in)
    case y2=>first|rfl|(intro u z;rw[A1.1 z];rfl)
    case y3=>unfold maxLen;omega
    case y4=>omega
    case y5=>have:=D.size;simp;omega
    intro C R a6 S _;have a7:Below w.heap.size w R:=(D.alloc D.size _).grown S (by have:=D.size;simp;omega) (fun j B=>(K.lt j B).1);have a8:=(Q.alloc _).kept S (jZ Q K (by decide));go_wp2_with fail
    go_step3
    show JP w s 1 _ _∧_;refine⟨⟨i+1,d,_,a++[s.extract d (i+1)],f,C,_,_,_,_,_,_,_,_,_,_,_,_,_,_,_,_,_,_,_,_,_,_,_,_,_,_,_,_,_,_,_,_,_,_,_,_,_,_,_,_,_,_,_,_,_,_,_,_,_,_,_,_,_,_,_,_,_,_,_,_,_,_,_,_,rfl,by omega,HL.out I.out c f y q A R C a8 a6 a7,.inl ⟨rfl,by omega,by simp;omega,(HD.out _ rfl I.out.symm).2⟩⟩,?_⟩;simp[muP,intOf];omega
  ·refine⟨_,rfl,?_⟩;go_wp2_with fail
   rw[qI b.own5];simp only[Result.andThen];rw[Oper.upon_value];go_wp2_with fail
   simp only[gT];exact bodyPost_ret (v:=.tuple #[.string ⟨(aT a).toArray⟩,h,.bool true]) (by simp[results,OB,go_sem]) rfl (.inr ⟨h,a,k,b.word,E,rfl,b.own6,b.blw⟩)
 ·intro al;go_wp2_with fail
  go_step3
  rename_i aq hK;obtain⟨ar,hr,hw⟩:=al 1 _ w ⟨0,0,0,[],.slice none 0 0,.slice none 0 0,_,_,_,_,_,_,_,_,_,_,_,_,_,_,_,_,_,_,_,_,_,_,_,_,_,_,_,_,_,_,_,_,_,_,_,_,_,_,_,_,_,_,_,_,_,_,_,_,_,_,_,_,_,_,_,_,_,_,_,_,_,_,_,_,rfl,rfl,⟨JW _ _ _ _,JW _ _ _ _,by simp,Below.refl _ _⟩,.inl ⟨rfl,Nat.zero_le _,gO _,rfl⟩⟩;cases hr;exact hK _ _ hw
end
end Go.Proofs.YtiamlbhkiehilaaGreatDoor
