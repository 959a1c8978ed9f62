import Derived.Test.YtiamlbhkiehilaaGreatDoorKa13
import Derived.Test.YtiamlbhkiehilaaGreatDoorKa35
open Bool renaming eq_false_iff→Kw
open ByteArray renaming size_extract→Jw
open Go renaming World→vF
open Go.Code renaming wp_mono→Ns
open Go.Proofs.Tryz renaming results70→OU
open Go.RowKit renaming Hid→I3
open List renaming length_append→A4
open Nat renaming lt_of_lt_of_le→A2,le_refl→gO
namespace Go.Proofs.YtiamlbhkiehilaaGreatDoor
section
open Go.RowKit Go.Maps
structure CrInv(w w':World)(br:Nat)(nm:ByteArray)(out:List ByteArray)(tv:Value):Prop where
 lt:w.heap.size<br
 cell:w'.heap[br]?=some (.cells #[.string nm,tv] 51 (0,0))
 own:w'.ownsRow w.heap.size 9 1 tv out.length (out.map Value.string)
 slot:w'.heap[w.heap.size]?=some (.cells #[.string ⟨#[]⟩,.slice none 0 0] 51 (0,0))
 blw:Below w.heap.size w w'
def CL(s:ByteArray)(l i a:Nat)(b:ByteArray)(c:List ByteArray):Prop:=
 (l=1∧i≤s.size∧c.length≤i∧((b=noB∧i=0∧c=[])∨(0<b.size∧bW s=if bC (bE s i)=true then(pB s (bX s (i+1)) (c++[s.extract i (bX s (i+1))])).map (fun t=>⟨b,t⟩)else none))) ∨
 (l=2∧a≤i∧i<s.size∧c.length≤a∧bC (bE s a)=true∧bX s (a+1)=bX s (i+1)∧((b=noB∧a=0∧c=[])∨(0<b.size∧bW s=(pB s (bX s (a+1)) (c++[s.extract a (bX s (a+1))])).map (fun t=>⟨b,t⟩)))) ∨
 (l=3∧a<i∧i≤s.size∧c.length<i∧0<b.size∧bW s=(pB s i (c++[s.extract a i])).map (fun t=>⟨b,t⟩)) ∨
 (l=4∧i≤s.size∧c.length≤i∧0<b.size∧bW s=(pB s i c).map (fun t=>⟨b,t⟩)) ∨
 (l=0∧bW s=none)
set_option maxRecDepth 1000000 in
def CP(w:vF)(s:ByteArray)(b:Nat)(l:Nat)(a:Act)(w':vF):Prop:=
 ∃(i c:Nat) (d:Int) (e:ByteArray) (f:List ByteArray) (g u7 u8 u9 u10 u11 u12 u13 u14 u15 u16 u17 u18 u19 u20 u21 u22 u23 u24 u25 u26 u27 u28 u29 u30 u31 u32 u33 u34 u35 u36 u37 u38 u39 u40 u41 u42 u43 u44 u45 u46 u47 u48 u49 u50 u51 u52 u53 u54 u55 u56 u57 u58 u59 u60 u61 u62 u63 u64 u65 u66 u67 u68 u69 u70 u71 u72:Value),a=⟨#[.string s,undef,.pointer (some ⟨w.heap.size,0,none⟩),.bool false,.pointer (some ⟨b,0,none⟩),.int .i64 d,.int .i64 c,u7,u8,u9,u10,u11,u12,u13,u14,u15,u16,u17,u18,u19,u20,u21,u22,u23,u24,u25,u26,u27,u28,u29,u30,u31,u32,u33,u34,u35,u36,u37,u38,u39,u40,u41,u42,u43,u44,u45,u46,u47,u48,u49,u50,u51,u52,u53,u54,u55,u56,u57,u58,u59,u60,u61,u62,u63,u64,u65,u66,u67,u68,u69,u70,u71,u72,undef],[]⟩∧d=(i:Int)∧CrInv w w' b e f g∧CL s l i c e f
def muC(s:ByteArray)(l:Nat)(a:Act)(_:vF):Nat:=if l=0 then 0 else 2*(s.size-(intOf (a.tmps.getD 5 undef)).toNat)+1
theorem GC{J X:Nat→Act→vF→Prop}(h:∀l a w,J l a w→l≤4)(c:∀a w,J 0 a w→X 0 a w)(d:(∀a w,J 0 a w→X 0 a w)→∀a w,J 4 a w→X 4 a w)(f:(∀a w,J 4 a w→X 4 a w)→∀a w,J 3 a w→X 3 a w)
  (e:∀a w,J 2 a w→X 2 a w) (g:(∀a w,J 2 a w→X 2 a w)→∀a w,J 1 a w→X 1 a w):∀l a w,J l a w→X l a w:=by
 intro l a w b;have i:=h l a w b;match l,i with
 |0,_=>exact c a w b
 |1,_=>exact g e a w b
 |2,_=>exact e a w b
 |3,_=>exact f (d c) a w b
 |4,_=>exact d c a w b
theorem CP.le{w:vF}{s:ByteArray}{b l:Nat}{a:Act}{w':vF}(h:CP w s b l a w'):l≤4:=by obtain⟨i,d,e,f,g,j,u7,u8,u9,u10,u11,u12,u13,u14,u15,u16,u17,u18,u19,u20,u21,u22,u23,u24,u25,u26,u27,u28,u29,u30,u31,u32,u33,u34,u35,u36,u37,u38,u39,u40,u41,u42,u43,u44,u45,u46,u47,u48,u49,u50,u51,u52,u53,u54,u55,u56,u57,u58,u59,u60,u61,u62,u63,u64,u65,u66,u67,u68,u69,u70,u71,u72,_,_,_,c⟩:=h;rcases c with h|h|h|h|h<;>omega
theorem vR{c:ByteArray}(h:0<c.size):c.toList.isEmpty=false:=by
 rw[ByteArray.toList_eq];obtain⟨⟨l⟩⟩:=c;cases l with
 |nil=>exact absurd h (by decide)
 |cons a b=>rfl
theorem pG{J:Nat→Act→vF→Prop}{d:Nat→Act→vF→Nat}{Q:Exit→Act→vF→Prop}{m n:Nat}(h:m≤n):∀e a w,gT (fun l' b w'=>J l' b w'∧d l' b w'<m) Q e a w→gT (fun l' b w'=>J l' b w'∧d l' b w'<n) Q e a w:=by
 intro e a w c;cases e
 case goto=>exact⟨c.1,A2 c.2 h⟩
 all_goals exact c
set_option maxRecDepth 1000000 in
set_option maxHeartbeats 2000000 in
theorem Fj(s:ByteArray)(w:vF)(hs:s.size≤1000000) :
  Calls Tryz.prog 70 #[.string s] w fun e w'=>EW (bW s) w w' e:=by
 obtain⟨i0,X,ag,ah,ai⟩:=info_parts iJ;have Y:=aD w (.cells #[.string ⟨#[]⟩,.slice none 0 0] 51);have Z:Below w.heap.size w (w.alloc (.cells #[.string ⟨#[]⟩,.slice none 0 0] 51)):=(Below.refl _ _).alloc (gO _) _;go_enter Tryz.func70,Tryz.ntmps70
 go_wp2;generalize w.alloc (.cells #[.string ⟨#[]⟩,.slice none 0 0] 51)=g at Y Z ⊢;have aj:=aB Y;refine mY (CP w s g.heap.size) (muC s) (GC (fun b9 a w h=>h.le) ?_ ?_ ?_ ?_ ?_) ?_
 ·rintro a w' ⟨i,f,O,j,d,P,u7,u8,u9,u10,u11,u12,u13,u14,u15,u16,u17,u18,u19,u20,u21,u22,u23,u24,u25,u26,u27,u28,u29,u30,u31,u32,u33,u34,u35,u36,u37,u38,u39,u40,u41,u42,u43,u44,u45,u46,u47,u48,u49,u50,u51,u52,u53,u54,u55,u56,u57,u58,u59,u60,u61,u62,u63,u64,u65,u66,u67,u68,u69,u70,u71,u72,rfl,rfl,b,y⟩;refine⟨_,rfl,?_⟩;rcases y with⟨h,_⟩|⟨h,_⟩|⟨h,_⟩|⟨h,_⟩|⟨_,hn⟩
  ·cases h
  ·cases h
  ·cases h
  ·cases h
  obtain⟨c0,c1,f0,f1⟩:=aH b.slot;have a0:=b.blw;go_wp2_with fail
  simp only[gT];refine bodyPost_ret (v:=.tuple #[.agg #[.string ⟨#[]⟩,.slice none 0 0],.bool false]) (by simp[results,OU,go_sem,c0,c1]) rfl (.inl ⟨hn,rfl,?_⟩);exact(a0.setCell (p:=⟨w.heap.size,0,none⟩) (gO _) _).setCell (p:=⟨w.heap.size,1,none⟩) (gO _) _
 ·intro a7;have ak:=aA a7;clear a7;rintro a w' ⟨i,f,O,j,d,P,u7,u8,u9,u10,u11,u12,u13,u14,u15,u16,u17,u18,u19,u20,u21,u22,u23,u24,u25,u26,u27,u28,u29,u30,u31,u32,u33,u34,u35,u36,u37,u38,u39,u40,u41,u42,u43,u44,u45,u46,u47,u48,u49,u50,u51,u52,u53,u54,u55,u56,u57,u58,u59,u60,u61,u62,u63,u64,u65,u66,u67,u68,u69,u70,u71,u72,rfl,rfl,b,y⟩;refine⟨_,rfl,?_⟩;rcases y with⟨h,_⟩|⟨h,_⟩|⟨h,_⟩|⟨_,Q,J,z,m⟩|⟨h,_⟩
  ·cases h
  ·cases h
  ·cases h
  ·obtain⟨A,B,rfl,_⟩:=aQ b.own;by_cases c:i<s.size
   ·have D:((i:Int) == (s.size:Int))=false:=beq_false_of_ne (by omega);by_cases l:(s[i].toNat:Int)=32
    ·have a1:((s[i].toNat:Int) == 32)=true:=by simp[l]
     have n:I3 (bW s=if bC (bE s (i+1))=true then(pB s (bX s (i+2)) (d++[s.extract (i+1) (bX s (i+2))])).map (fun t=>⟨j,t⟩)else none):=by
      unfold I3;rw[m,lT c,bL c];by_cases h:bC (bE s (i+1))=true
      ·rw[if_pos ⟨l,h⟩,if_pos h]
      ·rw[if_neg (fun x=>h x.2),if_neg h];rfl
     clear m;go_wp2_with fail
     go_step3
     show CP w s g.heap.size 1 _ _∧_;refine⟨⟨i+1,f,_,j,d,_,_,_,_,_,_,_,_,_,_,_,_,_,_,_,_,_,_,_,_,_,_,_,_,_,_,_,_,_,_,_,_,_,_,_,_,_,_,_,_,_,_,_,_,_,_,_,_,_,_,_,_,_,_,_,_,_,_,_,_,_,_,_,_,_,_,_,rfl,by omega,b,.inl ⟨rfl,c,by omega,.inr ⟨z,n.out⟩⟩⟩,?_⟩;simp[muC,intOf];omega
    ·have a1:((s[i].toNat:Int) == 32)=false:=beq_false_of_ne l;have n:I3 (bW s=none):=by
      unfold I3;rw[m,lT c,bL c,if_neg (fun x=>l x.1)];rfl
     clear m;go_wp2_with fail
     go_step3
     rename_i a2 E hT;obtain⟨a3,hr,F⟩:=ak.out _ w' ⟨i,f,_,j,d,_,_,_,_,_,_,_,_,_,_,_,_,_,_,_,_,_,_,_,_,_,_,_,_,_,_,_,_,_,_,_,_,_,_,_,_,_,_,_,_,_,_,_,_,_,_,_,_,_,_,_,_,_,_,_,_,_,_,_,_,_,_,_,_,_,_,_,rfl,rfl,b,.inr (.inr (.inr (.inr ⟨rfl,n.out⟩)))⟩;cases hr;exact E _ _ (Ns (pG (by simp[muC])) F)
   ·have D:i=s.size:=by omega
    subst D;have n:I3 (bW s=some ⟨j,d⟩):=by unfold I3;rw[m,Ac (gO _)];rfl
    clear m;obtain⟨c0,c1,f0,f1⟩:=aH b.slot;obtain⟨d0,d1,e0,e1⟩:=aH b.cell;have a0:=b.blw;have al:=aA b.own;have am:=aA b.slot;go_wp2_with fail
    simp only[gT];refine bodyPost_ret (v:=.tuple #[.agg #[.string j,.slice A d.length B],.bool true]) (by simp[results,OU,go_sem,c0,c1]) rfl (.inr ⟨⟨j,d⟩,.slice A d.length B,n.out,rfl,?_,?_⟩)
    ·exact qK al.out (by decide) am.out
    ·exact(a0.setCell (p:=⟨w.heap.size,0,none⟩) (gO _) _).setCell (p:=⟨w.heap.size,1,none⟩) (gO _) _
  ·cases h
 ·intro a8;have an:=aA a8;clear a8;rintro a w' ⟨i,f,O,j,d,P,u7,u8,u9,u10,u11,u12,u13,u14,u15,u16,u17,u18,u19,u20,u21,u22,u23,u24,u25,u26,u27,u28,u29,u30,u31,u32,u33,u34,u35,u36,u37,u38,u39,u40,u41,u42,u43,u44,u45,u46,u47,u48,u49,u50,u51,u52,u53,u54,u55,u56,u57,u58,u59,u60,u61,u62,u63,u64,u65,u66,u67,u68,u69,u70,u71,u72,rfl,rfl,b,y⟩;refine⟨_,rfl,?_⟩;rcases y with⟨h,_⟩|⟨h,_⟩|⟨_,ao,Q,J,z,m⟩|⟨h,_⟩|⟨h,_⟩
  ·cases h
  ·cases h
  ·obtain⟨A,B,rfl,_⟩:=aQ b.own;have n:=aA m;have o:=aA b;obtain⟨d0,d1,e0,e1⟩:=aH b.cell;have R:(s.extract f i).size≤1000000:=by rw[Jw];omega
   have ba:=b.blw.size;have ap:=aB b.cell;have c:=b.lt;clear m b;have aq:(f:Int)≤(i:Int):=by omega
   go_wp2_with fail
   go_region_law (first
    |(refine BN rfl 57 rfl (s.extract f i) R (by simp[Act.eval,Act.put]) ?_;intro q k;have G:Below w'.heap.size w' q:=⟨k.os,k.tape,k.output,k.size,k.block⟩;have ar:w'.heap.size≤q.heap.size:=G.size;have bb:g.heap.size<q.heap.size:=A2 ap ar;have r:=Below.fj G o.out.cell (aB o.out.cell);have K:=Below.fj G o.out.slot (aB o.out.slot);obtain⟨q0,q1,q2,q3⟩:=aH r;have a4:=aA (aM o.out.own G);have au:=aA (o.out.blw.trans (G.mono o.out.blw.size));have av:=aA ((aM o.out.own G).alloc (.cells #[.string (s.extract f i)] 9));have aw:=aA (bU q #[.string (s.extract f i)] 9 [.string (s.extract f i)] rfl);have ax:=aA (cM a4.out r (by decide));have ay:=aA (cM a4.out K (by decide));have az:=aA r;have aV:=aA K;clear k r K G)
    | (refine step_append_lies _ rfl (.tmp 53) (.tmp 59) 44 rfl w.heap.size 9 i0 (.string ⟨#[]⟩) 1 16 Tryz.underlying44 X ag ah ai rfl (by decide) (.slice A d.length B) d.length (d.map Value.string) (by simp[Act.eval]) av.out ⟨q.heap.size,0,none⟩ 1 1 [.string (s.extract f i)] (by simp[Act.eval]) rfl aw.out (by intro bc hu;rw[List.mem_singleton.1 hu];rfl) (by decide) (by unfold maxLen;omega) (by omega) (by simp;omega) _ rfl ?_;intro b0 cp S ho hg bd be;have a5:S.heap[g.heap.size]?=some (.cells #[.string j,.slice A d.length B] 51 (0,0)):=(hg.block g.heap.size (by simp;omega) ax.out).trans (aF az.out _);obtain⟨q4,q5,q6,q7⟩:=aH a5;have b1:S.heap[w.heap.size]?=some (.cells #[.string ⟨#[]⟩,.slice none 0 0] 51 (0,0)):=(hg.block w.heap.size (by simp;omega) ay.out).trans (aF aV.out _);have b2:Below w.heap.size w S:=(au.out.alloc (by omega) (.cells #[.string (s.extract f i)] 9)).grown hg (by simp;omega) (fun x hx=>(a4.out.lt x hx).1)))
   all_goals
    go_wp2_with fail
    go_step3
    rename_i a2 E;obtain⟨a3,hr,F⟩:=an.out _ (S.setCell ⟨g.heap.size,1,none⟩ (.slice (some ⟨b0,0,none⟩) (d.length+1) cp)) ⟨i,f,_,j,d++[s.extract f i],_,_,_,_,_,_,_,_,_,_,_,_,_,_,_,_,_,_,_,_,_,_,_,_,_,_,_,_,_,_,_,_,_,_,_,_,_,_,_,_,_,_,_,_,_,_,_,_,_,_,_,_,_,_,_,_,_,_,_,_,_,_,_,_,_,_,_,rfl,rfl,⟨c,(by rw[aI a5 1];rfl),(by rw[A4,List.map_append];exact gP ho (by decide) a5),(by rw[Below.heap_setCell _ _ _ _ (by show w.heap.size≠g.heap.size;omega)];exact b1),b2.setCell (p:=⟨g.heap.size,1,none⟩) (Nat.le_of_lt c) _⟩,.inr (.inr (.inr (.inl ⟨rfl,Q,(by rw[A4];show d.length+1≤i;omega),z,n.out⟩)))⟩;cases hr;exact E _ _ (Ns (pG (by simp[muC,intOf])) F)
  ·cases h
  ·cases h
 ·rintro a w' ⟨i,f,O,j,d,P,u7,u8,u9,u10,u11,u12,u13,u14,u15,u16,u17,u18,u19,u20,u21,u22,u23,u24,u25,u26,u27,u28,u29,u30,u31,u32,u33,u34,u35,u36,u37,u38,u39,u40,u41,u42,u43,u44,u45,u46,u47,u48,u49,u50,u51,u52,u53,u54,u55,u56,u57,u58,u59,u60,u61,u62,u63,u64,u65,u66,u67,u68,u69,u70,u71,u72,rfl,rfl,b,y⟩;refine⟨_,rfl,?_⟩;rcases y with⟨h,_⟩|⟨_,ao,Q,J,L,M,halt⟩|⟨h,_⟩|⟨h,_⟩|⟨h,_⟩
  ·cases h
  ·obtain⟨A,B,rfl,_⟩:=aQ b.own;by_cases C:i+1<s.size∧dE (bE s (i+1))=true
   ·obtain⟨c,l⟩:=C;rw[bL c]at l;have u:I3 (dE (s[i+1].toNat:Int)=true):=l;have T:I3 (bX s (f+1)=bX s (i+1+1)):=M.trans (qD c l);have HA:=aA halt;have b3:=aA L;clear l halt M L;go_wp2_with fail
    refine(gJ _ _).mono ?_
    rintro U wc ⟨rfl,rfl⟩;rw[u.out];go_wp2_with fail
    go_step3
    show CP w s g.heap.size 2 _ _∧_;refine⟨⟨i+1,f,_,j,d,_,_,_,_,_,_,_,_,_,_,_,_,_,_,_,_,_,_,_,_,_,_,_,_,_,_,_,_,_,_,_,_,_,_,_,_,_,_,_,_,_,_,_,_,_,_,_,_,_,_,_,_,_,_,_,_,_,_,_,_,_,_,_,_,_,_,_,rfl,by omega,b,.inr (.inl ⟨rfl,by omega,c,J,b3.out,T.out,HA.out⟩)⟩,?_⟩;simp[muC,intOf];omega
   ·have T:I3 (bX s (f+1)=i+1):=by
     unfold I3;rw[M];by_cases c:i+1<s.size
     ·refine sX c ?_
      rw[Kw];intro h;exact C ⟨c,by rw[bL c];exact h⟩
     ·exact qC (by omega)
    rcases halt with⟨a9,b4,aa⟩|⟨z,m⟩
    ·subst a9 b4 aa;have HM:I3 (bW s=if bE s (i+1)=58 then(pB s (i+1+1) []).map (fun t=>⟨s.extract 0 (i+1),t⟩)else none):=by
      unfold I3;rw[← Ae];unfold xY;have e:bX s 1=i+1:=T.out;rw[e];by_cases h:bE s (i+1)=58
      ·rw[if_pos ⟨L,h⟩,if_pos h]
      ·rw[if_neg (fun x=>h x.2),if_neg h]
     have R:(s.extract 0 (i+1)).size≤1000000:=by rw[Jw];omega
     have ab:0<(s.extract 0 (i+1)).size:=by rw[Jw];omega
     have b5:=aA ab;have a6:w'.heap[g.heap.size]?=some (.cells #[.string ⟨#[]⟩,.slice A 0 B] 51 (0,0)):=b.cell;obtain⟨d0,d1,e0,e1⟩:=aH a6;have H:=aA a6;have o:=aA b;have ad:=b.lt;have aq:(0:Int)≤(i:Int)+1:=by omega
     have HW:I3 (∀q,Below w'.heap.size w' q→CrInv w (q.setCell ⟨g.heap.size,0,none⟩ (.string (s.extract 0 (i+1)))) g.heap.size (s.extract 0 (i+1)) [] (.slice A 0 B)):=by intro q k;have r:=Below.fj k H.out (aB H.out);have K:=Below.fj k o.out.slot (aB o.out.slot);refine⟨ad,(by rw[aI r 0];rfl),gP (aM o.out.own k) (by decide) r,(by rw[Below.heap_setCell _ _ _ _ (by show w.heap.size≠g.heap.size;omega)];exact K),?_⟩;exact(o.out.blw.trans (k.mono o.out.blw.size)).setCell (p:=⟨g.heap.size,0,none⟩) (Nat.le_of_lt ad) _
     clear L M b a6 ab;by_cases c:i+1<s.size
     ·have u:I3 (dE (s[i+1].toNat:Int)=false):=by
       unfold I3;rw[Kw];intro h;exact C ⟨c,by rw[bL c];exact h⟩
      have D:((i:Int)+1 == (s.size:Int))=false:=beq_false_of_ne (by omega);clear C;go_wp2_with fail
      refine(gJ _ _).mono ?_
      rintro U wc ⟨rfl,rfl⟩;rw[u.out];go_wp2_with fail
      refine(lQ _ _ R).mono ?_
      rintro e q ⟨rfl,k⟩;have r:=Below.fj k H.out (aB H.out);obtain⟨q0,q1,q2,q3⟩:=aH r;by_cases V:(s[i+1].toNat:Int)=58
      ·have a1:((s[i+1].toNat:Int) != 58)=false:=by simp[V]
       have N:I3 (bW s=(pB s (i+1+1) []).map (fun t=>⟨s.extract 0 (i+1),t⟩)):=by unfold I3;rw[HM.out,bL c,if_pos V]
       go_wp2_with fail
       go_step3
       show CP w s g.heap.size 4 _ _∧_;refine⟨⟨i+1+1,0,_,s.extract 0 (i+1),[],_,_,_,_,_,_,_,_,_,_,_,_,_,_,_,_,_,_,_,_,_,_,_,_,_,_,_,_,_,_,_,_,_,_,_,_,_,_,_,_,_,_,_,_,_,_,_,_,_,_,_,_,_,_,_,_,_,_,_,_,_,_,_,_,_,_,_,rfl,by omega,HW.out q k,.inr (.inr (.inr (.inl ⟨rfl,by omega,by simp,b5.out,N.out⟩)))⟩,?_⟩;simp[muC,intOf];omega
      ·have a1:((s[i+1].toNat:Int) != 58)=true:=by simp[V]
       have N:I3 (bW s=none):=by unfold I3;rw[HM.out,bL c,if_neg V]
       go_wp2_with fail
       go_step3
       show CP w s g.heap.size 0 _ _∧_;refine⟨⟨i+1,0,_,s.extract 0 (i+1),[],_,_,_,_,_,_,_,_,_,_,_,_,_,_,_,_,_,_,_,_,_,_,_,_,_,_,_,_,_,_,_,_,_,_,_,_,_,_,_,_,_,_,_,_,_,_,_,_,_,_,_,_,_,_,_,_,_,_,_,_,_,_,_,_,_,_,_,rfl,by omega,HW.out q k,.inr (.inr (.inr (.inr ⟨rfl,N.out⟩)))⟩,?_⟩;simp[muC]
     ·have D:((i:Int)+1 == (s.size:Int))=true:=by simp;omega
      have b6:decide ((i:Int)+1<(s.size:Int))=false:=by simp;omega
      have N:I3 (bW s=none):=by unfold I3;rw[HM.out,lU (by omega),if_neg (by decide)]
      clear C;go_wp2_with fail
      refine(lQ _ _ R).mono ?_
      rintro e q ⟨rfl,k⟩;have r:=Below.fj k H.out (aB H.out);obtain⟨q0,q1,q2,q3⟩:=aH r;go_wp2_with fail
      go_step3
      show CP w s g.heap.size 0 _ _∧_;refine⟨⟨i+1,0,_,s.extract 0 (i+1),[],_,_,_,_,_,_,_,_,_,_,_,_,_,_,_,_,_,_,_,_,_,_,_,_,_,_,_,_,_,_,_,_,_,_,_,_,_,_,_,_,_,_,_,_,_,_,_,_,_,_,_,_,_,_,_,_,_,_,_,_,_,_,_,_,_,_,_,rfl,by omega,HW.out q k,.inr (.inr (.inr (.inr ⟨rfl,N.out⟩)))⟩,?_⟩;simp[muC]
    ·have n:I3 (bW s=(pB s (i+1) (d++[s.extract f (i+1)])).map (fun t=>⟨j,t⟩)):=by
      unfold I3;rw[m,T.out]
     obtain⟨d0,d1,e0,e1⟩:=aH b.cell;have bf:j≠⟨#[]⟩:=by intro h;rw[h]at z;exact absurd z (by decide)
     have bg:=vR z;clear m L M;by_cases c:i+1<s.size
     ·have u:I3 (dE (s[i+1].toNat:Int)=false):=by
       unfold I3;rw[Kw];intro h;exact C ⟨c,by rw[bL c];exact h⟩
      clear C;go_wp2_with fail
      refine(gJ _ _).mono ?_
      rintro U wc ⟨rfl,rfl⟩;rw[u.out];go_wp2_with fail
      go_step3
      show CP w s g.heap.size 3 _ _∧_;refine⟨⟨i+1,f,_,j,d,_,_,_,_,_,_,_,_,_,_,_,_,_,_,_,_,_,_,_,_,_,_,_,_,_,_,_,_,_,_,_,_,_,_,_,_,_,_,_,_,_,_,_,_,_,_,_,_,_,_,_,_,_,_,_,_,_,_,_,_,_,_,_,_,_,_,_,rfl,by omega,b,.inr (.inr (.inl ⟨rfl,by omega,by omega,by omega,z,n.out⟩))⟩,?_⟩;simp[muC,intOf];omega
     ·have b6:decide ((i:Int)+1<(s.size:Int))=false:=by simp;omega
      clear C;go_wp2_with fail
      go_step3
      show CP w s g.heap.size 3 _ _∧_;refine⟨⟨i+1,f,_,j,d,_,_,_,_,_,_,_,_,_,_,_,_,_,_,_,_,_,_,_,_,_,_,_,_,_,_,_,_,_,_,_,_,_,_,_,_,_,_,_,_,_,_,_,_,_,_,_,_,_,_,_,_,_,_,_,_,_,_,_,_,_,_,_,_,_,_,_,rfl,by omega,b,.inr (.inr (.inl ⟨rfl,by omega,by omega,by omega,z,n.out⟩))⟩,?_⟩;simp[muC,intOf];omega
  ·cases h
  ·cases h
  ·cases h
 ·intro ae;have b7:=aA ae;clear ae;rintro a w' ⟨i,f,O,j,d,P,u7,u8,u9,u10,u11,u12,u13,u14,u15,u16,u17,u18,u19,u20,u21,u22,u23,u24,u25,u26,u27,u28,u29,u30,u31,u32,u33,u34,u35,u36,u37,u38,u39,u40,u41,u42,u43,u44,u45,u46,u47,u48,u49,u50,u51,u52,u53,u54,u55,u56,u57,u58,u59,u60,u61,u62,u63,u64,u65,u66,u67,u68,u69,u70,u71,u72,rfl,rfl,b,y⟩;refine⟨_,rfl,?_⟩;rcases y with⟨_,Q,J,halt⟩|⟨h,_⟩|⟨h,_⟩|⟨h,_⟩|⟨h,_⟩
  ·have I:bC (bE s i)=false→bW s=none:=by
    intro h;rcases halt with⟨a9,X,aa⟩|⟨_,m⟩
    ·subst X;rw[← Ae];unfold xY;rw[if_neg (fun x=>by rw[h]at x;exact absurd x.1 (by decide))]
    ·rw[m,if_neg (by rw[h];decide)]
   by_cases c:i<s.size
   ·have D:((i:Int) == (s.size:Int))=false:=beq_false_of_ne (by omega);rw[bL c]at I;cases l:bC (s[i].toNat:Int)
    ·have u:I3 (bC (s[i].toNat:Int)=false):=l;have n:I3 (bW s=none):=I l;clear l I halt;go_wp2_with fail
     refine(gI _ _).mono ?_
     rintro U wc ⟨rfl,rfl⟩;rw[u.out];go_wp2_with fail
     go_step3
     show CP w s g.heap.size 0 _ _∧_;refine⟨⟨i,f,_,j,d,_,_,_,_,_,_,_,_,_,_,_,_,_,_,_,_,_,_,_,_,_,_,_,_,_,_,_,_,_,_,_,_,_,_,_,_,_,_,_,_,_,_,_,_,_,_,_,_,_,_,_,_,_,_,_,_,_,_,_,_,_,_,_,_,_,_,_,rfl,by omega,b,.inr (.inr (.inr (.inr ⟨rfl,n.out⟩)))⟩,?_⟩;simp[muC]
    ·have u:I3 (bC (s[i].toNat:Int)=true):=l;have HA:=aA halt;clear l I halt;go_wp2_with fail
     refine(gI _ _).mono ?_
     rintro U wc ⟨rfl,rfl⟩;rw[u.out];go_wp2_with fail
     go_step3
     rename_i a2 E;obtain⟨a3,hr,F⟩:=b7.out _ wc ⟨i,i,_,j,d,_,_,_,_,_,_,_,_,_,_,_,_,_,_,_,_,_,_,_,_,_,_,_,_,_,_,_,_,_,_,_,_,_,_,_,_,_,_,_,_,_,_,_,_,_,_,_,_,_,_,_,_,_,_,_,_,_,_,_,_,_,_,_,_,_,_,_,rfl,rfl,b,.inr (.inl ⟨rfl,gO _,c,J,(by rw[bL c];exact u.out),rfl,(by
      rcases HA.out with h|⟨h1,h2⟩
      ·exact .inl h
      ·refine .inr ⟨h1,?_⟩;rw[h2,if_pos (by rw[bL c];exact u.out)])⟩)⟩
     cases hr;exact E _ _ (Ns (pG (by simp[muC,intOf])) F)
   ·have D:i=s.size:=by omega
    subst D;have n:I3 (bW s=none):=I (by rw[lU (gO _)];decide);clear I halt;go_wp2_with fail
    go_step3
    show CP w s g.heap.size 0 _ _∧_;refine⟨⟨s.size,f,_,j,d,_,_,_,_,_,_,_,_,_,_,_,_,_,_,_,_,_,_,_,_,_,_,_,_,_,_,_,_,_,_,_,_,_,_,_,_,_,_,_,_,_,_,_,_,_,_,_,_,_,_,_,_,_,_,_,_,_,_,_,_,_,_,_,_,_,_,_,rfl,by omega,b,.inr (.inr (.inr (.inr ⟨rfl,n.out⟩)))⟩,?_⟩;simp[muC]
  ·cases h
  ·cases h
  ·cases h
  ·cases h
 ·intro af;have b8:=aA af;clear af;go_wp2_with fail
  go_step3
  rename_i a2 E;obtain⟨a3,hr,F⟩:=b8.out 1 _ (g.alloc (.cells #[.string ⟨#[]⟩,.slice none 0 0] 51)) ⟨0,0,0,noB,[],.slice none 0 0,_,_,_,_,_,_,_,_,_,_,_,_,_,_,_,_,_,_,_,_,_,_,_,_,_,_,_,_,_,_,_,_,_,_,_,_,_,_,_,_,_,_,_,_,_,_,_,_,_,_,_,_,_,_,_,_,_,_,_,_,_,_,_,_,_,_,rfl,rfl,⟨aj,aD _ _,World.ownsRow_nil _ _ _ _,aF Y _,Z.alloc Z.size _⟩,.inl ⟨rfl,Nat.zero_le _,Nat.zero_le _,.inl ⟨rfl,rfl,rfl⟩⟩⟩;cases hr;exact E _ _ F
end
end Go.Proofs.YtiamlbhkiehilaaGreatDoor
