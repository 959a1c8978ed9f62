import Derived.Test.YtiamlbhkiehilaaGreatDoorKq08
import Derived.Test.YtiamlbhkiehilaaGreatDoorKq09
import Derived.WalkMore
namespace Go.Proofs.YtiamlbhkiehilaaGreatDoor
section
open Go.RowKit Go.Maps
theorem infoU8:(Tryz.prog.info? 5).map (fun i=>(i.zero,i.size,i.bytes))=some (some (.int .u8 0),1,1):=by kernel_rfl
theorem rows_apart{w:World}{B:Nat}{e e':TypeId}{v v':Value}{n n':Nat}{xs xs':List Value}(h:w.ownsRow B e 1 v n xs)(h':w.ownsRow B e' 1 v' n' xs')(hne:e≠e'):v.ownBlock=none∨v.ownBlock≠v'.ownBlock:=by
 rcases h.2 with⟨rfl,_⟩|⟨g,cap,cur,rfl,_,hg,_⟩
 ·exact .inl rfl
 ·refine .inr fun heq=>?_
  rcases h'.2 with⟨rfl,_⟩|⟨g',cap',cur',rfl,_,hg',_⟩
  ·cases heq
  ·simp only[Value.ownBlock,Option.some.injEq]at heq;rw[heq,hg']at hg;injection hg with h1;injection h1 with h2 h3;exact hne h3.symm
def cellsB(l:List UInt8):List Value:=l.map fun c=>.int .u8 c.toNat
structure PcInv(w w':World)(s:ByteArray)(out:List ByteArray)(v5 v6:Value):Prop where
 own5:w'.ownsRow w.heap.size 5 1 v5 (shapeL out).length (cellsB (shapeL out))
 own6:w'.ownsRow w.heap.size 9 1 v6 (nmsL out).length ((nmsL out).map Value.string)
 word:∀x∈out,isWord x
 blw:Below w.heap.size w w'
theorem push_fold(l:List UInt8)(b:ByteArray):((l.map fun c=>(c.toNat:Int)).foldl (fun r n=>r.push (UInt8.ofNat n.toNat)) b)=⟨(b.data.toList++l).toArray⟩:=by
 induction l generalizing b with
 |nil=>simp
 |cons c r ih=>
  rw[List.map_cons,List.foldl_cons,ih];simp
theorem shape_string{w:World}{B:Nat}{v:Value}{l:List UInt8}(h:w.ownsRow B 5 1 v l.length (cellsB l)):(convert 116 9 v).run Tryz.prog w=.ok (.string ⟨l.toArray⟩) w:=by
 rcases h.2 with⟨rfl,h0⟩|⟨g,cap,cur,rfl,_,hg,_,_,_,htk⟩
 ·rw[run_convert_bytes_string w _ _ 5 none 0 0 Tryz.underlying116 Tryz.underlying5 Tryz.underlying9];have:l=[]:=List.length_eq_zero_iff.1 h0;subst this;rfl
 ·rw[run_convert_bytes_string w _ _ 5 _ _ _ Tryz.underlying116 Tryz.underlying5 Tryz.underlying9];have hl:(loadCells ⟨g,0,none⟩ l.length).run Tryz.prog w=.ok ((l.map fun c=>(c.toNat:Int)).map (Value.int .u8)).toArray w:=by
   have:=run_loadCells_list (P:=Tryz.prog) (w:=w) ⟨g,0,none⟩ (cellsB l) (by
    intro j v hj;rw[← htk,List.getElem?_take]at hj;rw[Addr.add_lit,Nat.zero_add,cell_at hg];split at hj
    ·simpa using hj
    ·cases hj)
   rw[show(cellsB l).length=l.length by simp[cellsB]]at this;rw[this];simp[cellsB]
  rw[run_bytesToString w _ _ _ _ hl,push_fold];rfl
def JL(s:ByteArray)(l i fr:Nat)(out:List ByteArray):Prop:=
 (l=1∧i≤s.size∧out.length≤i∧wordsR s 0 []=wordsR s i out) ∨
 (l=2∧i<s.size∧out.length≤i+1∧wordsR s 0 []=wordsR s (i+1) out) ∨
 (l=3∧fr≤i∧i<s.size∧out.length≤fr∧isNm (s.extract fr (nEnd s (fr+1)))=true∧wordsR s 0 []=wordsR s (nEnd s (fr+1)) (out++[s.extract fr (nEnd s (fr+1))])∧nEnd s (fr+1)=nEnd s (i+1)) ∨
 (l=0∧out.length≤s.size∧wordsR s 0 []=some out)
set_option maxRecDepth 1000000 in
def JP(w:World)(s:ByteArray)(l:Nat)(a:Act)(w':World):Prop:=
 ∃(i fr:Nat) (ai:Int) (out:List ByteArray) (v5 v6 u9 u10 u11 u12 u13 u14 u15 u16 u17 u18 u19 u20 u21 u22 u23 u24 u25 u26 u27 u28 u29 u30 u31 u32 u33 u34 u35 u36 u37 u38 u39 u40 u41 u42 u43 u44 u45 u46 u47 u48 u49 u50 u51 u52 u53 u54 u55 u56 u57 u58 u59 u60 u61 u62 u63 u64 u65 u66 u67 u68 u69 u70 u71 u72:Value),a=⟨#[.string s,undef,.string ⟨#[]⟩,.slice none 0 0,.bool false,v5,v6,.int .i64 ai,.int .i64 fr,u9,u10,u11,u12,u13,u14,u15,u16,u17,u18,u19,u20,u21,u22,u23,u24,u25,u26,u27,u28,u29,u30,u31,u32,u33,u34,u35,u36,u37,u38,u39,u40,u41,u42,u43,u44,u45,u46,u47,u48,u49,u50,u51,u52,u53,u54,u55,u56,u57,u58,u59,u60,u61,u62,u63,u64,u65,u66,u67,u68,u69,u70,u71,u72,undef],[]⟩∧ai=(i:Int)∧PcInv w w' s out v5 v6∧JL s l i fr out
def muP(s:ByteArray)(l:Nat)(a:Act)(_:World):Nat:=if l=0 then 0 else 2*(s.size-(intOf (a.tmps.getD 7 undef)).toNat)+if l=1 then 1 else 0
def CRes(w w':World)(s:ByteArray)(e:Ending):Prop:=
 (wordsR s 0 []=none∧e=.returned (.tuple #[.string ⟨#[]⟩,.slice none 0 0,.bool false])∧Below w.heap.size w w') ∨
 (∃v out,wordsR s 0 []=some out∧(∀x∈out,isWord x)∧out.length≤s.size∧e=.returned (.tuple #[.string ⟨(shapeL out).toArray⟩,v,.bool true])∧w'.ownsRow w.heap.size 9 1 v (nmsL out).length ((nmsL out).map Value.string)∧Below w.heap.size w w')
set_option maxRecDepth 1000000 in
set_option maxHeartbeats 2000000 in
theorem pieces_any(s:ByteArray)(w:World)(hs:s.size≤1000000) :
  Calls Tryz.prog 133 #[.string s] w fun e w'=>CRes w w' s e:=by
 obtain⟨i0,hi0,hz0,hz1,hz2⟩:=info_parts infoStr;obtain⟨j0,hj0,hy0,hy1,hy2⟩:=info_parts infoU8;go_enter Tryz.func133,Tryz.ntmps133
 go_wp2;refine wp_scope_labels (JP w s) (muP s) ?_ ?_
 ·rintro l a w' ⟨i,fr,ai,out,v5,v6,u9,u10,u11,u12,u13,u14,u15,u16,u17,u18,u19,u20,u21,u22,u23,u24,u25,u26,u27,u28,u29,u30,u31,u32,u33,u34,u35,u36,u37,u38,u39,u40,u41,u42,u43,u44,u45,u46,u47,u48,u49,u50,u51,u52,u53,u54,u55,u56,u57,u58,u59,u60,u61,u62,u63,u64,u65,u66,u67,u68,u69,u70,u71,u72,rfl,rfl,hP,hJ⟩;have hsl:(shapeL out).length=out.length:=by simp[shapeL]
  have hnl:(nmsL out).length≤out.length:=List.length_filter_le _ _;rcases hJ with⟨rfl,hi,hol,heq⟩|⟨rfl,hi,hol,heq⟩|⟨rfl,hfi,hi,hol,hnm,heq,hne⟩|⟨rfl,hol,heq⟩
  ·refine⟨_,rfl,?_⟩;by_cases hlt:i<s.size
   ·have hie:((i:Int) == (s.size:Int))=false:=beq_false_of_ne (by omega);rcases kindB_cases (s[i].toNat:Int)with⟨h1,hk⟩|⟨h1,h2,hk⟩|⟨h1,h2,h3,hk⟩|⟨h1,h2,h3,h4,hk⟩|⟨h1,h2,h3,h4,hk⟩
    ·have HE:Hid (wordsR s 0 []=some out):=heq.trans (wordsR_0 hlt hk);clear hk;go_wp2_with fail
     go_step3
     show JP w s 0 _ _∧_;refine⟨⟨i,fr,_,out,v5,v6,_,_,_,_,_,_,_,_,_,_,_,_,_,_,_,_,_,_,_,_,_,_,_,_,_,_,_,_,_,_,_,_,_,_,_,_,_,_,_,_,_,_,_,_,_,_,_,_,_,_,_,_,_,_,_,_,_,_,_,_,_,_,_,_,rfl,by omega,hP,.inr (.inr (.inr ⟨rfl,by omega,HE.out⟩))⟩,?_⟩;simp[muP]
    ·have HE:Hid (wordsR s 0 []=wordsR s (i+1) out):=heq.trans (wordsR_1 hlt hk);clear hk;rcases h2 with h2|h2
     all_goals
      go_wp2_with fail
      go_step3
      show JP w s 2 _ _∧_;refine⟨⟨i,fr,_,out,v5,v6,_,_,_,_,_,_,_,_,_,_,_,_,_,_,_,_,_,_,_,_,_,_,_,_,_,_,_,_,_,_,_,_,_,_,_,_,_,_,_,_,_,_,_,_,_,_,_,_,_,_,_,_,_,_,_,_,_,_,_,_,_,_,_,_,rfl,by omega,hP,.inr (.inl ⟨rfl,hlt,by omega,HE.out⟩)⟩,?_⟩;simp[muP]
    ·have hsw:=sign_word hlt h3;have HE:Hid (wordsR s 0 []=wordsR s (i+1) (out++[s.extract i (i+1)])):=heq.trans (wordsR_2 hlt hk);have HW:=hide hsw;clear hk hsw;obtain⟨h2a,h2b⟩:=not_or.1 h2;have q0:((s[i].toNat:Int) == 35)=false:=beq_false_of_ne h1;have q1:((s[i].toNat:Int) == 32)=false:=beq_false_of_ne h2a;have q2:((s[i].toNat:Int) == 9)=false:=beq_false_of_ne h2b;clear h2;have q3:(((s[i].toNat:Int) == 61) || ((s[i].toNat:Int) == 38) || ((s[i].toNat:Int) == 42))=true:=by
      rcases h3 with h3|h3|h3<;>simp[h3]
     have hP2:∀(w1:World) (v5':Value),w1.ownsRow w.heap.size 5 1 v5' ((shapeL out).length+1) (cellsB (shapeL out)++[.int .u8 s[i].toNat])→w1.ownsRow w.heap.size 9 1 v6 (nmsL out).length ((nmsL out).map Value.string)→Below w.heap.size w w1→PcInv w w1 s (out++[s.extract i (i+1)]) v5' v6:=by
      intro w1 v5' ho5 ho6 hb;have e5:shapeL (out++[s.extract i (i+1)])=shapeL out++[s[i]]:=by simp[shapeL,HW.out.2.2]
      have e6:nmsL (out++[s.extract i (i+1)])=nmsL out:=by simp[nmsL,HW.out.2.1]
      refine⟨?_,by rw[e6];exact ho6,?_,hb⟩
      ·rw[e5];simpa[cellsB]using ho5
      ·intro x hx;rcases List.mem_append.1 hx with hx|hx
       ·exact hP.word x hx
       ·rw[List.mem_singleton.1 hx];exact HW.out.1
     have HP2:=hide hP2;clear hP2;rcases h3 with h3|h3|h3
     all_goals
      rw[h3]at HP2;go_wp2_with (first|(at_builtin;refine wpList_append_own _ rfl _ _ 116 rfl w.heap.size 5 j0 (.int .u8 0) 1 1 Tryz.underlying116 hj0 hy0 hy1 hy2 rfl (by decide) _ _ _ rfl (hP.own5.alloc _) ⟨w'.heap.size,0,none⟩ 1 1 [.int .u8 _] rfl rfl (cell_one_new _ _ _) ?x2 ?x3 ?x4 ?x5 ?_)|go_in)
      case x2=>first|rfl|(intro u hu;rw[List.mem_singleton.1 hu];rfl)
      case x3=>unfold maxLen;omega
      case x4=>omega
      case x5=>have:=hP.blw.size;simp;omega
      intro v5' w1 hown1 hgrow1 _;have hb1:Below w.heap.size w w1:=(hP.blw.alloc hP.blw.size _).grown hgrow1 (by have:=hP.blw.size;simp;omega) (fun j hj=>(hP.own5.lt j hj).1);have ho6:w1.ownsRow w.heap.size 9 1 v6 (nmsL out).length ((nmsL out).map Value.string):=(hP.own6.alloc _).kept hgrow1 (rows_apart hP.own6 hP.own5 (by decide));go_wp2_with fail
      go_step3
      show JP w s 2 _ _∧_;refine⟨⟨i,fr,_,out++[s.extract i (i+1)],v5',v6,_,_,_,_,_,_,_,_,_,_,_,_,_,_,_,_,_,_,_,_,_,_,_,_,_,_,_,_,_,_,_,_,_,_,_,_,_,_,_,_,_,_,_,_,_,_,_,_,_,_,_,_,_,_,_,_,_,_,_,_,_,_,_,_,rfl,by omega,HP2.out w1 v5' (by first|exact hown1|(rw[hsl];exact hown1)) ho6 hb1,.inr (.inl ⟨rfl,hlt,by simp;omega,HE.out⟩)⟩,?_⟩;simp[muP]
    ·have HE:Hid (wordsR s 0 []=wordsR s (nEnd s (i+1)) (out++[s.extract i (nEnd s (i+1))])):=heq.trans (wordsR_3 hlt hk);have HM:Hid (isNm (s.extract i (nEnd s (i+1)))=true):=name_word hlt h4;clear hk;have HC:Hid (startB (s[i].toNat:Int)=true):=h4;clear h4;obtain⟨h2a,h2b⟩:=not_or.1 h2;obtain⟨h3a,h3c⟩:=not_or.1 h3;obtain⟨h3b,h3c⟩:=not_or.1 h3c;have q0:((s[i].toNat:Int) == 35)=false:=beq_false_of_ne h1;have q1:((s[i].toNat:Int) == 32)=false:=beq_false_of_ne h2a;have q2:((s[i].toNat:Int) == 9)=false:=beq_false_of_ne h2b;have q3:((s[i].toNat:Int) == 61)=false:=beq_false_of_ne h3a;have q4:((s[i].toNat:Int) == 38)=false:=beq_false_of_ne h3b;have q5:((s[i].toNat:Int) == 42)=false:=beq_false_of_ne h3c;clear h2 h3;go_wp2_with fail
     refine(begins_any _ _).mono ?_
     rintro e w2 ⟨rfl,rfl⟩;rw[HC.out];go_wp2_with fail
     go_step3
     show JP w s 3 _ _∧_;refine⟨⟨i,i,_,out,v5,v6,_,_,_,_,_,_,_,_,_,_,_,_,_,_,_,_,_,_,_,_,_,_,_,_,_,_,_,_,_,_,_,_,_,_,_,_,_,_,_,_,_,_,_,_,_,_,_,_,_,_,_,_,_,_,_,_,_,_,_,_,_,_,_,_,rfl,by omega,hP,.inr (.inr (.inl ⟨rfl,Nat.le_refl _,hlt,hol,HM.out,HE.out,rfl⟩))⟩,?_⟩;simp[muP]
    ·have HE:Hid (wordsR s 0 []=none):=heq.trans (wordsR_4 hlt hk);clear hk;have HC:Hid (startB (s[i].toNat:Int)=false):=h4;clear h4;obtain⟨h2a,h2b⟩:=not_or.1 h2;obtain⟨h3a,h3c⟩:=not_or.1 h3;obtain⟨h3b,h3c⟩:=not_or.1 h3c;have q0:((s[i].toNat:Int) == 35)=false:=beq_false_of_ne h1;have q1:((s[i].toNat:Int) == 32)=false:=beq_false_of_ne h2a;have q2:((s[i].toNat:Int) == 9)=false:=beq_false_of_ne h2b;have q3:((s[i].toNat:Int) == 61)=false:=beq_false_of_ne h3a;have q4:((s[i].toNat:Int) == 38)=false:=beq_false_of_ne h3b;have q5:((s[i].toNat:Int) == 42)=false:=beq_false_of_ne h3c;clear h2 h3;go_wp2_with fail
     refine(begins_any _ _).mono ?_
     rintro e w2 ⟨rfl,rfl⟩;rw[HC.out];go_wp2_with fail
     simp only[jumpsTo];exact bodyPost_ret (v:=.tuple #[.string ⟨#[]⟩,.slice none 0 0,.bool false]) (by simp[results,Tryz.results133,go_sem]) rfl (.inl ⟨HE.out,rfl,hP.blw⟩)
   ·have hie:i=s.size:=by omega
    subst hie;have HE:Hid (wordsR s 0 []=some out):=heq.trans (wordsR_end (Nat.le_refl _));go_wp2_with fail
    go_step3
    show JP w s 0 _ _∧_;refine⟨⟨s.size,fr,_,out,v5,v6,_,_,_,_,_,_,_,_,_,_,_,_,_,_,_,_,_,_,_,_,_,_,_,_,_,_,_,_,_,_,_,_,_,_,_,_,_,_,_,_,_,_,_,_,_,_,_,_,_,_,_,_,_,_,_,_,_,_,_,_,_,_,_,_,rfl,by omega,hP,.inr (.inr (.inr ⟨rfl,by omega,HE.out⟩))⟩,?_⟩;simp[muP]
  ·refine⟨_,rfl,?_⟩;go_wp2_with fail
   go_step3
   show JP w s 1 _ _∧_;refine⟨⟨i+1,fr,_,out,v5,v6,_,_,_,_,_,_,_,_,_,_,_,_,_,_,_,_,_,_,_,_,_,_,_,_,_,_,_,_,_,_,_,_,_,_,_,_,_,_,_,_,_,_,_,_,_,_,_,_,_,_,_,_,_,_,_,_,_,_,_,_,_,_,_,_,rfl,by omega,hP,.inl ⟨rfl,hi,hol,heq⟩⟩,?_⟩;simp[muP,intOf];omega
  ·have hend:∀k,k=nEnd s (i+1)→i+1=k→isNm (s.extract fr (i+1))=true∧wordsR s 0 []=wordsR s (i+1) (out++[s.extract fr (i+1)]):=by
    intro k e1 e2;subst e2;rw[hne,← e1]at heq hnm;exact⟨hnm,heq⟩
   have hlast:nEnd s (i+1)=i+1→∀(w1:World) (v5':Value),w1.ownsRow w.heap.size 5 1 v5' ((shapeL out).length+1) (cellsB (shapeL out)++[.int .u8 110])→w1.ownsRow w.heap.size 9 1 v6 (nmsL out).length ((nmsL out).map Value.string)→Below w.heap.size w w1 →
     ∀(w2:World) (v6':Value),w2.ownsRow w.heap.size 5 1 v5' ((shapeL out).length+1) (cellsB (shapeL out)++[.int .u8 110])→w2.ownsRow w.heap.size 9 1 v6' ((nmsL out).length+1) ((nmsL out).map Value.string++[.string (s.extract fr (i+1))])→Below w.heap.size w w2→PcInv w w2 s (out++[s.extract fr (i+1)]) v5' v6':=by
    intro he w1 v5' _ _ _ w2 v6' ho5 ho6 hb;obtain⟨hn,_⟩:=hend _ rfl he.symm;have e5:shapeL (out++[s.extract fr (i+1)])=shapeL out++[110]:=by
     have:shape1 (s.extract fr (i+1))=110:=by unfold shape1;rw[if_pos (show nameB _=true from hn)]
     simp[shapeL,this]
    have e6:nmsL (out++[s.extract fr (i+1)])=nmsL out++[s.extract fr (i+1)]:=by simp[nmsL,hn]
    refine⟨?_,by rw[e6];simpa using ho6,?_,hb⟩
    ·rw[e5];simpa[cellsB]using ho5
    ·intro x hx;rcases List.mem_append.1 hx with hx|hx
     ·exact hP.word x hx
     ·rw[List.mem_singleton.1 hx];exact .inl hn
   have HL:=hide hlast;have HD:=hide hend;clear hlast hend;refine⟨_,rfl,?_⟩;by_cases hlt:i+1<s.size
   ·cases hc:partB (s[i+1].toNat:Int)
    ·have HC:Hid (partB (s[i+1].toNat:Int)=false):=hc;have HN:Hid (nEnd s (i+1)=i+1):=nEnd_no hlt hc;clear hc;go_wp2_with fail
     refine(goesOn_any _ _).mono ?_
     rintro e' wc ⟨rfl,rfl⟩;rw[HC.out];go_wp2_with (first|(at_builtin;refine wpList_append_own _ rfl _ _ 116 rfl w.heap.size 5 j0 (.int .u8 0) 1 1 Tryz.underlying116 hj0 hy0 hy1 hy2 rfl (by decide) _ _ _ rfl (hP.own5.alloc _) ⟨wc.heap.size,0,none⟩ 1 1 [.int .u8 110] rfl rfl (cell_one_new _ _ _) ?x2 ?x3 ?x4 ?x5 ?_)|go_in)
     case x2=>first|rfl|(intro u hu;rw[List.mem_singleton.1 hu];rfl)
     case x3=>unfold maxLen;omega
     case x4=>omega
     case x5=>have:=hP.blw.size;simp;omega
     intro v5' w1 hown1 hgrow1 _;have hb1:Below w.heap.size w w1:=(hP.blw.alloc hP.blw.size _).grown hgrow1 (by have:=hP.blw.size;simp;omega) (fun j hj=>(hP.own5.lt j hj).1);have ho6:w1.ownsRow w.heap.size 9 1 v6 (nmsL out).length ((nmsL out).map Value.string):=(hP.own6.alloc _).kept hgrow1 (rows_apart hP.own6 hP.own5 (by decide));have ho5:w1.ownsRow w.heap.size 5 1 v5' ((shapeL out).length+1) (cellsB (shapeL out)++[.int .u8 110]):=by first|exact hown1|(rw[hsl];exact hown1)
     clear hown1 hgrow1;go_wp2_with fail
     refine(clone_any _ _ (by rw[ByteArray.size_extract];omega)).mono ?_
     rintro e w2 ⟨rfl,hb2⟩;have hb3:Below w.heap.size w w2:=hb1.trans (hb2.mono hb1.size);have ho52:=own_below ho5 hb2;have ho62:=own_below ho6 hb2;go_wp2_with (first|(at_builtin;refine wpList_append_own _ rfl _ _ 44 rfl w.heap.size 9 i0 (.string ⟨#[]⟩) 1 16 Tryz.underlying44 hi0 hz0 hz1 hz2 rfl (by decide) _ _ _ rfl (ho62.alloc _) ⟨w2.heap.size,0,none⟩ 1 1 [.string (s.extract fr (i+1))] rfl rfl (cell_one_new _ _ _) ?y2 ?y3 ?y4 ?y5 ?_)|go_in)
     case y2=>first|rfl|(intro u hu;rw[List.mem_singleton.1 hu];rfl)
     case y3=>unfold maxLen;omega
     case y4=>omega
     case y5=>have:=hb3.size;simp;omega
     intro v6' w3 hown3 hgrow3 _;have hb4:Below w.heap.size w w3:=(hb3.alloc hb3.size _).grown hgrow3 (by have:=hb3.size;simp;omega) (fun j hj=>(ho62.lt j hj).1);have ho53:=(ho52.alloc _).kept hgrow3 (rows_apart ho52 ho62 (by decide));go_wp2_with fail
     go_step3
     show JP w s 1 _ _∧_;refine⟨⟨i+1,fr,_,out++[s.extract fr (i+1)],v5',v6',_,_,_,_,_,_,_,_,_,_,_,_,_,_,_,_,_,_,_,_,_,_,_,_,_,_,_,_,_,_,_,_,_,_,_,_,_,_,_,_,_,_,_,_,_,_,_,_,_,_,_,_,_,_,_,_,_,_,_,_,_,_,_,_,rfl,by omega,HL.out HN.out w1 v5' ho5 ho6 hb1 w3 v6' ho53 hown3 hb4,.inl ⟨rfl,by omega,by simp;omega,(HD.out _ rfl HN.out.symm).2⟩⟩,?_⟩;simp[muP,intOf];omega
    ·have HC:Hid (partB (s[i+1].toNat:Int)=true):=hc;have HN:Hid (nEnd s (fr+1)=nEnd s (i+1+1)):=hne.trans (nEnd_yes hlt hc);clear hc;go_wp2_with fail
     refine(goesOn_any _ _).mono ?_
     rintro e' wc ⟨rfl,rfl⟩;rw[HC.out];go_wp2_with fail
     go_step3
     show JP w s 3 _ _∧_;refine⟨⟨i+1,fr,_,out,v5,v6,_,_,_,_,_,_,_,_,_,_,_,_,_,_,_,_,_,_,_,_,_,_,_,_,_,_,_,_,_,_,_,_,_,_,_,_,_,_,_,_,_,_,_,_,_,_,_,_,_,_,_,_,_,_,_,_,_,_,_,_,_,_,_,_,rfl,by omega,hP,.inr (.inr (.inl ⟨rfl,by omega,hlt,hol,hnm,heq,HN.out⟩))⟩,?_⟩;simp[muP,intOf];omega
   ·have HN:Hid (nEnd s (i+1)=i+1):=nEnd_end (by omega);go_wp2_with (first|(at_builtin;refine wpList_append_own _ rfl _ _ 116 rfl w.heap.size 5 j0 (.int .u8 0) 1 1 Tryz.underlying116 hj0 hy0 hy1 hy2 rfl (by decide) _ _ _ rfl (hP.own5.alloc _) ⟨w'.heap.size,0,none⟩ 1 1 [.int .u8 110] rfl rfl (cell_one_new _ _ _) ?x2 ?x3 ?x4 ?x5 ?_)|go_in)
    case x2=>first|rfl|(intro u hu;rw[List.mem_singleton.1 hu];rfl)
    case x3=>unfold maxLen;omega
    case x4=>omega
    case x5=>have:=hP.blw.size;simp;omega
    intro v5' w1 hown1 hgrow1 _;have hb1:Below w.heap.size w w1:=(hP.blw.alloc hP.blw.size _).grown hgrow1 (by have:=hP.blw.size;simp;omega) (fun j hj=>(hP.own5.lt j hj).1);have ho6:w1.ownsRow w.heap.size 9 1 v6 (nmsL out).length ((nmsL out).map Value.string):=(hP.own6.alloc _).kept hgrow1 (rows_apart hP.own6 hP.own5 (by decide));have ho5:w1.ownsRow w.heap.size 5 1 v5' ((shapeL out).length+1) (cellsB (shapeL out)++[.int .u8 110]):=by first|exact hown1|(rw[hsl];exact hown1)
    clear hown1 hgrow1;go_wp2_with fail
    refine(clone_any _ _ (by rw[ByteArray.size_extract];omega)).mono ?_
    rintro e w2 ⟨rfl,hb2⟩;have hb3:Below w.heap.size w w2:=hb1.trans (hb2.mono hb1.size);have ho52:=own_below ho5 hb2;have ho62:=own_below ho6 hb2;go_wp2_with (first|(at_builtin;refine wpList_append_own _ rfl _ _ 44 rfl w.heap.size 9 i0 (.string ⟨#[]⟩) 1 16 Tryz.underlying44 hi0 hz0 hz1 hz2 rfl (by decide) _ _ _ rfl (ho62.alloc _) ⟨w2.heap.size,0,none⟩ 1 1 [.string (s.extract fr (i+1))] rfl rfl (cell_one_new _ _ _) ?y2 ?y3 ?y4 ?y5 ?_)|go_in)
    case y2=>first|rfl|(intro u hu;rw[List.mem_singleton.1 hu];rfl)
    case y3=>unfold maxLen;omega
    case y4=>omega
    case y5=>have:=hb3.size;simp;omega
    intro v6' w3 hown3 hgrow3 _;have hb4:Below w.heap.size w w3:=(hb3.alloc hb3.size _).grown hgrow3 (by have:=hb3.size;simp;omega) (fun j hj=>(ho62.lt j hj).1);have ho53:=(ho52.alloc _).kept hgrow3 (rows_apart ho52 ho62 (by decide));go_wp2_with fail
    go_step3
    show JP w s 1 _ _∧_;refine⟨⟨i+1,fr,_,out++[s.extract fr (i+1)],v5',v6',_,_,_,_,_,_,_,_,_,_,_,_,_,_,_,_,_,_,_,_,_,_,_,_,_,_,_,_,_,_,_,_,_,_,_,_,_,_,_,_,_,_,_,_,_,_,_,_,_,_,_,_,_,_,_,_,_,_,_,_,_,_,_,_,rfl,by omega,HL.out HN.out w1 v5' ho5 ho6 hb1 w3 v6' ho53 hown3 hb4,.inl ⟨rfl,by omega,by simp;omega,(HD.out _ rfl HN.out.symm).2⟩⟩,?_⟩;simp[muP,intOf];omega
  ·refine⟨_,rfl,?_⟩;go_wp2_with fail
   rw[shape_string hP.own5];simp only[Result.andThen];rw[Oper.upon_value];go_wp2_with fail
   simp only[jumpsTo];exact bodyPost_ret (v:=.tuple #[.string ⟨(shapeL out).toArray⟩,v6,.bool true]) (by simp[results,Tryz.results133,go_sem]) rfl (.inr ⟨v6,out,heq,hP.word,hol,rfl,hP.own6,hP.blw⟩)
 ·intro hpass;go_wp2_with fail
  go_step3
  rename_i K hK;obtain⟨rest,hr,hw⟩:=hpass 1 _ w ⟨0,0,0,[],.slice none 0 0,.slice none 0 0,_,_,_,_,_,_,_,_,_,_,_,_,_,_,_,_,_,_,_,_,_,_,_,_,_,_,_,_,_,_,_,_,_,_,_,_,_,_,_,_,_,_,_,_,_,_,_,_,_,_,_,_,_,_,_,_,_,_,_,_,_,_,_,_,rfl,rfl,⟨World.ownsRow_nil _ _ _ _,World.ownsRow_nil _ _ _ _,by simp,Below.refl _ _⟩,.inl ⟨rfl,Nat.zero_le _,Nat.le_refl _,rfl⟩⟩;cases hr;exact hK _ _ hw
end
end Go.Proofs.YtiamlbhkiehilaaGreatDoor
