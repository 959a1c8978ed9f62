import Derived.Test.YtiamlbhkiehilaaGreatDoorKq11
import Derived.Test.YtiamlbhkiehilaaGreatDoorKq10
import Derived.Test.YtiamlbhkiehilaaGreatDoorKq33
namespace Go.Proofs.YtiamlbhkiehilaaGreatDoor
section
open Go.RowKit Go.Maps
structure CrInv(w w':World)(br:Nat)(nm:ByteArray)(out:List ByteArray)(tv:Value):Prop where
 lt:w.heap.size<br
 cell:w'.heap[br]?=some (.cells #[.string nm,tv] 51 (0,0))
 own:w'.ownsRow w.heap.size 9 1 tv out.length (out.map Value.string)
 slot:w'.heap[w.heap.size]?=some (.cells #[.string ⟨#[]⟩,.slice none 0 0] 51 (0,0))
 blw:Below w.heap.size w w'
def CL(s:ByteArray)(l i fr:Nat)(nm:ByteArray)(out:List ByteArray):Prop:=
 (l=1∧i≤s.size∧out.length≤i∧((nm=noB∧i=0∧out=[])∨(0<nm.size∧lineRow s=if startB (byteAt s i)=true then(gapR s (nEnd s (i+1)) (out++[s.extract i (nEnd s (i+1))])).map (fun t=>⟨nm,t⟩)else none))) ∨
 (l=2∧fr≤i∧i<s.size∧out.length≤fr∧startB (byteAt s fr)=true∧nEnd s (fr+1)=nEnd s (i+1)∧((nm=noB∧fr=0∧out=[])∨(0<nm.size∧lineRow s=(gapR s (nEnd s (fr+1)) (out++[s.extract fr (nEnd s (fr+1))])).map (fun t=>⟨nm,t⟩)))) ∨
 (l=3∧fr<i∧i≤s.size∧out.length<i∧0<nm.size∧lineRow s=(gapR s i (out++[s.extract fr i])).map (fun t=>⟨nm,t⟩)) ∨
 (l=4∧i≤s.size∧out.length≤i∧0<nm.size∧lineRow s=(gapR s i out).map (fun t=>⟨nm,t⟩)) ∨
 (l=0∧lineRow s=none)
set_option maxRecDepth 1000000 in
def CP(w:World)(s:ByteArray)(br:Nat)(l:Nat)(a:Act)(w':World):Prop:=
 ∃(i fr:Nat) (ai:Int) (nm:ByteArray) (out:List ByteArray) (tv u7 u8 u9 u10 u11 u12 u13 u14 u15 u16 u17 u18 u19 u20 u21 u22 u23 u24 u25 u26 u27 u28 u29 u30 u31 u32 u33 u34 u35 u36 u37 u38 u39 u40 u41 u42 u43 u44 u45 u46 u47 u48 u49 u50 u51 u52 u53 u54 u55 u56 u57 u58 u59 u60 u61 u62 u63 u64 u65 u66 u67 u68 u69 u70 u71 u72:Value),a=⟨#[.string s,undef,.pointer (some ⟨w.heap.size,0,none⟩),.bool false,.pointer (some ⟨br,0,none⟩),.int .i64 ai,.int .i64 fr,u7,u8,u9,u10,u11,u12,u13,u14,u15,u16,u17,u18,u19,u20,u21,u22,u23,u24,u25,u26,u27,u28,u29,u30,u31,u32,u33,u34,u35,u36,u37,u38,u39,u40,u41,u42,u43,u44,u45,u46,u47,u48,u49,u50,u51,u52,u53,u54,u55,u56,u57,u58,u59,u60,u61,u62,u63,u64,u65,u66,u67,u68,u69,u70,u71,u72,undef],[]⟩∧ai=(i:Int)∧CrInv w w' br nm out tv∧CL s l i fr nm out
def muC(s:ByteArray)(l:Nat)(a:Act)(_:World):Nat:=if l=0 then 0 else 2*(s.size-(intOf (a.tmps.getD 5 undef)).toNat)+1
theorem passes5{J X:Nat→Act→World→Prop}(h:∀l a w,J l a w→l≤4)(p0:∀a w,J 0 a w→X 0 a w)(p4:(∀a w,J 0 a w→X 0 a w)→∀a w,J 4 a w→X 4 a w)(p3:(∀a w,J 4 a w→X 4 a w)→∀a w,J 3 a w→X 3 a w)
  (p2:∀a w,J 2 a w→X 2 a w) (p1:(∀a w,J 2 a w→X 2 a w)→∀a w,J 1 a w→X 1 a w):∀l a w,J l a w→X l a w:=by
 intro l a w hj;have hl:=h l a w hj;match l,hl with
 |0,_=>exact p0 a w hj
 |1,_=>exact p1 p2 a w hj
 |2,_=>exact p2 a w hj
 |3,_=>exact p3 (p4 p0) a w hj
 |4,_=>exact p4 p0 a w hj
theorem CP.le{w:World}{s:ByteArray}{br l:Nat}{a:Act}{w':World}(h:CP w s br l a w'):l≤4:=by
 obtain⟨i,fr,ai,nm,out,tv,u7,u8,u9,u10,u11,u12,u13,u14,u15,u16,u17,u18,u19,u20,u21,u22,u23,u24,u25,u26,u27,u28,u29,u30,u31,u32,u33,u34,u35,u36,u37,u38,u39,u40,u41,u42,u43,u44,u45,u46,u47,u48,u49,u50,u51,u52,u53,u54,u55,u56,u57,u58,u59,u60,u61,u62,u63,u64,u65,u66,u67,u68,u69,u70,u71,u72,_,_,_,hJ⟩:=h;rcases hJ with h|h|h|h|h<;>omega
theorem nonempty_list{nm:ByteArray}(h:0<nm.size):nm.toList.isEmpty=false:=by
 rw[ByteArray.toList_eq];obtain⟨⟨l⟩⟩:=nm;cases l with
 |nil=>exact absurd h (by decide)
 |cons a b=>rfl
theorem jumps_mono{J:Nat→Act→World→Prop}{μ:Nat→Act→World→Nat}{Q:Exit→Act→World→Prop}{m n:Nat}(h:m≤n):∀e a w,jumpsTo (fun l' a' w'=>J l' a' w'∧μ l' a' w'<m) Q e a w→jumpsTo (fun l' a' w'=>J l' a' w'∧μ l' a' w'<n) Q e a w:=by
 intro e a w he;cases e
 case goto=>exact⟨he.1,Nat.lt_of_lt_of_le he.2 h⟩
 all_goals exact he
set_option maxRecDepth 1000000 in
set_option maxHeartbeats 2000000 in
theorem crow_any(s:ByteArray)(w:World)(hs:s.size≤1000000) :
  Calls Tryz.prog 70 #[.string s] w fun e w'=>RowRes (lineRow s) w w' e:=by
 obtain⟨i0,hi0,hz0,hz1,hz2⟩:=info_parts infoStr;have g0:=heap_new w (.cells #[.string ⟨#[]⟩,.slice none 0 0] 51);have hb0:Below w.heap.size w (w.alloc (.cells #[.string ⟨#[]⟩,.slice none 0 0] 51)):=(Below.refl _ _).alloc (Nat.le_refl _) _;go_enter Tryz.func70,Tryz.ntmps70
 go_wp2;generalize w.alloc (.cells #[.string ⟨#[]⟩,.slice none 0 0] 51)=w0 at g0 hb0 ⊢;have hl0:=lt_of_heap g0;refine wp_scope_labels (CP w s w0.heap.size) (muC s) (passes5 (fun l a w h=>h.le) ?_ ?_ ?_ ?_ ?_) ?_
 ·rintro a w' ⟨i,fr,ai,nm,out,tv,u7,u8,u9,u10,u11,u12,u13,u14,u15,u16,u17,u18,u19,u20,u21,u22,u23,u24,u25,u26,u27,u28,u29,u30,u31,u32,u33,u34,u35,u36,u37,u38,u39,u40,u41,u42,u43,u44,u45,u46,u47,u48,u49,u50,u51,u52,u53,u54,u55,u56,u57,u58,u59,u60,u61,u62,u63,u64,u65,u66,u67,u68,u69,u70,u71,u72,rfl,rfl,hP,hJ⟩;refine⟨_,rfl,?_⟩;rcases hJ with⟨h,_⟩|⟨h,_⟩|⟨h,_⟩|⟨h,_⟩|⟨_,hn⟩
  ·cases h
  ·cases h
  ·cases h
  ·cases h
  obtain⟨c0,c1,f0,f1⟩:=err_cells hP.slot;have hbw:=hP.blw;go_wp2_with fail
  simp only[jumpsTo];refine bodyPost_ret (v:=.tuple #[.agg #[.string ⟨#[]⟩,.slice none 0 0],.bool false]) (by simp[results,Tryz.results70,go_sem,c0,c1]) rfl (.inl ⟨hn,rfl,?_⟩);exact(hbw.setCell (p:=⟨w.heap.size,0,none⟩) (Nat.le_refl _) _).setCell (p:=⟨w.heap.size,1,none⟩) (Nat.le_refl _) _
 ·intro hwrong0;have hwrong:=hide hwrong0;clear hwrong0;rintro a w' ⟨i,fr,ai,nm,out,tv,u7,u8,u9,u10,u11,u12,u13,u14,u15,u16,u17,u18,u19,u20,u21,u22,u23,u24,u25,u26,u27,u28,u29,u30,u31,u32,u33,u34,u35,u36,u37,u38,u39,u40,u41,u42,u43,u44,u45,u46,u47,u48,u49,u50,u51,u52,u53,u54,u55,u56,u57,u58,u59,u60,u61,u62,u63,u64,u65,u66,u67,u68,u69,u70,u71,u72,rfl,rfl,hP,hJ⟩;refine⟨_,rfl,?_⟩;rcases hJ with⟨h,_⟩|⟨h,_⟩|⟨h,_⟩|⟨_,hi,hol,hnm,hE⟩|⟨h,_⟩
  ·cases h
  ·cases h
  ·cases h
  ·obtain⟨ao,cap,rfl,_⟩:=own_form hP.own;by_cases hlt:i<s.size
   ·have hie:((i:Int) == (s.size:Int))=false:=beq_false_of_ne (by omega);by_cases hc:(s[i].toNat:Int)=32
    ·have hcb:((s[i].toNat:Int) == 32)=true:=by simp[hc]
     have HE:Hid (lineRow s=if startB (byteAt s (i+1))=true then(gapR s (nEnd s (i+2)) (out++[s.extract (i+1) (nEnd s (i+2))])).map (fun t=>⟨nm,t⟩)else none):=by
      unfold Hid;rw[hE,gapR_step hlt,byteAt_lt hlt];by_cases h:startB (byteAt s (i+1))=true
      ·rw[if_pos ⟨hc,h⟩,if_pos h]
      ·rw[if_neg (fun x=>h x.2),if_neg h];rfl
     clear hE;go_wp2_with fail
     go_step3
     show CP w s w0.heap.size 1 _ _∧_;refine⟨⟨i+1,fr,_,nm,out,_,_,_,_,_,_,_,_,_,_,_,_,_,_,_,_,_,_,_,_,_,_,_,_,_,_,_,_,_,_,_,_,_,_,_,_,_,_,_,_,_,_,_,_,_,_,_,_,_,_,_,_,_,_,_,_,_,_,_,_,_,_,_,_,_,_,_,rfl,by omega,hP,.inl ⟨rfl,hlt,by omega,.inr ⟨hnm,HE.out⟩⟩⟩,?_⟩;simp[muC,intOf];omega
    ·have hcb:((s[i].toNat:Int) == 32)=false:=beq_false_of_ne hc;have HE:Hid (lineRow s=none):=by
      unfold Hid;rw[hE,gapR_step hlt,byteAt_lt hlt,if_neg (fun x=>hc x.1)];rfl
     clear hE;go_wp2_with fail
     go_step3
     rename_i K hK hT;obtain⟨rest,hr,hw⟩:=hwrong.out _ w' ⟨i,fr,_,nm,out,_,_,_,_,_,_,_,_,_,_,_,_,_,_,_,_,_,_,_,_,_,_,_,_,_,_,_,_,_,_,_,_,_,_,_,_,_,_,_,_,_,_,_,_,_,_,_,_,_,_,_,_,_,_,_,_,_,_,_,_,_,_,_,_,_,_,_,rfl,rfl,hP,.inr (.inr (.inr (.inr ⟨rfl,HE.out⟩)))⟩;cases hr;exact hK _ _ (Code.wp_mono (jumps_mono (by simp[muC])) hw)
   ·have hie:i=s.size:=by omega
    subst hie;have HE:Hid (lineRow s=some ⟨nm,out⟩):=by
     unfold Hid;rw[hE,gapR_end (Nat.le_refl _)];rfl
    clear hE;obtain⟨c0,c1,f0,f1⟩:=err_cells hP.slot;obtain⟨d0,d1,e0,e1⟩:=err_cells hP.cell;have hbw:=hP.blw;have how:=hide hP.own;have HSL:=hide hP.slot;go_wp2_with fail
    simp only[jumpsTo];refine bodyPost_ret (v:=.tuple #[.agg #[.string nm,.slice ao out.length cap],.bool true]) (by simp[results,Tryz.results70,go_sem,c0,c1]) rfl (.inr ⟨⟨nm,out⟩,.slice ao out.length cap,HE.out,rfl,?_,?_⟩)
    ·exact ownsRow_keep how.out (by decide) HSL.out
    ·exact(hbw.setCell (p:=⟨w.heap.size,0,none⟩) (Nat.le_refl _) _).setCell (p:=⟨w.heap.size,1,none⟩) (Nat.le_refl _) _
  ·cases h
 ·intro hgap0;have hgap:=hide hgap0;clear hgap0;rintro a w' ⟨i,fr,ai,nm,out,tv,u7,u8,u9,u10,u11,u12,u13,u14,u15,u16,u17,u18,u19,u20,u21,u22,u23,u24,u25,u26,u27,u28,u29,u30,u31,u32,u33,u34,u35,u36,u37,u38,u39,u40,u41,u42,u43,u44,u45,u46,u47,u48,u49,u50,u51,u52,u53,u54,u55,u56,u57,u58,u59,u60,u61,u62,u63,u64,u65,u66,u67,u68,u69,u70,u71,u72,rfl,rfl,hP,hJ⟩;refine⟨_,rfl,?_⟩;rcases hJ with⟨h,_⟩|⟨h,_⟩|⟨_,hfi,hi,hol,hnm,hE⟩|⟨h,_⟩|⟨h,_⟩
  ·cases h
  ·cases h
  ·obtain⟨ao,cap,rfl,_⟩:=own_form hP.own;have HE:=hide hE;have HP:=hide hP;obtain⟨d0,d1,e0,e1⟩:=err_cells hP.cell;have hxs:(s.extract fr i).size≤1000000:=by rw[ByteArray.size_extract];omega
   have hwz:=hP.blw.size;have hbl:=lt_of_heap hP.cell;have hlt:=hP.lt;clear hE hP;have hin:(fr:Int)≤(i:Int):=by omega
   go_wp2_with fail
   go_region_law (first
    |(refine step_clone rfl 57 rfl (s.extract fr i) hxs (by simp[Act.eval,Act.put]) ?_;intro w2 hb2;have hb3:Below w'.heap.size w' w2:=⟨hb2.os,hb2.tape,hb2.output,hb2.size,hb2.block⟩;have hzw:w'.heap.size≤w2.heap.size:=hb3.size;have hbl2:w0.heap.size<w2.heap.size:=Nat.lt_of_lt_of_le hbl hzw;have gr2:=Below.heapAt hb3 HP.out.cell (lt_of_heap HP.out.cell);have gs2:=Below.heapAt hb3 HP.out.slot (lt_of_heap HP.out.slot);obtain⟨q0,q1,q2,q3⟩:=err_cells gr2;have HO2:=hide (own_below HP.out.own hb3);have HB2:=hide (HP.out.blw.trans (hb3.mono HP.out.blw.size));have HOW:=hide ((own_below HP.out.own hb3).alloc (.cells #[.string (s.extract fr i)] 9));have HCN:=hide (cells_new w2 #[.string (s.extract fr i)] 9 [.string (s.extract fr i)] rfl);have HBN:=hide (own_head HO2.out gr2 (by decide));have HSN:=hide (own_head HO2.out gs2 (by decide));have HG2:=hide gr2;have HS2:=hide gs2;clear hb2 gr2 gs2 hb3)
    | (refine step_append_lies _ rfl (.tmp 53) (.tmp 59) 44 rfl w.heap.size 9 i0 (.string ⟨#[]⟩) 1 16 Tryz.underlying44 hi0 hz0 hz1 hz2 rfl (by decide) (.slice ao out.length cap) out.length (out.map Value.string) (by simp[Act.eval]) HOW.out ⟨w2.heap.size,0,none⟩ 1 1 [.string (s.extract fr i)] (by simp[Act.eval]) rfl HCN.out (by intro u hu;rw[List.mem_singleton.1 hu];rfl) (by decide) (by unfold maxLen;omega) (by omega) (by simp;omega) _ rfl ?_;intro g cp w3 ho hg hbk hgl;have hr3:w3.heap[w0.heap.size]?=some (.cells #[.string nm,.slice ao out.length cap] 51 (0,0)):=(hg.block w0.heap.size (by simp;omega) HBN.out).trans (heap_old HG2.out _);obtain⟨q4,q5,q6,q7⟩:=err_cells hr3;have hs3:w3.heap[w.heap.size]?=some (.cells #[.string ⟨#[]⟩,.slice none 0 0] 51 (0,0)):=(hg.block w.heap.size (by simp;omega) HSN.out).trans (heap_old HS2.out _);have hb4:Below w.heap.size w w3:=(HB2.out.alloc (by omega) (.cells #[.string (s.extract fr i)] 9)).grown hg (by simp;omega) (fun x hx=>(HO2.out.lt x hx).1)))
   all_goals
    go_wp2_with fail
    go_step3
    rename_i K hK;obtain⟨rest,hr,hw⟩:=hgap.out _ (w3.setCell ⟨w0.heap.size,1,none⟩ (.slice (some ⟨g,0,none⟩) (out.length+1) cp)) ⟨i,fr,_,nm,out++[s.extract fr i],_,_,_,_,_,_,_,_,_,_,_,_,_,_,_,_,_,_,_,_,_,_,_,_,_,_,_,_,_,_,_,_,_,_,_,_,_,_,_,_,_,_,_,_,_,_,_,_,_,_,_,_,_,_,_,_,_,_,_,_,_,_,_,_,_,_,_,rfl,rfl,⟨hlt,(by rw[heap_set hr3 1];rfl),(by rw[List.length_append,List.map_append];exact own_store ho (by decide) hr3),(by rw[Below.heap_setCell _ _ _ _ (by show w.heap.size≠w0.heap.size;omega)];exact hs3),hb4.setCell (p:=⟨w0.heap.size,1,none⟩) (Nat.le_of_lt hlt) _⟩,.inr (.inr (.inr (.inl ⟨rfl,hi,(by rw[List.length_append];show out.length+1≤i;omega),hnm,HE.out⟩)))⟩;cases hr;exact hK _ _ (Code.wp_mono (jumps_mono (by simp[muC,intOf])) hw)
  ·cases h
  ·cases h
 ·rintro a w' ⟨i,fr,ai,nm,out,tv,u7,u8,u9,u10,u11,u12,u13,u14,u15,u16,u17,u18,u19,u20,u21,u22,u23,u24,u25,u26,u27,u28,u29,u30,u31,u32,u33,u34,u35,u36,u37,u38,u39,u40,u41,u42,u43,u44,u45,u46,u47,u48,u49,u50,u51,u52,u53,u54,u55,u56,u57,u58,u59,u60,u61,u62,u63,u64,u65,u66,u67,u68,u69,u70,u71,u72,rfl,rfl,hP,hJ⟩;refine⟨_,rfl,?_⟩;rcases hJ with⟨h,_⟩|⟨_,hfi,hi,hol,hst,hne,halt⟩|⟨h,_⟩|⟨h,_⟩|⟨h,_⟩
  ·cases h
  ·obtain⟨ao,cap,rfl,_⟩:=own_form hP.own;by_cases hpt:i+1<s.size∧partB (byteAt s (i+1))=true
   ·obtain⟨hlt,hc⟩:=hpt;rw[byteAt_lt hlt]at hc;have HC:Hid (partB (s[i+1].toNat:Int)=true):=hc;have HN:Hid (nEnd s (fr+1)=nEnd s (i+1+1)):=hne.trans (nEnd_yes hlt hc);have HA:=hide halt;have HST:=hide hst;clear hc halt hne hst;go_wp2_with fail
    refine(goesOn_any _ _).mono ?_
    rintro e' wc ⟨rfl,rfl⟩;rw[HC.out];go_wp2_with fail
    go_step3
    show CP w s w0.heap.size 2 _ _∧_;refine⟨⟨i+1,fr,_,nm,out,_,_,_,_,_,_,_,_,_,_,_,_,_,_,_,_,_,_,_,_,_,_,_,_,_,_,_,_,_,_,_,_,_,_,_,_,_,_,_,_,_,_,_,_,_,_,_,_,_,_,_,_,_,_,_,_,_,_,_,_,_,_,_,_,_,_,_,rfl,by omega,hP,.inr (.inl ⟨rfl,by omega,hlt,hol,HST.out,HN.out,HA.out⟩)⟩,?_⟩;simp[muC,intOf];omega
   ·have HN:Hid (nEnd s (fr+1)=i+1):=by
     unfold Hid;rw[hne];by_cases hlt:i+1<s.size
     ·refine nEnd_no hlt ?_
      rw[Bool.eq_false_iff];intro h;exact hpt ⟨hlt,by rw[byteAt_lt hlt];exact h⟩
     ·exact nEnd_end (by omega)
    rcases halt with⟨hn0,hf0,ho0⟩|⟨hnm,hE⟩
    ·subst hn0 hf0 ho0;have HM:Hid (lineRow s=if byteAt s (i+1)=58 then(gapR s (i+1+1) []).map (fun t=>⟨s.extract 0 (i+1),t⟩)else none):=by
      unfold Hid;rw[← mac_line];unfold macRow;have e:nEnd s 1=i+1:=HN.out;rw[e];by_cases h:byteAt s (i+1)=58
      ·rw[if_pos ⟨hst,h⟩,if_pos h]
      ·rw[if_neg (fun x=>h x.2),if_neg h]
     have hxs:(s.extract 0 (i+1)).size≤1000000:=by rw[ByteArray.size_extract];omega
     have hx0:0<(s.extract 0 (i+1)).size:=by rw[ByteArray.size_extract];omega
     have HX0:=hide hx0;have hcell:w'.heap[w0.heap.size]?=some (.cells #[.string ⟨#[]⟩,.slice ao 0 cap] 51 (0,0)):=hP.cell;obtain⟨d0,d1,e0,e1⟩:=err_cells hcell;have HCE:=hide hcell;have HP:=hide hP;have hlt0:=hP.lt;have hin:(0:Int)≤(i:Int)+1:=by omega
     have HW:Hid (∀w2,Below w'.heap.size w' w2→CrInv w (w2.setCell ⟨w0.heap.size,0,none⟩ (.string (s.extract 0 (i+1)))) w0.heap.size (s.extract 0 (i+1)) [] (.slice ao 0 cap)):=by
      intro w2 hb2;have gr2:=Below.heapAt hb2 HCE.out (lt_of_heap HCE.out);have gs2:=Below.heapAt hb2 HP.out.slot (lt_of_heap HP.out.slot);refine⟨hlt0,(by rw[heap_set gr2 0];rfl),own_store (own_below HP.out.own hb2) (by decide) gr2,(by rw[Below.heap_setCell _ _ _ _ (by show w.heap.size≠w0.heap.size;omega)];exact gs2),?_⟩;exact(HP.out.blw.trans (hb2.mono HP.out.blw.size)).setCell (p:=⟨w0.heap.size,0,none⟩) (Nat.le_of_lt hlt0) _
     clear hst hne hP hcell hx0;by_cases hlt:i+1<s.size
     ·have HC:Hid (partB (s[i+1].toNat:Int)=false):=by
       unfold Hid;rw[Bool.eq_false_iff];intro h;exact hpt ⟨hlt,by rw[byteAt_lt hlt];exact h⟩
      have hie:((i:Int)+1 == (s.size:Int))=false:=beq_false_of_ne (by omega);clear hpt;go_wp2_with fail
      refine(goesOn_any _ _).mono ?_
      rintro e' wc ⟨rfl,rfl⟩;rw[HC.out];go_wp2_with fail
      refine(clone_any _ _ hxs).mono ?_
      rintro e w2 ⟨rfl,hb2⟩;have gr2:=Below.heapAt hb2 HCE.out (lt_of_heap HCE.out);obtain⟨q0,q1,q2,q3⟩:=err_cells gr2;by_cases hcol:(s[i+1].toNat:Int)=58
      ·have hcb:((s[i+1].toNat:Int) != 58)=false:=by simp[hcol]
       have HF:Hid (lineRow s=(gapR s (i+1+1) []).map (fun t=>⟨s.extract 0 (i+1),t⟩)):=by
        unfold Hid;rw[HM.out,byteAt_lt hlt,if_pos hcol]
       go_wp2_with fail
       go_step3
       show CP w s w0.heap.size 4 _ _∧_;refine⟨⟨i+1+1,0,_,s.extract 0 (i+1),[],_,_,_,_,_,_,_,_,_,_,_,_,_,_,_,_,_,_,_,_,_,_,_,_,_,_,_,_,_,_,_,_,_,_,_,_,_,_,_,_,_,_,_,_,_,_,_,_,_,_,_,_,_,_,_,_,_,_,_,_,_,_,_,_,_,_,_,rfl,by omega,HW.out w2 hb2,.inr (.inr (.inr (.inl ⟨rfl,by omega,by simp,HX0.out,HF.out⟩)))⟩,?_⟩;simp[muC,intOf];omega
      ·have hcb:((s[i+1].toNat:Int) != 58)=true:=by simp[hcol]
       have HF:Hid (lineRow s=none):=by
        unfold Hid;rw[HM.out,byteAt_lt hlt,if_neg hcol]
       go_wp2_with fail
       go_step3
       show CP w s w0.heap.size 0 _ _∧_;refine⟨⟨i+1,0,_,s.extract 0 (i+1),[],_,_,_,_,_,_,_,_,_,_,_,_,_,_,_,_,_,_,_,_,_,_,_,_,_,_,_,_,_,_,_,_,_,_,_,_,_,_,_,_,_,_,_,_,_,_,_,_,_,_,_,_,_,_,_,_,_,_,_,_,_,_,_,_,_,_,_,rfl,by omega,HW.out w2 hb2,.inr (.inr (.inr (.inr ⟨rfl,HF.out⟩)))⟩,?_⟩;simp[muC]
     ·have hie:((i:Int)+1 == (s.size:Int))=true:=by simp;omega
      have hdl:decide ((i:Int)+1<(s.size:Int))=false:=by simp;omega
      have HF:Hid (lineRow s=none):=by
       unfold Hid;rw[HM.out,byteAt_ge (by omega),if_neg (by decide)]
      clear hpt;go_wp2_with fail
      refine(clone_any _ _ hxs).mono ?_
      rintro e w2 ⟨rfl,hb2⟩;have gr2:=Below.heapAt hb2 HCE.out (lt_of_heap HCE.out);obtain⟨q0,q1,q2,q3⟩:=err_cells gr2;go_wp2_with fail
      go_step3
      show CP w s w0.heap.size 0 _ _∧_;refine⟨⟨i+1,0,_,s.extract 0 (i+1),[],_,_,_,_,_,_,_,_,_,_,_,_,_,_,_,_,_,_,_,_,_,_,_,_,_,_,_,_,_,_,_,_,_,_,_,_,_,_,_,_,_,_,_,_,_,_,_,_,_,_,_,_,_,_,_,_,_,_,_,_,_,_,_,_,_,_,_,rfl,by omega,HW.out w2 hb2,.inr (.inr (.inr (.inr ⟨rfl,HF.out⟩)))⟩,?_⟩;simp[muC]
    ·have HE:Hid (lineRow s=(gapR s (i+1) (out++[s.extract fr (i+1)])).map (fun t=>⟨nm,t⟩)):=by
      unfold Hid;rw[hE,HN.out]
     obtain⟨d0,d1,e0,e1⟩:=err_cells hP.cell;have hnn:nm≠⟨#[]⟩:=by intro h;rw[h]at hnm;exact absurd hnm (by decide)
     have hn1:=nonempty_list hnm;clear hE hst hne;by_cases hlt:i+1<s.size
     ·have HC:Hid (partB (s[i+1].toNat:Int)=false):=by
       unfold Hid;rw[Bool.eq_false_iff];intro h;exact hpt ⟨hlt,by rw[byteAt_lt hlt];exact h⟩
      clear hpt;go_wp2_with fail
      refine(goesOn_any _ _).mono ?_
      rintro e' wc ⟨rfl,rfl⟩;rw[HC.out];go_wp2_with fail
      go_step3
      show CP w s w0.heap.size 3 _ _∧_;refine⟨⟨i+1,fr,_,nm,out,_,_,_,_,_,_,_,_,_,_,_,_,_,_,_,_,_,_,_,_,_,_,_,_,_,_,_,_,_,_,_,_,_,_,_,_,_,_,_,_,_,_,_,_,_,_,_,_,_,_,_,_,_,_,_,_,_,_,_,_,_,_,_,_,_,_,_,rfl,by omega,hP,.inr (.inr (.inl ⟨rfl,by omega,by omega,by omega,hnm,HE.out⟩))⟩,?_⟩;simp[muC,intOf];omega
     ·have hdl:decide ((i:Int)+1<(s.size:Int))=false:=by simp;omega
      clear hpt;go_wp2_with fail
      go_step3
      show CP w s w0.heap.size 3 _ _∧_;refine⟨⟨i+1,fr,_,nm,out,_,_,_,_,_,_,_,_,_,_,_,_,_,_,_,_,_,_,_,_,_,_,_,_,_,_,_,_,_,_,_,_,_,_,_,_,_,_,_,_,_,_,_,_,_,_,_,_,_,_,_,_,_,_,_,_,_,_,_,_,_,_,_,_,_,_,_,rfl,by omega,hP,.inr (.inr (.inl ⟨rfl,by omega,by omega,by omega,hnm,HE.out⟩))⟩,?_⟩;simp[muC,intOf];omega
  ·cases h
  ·cases h
  ·cases h
 ·intro hletter0;have hletter:=hide hletter0;clear hletter0;rintro a w' ⟨i,fr,ai,nm,out,tv,u7,u8,u9,u10,u11,u12,u13,u14,u15,u16,u17,u18,u19,u20,u21,u22,u23,u24,u25,u26,u27,u28,u29,u30,u31,u32,u33,u34,u35,u36,u37,u38,u39,u40,u41,u42,u43,u44,u45,u46,u47,u48,u49,u50,u51,u52,u53,u54,u55,u56,u57,u58,u59,u60,u61,u62,u63,u64,u65,u66,u67,u68,u69,u70,u71,u72,rfl,rfl,hP,hJ⟩;refine⟨_,rfl,?_⟩;rcases hJ with⟨_,hi,hol,halt⟩|⟨h,_⟩|⟨h,_⟩|⟨h,_⟩|⟨h,_⟩
  ·have hno:startB (byteAt s i)=false→lineRow s=none:=by
    intro h;rcases halt with⟨hn0,hi0,ho0⟩|⟨_,hE⟩
    ·subst hi0;rw[← mac_line];unfold macRow;rw[if_neg (fun x=>by rw[h]at x;exact absurd x.1 (by decide))]
    ·rw[hE,if_neg (by rw[h];decide)]
   by_cases hlt:i<s.size
   ·have hie:((i:Int) == (s.size:Int))=false:=beq_false_of_ne (by omega);rw[byteAt_lt hlt]at hno;cases hc:startB (s[i].toNat:Int)
    ·have HC:Hid (startB (s[i].toNat:Int)=false):=hc;have HE:Hid (lineRow s=none):=hno hc;clear hc hno halt;go_wp2_with fail
     refine(begins_any _ _).mono ?_
     rintro e' wc ⟨rfl,rfl⟩;rw[HC.out];go_wp2_with fail
     go_step3
     show CP w s w0.heap.size 0 _ _∧_;refine⟨⟨i,fr,_,nm,out,_,_,_,_,_,_,_,_,_,_,_,_,_,_,_,_,_,_,_,_,_,_,_,_,_,_,_,_,_,_,_,_,_,_,_,_,_,_,_,_,_,_,_,_,_,_,_,_,_,_,_,_,_,_,_,_,_,_,_,_,_,_,_,_,_,_,_,rfl,by omega,hP,.inr (.inr (.inr (.inr ⟨rfl,HE.out⟩)))⟩,?_⟩;simp[muC]
    ·have HC:Hid (startB (s[i].toNat:Int)=true):=hc;have HA:=hide halt;clear hc hno halt;go_wp2_with fail
     refine(begins_any _ _).mono ?_
     rintro e' wc ⟨rfl,rfl⟩;rw[HC.out];go_wp2_with fail
     go_step3
     rename_i K hK;obtain⟨rest,hr,hw⟩:=hletter.out _ wc ⟨i,i,_,nm,out,_,_,_,_,_,_,_,_,_,_,_,_,_,_,_,_,_,_,_,_,_,_,_,_,_,_,_,_,_,_,_,_,_,_,_,_,_,_,_,_,_,_,_,_,_,_,_,_,_,_,_,_,_,_,_,_,_,_,_,_,_,_,_,_,_,_,_,rfl,rfl,hP,.inr (.inl ⟨rfl,Nat.le_refl _,hlt,hol,(by rw[byteAt_lt hlt];exact HC.out),rfl,(by
      rcases HA.out with h|⟨h1,h2⟩
      ·exact .inl h
      ·refine .inr ⟨h1,?_⟩;rw[h2,if_pos (by rw[byteAt_lt hlt];exact HC.out)])⟩)⟩
     cases hr;exact hK _ _ (Code.wp_mono (jumps_mono (by simp[muC,intOf])) hw)
   ·have hie:i=s.size:=by omega
    subst hie;have HE:Hid (lineRow s=none):=hno (by rw[byteAt_ge (Nat.le_refl _)];decide);clear hno halt;go_wp2_with fail
    go_step3
    show CP w s w0.heap.size 0 _ _∧_;refine⟨⟨s.size,fr,_,nm,out,_,_,_,_,_,_,_,_,_,_,_,_,_,_,_,_,_,_,_,_,_,_,_,_,_,_,_,_,_,_,_,_,_,_,_,_,_,_,_,_,_,_,_,_,_,_,_,_,_,_,_,_,_,_,_,_,_,_,_,_,_,_,_,_,_,_,_,rfl,by omega,hP,.inr (.inr (.inr (.inr ⟨rfl,HE.out⟩)))⟩,?_⟩;simp[muC]
  ·cases h
  ·cases h
  ·cases h
  ·cases h
 ·intro hpass0;have hpass:=hide hpass0;clear hpass0;go_wp2_with fail
  go_step3
  rename_i K hK;obtain⟨rest,hr,hw⟩:=hpass.out 1 _ (w0.alloc (.cells #[.string ⟨#[]⟩,.slice none 0 0] 51)) ⟨0,0,0,noB,[],.slice none 0 0,_,_,_,_,_,_,_,_,_,_,_,_,_,_,_,_,_,_,_,_,_,_,_,_,_,_,_,_,_,_,_,_,_,_,_,_,_,_,_,_,_,_,_,_,_,_,_,_,_,_,_,_,_,_,_,_,_,_,_,_,_,_,_,_,_,_,rfl,rfl,⟨hl0,heap_new _ _,World.ownsRow_nil _ _ _ _,heap_old g0 _,hb0.alloc hb0.size _⟩,.inl ⟨rfl,Nat.zero_le _,Nat.zero_le _,.inl ⟨rfl,rfl,rfl⟩⟩⟩;cases hr;exact hK _ _ hw
end
end Go.Proofs.YtiamlbhkiehilaaGreatDoor
