import Derived.Test.YtiamlbhkiehilaaGreatDoorKq18
import Derived.Test.YtiamlbhkiehilaaGreatDoorKq38
import Derived.Test.YtiamlbhkiehilaaGreatDoorKq08
import Derived.Test.YtiamlbhkiehilaaGreatDoorKq39
import Derived.Test.YtiamlbhkiehilaaGreatDoorKq09
import Derived.Test.YtiamlbhkiehilaaGreatDoorKq11
import Derived.Test.YtiamlbhkiehilaaGreatDoorKq34
import Derived.Test.YtiamlbhkiehilaaGreatDoorKq37
import Derived.Test.YtiamlbhkiehilaaGreatDoorKqSh
import Derived.Test.YtiamlbhkiehilaaGreatDoorKq45
import Derived.Test.YtiamlbhkiehilaaGreatDoorKq43
namespace Go.Proofs.YtiamlbhkiehilaaGreatDoor
section
def exA:ByteArray:=⟨#[97]⟩
def exB:ByteArray:=⟨#[98]⟩
def exP:ByteArray:=⟨#[112]⟩
def exQ:ByteArray:=⟨#[113]⟩
def exF:List Fct:=[⟨1,exP,exA⟩,⟨1,exQ,exB⟩,⟨4,exP,exQ⟩]
def exN:List ByteArray:=[exA,exB,exP,exQ]
def exW:Way:=⟨0,false,false,false,true⟩
theorem ex_ok:okGo [] exF:=by
 refine⟨by decide,by decide,by decide,by decide,by decide,by decide,trivial⟩
theorem ex_names:namesS (strsOf exF)=exN:=by decide +kernel
theorem ex_nums:exF.map (fun f=>(f.k,insAt exN f.p,insAt exN f.q))=[(1,2,0),(1,3,1),(4,2,3)]:=by decide +kernel
theorem ex_run:∃sF,St.solveL 30 exW 30 (St.start 4 [(1,2,0),(1,3,1),(4,2,3)])=some sF∧sF.un<100∧(List.range 4).map (fun i=>sF.tg (sF.rep i))=[[1],[],[0],[1]]:=⟨_,rfl,by decide,by decide⟩
theorem ex_ahead:(St.start 4 [(1,2,0),(1,3,1),(4,2,3)]).lookAhead 30 exW 4=some (St.start 4 [(1,2,0),(1,3,1),(4,2,3)]):=rfl
end
section
open Go.RowKit Go.Shelf
attribute [local go_sem] Oper.semAt_some
def exFile:ByteArray:=⟨#[112,32,61,32,38,97,10,113,32,61,32,38,98,10,42,112,32,61,32,113,10]⟩
def exText:ByteArray:=⟨#[97,58,32,98,10,98,58,10,112,58,32,97,10,113,58,32,98,10]⟩
theorem ex_parse:parseB exFile=(exF,0,0):=by
 have h:=print_parse ex_ok;have e:(⟨(textL exF).toArray⟩:ByteArray)=exFile:=by decide +kernel
 rw[e]at h;exact h
set_option maxRecDepth 100000 in
theorem ex_sol:∃sF,St.solveL 30 exW 30 (St.start 4 [(1,2,0),(1,3,1),(4,2,3)])=some sF∧sF.un<100∧rowsS sF exN=[⟨exA,[exB]⟩,⟨exB,[]⟩,⟨exP,[exA]⟩,⟨exQ,[exB]⟩]:=by
 obtain⟨sF,h1,h2,h3⟩:=ex_run;refine⟨sF,h1,h2,?_⟩;unfold rowsS;have e:(List.range exN.length).map (fun i=>(⟨exN.getD i ⟨#[]⟩,(sF.tg (sF.rep i)).map (fun t=>exN.getD t ⟨#[]⟩)⟩:RowD))=((List.range 4).map (fun i=>(i,sF.tg (sF.rep i)))).map (fun p=>(⟨exN.getD p.1 ⟨#[]⟩,p.2.map (fun t=>exN.getD t ⟨#[]⟩)⟩:RowD)):=by
  rw[List.map_map];rfl
 rw[e];have e2:(List.range 4).map (fun i=>(i,sF.tg (sF.rep i)))=[(0,[1]),(1,[]),(2,[0]),(3,[1])]:=by
  simp only[show List.range 4=[0,1,2,3]from rfl,List.map_cons,List.map_nil,List.cons.injEq,and_true]at h3 ⊢;obtain⟨a0,a1,a2,a3⟩:=h3;rw[a0,a1,a2,a3];simp
 rw[e2];rfl
set_option maxRecDepth 100000 in
theorem exanalyze(sF:St)(h1:St.solveL 30 exW 30 (St.start 4 [(1,2,0),(1,3,1),(4,2,3)])=some sF)(h2:sF.un<100∧rowsS sF exN=[⟨exA,[exB]⟩,⟨exB,[]⟩,⟨exP,[exA]⟩,⟨exQ,[exB]⟩])(w:World)(m:Int)(hm:w.cell? ⟨1,0,none⟩=some (.int .i64 m))(hml:1<w.heap.size)(hT:TabAt w)(hTl:0<w.heap.size) :
  Calls Tryz.prog 32 #[.string exFile,wayV exW] w fun e w'=>e=.returned (.tuple #[.agg #[.string exText,.int .i64 (sF.un:Int)],.agg #[.int .i64 0,.int .i64 0]])∧Below w.heap.size w w':=by
 obtain⟨h2,hr⟩:=h2;have ht:(⟨(rowsText (rowsS sF exN)).toArray⟩:ByteArray)=exText:=by rw[hr];decide +kernel
 have hs0:St.start 4 [(1,2,0),(1,3,1),(4,2,3)]=St.start exN.length (exF.map (numF exN)):=by
  have:exF.map (numF exN)=[(1,2,0),(1,3,1),(4,2,3)]:=ex_nums;rw[this];rfl
 have hp:pw exW:=⟨rfl,rfl,rfl⟩;have hw:WF 4 (St.start 4 [(1,2,0),(1,3,1),(4,2,3)]):=start_wf (by omega) (by
  intro k p q hm;simp at hm;omega)
 have:=panalyze_ok exFile exW exF exN 30 _ _ sF w m (by decide) hm hml hT hTl (by decide) ex_parse ex_names.symm hs0 (by intro h;exact absurd h (by decide)) (fun h=>absurd hp h) ex_ahead (WU.refl hw) h1 (by omega) (by intro s1 h;exact absurd h (by decide)) (by intro s1 h;exact absurd h (by decide)) (rowsS sF exN) (fun _=>rfl) (by rw[hr];decide) (by
  rw[hr];unfold fitsR fitsS maxLen;decide) (by rw[hr];decide +kernel)
 rw[ht]at this;exact this
set_option maxRecDepth 100000 in
theorem works_any(w:World)(m:Int)(hm:w.cell? ⟨1,0,none⟩=some (.int .i64 m))(hml:1<w.heap.size)(hT:TabAt w)(hTl:0<w.heap.size) :
  Calls Tryz.prog 15 #[] w fun e w'=>e=.returned (.bool true)∧Below w.heap.size w w':=by
 have HQ:Hid (∃u:Nat,Calls Tryz.prog 12 #[.string exFile,wayV exW] w fun e w'=>e=.returned (.tuple #[.agg #[.string exText,.int .i64 (u:Int)],.agg #[.int .i64 0,.int .i64 0]])∧Below w.heap.size w w'):=by
  refine hide ?_
  obtain⟨sF,h1,h2⟩:=ex_sol;refine⟨sF.un,qanalyze_of exFile exW exText sF.un 0 0 w (fun W hb=>?_)⟩;exact exanalyze sF h1 h2 W m ((hb.cell (p:=⟨1,0,none⟩) hml).trans hm) (Nat.lt_of_lt_of_le hml hb.size) (hT.kb (Kb.of_below hb []) (by simp)) (Nat.lt_of_lt_of_le hTl hb.size)
 clear hm hml hT hTl;obtain⟨u,HQ⟩:=HQ.out;go_enter Tryz.func15,Tryz.ntmps15
 go_wp2_with fail
 refine HQ.mono ?_
 rintro e W1 ⟨rfl,hb⟩;clear HQ;have hb2:=hb.alloc hb.size (.cells #[.string exText,.int .i64 (u:Int)] 31);have hb3:=hb2.alloc hb2.size (.cells #[.int .i64 0,.int .i64 0] 27);go_wp2_with fail
 have hx:(exText.toList == [97,58,32,98,10,98,58,10,112,58,32,97,10,113,58,32,98,10])=true:=by decide +kernel
 rw[hx];exact bodyPost_ret (v:=.bool true) (by simp[results,Tryz.results15,go_sem]) rfl ⟨rfl,hb3⟩
end
section
open Go.RowKit
end
section
open Go.RowKit Go.Maps
theorem size_zero{l:ByteArray}(h:l.size=0):l=⟨#[]⟩:=by
 obtain⟨⟨l⟩⟩:=l;cases l with
 |nil=>rfl
 |cons a b=>simp[ByteArray.size]at h
theorem not_empty{l:ByteArray}(h:¬l.size=0):l.toList.isEmpty=false:=by
 rw[ByteArray.toList_eq];obtain⟨⟨l⟩⟩:=l;cases l with
 |nil=>exact absurd rfl h
 |cons a b=>rfl
end
section
open Go.RowKit Go.Maps
set_option maxRecDepth 100000 in
set_option maxHeartbeats 2000000 in
theorem cread_any(s:ByteArray)(w:World)(m:Int)(hs:s.size≤maxLen)(hm:w.cell? ⟨1,0,none⟩=some (.int .i64 m)) :
  Calls Tryz.prog 38 #[.string s] w fun e w'=>RdRes w w' s e:=by
 unfold maxLen at hs;obtain⟨i0,hi0,hz0,hz1,hz2⟩:=info_parts infoRow;have g0:=heap_new w (.cells #[.int .i64 0,.int .i64 0] 27);have hb0:Below w.heap.size w (w.alloc (.cells #[.int .i64 0,.int .i64 0] 27)):=(Below.refl _ _).alloc (Nat.le_refl _) _;by_cases hbig:25000<s.size
 ·have HE:Hid (readB s=([],2,0)):=by unfold Hid readB;rw[if_pos hbig]
  go_enter Tryz.func38,Tryz.ntmps38
  go_wp2_with fail
  refine bodyPost_ret (v:=.tuple #[.slice none 0 0,.agg #[.int .i64 2,.int .i64 0]]) (by simp[results,Tryz.results38,go_sem]) rfl (RdRes.bad HE.out ?_);exact(Below.refl _ _).alloc (Nat.le_refl _) _
 ·have HE:Hid (readB s=readGo [] noB 0 (linesB s)):=by unfold Hid readB;rw[if_neg hbig]
  have hsp':=split_lines s;have hcl:=Lib.splitB_all ⟨#[10]⟩ (by decide) 0 _ s rfl;rw[hsp']at hcl;go_enter Tryz.func38,Tryz.ntmps38
  go_wp2_with fail
  generalize w.alloc (.cells #[.int .i64 0,.int .i64 0] 27)=w0 at g0 hb0 ⊢;have hl0:=lt_of_heap g0;have hm0:w0.cell? ⟨1,0,none⟩=some (.int .i64 m):=by rw[hb0.cell (World.block_lt_of_cell? _ _ hm)];exact hm
  refine(Tryz.strings_Split s ⟨#[10]⟩ m w0 (by omega) hm0 (by decide)).mono ?_
  rintro e w1 ⟨rfl,hw1⟩;rw[← hcl];rw[hsp']at hw1;have g3:=heap_new w0 (.cells ((linesB s).map Value.string).toArray 9);have hb1:Below w0.heap.size w0 (w0.alloc (.cells ((linesB s).map Value.string).toArray 9)):=(Below.refl _ _).alloc (Nat.le_refl _) _;rw[← hw1]at g3 hb1;clear hw1 hm0 hcl hsp';have g1:=Below.heapAt hb1 g0 hl0;have hB1:Below w.heap.size w w1:=hb0.trans (hb1.mono hb0.size);have hls:=linesB_len s;have HSZ:=hide (linesB_size s);have hpos:0<(linesB s).length:=by simp[linesB]
  have HRD:=hide (fun(i:Nat) l (hl:(linesB s)[i]?=some l)=>show w1.cell? ⟨w0.heap.size,i,none⟩=some (.string l)from by rw[cell_at g3];simp[hl]);have hgl:=lt_of_heap g3;clear g3 hb1 g0 hb0;generalize linesB s=ls at *;generalize w0.heap.size=g at *;obtain⟨n,hn⟩:∃n,ls.length=n+1:=⟨ls.length-1,by omega⟩;rw[hn];go_wp2_with fail
  go_loopw [6,7,26] (fun v lv iv wr=>∃(i:Nat) (last:ByteArray) (ps:List (RowD × Value)),lv=.string last∧iv=.int .i64 i∧RdInv w1 wr ls i v last ps) (fun _ _ iv _=>ls.length-(intOf iv).toNat)
  case atStart=>exact⟨0,noB,[],rfl,rfl,hpos,rfl,by simp,OwnR.nil _ _ _,Below.refl _ _⟩
  case round=>
   obtain⟨i,last,ps,rfl,rfl,hi⟩:=hrel;have hblw:=hi.blw;have hown:=hi.own;have hit:=hi.lt;have hcnt:=hi.cnt;have hwl:w.heap.size<w1.heap.size:=lt_of_heap g1;have g2:=Below.heapAt hblw g1 hwl;have hBx:Below w.heap.size w wr:=hB1.trans (hblw.mono (Nat.le_of_lt hwl));obtain⟨l,hl⟩:∃l,ls[i]?=some l:=⟨_,List.getElem?_eq_getElem hit⟩;have cl:wr.cell? ⟨g,i,none⟩=some (.string l):=(World.cell?_of_block (w:=w1) (a:=⟨g,i,none⟩) (hblw.block g hgl)).trans (HRD.out i l hl);have heq:=hi.eqn;rw[drop_here hl]at heq;have hlsz:=HSZ.out l (List.mem_of_getElem? hl);by_cases hlast:i=n
   ·subst hlast;have hd:ls.drop (i+1)=[]:=by rw[← hn,List.drop_length]
    rw[hd,readGo_last]at heq;obtain⟨c0,c1,f0,f1⟩:=err_cells g2;by_cases hz:l.size=0
    ·rw[if_pos hz]at heq;have HF:Hid (readB s=(ps.map Prod.fst,0,0)):=HE.out.trans heq;have hl0':=size_zero hz;subst hl0';clear hi heq hl g2;go_wp2_with fail
     refine bodyPost_ret (v:=.tuple #[u6,.agg #[.int .i64 0,.int .i64 0]]) (by simp[results,Tryz.results38,go_sem,c0,c1]) rfl ⟨u6,ps,by rw[HF.out],by rw[HF.out],?_,?_⟩
     ·exact(((hown.store hwl).store hwl).low (Nat.le_of_lt hwl)).high (by simp[World.setCell])
     ·exact(hBx.setCell (p:=⟨w.heap.size,0,none⟩) (Nat.le_refl _) _).setCell (p:=⟨w.heap.size,1,none⟩) (Nat.le_refl _) _
    ·rw[if_neg hz]at heq;have HF:Hid (readB s=([],4,(i:Int)+1)):=HE.out.trans heq;have hne:=not_empty hz;clear hi heq hl g2;go_wp2_with fail
     refine bodyPost_ret (v:=.tuple #[.slice none 0 0,.agg #[.int .i64 4,.int .i64 ((i:Int)+1)]]) (by simp[results,Tryz.results38,go_sem,c0,c1]) rfl (RdRes.bad HF.out ?_);exact(hBx.setCell (p:=⟨w.heap.size,0,none⟩) (Nat.le_refl _) _).setCell (p:=⟨w.heap.size,1,none⟩) (Nat.le_refl _) _
   ·obtain⟨l',hl'⟩:∃l',ls[i+1]?=some l':=⟨_,List.getElem?_eq_getElem (by omega)⟩;rw[drop_here hl']at heq;have HQ:=hide heq;have HL':=hide hl';have hin:i<n:=by omega
    clear heq hi hl';go_wp2_with fail
    refine(crow_any l wr (by omega)).mono ?_
    rintro e w2 (⟨hno,rfl,hb2⟩|⟨r,tv,hr,rfl,ho2,hb2⟩)
    ·have HF:Hid (readB s=([],4,(i:Int)+1)):=HE.out.trans (HQ.out.trans (readGo_form hno));have g3:=heap_old (Below.heapAt hb2 g2 (lt_of_heap g2)) (.cells #[.string ⟨#[]⟩,.slice none 0 0] 51);have hB3:Below w.heap.size w (w2.alloc (.cells #[.string ⟨#[]⟩,.slice none 0 0] 51)):=(hBx.trans (hb2.mono hBx.size)).alloc (Nat.le_trans hBx.size hb2.size) _;have g4:=heap_new w2 (.cells #[.string ⟨#[]⟩,.slice none 0 0] 51);go_wp2_with fail
     generalize w2.alloc (.cells #[.string ⟨#[]⟩,.slice none 0 0] 51)=w3 at g3 g4 hB3 ⊢;refine(check_any ⟨#[]⟩ (.slice none 0 0) [] false last w3 (by decide) (by decide) ⟨none,0,rfl,Nat.le_refl _,fun _=>rfl,fun h=>absurd rfl h⟩ (fun x hx=>by simp at hx)).mono ?_
     rintro e w4 ⟨rfl,hb4⟩;have hck:chk false ⟨⟨#[]⟩,[]⟩ last=4:=rfl;rw[hck];have g5:=Below.heapAt hb4 g3 (lt_of_heap g3);have hB4:Below w.heap.size w w4:=hB3.trans (hb4.mono hB3.size);obtain⟨c0,c1,f0,f1⟩:=err_cells g5;clear hno hown g2 g3 g4 g5 cl;go_wp2_with fail
     refine bodyPost_ret (v:=.tuple #[.slice none 0 0,.agg #[.int .i64 4,.int .i64 ((i:Int)+1)]]) (by simp[results,Tryz.results38,go_sem,c0,c1]) rfl (RdRes.bad HF.out ?_);exact(hB4.setCell (p:=⟨w.heap.size,0,none⟩) (Nat.le_refl _) _).setCell (p:=⟨w.heap.size,1,none⟩) (Nat.le_refl _) _
    ·obtain⟨ta,tc,rfl,_⟩:=own_form ho2;obtain⟨q1,q2,q3⟩:=refRow_fits (lineRow_ref hr).1;have HR:=hide hr;have g3:=heap_old (Below.heapAt hb2 g2 (lt_of_heap g2)) (.cells #[.string r.name,.slice ta r.to.length tc] 51);have hb3:Below wr.heap.size wr (w2.alloc (.cells #[.string r.name,.slice ta r.to.length tc] 51)):=hb2.alloc hb2.size _;have g4:=heap_new w2 (.cells #[.string r.name,.slice ta r.to.length tc] 51);have ho3:=ho2.alloc (.cells #[.string r.name,.slice ta r.to.length tc] 51);go_wp2_with fail
     generalize w2.alloc (.cells #[.string r.name,.slice ta r.to.length tc] 51)=w3 at g3 g4 hb3 ho3 ⊢;refine(check_any r.name (.slice ta r.to.length tc) r.to true last w3 (by unfold maxLen;omega) (by unfold maxLen;omega) (strs_of_owns ho3) (fun x hx=>by have:=q3 x hx;unfold maxLen;omega)).mono ?_
     rintro e w4 ⟨rfl,hb4⟩;have g5:=Below.heapAt hb4 g3 (lt_of_heap g3);have g6:=Below.heapAt hb4 g4 (lt_of_heap g4);have ho4:=own_below ho3 hb4;have hb5:Below wr.heap.size wr w4:=hb3.trans (hb4.mono hb3.size);have hB4:Below w.heap.size w w4:=hBx.trans (hb5.mono hBx.size);have hbl4:Below w1.heap.size w1 w4:=hblw.trans (hb5.mono hblw.size);have hown4:=hown.below hb5;obtain⟨c0,c1,f0,f1⟩:=err_cells g5;obtain⟨d0,d1,e0,e1⟩:=err_cells g6;have HO4:=hide ho4;have HW4:=hide hown4;have G6:=hide g6;have hz2w:wr.heap.size≤w2.heap.size:=hb2.size;clear ho2 ho3 ho4 hown hown4 hb2 hb3 hb4 g2 g3 g4 g5 g6 e0 e1 cl hr hb5;have hen:chk true ⟨r.name,r.to⟩ last=chk true r last:=rfl;rw[hen];clear hen;by_cases herr:chk true r last=0
     ·have HN:Hid (readGo [] noB 0 ls=readGo ((ps++[(r,Value.slice ta r.to.length tc)]).map Prod.fst) r.name (i+1) (ls.drop (i+1))):=by
       unfold Hid;rw[drop_here HL'.out,HQ.out,readGo_add HR.out herr];simp
      rw[herr];clear herr;go_wp2_with (first|(at_builtin;refine wpList_append_own _ rfl _ _ 40 rfl w1.heap.size 51 i0 (.agg #[.string ⟨#[]⟩,.slice none 0 0]) 2 40 Tryz.underlying40 hi0 hz0 hz1 hz2 rfl (by decide) _ _ _ rfl (HW4.out.row.alloc _) ⟨w4.heap.size,0,none⟩ 1 1 [.string r.name,.slice ta r.to.length tc] rfl rfl (cells_new _ _ _ _ rfl) ?x6 ?x7 ?x8 ?x9 ?_)|go_in)
      case x6=>intro u hu;simp at hu;rcases hu with rfl|rfl<;>rfl
      case x7=>unfold maxLen;omega
      case x8=>omega
      case x9=>have:=hbl4.size;simp;omega
      intro v' w5 hown5 hgrow5 _;have hb6:Below w1.heap.size w1 w5:=(hbl4.alloc hbl4.size _).grown hgrow5 (by have:=hbl4.size;simp;omega) (fun j hj=>(HW4.out.row.lt j hj).1);have hpu:=HW4.out.push hblw.size HO4.out hown5 hgrow5;have g7:w5.heap[w2.heap.size]?=some (.cells #[.string r.name,.slice ta r.to.length tc] 51 (0,0)):=(hgrow5.block _ (by have:=lt_of_heap G6.out;simp;omega) (fun e=>by have:=HW4.out.top _ e.symm;omega)).trans (heap_old G6.out _);obtain⟨d0',d1',_,_⟩:=err_cells g7;clear hown5 hgrow5 g7 d0 d1;go_wp2_with fail
      go_round
      case rel=>exact⟨i+1,r.name,ps++[(r,.slice ta r.to.length tc)],rfl,by go_num,by omega,HN.out,by rw[List.length_append];show ps.length+1≤_;omega,hpu,hb6⟩
      case measure=>simp[intOf];omega
     ·have HF:Hid (readB s=([],chk true r last,(i:Int)+1)):=HE.out.trans (HQ.out.trans (readGo_bad HR.out herr));have heb:(chk true r last == 0)=false:=beq_false_of_ne herr;generalize chk true r last=er at *;go_wp2_with fail
      refine bodyPost_ret (v:=.tuple #[.slice none 0 0,.agg #[.int .i64 er,.int .i64 ((i:Int)+1)]]) (by simp[results,Tryz.results38,go_sem,c0,c1]) rfl (RdRes.bad HF.out ?_);exact(hB4.setCell (p:=⟨w.heap.size,0,none⟩) (Nat.le_refl _) _).setCell (p:=⟨w.heap.size,1,none⟩) (Nat.le_refl _) _
end
section
open Go.RowKit Go.Maps
set_option maxRecDepth 100000 in
set_option maxHeartbeats 1000000 in
theorem qread_any(s:ByteArray)(w:World)(m:Int)(hs:s.size≤maxLen)(hm:w.cell? ⟨1,0,none⟩=some (.int .i64 m)) :
  Calls Tryz.prog 25 #[.string s] w fun e w'=>RdRes w w' s e:=by
 have g0:=heap_new w (.cells #[.int .i64 0,.int .i64 0] 27);have hb0:Below w.heap.size w (w.alloc (.cells #[.int .i64 0,.int .i64 0] 27)):=(Below.refl _ _).alloc (Nat.le_refl _) _;have hm0:(w.alloc (.cells #[.int .i64 0,.int .i64 0] 27)).cell? ⟨1,0,none⟩=some (.int .i64 m):=by rw[hb0.cell (World.block_lt_of_cell? _ _ hm)];exact hm
 go_enter Tryz.func25,Tryz.ntmps25
 go_wp2_with fail
 generalize w.alloc (.cells #[.int .i64 0,.int .i64 0] 27)=w0 at g0 hb0 hm0 ⊢;have hl0:=lt_of_heap g0;refine(cread_any s w0 m hs hm0).mono ?_
 rintro e w1 ⟨v,ps,rfl,hps,hown,hb1⟩;have g1:=Below.heapAt hb1 g0 hl0;obtain⟨c0,c1,f0,f1⟩:=err_cells g1;have hB1:Below w.heap.size w w1:=hb0.trans (hb1.mono hb0.size);generalize hr:readB s=r at hps ⊢;obtain⟨fs,k,n⟩:=r;simp only at hps ⊢;go_wp2_with fail
 refine bodyPost_ret (v:=.tuple #[v,.agg #[.int .i64 k,.int .i64 n]]) (by simp[results,Tryz.results25,go_sem,c0,c1]) rfl ⟨v,ps,by rw[hr],by rw[hr];exact hps,?_,?_⟩
 ·exact(((hown.store hl0).store hl0).low (Nat.le_of_lt hl0)).high (by simp[World.setCell])
 ·exact(hB1.setCell (p:=⟨w.heap.size,0,none⟩) (Nat.le_refl _) _).setCell (p:=⟨w.heap.size,1,none⟩) (Nat.le_refl _) _
end
section
open Go.RowKit Go.Shelf Go.Maps
attribute [local go_sem] Oper.semAt_some
structure Tab(w:World):Prop where
 ml:∃m,w.cell? ⟨1,0,none⟩=some (.int .i64 m)
 mlt:1<w.heap.size
 tab:TabAt w
 tlt:0<w.heap.size
theorem Tab.below{w w':World}(h:Tab w)(hb:Below w.heap.size w w'):Tab w':=by
 obtain⟨m,hm⟩:=h.ml;exact⟨⟨m,(hb.cell (p:=⟨1,0,none⟩) h.mlt).trans hm⟩,Nat.lt_of_lt_of_le h.mlt hb.size,h.tab.kb (Kb.of_below hb []) (by simp),Nat.lt_of_lt_of_le h.tlt hb.size⟩
def cfgW(k:Nat):Way:=⟨(k:Int) % 3,(k:Int) / 3 % 2 == 1,(k:Int) / 6 % 2 == 1,(k:Int) / 12 % 2 == 1,(k:Int) / 24 % 2 == 1⟩
theorem cfgV_way(k:Nat):cfgV k=wayV (cfgW k):=rfl
theorem cfgW_ord(k:Nat):0≤(cfgW k).order∧(cfgW k).order≤2:=by
 show 0≤(k:Int) % 3∧(k:Int) % 3≤2;omega
def txF(fs:List Fct):ByteArray:=⟨(textL fs).toArray⟩
def txS[DP](fs:List Fct):ByteArray:=⟨(rowsText (solR fs)).toArray⟩
theorem txF_size{fs:List Fct}(h:okGo [] fs):(txF fs).size≤maxLen:=by
 obtain⟨hsm,hcn⟩:=okGo_small h;have hlen:fs.length≤120:=by
  rcases hcn with h|h
  ·rw[h];simp
  ·simpa using h
 have htl:=textL_len hsm;unfold txF;rw[arr_size];unfold maxLen;omega
theorem txS_size[DP]{fs:List Fct}(h:okGo [] fs):(txS fs).size≤maxLen:=by
 have:=(sol_ok h).2;unfold txS;rw[arr_size];unfold maxLen;omega
theorem kprint_any{fs:List Fct}(h:okGo [] fs)(v:Value)(w:World)(hv:IsFacts v fs w) :
  Calls Tryz.prog 14 #[v] w fun e w'=>e=.returned (.tuple #[.string (txF fs),.agg #[.int .i64 0,.int .i64 0]])∧Below w.heap.size w w':=by
 obtain⟨hsm,hcn⟩:=okGo_small h;have hlen:fs.length≤120:=by
  rcases hcn with h|h
  ·rw[h];simp
  ·simpa using h
 have hqp:=qprint_any v fs w (by unfold maxLen;omega) hv (fun f hf=>by have:=hsm f hf;unfold maxLen;omega);rw[print_ok h []]at hqp;exact hqp
theorem kanalyze_any[DP]{fs:List Fct}(h:okGo [] fs)(c:Way)(hc:0≤c.order∧c.order≤2)(w:World)(hT:Tab w) :
  Calls Tryz.prog 12 #[.string (txF fs),wayV c] w fun e w'=>e=.returned (.tuple #[.agg #[.string (txS fs),.int .i64 (unS fs c:Int)],.agg #[.int .i64 0,.int .i64 0]])∧Below w.heap.size w w':=by
 obtain⟨m,hm⟩:=hT.ml;refine qanalyze_of (txF fs) c _ _ _ _ w (fun W hb=>?_);have hT':=hT.below hb;obtain⟨m,hm⟩:=hT'.ml;exact panalyze_sol (txF fs) c fs W m (txF_size h) hm hT'.mlt hT'.tab hT'.tlt hc (print_parse h)
theorem kread_any[DP]{fs:List Fct}(h:okGo [] fs)(w:World)(hT:Tab w) :
  Calls Tryz.prog 25 #[.string (txS fs)] w fun e w'=>∃v ps,e=.returned (.tuple #[v,.agg #[.int .i64 0,.int .i64 0]])∧ps.map Prod.fst=solR fs∧OwnR w' w.heap.size w'.heap.size v ps∧Below w.heap.size w w':=by
 obtain⟨m,hm⟩:=hT.ml;have h1:=qread_any (txS fs) w m (txS_size h) hm;have h2:readB (txS fs)=(solR fs,0,0):=tell_read (sol_ok h).1 (sol_ok h).2;unfold RdRes at h1;rw[h2]at h1;exact h1
theorem sol_len[DP](fs:List Fct):(solR fs).length=(nsOf fs).length:=by unfold solR;rw[List.length_map]
theorem kraw_ok(rs:List RawD){m:Nat}(hm:m≤120):okGo [] ((rs.take m).map RawD.fct):=raw_ok (by simp) (by rw[List.length_take];simp;omega)
end
section
open Go.RowKit Go.Shelf Go.Maps
attribute [local go_sem] Oper.semAt_some
def Tells(p:Prop)(e:Ending):Prop:=∃b:Bool,e=.returned (.bool b)∧(b=true↔p)
set_option maxRecDepth 100000 in
set_option maxHeartbeats 1000000 in
theorem kin_any(v:Value)(ss:List ByteArray)(s:ByteArray)(w:World)(hlen:ss.length≤1000000)(hv:IsStrs v ss w) :
  Calls Tryz.prog 19 #[v,.string s] w fun e w'=>Tells (s∈ss) e∧w'=w:=by
 obtain⟨ao,ca,rfl,_,_,hfa⟩:=hv;have HA:=hide hfa;clear hfa;go_enter Tryz.func19,Tryz.ntmps19
 go_wp2;go_loop [5] (fun iv=>∃i:Nat,iv=.int .i64 i∧i≤ss.length∧Hid (s ∉ ss.take i)) (fun iv=>ss.length-(intOf iv).toNat)
 case atStart=>exact⟨0,rfl,Nat.zero_le _,hide (by simp)⟩
 case round=>
  obtain⟨i,rfl,hi,HN⟩:=hrel;by_cases hlt:i<ss.length
  ·obtain⟨x,hf⟩:∃f,ss[i]?=some f:=⟨_,List.getElem?_eq_getElem hlt⟩;have hne:ss≠[]:=by intro e;rw[e]at hlt;simp at hlt
   obtain⟨b1,o1,h1,hb1,hf1⟩:=HA.out hne;rw[h1];have a0:=hf1 i x hf;have HF:=hide hf;by_cases hx:x=s
   ·have HC:Hid (s∈ss):=hide (by rw[← hx];exact List.mem_of_getElem? HF.out);have hxx:(x.toList == s.toList)=true:=by rw[hx];simp
    clear hf hf1;go_wp2;go_ret
    exact⟨⟨true,rfl,fun _=>HC.out,fun _=>rfl⟩,rfl⟩
   ·have hxx:(x.toList == s.toList)=false:=by
     rw[beq_eq_false_iff_ne];intro e;exact hx (toList_inj e)
    have HN2:Hid (s ∉ ss.take (i+1)):=hide (by
     rw[List.take_add_one,HF.out];intro hm;rcases List.mem_append.1 hm with hm|hm
     ·exact HN.out hm
     ·simp at hm;exact hx hm.symm)
    clear hf hf1;go_wp2;go_round
    case rel=>exact⟨i+1,by go_num,hlt,HN2⟩
    case measure=>simp[intOf];omega
  ·have hie:i=ss.length:=by omega
   have HC:Hid (s ∉ ss):=hide (by
    have h9:=HN.out;rw[hie,List.take_length]at h9;exact h9)
   go_wp2;go_ret
   exact⟨⟨false,rfl,(fun h=>by cases h),fun h=>absurd h HC.out⟩,rfl⟩
set_option maxRecDepth 100000 in
set_option maxHeartbeats 1000000 in
theorem kunder_any(va vb:Value)(sa sb:List ByteArray)(w:World)(hla:sa.length≤1000000)(hlb:sb.length≤1000000)(ha:IsStrs va sa w)(hb:IsStrs vb sb w) :
  Calls Tryz.prog 20 #[va,vb] w fun e w'=>Tells (∀x∈sa,x∈sb) e∧w'=w:=by
 have HI:=hide (fun s=>kin_any vb sb s w hlb hb);obtain⟨ao,ca,rfl,_,_,hfa⟩:=ha;have HA:=hide hfa;clear hfa hb;go_enter Tryz.func20,Tryz.ntmps20
 go_wp2;go_loop [5] (fun iv=>∃i:Nat,iv=.int .i64 i∧i≤sa.length∧Hid (∀x∈sa.take i,x∈sb)) (fun iv=>sa.length-(intOf iv).toNat)
 case atStart=>exact⟨0,rfl,Nat.zero_le _,hide (by simp)⟩
 case round=>
  obtain⟨i,rfl,hi,HN⟩:=hrel;by_cases hlt:i<sa.length
  ·obtain⟨x,hf⟩:∃f,sa[i]?=some f:=⟨_,List.getElem?_eq_getElem hlt⟩;have hne:sa≠[]:=by intro e;rw[e]at hlt;simp at hlt
   obtain⟨b1,o1,h1,hb1,hf1⟩:=HA.out hne;rw[h1];have a0:=hf1 i x hf;have HF:=hide hf;clear hf hf1;go_wp2_with fail
   refine(HI.out x).mono ?_
   rintro e w2 ⟨⟨bx,rfl,hbx⟩,rfl⟩;by_cases hx:x∈sb
   rotate_left
   ·have HC:Hid (¬ ∀x∈sa,x∈sb):=hide (fun h9=>hx (h9 x (List.mem_of_getElem? HF.out)));have hxx:bx=false:=by cases bx with
     |false=>rfl
     |true=>exact absurd (hbx.1 rfl) hx
    subst hxx;clear hbx;go_wp2;go_ret
    exact⟨⟨false,rfl,(fun h=>by cases h),fun h=>absurd h HC.out⟩,rfl⟩
   ·have HN2:Hid (∀x∈sa.take (i+1),x∈sb):=hide (by
     rw[List.take_add_one,HF.out];intro y hy;rcases List.mem_append.1 hy with hy|hy
     ·exact HN.out y hy
     ·simp at hy;rw[hy];exact hx)
    have hxx:bx=true:=hbx.2 hx;subst hxx;clear hbx;go_wp2;go_round
    case rel=>exact⟨i+1,by go_num,hlt,HN2⟩
    case measure=>simp[intOf];omega
  ·have hie:i=sa.length:=by omega
   have HC:Hid (∀x∈sa,x∈sb):=hide (by
    have h9:=HN.out;rw[hie,List.take_length]at h9;exact h9)
   go_wp2;go_ret
   exact⟨⟨true,rfl,fun _=>HC.out,fun _=>rfl⟩,rfl⟩
end
section
open Go.RowKit Go.Shelf Go.Maps
attribute [local go_sem] Oper.semAt_some
theorem ktell_any[DP]{fs:List Fct}(h:okGo [] fs)(v:Value)(w:World)(hv:IsRows v (solR fs) w) :
  Calls Tryz.prog 26 #[v] w fun e w'=>e=.returned (.tuple #[.string (txS fs),.agg #[.int .i64 0,.int .i64 0]])∧Below w.heap.size w w':=by
 obtain⟨f1,f2⟩:=sol_fits h;obtain⟨s1,s2⟩:=sol_ok h;have hq:=qtell_any v (solR fs) w (by unfold maxLen;omega) hv f2 (by omega);have e:tellGo ⟨#[]⟩ 0 [] (solR fs)=(rowsText (solR fs),0,0):=by
  have h9:tellGo noB 0 [] (solR fs)=(rowsText (solR fs),0,0):=by
   have:=tell_ok (i:=0) (acc:=[]) s1 (by simpa using s2);simpa using this
  exact h9
 rw[e]at hq;exact hq
theorem OwnR.drewed{w:World}{lo hi:Nat}{v:Value}{ps:List (RowD × Value)}(h:OwnR w lo hi v ps):OwnR w.drew lo hi v ps:=h.below (Below.refl _ _).drew
set_option maxRecDepth 100000 in
set_option maxHeartbeats 4000000 in
theorem ksolved_any[DP]{fs:List Fct}(h:okGo [] fs)(c:Way)(hc:0≤c.order∧c.order≤2)(w:World)(hT:Tab w) :
  Calls Tryz.prog 16 #[.string (txF fs),wayV c] w fun e w'=>∃v ps,e=.returned (.tuple #[v,.bool true])∧ps.map Prod.fst=solR fs∧OwnR w' w.heap.size w'.heap.size v ps∧Below w.heap.size w w':=by
 have HA:=hide (fun(W:World) (hT:Tab W)=>kanalyze_any h c hc W hT);have HR:=hide (fun(W:World) (hT:Tab W)=>kread_any h W hT);have HL:=hide (fun(v:Value) (W:World) (hv:IsRows v (solR fs) W)=>ktell_any h v W hv);generalize unS fs c=un at *;generalize txF fs=tf at *;generalize txS fs=ts at *;have HT:=hide hT;clear h hc hT;have b0:Below w.heap.size w (w.alloc (.cells #[.int .i64 c.order,.bool c.cycles,.bool c.collapse,.bool c.subst,.bool c.deltas] 24)):=(Below.refl _ _).alloc (Nat.le_refl _) _;go_enter Tryz.func16,Tryz.ntmps16
 go_wp2_with fail
 generalize w.alloc (.cells #[.int .i64 c.order,.bool c.cycles,.bool c.collapse,.bool c.subst,.bool c.deltas] 24)=W0 at b0 ⊢;refine(HA.out W0 (HT.out.below b0)).mono ?_
 clear HA;rintro e W1 ⟨rfl,hb1⟩;have B1:Below w.heap.size w W1:=b0.trans (hb1.mono b0.size);have r1:=heap_old (heap_new W1 (.cells #[.string ts,.int .i64 (un:Int)] 31)) (.cells #[.int .i64 0,.int .i64 0] 27);have q1:=heap_new (W1.alloc (.cells #[.string ts,.int .i64 (un:Int)] 31)) (.cells #[.int .i64 0,.int .i64 0] 27);rw[show(W1.alloc (.cells #[.string ts,.int .i64 (un:Int)] 31)).heap.size=W1.heap.size+1 by simp]at q1;have B1':Below w.heap.size w ((W1.alloc (.cells #[.string ts,.int .i64 (un:Int)] 31)).alloc (.cells #[.int .i64 0,.int .i64 0] 27)):=(B1.alloc B1.size _).alloc (Nat.le_trans B1.size (by simp)) _;obtain⟨x0,x1,_,_⟩:=err_cells r1;clear b0 hb1 B1;go_wp2_with fail
 clear x0 x1;generalize W1.heap.size=V1 at r1 q1 ⊢;generalize (W1.alloc (.cells #[.string ts,.int .i64 (un:Int)] 31)).alloc (.cells #[.int .i64 0,.int .i64 0] 27)=W2 at r1 q1 B1' ⊢;refine(HR.out W2 (HT.out.below B1')).mono ?_
 clear HR;rintro e W3 ⟨vr,ps,rfl,hps,hO,hb3⟩;have r3:=heap_old (Below.heapAt hb3 r1 (lt_of_heap r1)) (.cells #[.int .i64 0,.int .i64 0] 27);have q3:=heap_old (Below.heapAt hb3 q1 (lt_of_heap q1)) (.cells #[.int .i64 0,.int .i64 0] 27);have h3:=heap_new W3 (.cells #[.int .i64 0,.int .i64 0] 27);have B3:Below w.heap.size w W3:=B1'.trans (hb3.mono B1'.size);have kA:Below W3.heap.size W3 (W3.alloc (.cells #[.int .i64 0,.int .i64 0] 27)):=(Below.refl _ _).alloc (Nat.le_refl _) _;have B3':Below w.heap.size w (W3.alloc (.cells #[.int .i64 0,.int .i64 0] 27)):=B3.alloc B3.size _;have hO3:OwnR (W3.alloc (.cells #[.int .i64 0,.int .i64 0] 27)) w.heap.size (W3.alloc (.cells #[.int .i64 0,.int .i64 0] 27)).heap.size vr ps:=((hO.below kA).low B1'.size).high kA.size;have hL3:=HL.out vr _ (by rw[← hps];exact hO3.rows);have HL3:=hide hL3;clear r1 q1 B1' hO hb3 B3 kA hL3 HL;go_wp2_with fail
 generalize W3.heap.size=V3 at h3 ⊢;generalize W3.alloc (.cells #[.int .i64 0,.int .i64 0] 27)=W4 at r3 q3 h3 B3' hO3 HL3 ⊢;refine HL3.out.mono ?_
 clear HL3;rintro e W5 ⟨rfl,hb5⟩;have r5:=heap_old (Below.heapAt hb5 r3 (lt_of_heap r3)) (.cells #[.int .i64 0,.int .i64 0] 27);have q5:=heap_old (Below.heapAt hb5 q3 (lt_of_heap q3)) (.cells #[.int .i64 0,.int .i64 0] 27);have h5:=heap_old (Below.heapAt hb5 h3 (lt_of_heap h3)) (.cells #[.int .i64 0,.int .i64 0] 27);have t5:=heap_new W5 (.cells #[.int .i64 0,.int .i64 0] 27);have B5:Below w.heap.size w W5:=B3'.trans (hb5.mono B3'.size);have kB:Below W5.heap.size W5 (W5.alloc (.cells #[.int .i64 0,.int .i64 0] 27)):=(Below.refl _ _).alloc (Nat.le_refl _) _;have B5':Below w.heap.size w (W5.alloc (.cells #[.int .i64 0,.int .i64 0] 27)):=B5.alloc B5.size _;have hO5:OwnR (W5.alloc (.cells #[.int .i64 0,.int .i64 0] 27)) w.heap.size (W5.alloc (.cells #[.int .i64 0,.int .i64 0] 27)).heap.size vr ps:=(((hO3.below hb5).high hb5.size).below kB).high kB.size;obtain⟨x0,x1,_,_⟩:=err_cells r5
 obtain⟨y0,y1,_,_⟩:=err_cells q5;obtain⟨z0,z1,_,_⟩:=err_cells h5;obtain⟨v0,v1,_,_⟩:=err_cells t5;have HFin:=hide (And.intro hps (And.intro hO5 B5'));clear r3 q3 h3 B3' hO3 hb5 B5 kB r5 q5 h5 t5 hps hO5 B5';go_wp2_with fail
 go_region
 all_goals
  go_wp2;exact bodyPost_ret (v:=.tuple #[vr,.bool true]) (by simp[results,Tryz.results16,go_sem]) rfl ⟨vr,ps,rfl,HFin.out.1,OwnR.drewed HFin.out.2.1,HFin.out.2.2.drew⟩
end
section
open Go.RowKit Go.Shelf Go.Maps
attribute [local go_sem] Oper.semAt_some
def RowIs(rs:List RowD)(n:ByteArray)(w:World)(e:Ending):Prop:=
 (∃r tv,r∈rs∧r.name=n∧IsStrs tv r.to w∧e=.returned (.tuple #[tv,.bool true]))∨((∀r∈rs,r.name≠n)∧e=.returned (.tuple #[.slice none 0 0,.bool false]))
set_option maxRecDepth 100000 in
set_option maxHeartbeats 1000000 in
theorem kpoints_any(v:Value)(rs:List RowD)(s:ByteArray)(w:World)(hlen:rs.length≤1000000)(hv:IsRows v rs w) :
  Calls Tryz.prog 21 #[v,.string s] w fun e w'=>RowIs rs s w e∧w'=w:=by
 obtain⟨ao,ca,rfl,_,_,hfa⟩:=hv;have HA:=hide hfa;clear hfa;go_enter Tryz.func21,Tryz.ntmps21
 go_wp2;go_loop [6] (fun iv=>∃i:Nat,iv=.int .i64 i∧i≤rs.length∧Hid (∀r∈rs.take i,r.name≠s)) (fun iv=>rs.length-(intOf iv).toNat)
 case atStart=>exact⟨0,rfl,Nat.zero_le _,hide (by simp)⟩
 case round=>
  obtain⟨i,rfl,hi,HN⟩:=hrel;by_cases hlt:i<rs.length
  ·obtain⟨⟨x,tt⟩,hf⟩:∃f,rs[i]?=some f:=⟨_,List.getElem?_eq_getElem hlt⟩;have hne:rs≠[]:=by intro e;rw[e]at hlt;simp at hlt
   obtain⟨b1,o1,h1,hb1,hf1⟩:=HA.out hne;rw[h1];obtain⟨a0,tv,a1,htv⟩:=hf1 i x tt hf;have HF:=hide hf;have HV:=hide htv;by_cases hx:x=s
   ·have hxx:(x.toList == s.toList)=true:=by rw[hx];simp
    have HX:=hide hx;clear hf hf1 hx htv;go_wp2;refine bodyPost_ret (v:=.tuple #[tv,.bool true]) (by simp[results,Tryz.results21,go_sem]) rfl ⟨.inl ⟨⟨x,tt⟩,tv,List.mem_of_getElem? HF.out,HX.out,HV.out,rfl⟩,rfl⟩
   ·have hxx:(x.toList == s.toList)=false:=by
     rw[beq_eq_false_iff_ne];intro e;exact hx (toList_inj e)
    have HN2:Hid (∀r∈rs.take (i+1),r.name≠s):=hide (by
     rw[List.take_add_one,HF.out];intro r hr;rcases List.mem_append.1 hr with hr|hr
     ·exact HN.out r hr
     ·simp at hr;rw[hr];exact hx)
    clear hf hf1 htv;go_wp2;go_round
    case rel=>exact⟨i+1,by go_num,hlt,HN2⟩
    case measure=>simp[intOf];omega
  ·have hie:i=rs.length:=by omega
   have HC:Hid (∀r∈rs,r.name≠s):=hide (by
    have h9:=HN.out;rw[hie,List.take_length]at h9;exact h9)
   go_wp2;refine bodyPost_ret (v:=.tuple #[.slice none 0 0,.bool false]) (by simp[results,Tryz.results21,go_sem]) rfl ⟨.inr ⟨HC.out,rfl⟩,rfl⟩
theorem sol_row[DP]{fs:List Fct}{r:RowD}(h:r∈solR fs):r.name∈nsOf fs∧∀b,b∈r.to↔Pts fs r.name b:=by
 unfold solR at h;obtain⟨a,ha,rfl⟩:=List.mem_map.1 h;refine⟨ha,fun b=>⟨fun hb=>of_decide_eq_true (List.mem_filter.1 hb).2,fun hb=>List.mem_filter.2 ⟨?_,decide_eq_true hb⟩⟩⟩;have key:∀ {p x:ByteArray},Pts fs p x→x∈nsOf fs:=by
  intro p x hp;induction hp using Pts.ind with
  |addr hm=>exact mem_ns.2 ⟨_,hm,.inr rfl⟩
  |copy _ _ ih=>exact ih
  |load _ _ _ _ ih=>exact ih
  |store _ _ _ _ ih=>exact ih
 exact key hb
theorem sol_has[DP]{fs:List Fct}{a:ByteArray}(h:a∈nsOf fs):∃r∈solR fs,r.name=a:=by
 unfold solR;exact⟨_,List.mem_map.2 ⟨a,h,rfl⟩,rfl⟩
theorem kpts_sol[DP]{fs:List Fct}(h:okGo [] fs){v:Value}{w:World}(hv:IsRows v (solR fs) w){a:ByteArray}(ha:a∈nsOf fs) :
  Calls Tryz.prog 21 #[v,.string a] w fun e w'=>(∃tv tl,e=.returned (.tuple #[tv,.bool true])∧IsStrs tv tl w∧tl.length≤1000∧∀b,b∈tl↔Pts fs a b)∧w'=w:=by
 have hn:=pnames_le h;refine(kpoints_any v (solR fs) a w (by rw[sol_len];omega) hv).mono ?_
 rintro e w' ⟨h1,rfl⟩;refine⟨?_,rfl⟩;rcases h1 with⟨r,tv,h1,h2,h3,h4⟩|⟨h1,_⟩
 ·obtain⟨_,q2⟩:=sol_row h1;refine⟨tv,r.to,h4,h3,?_,by rw[← h2];exact q2⟩;unfold solR at h1;obtain⟨b,hb,rfl⟩:=List.mem_map.1 h1;exact Nat.le_trans (List.length_filter_le _ _) (by omega)
 ·obtain⟨r,hr,hr2⟩:=sol_has (fs:=fs) ha;exact absurd hr2 (h1 r hr)
end
end Go.Proofs.YtiamlbhkiehilaaGreatDoor
