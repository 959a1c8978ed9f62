import Derived.Test.YtiamlbhkiehilaaGreatDoorKq02
namespace Go.Proofs.YtiamlbhkiehilaaGreatDoor
section
open Go.RowKit
theorem pplace_any(n q bt:Nat)(hn:n<128)(hq:q=n / 64)(hbt:bt=2^(n % 64))(w:World):Calls Tryz.prog 189 #[.int .u64 n] w fun e w'=>e=.returned (.tuple #[.int .i64 q,.int .u64 bt])∧w'=w:=by
 have hlt:2^(n % 64)<18446744073709551616:=by
  have:n % 64<64:=Nat.mod_lt _ (by omega);exact Nat.lt_of_lt_of_le (Nat.pow_lt_pow_right (by omega) this) (by decide)
 have HQ:=hide (And.intro hq hbt);clear hq hbt;go_enter Tryz.func189,Tryz.ntmps189
 go_wp2;have hwr:IntKind.u64.wrap (2^(n % 64))=((2^(n % 64):Nat):Int):=by
  rw[IntKind.wrap_u64];have e:((2:Int)^(n % 64))=((2^(n % 64):Nat):Int):=by simp
  rw[e];generalize 2^(n % 64)=p at hlt;omega
 refine bodyPost_ret (v:=.tuple #[.int .i64 ((n / 64:Nat):Int),.int .u64 ((2^(n % 64):Nat):Int)]) (by simp[results,Tryz.results189,go_sem,hwr]) rfl ⟨by rw[HQ.out.1,HQ.out.2],rfl⟩
theorem pword_any(B b o:Nat)(cs:Array Value)(T:TypeId)(v:Value)(ws:List Nat)(at_:Nat)(w:World)(hb:w.heap[b]?=some (.cells cs T (0,0)))(hv:cs[o]?=some v)(h:OwnW w B v ws) :
  Calls Tryz.prog 188 #[.pointer (some ⟨b,o,none⟩),.int .i64 at_] w fun e w'=>e=.returned (.int .u64 ((ws.getD at_ 0:Nat):Int))∧w'=w:=by
 have hc:w.cell? ⟨b,o,none⟩=some v:=by rw[cell_at hb];exact hv
 obtain⟨ao,cap,rfl,hw⟩:=h.form;go_enter Tryz.func188,Tryz.ntmps188
 by_cases hlt:at_<ws.length
 ·obtain⟨x,hx⟩:∃x,ws[at_]?=some x:=⟨_,List.getElem?_eq_getElem hlt⟩;obtain⟨g,rfl,hg,_⟩:=hw at_ x hx;have e:ws.getD at_ 0=x:=by simp[hx]
  go_wp2;go_ret
  exact⟨by rw[e];rfl,rfl⟩
 ·have e:ws.getD at_ 0=0:=by simp[List.getElem?_eq_none (Nat.le_of_not_lt hlt)]
  go_wp2;go_ret
  exact⟨by rw[e];rfl,rfl⟩
set_option maxRecDepth 100000 in
theorem preach_any(B b o:Nat)(cs:Array Value)(T:TypeId)(v:Value)(ws:List Nat)(size:Nat)(w:World)(hB:B≤w.heap.size)(hT:T≠T64)(hb:w.heap[b]?=some (.cells cs T (0,0)))(hv:cs[o]?=some v)(h:OwnW w B v ws)(hs:size≤1000) :
  Calls Tryz.prog 190 #[.pointer (some ⟨b,o,none⟩),.int .i64 size] w fun e w'=>e=.returned (.tuple #[])∧∃v',OwnW w' B v' (padW ws size)∧SetCh w w' b o cs T v v':=by
 obtain⟨i0,hi,hz0,hz1,hz2⟩:=info_parts info64;have ho:o<cs.size:=(Array.getElem?_eq_some_iff.1 hv).1;go_enter Tryz.func190,Tryz.ntmps190
 go_wp2;have H0:Hid (RcInv w w B b o cs T v ws ws.length v):=hide ⟨Nat.le_refl _,by rw[padW_zero (Nat.le_refl _)];exact h,SetCh.refl hb hv⟩;clear h;go_loopw [] (fun wr=>∃(k:Nat) (vk:Value),(k=ws.length∨k≤size)∧RcInv w wr B b o cs T v ws k vk) (fun wr=>size-lenAt wr b o)
 case atStart=>exact⟨ws.length,v,.inl rfl,H0.out⟩
 case round=>
  clear H0;obtain⟨k,vk,hk,hI⟩:=hrel;have hle:=hI.le;have hpl:(padW ws k).length=k:=by rw[padW_len];omega
  obtain⟨ao,cap,rfl,_⟩:=hI.own.form;rw[hpl]at hI;have hbr:=hI.ch.blk;have hc:wr.cell? ⟨b,o,none⟩=some (.slice ao k cap):=by rw[cell_at hbr];simp[ho]
  have hfz:wr.frozen? ⟨b,o,none⟩=false:=frozen_at hbr o;have hm:lenAt wr b o=k:=by unfold lenAt;rw[hc]
  by_cases hlt:k<size
  ·have hsz:=hI.ch.kb.size;have hne:(Value.slice ao k cap).ownBlock≠some b:=hI.own.ne hbr hT;have hown:=hI.own.alloc (.cells #[.int .u64 0] 186);have HI:=hide hI;have HM:=hide hm;have HN:=hide hne;have HB:=hide hbr;have HS1:Hid (B≤(wr.alloc (.cells #[.int .u64 0] 186)).heap.size):=hide (by rw[World.size_alloc];omega);have HS2:Hid (b<(wr.alloc (.cells #[.int .u64 0] 186)).heap.size):=hide (by rw[World.size_alloc];exact Nat.lt_succ_of_lt (lt_of_heap hbr));have HS3:Hid ((cs.setIfInBounds o (.slice ao k cap))[o]?=some (.slice ao k cap)):=hide (by simp[ho]);have hrow:=hown.1;rw[hpl]at hrow;have HR:=hide hrow;clear hI hm hne hbr hown hrow;go_wp2_with (first
    |(at_builtin;go_loud (refine wpList_append_lies _ rfl (.tmp 15) (.tmp 16) 110 rfl B 186 i0 (.int .u64 0) 1 8 Tryz.underlying110 hi hz0 hz1 hz2 rfl (by decide) (.slice ao k cap) k (u64s (padW ws k)) (by simp[Act.eval]) HR.out ⟨wr.heap.size,0,none⟩ 1 1 [.int .u64 0] (by simp[Act.eval]) rfl (cells_new' wr #[.int .u64 0] 186 [.int .u64 0] rfl) (by intro u hu;rw[List.mem_singleton.1 hu];rfl) (by decide) (by unfold maxLen;omega) (by omega) HS1.out _ rfl ?_;intro g cp w2 hw2 hg hbk hgl;have hcb:w2.heap[b]?=some (.cells (cs.setIfInBounds o (.slice ao k cap)) T (0,0)):=(hg.block b HS2.out (fun e=>HN.out e.symm)).trans (heap_old HB.out _);have hc2:w2.cell? ⟨b,o,none⟩=some (.slice ao k cap):=(cell_at hcb o).trans HS3.out;have hf2:w2.frozen? ⟨b,o,none⟩=false:=frozen_at hcb o))
    |go_in)
   have HX:Hid (RcInv w (w2.setCell ⟨b,o,none⟩ (.slice (some ⟨g,0,none⟩) (k+1) cp)) B b o cs T v ws (k+1) (.slice (some ⟨g,0,none⟩) (k+1) cp)):=by
    have hgne:g≠b:=by
     rcases hbk with e|e
     ·intro e2;subst e2;exact HN.out e
     ·have:=lt_of_heap HB.out;simp at e;omega
    refine hide ⟨by omega,?_,?_⟩
    ·have hO:OwnW w2 B (.slice (some ⟨g,0,none⟩) (k+1) cp) (padW ws (k+1)):=by
      rw[padW_step hle];refine⟨?_,fun x hx=>?_⟩
      ·have e1:u64s (padW ws k++[0])=u64s (padW ws k)++[.int .u64 0]:=by simp[u64s]
       rw[e1,List.length_append,hpl];exact hw2
      ·rcases List.mem_append.1 hx with hx|hx
       ·exact HI.out.own.2 x hx
       ·rw[List.mem_singleton.1 hx];decide
     exact hO.kb ((Kb.refl [b] w2).setCell (p:=⟨b,o,none⟩) (.inl (by simp)) _) (by intro x hx;rw[List.mem_singleton.1 hx];intro e;cases e;exact hgne rfl)
    ·refine HI.out.ch.trans ⟨?_,?_,?_⟩
     ·rw[heap_set hcb]
     ·refine(((Kb.refl _ wr).alloc _).grown hg (fun x hx=>?_)).setCell (p:=⟨b,o,none⟩) (.inl (by simp)) _;exact .inl (by simp[hx])
     ·rcases hbk with e|e
      ·exact .inl e.symm
      ·refine .inr ⟨g,rfl,?_⟩;simp at e;omega
   have HL:Hid (lenAt (w2.setCell ⟨b,o,none⟩ (.slice (some ⟨g,0,none⟩) (k+1) cp)) b o=k+1):=by
    refine hide ?_
    unfold lenAt;rw[cell_at (heap_set hcb o _)];simp[ho]
   clear hw2 hg hbk hgl hcb HR HB HN;go_wp2;go_roundw
   case rel=>exact⟨k+1,_,.inr (by omega),HX.out⟩
   case measure=>rw[HL.out,HM.out];omega
  ·have HI:=hide hI;clear hI;go_wp2;go_end0
   refine⟨rfl,_,?_,HI.out.ch⟩;have e:padW ws size=padW ws k:=by
    rcases hk with rfl|hk
    ·rw[padW_zero (Nat.le_of_not_lt hlt),padW_zero (Nat.le_refl _)]
    ·rw[show k=size by omega]
   rw[e];exact HI.out.own
set_option maxRecDepth 100000 in
theorem padd_any(B b o:Nat)(cs:Array Value)(T:TypeId)(v:Value)(s:List Nat)(n:Nat)(w:World)(hB:B≤w.heap.size)(hT:T≠T64)(hb:w.heap[b]?=some (.cells cs T (0,0)))(hv:cs[o]?=some v)(h:SetV w B v s)(hn:n<128) :
  Calls Tryz.prog 175 #[.pointer (some ⟨b,o,none⟩),.int .u64 n] w fun e w'=>e=.returned (.bool (!s.contains n))∧∃v',SetV w' B v' (addS n s)∧SetCh w w' b o cs T v v':=by
 obtain⟨ws,hl,hO,rfl⟩:=h;have ho:o<cs.size:=(Array.getElem?_eq_some_iff.1 hv).1;obtain⟨q,hq⟩:∃q,q=n / 64:=⟨_,rfl⟩;obtain⟨bt,hbt⟩:∃bt,bt=2^(n % 64):=⟨_,rfl⟩;have hp:bt<18446744073709551616:=by rw[hbt];exact pow64 n
 have hq2:q≤1:=by omega
 have HP:=pplace_any n q bt hn hq hbt w;have HQ:=hide (And.intro hq hbt);clear hq hbt;go_enter Tryz.func175,Tryz.ntmps175
 go_wp2_with fail
 refine HP.mono ?_
 clear HP;rintro e w' ⟨rfl,rfl⟩;go_wp2_with fail
 refine(preach_any B b o cs T v ws (q+1) w' hB hT hb hv hO (by omega)).mono ?_
 rintro e w1 ⟨rfl,v1,hO1,hC1⟩;have hpl:=padW_len ws (q+1);have HH:Hid (∀k,hasW (padW ws (q+1)) k=hasW ws k):=padW_has ws (q+1);have hL2:(padW ws (q+1)).length≤2:=by omega
 have hlt:q<(padW ws (q+1)).length:=by omega
 generalize padW ws (q+1)=wp at *;clear hpl hl hO;obtain⟨x,hx⟩:∃x,wp[q]?=some x:=⟨_,List.getElem?_eq_getElem hlt⟩;obtain⟨ao,cap,rfl,hw⟩:=hO1.form;obtain⟨g,rfl,hg,hgf⟩:=hw _ x hx;have hxl:x<18446744073709551616:=hO1.2 x (List.mem_of_getElem? hx);have hbr:=hC1.blk;have hc:w1.cell? ⟨b,o,none⟩=some (.slice (some ⟨g,0,none⟩) wp.length cap):=by rw[cell_at hbr];simp[ho]
 have hgb:g≠b:=fun e=>hO1.ne hbr hT (by rw[e];rfl)
 have HF:Hid (SetV (w1.setCell ⟨g,q,none⟩ (.int .u64 ((x ||| bt:Nat):Int))) B (.slice (some ⟨g,0,none⟩) wp.length cap) (addS n (mkS (hasW ws)))∧SetCh w' (w1.setCell ⟨g,q,none⟩ (.int .u64 ((x ||| bt:Nat):Int))) b o cs T v (.slice (some ⟨g,0,none⟩) wp.length cap)):=by
  refine hide ⟨⟨wp.set q (x ||| bt),by rw[List.length_set];omega,hO1.set _ _ (or_lt64 hxl hp),?_⟩,hC1.trans ⟨?_,(Kb.refl _ _).setCell (p:=⟨g,q,none⟩) (.inl (by simp[Value.ownBlock])) _,.inl rfl⟩⟩
  ·unfold addS;refine mkS_congr fun k hk=>?_
   rw[hasW_or HQ.out.1 HQ.out.2 hx,mkS_contains hk,HH.out]
  ·have e2:(w1.setCell ⟨g,q,none⟩ (.int .u64 ((x ||| bt:Nat):Int))).heap[b]?=w1.heap[b]?:=Below.heap_setCell _ _ _ _ (fun e=>hgb e.symm);rw[e2,hbr,set_set']
 have HE:Hid ((!(mkS (hasW ws)).contains n)=decide (x &&& bt=0)):=by
  refine hide ?_
  rw[mkS_contains hn,← HH.out,hasW_at HQ.out.1 hx,new_bit HQ.out.2]
 have HX:=hide hx;have hand:=u64_and_nat x bt hxl hp;have hor:=u64_or_nat x bt hxl hp;generalize wp.length=L at *;clear hO1 hC1 hw hbr hx;go_wp2;go_ret
 refine⟨?_,_,HF.out⟩;rw[HE.out,← beq0];rfl
set_option maxRecDepth 100000 in
theorem punite_any(B b o b2 o2:Nat)(cs cs2:Array Value)(T T2:TypeId)(v v2:Value)(s s2:List Nat)(w:World)(hB:B≤w.heap.size)(hT:T≠T64)(hT2:T2≠T64)(hb:w.heap[b]?=some (.cells cs T (0,0)))(hv:cs[o]?=some v)(hb2:w.heap[b2]?=some (.cells cs2 T2 (0,0)))(hv2:cs2[o2]?=some v2)(hne:b2≠b∨o2≠o)(h:SetV w B v s)(h2:SetV w B v2 s2)(ha:Apart v v2) :
  Calls Tryz.prog 192 #[.pointer (some ⟨b,o,none⟩),.pointer (some ⟨b2,o2,none⟩)] w fun e w'=>e=.returned (.bool (newS s s2))∧∃v',SetV w' B v' (uniS s s2)∧SetCh w w' b o cs T v v':=by
 obtain⟨ws,hl,hO,rfl⟩:=h;obtain⟨wo,hl2,hO2,rfl⟩:=h2;have ho:o<cs.size:=(Array.getElem?_eq_some_iff.1 hv).1;obtain⟨ao2,cap2,rfl,hw2⟩:=hO2.form;have hc2:w.cell? ⟨b2,o2,none⟩=some (.slice ao2 wo.length cap2):=by rw[cell_at hb2];exact hv2
 have HR:=preach_any B b o cs T v ws wo.length w hB hT hb hv hO (by omega);go_enter Tryz.func192,Tryz.ntmps192
 go_wp2_with fail
 refine HR.mono ?_
 clear HR;rintro e w1 ⟨rfl,v1,hO1,hC1⟩;obtain⟨cs2',hb2',hv2'⟩:=hC1.other hb hO hb2 hv2 hT2 hne;obtain⟨hO2',ha'⟩:=hC1.apart hb hT hO2 ha;have hc2':w1.cell? ⟨b2,o2,none⟩=some (.slice ao2 wo.length cap2):=by rw[cell_at hb2'];exact hv2'
 have hpl:=padW_len ws wo.length;have HH:Hid (∀k,hasW (padW ws wo.length) k=hasW ws k):=padW_has ws wo.length;have hL2:(padW ws wo.length).length≤2:=by omega
 have hlt2:wo.length≤(padW ws wo.length).length:=by omega
 generalize padW ws wo.length=wp at *;clear hpl hO hc2 hw2;have h64:=hO1.2;have h64o:=hO2'.2;have H0:Hid (UnInv w w1 B b o cs T v v1 wp wo 0 false):=hide ⟨Nat.zero_le _,⟨wp,rfl,hO1,fun j=>by simp⟩,by simp,hC1⟩;obtain⟨ao1,cap1,rfl,hw1⟩:=hO1.form;have HA:=hide ha';have HO2:=hide hO2';have HB1:=hide hC1.blk;clear ha' hO1 hC1 hO2' hb2' hv2' hb2 hv2 hO2;go_wp2;go_loopw [5,20] (fun gv iv wr=>∃(i:Nat) (gr:Bool),gv=.bool gr∧iv=.int .i64 i∧UnInv w wr B b o cs T v (.slice ao1 wp.length cap1) wp wo i gr∧Kb (b::(Value.slice ao1 wp.length cap1).ownBlock.toList) w1 wr) (fun _ iv _=>wo.length-(intOf iv).toNat)
 case atStart=>exact⟨0,false,rfl,rfl,H0.out,Kb.refl _ _⟩
 case round=>
  clear H0;obtain⟨i,gr,rfl,rfl,hI,hK⟩:=hrel;have hle:=hI.le;have hbr:=hI.ch.blk;have hc:wr.cell? ⟨b,o,none⟩=some (.slice ao1 wp.length cap1):=by rw[cell_at hbr];simp[ho]
  by_cases hlt:i<wo.length
  ·have hOr:OwnW wr B (.slice ao2 wo.length cap2) wo:=HO2.out.kb hK (by
    intro g hg;rcases List.mem_cons.1 hg with rfl|hg
    ·exact HO2.out.ne HB1.out hT
    ·simp at hg;exact HA.out g hg)
   obtain⟨y,hy⟩:∃y,wo[i]?=some y:=⟨_,List.getElem?_eq_getElem hlt⟩;obtain⟨ao3,cap3,e3,hw3⟩:=hOr.form;injection e3 with e3 _ e4;subst e3 e4;obtain⟨g2,rfl,hg2,_⟩:=hw3 i y hy;obtain⟨wi,q1,q2,q3⟩:=hI.ws;obtain⟨x,hx⟩:∃x,wi[i]?=some x:=⟨_,List.getElem?_eq_getElem (by omega)⟩;obtain⟨ao4,cap4,e5,hw4⟩:=q2.form;injection e5 with e5 _ e6;subst e5 e6;obtain⟨g,rfl,hg,hgf⟩:=hw4 i x hx;have ey:wo.getD i 0=y:=by simp[hy]
   have ex:wp.getD i 0=x:=by
    have:=q3 i;rw[if_neg (by omega)]at this;rw[← this];simp[hx]
   have hxl:x<18446744073709551616:=by rw[← ex];exact getD_lt h64 i
   have hyl:y<18446744073709551616:=by rw[← ey];exact getD_lt h64o i
   have HI:=hI.step rfl hT hlt hlt2 (by rw[ex];exact hxl) (by rw[ey];exact hyl);rw[ex,ey]at HI;have HI2:=hide (And.intro HI (hK.setCell (p:=⟨g,i,none⟩) (.inl (by simp[Value.ownBlock])) (.int .u64 ((x ||| y:Nat):Int))));have hand:=u64_andNot_nat y x hyl hxl;have hor:=u64_or_nat x y hxl hyl;have hgz:(andN y x=0)=(y &&& (18446744073709551615-x)=0):=rfl;have HZ:=hide hgz;clear HI hI hK hbr hOr q1 q2 q3 hw3 hw4 hgz hy hx ex ey;cases gr
   ·by_cases hz:andN y x=0
    ·have hz':y &&& (18446744073709551615-x)=0:=hz;have HY:Hid ((false || !decide (andN y x=0))=false):=hide (by simp[hz]);clear hz;rw[hz']at hand;go_wp2;go_roundw
     case rel=>exact⟨i+1,false,rfl,by go_num,by rw[← HY.out];exact HI2.out.1,HI2.out.2⟩
     case measure=>simp[intOf];omega
    ·have HY:Hid ((false || !decide (andN y x=0))=true):=hide (by simp[hz]);have hz':¬(((y &&& (18446744073709551615-x):Nat):Int)=0):=fun e=>hz (by unfold andN;omega)
     have HZ2:Hid ((((y &&& (18446744073709551615-x):Nat):Int) != 0)=true):=hide (bne_iff_ne.2 hz');clear hz;go_wp2;go_roundw
     case rel=>exact⟨i+1,true,by rw[HZ2.out],by go_num,by rw[← HY.out];exact HI2.out.1,HI2.out.2⟩
     case measure=>simp[intOf];omega
   ·go_wp2;go_roundw
    case rel=>exact⟨i+1,true,rfl,by go_num,HI2.out.1,HI2.out.2⟩
    case measure=>simp[intOf];omega
  ·have hin:i=wo.length:=by omega
   subst hin;have HI:=hide hI;clear hI hK hbr;go_wp2;go_ret
   obtain⟨wi,q1,q2,q3⟩:=HI.out.ws;have eH:mkS (hasW wp)=mkS (hasW ws):=mkS_congr fun k _=>HH.out k
   refine⟨?_,_,⟨wi,by omega,q2,?_⟩,HI.out.ch⟩
   ·rw[← eH,newS_words h64 h64o hl2,← HI.out.gr];rfl
   ·unfold uniS;refine mkS_congr fun k hk=>?_
    rw[mkS_contains hk,mkS_contains hk,← HH.out];unfold hasW;rw[q3];by_cases e:k / 64<wo.length
    ·rw[if_pos e,Nat.testBit_or]
    ·rw[if_neg e];have:wo.getD (k / 64) 0=0:=by rw[List.getD_eq_getElem?_getD,List.getElem?_eq_none (Nat.le_of_not_lt e)];rfl
     rw[this];simp
set_option maxRecDepth 100000 in
theorem pequal_any(B B2 b o b2 o2:Nat)(cs cs2:Array Value)(T T2:TypeId)(v v2:Value)(s s2:List Nat)(w:World)(hb:w.heap[b]?=some (.cells cs T (0,0)))(hv:cs[o]?=some v)(hb2:w.heap[b2]?=some (.cells cs2 T2 (0,0)))(hv2:cs2[o2]?=some v2)(h:SetV w B v s)(h2:SetV w B2 v2 s2) :
  Calls Tryz.prog 174 #[.pointer (some ⟨b,o,none⟩),.pointer (some ⟨b2,o2,none⟩)] w fun e w'=>e=.returned (.bool (s == s2))∧∃n,w'=w.drewN n:=by
 obtain⟨ws,hl,hO,rfl⟩:=h;obtain⟨wo,hl2,hO2,rfl⟩:=h2;have hc:w.cell? ⟨b,o,none⟩=some v:=by rw[cell_at hb];exact hv
 have hc2:w.cell? ⟨b2,o2,none⟩=some v2:=by rw[cell_at hb2];exact hv2
 have HW:=fun n at_=>pword_any B b o cs T v ws at_ (w.drewN n) hb hv hO
 have HW2:=fun n at_=>pword_any B2 b2 o2 cs2 T2 v2 wo at_ (w.drewN n) hb2 hv2 hO2
 have HE:=hide (words_eq hO.2 hO2.2 hl hl2);obtain⟨ao,cap,rfl,_⟩:=hO.form;obtain⟨ao2,cap2,rfl,_⟩:=hO2.form;have h64:=hO.2;have h64o:=hO2.2;clear hO hO2 hb hb2 hv hv2;go_enter Tryz.func174,Tryz.ntmps174
 go_wp2;go_region
 have hmx:(if ws.length<wo.length then((wo.length:Nat):Int)else((ws.length:Nat):Int))=((max ws.length wo.length:Nat):Int):=by split<;>omega
 rw[hmx];have hm2:max ws.length wo.length≤2:=by omega
 generalize max ws.length wo.length=m at *;clear hmx;obtain⟨w1,hw1⟩:∃w1,w1=w.drew:=⟨_,rfl⟩;have HW1:=hide hw1;have HWa:∀at_:Nat,Calls Tryz.prog 188 #[.pointer (some ⟨b,o,none⟩),.int .i64 at_] w1 fun e w'=>e=.returned (.int .u64 ((ws.getD at_ 0:Nat):Int))∧w'=w1:=by rw[hw1];exact HW 1
 have HWb:∀at_:Nat,Calls Tryz.prog 188 #[.pointer (some ⟨b2,o2,none⟩),.int .i64 at_] w1 fun e w'=>e=.returned (.int .u64 ((wo.getD at_ 0:Nat):Int))∧w'=w1:=by rw[hw1];exact HW2 1
 rw[← hw1];clear HW HW2 hw1 hc hc2;go_wp2;go_loopw [17] (fun iv wr=>∃(i:Nat),iv=.int .i64 i∧i≤m∧wr=w1∧Hid (∀j,j<i→ws.getD j 0=wo.getD j 0)) (fun iv _=>m-(intOf iv).toNat)
 case atStart=>exact⟨0,rfl,Nat.zero_le _,rfl,hide (fun j hj=>by omega)⟩
 case round=>
  obtain⟨i,rfl,hle,rfl,HI⟩:=hrel;by_cases hlt:i<m
  ·have ha:=HWa i;have hb:=HWb i;have hxl:=getD_lt h64 i;have hyl:=getD_lt h64o i;clear HWa HWb;generalize hgx:ws.getD i 0=x at ha hxl;generalize hgy:wo.getD i 0=y at hb hyl;have HX0:=hide (And.intro hgx hgy);clear hgx hgy;go_wp2_with fail
   refine ha.mono ?_
   clear ha;rintro e w2 ⟨rfl,rfl⟩;go_wp2_with fail
   refine hb.mono ?_
   clear hb;rintro e w2 ⟨rfl,rfl⟩;by_cases hxy:x=y
   ·have HX:Hid (ws.getD i 0=wo.getD i 0):=hide (by rw[HX0.out.1,HX0.out.2];exact hxy);subst hxy;go_wp2;go_roundw
    case rel=>
     refine⟨i+1,by go_num,by omega,(by first|rfl|trivial),hide (fun j hj=>?_)⟩;by_cases e:j=i
     ·subst e;exact HX.out
     ·exact HI.out j (by omega)
    case measure=>simp[intOf];omega
   ·have HX:Hid ((mkS (hasW ws) == mkS (hasW wo))=false):=by
     refine hide ?_
     rw[beq_eq_false_iff_ne];exact fun e=>hxy (by rw[← HX0.out.1,← HX0.out.2];exact HE.out.2 e i hlt)
    go_wp2;go_ret
    exact⟨by rw[HX.out];rfl,1,HW1.out⟩
  ·have HX:Hid ((mkS (hasW ws) == mkS (hasW wo))=true):=by
    refine hide ?_
    rw[beq_iff_eq];exact HE.out.1 (fun j hj=>HI.out j (by omega))
   clear HWa HWb;go_wp2;go_ret
   exact⟨by rw[HX.out];rfl,1,HW1.out⟩
set_option maxRecDepth 100000 in
theorem pempty_any(B b o:Nat)(cs:Array Value)(T:TypeId)(v:Value)(s:List Nat)(w:World)(hb:w.heap[b]?=some (.cells cs T (0,0)))(hv:cs[o]?=some v)(h:SetV w B v s) :
  Calls Tryz.prog 191 #[.pointer (some ⟨b,o,none⟩)] w fun e w'=>e=.returned (.bool s.isEmpty)∧Kb [] w w':=by
 have HC:=pequal_any B 0 b o w.heap.size 0 cs #[.slice none 0 0] T 230 v (.slice none 0 0) s [] (w.alloc (.cells #[.slice none 0 0] 230)) (heap_old hb _) hv (heap_new _ _) rfl (h.kb ((Kb.refl [] w).alloc _) (by simp)) (SetV.nil _ _);have HE:Hid ((s == [])=s.isEmpty):=hide (by cases s<;>rfl);clear hb hv h;go_enter Tryz.func191,Tryz.ntmps191
 go_wp2_with fail
 refine HC.mono ?_
 clear HC;rintro e w1 ⟨rfl,n,rfl⟩;go_wp2;go_ret
 exact⟨by rw[← HE.out];rfl,((Kb.refl [] w).alloc _).drewN n⟩
end
end Go.Proofs.YtiamlbhkiehilaaGreatDoor
