import Derived.Test.YtiamlbhkiehilaaGreatDoorKq01
import Derived.Test.YtiamlbhkiehilaaGreatDoorKq06
import Derived.Test.YtiamlbhkiehilaaGreatDoorKq02
import Derived.Laws.EntriesVeiled
import Derived.Test.YtiamlbhkiehilaaGreatDoorKq00
import Derived.Test.YtiamlbhkiehilaaGreatDoorRows
import Derived.Laws.StructEq
import Derived.WalkKit
import Derived.Maps.Views
import Derived.WalkSpells
import Derived.WalkLawsBesides
import Derived.RegionTactic
import Derived.ChangeAlike
namespace Go.Proofs.YtiamlbhkiehilaaGreatDoor
section
open Go.RowKit
variable {B:Nat} {c:Way} {n:Nat} {s:St}
theorem letIn_len(s:St)(o:Int):(s.letIn o).now.length≤s.now.length+s.come.length∧(s.letIn o).come.length≤s.come.length:=by
 unfold St.letIn;split
 ·simp
 ·simp only[List.length_nil];refine⟨?_,Nat.zero_le _⟩;split
  ·rw[List.length_mergeSort,List.length_append];exact Nat.le_refl _
  ·rw[List.length_append];exact Nat.le_refl _
def NextR(B:Nat)(c:Way)(n:Nat)(s:St)(w:World)(G:GV)(e:Ending)(w':World):Prop:=
 (∃s',s.next c.order=(none,s')∧e=.returned (.tuple #[.int .u64 0,.bool false])∧∃G',GM w' B c n G' s'∧GCh w w' G G') ∨
 (∃m s',s.next c.order=(some m,s')∧e=.returned (.tuple #[.int .u64 (m:Int),.bool true])∧∃G',GM w' B c n G' s'∧GCh w w' G G')
set_option maxRecDepth 100000 in
set_option maxHeartbeats 1000000 in
theorem gnext_any(hS:c.order=2→SortOK B)(w:World)(G:GV)(h:GM w B c n G s)(hw:WF n s) :
  Calls Tryz.prog 90 #[.pointer (some ⟨G.bl,0,none⟩)] w (NextR B c n s w G):=by
 have hl:=hw.lens;have HL:=gletIn_any hS w G h (by omega) (by omega);obtain⟨q1,q2⟩:=letIn_len s c.order;have hmem:∀x,x∈(s.letIn c.order).now→x<n:=by
  intro x hx;have h1:(s.letIn c.order).W x:=.inl hx;rw[St.letIn_W]at h1;exact hw.inb x (hw.ins x (by rcases h1 with h1|h1<;>simp[h1]))
 have hnx:s.next c.order=(match(s.letIn c.order).now with | []=>(none,s.letIn c.order)|x::r=>(some (if c.order == 1 then(x::r).getLastD 0 else x),(s.letIn c.order).drop (if c.order == 1 then(x::r).getLastD 0 else x))):=rfl
 have hn:=h.n40;clear h hw;generalize hs1:s.letIn c.order=s1 at *;have HNX:=hide hnx;clear hnx hs1;go_enter Tryz.func90,Tryz.ntmps90
 go_wp2_with fail
 refine HL.mono ?_
 clear HL;rintro e w1 ⟨rfl,G1,hG1,hC1⟩;have eb:G1.bl=G.bl:=hC1.e3;obtain⟨an,cn,evn,hwn⟩:=hG1.oN.form;have hb:=hG1.hbl;rw[eb]at hb;have c0:w1.cell? ⟨G.bl,0,none⟩=some (.int .i64 c.order):=by rw[cell_at hb];rfl
 have c2:w1.cell? ⟨G.bl,2,none⟩=some (.slice an s1.now.length cn):=by rw[cell_at hb];exact congrArg some evn
 cases hnow:s1.now with
 |nil=>
  have HF:Hid (s.next c.order=(none,s1)):=hide (by rw[HNX.out,hnow]);have H1:=hide (And.intro hG1 hC1);rw[hnow]at c2;simp only[List.length_nil]at c2;clear hG1 hC1 hb evn hwn HNX hnow;go_wp2;refine bodyPost_ret (v:=.tuple #[.int .u64 0,.bool false]) (by simp[results,Tryz.results90,go_sem]) rfl ?_
  exact .inl ⟨s1,HF.out,rfl,G1,H1.out⟩
 |cons x r=>
  have hlen:s1.now.length=r.length+1:=by rw[hnow];rfl
  obtain⟨g,e,hg0,_⟩:=hwn 0 x (by rw[hnow];rfl);subst e;obtain⟨y,hy⟩:∃y,y=(x::r).getLastD 0:=⟨_,rfl⟩;have hylast:s1.now[s1.now.length-1]?=some y:=by
   rw[hnow,hy,← List.getLast?_eq_getElem?,List.getLastD_eq_getLast?];rw[List.getLast?_eq_some_getLast (by simp)];rfl
  obtain⟨g',e,hgl,_⟩:=hwn _ y hylast;cases e;have hxn:x<n:=hmem x (by rw[hnow];simp);have hyn:y<n:=hmem y (List.mem_of_getElem? hylast);have HD:Hid (∀m,m<n→Calls Tryz.prog 114 #[.pointer (some ⟨G.bl,0,none⟩),.int .u64 m] w1.drew (fun e w'=>e=.returned (.tuple #[])∧∃G',GM w' B c n G' (s1.drop m)∧GCh w w' G G')∧Calls Tryz.prog 114 #[.pointer (some ⟨G.bl,0,none⟩),.int .u64 m] w1 (fun e w'=>e=.returned (.tuple #[])∧∃G',GM w' B c n G' (s1.drop m)∧GCh w w' G G')):=by
   refine hide (fun m hm=>⟨?_,?_⟩)
   ·have hsw:SameW w1 w1.drew:=⟨rfl,rfl,rfl,rfl⟩;have:=gdrop_any m w1.drew G1 (hG1.same hsw) (by omega) (by omega) (by omega);rw[eb]at this;refine this.mono ?_
    rintro e w' ⟨rfl,G',p1,p2⟩;exact⟨rfl,G',p1,hC1.trans ((GCh.same hsw G1).trans p2)⟩
   ·have:=gdrop_any m w1 G1 hG1 (by omega) (by omega) (by omega);rw[eb]at this;refine this.mono ?_
    rintro e w' ⟨rfl,G',p1,p2⟩;exact⟨rfl,G',p1,hC1.trans p2⟩
  rw[hlen]at c2 hgl;rw[Nat.add_sub_cancel]at hgl;have hrl:r.length≤1000:=by omega
  by_cases ho:c.order=1
  ·have HF:Hid (s.next c.order=(some y,s1.drop y)):=hide (by rw[HNX.out,hnow,ho,hy];rfl);obtain⟨hd,_⟩:=HD.out y hyn;rw[ho]at c0;clear HNX HD hG1 hC1 hb evn hwn hnow hylast hy hlen hmem;go_wp2;go_region
   all_goals
    go_wp2_with fail
    refine hd.mono ?_
    clear hd;rintro e w2 ⟨rfl,G2,hG2⟩;have H2:=hide hG2;clear hG2;go_wp2;refine bodyPost_ret (v:=.tuple #[.int .u64 (y:Int),.bool true]) (by simp[results,Tryz.results90,go_sem]) rfl ?_
    exact .inr ⟨y,_,HF.out,rfl,G2,H2.out⟩
  ·have HF:Hid (s.next c.order=(some x,s1.drop x)):=hide (by rw[HNX.out,hnow];simp[ho]);obtain⟨_,hd⟩:=HD.out x hxn;obtain⟨od,hod⟩:∃od,od=c.order:=⟨_,rfl⟩;rw[← hod]at c0 ho;clear HNX HD hG1 hC1 hb evn hwn hnow hylast hy hlen hmem hod;go_wp2_with fail
   refine hd.mono ?_
   clear hd;rintro e w2 ⟨rfl,G2,hG2⟩;have H2:=hide hG2;clear hG2;go_wp2;refine bodyPost_ret (v:=.tuple #[.int .u64 (x:Int),.bool true]) (by simp[results,Tryz.results90,go_sem]) rfl ?_
   exact .inr ⟨x,_,HF.out,rfl,G2,H2.out⟩
end
section
open Go.RowKit
structure WoInv(w wr:World)(B:Nat)(v:Value)(ws wo:List Nat)(i:Nat):Prop where
 le:i≤ws.length
 ws:∃wi,wi.length=ws.length∧OwnW wr B v wi∧∀j,wi.getD j 0=if j<i then andN (ws.getD j 0) (wo.getD j 0)else ws.getD j 0
 kb:Kb [] w wr
theorem WoInv.step{w wr:World}{B:Nat}{v:Value}{ws wo:List Nat}{i g L cap:Nat}(h:WoInv w wr B v ws wo i)(hv:v=.slice (some ⟨g,0,none⟩) L cap)(hlt:i<ws.length)(hB:w.heap.size≤B)(hx:ws.getD i 0<18446744073709551616) :
  WoInv w (wr.setCell ⟨g,i,none⟩ (.int .u64 ((andN (ws.getD i 0) (wo.getD i 0):Nat):Int))) B v ws wo (i+1):=by
 obtain⟨wi,e1,e2,e3⟩:=h.ws;have hg:=(e2.lt (show v.ownBlock=some g by rw[hv];rfl)).1;refine⟨hlt,⟨wi.set i (andN (ws.getD i 0) (wo.getD i 0)),by rw[List.length_set];exact e1,?_,fun j=>?_⟩,h.kb.setCell (p:=⟨g,i,none⟩) (.inr (Nat.le_trans hB hg)) _⟩
 ·rw[hv]at e2 ⊢;exact e2.set _ _ (andN_lt hx)
 ·rw[set_getD _ _ _ _ (by omega)];by_cases e:j=i
  ·subst e;rw[if_pos rfl,if_pos (by omega)]
  ·rw[if_neg e,e3];by_cases e4:j<i
   ·rw[if_pos e4,if_pos (by omega)]
   ·rw[if_neg e4,if_neg (by omega)]
theorem WoInv.drew{w wr:World}{B:Nat}{v:Value}{ws wo:List Nat}{i:Nat}(h:WoInv w wr B v ws wo i)(n:Nat):WoInv w (wr.drewN n) B v ws wo i:=⟨h.le,h.ws,h.kb.drewN n⟩
set_option maxRecDepth 100000 in
set_option maxHeartbeats 1000000 in
theorem minus_any(B B2 b o b2 o2:Nat)(cs cs2:Array Value)(T T2:TypeId)(v v2:Value)(s s2:List Nat)(w:World)(hb:w.heap[b]?=some (.cells cs T (0,0)))(hv:cs[o]?=some v)(hb2:w.heap[b2]?=some (.cells cs2 T2 (0,0)))(hv2:cs2[o2]?=some v2)(h:SetV w B v s)(h2:SetV w B2 v2 s2) :
  Calls Tryz.prog 115 #[.pointer (some ⟨b,o,none⟩),.pointer (some ⟨b2,o2,none⟩)] w fun e w'=>∃v',e=.returned (.agg #[v'])∧SetV w' w.heap.size v' (subS s s2)∧Kb [] w w':=by
 obtain⟨ws,hl,hO,rfl⟩:=h;obtain⟨wo,hl2,hO2,rfl⟩:=h2;obtain⟨W0,hW0⟩:∃W0,W0=w.alloc (.cells #[.slice none 0 0] 112):=⟨_,rfl⟩;have k0:Kb [] w W0:=by rw[hW0];exact(Kb.refl [] w).alloc _
 have z0:W0.heap.size=w.heap.size+1:=by rw[hW0];simp
 have y0:W0.heap[w.heap.size]?=some (.cells #[.slice none 0 0] 112 (0,0)):=by rw[hW0];exact heap_new _ _
 have cv:W0.cell? ⟨b,o,none⟩=some v:=by rw[cell_at (k0.heap hb (by simp))];exact hv
 have h64:=hO.2;have h64o:=hO2.2;have HC:=wclone_any B v ws W0 (hO.kb k0 (by simp)) (by omega);have hb2':=k0.heap hb2 (by simp);have hO2':=hO2.kb k0 (by simp);clear hb hv hb2 hO hO2;go_enter Tryz.func115,Tryz.ntmps115
 rw[hW0]at HC cv;go_wp2_with fail
 refine HC.mono ?_
 clear HC;rintro e w1 ⟨v1,rfl,hO1,k1⟩;rw[← hW0]at hO1 k1;have yr:w1.heap[w.heap.size]?=some (.cells #[.slice none 0 0] 112 (0,0)):=k1.heap y0 (by simp);have H0:Hid (WoInv w1 w1 W0.heap.size v1 ws wo 0∨True):=hide (.inr trivial);have HI0:Hid (WoInv W0 w1 W0.heap.size v1 ws wo 0):=hide ⟨Nat.zero_le _,⟨ws,rfl,hO1,fun j=>by simp⟩,k1⟩;obtain⟨ao,cap,rfl,_⟩:=hO1.form;have HO2:=hide (And.intro hb2' hO2');have HY:=hide y0;have HZ:=hide z0;have HK0:=hide k0;clear hW0 k1 yr hO1 hb2' hO2' H0 y0 z0 k0 cv;go_wp2;go_loopw [14] (fun iv wr=>∃(i:Nat),iv=.int .i64 i∧i≤ws.length∧Hid (WoInv W0 wr W0.heap.size (.slice ao ws.length cap) ws wo i)) (fun iv _=>ws.length-(intOf iv).toNat)
 case atStart=>exact⟨0,rfl,Nat.zero_le _,HI0⟩
 case round=>
  clear HI0;obtain⟨i,rfl,hle,HI⟩:=hrel;by_cases hlt:i<ws.length
  ·have HW:=fun k=>word_any B2 b2 o2 cs2 T2 v2 wo i (wr.drewN k) ((HI.out.kb.drewN k).heap HO2.out.1 (by simp)) hv2 (HO2.out.2.kb (HI.out.kb.drewN k) (by simp))
   obtain⟨wi,q1,q2,q3⟩:=HI.out.ws;obtain⟨x,hx⟩:∃x,wi[i]?=some x:=⟨_,List.getElem?_eq_getElem (by omega)⟩;obtain⟨ao4,cap4,e5,hw4⟩:=q2.form;injection e5 with e5 e7 e6;subst e5 e6;clear e7;obtain⟨g,rfl,hg,hgf⟩:=hw4 i x hx;have ex:ws.getD i 0=x:=by
    have:=q3 i;rw[if_neg (by omega)]at this;rw[← this];simp[hx]
   have hxl:x<18446744073709551616:=by rw[← ex];exact getD_lt h64 i
   have hyl:=getD_lt h64o i;have HI2:Hid (∀k,WoInv W0 ((wr.drewN k).setCell ⟨g,i,none⟩ (.int .u64 ((andN x (wo.getD i 0):Nat):Int))) W0.heap.size (.slice (some ⟨g,0,none⟩) ws.length cap) ws wo (i+1)):=by
    refine hide (fun k=>?_);have:=(HI.out.drew k).step rfl hlt (Nat.le_refl _) (by rw[ex];exact hxl);rw[ex]at this;exact this
   generalize wo.getD i 0=y at *;have hand:=u64_andNot_nat x y hxl hyl;unfold andN at HI2;clear HI q1 q2 q3 hw4 hx ex;go_wp2;go_region_with (go_at_call 150;refine(HW _).mono ?_;rintro e w1 ⟨rfl,rfl⟩)
   all_goals
    go_wp2;go_roundw
    case rel=>exact⟨i+1,by go_num,by omega,hide (HI2.out _)⟩
    case measure=>simp[intOf];omega
  ·have hin:i=ws.length:=by omega
   subst hin;have yr:wr.heap[w.heap.size]?=some (.cells #[.slice none 0 0] 112 (0,0)):=HI.out.kb.heap HY.out (by simp);have cr:wr.cell? ⟨w.heap.size,0,none⟩=some (.slice none 0 0):=by rw[cell_at yr];rfl
   have fr:wr.frozen? ⟨w.heap.size,0,none⟩=false:=frozen_at yr 0;have hcl:(wr.setCell ⟨w.heap.size,0,none⟩ (.slice ao ws.length cap)).cell? ⟨w.heap.size,0,none⟩=some (.slice ao ws.length cap):=by rw[cell_at (heap_set yr 0 _)];rfl
   have HCL:=hide hcl;have HF:Hid (SetV (wr.setCell ⟨w.heap.size,0,none⟩ (.slice ao ws.length cap)) w.heap.size (.slice ao ws.length cap) (subS (mkS (hasW ws)) (mkS (hasW wo)))∧Kb [] w (wr.setCell ⟨w.heap.size,0,none⟩ (.slice ao ws.length cap))):=by
    obtain⟨wi,q1,q2,q3⟩:=HI.out.ws;have kk:Kb [] w (wr.setCell ⟨w.heap.size,0,none⟩ (.slice ao ws.length cap)):=(HK0.out.trans HI.out.kb).setCell (p:=⟨w.heap.size,0,none⟩) (.inr (Nat.le_refl _)) _;have q2':OwnW (wr.setCell ⟨w.heap.size,0,none⟩ (.slice ao ws.length cap)) W0.heap.size (.slice ao ws.length cap) wi:=q2.kb ((Kb.refl [w.heap.size] wr).setCell (p:=⟨w.heap.size,0,none⟩) (.inl (by simp)) _) (by
     intro g hg e;rw[List.mem_singleton.1 hg]at e;have:=(q2.lt e).1;rw[HZ.out]at this;omega)
    refine hide ⟨⟨wi,by omega,⟨⟨q2'.1.1,?_⟩,q2'.2⟩,?_⟩,kk⟩
    ·rcases q2'.1.2 with h9|⟨g,cp,cur,e1,e2,rest⟩
     ·exact .inl h9
     ·exact .inr ⟨g,cp,cur,e1,by rw[HZ.out]at e2;omega,rest⟩
    ·unfold subS;refine mkS_congr fun k hk=>?_
     rw[mkS_contains hk,mkS_contains hk];unfold hasW;rw[q3];by_cases e:k / 64<ws.length
     ·rw[if_pos e,andN_bit (getD_lt h64 _) (getD_lt h64o _)]
     ·rw[if_neg e];have:ws.getD (k / 64) 0=0:=by rw[List.getD_eq_getElem?_getD,List.getElem?_eq_none (Nat.le_of_not_lt e)];rfl
      rw[this];simp
   clear HI yr hcl;go_wp2;refine bodyPost_ret (v:=.agg #[.slice ao ws.length cap]) (by simp[results,Tryz.results115,go_sem,HCL.out]) rfl ?_
   exact⟨_,rfl,HF.out⟩
end
section
open Go.RowKit Go.Shelf
attribute [local go_sem] Oper.semAt_some
variable {B:Nat} {c:Way} {n:Nat} {s:St}
structure LI(w:World)(B:Nat)(c:Way)(n:Nat)(G:GV)(L:List Nat)(bxs:List (Nat × Array Value × TypeId))(vts:List (Value × List Nat × Nat))(W:World)(st:St)(G':GV):Prop where
 gm:GM W B c n G' st
 ch:GCh w W G G'
 bx:∀q∈bxs,W.heap[q.1]?=some (.cells q.2.1 q.2.2 (0,0))∧q.1 ∉ G'.foot
 vt:∀q∈vts,SetV W q.2.2 q.1 q.2.1∧∀g,q.1.ownBlock=some g→g ∉ G'.foot
 lb:∀k∈L,k ∉ G'.foot∧k<W.heap.size
variable {w:World} {G:GV} {L:List Nat} {bxs:List (Nat × Array Value × TypeId)} {vts:List (Value × List Nat × Nat)} {W W':World} {st st':St} {G' G1:GV}
theorem LI.own(h:LI w B c n G L bxs vts W st G'){D:Nat}(hD:w.heap.size≤D){row:Option Nat}(hg:W.grownBy W' row)(hr:∀r,row=some r→D≤r∧∃o:Obj,W.heap[r]?=some o∧o.isCells=false):LI w B c n G L bxs vts W' st G':=by
 have hk:=kb_grown hg;have hnf:∀b∈row.toList,b ∉ G'.foot:=fun b hb=>by
  obtain⟨_,o,ho,hc⟩:=hr b (by simpa using hb);exact h.gm.notfoot ho hc
 have hnb:∀ {b:Nat} {cs:Array Value} {T:TypeId} {fz:Nat × Nat},W.heap[b]?=some (.cells cs T fz)→b ∉ row.toList:=by
  intro b cs T fz hb hm;obtain⟨_,o,ho,hc⟩:=hr b (by simpa using hm);rw[hb]at ho;cases ho;cases hc
 refine⟨h.gm.beside hk hnf,?_,fun q hq=>⟨hk.heap (h.bx q hq).1 (hnb (h.bx q hq).1),(h.bx q hq).2⟩,fun q hq=>⟨(h.vt q hq).1.kb hk (fun g hg2 e=>?_),(h.vt q hq).2⟩,fun k hk2=>⟨(h.lb k hk2).1,Nat.lt_of_lt_of_le (h.lb k hk2).2 hk.size⟩⟩
 ·refine⟨⟨hk.os.trans h.ch.kb.os,hk.tape.trans h.ch.kb.tape,hk.output.trans h.ch.kb.output,Nat.le_trans h.ch.kb.size hk.size,fun j hj hl=>?_⟩,h.ch.ft,h.ch.e1,h.ch.e2,h.ch.e3⟩;refine(hk.block j (Nat.lt_of_lt_of_le hj h.ch.kb.size) (fun hm=>?_)).trans (h.ch.kb.block j hj hl);have:=(hr j (by simpa using hm)).1;omega
 ·obtain⟨cs,hc⟩:=(h.vt q hq).1.block e;exact hnb hc hg2
theorem LI.call(h:LI w B c n G L bxs vts W st G')(h1:GM W' B c n G1 st')(c1:GCh W W' G' G1):LI w B c n G L bxs vts W' st' G1∧(∀D,KeepsFrom D W W')∧KpB L W W':=by
 have out1:∀b,b<W.heap.size→b ∉ G'.foot→b ∉ G1.foot:=fun b hb hn hm=>by
  rcases c1.ft b hm with h2|h2
  ·exact hn h2
  ·omega
 refine⟨⟨h1,h.ch.trans c1,fun q hq=>?_,fun q hq=>?_,fun k hk=>?_⟩,fun D=>kb_keepsFrom c1.kb h.gm.isCells D,fun k hk=>c1.kb.block k (h.lb k hk).2 (h.lb k hk).1⟩
 ·obtain⟨a1,a2⟩:=h.bx q hq;exact⟨c1.kb.heap a1 a2,out1 _ (lt_of_heap a1) a2⟩
 ·obtain⟨a1,a2⟩:=h.vt q hq;exact⟨a1.kb c1.kb (fun g hg e=>a2 g e hg),fun g hg=>out1 g (a1.lt hg).2 (a2 g hg)⟩
 ·obtain⟨a1,a2⟩:=h.lb k hk;exact⟨out1 k a2 a1,Nat.lt_of_lt_of_le a2 c1.kb.size⟩
theorem LI.fresh(h:LI w B c n G L bxs vts W st G')(hk:Kb [] W W'):LI w B c n G L bxs vts W' st G'∧(∀D,KeepsFrom D W W')∧KpB L W W':=
 h.call (h.gm.fresh hk) ⟨hk.mono (by simp),fun _ hb=>.inl hb,rfl,rfl,rfl⟩
theorem LI.addBox(h:LI w B c n G L bxs vts W st G'){b:Nat}{cs:Array Value}{T:TypeId}(hb:W.heap[b]?=some (.cells cs T (0,0)))(hn:b ∉ G'.foot):LI w B c n G L ((b,cs,T)::bxs) vts W st G':=by
 refine⟨h.gm,h.ch,fun q hq=>?_,h.vt,h.lb⟩;rcases List.mem_cons.1 hq with rfl|hq
 ·exact⟨hb,hn⟩
 ·exact h.bx q hq
theorem LI.addSet(h:LI w B c n G L bxs vts W st G'){v:Value}{t:List Nat}{B':Nat}(hs:SetV W B' v t)(hn:∀g,v.ownBlock=some g→g ∉ G'.foot):LI w B c n G L bxs ((v,t,B')::vts) W st G':=by
 refine⟨h.gm,h.ch,h.bx,fun q hq=>?_,h.lb⟩;rcases List.mem_cons.1 hq with rfl|hq
 ·exact⟨hs,hn⟩
 ·exact h.vt q hq
theorem LI.subL(h:LI w B c n G L bxs vts W st G'){L':List Nat}(hs:∀k∈L',k∈L):LI w B c n G L' bxs vts W st G':=⟨h.gm,h.ch,h.bx,h.vt,fun k hk=>h.lb k (hs k hk)⟩
theorem LI.subB(h:LI w B c n G L bxs vts W st G'){bxs':List (Nat × Array Value × TypeId)}(hs:∀k∈bxs',k∈bxs):LI w B c n G L bxs' vts W st G':=⟨h.gm,h.ch,fun k hk=>h.bx k (hs k hk),h.vt,h.lb⟩
theorem LI.subV(h:LI w B c n G L bxs vts W st G'){vts':List (Value × List Nat × Nat)}(hs:∀k∈vts',k∈vts):LI w B c n G L bxs vts' W st G':=⟨h.gm,h.ch,h.bx,fun k hk=>h.vt k (hs k hk),h.lb⟩
theorem LI.start(h:GM w B c n G s):LI w B c n G [] [] [] w s G:=⟨h,GCh.refl _ _,by simp,by simp,by simp⟩
theorem LI.newer(h:LI w B c n G L bxs vts W st G'){b:Nat}(hb:W.heap.size≤b):b ∉ G'.foot:=fun hm=>by have:=h.gm.footlt b hm;omega
theorem LI.turned(h:LI w B c n G L bxs vts W st G'){D:Nat}{o:Obj}(hK:W.heap[D]?=some o)(hc:o.isCells=false)(hD:w.heap.size≤D)(o':Obj):LI w B c n G L bxs vts (W.putObj D o') st G':=
 h.own hD (grownBy_putObj' W D o') (fun r e=>by cases e;exact⟨Nat.le_refl _,o,hK,hc⟩)
end
section
open Go.RowKit Go.Shelf
attribute [local go_sem] Oper.semAt_some
variable {B:Nat} {c:Way} {n:Nat} {s:St}
def MergeOK(B:Nat)(c:Way)(n:Nat):Prop:=∀(s:St) (a b:Nat) (w:World) (G:GV),GM w B c n G s→WF n s→a<n→b<n→s.un+1<4611686018427387904 →
  Calls Tryz.prog 123 #[.pointer (some ⟨G.bg,0,none⟩),.int .u64 a,.int .u64 b] w fun e w'=>e=.returned (.bool (s.merge a b).1)∧∃G',GM w' B c n G' (s.merge a b).2∧GCh w w' G G'
def mstep(a:Nat)(x:Bool × St)(b:Nat):Bool × St:=((x.2.merge a b).1 || x.1,(x.2.merge a b).2)
def cstep(tw:List Nat)(x:Bool × St)(t:Nat):Bool × St:=tw.foldl (mstep t) x
theorem WF.msteps{a:Nat}(ha:a<n):∀(l:List Nat) (x:Bool × St),WF n x.2→(∀b∈l,b<n)→WF n (l.foldl (mstep a) x).2∧(l.foldl (mstep a) x).2.un≤x.2.un+l.length:=by
 intro l;induction l with
 |nil=>exact fun x h _=>⟨h,Nat.le_refl _⟩
 |cons b r ih=>
  intro x h hl;have hb:=hl b List.mem_cons_self;have h1:=h.merge ha hb;have h2:=St.merge_un x.2 h.len (h.lt ha) (h.lt hb);obtain⟨i1,i2⟩:=ih (mstep a x b) h1 (fun y hy=>hl y (List.mem_cons_of_mem _ hy));refine⟨i1,?_⟩;simp only[List.foldl_cons,List.length_cons];have:(mstep a x b).2.un≤x.2.un+1:=h2;omega
theorem WF.csteps{tw:List Nat}(ht:∀b∈tw,b<n):∀(l:List Nat) (x:Bool × St),WF n x.2→(∀b∈l,b<n)→WF n (l.foldl (cstep tw) x).2∧(l.foldl (cstep tw) x).2.un≤x.2.un+l.length*tw.length:=by
 intro l;induction l with
 |nil=>exact fun x h _=>⟨h,by simp⟩
 |cons b r ih=>
  intro x h hl;obtain⟨j1,j2⟩:=WF.msteps (hl b List.mem_cons_self) tw x h ht;obtain⟨i1,i2⟩:=ih (cstep tw x b) j1 (fun y hy=>hl y (List.mem_cons_of_mem _ hy));refine⟨i1,?_⟩;simp only[List.foldl_cons,List.length_cons];have:(cstep tw x b).2.un≤x.2.un+tw.length:=j2;rw[Nat.succ_mul];omega
theorem mergeAll_flag(a:Nat):∀(l:List Nat) (x:Bool × St),l.foldl (mstep a) x=((x.2.mergeAll a l).1 || x.1,(x.2.mergeAll a l).2):=by
 intro l;have key:∀(l:List Nat) (y:Bool × St) (f:Bool),l.foldl (mstep a) (y.1 || f,y.2)=((l.foldl (mstep a) y).1 || f,(l.foldl (mstep a) y).2):=by
  intro l;induction l with
  |nil=>exact fun _ _=>rfl
  |cons b r ih=>
   intro y f;simp only[List.foldl_cons];have e:mstep a (y.1 || f,y.2) b=((mstep a y b).1 || f,(mstep a y b).2):=by
    unfold mstep;simp[Bool.or_assoc]
   rw[e,ih]
 intro x;have:=key l (false,x.2) x.1;simp only[Bool.false_or]at this;exact this
theorem collapse_eq(s:St)(m:Nat)(T:List Nat):T.foldl (cstep (s.tw m)) (false,s)=s.collapse m T:=by
 unfold St.collapse;simp only[];generalize (false,s)=x;generalize s.tw m=tw;induction T generalizing x with
 |nil=>rfl
 |cons t r ih=>
  simp only[List.foldl_cons];have e:cstep tw x t=((x.2.mergeAll t tw).1 || x.1,(x.2.mergeAll t tw).2):=mergeAll_flag t tw x;rw[e];exact ih _
theorem LI.setBox{w:World}{G:GV}{L:List Nat}{bxs:List (Nat × Array Value × TypeId)}{vts:List (Value × List Nat × Nat)}{W:World}{st:St}{G':GV}{b:Nat}{u:Value}{T:TypeId}(h:LI w B c n G L ((b,#[u],T)::bxs) vts W st G')(v:Value)(hw:w.heap.size≤b)(h1:∀q∈bxs,q.1≠b)(h2:∀q∈vts,q.1.ownBlock≠some b)(h3:b ∉ L) :
  LI w B c n G L ((b,#[v],T)::bxs) vts (W.setCell ⟨b,0,none⟩ v) st G'∧(∀D,KeepsFrom D W (W.setCell ⟨b,0,none⟩ v))∧KpB L W (W.setCell ⟨b,0,none⟩ v):=by
 have hk:Kb [b] W (W.setCell ⟨b,0,none⟩ v):=(Kb.refl _ _).setCell (p:=⟨b,0,none⟩) (.inl (by simp)) _;obtain⟨b1,b2⟩:=h.bx (b,#[u],T) List.mem_cons_self;refine⟨⟨h.gm.beside hk (by intro x hx;rw[List.mem_singleton.1 hx];exact b2),h.ch.beside hk (by intro x hx;rw[List.mem_singleton.1 hx];exact hw),fun q hq=>?_,fun q hq=>?_,fun k hk2=>⟨(h.lb k hk2).1,Nat.lt_of_lt_of_le (h.lb k hk2).2 hk.size⟩⟩,fun D=>(KeepsOthers.setCell W _ v).from D,fun k hk2=>hk.block k (h.lb k hk2).2 (by simp;exact fun e=>h3 (e ▸ hk2))⟩
 ·rcases List.mem_cons.1 hq with rfl|hq
  ·exact⟨by rw[heap_set b1];rfl,b2⟩
  ·obtain⟨q1,q2⟩:=h.bx q (List.mem_cons_of_mem _ hq);exact⟨hk.heap q1 (by simp;exact h1 q hq),q2⟩
 ·obtain⟨q1,q2⟩:=h.vt q hq;exact⟨q1.kb hk (by intro g hg;rw[List.mem_singleton.1 hg];exact h2 q hq),q2⟩
theorem GM.foot_eq{W:World}{G1 G2:GV}{s1 s2:St}(h1:GM W B c n G1 s1)(h2:GM W B c n G2 s2)(e:G1.bg=G2.bg):G1.foot=G2.foot:=by
 have a1:=h1.hbg;rw[e,h2.hbg]at a1;injection a1 with a1;injection a1 with a1 _ _;unfold gcells at a1;have a2:=congrArg Array.toList a1;simp only[List.cons.injEq,Value.slice.injEq,Value.pointer.injEq,Option.some.injEq,Addr.mk.injEq,and_true,true_and]at a2;obtain⟨⟨e1,e2⟩,e3,e4,e5,_⟩:=a2;have b1:=h1.hbn;rw[← e1,h2.hbn]at b1;injection b1 with b1;injection b1 with b1 _ _;have b2:=congrArg Array.toList b1;simp only at b2;have c1:=h1.hbl;rw[← e4,h2.hbl]at c1;injection c1 with c1;injection c1 with c1 _ _;unfold lcells at c1;have c2:=congrArg Array.toList c1;simp only[List.cons.injEq,and_true,true_and]at c2;obtain⟨f1,f2,f3⟩:=c2;unfold GV.foot;rw[e,e1,e4,b2,e3,e5,f1,f2,f3]
set_option maxRecDepth 100000 in
set_option maxHeartbeats 2000000 in
theorem gcollapse_any(m b2 o2:Nat)(hM:s.tw m≠[]→MergeOK B c n)(cs2:Array Value)(T2:TypeId)(v2:Value)(B2:Nat)(T:List Nat)(w:World)(G:GV)(h:GM w B c n G s)(hw:WF n s)(hT:TabAt w)(hTl:0<B)(hm:m<n)(hb2:w.heap[b2]?=some (.cells cs2 T2 (0,0)))(hv2:cs2[o2]?=some v2)(hS2:SetV w B2 v2 T)(hTn:∀x∈T,x<n)(hu:s.un+20000<4611686018427387904) :
  Calls Tryz.prog 116 #[.pointer (some ⟨G.bg,0,none⟩),.int .u64 m,.pointer (some ⟨b2,o2,none⟩)] w fun e w'=>e=.returned (.bool (s.collapse m T).1)∧∃G',GM w' B c n G' (s.collapse m T).2∧GCh w w' G G':=by
 have hn:=h.n40;obtain⟨r0,r1,r2,r3,r4,r5,r7,r9,r9f⟩:=h.reads;have hmf:∀(fn:Fn) (first cap:Array Value) (w:World),(Instr.makeFunc fn first cap).run Tryz.prog w=.ok (.func fn first cap) w:=fun _ _ _ _=>rfl
 obtain⟨W0,hW0⟩:∃W0,W0=(w.alloc (.cells #[.pointer (some ⟨G.bg,0,none⟩)] 101)).alloc (.cells #[.bool false] 4):=⟨_,rfl⟩;have k0:Kb [] w W0:=by rw[hW0];exact((Kb.refl [] w).alloc _).alloc _
 have z0:W0.heap.size=w.heap.size+2:=by rw[hW0];simp
 have x0:W0.heap[w.heap.size]?=some (.cells #[.pointer (some ⟨G.bg,0,none⟩)] 101 (0,0)):=by rw[hW0];exact heap_old (heap_new _ _) _
 have m0:W0.heap[w.heap.size+1]?=some (.cells #[.bool false] 4 (0,0)):=by
  rw[hW0];have:=heap_new (w.alloc (.cells #[.pointer (some ⟨G.bg,0,none⟩)] 101)) (.cells #[.bool false] 4);rw[World.size_alloc]at this;exact this
 have h0:=h.fresh k0;have r5':=h0.reads.2.2.2.2.2.1;have cx0:W0.cell? ⟨w.heap.size,0,none⟩=some (.pointer (some ⟨G.bg,0,none⟩)):=by rw[cell_at x0];rfl
 obtain⟨vt,q,q',qs⟩:=h0.get (k:=7*m+5) (by omega);have HA:=all_any B G.bn (7*m+5) _ TNd vt _ W0 h0.hbn q' qs;rw[show 7*m+5=m*7+5 by omega]at HA;have et:s.ss.getD (m*7+5) []=s.tw m:=by unfold St.tw;rw[show m*7+5=7*m+5 by omega]
 rw[et]at HA;have L0:LI w B c n G [] [(w.heap.size+1,#[.bool false],4),(w.heap.size,#[.pointer (some ⟨G.bg,0,none⟩)],101)] [] W0 s G:=by
  have h9:=((LI.start h).fresh k0).1;have nf:∀b,w.heap.size≤b→b ∉ G.foot:=fun b hb hm=>by have:=h.footlt b hm;omega
  exact(h9.addBox x0 (nf _ (Nat.le_refl _))).addBox m0 (nf _ (by omega))
 refine(callsIn_wide (n:=20)).1 ?_
 refine callsIn_of_wp_marks Tryz.func116 rfl trivial ?_ rfl;simp only[Tryz.ntmps116,List.size_toArray,List.length_cons,List.length_nil,Nat.reduceAdd,Nat.reduceSub,Array.replicate_succ,Array.replicate_zero,List.push_toArray,List.append_toArray,List.nil_append,List.cons_append];rw[hW0]at HA r5' cx0;gi_wp2
 refine⟨trivial,?_⟩;refine(callsIn_wide.2 HA).mono ?_
 clear HA;rintro e w1 ⟨bwt,vt1,rfl,hbwt,hbwtc,hvt1,k1⟩;rw[← hW0]at hbwt hvt1 k1;clear hW0 r5' cx0 q q' qs et;obtain⟨fv,hfv⟩:∃fv,fv=Value.func (.func 127) #[] #[.pointer (some ⟨bwt,0,none⟩)]:=⟨_,rfl⟩;obtain⟨W2,hW2⟩:∃W2,W2=w1.alloc (.cells #[fv] 153):=⟨_,rfl⟩;have k2:Kb [] w1 W2:=by rw[hW2];exact(Kb.refl [] w1).alloc _
 have t2:W2.heap[w1.heap.size]?=some (.cells #[fv] 153 (0,0)):=by rw[hW2];exact heap_new _ _
 have z2:W2.heap.size=w1.heap.size+1:=by rw[hW2];simp
 have L1:=(L0.fresh k1).1;have L1a:=(L1.addBox hbwtc (L0.newer hbwt)).addSet hvt1 (fun g hg=>L0.newer (hvt1.lt hg).1);have L2:=((L1a.fresh k2).1).addBox t2 (L1.newer (Nat.le_refl _));have kw2:Kb [] w W2:=(k0.trans k1).trans k2;have HA2:=all_any B2 b2 o2 cs2 T2 v2 T W2 (kw2.heap hb2 (by simp)) hv2 (hS2.kb kw2 (by simp));rw[hW2,hfv]at HA2;gi_wp2
 refine⟨trivial,?_⟩;refine(callsIn_wide.2 HA2).mono ?_
 clear HA2;rintro e w3 ⟨bwa,va,rfl,hbwa,hbwac,hva,k3⟩;rw[← hfv,← hW2]at hbwa hva k3;have L3:=(L2.fresh k3).1;obtain⟨L,hL⟩:∃L,L=0::(va.ownBlock.toList++vt1.ownBlock.toList):=⟨_,rfl⟩;have hLp:∀k∈L,k ∉ G.foot∧k<w3.heap.size:=by
  intro k hk;rw[hL]at hk;rcases List.mem_cons.1 hk with rfl|hk
  ·refine⟨fun hm=>?_,?_⟩
   ·have:=(h.cells hm).1;omega
   ·have:=h.hB;have:=kw2.size;have:=k3.size;omega
  ·rcases List.mem_append.1 hk with hk|hk
   ·simp at hk;exact⟨L2.newer (hva.lt hk).1,(hva.lt hk).2⟩
   ·simp at hk;have h9:=hvt1.lt hk;exact⟨L0.newer h9.1,by have:=k2.size;have:=k3.size;omega⟩
 have LL:LI w B c n G L _ _ w3 s G:=⟨L3.gm,L3.ch,L3.bx,L3.vt,hLp⟩;have hT3:TabAt w3:=hT.kb (kw2.trans k3) (by simp);have hsz0:=k1.size;have hsz3:=k3.size;have hbT:∀x,x∈T→x<128:=fun x hx=>by have:=hTn x hx;omega
 have htwn:∀x∈s.tw m,x<n:=fun x hx=>hw.bd _ x hx
 have hst:=all_stops 19 bwa W2.heap.size va T L w3 hbwac hva hT3 (fun g hg=>by rw[hL];simp[hg]) (by rw[hL];simp);have hLlt:∀k∈L,k<w3.heap.size:=fun k hk=>(hLp k hk).2
 have hTlen:T.length≤40:=by
  obtain⟨ws,_,_,e⟩:=hS2;have:=mkS_len (p:=hasW ws) (n:=n) (fun k hk=>hTn k (by rw[e];exact hk));rw[e];omega
 have htlen:(s.tw m).length≤40:=by
  obtain⟨ws,_,_,e⟩:=hvt1;have:=mkS_len (p:=hasW ws) (n:=n) (fun k hk=>htwn k (by rw[e];exact hk));rw[e];omega
 clear hbwtc hbwac L0 L1 L1a L2 L3 t2 h0 r0 r1 r2 r3 r4 r5 r7 r9 r9f x0 m0;gi_wp2
 obtain⟨bxs,hbxs⟩:∃bxs:Bool→List (Nat × Array Value × TypeId),bxs=fun f=>[(w.heap.size+1,#[.bool f],4),(w.heap.size,#[.pointer (some ⟨G.bg,0,none⟩)],101),(w1.heap.size,#[fv],153),(bwt,#[vt1],110)]:=⟨_,rfl⟩
 have LS:LI w B c n G L (bxs false) [(vt1,s.tw m,W0.heap.size)] w3 s G:=by
  rw[hbxs];refine LL.subB (fun k hk=>?_);simp only[List.mem_cons,List.not_mem_nil,or_false]at hk ⊢;rcases hk with rfl|rfl|rfl|rfl
  ·exact .inr (.inr (.inl rfl))
  ·exact .inr (.inr (.inr rfl))
  ·exact .inl rfl
  ·exact .inr (.inl rfl)
 have HLS:=hide LS;have hcol:∀pre:List (Mem T),WF n ((pre.map (·.1)).foldl (cstep (s.tw m)) (false,s)).2∧((pre.map (·.1)).foldl (cstep (s.tw m)) (false,s)).2.un≤s.un+pre.length*40:=by
  intro pre;obtain⟨p1,p2⟩:=WF.csteps htwn (pre.map (·.1)) (false,s) hw (by intro b hb;obtain⟨y,_,rfl⟩:=List.mem_map.1 hb;exact hTn y.1 y.2);refine⟨p1,Nat.le_trans p2 ?_⟩;rw[List.length_map];have:=Nat.mul_le_mul_left pre.length htlen;show s.un+_≤_;omega
 have TT:Hid (∀ {W:World} {G':GV},GCh w W G G'→TabAt W):=hide (fun hc=>hT.kb hc.kb (fun hm=>by have:=(h.cells hm).1;omega));clear LL LS;refine wpIn_rangeFunc_ownH (α:=Mem T) (hro:=rfl) (h1:=by omega) (gf:=127) (lb:=#[.pointer (some ⟨bwa,0,none⟩)]) rfl trivial (enters_of Tryz.func127 (by kernel_rfl) rfl) hst (fun h1 h2=>h1.trans h2) (kpB_b hLlt) (Below.refl _ _) (fun _=>rfl)
  (fun pre W=>∃G',LI w B c n G L (bxs ((pre.map (·.1)).foldl (cstep (s.tw m)) (false,s)).1) [(vt1,s.tw m,W0.heap.size)] W ((pre.map (·.1)).foldl (cstep (s.tw m)) (false,s)).2 G')
  (fun _ _ _=>False) ?hI (fun _ _ _ _ _ hs _ _=>hs) ⟨G,HLS.out⟩
  (fun x a' W=>∃Bx G0 s0,W.heap[Bx]?=some (.cells #[.int .u64 (x.1:Int)] 144 (0,0))∧GM W B c n G0 s0∧G0.bg=G.bg∧Bx ∉ G0.foot∧a'={ tmps:=#[.pointer (some ⟨G.bg,0,none⟩),.int .u64 m,.pointer (some ⟨b2,o2,none⟩),.pointer (some ⟨w.heap.size,0,none⟩),undef,undef,.bool false,.pointer (some ⟨w.heap.size+1,0,none⟩),.pointer (some ⟨w1.heap.size,0,none⟩),.pointer (some ⟨Bx,0,none⟩),undef,.pointer (some ⟨G.bg,0,none⟩),.pointer (some ⟨G.bg,0,none⟩),.pointer (some ⟨G.bg,5,none⟩),.slice (some ⟨G.bn,0,none⟩) n G.cap,.int .u64 m,.pointer (some ⟨G.bn,m*7,none⟩),.pointer (some ⟨G.bn,m*7+5,none⟩),.func (.func 127) #[] #[.pointer (some ⟨bwt,0,none⟩)],.pointer (some ⟨b2,o2,none⟩),.func (.func 127) #[] #[.pointer (some ⟨bwa,0,none⟩)],.int .u64 (x.1:Int),undef,undef,undef,undef,undef,undef,undef,undef,undef,undef],defers:=[] }) ?hAx ?assign ?body ?done ?stop
 case hI=>
  rintro pre W W' row ⟨G',p1⟩ hg hr;exact⟨G',p1.own (by have:=kw2.size;omega) hg hr⟩
 case hAx=>
  rintro x a' _ W W' row ⟨Bx,G0,s0,q2,q3,q4,q5,q6⟩ hg hr;have hk:=kb_grown hg;refine⟨Bx,G0,s0,hk.heap q2 (fun hm=>?_),q3.beside hk (fun b hb=>?_),q4,q5,q6⟩
  ·obtain⟨_,o,ho,hc⟩:=hr Bx (by simpa using hm);rw[q2]at ho;cases ho;cases hc
  ·obtain⟨_,o,ho,hc⟩:=hr b (by simpa using hb);exact q3.notfoot ho hc
 case assign=>
  rintro l pre x W K ⟨G',p1⟩ hK;have kA:Kb [] W (W.alloc (.cells #[.int .u64 (x.1:Int)] 144)):=(Kb.refl [] W).alloc _;obtain⟨z1,z2,z3⟩:=p1.fresh kA;dsimp only[encN,Array.zip,Array.foldl];gi_wp2
  refine hK _ _ (z2 _) z3 ⟨G',z1⟩ ⟨W.heap.size,G',_,heap_new _ _,z1.gm,p1.ch.e1,p1.newer (Nat.le_refl _),rfl⟩
 case body=>
  rintro l pre ⟨x,hxT⟩ a' W hl ⟨r,hr⟩ ⟨G',p1⟩ ⟨Bx,G0,s0,q2,q3,q4,q5,rfl⟩ hlen;have hx:=hTn x hxT;have hBx:Bx ∉ G'.foot:=by rw[p1.gm.foot_eq q3 (p1.ch.e1.trans q4.symm)];exact q5
  obtain⟨wf,hun⟩:=hcol pre;have e9:((pre++[(⟨x,hxT⟩:Mem T)]).map (·.1)).foldl (cstep (s.tw m)) (false,s)=(s.tw m).foldl (mstep x) ((pre.map (·.1)).foldl (cstep (s.tw m)) (false,s)):=by rw[List.map_append,List.foldl_append];rfl
  have HE9:=hide e9;clear e9;generalize (pre.map (·.1)).foldl (cstep (s.tw m)) (false,s)=y0 at *;have ct:W.cell? ⟨w1.heap.size,0,none⟩=some fv:=by
   have:=(p1.bx (w1.heap.size,#[fv],153) (by rw[hbxs];simp)).1;rw[cell_at this];rfl
  have hbw:=(p1.bx (bwt,#[vt1],110) (by rw[hbxs];simp)).1;have hvt:=(p1.vt (vt1,s.tw m,W0.heap.size) (by simp)).1;have hTW:TabAt W:=TT.out p1.ch;rw[hfv]at ct;have hstI:=all_stops 17 bwt W0.heap.size vt1 (s.tw m) L W hbw hvt hTW (fun g hg=>by rw[hL];simp[hg]) (by rw[hL];simp);have hLW:∀k∈L,k<W.heap.size:=fun k hk=>(p1.lb k hk).2
  have p2:LI w B c n G L ((w.heap.size+1,#[.bool y0.1],4)::(Bx,#[.int .u64 (x:Int)],144)::(bxs false).tail) [(vt1,s.tw m,W0.heap.size)] W y0.2 G':=by
   refine(p1.addBox q2 hBx).subB (fun k hk=>?_);rw[hbxs]at hk ⊢;simp only[List.tail_cons,List.mem_cons,List.not_mem_nil,or_false]at hk ⊢;rcases hk with rfl|rfl|rfl|rfl|rfl
   ·exact .inr (.inl rfl)
   ·exact .inl rfl
   ·exact .inr (.inr (.inl rfl))
   ·exact .inr (.inr (.inr (.inl rfl)))
   ·exact .inr (.inr (.inr (.inr rfl)))
  have hwW:w.heap.size≤W.heap.size:=p1.ch.kb.size;have HP2:=hide p2;clear p1 q2 q3 q4 q5 hBx hbw hvt p2;gi_wp2
  refine wpIn_rangeFunc_ownN (α:=Mem (s.tw m)) (l₀:=l) (r₀:=r) rfl hr (by omega) (gf:=127) (lb:=#[.pointer (some ⟨bwt,0,none⟩)]) rfl trivial (enters_of Tryz.func127 (by kernel_rfl) rfl) (hstI.inRound l) (fun h1 h2=>h1.trans h2) (kpB_b hLW) (Below.refl _ _) (fun _=>rfl)
   (fun pre2 W'=>∃G',LI w B c n G L ((w.heap.size+1,#[.bool ((pre2.map (·.1)).foldl (mstep x) y0).1],4)::(Bx,#[.int .u64 (x:Int)],144)::(bxs false).tail) [(vt1,s.tw m,W0.heap.size)] W' ((pre2.map (·.1)).foldl (mstep x) y0).2 G'∧KeepsFrom w3.heap.size W W'∧KpB L W W')
   (fun _ _ _=>False) ?hI2 (fun _ _ _ _ _ hs _ _=>hs) ⟨_,HP2.out,KeepsFrom.refl _ _,KpB.refl _ _⟩
   (fun y a'' _=>a''={ tmps:=#[.pointer (some ⟨G.bg,0,none⟩),.int .u64 m,.pointer (some ⟨b2,o2,none⟩),.pointer (some ⟨w.heap.size,0,none⟩),undef,undef,.bool false,.pointer (some ⟨w.heap.size+1,0,none⟩),.pointer (some ⟨w1.heap.size,0,none⟩),.pointer (some ⟨Bx,0,none⟩),.int .u64 (y.1:Int),.pointer (some ⟨G.bg,0,none⟩),.pointer (some ⟨G.bg,0,none⟩),.pointer (some ⟨G.bg,5,none⟩),.slice (some ⟨G.bn,0,none⟩) n G.cap,.int .u64 m,.pointer (some ⟨G.bn,m*7,none⟩),.pointer (some ⟨G.bn,m*7+5,none⟩),.func (.func 127) #[] #[.pointer (some ⟨bwt,0,none⟩)],.pointer (some ⟨b2,o2,none⟩),.func (.func 127) #[] #[.pointer (some ⟨bwa,0,none⟩)],.int .u64 (x:Int),.func (.func 127) #[] #[.pointer (some ⟨bwt,0,none⟩)],.int .u64 (y.1:Int),undef,undef,undef,undef,undef,undef,undef,undef],defers:=[] }) (fun _ _ _ _ _ _ hs _ _=>hs) ?assign2 ?body2 ?done2 ?stop2
  case hI2=>
   rintro pre2 X Y row ⟨G',c1,c2,c3⟩ hg hr2;refine⟨G',c1.own (by omega) hg hr2,ownFrom_keepsFrom (w₀:=W) (B':=W.heap.size) (Nat.le_refl _) pre2 X Y row c2 hg hr2,fun k hk=>?_⟩;rw[← c3 k hk];refine(kb_grown hg).block k (Nat.lt_of_lt_of_le (hLW k hk) c2.size) (fun hm=>?_);have h8:=(hr2 k (by simpa using hm)).1;have h9:=hLW k hk;omega
  case assign2=>
   rintro l2 pre2 y X K hi hK;dsimp only[encN,Array.zip,Array.foldl];gi_wp2
   exact hK _ _ (KeepsFrom.refl _ _) (KpB.refl _ _) hi rfl
  case body2=>
   rintro l2 pre2 ⟨y,hyT⟩ a'' X _ _ ⟨G2,c1,c2,c3⟩ rfl hlen2;have hy:=htwn y hyT;obtain⟨wf2,hun2⟩:=WF.msteps hx (pre2.map (·.1)) y0 wf (by intro b hb;obtain⟨u,_,rfl⟩:=List.mem_map.1 hb;exact htwn u.1 u.2);have e8:((pre2++[(⟨y,hyT⟩:Mem (s.tw m))]).map (·.1)).foldl (mstep x) y0=mstep x ((pre2.map (·.1)).foldl (mstep x) y0) y:=by rw[List.map_append,List.foldl_append];rfl
   have HE8:=hide e8;clear e8;rw[List.length_map]at hun2;generalize (pre2.map (·.1)).foldl (mstep x) y0=z0 at *;have cg:X.cell? ⟨w.heap.size,0,none⟩=some (.pointer (some ⟨G.bg,0,none⟩)):=by
    have:=(c1.bx (w.heap.size,#[.pointer (some ⟨G.bg,0,none⟩)],101) (by rw[hbxs];simp)).1;rw[cell_at this];rfl
   have cx:X.cell? ⟨Bx,0,none⟩=some (.int .u64 (x:Int)):=by
    have:=(c1.bx (Bx,#[.int .u64 (x:Int)],144) (by simp)).1;rw[cell_at this];rfl
   have hplen:pre.length<T.length:=hlen;have hpl2:pre.length*40≤40*40:=Nat.mul_le_mul (by omega) (Nat.le_refl _);have hne:s.tw m≠[]:=List.ne_nil_of_mem hyT;have HM:=hM hne z0.2 x y X G2 c1.gm wf2 hx hy (by omega);rw[c1.ch.e1]at HM;have HC:=hide (And.intro c1 (And.intro c2 c3));clear c1 c2 c3;gi_wp2
   refine⟨trivial,?_⟩;refine(CallsIn.inRound l2 (CallsIn.inRound l (callsIn_wide.2 HM))).mono ?_
   clear HM;rintro e X1 ⟨rfl,G3,hG3,hC3⟩;obtain⟨d1,d2,d3⟩:=HC.out.1.call hG3 hC3;obtain⟨bm1,bm2⟩:=d1.bx (w.heap.size+1,#[.bool z0.1],4) (by simp);have cm:X1.cell? ⟨w.heap.size+1,0,none⟩=some (.bool z0.1):=by rw[cell_at bm1];rfl
   have fm:X1.frozen? ⟨w.heap.size+1,0,none⟩=false:=frozen_at bm1 0;have hset:∀v,LI w B c n G L ((w.heap.size+1,#[v],4)::(Bx,#[.int .u64 (x:Int)],144)::(bxs false).tail) [(vt1,s.tw m,W0.heap.size)] (X1.setCell ⟨w.heap.size+1,0,none⟩ v) (z0.2.merge x y).2 G3∧(∀D,KeepsFrom D X1 (X1.setCell ⟨w.heap.size+1,0,none⟩ v))∧KpB L X1 (X1.setCell ⟨w.heap.size+1,0,none⟩ v):=by
    intro v;refine d1.setBox v (by omega) (fun q hq=>?_) (fun q hq=>?_) ?_
    ·have hq1:=(d1.bx q (List.mem_cons_of_mem _ hq)).1;intro e;rcases List.mem_cons.1 hq with rfl|hq
     ·exact ne_types hq1 bm1 (by dsimp only;decide) e
     ·rw[hbxs]at hq;simp only[List.tail_cons,List.mem_cons,List.not_mem_nil,or_false]at hq;rcases hq with rfl|rfl|rfl
      ·exact ne_types hq1 bm1 (by dsimp only;decide) e
      ·exact ne_types hq1 bm1 (by dsimp only;decide) e
      ·exact ne_types hq1 bm1 (by dsimp only;decide) e
    ·have hq1:=(d1.vt q hq).1;exact hq1.ne bm1 (by dsimp only;decide)
    ·rw[hL];intro hm9;rcases List.mem_cons.1 hm9 with e|hm9
     ·omega
     ·rcases List.mem_append.1 hm9 with hm9|hm9
      ·simp at hm9;have:=(hva.lt hm9).1;have:=k2.size;omega
      ·simp at hm9;have:=(hvt1.lt hm9).1;omega
   have HSet:=hide hset;have HD:=hide (And.intro d2 d3);clear d1 d2 d3 bm1 bm2 hset hG3 hC3;have HE:Hid (mstep x z0 y=((z0.2.merge x y).1 || z0.1,(z0.2.merge x y).2)):=hide rfl;cases hfm:(z0.2.merge x y).1
   ·gi_wp2
    obtain⟨f1,f2,f3⟩:=HSet.out (.bool z0.1);refine⟨(HD.out.1 _).trans (f2 _),HD.out.2.trans f3,G3,?_,HC.out.2.1.trans ((HD.out.1 _).trans (f2 _)),HC.out.2.2.trans (HD.out.2.trans f3)⟩;rw[HE8.out,HE.out,hfm,Bool.false_or];exact f1
   ·gi_wp2
    obtain⟨f1,f2,f3⟩:=HSet.out (.bool true);refine⟨(HD.out.1 _).trans (f2 _),HD.out.2.trans f3,G3,?_,HC.out.2.1.trans ((HD.out.1 _).trans (f2 _)),HC.out.2.2.trans (HD.out.2.trans f3)⟩;rw[HE8.out,HE.out,hfm,Bool.true_or];exact f1
  case done2=>
   rintro xs X hxs ⟨G2,c1,c2,c3⟩;rw[hxs]at c1;have HF:=hide (And.intro c1 (And.intro c2 c3));clear c1 c2 c3;gi_wp2
   refine⟨HF.out.2.1,HF.out.2.2,G2,?_⟩;rw[HE9.out];refine HF.out.1.subB (fun k hk=>?_);rw[hbxs]at hk ⊢;simp only[List.tail_cons,List.mem_cons,List.not_mem_nil,or_false]at hk ⊢;rcases hk with rfl|rfl|rfl|rfl
   ·exact .inl rfl
   ·exact .inr (.inr (.inl rfl))
   ·exact .inr (.inr (.inr (.inl rfl)))
   ·exact .inr (.inr (.inr (.inr rfl)))
  case stop2=>
   rintro cc pre2 X _ hF;exact hF.elim
 case done=>
  rintro D xs W hD hxs ⟨G',p1⟩ hK;rw[hxs,collapse_eq]at p1;have cm:W.cell? ⟨w.heap.size+1,0,none⟩=some (.bool (s.collapse m T).1):=by
   have:=(p1.bx (w.heap.size+1,#[.bool (s.collapse m T).1],4) (by rw[hbxs];simp)).1;rw[cell_at this];rfl
  have hwD:w.heap.size≤D:=by have:=kw2.size;omega
  have pf:=p1.turned hK rfl hwD (.deferred none);have HP:=hide (And.intro pf.gm pf.ch);clear p1 pf;obtain⟨fl,hfl⟩:∃fl,fl=(s.collapse m T).1:=⟨_,rfl⟩;rw[← hfl]at cm;have HFL:=hide hfl;clear hfl;gi_wp2
  refine⟨by simp,.inl ⟨_,_,rfl,run_takeDeferred hK,?_⟩⟩;exact⟨_,results_tmp rfl _ _ _,by rw[← HFL.out];rfl,G',HP.out.1,HP.out.2⟩
 case stop=>
  rintro D cc pre W _ _ hF _;exact hF.elim
end
section
open Go.RowKit Go.Shelf
def nrm(K:Act→World→Prop):Exit→Act→World→Prop
 | .normal,a,w=>K a w
 |_,_,_=>False
theorem wp_nrm{P:Program}{c:Code}{K K':Act→World→Prop}{Q':Exit→Act→World→Prop}{a:Act}{w:World}(h:c.wp P (nrm K) a w)(hK:∀a w,K a w→K' a w):c.wp P (Exit.then K' Q') a w:=
 Code.wp_mono (fun e a w h=>by cases e<;>first|exact hK _ _ h|exact h.elim) h
theorem wpIn_nrm{m:Nat}{P:Program}{c:Code}{K K':Act→World→Prop}{Q':Exit→Act→World→Prop}{a:Act}{w:World}(h:c.wp P (nrm K) a w)(hK:∀a w,K a w→K' a w):c.wpIn Fence.wide m P (Exit.then K' Q') a w:=wpIn_wide.2 (wp_nrm h hK)
theorem SetV.low{w:World}{B B':Nat}{v:Value}{t:List Nat}(h:SetV w B v t)(hB:B'≤B):SetV w B' v t:=by
 obtain⟨ws,w1,hO,e⟩:=h;refine⟨ws,w1,⟨?_,hO.2⟩,e⟩;obtain⟨o1,o2⟩:=hO.1;refine⟨o1,?_⟩;rcases o2 with o2|⟨g,cp,cur,e1,e2,rest⟩
 ·exact .inl o2
 ·exact .inr ⟨g,cp,cur,e1,by omega,rest⟩
theorem SetV.form{w:World}{B:Nat}{v:Value}{t:List Nat}(h:SetV w B v t):∃ao l cap,v=.slice ao l cap:=by
 obtain⟨ws,_,hO,_⟩:=h;obtain⟨ao,cap,e,_⟩:=hO.form;exact⟨ao,_,cap,e⟩
theorem SetV.len{w:World}{B n:Nat}{v:Value}{t:List Nat}(h:SetV w B v t)(ht:∀x∈t,x<n):t.length≤n:=by
 obtain⟨ws,_,_,e⟩:=h;have:=mkS_len (p:=hasW ws) (n:=n) (fun k hk=>ht k (by rw[e];exact hk));rw[e];exact this
variable {B:Nat} {c:Way} {n:Nat} {s:St}
theorem gunite_any(k b2 o2:Nat)(T:List Nat)(w:World)(G:GV)(h:GM w B c n G s)(hk:k<7*n)(ha:ArgS w B G k b2 o2 T) :
  Calls Tryz.prog 120 #[.pointer (some ⟨G.bn,k,none⟩),.pointer (some ⟨b2,o2,none⟩)] w fun e w'=>e=.returned (.bool (newS (s.ss.getD k []) T))∧∃G',GM w' B c n G' (s.put k (uniS (s.ss.getD k []) T))∧GCh w w' G G':=by
 obtain⟨v1,q1,q1',q1s⟩:=h.get hk;obtain⟨cs2,T2,v2,a1,a2,a3,a4,a5,a6,a7,a8⟩:=ha.ex;refine(unite_any B G.bn k b2 o2 G.nv.toArray cs2 TNd T2 v1 v2 _ T w h.hB (by decide) a3 h.hbn q1' a1 a2 a6 q1s a7 (a8 v1 q1)).mono ?_
 rintro e w' ⟨rfl,v',hS,hC⟩;obtain⟨p1,p2⟩:=h.putN q1 hC hS;exact⟨rfl,_,p1,p2⟩
theorem WF.heirs(h:WF n s){m x:Nat}(hx:x∈s.heirsOf m):x<n:=by
 obtain⟨_,_,y,hy,e⟩:=mem_heirsOf.1 hx;rw[← e];exact h.lt (h.bd _ y hy)
theorem LI.arg{w:World}{G:GV}{L:List Nat}{bxs:List (Nat × Array Value × TypeId)}{vts:List (Value × List Nat × Nat)}{W:World}{st:St}{G':GV}(h:LI w B c n G L bxs vts W st G'){b:Nat}{v:Value}{t:List Nat}(hb:(b,#[v],112)∈bxs)(hv:(v,t,B)∈vts)(k:Nat):ArgS W B G' k b 0 t:=by
 obtain⟨b1,b2⟩:=h.bx _ hb;obtain⟨v1,v2⟩:=h.vt _ hv;refine⟨#[v],_,v,b1,rfl,by dsimp only;decide,by dsimp only;decide,by dsimp only;decide,.inl (fun e=>b2 (by dsimp only;rw[e];exact mem_foot.2 (.inr (.inl rfl)))),v1,fun v' hv' g hg hg2=>v2 g hg2 ?_⟩;exact mem_foot.2 (.inr (.inr (.inr (.inl ⟨v',List.mem_of_getElem? hv',hg⟩))))
theorem LI.cell{w:World}{G:GV}{L:List Nat}{bxs:List (Nat × Array Value × TypeId)}{vts:List (Value × List Nat × Nat)}{W:World}{st:St}{G':GV}(h:LI w B c n G L bxs vts W st G'){b:Nat}{v:Value}{T:TypeId}(hb:(b,#[v],T)∈bxs):W.cell? ⟨b,0,none⟩=some v:=by rw[cell_at (h.bx _ hb).1];rfl
theorem kb_deferred{W W':World}{D:Nat}{o:Obj}(h:∀D,KeepsFrom D W W')(hD:W.heap[D]?=some o)(hc:o.isCells=false):W'.heap[D]?=some o:=(h D).same D o (Nat.le_refl _) hD hc
end
section
open Go.RowKit
end
section
open Go.RowKit Go.Maps
structure Fct where
 k:Int
 p:ByteArray
 q:ByteArray
def factB(k:Int)(p q:ByteArray):Bool:=decide (1≤k∧k≤4) && (nameB p.data.toList && nameB q.data.toList)
def lineB(k:Int)(p q:ByteArray):ByteArray:=
 if k=1 then p++⟨#[32,61,32,38]⟩++q++⟨#[10]⟩
 else if k=3 then p++⟨#[32,61,32,42]⟩++q++⟨#[10]⟩
 else if k=4 then⟨#[42]⟩++p++⟨#[32,61,32]⟩++q++⟨#[10]⟩
 else p++⟨#[32,61,32]⟩++q++⟨#[10]⟩
theorem lineB_size(k:Int)(p q:ByteArray):(lineB k p q).size≤p.size+q.size+5:=by
 unfold lineB;have e1:(⟨#[32,61,32,38]⟩:ByteArray).size=4:=rfl;have e2:(⟨#[10]⟩:ByteArray).size=1:=rfl;have e3:(⟨#[32,61,32,42]⟩:ByteArray).size=4:=rfl;have e4:(⟨#[42]⟩:ByteArray).size=1:=rfl;have e5:(⟨#[32,61,32]⟩:ByteArray).size=3:=rfl;split
 ·simp only[ByteArray.size_append,e1,e2];omega
 ·split
  ·simp only[ByteArray.size_append,e3,e2];omega
  ·split
   ·simp only[ByteArray.size_append,e4,e5,e2];omega
   ·simp only[ByteArray.size_append,e5,e2];omega
def namesL(l:List Fct):List (List UInt8):=l.flatMap fun f=>[f.p.data.toList,f.q.data.toList]
def addN(acc:List (List UInt8))(x:List UInt8):List (List UInt8):=if x∈acc then acc else acc++[x]
def dcount(l:List (List UInt8)):Nat:=(l.foldl addN []).length
def errOf(pre:List Fct)(f:Fct):Int:=
 if 12<f.p.size∨12<f.q.size then 5 else if 120≤pre.length then 6 else if 40<dcount (namesL (pre++[f]))then 7 else 0
def printGo:List Fct→List Fct→List UInt8→List UInt8 × Int × Int
 |_,[],acc=>(acc,0,0)
 |pre,f::r,acc=>
  if factB f.k f.p f.q=true then
   if errOf pre f=0 then printGo (pre++[f]) r (acc++(lineB f.k f.p f.q).data.toList)else([],errOf pre f,(pre.length:Int)+1)
  else([],4,(pre.length:Int)+1)
theorem printGo_nil(pre:List Fct)(acc:List UInt8):printGo pre [] acc=(acc,0,0):=by simp[printGo]
theorem printGo_form{pre r:List Fct}{f:Fct}{acc:List UInt8}(h:factB f.k f.p f.q=false):printGo pre (f::r) acc=([],4,(pre.length:Int)+1):=by simp[printGo,h]
theorem printGo_err{pre r:List Fct}{f:Fct}{acc:List UInt8}(h:factB f.k f.p f.q=true){e:Int}(he:errOf pre f=e)(h0:e≠0):printGo pre (f::r) acc=([],e,(pre.length:Int)+1):=by
 simp[printGo,h,he,h0]
theorem printGo_ok{pre r:List Fct}{f:Fct}{acc:List UInt8}(h:factB f.k f.p f.q=true)(he:errOf pre f=0):printGo pre (f::r) acc=printGo (pre++[f]) r (acc++(lineB f.k f.p f.q).data.toList):=by
 simp[printGo,h,he]
theorem errOf_name{pre:List Fct}{f:Fct}(h:12<f.p.size∨12<f.q.size):errOf pre f=5:=by simp only[errOf,if_pos h]
theorem errOf_many{pre:List Fct}{f:Fct}(h:¬(12<f.p.size∨12<f.q.size))(h1:120≤pre.length):errOf pre f=6:=by simp only[errOf,if_neg h,if_pos h1]
theorem errOf_full{pre:List Fct}{f:Fct}(h:¬(12<f.p.size∨12<f.q.size))(h1:¬120≤pre.length)(h2:40<dcount (namesL (pre++[f]))):errOf pre f=7:=by simp only[errOf,if_neg h,if_neg h1,if_pos h2]
theorem errOf_ok{pre:List Fct}{f:Fct}(h:¬(12<f.p.size∨12<f.q.size))(h1:¬120≤pre.length)(h2:¬40<dcount (namesL (pre++[f]))):errOf pre f=0:=by simp only[errOf,if_neg h,if_neg h1,if_neg h2]
theorem take_next{α:Type}{l:List α}{i:Nat}{x:α}(h:l[i]?=some x):l.take (i+1)=l.take i++[x]:=by
 rw[List.take_add_one,h];rfl
theorem drop_here{α:Type}{l:List α}{i:Nat}{x:α}(h:l[i]?=some x):l.drop i=x::l.drop (i+1):=by
 obtain⟨hi,rfl⟩:=List.getElem?_eq_some_iff.1 h;exact List.drop_eq_getElem_cons hi
def keyS(s:ByteArray):Lit:=.string s.data.toList
def keysOf(l:List Fct):List Lit:=l.flatMap fun f=>[keyS f.p,keyS f.q]
def setU(ks:List Lit):DataW Unit:=setOf (.agg []) ks
theorem keysOf_snoc(l:List Fct)(f:Fct):keysOf (l++[f])=keysOf l++[keyS f.p,keyS f.q]:=by simp[keysOf]
theorem keysOf_names(l:List Fct):keysOf l=(namesL l).map Lit.string:=by
 unfold keysOf namesL;induction l with
 |nil=>rfl
 |cons f r ih=>
  rw[List.flatMap_cons,List.flatMap_cons,List.map_append,ih];rfl
theorem any_same(acc:List (List UInt8))(x:List UInt8):(acc.map Lit.string).any (fun y=>y.sameKey (.string x))=decide (x∈acc):=by
 induction acc with
 |nil=>simp
 |cons y r ih=>
  rw[List.map_cons,List.any_cons,ih,Bool.eq_iff_iff];by_cases e:y=x
  ·subst e;have:(Lit.string y).sameKey (.string y)=true:=by simp[Lit.sameKey]
   simp[this]
  ·have:(Lit.string y).sameKey (.string x)=false:=sameKey_ne (by intro h;exact e (by injection h));simp[this];intro h;exact absurd h.symm e
theorem fold_same(l acc:List (List UInt8)):(l.map Lit.string).foldl addKey (acc.map Lit.string)=(l.foldl addN acc).map Lit.string:=by
 induction l generalizing acc with
 |nil=>rfl
 |cons x r ih=>
  rw[List.map_cons,List.foldl_cons,List.foldl_cons];have e:addKey (acc.map Lit.string) (.string x)=(addN acc x).map Lit.string:=by
   unfold addKey addN;rw[any_same];by_cases h:x∈acc<;>simp[h]
  rw[e,ih]
theorem size_setU(l:List Fct):Maps.size (setU (keysOf l))=dcount (namesL l):=by
 unfold setU dcount;rw[size_setOf,keysOf_names]
 ·have:=fold_same (namesL l) [];rw[List.map_nil]at this;rw[this,List.length_map]
 ·intro x hx;rw[keysOf_names]at hx;obtain⟨y,_,rfl⟩:=List.mem_map.1 hx;trivial
end
section
open Go.RowKit Go.Maps Go.WideMaps
theorem law_str:Keyed Tryz.prog 9:=string_keyed Tryz.underlying9
set_option maxHeartbeats 400000 in
theorem newTally_any(w:World) :
  Calls Tryz.prog 62 #[] w fun e w'=>e=.returned (.pointer (some ⟨w.heap.size+1,0,none⟩))∧w'=(w.alloc (.map #[] 0)).alloc (.cells #[.int .i64 0,.map (some w.heap.size)] 158):=by
 have hmm:=@run_makeMap Tryz.prog;go_enter Tryz.func62,Tryz.ntmps62
 go_wp2;go_ret
 exact⟨rfl,rfl⟩
def IsTally(tb bm n c:Nat)(ks:List Lit)(w:World):Prop:=
 w.heap[tb]?=some (.cells #[.int .i64 n,.map (some bm)] 158 (0,0))∧w.ownsMap Tryz.prog 9 (unitElem (H:=Unit)) bm c (setU ks)
set_option maxHeartbeats 400000 in
theorem add_name(tb:Nat)(k:Int)(p q:ByteArray)(w:World)(h:12<p.size∨12<q.size)(hp:p.size≤maxLen)(hq:q.size≤maxLen) :
  Calls Tryz.prog 64 #[.pointer (some ⟨tb,0,none⟩),.agg #[.int .i64 k,.string p,.string q]] w fun e w'=>e=.returned (.int .i64 5)∧Below w.heap.size w w':=by
 unfold maxLen at hp hq;by_cases h1:12<p.size
 ·go_enter Tryz.func64,Tryz.ntmps64
  go_wp2;go_ret
  exact⟨rfl,(Below.refl _ _).alloc (Nat.le_refl _) _⟩
 ·have h2:12<q.size:=by omega
  go_enter Tryz.func64,Tryz.ntmps64
  go_wp2;go_ret
  exact⟨rfl,(Below.refl _ _).alloc (Nat.le_refl _) _⟩
set_option maxHeartbeats 400000 in
theorem add_many(tb bm c:Nat)(ks:List Lit)(k:Int)(p q:ByteArray)(w:World)(h1:p.size≤12)(h2:q.size≤12)(ht:IsTally tb bm 120 c ks w) :
  Calls Tryz.prog 64 #[.pointer (some ⟨tb,0,none⟩),.agg #[.int .i64 k,.string p,.string q]] w fun e w'=>e=.returned (.int .i64 6)∧Below w.heap.size w w':=by
 have c0:∀o,(w.alloc o).cell? ⟨tb,0,none⟩=some (.int .i64 120):=fun o=>by rw[cell_at (heap_old ht.1 o)];rfl
 clear ht;go_enter Tryz.func64,Tryz.ntmps64
 go_wp2;go_ret
 exact⟨rfl,(Below.refl _ _).alloc (Nat.le_refl _) _⟩
theorem add_facts{tb bm n c:Nat}{ks:List Lit}{w:World}(ht:IsTally tb bm n c ks w)(o:Obj)(v:Nat) :
  IsTally tb bm v c ks ((w.setCell ⟨tb,0,none⟩ (.int .i64 v)).alloc o)∧Kb [tb,bm] w ((w.setCell ⟨tb,0,none⟩ (.int .i64 v)).alloc o):=by
 obtain⟨hh,hm⟩:=ht;have hne:bm≠tb:=by
  intro e;obtain⟨es,cl,hb,_⟩:=hm;rw[e,hh]at hb;cases hb
 have hs:=heap_set hh 0 (.int .i64 v);refine⟨⟨heap_old hs o,?_⟩,((Kb.refl _ _).setCell (Or.inl (by simp)) _).alloc _⟩;have h2:(w.setCell ⟨tb,0,none⟩ (.int .i64 v)).ownsMap Tryz.prog 9 (unitElem (H:=Unit)) bm c (setU ks):=hm.setCell (by simpa using hne) _;exact Kb.ownsMap (l:=[]) ((Kb.refl _ _).alloc o) h2 (by simp)
theorem put_one{tb bm n c:Nat}{ks:List Lit}{w:World}(ht:IsTally tb bm n c ks w)(hc:c<2000)(s:ByteArray)(hs:s.size≤12) :
  ∃w1,(Instr.mapUpdate 156 (.map (some bm)) (.string s) (.agg #[])).run Tryz.prog w.drew=.ok () w1∧IsTally tb bm n (c+1) (ks++[keyS s]) w1∧w.drew.grownBy w1 (some bm):=by
 obtain⟨hh,hm⟩:=ht;have hm':w.drew.ownsMap Tryz.prog 9 (unitElem (H:=Unit)) bm c (setU ks):=hm;have hh':w.drew.heap[tb]?=some (.cells #[.int .i64 n,.map (some bm)] 158 (0,0)):=hh;obtain⟨w1,hr,ho,hg⟩:=hm'.update law_str Tryz.underlying156 (by unfold maxLen;omega) (keyOf_string_mk Tryz.underlying9 (s:=s) (by unfold maxLen;omega)) (unitElem_mk (H:=Unit));refine⟨w1,hr,⟨?_,?_⟩,hg⟩
 ·refine(hg.block tb (lt_of_heap hh') ?_).trans hh';intro e;obtain⟨es,cl,hb,_⟩:=hm;rw[← Option.some.inj e,hh]at hb;cases hb
 ·have e:setU (ks++[keyS s])=(setU ks).put (keyS s) (.agg []):=setOf_snoc _ _ _;rw[e];exact ho
set_option maxRecDepth 100000 in
set_option maxHeartbeats 400000 in
theorem add_puts(tb bm n c:Nat)(ks:List Lit)(k:Int)(p q:ByteArray)(w:World)(h1:p.size≤12)(h2:q.size≤12)(hn:n<120)(hc:c≤1000)(ht:IsTally tb bm n c ks w) :
  Calls Tryz.prog 64 #[.pointer (some ⟨tb,0,none⟩),.agg #[.int .i64 k,.string p,.string q]] w fun e w'=>
   (e=.returned (.int .i64 (if 40<Maps.size (setU (ks++[keyS p,keyS q]))then 7 else 0)))∧Kb [tb,bm] w w'∧IsTally tb bm (n+1) (c+1+1) (ks++[keyS p,keyS q]) w':=by
 have c0:∀o,(w.alloc o).cell? ⟨tb,0,none⟩=some (.int .i64 n):=fun o=>by rw[cell_at (heap_old ht.1 o)];rfl
 have f0:∀o,(w.alloc o).frozen? ⟨tb,0,none⟩=false:=fun o=>frozen_at (heap_old ht.1 o) _
 have hlt:=lt_of_heap ht.1;obtain⟨ht1,hk1⟩:=add_facts ht (.cells #[.int .i64 k,.string p,.string q] 48) (n+1);have ec:((n+1:Nat):Int)=(n:Int)+1:=by omega
 rw[ec]at ht1 hk1;clear ec;have hbm:bm<w.heap.size:=by obtain⟨es,cl,hb,_⟩:=ht.2;exact lt_of_heap hb
 obtain⟨w1,hr1,ht2,hg1⟩:=put_one ht1 (by omega) p h1;have c1:((w.setCell ⟨tb,0,none⟩ (.int .i64 ((n:Int)+1))).alloc (.cells #[.int .i64 k,.string p,.string q] 48)).cell? ⟨tb,1,none⟩=some (.map (some bm)):=by rw[cell_at ht1.1];rfl
 obtain⟨w2,hr2,ht3,hg2⟩:=put_one ht2 (by omega) q h2;have c2:w1.cell? ⟨tb,1,none⟩=some (.map (some bm)):=by rw[cell_at ht2.1];rfl
 have hb1:((w.setCell ⟨tb,0,none⟩ (.int .i64 ((n:Int)+1))).alloc (.cells #[.int .i64 k,.string p,.string q] 48)).drew.heap[w.heap.size]?=some (.cells #[.int .i64 k,.string p,.string q] 48):=by
  have:=heap_new (w.setCell ⟨tb,0,none⟩ (.int .i64 ((n:Int)+1))) (.cells #[.int .i64 k,.string p,.string q] 48);have e:(w.setCell ⟨tb,0,none⟩ (.int .i64 ((n:Int)+1))).heap.size=w.heap.size:=by simp[World.setCell]
  rw[e]at this;exact this
 have c3:w1.cell? ⟨w.heap.size,2,none⟩=some (.string q):=by
  have h:=(hg1.block w.heap.size (lt_of_heap hb1) (by simp;omega)).trans hb1;rw[cell_at h];rfl
 rw[List.append_assoc,List.singleton_append]at ht3;have c4:w2.cell? ⟨tb,1,none⟩=some (.map (some bm)):=by rw[cell_at ht3.1];rfl
 have hk2:Kb [tb,bm] w w2:=(((hk1.drew).grown hg1 (by intro x hx;cases hx;simp)).drew).grown hg2 (by intro x hx;cases hx;simp);have hm3:=ht3.2;clear hb1 hg1 hg2 ht1 ht2 hk1;go_enter Tryz.func64,Tryz.ntmps64
 go_wp2;go_region
 go_wp2;go_region
 go_wp2_with (first|(at_len;refine wpList_len_own _ rfl _ 156 rfl 9 159 Tryz.underlying156 (unitElem (H:=Unit)) bm (c+1+1) (setU (ks++[keyS p,keyS q])) rfl hm3 ?_)|go_in)
 all_goals
  go_ret
  exact⟨rfl,hk2,ht3⟩
end
section
open Go.RowKit Go.Maps
theorem add_any(tb bm:Nat)(pre:List Fct)(k:Int)(p q:ByteArray)(w:World)(hl:pre.length≤120)(hp:p.size≤maxLen)(hq:q.size≤maxLen)(ht:IsTally tb bm pre.length (2*pre.length) (keysOf pre) w) :
  Calls Tryz.prog 64 #[.pointer (some ⟨tb,0,none⟩),.agg #[.int .i64 k,.string p,.string q]] w fun e w'=>
   e=.returned (.int .i64 (errOf pre ⟨k,p,q⟩))∧Kb [tb,bm] w w'∧(errOf pre ⟨k,p,q⟩=0→IsTally tb bm (pre.length+1) (2*(pre.length+1)) (keysOf (pre++[⟨k,p,q⟩])) w'):=by
 by_cases h1:12<p.size∨12<q.size
 ·refine(add_name tb k p q w h1 hp hq).mono ?_
  rintro e w' ⟨rfl,hb⟩;have:=errOf_name (pre:=pre) (f:=⟨k,p,q⟩) h1;exact⟨by rw[this],Kb.of_below hb _,fun h=>absurd (this.symm.trans h) (by decide)⟩
 ·by_cases h2:120≤pre.length
  ·have hpl:pre.length=120:=by omega
   have he:=errOf_many (pre:=pre) (f:=⟨k,p,q⟩) h1 h2;rw[hpl]at ht;refine(add_many tb bm _ _ k p q w (by omega) (by omega) ht).mono ?_
   rintro e w' ⟨rfl,hb⟩;exact⟨by rw[he],Kb.of_below hb _,fun h=>absurd (he.symm.trans h) (by decide)⟩
  ·refine(add_puts tb bm pre.length (2*pre.length) (keysOf pre) k p q w (by omega) (by omega) (by omega) (by omega) ht).mono ?_
   rintro e w' ⟨rfl,hk,ht'⟩;have e1:keysOf pre++[keyS p,keyS q]=keysOf (pre++[⟨k,p,q⟩]):=(keysOf_snoc pre ⟨k,p,q⟩).symm;rw[e1]at ht' ⊢;rw[size_setU];refine⟨?_,hk,fun _=>ht'⟩;by_cases h3:40<dcount (namesL (pre++[⟨k,p,q⟩]))
   ·rw[errOf_full h1 h2 h3,if_pos h3]
   ·rw[errOf_ok h1 h2 h3,if_neg h3]
def FactsAt(b off:Nat)(fs:List Fct)(w:World):Prop:=
 ∀i k p q,fs[i]?=some ⟨k,p,q⟩→w.cell? ⟨b,off+i*3,none⟩=some (.int .i64 k)∧w.cell? ⟨b,off+i*3+1,none⟩=some (.string p)∧w.cell? ⟨b,off+i*3+2,none⟩=some (.string q)
theorem FactsAt.below{b off:Nat}{fs:List Fct}{w w':World}(h:FactsAt b off fs w){B:Nat}(hb:Below B w w')(hlt:b<B):FactsAt b off fs w':=by
 intro i k p q hi;obtain⟨h1,h2,h3⟩:=h i k p q hi;exact⟨(hb.cell (p:=⟨b,_,none⟩) hlt).trans h1,(hb.cell (p:=⟨b,_,none⟩) hlt).trans h2,(hb.cell (p:=⟨b,_,none⟩) hlt).trans h3⟩
def fitsF(fs:List Fct):Prop:=∀f∈fs,f.p.size≤maxLen∧f.q.size≤maxLen
def IsFacts(v:Value)(fs:List Fct)(w:World):Prop:=
 ∃ao cap,v=.slice ao fs.length cap∧fs.length≤cap∧(ao=none→cap=0)∧(fs≠[]→∃b off,ao=some ⟨b,off,none⟩∧b<w.heap.size∧FactsAt b off fs w)
theorem IsFacts.below{v:Value}{fs:List Fct}{w w':World}(h:IsFacts v fs w)(hb:Below w.heap.size w w'):IsFacts v fs w':=by
 obtain⟨ao,cap,rfl,hc,hcn,h⟩:=h;refine⟨ao,cap,rfl,hc,hcn,fun hne=>?_⟩;obtain⟨b,off,rfl,hlt,hf⟩:=h hne;exact⟨b,off,rfl,Nat.lt_of_lt_of_le hlt hb.size,hf.below hb hlt⟩
end
section
open Go.RowKit
set_option maxHeartbeats 400000 in
theorem start_any(c:Int)(w:World) :
  Calls Tryz.prog 105 #[.int .u8 c] w fun e w'=>e=.returned (.bool (startB c))∧w'=w:=by
 go_enter Tryz.func105,Tryz.ntmps105
 go_wp2;all_goals
  go_ret
  refine⟨ret_bool ?_,rfl⟩;rw[Bool.eq_iff_iff];simp[startB];omega
set_option maxHeartbeats 400000 in
theorem begins_any(c:Int)(w:World) :
  Calls Tryz.prog 99 #[.int .u8 c] w fun e w'=>e=.returned (.bool (startB c))∧w'=w:=by
 go_enter Tryz.func99,Tryz.ntmps99
 go_wp2;all_goals
  go_ret
  refine⟨ret_bool ?_,rfl⟩;rw[Bool.eq_iff_iff];simp[startB];omega
set_option maxHeartbeats 400000 in
theorem part_any(c:Int)(w:World) :
  Calls Tryz.prog 104 #[.int .u8 c] w fun e w'=>e=.returned (.bool (partB c))∧w'=w:=by
 cases h:startB c;all_goals
  have H:Hid (startB c=_):=h;clear h;go_enter Tryz.func104,Tryz.ntmps104
  go_wp2_with (go_at_call 105;refine(start_any _ _).mono ?_;rintro e w' ⟨rfl,rfl⟩;rw[H.out])
 all_goals
  go_ret
  refine⟨ret_bool ?_,rfl⟩;first|rw[part_of_start H.out]|(rw[part_of_not H.out,Bool.eq_iff_iff];simp;done)|(rw[part_of_not H.out,Bool.eq_iff_iff];simp;omega)
set_option maxHeartbeats 400000 in
theorem goesOn_any(c:Int)(w:World) :
  Calls Tryz.prog 100 #[.int .u8 c] w fun e w'=>e=.returned (.bool (partB c))∧w'=w:=by
 cases h:startB c;all_goals
  have H:Hid (startB c=_):=h;clear h;go_enter Tryz.func100,Tryz.ntmps100
  go_wp2_with (go_at_call 99;refine(begins_any _ _).mono ?_;rintro e w' ⟨rfl,rfl⟩;rw[H.out])
 all_goals
  go_ret
  refine⟨ret_bool ?_,rfl⟩;first|rw[part_of_start H.out]|(rw[part_of_not H.out,Bool.eq_iff_iff];simp;done)|(rw[part_of_not H.out,Bool.eq_iff_iff];simp;omega)
end
end Go.Proofs.YtiamlbhkiehilaaGreatDoor
