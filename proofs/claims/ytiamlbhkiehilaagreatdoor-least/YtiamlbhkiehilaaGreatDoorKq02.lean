import Derived.Test.YtiamlbhkiehilaaGreatDoorKq01
import Derived.Deep.RegionWith
import Derived.RangeFuncNested
import Derived.RangeFuncBound
import Derived.RangeFuncCalls
import Derived.RangeFuncLeaves
import Derived.Shelf.Abstract
import Derived.Shelf.RegionOpen
import Derived.WalkKit
import Derived.OwnWalkIn
import Derived.TacticsInMore
import Derived.LoopNIn
import Derived.LoopIn
namespace Go.Proofs.YtiamlbhkiehilaaGreatDoor
section
open Go.RowKit
theorem infoN:(Tryz.prog.info? 144).map (fun i=>(i.zero,i.size,i.bytes))=some (some (.int .u64 0),1,8):=by kernel_rfl
theorem appCh{wr W w2:World}{B b o g cp x:Nat}{cs:Array Value}{T:TypeId}{vk:Value}{xs:List Nat}(hO:OwnN wr B vk xs)(hb:wr.heap[b]?=some (.cells cs T (0,0)))(hT:T≠TN)(hW:Kb [] wr W)(hg:W.grownBy w2 vk.ownBlock)(hbk:vk.ownBlock=some g∨g=W.heap.size)
  (hw2:w2.ownsRow B TN 1 (.slice (some ⟨g,0,none⟩) (xs.length+1) cp) (xs.length+1) (u64s xs++[.int .u64 (x:Int)])) (hx:x<18446744073709551616) :
  OwnN (w2.setCell ⟨b,o,none⟩ (.slice (some ⟨g,0,none⟩) (xs.length+1) cp)) B (.slice (some ⟨g,0,none⟩) (xs.length+1) cp) (xs++[x])∧SetCh wr (w2.setCell ⟨b,o,none⟩ (.slice (some ⟨g,0,none⟩) (xs.length+1) cp)) b o cs T vk (.slice (some ⟨g,0,none⟩) (xs.length+1) cp):=by
 have hne:=hO.ne hb hT;have hgne:g≠b:=by
  rcases hbk with e|e
  ·intro e2;subst e2;exact hne e
  ·have h1:=lt_of_heap hb;have h2:=hW.size;omega
 have hcb:w2.heap[b]?=some (.cells cs T (0,0)):=(hg.block b (Nat.lt_of_lt_of_le (lt_of_heap hb) hW.size) (fun e=>hne e.symm)).trans (hW.heap hb (by simp));refine⟨?_,?_,?_,?_⟩
 ·have hO2:OwnN w2 B (.slice (some ⟨g,0,none⟩) (xs.length+1) cp) (xs++[x]):=by
   refine⟨?_,fun y hy=>?_⟩
   ·have e1:u64s (xs++[x])=u64s xs++[.int .u64 (x:Int)]:=by simp[u64s]
    rw[e1,List.length_append];exact hw2
   ·rcases List.mem_append.1 hy with hy|hy
    ·exact hO.2 y hy
    ·rw[List.mem_singleton.1 hy];exact hx
  exact hO2.kb ((Kb.refl [b] w2).setCell (p:=⟨b,o,none⟩) (.inl (by simp)) _) (by intro y hy;rw[List.mem_singleton.1 hy];intro e;cases e;exact hgne rfl)
 ·rw[heap_set hcb]
 ·refine Kb.setCell ?_ (p:=⟨b,o,none⟩) (.inl (by simp)) _;refine(hW.mono (by simp)).grown hg (fun y hy=>.inl (by simp[hy]))
 ·rcases hbk with e|e
  ·exact .inl e.symm
  ·exact .inr ⟨g,rfl,by rw[e];exact hW.size⟩
structure SrInv(w wr:World)(B b o:Nat)(cs:Array Value)(T:TypeId)(v:Value)(rep:Nat→Nat)(ab:List Nat)(vk:Value):Prop where
 cls:ClsR ab rep
 own:OwnN wr B vk ab
 ch:SetCh w wr b o cs T v vk
theorem ClsR.snoc{ab:List Nat}{rep:Nat→Nat}(h:ClsR ab rep)(hl:ab.length<128):ClsR (ab++[ab.length]) rep:=
 ⟨(topOf_snoc h.down).1,fun m=>by rw[(topOf_snoc h.down).2];exact h.top m,by simp;omega⟩
set_option maxRecDepth 100000 in
theorem sreach_any(B b o:Nat)(cs:Array Value)(T:TypeId)(v:Value)(ab:List Nat)(rep:Nat→Nat)(n:Nat)(w:World)(hB:B≤w.heap.size)(hT:T≠TN)(hb:w.heap[b]?=some (.cells cs T (0,0)))(hv:cs[o]?=some v)(h:OwnN w B v ab)(hc:ClsR ab rep)(hn:n<128) :
  Calls Tryz.prog 124 #[.pointer (some ⟨b,o,none⟩),.int .u64 n] w fun e w'=>e=.returned (.tuple #[])∧∃v' ab',n<ab'.length∧ab.length≤ab'.length∧SrInv w w' B b o cs T v rep ab' v':=by
 obtain⟨i0,hi,hz0,hz1,hz2⟩:=info_parts infoN;have ho:o<cs.size:=(Array.getElem?_eq_some_iff.1 hv).1;go_enter Tryz.func124,Tryz.ntmps124
 go_wp2;have H0:Hid (SrInv w w B b o cs T v rep ab v):=hide ⟨hc,h,SetCh.refl hb hv⟩;clear h hc;go_loopw [] (fun wr=>∃(ak:List Nat) (vk:Value),ab.length≤ak.length∧SrInv w wr B b o cs T v rep ak vk) (fun wr=>n+1-lenAt wr b o)
 case atStart=>exact⟨ab,v,Nat.le_refl _,H0.out⟩
 case round=>
  clear H0;obtain⟨ak,vk,hml,hI⟩:=hrel;have hML:=hide hml;clear hml;have hsm:=hI.cls.small;obtain⟨ao,cap,rfl,_⟩:=hI.own.form;have hbr:=hI.ch.blk;have hcl:wr.cell? ⟨b,o,none⟩=some (.slice ao ak.length cap):=by rw[cell_at hbr];simp[ho]
  have hfz:wr.frozen? ⟨b,o,none⟩=false:=frozen_at hbr o;have hm:lenAt wr b o=ak.length:=by unfold lenAt;rw[hcl]
  by_cases hlt:ak.length≤n
  ·have hsz:=hI.ch.kb.size;have hne:(Value.slice ao ak.length cap).ownBlock≠some b:=hI.own.ne hbr hT;have HI:=hide hI;have HM:=hide hm;have HN:=hide hne;have HB:=hide hbr;have HO:Hid (∀W:World,W.heap=(wr.alloc (.cells #[.int .u64 (ak.length:Int)] 144)).heap→W.ownsRow B 144 1 (.slice ao ak.length cap) ak.length (u64s ak)):=hide (fun W hW=>by have:=(hI.own.alloc (.cells #[.int .u64 (ak.length:Int)] 144)).1;unfold World.ownsRow at this ⊢;rw[hW];exact this);have HCN:Hid (∀W:World,W.heap=(wr.alloc (.cells #[.int .u64 (ak.length:Int)] 144)).heap→∀j u,[Value.int .u64 (ak.length:Int)][j]?=some u→W.cell? ((⟨wr.heap.size,0,none⟩:Addr).add j)=some u):=hide (fun W hW j u hu=>by
    have:=cells_new' wr #[.int .u64 (ak.length:Int)] 144 _ rfl j u hu;unfold World.cell? at this ⊢;rw[hW];exact this)
   have HS1:Hid (∀W:World,W.heap=(wr.alloc (.cells #[.int .u64 (ak.length:Int)] 144)).heap→B≤W.heap.size):=hide (fun W hW=>by rw[hW,World.size_alloc];omega);have HSZ:Hid (∀W:World,W.heap=(wr.alloc (.cells #[.int .u64 (ak.length:Int)] 144)).heap→W.heap.size=wr.heap.size+1):=hide (fun W hW=>by rw[hW,World.size_alloc]);have HBk:Hid (∀W:World,W.heap=(wr.alloc (.cells #[.int .u64 (ak.length:Int)] 144)).heap→W.heap[b]?=some (.cells (cs.setIfInBounds o (.slice ao ak.length cap)) T (0,0))):=hide (fun W hW=>by rw[hW];exact heap_old hbr _);have HBL:Hid (∀W:World,W.heap=(wr.alloc (.cells #[.int .u64 (ak.length:Int)] 144)).heap→b<W.heap.size):=hide (fun W hW=>by rw[hW,World.size_alloc];exact Nat.lt_succ_of_lt (lt_of_heap hbr));have hcla:(wr.alloc (.cells #[.int .u64 (ak.length:Int)] 144)).cell? ⟨b,o,none⟩=some (.slice ao ak.length cap):=by rw[cell_at (heap_old hbr _)];simp[ho]
   have HS2:Hid (b<wr.heap.size):=hide (lt_of_heap hbr);have HS3:Hid ((cs.setIfInBounds o (.slice ao ak.length cap))[o]?=some (.slice ao ak.length cap)):=hide (by simp[ho]);have HL2:Hid (ak.length<128):=hide (by omega);have HKB:Hid (∀W:World,W.heap=(wr.alloc (.cells #[.int .u64 (ak.length:Int)] 144)).heap→W.os=wr.os→W.tape=wr.tape→W.output=wr.output→Kb (b::(Value.slice ao ak.length cap).ownBlock.toList) wr W):=hide (fun W hW h1 h2 h3=>⟨h1,h2,h3,by rw[hW,World.size_alloc];omega,fun k hk _=>by rw[hW];exact Below.heap_alloc _ _ _ hk⟩);have hwr:IntKind.u64.wrap ((ak.length:Nat):Int)=((ak.length:Nat):Int):=by rw[IntKind.wrap_u64];omega
   clear hI hm hne hbr;go_wp2;go_region_law (go_loud (refine step_append_lies _ rfl (.tmp 16) (.tmp 23) 106 rfl B 144 i0 (.int .u64 0) 1 8 Tryz.underlying106 hi hz0 hz1 hz2 rfl (by decide) (.slice ao ak.length cap) ak.length (u64s ak) (by simp[Act.eval]) (HO.out _ rfl) ⟨wr.heap.size,0,none⟩ 1 1 [.int .u64 (ak.length:Int)] (by simp[Act.eval]) rfl (HCN.out _ rfl) (by intro u hu;rw[List.mem_singleton.1 hu];rfl) (by decide) (by unfold maxLen;omega) (by omega) (HS1.out _ rfl) _ rfl ?_;intro g cp w2 hw2 hg hbk hgl;have hcb:w2.heap[b]?=some (.cells (cs.setIfInBounds o (.slice ao ak.length cap)) T (0,0)):=(hg.block b (HBL.out _ rfl) (fun e=>HN.out e.symm)).trans (HBk.out _ rfl);have hc2:w2.cell? ⟨b,o,none⟩=some (.slice ao ak.length cap):=(cell_at hcb o).trans HS3.out;have hf2:w2.frozen? ⟨b,o,none⟩=false:=frozen_at hcb o;have hK:=HKB.out _ rfl rfl rfl rfl))
   all_goals
    have HX:=hide (appCh (o:=o) HI.out.own HB.out hT (W:=(wr.alloc (.cells #[.int .u64 (ak.length:Int)] 144)).drew) ((Kb.refl [] wr).alloc _).drew hg hbk hw2 (by omega));have HL:Hid (lenAt (w2.setCell ⟨b,o,none⟩ (.slice (some ⟨g,0,none⟩) (ak.length+1) cp)) b o=ak.length+1):=by
     refine hide ?_
     unfold lenAt;rw[cell_at (heap_set hcb o _)];simp[ho]
    clear hw2 hg hbk hgl hcb hK HO HCN HS1 HSZ HBk HBL HKB;go_wp2;go_roundw
    case rel=>exact⟨ak++[ak.length],_,by rw[List.length_append];have:=hML.out;omega,HI.out.cls.snoc HL2.out,HX.out.1,HI.out.ch.trans HX.out.2⟩
    case measure=>rw[HL.out,HM.out];omega
  ·have HI:=hide hI;clear hI;go_wp2;go_end0
   exact⟨rfl,_,_,by omega,hML.out,HI.out⟩
end
section
open Go.RowKit
theorem ClsR.next{ab:List Nat}{rep:Nat→Nat}(h:ClsR ab rep){m:Nat}(hm:rep m≠m):∃x,ab[m]?=some x∧x<m∧rep x=rep m:=by
 cases hx:ab[m]? with
 |none=>
  have:=topOf_none hx;rw[h.top]at this;exact absurd this hm
 |some x=>
  have h1:=topOf_step h.down hx;rw[h.top]at h1;have h2:=h.down m x hx;by_cases e:x=m
  ·rw[if_pos e]at h1;exact absurd h1 hm
  ·rw[if_neg e,h.top]at h1;exact⟨x,rfl,by omega,h1.symm⟩
theorem ClsR.set{ab:List Nat}{rep:Nat→Nat}(h:ClsR ab rep){m:Nat}(hm:m<ab.length):ClsR (ab.set m (rep m)) rep:=by
 have ht:topOf ab (rep m)=rep m:=by rw[← h.top];exact topOf_top h.down m
 obtain⟨d1,d2,_⟩:=topOf_set h.down hm ht (by rw[← h.top];exact topOf_le h.down m);exact⟨d1,fun j=>(d2 j (h.top m)).trans (h.top j),by rw[List.length_set];exact h.small⟩
theorem SrInv.set{w wr:World}{B b o g L cap:Nat}{cs:Array Value}{T:TypeId}{v vk:Value}{rep rep':Nat→Nat}{ab:List Nat}(h:SrInv w wr B b o cs T v rep ab vk)(hvk:vk=.slice (some ⟨g,0,none⟩) L cap)(hT:T≠TN){m x:Nat}(hx:x<18446744073709551616)(hc:ClsR (ab.set m x) rep'):SrInv w (wr.setCell ⟨g,m,none⟩ (.int .u64 (x:Int))) B b o cs T v rep' (ab.set m x) vk:=by
 have hbr:=h.ch.blk;have hgb:g≠b:=fun e=>h.own.ne hbr hT (by rw[hvk,e];rfl)
 have hO:=h.own;rw[hvk]at hO;refine⟨hc,by rw[hvk];exact hO.set _ _ hx,h.ch.trans ⟨?_,(Kb.refl _ _).setCell (p:=⟨g,m,none⟩) (.inl (by rw[hvk];simp[Value.ownBlock])) _,.inl rfl⟩⟩;have e2:(wr.setCell ⟨g,m,none⟩ (.int .u64 (x:Int))).heap[b]?=wr.heap[b]?:=Below.heap_setCell _ _ _ _ (fun e=>hgb e.symm);rw[e2,hbr,set_set']
theorem ClsR.le{ab:List Nat}{rep:Nat→Nat}(h:ClsR ab rep)(m:Nat):rep m≤m:=by rw[← h.top];exact topOf_le h.down m
theorem ClsR.idem{ab:List Nat}{rep:Nat→Nat}(h:ClsR ab rep)(m:Nat):rep (rep m)=rep m:=by rw[← h.top,← h.top];exact topOf_top h.down m
set_option maxRecDepth 100000 in
theorem shorten_any(B b o:Nat)(cs:Array Value)(T:TypeId)(v0 v:Value)(ab:List Nat)(rep:Nat→Nat)(n:Nat)(w0 w:World)(hT:T≠TN)(ho:o<cs.size)(h:SrInv w0 w B b o cs T v0 rep ab v)(hn:n<128) :
  Calls Tryz.prog 125 #[.pointer (some ⟨b,o,none⟩),.int .u64 n,.int .u64 (rep n)] w fun e w'=>e=.returned (.tuple #[])∧∃ab',SrInv w0 w' B b o cs T v0 rep ab' v:=by
 have H0:=hide h;obtain⟨ao,cap,rfl,_⟩:=h.own.form;obtain⟨t,ht⟩:∃t,t=rep n:=⟨_,rfl⟩;have htl:t≤n:=by rw[ht];exact h.cls.le n
 rw[← ht];generalize ab.length=L at *;clear h;go_enter Tryz.func125,Tryz.ntmps125
 go_wp2;have HT:=hide ht;clear ht;go_loopw [1] (fun mv wr=>∃(m:Nat) (ak:List Nat),mv=.int .u64 m∧m≤n∧Hid (rep m=t∧SrInv w0 wr B b o cs T v0 rep ak (.slice ao L cap))) (fun mv _=>(intOf mv).toNat)
 case atStart=>exact⟨n,ab,rfl,Nat.le_refl _,hide ⟨HT.out.symm,H0.out⟩⟩
 case round=>
  obtain⟨m,ak,rfl,hmn,HI⟩:=hrel;by_cases hmt:m=t
  ·subst hmt;go_wp2;go_end0
   exact⟨rfl,_,HI.out.2⟩
  ·obtain⟨x,hx,hxm,hxr⟩:=HI.out.2.cls.next (m:=m) (fun e=>hmt (by rw[← e];exact HI.out.1))
   have hml:m<ak.length:=(List.getElem?_eq_some_iff.1 hx).1;obtain⟨ao',cap',e,hw⟩:=HI.out.2.own.form;injection e with e1 e2 e3;subst e1 e3;obtain⟨g,rfl,hg,hgf⟩:=hw m x hx;have hbr:=HI.out.2.ch.blk;have hcl:wr.cell? ⟨b,o,none⟩=some (.slice (some ⟨g,0,none⟩) L cap):=by rw[cell_at hbr];simp[ho]
   have hmL:m<L:=by omega
   have HN:Hid (rep x=t∧SrInv w0 (wr.setCell ⟨g,m,none⟩ (.int .u64 (t:Int))) B b o cs T v0 rep (ak.set m t) (.slice (some ⟨g,0,none⟩) L cap)):=by
    refine hide ⟨by rw[hxr];exact HI.out.1,HI.out.2.set rfl hT (by omega) ?_⟩;have:=HI.out.2.cls.set hml;rw[HI.out.1]at this;exact this
   clear HI hw hbr hx e2 hxr hml;go_wp2;go_roundw
   case rel=>exact⟨x,_,rfl,by omega,HN⟩
   case measure=>simp[intOf];omega
set_option maxRecDepth 100000 in
theorem of_any(B b o:Nat)(cs:Array Value)(T:TypeId)(v:Value)(ab:List Nat)(rep:Nat→Nat)(n:Nat)(w:World)(hB:B≤w.heap.size)(hT:T≠TN)(hb:w.heap[b]?=some (.cells cs T (0,0)))(hv:cs[o]?=some v)(h:OwnN w B v ab)(hc:ClsR ab rep)(hn:n<128) :
  Calls Tryz.prog 93 #[.pointer (some ⟨b,o,none⟩),.int .u64 n] w fun e w'=>e=.returned (.int .u64 (rep n))∧∃v' ab',n<ab'.length∧ab.length≤ab'.length∧SrInv w w' B b o cs T v rep ab' v':=by
 have ho:o<cs.size:=(Array.getElem?_eq_some_iff.1 hv).1;have HR:=sreach_any B b o cs T v ab rep n w hB hT hb hv h hc hn;clear h hc hb hv;go_enter Tryz.func93,Tryz.ntmps93
 go_wp2_with fail
 refine HR.mono ?_
 clear HR;rintro e w1 ⟨rfl,v1,ab1,hlt,hml,hI⟩;have hML:=hide hml;clear hml;obtain⟨t,ht⟩:∃t,t=rep n:=⟨_,rfl⟩;have HS:=shorten_any B b o cs T v v1 ab1 rep n w w1 hT ho hI hn;rw[← ht]at HS;have HT:=hide ht;have htl:t≤n:=by rw[ht];exact hI.cls.le n
 have hsm:=hI.cls.small;clear ht;obtain⟨ao,cap,rfl,hw⟩:=hI.own.form;have hbr:=hI.ch.blk;have hcl:w1.cell? ⟨b,o,none⟩=some (.slice ao ab1.length cap):=by rw[cell_at hbr];simp[ho]
 have HI:=hide hI;have HW:=hide hw;clear hI hw hbr;go_wp2;go_loopw [5] (fun mv wr=>∃(m:Nat),mv=.int .u64 m∧m≤n∧wr=w1∧Hid (rep m=t)) (fun mv _=>(intOf mv).toNat)
 case atStart=>exact⟨n,rfl,Nat.le_refl _,rfl,hide HT.out.symm⟩
 case round=>
  obtain⟨m,rfl,hmn,rfl,HM⟩:=hrel;by_cases hmt:m=t
  ·subst hmt;obtain⟨x,hx⟩:∃x,ab1[m]?=some x:=⟨_,List.getElem?_eq_getElem (by omega)⟩;have hxm:x=m:=by
    have h1:=topOf_at HI.out.cls.down (n:=n) (x:=x);rw[HI.out.cls.top,← HT.out]at h1;exact h1 hx
   subst hxm;obtain⟨g,rfl,hg,_⟩:=HW.out _ _ hx;clear hx;go_wp2_with fail
   refine HS.mono ?_
   clear HS;rintro e w2 ⟨rfl,ab2,hI2⟩;have hl2:ab2.length=ab1.length:=by
    obtain⟨_,_,e,_⟩:=hI2.own.form;injection e with _ e _;exact e.symm
   have H2:=hide hI2;clear hI2;go_wp2;go_ret
   exact⟨by rw[← HT.out];rfl,_,ab2,by omega,by rw[hl2];exact hML.out,H2.out⟩
  ·obtain⟨x,hx,hxm,hxr⟩:=HI.out.cls.next (m:=m) (fun e=>hmt (by rw[← e];exact HM.out))
   obtain⟨g,rfl,hg,_⟩:=HW.out _ _ hx;have HN:Hid (rep x=t):=hide (by rw[hxr];exact HM.out);clear hx hxr;go_wp2;go_roundw
   case rel=>exact⟨x,rfl,by omega,(by first|rfl|trivial),HN⟩
   case measure=>simp[intOf];omega
end
section
open Go.RowKit
theorem isn_any(m n bn:Nat)(w:World)(hb:w.cell? ⟨bn,0,none⟩=some (.int .u64 n)) :
  Calls Tryz.prog 181 #[.int .u64 m,.pointer (some ⟨bn,0,none⟩)] w fun e w'=>e=.returned (.bool (m == n))∧w'=w:=by
 have HE:Hid ((((m:Nat):Int) == ((n:Nat):Int))=(m == n)):=hide (by rw[Bool.eq_iff_iff];simp;omega);go_enter Tryz.func181,Tryz.ntmps181
 go_wp2;go_ret
 exact⟨by rw[← HE.out];rfl,rfl⟩
set_option maxRecDepth 100000 in
theorem indexFunc_any(B bn n:Nat)(v:Value)(xs:List Nat)(w:World)(h:OwnN w B v xs)(hl:xs.length≤1000)(hb:w.cell? ⟨bn,0,none⟩=some (.int .u64 n)) :
  Calls Tryz.prog 202 #[v,.func (.func 181) #[] #[.pointer (some ⟨bn,0,none⟩)]] w fun e w'=>(∃i:Nat,i<xs.length∧xs[i]?=some n∧(∀j,j<i→xs[j]?≠some n)∧e=.returned (.int .i64 i)∧w'=w)∨(n ∉ xs∧e=.returned (.int .i64 (-1))∧w'=w):=by
 obtain⟨ao,cap,rfl,hw⟩:=h.form;have HC:Hid (∀m:Nat,Calls Tryz.prog 181 #[.int .u64 m,.pointer (some ⟨bn,0,none⟩)] w fun e w'=>e=.returned (.bool (m == n))∧w'=w):=hide (fun m=>isn_any m n bn w hb);have HW:=hide hw;clear h hb hw;go_enter Tryz.func202,Tryz.ntmps202
 go_wp2;go_loopw [8] (fun iv wr=>∃(i:Nat),iv=.int .i64 i∧i≤xs.length∧wr=w∧Hid (∀j,j<i→xs[j]?≠some n)) (fun iv _=>xs.length-(intOf iv).toNat)
 case atStart=>exact⟨0,rfl,Nat.zero_le _,rfl,hide (fun j hj=>by omega)⟩
 case round=>
  obtain⟨i,rfl,hle,rfl,HI⟩:=hrel;by_cases hlt:i<xs.length
  ·obtain⟨x,hx⟩:∃x,xs[i]?=some x:=⟨_,List.getElem?_eq_getElem hlt⟩;obtain⟨g,rfl,hg,_⟩:=HW.out i x hx;have hc:=HC.out x;have HX:=hide hx;clear hx;go_wp2_with fail
   refine hc.mono ?_
   clear hc;rintro e w2 ⟨rfl,rfl⟩;by_cases hxn:x=n
   ·subst hxn;rw[beq_self_eq_true];go_wp2;go_ret
    exact .inl ⟨i,hlt,HX.out,HI.out,rfl,rfl⟩
   ·have hb:(x == n)=false:=by simpa using hxn
    rw[hb];go_wp2;go_roundw
    case rel=>
     refine⟨i+1,by go_num,by omega,(by first|rfl|trivial),hide (fun j hj=>?_)⟩;by_cases e:j=i
     ·subst e;rw[HX.out];intro e;injection e with e;exact hxn e
     ·exact HI.out j (by omega)
    case measure=>simp[intOf];omega
  ·go_wp2;go_ret
   refine .inr ⟨fun hm=>?_,rfl,rfl⟩;obtain⟨j,hj⟩:=List.mem_iff_getElem?.1 hm;have:=(List.getElem?_eq_some_iff.1 hj).1;exact HI.out j (by omega) hj
theorem setCells_heap(g:Nat):∀(vs:List Value) (o:Nat) (w:World) (cur:Array Value) (T:TypeId),w.heap[g]?=some (.cells cur T (0,0))→∃cur',(w.setCells g o vs).heap[g]?=some (.cells cur' T (0,0))∧cur'.size=cur.size∧(∀j,j<o→cur'[j]?=cur[j]?)∧Kb [g] w (w.setCells g o vs):=by
 intro vs;induction vs with
 |nil=>exact fun o w cur T h=>⟨cur,h,rfl,fun _ _=>rfl,Kb.refl _ _⟩
 |cons v r ih=>
  intro o w cur T h;obtain⟨cur',h1,h2,h3,h4⟩:=ih (o+1) (w.setCell ⟨g,o,none⟩ v) _ T (heap_set h o v);refine⟨cur',h1,by simpa using h2,fun j hj=>?_,((Kb.refl [g] w).setCell (p:=⟨g,o,none⟩) (.inl (by simp)) v).trans h4⟩;rw[h3 j (by omega),Array.getElem?_setIfInBounds,if_neg (by omega)]
theorem OwnN.cut{w:World}{B g L cap i:Nat}{ys:List Nat}(h:OwnN w B (.slice (some ⟨g,0,none⟩) L cap) ys)(hi:i≤ys.length)(vs:List Value):OwnN (w.setCells g i vs) B (.slice (some ⟨g,0,none⟩) i cap) (ys.take i)∧Kb [g] w (w.setCells g i vs):=by
 rcases h.1.2 with⟨e,_⟩|⟨g',cap',cur,e,hb,hh,h1,h2,h3,h4⟩
 ·cases e
 ·injection e with e1 e2 e3;injection e1 with e1;injection e1 with e1;subst e1 e2 e3;obtain⟨cur',k1,k2,k3,k4⟩:=setCells_heap g vs i w cur _ hh;have hl:(ys.take i).length=i:=by rw[List.length_take];omega
  refine⟨⟨?_,fun x hx=>h.2 x (List.mem_of_mem_take hx)⟩,k4⟩;rw[hl];refine⟨by rw[u64s_len,hl];omega,.inr ⟨g,cap,cur',rfl,hb,k1,by omega,h2,by omega,?_⟩⟩;have e4:u64s (ys.take i)=(u64s ys).take i:=by simp[u64s,List.map_take]
  rw[e4,← h4,List.take_take,Nat.mul_one,Nat.mul_one,Nat.min_eq_left hi];apply List.ext_getElem?;intro j;by_cases hj:j<i
  ·rw[List.getElem?_take_of_lt hj,List.getElem?_take_of_lt hj,Array.getElem?_toList,Array.getElem?_toList,k3 j hj]
  ·rw[List.getElem?_take_eq_none (by omega),List.getElem?_take_eq_none (by omega)]
theorem filter_take_succ{xs:List Nat}{j x:Nat}(p:Nat→Bool)(hx:xs[j]?=some x):(xs.take (j+1)).filter p=(xs.take j).filter p++(if p x then [x]else []):=by
 rw[List.take_add_one,hx,List.filter_append];congr 1
 simp[List.filter_cons]
structure DfInv(w wr:World)(B g L cap n:Nat)(xs ys:List Nat)(i j:Nat):Prop where
 ij:i<j
 jl:j≤xs.length
 len:ys.length=xs.length
 own:OwnN wr B (.slice (some ⟨g,0,none⟩) L cap) ys
 hd:ys.take i=(xs.take j).filter (· != n)
 tl:∀k,j≤k→ys[k]?=xs[k]?
 kb:Kb [g] w wr
theorem DfInv.skip{w wr:World}{B g L cap n:Nat}{xs ys:List Nat}{i j:Nat}(h:DfInv w wr B g L cap n xs ys i j)(hj:xs[j]?=some n):DfInv w wr B g L cap n xs ys i (j+1):=by
 refine⟨by have:=h.ij;omega,(List.getElem?_eq_some_iff.1 hj).1,h.len,h.own,?_,fun k hk=>h.tl k (by omega),h.kb⟩;rw[filter_take_succ _ hj,h.hd];simp
theorem DfInv.keep{w wr:World}{B g L cap n:Nat}{xs ys:List Nat}{i j x:Nat}(h:DfInv w wr B g L cap n xs ys i j)(hj:xs[j]?=some x)(hx:x≠n)(h64:x<18446744073709551616):DfInv w (wr.setCell ⟨g,i,none⟩ (.int .u64 (x:Int))) B g L cap n xs (ys.set i x) (i+1) (j+1):=by
 have h1:=h.ij;have h2:=(List.getElem?_eq_some_iff.1 hj).1;have h3:=h.len;refine⟨by omega,h2,by rw[List.length_set];exact h.len,h.own.set _ _ h64,?_,fun k hk=>?_,h.kb.setCell (p:=⟨g,i,none⟩) (.inl (by simp)) _⟩
 ·rw[filter_take_succ _ hj,← h.hd];have e:(x != n)=true:=by simpa using hx
  rw[e,if_pos rfl,List.take_add_one,List.getElem?_set_self (by omega),List.take_set_of_le (Nat.le_refl _)];rfl
 ·rw[List.getElem?_set_ne (by omega)];exact h.tl k (by omega)
set_option maxRecDepth 100000 in
theorem deleteFunc_any(B bn n:Nat)(v:Value)(xs:List Nat)(w:World)(h:OwnN w B v xs)(hl:xs.length≤1000)(hb:w.heap[bn]?=some (.cells #[.int .u64 n] 144 (0,0)))(hbn:v.ownBlock≠some bn) :
  Calls Tryz.prog 180 #[v,.func (.func 181) #[] #[.pointer (some ⟨bn,0,none⟩)]] w fun e w'=>∃v',e=.returned v'∧OwnN w' B v' (xs.filter (· != n))∧Kb v.ownBlock.toList w w'∧(v'.ownBlock=v.ownBlock):=by
 have hcb:w.cell? ⟨bn,0,none⟩=some (.int .u64 n):=by rw[cell_at hb];rfl
 have HX:=indexFunc_any B bn n v xs w h hl hcb;have H0:=hide h;obtain⟨ao,cap,rfl,hw⟩:=h.form;have h64:=h.2;have HB:=hide hb;clear h hw hb hcb;go_enter Tryz.func180,Tryz.ntmps180
 go_wp2_with fail
 refine HX.mono ?_
 clear HX;rintro e w1 (⟨i,hil,hix,hif,rfl,rfl⟩|⟨hnot,rfl,rfl⟩)
 ·obtain⟨g,e,_,_⟩:∃g,ao=some ⟨g,0,none⟩∧True∧True:=by
   obtain⟨_,_,e,hw⟩:=H0.out.form;injection e with e _ _;obtain⟨g,e2,_⟩:=hw i n hix;exact⟨g,e.trans e2,trivial,trivial⟩
  subst e;have hgb:g≠bn:=fun e=>hbn (by rw[e];rfl)
  have H1:Hid (DfInv w1 w1 B g xs.length cap n xs xs i (i+1)):=by
   refine hide ⟨by omega,hil,rfl,H0.out,?_,fun _ _=>rfl,Kb.refl _ _⟩;rw[filter_take_succ _ hix];have e1:(xs.take i).filter (· != n)=xs.take i:=by
    rw[List.filter_eq_self];intro y hy;obtain⟨j,hj⟩:=List.mem_iff_getElem?.1 hy;have hjl:=(List.getElem?_eq_some_iff.1 hj).1;rw[List.length_take]at hjl;rw[List.getElem?_take_of_lt (by omega)]at hj;have:=hif j (by omega);rw[hj]at this;simpa using this
   rw[e1];simp
  clear hix hif;go_wp2;go_loopw [5,6] (fun iv jv wr=>∃(k j:Nat) (ys:List Nat),iv=.int .i64 k∧jv=.int .i64 j∧k<j∧j≤xs.length∧Hid (DfInv w1 wr B g xs.length cap n xs ys k j)) (fun _ jv _=>xs.length-(intOf jv).toNat)
  case atStart=>exact⟨i,i+1,xs,rfl,by go_num,by omega,hil,H1⟩
  case round=>
   clear H1;obtain⟨k,j,ys,rfl,rfl,hkj,hjl,HI⟩:=hrel;have hbr:wr.heap[bn]?=some (.cells #[.int .u64 n] 144 (0,0)):=HI.out.kb.heap HB.out (by simp;exact fun e=>hgb e.symm);have hcb:wr.cell? ⟨bn,0,none⟩=some (.int .u64 n):=by rw[cell_at hbr];rfl
   obtain⟨ao',cap',e,hw⟩:=HI.out.own.form;injection e with e1 e2 e3;subst e1 e3;have hyl:=HI.out.len;by_cases hlt:j<xs.length
   ·obtain⟨x,hx⟩:∃x,xs[j]?=some x:=⟨_,List.getElem?_eq_getElem hlt⟩;obtain⟨g',e,hgx,_⟩:=hw j x (by rw[HI.out.tl j (Nat.le_refl _)];exact hx);cases e;obtain⟨y,hy⟩:∃y,ys[k]?=some y:=⟨_,List.getElem?_eq_getElem (by omega)⟩;obtain⟨g',e,hgy,hgf⟩:=hw k y hy;cases e;have hx64:=h64 x (List.mem_of_getElem? hx);have hc:=isn_any x n bn wr hcb;have HS:Hid (x=n→DfInv w1 wr B g xs.length cap n xs ys k (j+1)):=hide (fun e=>HI.out.skip (by rw[hx,e]));have HK:Hid (x≠n→DfInv w1 (wr.setCell ⟨g,k,none⟩ (.int .u64 (x:Int))) B g xs.length cap n xs (ys.set k x) (k+1) (j+1)):=hide (fun e=>HI.out.keep hx e hx64);clear HI hw hbr hcb e2 hx hy hyl;go_wp2_with fail
    refine hc.mono ?_
    clear hc;rintro e w2 ⟨rfl,rfl⟩;by_cases hxn:x=n
    ·have hb:(x == n)=true:=by simpa using hxn
     rw[hb];go_wp2;go_roundw
     case rel=>
      refine⟨_,_,_,_,_,_,_,_,_,_,_,_,_,_,_,_,_,_,_,_,_,_,_,?_,rfl⟩;exact⟨k,j+1,ys,rfl,by go_num,by omega,by omega,hide (HS.out hxn)⟩
     case measure=>simp[intOf];omega
    ·have hb:(x == n)=false:=by simpa using hxn
     rw[hb];go_wp2;go_roundw
     case rel=>
      refine⟨_,_,_,_,_,_,_,_,_,_,_,_,_,_,_,_,_,_,_,_,_,_,_,?_,rfl⟩;exact⟨k+1,j+1,_,by go_num,by go_num,by omega,by omega,hide (HK.out hxn)⟩
     case measure=>simp[intOf];omega
   ·have hjx:j=xs.length:=by omega
    subst hjx;have hcl:∀ty,(Builtin.clear_ #[106] ty #[.slice (some ⟨g,k,none⟩) (xs.length-k) (cap-k)]).run Tryz.prog wr=.ok (.tuple #[]) (wr.setCells g k (List.replicate (xs.length-k) (.int .u64 0))):=by
     intro ty;refine Lib.run_clear_slice wr _ _ ty _ Tryz.underlying106 (fun w=>Tryz.zeroValue144 w) rfl rfl g k _ _ (by omega) (fun t ht=>?_) (fun t ht=>?_)
     ·obtain⟨y,hy⟩:∃y,ys[k+t]?=some y:=⟨_,List.getElem?_eq_getElem (by omega)⟩;obtain⟨g',e,hg',_⟩:=hw _ y hy;cases e;rw[hg'];rfl
     ·obtain⟨y,hy⟩:∃y,ys[k+t]?=some y:=⟨_,List.getElem?_eq_getElem (by omega)⟩;obtain⟨g',e,_,hg'⟩:=hw _ y hy;cases e;exact hg'
    have HF:Hid (OwnN (wr.setCells g k (List.replicate (xs.length-k) (.int .u64 0))) B (.slice (some ⟨g,0,none⟩) k cap) (xs.filter (· != n))∧Kb [g] w1 (wr.setCells g k (List.replicate (xs.length-k) (.int .u64 0)))):=by
     obtain⟨c1,c2⟩:=HI.out.own.cut (i:=k) (by omega) (List.replicate (xs.length-k) (.int .u64 0));rw[HI.out.hd,List.take_of_length_le (Nat.le_refl _)]at c1;exact hide ⟨c1,HI.out.kb.trans c2⟩
    have hcap:xs.length≤cap:=by
     rcases HI.out.own.1.2 with⟨e,_⟩|⟨g',cap',cur,e,_,_,h1,_⟩
     ·cases e
     ·injection e with _ e5 e6;omega
    clear HI hw hbr hcb e2;go_wp2;go_ret
    exact⟨_,rfl,HF.out.1,HF.out.2,rfl⟩
 ·clear HB;go_wp2;go_ret
  refine⟨_,rfl,?_,Kb.refl _ _,rfl⟩;have e1:xs.filter (· != n)=xs:=by
   rw[List.filter_eq_self];intro y hy;simp;exact fun e=>hnot (e ▸ hy)
  rw[e1];exact H0.out
end
section
open Go.RowKit
def andN(x y:Nat):Nat:=x &&& (18446744073709551615-y)
theorem andN_bit{x y:Nat}(hx:x<18446744073709551616)(hy:y<18446744073709551616)(i:Nat):(andN x y).testBit i=(x.testBit i && !y.testBit i):=by
 unfold andN;have e:18446744073709551615-y=2^64-(y+1):=by omega
 rw[Nat.testBit_and,e,Nat.testBit_two_pow_sub_succ (by simpa using hy)];by_cases h:i<64
 ·simp[h]
 ·have:x.testBit i=false:=Nat.testBit_lt_two_pow (Nat.lt_of_lt_of_le hx (by have:2^64≤2^i:=Nat.pow_le_pow_right (by omega) (by omega);simpa using this));simp[this]
theorem andN_lt{x y:Nat}(hx:x<18446744073709551616):andN x y<18446744073709551616:=Nat.lt_of_le_of_lt Nat.and_le_left hx
theorem andN_zero{x y:Nat}(hx:x<18446744073709551616)(hy:y<18446744073709551616):andN x y=0↔∀i,x.testBit i=true→y.testBit i=true:=by
 constructor
 ·intro h i hi;have:=andN_bit hx hy i;rw[h,Nat.zero_testBit,hi]at this;simpa using this.symm
 ·intro h;apply Nat.eq_of_testBit_eq;intro i;rw[andN_bit hx hy,Nat.zero_testBit];cases hxi:x.testBit i
  ·rfl
  ·simp[h i hxi]
theorem getD_lt{ws:List Nat}(h:∀x∈ws,x<18446744073709551616)(q:Nat):ws.getD q 0<18446744073709551616:=by
 rw[List.getD_eq_getElem?_getD];cases hx:ws[q]? with
 |none=>simp
 |some x=>simpa using h x (List.mem_of_getElem? hx)
theorem hasW_del{ws:List Nat}{n q bt x:Nat}(hq:q=n / 64)(hbt:bt=2^(n % 64))(hx:ws[q]?=some x)(hxl:x<18446744073709551616)(k:Nat):hasW (ws.set q (andN x bt)) k=(k != n && hasW ws k):=by
 have hp:bt<18446744073709551616:=by rw[hbt];exact pow64 n
 have hn:=(List.getElem?_eq_some_iff.1 hx).1;have e1:ws.getD q 0=x:=by simp[hx]
 unfold hasW;rw[set_getD _ _ _ _ hn];by_cases h:k / 64=q
 ·rw[if_pos h,andN_bit hxl hp,h,e1,hbt,Nat.testBit_two_pow];by_cases e:n % 64=k % 64
  ·have:k=n:=by omega
   simp[e,this]
  ·have:k≠n:=fun e2=>e (by rw[e2])
   simp[e,this]
 ·rw[if_neg h];have:k≠n:=fun e2=>h (by rw[e2];exact hq.symm)
  simp[this]
set_option maxRecDepth 100000 in
theorem remove_any(B b o:Nat)(cs:Array Value)(T:TypeId)(v:Value)(s:List Nat)(n:Nat)(w:World)(hT:T≠T64)(hb:w.heap[b]?=some (.cells cs T (0,0)))(hv:cs[o]?=some v)(h:SetV w B v s)(hn:n<128) :
  Calls Tryz.prog 121 #[.pointer (some ⟨b,o,none⟩),.int .u64 n] w fun e w'=>e=.returned (.tuple #[])∧∃v',SetV w' B v' (delS n s)∧SetCh w w' b o cs T v v':=by
 obtain⟨ws,hl,hO,rfl⟩:=h;have ho:o<cs.size:=(Array.getElem?_eq_some_iff.1 hv).1;obtain⟨q,hq⟩:∃q,q=n / 64:=⟨_,rfl⟩;obtain⟨bt,hbt⟩:∃bt,bt=2^(n % 64):=⟨_,rfl⟩;have hp:bt<18446744073709551616:=by rw[hbt];exact pow64 n
 have HP:=splace_any n q bt hn hq hbt w;have HQ:=hide (And.intro hq hbt);clear hq hbt;have hc:w.cell? ⟨b,o,none⟩=some v:=by rw[cell_at hb];exact hv
 have HC:=hide (SetCh.refl hb hv);obtain⟨ao,cap,rfl,hw⟩:=hO.form;go_enter Tryz.func121,Tryz.ntmps121
 go_wp2_with fail
 refine HP.mono ?_
 clear HP;rintro e w' ⟨rfl,rfl⟩;by_cases hlt:q<ws.length
 ·obtain⟨x,hx⟩:∃x,ws[q]?=some x:=⟨_,List.getElem?_eq_getElem hlt⟩;obtain⟨g,rfl,hg,hgf⟩:=hw _ x hx;have hxl:x<18446744073709551616:=hO.2 x (List.mem_of_getElem? hx);have hgb:g≠b:=fun e=>hO.ne hb hT (by rw[e];rfl)
  have hbit:=u64_andNot_nat x bt hxl hp;have HF:Hid (SetV (w'.setCell ⟨g,q,none⟩ (.int .u64 ((andN x bt:Nat):Int))) B (.slice (some ⟨g,0,none⟩) ws.length cap) (delS n (mkS (hasW ws)))∧SetCh w' (w'.setCell ⟨g,q,none⟩ (.int .u64 ((andN x bt:Nat):Int))) b o cs T (.slice (some ⟨g,0,none⟩) ws.length cap) (.slice (some ⟨g,0,none⟩) ws.length cap)):=by
   refine hide ⟨⟨ws.set q (andN x bt),by rw[List.length_set];omega,hO.set _ _ (andN_lt hxl),?_⟩,HC.out.trans ⟨?_,(Kb.refl _ _).setCell (p:=⟨g,q,none⟩) (.inl (by simp[Value.ownBlock])) _,.inl rfl⟩⟩
   ·unfold delS;refine mkS_congr fun k hk=>?_
    rw[hasW_del HQ.out.1 HQ.out.2 hx hxl,mkS_contains hk]
   ·have e2:(w'.setCell ⟨g,q,none⟩ (.int .u64 ((andN x bt:Nat):Int))).heap[b]?=w'.heap[b]?:=Below.heap_setCell _ _ _ _ (fun e=>hgb e.symm);rw[e2,HC.out.blk,set_set']
  unfold andN at HF;clear hO hw hx HC;go_wp2;go_end0
  exact⟨rfl,_,HF.out⟩
 ·have HO:=hide hO;clear hO hw;go_wp2;go_end0
  refine⟨rfl,_,⟨ws,hl,HO.out,?_⟩,HC.out⟩;unfold delS;refine mkS_congr fun k hk=>?_
  rw[mkS_contains hk];by_cases e:k=n
  ·subst e;have:hasW ws k=false:=by
    unfold hasW;rw[← HQ.out.1,List.getD_eq_getElem?_getD,List.getElem?_eq_none (Nat.le_of_not_lt hlt)];simp
   simp[this]
  ·simp[e]
structure UnInv(w wr:World)(B b o:Nat)(cs:Array Value)(T:TypeId)(v vk:Value)(wp wo:List Nat)(i:Nat)(gr:Bool):Prop where
 le:i≤wo.length
 ws:∃wi,wi.length=wp.length∧OwnW wr B vk wi∧∀j,wi.getD j 0=if j<i then wp.getD j 0 ||| wo.getD j 0 else wp.getD j 0
 gr:gr=(List.range i).any fun j=>!decide (andN (wo.getD j 0) (wp.getD j 0)=0)
 ch:SetCh w wr b o cs T v vk
theorem UnInv.step{w wr:World}{B b o:Nat}{cs:Array Value}{T:TypeId}{v vk:Value}{wp wo:List Nat}{i g L cap:Nat}{gr:Bool}(h:UnInv w wr B b o cs T v vk wp wo i gr)(hvk:vk=.slice (some ⟨g,0,none⟩) L cap)(hT:T≠T64)(hlt:i<wo.length)(hpl:wo.length≤wp.length)(hx:wp.getD i 0<18446744073709551616)(hy:wo.getD i 0<18446744073709551616) :
  UnInv w (wr.setCell ⟨g,i,none⟩ (.int .u64 ((wp.getD i 0 ||| wo.getD i 0:Nat):Int))) B b o cs T v vk wp wo (i+1) (gr || !decide (andN (wo.getD i 0) (wp.getD i 0)=0)):=by
 obtain⟨wi,e1,e2,e3⟩:=h.ws;have hbr:=h.ch.blk;have hgb:g≠b:=fun e=>e2.ne hbr hT (by rw[hvk,e];rfl)
 refine⟨hlt,⟨wi.set i (wp.getD i 0 ||| wo.getD i 0),by rw[List.length_set];exact e1,?_,fun j=>?_⟩,?_,h.ch.trans ⟨?_,(Kb.refl _ _).setCell (p:=⟨g,i,none⟩) (.inl (by rw[hvk];simp[Value.ownBlock])) _,.inl rfl⟩⟩
 ·rw[hvk]at e2 ⊢;exact e2.set _ _ (or_lt64 hx hy)
 ·rw[set_getD _ _ _ _ (by omega)];by_cases e:j=i
  ·subst e;rw[if_pos rfl,if_pos (by omega)]
  ·rw[if_neg e,e3];by_cases e4:j<i
   ·rw[if_pos e4,if_pos (by omega)]
   ·rw[if_neg e4,if_neg (by omega)]
 ·rw[List.range_succ,List.any_append,← h.gr];simp
 ·have e4:(wr.setCell ⟨g,i,none⟩ (.int .u64 ((wp.getD i 0 ||| wo.getD i 0:Nat):Int))).heap[b]?=wr.heap[b]?:=Below.heap_setCell _ _ _ _ (fun e=>hgb e.symm);rw[e4,hbr,set_set']
theorem newS_words{wp wo:List Nat}(h1:∀x∈wp,x<18446744073709551616)(h2:∀x∈wo,x<18446744073709551616)(hl:wo.length≤2):newS (mkS (hasW wp)) (mkS (hasW wo))=(List.range wo.length).any fun j=>!decide (andN (wo.getD j 0) (wp.getD j 0)=0):=by
 rw[Bool.eq_iff_iff,newS_iff];simp only[List.any_eq_true,List.mem_range,Bool.not_eq_true',decide_eq_false_iff_not];constructor
 ·rintro⟨k,hk,hk'⟩;obtain⟨k1,k2⟩:=mem_mkS.1 hk;have k3:hasW wp k=false:=by
   cases e:hasW wp k
   ·rfl
   ·exact absurd (mem_mkS.2 ⟨k1,e⟩) hk'
  unfold hasW at k2 k3;refine⟨k / 64,?_,fun e=>?_⟩
  ·rcases Nat.lt_or_ge (k / 64) wo.length with h|h
   ·exact h
   ·rw[List.getD_eq_getElem?_getD,List.getElem?_eq_none h]at k2;simp at k2
  ·have:=(andN_zero (getD_lt h2 _) (getD_lt h1 _)).1 e _ k2;rw[k3]at this;cases this
 ·rintro⟨j,hj,hne⟩;rw[andN_zero (getD_lt h2 _) (getD_lt h1 _)]at hne;simp only[Classical.not_forall]at hne;obtain⟨i,hi,hi'⟩:=hne;have hi64:i<64:=by
   rcases Nat.lt_or_ge i 64 with h|h
   ·exact h
   ·have:=Nat.testBit_lt_two_pow (Nat.lt_of_lt_of_le (getD_lt h2 j) (by have:2^64≤2^i:=Nat.pow_le_pow_right (by omega) h;simpa using this));rw[this]at hi;cases hi
  have e1:(64*j+i) / 64=j:=by omega
  have e2:(64*j+i) % 64=i:=by omega
  refine⟨64*j+i,mem_mkS.2 ⟨by omega,?_⟩,fun hm=>?_⟩
  ·unfold hasW;rw[e1,e2];exact hi
  ·have:=(mem_mkS.1 hm).2;unfold hasW at this;rw[e1,e2]at this;exact hi' this
set_option maxRecDepth 100000 in
theorem unite_any(B b o b2 o2:Nat)(cs cs2:Array Value)(T T2:TypeId)(v v2:Value)(s s2:List Nat)(w:World)(hB:B≤w.heap.size)(hT:T≠T64)(hT2:T2≠T64)(hb:w.heap[b]?=some (.cells cs T (0,0)))(hv:cs[o]?=some v)(hb2:w.heap[b2]?=some (.cells cs2 T2 (0,0)))(hv2:cs2[o2]?=some v2)(hne:b2≠b∨o2≠o)(h:SetV w B v s)(h2:SetV w B v2 s2)(ha:Apart v v2) :
  Calls Tryz.prog 120 #[.pointer (some ⟨b,o,none⟩),.pointer (some ⟨b2,o2,none⟩)] w fun e w'=>e=.returned (.bool (newS s s2))∧∃v',SetV w' B v' (uniS s s2)∧SetCh w w' b o cs T v v':=by
 obtain⟨ws,hl,hO,rfl⟩:=h;obtain⟨wo,hl2,hO2,rfl⟩:=h2;have ho:o<cs.size:=(Array.getElem?_eq_some_iff.1 hv).1;obtain⟨ao2,cap2,rfl,hw2⟩:=hO2.form;have hc2:w.cell? ⟨b2,o2,none⟩=some (.slice ao2 wo.length cap2):=by rw[cell_at hb2];exact hv2
 have HR:=reach_any B b o cs T v ws wo.length w hB hT hb hv hO (by omega);go_enter Tryz.func120,Tryz.ntmps120
 go_wp2_with fail
 refine HR.mono ?_
 clear HR;rintro e w1 ⟨rfl,v1,hO1,hC1⟩;obtain⟨cs2',hb2',hv2'⟩:=hC1.other hb hO hb2 hv2 hT2 hne;obtain⟨hO2',ha'⟩:=hC1.apart hb hT hO2 ha;have hc2':w1.cell? ⟨b2,o2,none⟩=some (.slice ao2 wo.length cap2):=by rw[cell_at hb2'];exact hv2'
 have hpl:=padW_len ws wo.length;have HH:Hid (∀k,hasW (padW ws wo.length) k=hasW ws k):=padW_has ws wo.length;have hL2:(padW ws wo.length).length≤2:=by omega
 have hlt2:wo.length≤(padW ws wo.length).length:=by omega
 generalize padW ws wo.length=wp at *;clear hpl hO hc2 hw2;have h64:=hO1.2;have h64o:=hO2'.2;have H0:Hid (UnInv w w1 B b o cs T v v1 wp wo 0 false):=hide ⟨Nat.zero_le _,⟨wp,rfl,hO1,fun j=>by simp⟩,by simp,hC1⟩;obtain⟨ao1,cap1,rfl,hw1⟩:=hO1.form;have HA:=hide ha';have HO2:=hide hO2';have HB1:=hide hC1.blk;clear ha' hO1 hC1 hO2' hb2' hv2' hb2 hv2 hO2;go_wp2;go_loopw [5,20] (fun gv iv wr=>∃(i:Nat) (gr:Bool),gv=.bool gr∧iv=.int .i64 i∧UnInv w wr B b o cs T v (.slice ao1 wp.length cap1) wp wo i gr∧Kb (b::(Value.slice ao1 wp.length cap1).ownBlock.toList) w1 wr) (fun _ iv _=>wo.length-(intOf iv).toNat)
 case atStart=>exact⟨0,false,rfl,rfl,H0.out,Kb.refl _ _⟩
 case round=>
  clear H0;obtain⟨i,gr,rfl,rfl,hI,hK⟩:=hrel;have hle:=hI.le;have hbr:=hI.ch.blk;have hc:wr.cell? ⟨b,o,none⟩=some (.slice ao1 wp.length cap1):=by rw[cell_at hbr];simp[ho]
  by_cases hlt:i<wo.length
  ·have hOr:OwnW wr B (.slice ao2 wo.length cap2) wo:=HO2.out.kb hK (by
    intro g hg;rcases List.mem_cons.1 hg with rfl|hg
    ·exact HO2.out.ne HB1.out hT
    ·simp at hg;exact HA.out g hg)
   obtain⟨y,hy⟩:∃y,wo[i]?=some y:=⟨_,List.getElem?_eq_getElem hlt⟩;obtain⟨ao3,cap3,e3,hw3⟩:=hOr.form;injection e3 with e3 _ e4;subst e3 e4;obtain⟨g2,rfl,hg2,_⟩:=hw3 i y hy;obtain⟨wi,q1,q2,q3⟩:=hI.ws;obtain⟨x,hx⟩:∃x,wi[i]?=some x:=⟨_,List.getElem?_eq_getElem (by omega)⟩;obtain⟨ao4,cap4,e5,hw4⟩:=q2.form;injection e5 with e5 _ e6;subst e5 e6;obtain⟨g,rfl,hg,hgf⟩:=hw4 i x hx;have ey:wo.getD i 0=y:=by simp[hy]
   have ex:wp.getD i 0=x:=by
    have:=q3 i;rw[if_neg (by omega)]at this;rw[← this];simp[hx]
   have hxl:x<18446744073709551616:=by rw[← ex];exact getD_lt h64 i
   have hyl:y<18446744073709551616:=by rw[← ey];exact getD_lt h64o i
   have HI:=hI.step rfl hT hlt hlt2 (by rw[ex];exact hxl) (by rw[ey];exact hyl);rw[ex,ey]at HI;have HI2:=hide (And.intro HI (hK.setCell (p:=⟨g,i,none⟩) (.inl (by simp[Value.ownBlock])) (.int .u64 ((x ||| y:Nat):Int))));have hand:=u64_andNot_nat y x hyl hxl;have hor:=u64_or_nat x y hxl hyl;have hgz:(andN y x=0)=(y &&& (18446744073709551615-x)=0):=rfl;have HZ:=hide hgz;clear HI hI hK hbr hOr q1 q2 q3 hw3 hw4 hgz hy hx ex ey;cases gr
   ·by_cases hz:andN y x=0
    ·have hz':y &&& (18446744073709551615-x)=0:=hz;have HY:Hid ((false || !decide (andN y x=0))=false):=hide (by simp[hz]);clear hz;rw[hz']at hand;go_wp2;go_roundw
     case rel=>exact⟨i+1,false,rfl,by go_num,by rw[← HY.out];exact HI2.out.1,HI2.out.2⟩
     case measure=>simp[intOf];omega
    ·have HY:Hid ((false || !decide (andN y x=0))=true):=hide (by simp[hz]);have hz':¬(((y &&& (18446744073709551615-x):Nat):Int)=0):=fun e=>hz (by unfold andN;omega)
     have HZ2:Hid ((((y &&& (18446744073709551615-x):Nat):Int) != 0)=true):=hide (bne_iff_ne.2 hz');clear hz;go_wp2;go_roundw
     case rel=>exact⟨i+1,true,by rw[HZ2.out],by go_num,by rw[← HY.out];exact HI2.out.1,HI2.out.2⟩
     case measure=>simp[intOf];omega
   ·go_wp2;go_roundw
    case rel=>exact⟨i+1,true,rfl,by go_num,HI2.out.1,HI2.out.2⟩
    case measure=>simp[intOf];omega
  ·have hin:i=wo.length:=by omega
   subst hin;have HI:=hide hI;clear hI hK hbr;go_wp2;go_ret
   obtain⟨wi,q1,q2,q3⟩:=HI.out.ws;have eH:mkS (hasW wp)=mkS (hasW ws):=mkS_congr fun k _=>HH.out k
   refine⟨?_,_,⟨wi,by omega,q2,?_⟩,HI.out.ch⟩
   ·rw[← eH,newS_words h64 h64o hl2,← HI.out.gr];rfl
   ·unfold uniS;refine mkS_congr fun k hk=>?_
    rw[mkS_contains hk,mkS_contains hk,← HH.out];unfold hasW;rw[q3];by_cases e:k / 64<wo.length
    ·rw[if_pos e,Nat.testBit_or]
    ·rw[if_neg e];have:wo.getD (k / 64) 0=0:=by rw[List.getD_eq_getElem?_getD,List.getElem?_eq_none (Nat.le_of_not_lt e)];rfl
     rw[this];simp
end
section
open Go.RowKit
structure MtInv(w wr:World)(B b o:Nat)(cs:Array Value)(T:TypeId)(v:Value)(ws wo:List Nat)(i:Nat):Prop where
 le:i≤ws.length
 ws:∃wi,wi.length=ws.length∧OwnW wr B v wi∧∀j,wi.getD j 0=if j<i then ws.getD j 0 &&& wo.getD j 0 else ws.getD j 0
 ch:SetCh w wr b o cs T v v
theorem MtInv.step{w wr:World}{B b o:Nat}{cs:Array Value}{T:TypeId}{v:Value}{ws wo:List Nat}{i g L cap:Nat}(h:MtInv w wr B b o cs T v ws wo i)(hv:v=.slice (some ⟨g,0,none⟩) L cap)(hT:T≠T64)(hlt:i<ws.length)(hx:ws.getD i 0<18446744073709551616) :
  MtInv w (wr.setCell ⟨g,i,none⟩ (.int .u64 ((ws.getD i 0 &&& wo.getD i 0:Nat):Int))) B b o cs T v ws wo (i+1):=by
 obtain⟨wi,e1,e2,e3⟩:=h.ws;have hbr:=h.ch.blk;have hgb:g≠b:=fun e=>e2.ne hbr hT (by rw[hv,e];rfl)
 refine⟨hlt,⟨wi.set i (ws.getD i 0 &&& wo.getD i 0),by rw[List.length_set];exact e1,?_,fun j=>?_⟩,h.ch.trans ⟨?_,(Kb.refl _ _).setCell (p:=⟨g,i,none⟩) (.inl (by rw[hv];simp[Value.ownBlock])) _,.inl rfl⟩⟩
 ·rw[hv]at e2 ⊢;exact e2.set _ _ (Nat.lt_of_le_of_lt Nat.and_le_left hx)
 ·rw[set_getD _ _ _ _ (by omega)];by_cases e:j=i
  ·subst e;rw[if_pos rfl,if_pos (by omega)]
  ·rw[if_neg e,e3];by_cases e4:j<i
   ·rw[if_pos e4,if_pos (by omega)]
   ·rw[if_neg e4,if_neg (by omega)]
 ·have e4:(wr.setCell ⟨g,i,none⟩ (.int .u64 ((ws.getD i 0 &&& wo.getD i 0:Nat):Int))).heap[b]?=wr.heap[b]?:=Below.heap_setCell _ _ _ _ (fun e=>hgb e.symm);rw[e4,hbr,set_set']
theorem SetCh.drew{w w':World}{b o:Nat}{cs:Array Value}{T:TypeId}{v v':Value}(h:SetCh w w' b o cs T v v')(n:Nat):SetCh w (w'.drewN n) b o cs T v v':=⟨h.blk,h.kb.drewN n,h.lies⟩
theorem MtInv.drew{w wr:World}{B b o:Nat}{cs:Array Value}{T:TypeId}{v:Value}{ws wo:List Nat}{i:Nat}(h:MtInv w wr B b o cs T v ws wo i)(n:Nat):MtInv w (wr.drewN n) B b o cs T v ws wo i:=⟨h.le,h.ws,h.ch.drew n⟩
set_option maxRecDepth 100000 in
theorem meet_any(B b o b2 o2:Nat)(cs cs2:Array Value)(T T2:TypeId)(v v2:Value)(s s2:List Nat)(w:World)(hT:T≠T64)(hT2:T2≠T64)(hb:w.heap[b]?=some (.cells cs T (0,0)))(hv:cs[o]?=some v)(hb2:w.heap[b2]?=some (.cells cs2 T2 (0,0)))(hv2:cs2[o2]?=some v2)(hne:b2≠b∨o2≠o)(h:SetV w B v s)(h2:SetV w B v2 s2)(ha:Apart v v2) :
  Calls Tryz.prog 163 #[.pointer (some ⟨b,o,none⟩),.pointer (some ⟨b2,o2,none⟩)] w fun e w'=>e=.returned (.tuple #[])∧∃v',SetV w' B v' (meetS s s2)∧SetCh w w' b o cs T v v':=by
 obtain⟨ws,hl,hO,rfl⟩:=h;obtain⟨wo,hl2,hO2,rfl⟩:=h2;have ho:o<cs.size:=(Array.getElem?_eq_some_iff.1 hv).1;have hc:w.cell? ⟨b,o,none⟩=some v:=by rw[cell_at hb];exact hv
 have H0:Hid (MtInv w w B b o cs T v ws wo 0):=hide ⟨Nat.zero_le _,⟨ws,rfl,hO,fun j=>by simp⟩,SetCh.refl hb hv⟩;have h64:=hO.2;have h64o:=hO2.2;obtain⟨ao,cap,rfl,_⟩:=hO.form;have HA:=hide (And.intro ha (And.intro hO hO2));have HB:=hide (And.intro hb (And.intro hb2 hv2));clear ha hO hO2 hb hb2 hv2;go_enter Tryz.func163,Tryz.ntmps163
 go_wp2;go_loopw [10] (fun iv wr=>∃(i:Nat),iv=.int .i64 i∧MtInv w wr B b o cs T (.slice ao ws.length cap) ws wo i) (fun iv _=>ws.length-(intOf iv).toNat)
 case atStart=>exact⟨0,rfl,H0.out⟩
 case round=>
  clear H0;obtain⟨i,rfl,hI⟩:=hrel;have hle:=hI.le;have hbr:=hI.ch.blk;have hcr:wr.cell? ⟨b,o,none⟩=some (.slice ao ws.length cap):=by rw[cell_at hbr];simp[ho]
  by_cases hlt:i<ws.length
  ·obtain⟨cs2',hb2',hv2'⟩:=hI.ch.other HB.out.1 HA.out.2.1 HB.out.2.1 HB.out.2.2 hT2 hne;obtain⟨hO2',_⟩:=hI.ch.apart HB.out.1 hT HA.out.2.2 HA.out.1;have HW:=fun n=>word_any B b2 o2 cs2' T2 v2 wo i (wr.drewN n) hb2' hv2' hO2'
   obtain⟨wi,q1,q2,q3⟩:=hI.ws;obtain⟨x,hx⟩:∃x,wi[i]?=some x:=⟨_,List.getElem?_eq_getElem (by omega)⟩;obtain⟨ao4,cap4,e5,hw4⟩:=q2.form;injection e5 with e5 e7 e6;subst e5 e6;clear e7;obtain⟨g,rfl,hg,hgf⟩:=hw4 i x hx;have ex:ws.getD i 0=x:=by
    have:=q3 i;rw[if_neg (by omega)]at this;rw[← this];simp[hx]
   have hxl:x<18446744073709551616:=by rw[← ex];exact getD_lt h64 i
   have hyl:=getD_lt h64o i;have HI2:Hid (∀n,MtInv w ((wr.drewN n).setCell ⟨g,i,none⟩ (.int .u64 ((x &&& wo.getD i 0:Nat):Int))) B b o cs T (.slice (some ⟨g,0,none⟩) ws.length cap) ws wo (i+1)):=by
    refine hide (fun n=>?_);have HI:=(hI.drew n).step rfl hT hlt (by rw[ex];exact hxl);rw[ex]at HI;exact HI
   generalize wo.getD i 0=y at *;have hand:=u64_and_nat x y hxl hyl;clear hI hbr q1 q2 q3 hw4 hx ex hb2' hv2' hO2';go_wp2;go_region_with (go_at_call 150;refine(HW _).mono ?_;rintro e w1 ⟨rfl,rfl⟩)
   all_goals
    go_wp2;go_roundw
    case rel=>exact⟨i+1,by go_num,HI2.out _⟩
    case measure=>simp[intOf];omega
  ·have hin:i=ws.length:=by omega
   subst hin;have HI:=hide hI;clear hI hbr;go_wp2;go_end0
   obtain⟨wi,q1,q2,q3⟩:=HI.out.ws;refine⟨rfl,_,⟨wi,by omega,q2,?_⟩,HI.out.ch⟩;unfold meetS;refine mkS_congr fun k hk=>?_
   rw[mkS_contains hk,mkS_contains hk];unfold hasW;rw[q3];by_cases e:k / 64<ws.length
   ·rw[if_pos e,Nat.testBit_and]
   ·rw[if_neg e];have:ws.getD (k / 64) 0=0:=by rw[List.getD_eq_getElem?_getD,List.getElem?_eq_none (Nat.le_of_not_lt e)];rfl
    rw[this];simp
theorem words_eq{ws wo:List Nat}(h1:∀x∈ws,x<18446744073709551616)(h2:∀x∈wo,x<18446744073709551616)(hl1:ws.length≤2)(hl2:wo.length≤2):(∀j,j<max ws.length wo.length→ws.getD j 0=wo.getD j 0)↔mkS (hasW ws)=mkS (hasW wo):=by
 constructor
 ·intro h;refine mkS_congr fun k _=>?_
  unfold hasW;by_cases e:k / 64<max ws.length wo.length
  ·rw[h _ e]
  ·have e1:ws.getD (k / 64) 0=0:=by rw[List.getD_eq_getElem?_getD,List.getElem?_eq_none (by omega)];rfl
   have e2:wo.getD (k / 64) 0=0:=by rw[List.getD_eq_getElem?_getD,List.getElem?_eq_none (by omega)];rfl
   rw[e1,e2]
 ·intro h j hj;apply Nat.eq_of_testBit_eq;intro i;by_cases e:i<64
  ·have hk:64*j+i<128:=by omega
   have e1:(64*j+i) / 64=j:=by omega
   have e2:(64*j+i) % 64=i:=by omega
   have k1:=mkS_contains (p:=hasW ws) hk;rw[h,mkS_contains hk]at k1;unfold hasW at k1;rw[e1,e2]at k1;exact k1.symm
  ·have p64:2^64≤2^i:=Nat.pow_le_pow_right (by omega) (by omega);rw[Nat.testBit_lt_two_pow (Nat.lt_of_lt_of_le (getD_lt h1 j) (by simpa using p64)),Nat.testBit_lt_two_pow (Nat.lt_of_lt_of_le (getD_lt h2 j) (by simpa using p64))]
set_option maxRecDepth 100000 in
theorem equal_any(B B2 b o b2 o2:Nat)(cs cs2:Array Value)(T T2:TypeId)(v v2:Value)(s s2:List Nat)(w:World)(hb:w.heap[b]?=some (.cells cs T (0,0)))(hv:cs[o]?=some v)(hb2:w.heap[b2]?=some (.cells cs2 T2 (0,0)))(hv2:cs2[o2]?=some v2)(h:SetV w B v s)(h2:SetV w B2 v2 s2) :
  Calls Tryz.prog 110 #[.pointer (some ⟨b,o,none⟩),.pointer (some ⟨b2,o2,none⟩)] w fun e w'=>e=.returned (.bool (s == s2))∧∃n,w'=w.drewN n:=by
 obtain⟨ws,hl,hO,rfl⟩:=h;obtain⟨wo,hl2,hO2,rfl⟩:=h2;have hc:w.cell? ⟨b,o,none⟩=some v:=by rw[cell_at hb];exact hv
 have hc2:w.cell? ⟨b2,o2,none⟩=some v2:=by rw[cell_at hb2];exact hv2
 have HW:=fun n at_=>word_any B b o cs T v ws at_ (w.drewN n) hb hv hO
 have HW2:=fun n at_=>word_any B2 b2 o2 cs2 T2 v2 wo at_ (w.drewN n) hb2 hv2 hO2
 have HE:=hide (words_eq hO.2 hO2.2 hl hl2);obtain⟨ao,cap,rfl,_⟩:=hO.form;obtain⟨ao2,cap2,rfl,_⟩:=hO2.form;have h64:=hO.2;have h64o:=hO2.2;clear hO hO2 hb hb2 hv hv2;go_enter Tryz.func110,Tryz.ntmps110
 go_wp2;go_region
 have hmx:(if ws.length<wo.length then((wo.length:Nat):Int)else((ws.length:Nat):Int))=((max ws.length wo.length:Nat):Int):=by split<;>omega
 rw[hmx];have hm2:max ws.length wo.length≤2:=by omega
 generalize max ws.length wo.length=m at *;clear hmx;obtain⟨w1,hw1⟩:∃w1,w1=w.drew:=⟨_,rfl⟩;have HW1:=hide hw1;have HWa:∀at_:Nat,Calls Tryz.prog 150 #[.pointer (some ⟨b,o,none⟩),.int .i64 at_] w1 fun e w'=>e=.returned (.int .u64 ((ws.getD at_ 0:Nat):Int))∧w'=w1:=by rw[hw1];exact HW 1
 have HWb:∀at_:Nat,Calls Tryz.prog 150 #[.pointer (some ⟨b2,o2,none⟩),.int .i64 at_] w1 fun e w'=>e=.returned (.int .u64 ((wo.getD at_ 0:Nat):Int))∧w'=w1:=by rw[hw1];exact HW2 1
 rw[← hw1];clear HW HW2 hw1 hc hc2;go_wp2;go_loopw [17] (fun iv wr=>∃(i:Nat),iv=.int .i64 i∧i≤m∧wr=w1∧Hid (∀j,j<i→ws.getD j 0=wo.getD j 0)) (fun iv _=>m-(intOf iv).toNat)
 case atStart=>exact⟨0,rfl,Nat.zero_le _,rfl,hide (fun j hj=>by omega)⟩
 case round=>
  obtain⟨i,rfl,hle,rfl,HI⟩:=hrel;by_cases hlt:i<m
  ·have ha:=HWa i;have hb:=HWb i;have hxl:=getD_lt h64 i;have hyl:=getD_lt h64o i;clear HWa HWb;generalize hgx:ws.getD i 0=x at ha hxl;generalize hgy:wo.getD i 0=y at hb hyl;have HX0:=hide (And.intro hgx hgy);clear hgx hgy;go_wp2_with fail
   refine ha.mono ?_
   clear ha;rintro e w2 ⟨rfl,rfl⟩;go_wp2_with fail
   refine hb.mono ?_
   clear hb;rintro e w2 ⟨rfl,rfl⟩;by_cases hxy:x=y
   ·have HX:Hid (ws.getD i 0=wo.getD i 0):=hide (by rw[HX0.out.1,HX0.out.2];exact hxy);subst hxy;go_wp2;go_roundw
    case rel=>
     refine⟨i+1,by go_num,by omega,(by first|rfl|trivial),hide (fun j hj=>?_)⟩;by_cases e:j=i
     ·subst e;exact HX.out
     ·exact HI.out j (by omega)
    case measure=>simp[intOf];omega
   ·have HX:Hid ((mkS (hasW ws) == mkS (hasW wo))=false):=by
     refine hide ?_
     rw[beq_eq_false_iff_ne];exact fun e=>hxy (by rw[← HX0.out.1,← HX0.out.2];exact HE.out.2 e i hlt)
    go_wp2;go_ret
    exact⟨by rw[HX.out];rfl,1,HW1.out⟩
  ·have HX:Hid ((mkS (hasW ws) == mkS (hasW wo))=true):=by
    refine hide ?_
    rw[beq_iff_eq];exact HE.out.1 (fun j hj=>HI.out j (by omega))
   clear HWa HWb;go_wp2;go_ret
   exact⟨by rw[HX.out];rfl,1,HW1.out⟩
set_option maxRecDepth 100000 in
theorem empty_any(B b o:Nat)(cs:Array Value)(T:TypeId)(v:Value)(s:List Nat)(w:World)(hb:w.heap[b]?=some (.cells cs T (0,0)))(hv:cs[o]?=some v)(h:SetV w B v s) :
  Calls Tryz.prog 87 #[.pointer (some ⟨b,o,none⟩)] w fun e w'=>e=.returned (.bool s.isEmpty)∧Kb [] w w':=by
 have HC:=equal_any B 0 b o w.heap.size 0 cs #[.slice none 0 0] T 112 v (.slice none 0 0) s [] (w.alloc (.cells #[.slice none 0 0] 112)) (heap_old hb _) hv (heap_new _ _) rfl (h.kb ((Kb.refl [] w).alloc _) (by simp)) (SetV.nil _ _);have HE:Hid ((s == [])=s.isEmpty):=hide (by cases s<;>rfl);clear hb hv h;go_enter Tryz.func87,Tryz.ntmps87
 go_wp2_with fail
 refine HC.mono ?_
 clear HC;rintro e w1 ⟨rfl,n,rfl⟩;go_wp2;go_ret
 exact⟨by rw[← HE.out];rfl,((Kb.refl [] w).alloc _).drewN n⟩
end
section
open Go.RowKit
theorem odd_part:∀(x:Nat),x≠0→∃k m,x=2^k*(2*m+1):=by
 intro x;induction x using Nat.strongRecOn with
 |_ x ih=>
  intro hx;by_cases h:x % 2=1
  ·exact⟨0,x / 2,by omega⟩
  ·obtain⟨k,m,e⟩:=ih (x / 2) (by omega) (by omega);refine⟨k+1,m,?_⟩;rw[Nat.pow_succ,Nat.mul_comm (2^k) 2,Nat.mul_assoc,← e];omega
theorem bit_x(k m j:Nat):(2^k*(2*m+1)).testBit j=if j<k then false else(2*m+1).testBit (j-k):=by
 have:=Nat.testBit_two_pow_mul_add (i:=k) (2*m+1) (b:=0) (Nat.two_pow_pos k) j;rw[Nat.add_zero]at this;rw[this];split<;>simp
theorem bit_pred(k m j:Nat):(2^k*(2*m+1)-1).testBit j=if j<k then true else(2*m).testBit (j-k):=by
 have hp:=Nat.two_pow_pos k;have e:2^k*(2*m+1)-1=2^k*(2*m)+(2^k-1):=by
  rw[Nat.mul_add,Nat.mul_one];omega
 rw[e,Nat.testBit_two_pow_mul_add (2*m) (by omega)];split
 ·rename_i h;rw[Nat.testBit_two_pow_sub_one];simp[h]
 ·rfl
theorem bit_odd(m j:Nat):(2*m+1).testBit (j+1)=(2*m).testBit (j+1):=by
 rw[Nat.testBit_succ,Nat.testBit_succ];congr 1
 omega
theorem bit_clear(k m j:Nat):((2^k*(2*m+1)) &&& (2^k*(2*m+1)-1)).testBit j=(j != k && (2^k*(2*m+1)).testBit j):=by
 rw[Nat.testBit_and,bit_x,bit_pred];by_cases h:j<k
 ·simp[h]
 ·simp only[h,if_false];by_cases e:j=k
  ·subst e;simp
  ·obtain⟨d,rfl⟩:∃d,j=k+(d+1):=⟨j-k-1,by omega⟩;rw[show k+(d+1)-k=d+1 by omega,bit_odd];have:(k+(d+1) != k)=true:=by simp
   rw[this];cases (2*m).testBit (d+1)<;>rfl
theorem bit_low(k m:Nat)(h:2^k*(2*m+1)<18446744073709551616):(2^k*(2*m+1)) &&& (18446744073709551616-2^k*(2*m+1))=2^k:=by
 have hp:=Nat.two_pow_pos k;have hpos:0<2^k*(2*m+1):=Nat.mul_pos hp (by omega);have e:18446744073709551616-2^k*(2*m+1)=2^64-((2^k*(2*m+1)-1)+1):=by
  rw[Nat.sub_add_cancel hpos]
 rw[e];apply Nat.eq_of_testBit_eq;intro j;rw[Nat.testBit_and,Nat.testBit_two_pow_sub_succ (by omega),Nat.testBit_two_pow];by_cases hj:j<64
 ·simp only[hj,decide_true,Bool.true_and];rw[bit_x,bit_pred];by_cases h2:j<k
  ·have:k≠j:=by omega
   simp[h2,this]
  ·simp only[h2,if_false];by_cases e2:j=k
   ·subst e2;simp
   ·obtain⟨d,rfl⟩:∃d,j=k+(d+1):=⟨j-k-1,by omega⟩;rw[show k+(d+1)-k=d+1 by omega,bit_odd];simp
 ·have hk:k<64:=by
   rcases Nat.lt_or_ge k 64 with h2|h2
   ·exact h2
   ·have h3:2^64≤2^k:=Nat.pow_le_pow_right (by omega) h2;have h4:2^k≤2^k*(2*m+1):=Nat.le_mul_of_pos_right _ (by omega);have h5:(2:Nat)^64=18446744073709551616:=by decide
    omega
  have:¬k=j:=by omega
  simp[hj,this]
theorem bit_k{k m:Nat}(h:2^k*(2*m+1)<18446744073709551616):k<64:=by
 rcases Nat.lt_or_ge k 64 with h2|h2
 ·exact h2
 ·have h3:2^64≤2^k:=Nat.pow_le_pow_right (by omega) h2;have h4:2^k≤2^k*(2*m+1):=Nat.le_mul_of_pos_right _ (by omega);have h5:(2:Nat)^64=18446744073709551616:=by decide
  omega
theorem filter_first{p:Nat→Bool}{n k:Nat}(hk:k<n)(hp:p k=true)(hl:∀j,j<k→p j=false):(List.range n).filter p=k::(List.range n).filter (fun j=>j != k && p j):=by
 obtain⟨r,rfl⟩:∃r,n=k+(r+1):=⟨n-k-1,by omega⟩;rw[List.range_add,List.filter_append,List.filter_append];have e1:(List.range k).filter p=[]:=List.filter_eq_nil_iff.2 (fun j hj=>by rw[hl j (by simpa using hj)];simp);have e2:(List.range k).filter (fun j=>j != k && p j)=[]:=List.filter_eq_nil_iff.2 (fun j hj=>by rw[hl j (by simpa using hj)];simp);rw[e1,e2,List.range_succ_eq_map];simp only[List.map_cons,Nat.add_zero,List.nil_append,List.filter_cons,hp,if_true,bne_self_eq_false,Bool.false_and,Bool.false_eq_true,if_false];congr 1
 refine List.filter_congr fun j hj=>?_
 obtain⟨a,ha,rfl⟩:=List.mem_map.1 hj;obtain⟨c,_,rfl⟩:=List.mem_map.1 ha;have:(k+(c+1) != k)=true:=by simp
 rw[this,Bool.true_and]
def bitsL(x:Nat):List Nat:=(List.range 64).filter x.testBit
theorem bitsL_zero:bitsL 0=[]:=by
 unfold bitsL;rw[List.filter_eq_nil_iff];intro j _;simp
theorem bitsL_step{k m:Nat}(h:2^k*(2*m+1)<18446744073709551616):bitsL (2^k*(2*m+1))=k::bitsL ((2^k*(2*m+1)) &&& (2^k*(2*m+1)-1)):=by
 unfold bitsL;rw[filter_first (bit_k h) (by rw[bit_x];simp) (fun j hj=>by rw[bit_x,if_pos hj])];congr 1
 refine List.filter_congr fun j _=>?_
 rw[bit_clear]
def allW(ws:List Nat):List Nat:=(List.range ws.length).flatMap fun a=>(bitsL (ws.getD a 0)).map (64*a + ·)
theorem allW_eq{ws:List Nat}(h:ws.length≤2):allW ws=mkS (hasW ws):=by
 have e:∀(a:Nat),((List.range 64).map (64*a + ·)).filter (hasW ws)=(bitsL (ws.getD a 0)).map (64*a + ·):=by
  intro a;unfold bitsL;rw[List.filter_map];congr 1
  refine List.filter_congr fun j hj=>?_
  have hj:j<64:=by simpa using hj
  simp only[Function.comp,hasW];rw[show(64*a+j) / 64=a by omega,show(64*a+j) % 64=j by omega]
 have e128:mkS (hasW ws)=(bitsL (ws.getD 0 0)).map (64*0 + ·)++(bitsL (ws.getD 1 0)).map (64*1 + ·):=by
  unfold mkS;rw[show(128:Nat)=64+64 from rfl,List.range_add,List.filter_append,← e 0,← e 1];congr 2
 rw[e128];unfold allW;match ws,h with
 | [],_=>simp[bitsL_zero]
 | [a],_=>simp[bitsL_zero,List.range_succ]
 | [a,b],_=>simp[List.range_succ]
end
section
open Go.RowKit
def dbTab:List Nat:=[0,1,56,2,57,49,28,3,61,58,42,50,38,29,17,4,62,47,59,36,45,43,51,22,53,39,33,30,24,18,12,5,63,55,48,27,60,41,37,16,46,35,44,21,52,32,23,11,54,26,40,15,34,20,31,10,25,14,19,9,13,8,7,6]
def TabAt(w:World):Prop:=∀(j x:Nat),dbTab[j]?=some x→w.cell? ⟨0,j,none⟩=some (.int .u8 (x:Int))
theorem TabAt.kb{w w':World}{L:List Nat}(h:TabAt w)(hk:Kb L w w')(hl:0 ∉ L):TabAt w':=by
 intro j x hx;have h1:=h j x hx;have h2:0<w.heap.size:=by
  unfold World.cell? at h1;cases ho:w.heap[(0:Nat)]? with
  |none=>simp[ho]at h1
  |some o=>exact lt_of_heap ho
 rw[hk.cell (p:=⟨0,j,none⟩) h2 hl];exact h1
theorem TabAt.of_heap{w w':World}(h:TabAt w)(he:w'.heap[(0:Nat)]?=w.heap[(0:Nat)]?):TabAt w':=fun j x hx=>(World.cell?_of_block (a:=⟨0,j,none⟩) he).trans (h j x hx)
theorem dbTab_ok:∀k,k<64→dbTab[(2^k*285870213051353865) % 18446744073709551616 / 288230376151711744]?=some k:=by decide
set_option maxRecDepth 100000 in
theorem tz_any(x k m:Nat)(hx:x<18446744073709551616)(e:x=2^k*(2*m+1))(w:World)(hT:TabAt w) :
  Calls Tryz.prog 128 #[.int .u64 x] w fun e w'=>e=.returned (.int .i64 k)∧w'=w:=by
 have hpos:0<x:=by rw[e];exact Nat.mul_pos (Nat.two_pow_pos k) (by omega)
 have hk:k<64:=bit_k (by rw[← e];exact hx);have hlow:x &&& (18446744073709551616-x)=2^k:=by rw[e];exact bit_low k m (by rw[← e];exact hx)
 have hne:¬((x:Nat):Int)=0:=by omega
 obtain⟨p,hp⟩:∃p,p=2^k:=⟨_,rfl⟩;have htab:=hT _ _ (dbTab_ok k hk);rw[← hp]at hlow htab;have hp64:p<18446744073709551616:=by rw[← hlow];exact Nat.lt_of_le_of_lt Nat.and_le_left hx
 have hneg:IntKind.u64.wrap (-(x:Int))=((18446744073709551616-x:Nat):Int):=by rw[IntKind.wrap_u64];omega
 have hand:=u64_and_nat x (18446744073709551616-x) hx (by omega);rw[hlow]at hand;have hmul:IntKind.u64.wrap ((p:Int)*285870213051353865)=(((p*285870213051353865) % 18446744073709551616:Nat):Int):=by rw[IntKind.wrap_u64];omega
 obtain⟨q,hq⟩:∃q,q=(p*285870213051353865) % 18446744073709551616:=⟨_,rfl⟩;rw[← hq]at hmul htab;have hq64:q<18446744073709551616:=by rw[hq];exact Nat.mod_lt _ (by omega)
 have hix64:q / 288230376151711744<64:=by omega
 clear e hq hp hlow hT;go_enter Tryz.func128,Tryz.ntmps128
 go_wp2;go_ret
 exact⟨rfl,rfl⟩
set_option maxRecDepth 100000 in
theorem wclone_any(B:Nat)(v:Value)(ws:List Nat)(w:World)(h:OwnW w B v ws)(hl:ws.length≤1000) :
  Calls Tryz.prog 126 #[v] w fun e w'=>∃v',e=.returned v'∧OwnW w' w.heap.size v' ws∧Kb [] w w':=by
 obtain⟨i0,hi,hz0,hz1,hz2⟩:=info_parts info64;have heq:∀(w:World) (a:Option Addr) (n c n' c':Nat),(binOp .eql 110 (.slice a n c) (.slice none n' c')).run Tryz.prog w=.ok (.bool a.isNone) w:=fun w a n c n' c'=>Lib.run_eql_slice_nil w _ _ a n c n' c' Tryz.underlying110
 have h64:=h.2;rcases h.1.2 with⟨rfl,h0⟩|⟨g,cap,cur,rfl,hb,hh,h1,h2,h3,h4⟩
 ·have e0:ws=[]:=List.eq_nil_of_length_eq_zero h0;subst e0;clear h;go_enter Tryz.func126,Tryz.ntmps126
  go_wp2;go_ret
  exact⟨_,rfl,OwnW.nil _ _,Kb.refl _ _⟩
 ·have hcell:∀(j:Nat) u,(u64s ws)[j]?=some u→(w.alloc (.cells #[] 186)).cell? ((⟨g,0,none⟩:Addr).add j)=some u:=by
   intro j u hu;have hadd:(⟨g,0,none⟩:Addr).add j=⟨g,j,none⟩:=by unfold Addr.add;split<;>simp_all
   have hj:=(List.getElem?_eq_some_iff.1 hu).1;rw[u64s_len]at hj;rw[hadd,cell_at (heap_old hh _),← Array.getElem?_toList];rw[← h4,Nat.mul_one,List.getElem?_take_of_lt hj]at hu;exact hu
  have hrow:(w.alloc (.cells #[] 186)).ownsRow w.heap.size 186 1 (.slice (some ⟨w.heap.size,0,none⟩) 0 0) 0 []:=⟨rfl,.inr ⟨w.heap.size,0,#[],rfl,Nat.le_refl _,heap_new _ _,Nat.le_refl _,Nat.zero_le _,rfl,rfl⟩⟩;have HR:=hide hrow;have HC:=hide hcell;clear hrow hcell h h3 h4 hb hh;go_enter Tryz.func126,Tryz.ntmps126
  go_wp2_with (first
   |(at_builtin;go_loud (refine wpList_append_own _ rfl (.tmp 5) (.tmp 6) 110 rfl w.heap.size 186 i0 (.int .u64 0) 1 8 Tryz.underlying110 hi hz0 hz1 hz2 rfl (by decide) (.slice (some ⟨w.heap.size,0,none⟩) 0 0) 0 [] (by simp[Act.eval]) HR.out ⟨g,0,none⟩ ws.length cap (u64s ws) (by simp[Act.eval]) (by rw[u64s_len,Nat.mul_one]) HC.out (by intro u hu;obtain⟨x,_,rfl⟩:=List.mem_map.1 hu;rfl) (by unfold maxLen;omega) (by omega) (by rw[World.size_alloc];omega) ?_;intro v' w2 hw2 hg hnil))
   |go_in)
  have HF:Hid (OwnW w2 w.heap.size v' ws∧Kb [] w w2):=by
   refine hide ⟨⟨by simpa using hw2,h64⟩,?_⟩;refine((Kb.refl [] w).alloc _).grown hg (fun k hk=>.inr ?_);simp[Value.ownBlock]at hk;omega
  clear hw2 hg hnil HR HC;go_wp2;go_ret
  exact⟨_,rfl,HF.out⟩
set_option maxRecDepth 100000 in
theorem all_any(B b o:Nat)(cs:Array Value)(T:TypeId)(v:Value)(s:List Nat)(w:World)(hb:w.heap[b]?=some (.cells cs T (0,0)))(hv:cs[o]?=some v)(h:SetV w B v s) :
  Calls Tryz.prog 94 #[.pointer (some ⟨b,o,none⟩)] w fun e w'=>∃bw v',e=.returned (.func (.func 127) #[] #[.pointer (some ⟨bw,0,none⟩)])∧w.heap.size≤bw∧w'.heap[bw]?=some (.cells #[v'] 110 (0,0))∧SetV w' w.heap.size v' s∧Kb [] w w':=by
 obtain⟨ws,hl,hO,rfl⟩:=h;have hc:w.cell? ⟨b,o,none⟩=some v:=by rw[cell_at hb];exact hv
 have HC:=wclone_any B v ws w hO (by omega);clear hO hb hv;have hmf:∀(fn:Fn) (first cap:Array Value) (w:World),(Instr.makeFunc fn first cap).run Tryz.prog w=.ok (.func fn first cap) w:=fun _ _ _ _=>rfl
 go_enter Tryz.func94,Tryz.ntmps94
 go_wp2_with fail
 refine HC.mono ?_
 clear HC;rintro e w1 ⟨v',rfl,hO1,hk1⟩;have HF:Hid (OwnW (w1.alloc (.cells #[v'] 110)) w.heap.size v' ws∧Kb [] w (w1.alloc (.cells #[v'] 110))∧(w1.alloc (.cells #[v'] 110)).heap[w1.heap.size]?=some (.cells #[v'] 110 (0,0))):=
  hide ⟨hO1.alloc _,hk1.alloc _,heap_new _ _⟩
 have HS:=hide hk1.size;have hform:∃ao cap,v'=.slice ao ws.length cap:=by
  obtain⟨ao,cap,e,_⟩:=hO1.form;exact⟨ao,cap,e⟩
 obtain⟨ao,cap,rfl⟩:=hform;clear hO1 hk1;go_wp2;go_ret
 exact⟨_,_,rfl,HS.out,HF.out.2.2,⟨ws,hl,HF.out.1,rfl⟩,HF.out.2.1⟩
end
section
open Go.RowKit Go.Shelf
attribute [local go_sem] Oper.semAt_some
abbrev Mem(s:List Nat):={ x:Nat // x∈s }
def encN(s:List Nat)(x:Mem s):Array Value:=#[.int .u64 (x.1:Int)]
def KpB(L:List Nat)(W W':World):Prop:=∀k∈L,W'.heap[k]?=W.heap[k]?
theorem KpB.refl(L:List Nat)(W:World):KpB L W W:=fun _ _=>rfl
theorem KpB.trans{L:List Nat}{A B C:World}(h:KpB L A B)(k:KpB L B C):KpB L A C:=fun i hi=>(k i hi).trans (h i hi)
theorem allW_take{ws:List Nat}{a:Nat}(ha:a<ws.length):allW (ws.take (a+1))=allW (ws.take a)++(bitsL (ws.getD a 0)).map (64*a + ·):=by
 unfold allW;have e1:(ws.take (a+1)).length=a+1:=by rw[List.length_take];omega
 have e2:(ws.take a).length=a:=by rw[List.length_take];omega
 rw[e1,e2,List.range_succ,List.flatMap_append];have g:∀j n,j<n→(ws.take n).getD j 0=ws.getD j 0:=by
  intro j n hj;rw[List.getD_eq_getElem?_getD,List.getD_eq_getElem?_getD,List.getElem?_take_of_lt hj]
 congr 1
 ·have:∀(l:List Nat),(∀j∈l,j<a)→(l.flatMap fun b=>(bitsL ((ws.take (a+1)).getD b 0)).map (64*b + ·))=(l.flatMap fun b=>(bitsL ((ws.take a).getD b 0)).map (64*b + ·)):=by
   intro l;induction l with
   |nil=>intro _;rfl
   |cons c r ih=>
    intro h;have hc:=h c List.mem_cons_self;rw[List.flatMap_cons,List.flatMap_cons,ih (fun j hj=>h j (List.mem_cons_of_mem _ hj)),g c (a+1) (by omega),g c a hc]
  exact this _ (fun j hj=>by simpa using hj)
 ·simp only[List.flatMap_cons,List.flatMap_nil,List.append_nil];rw[g a (a+1) (by omega)]
theorem allW_prefix{ws:List Nat}{a:Nat}(ha:a≤ws.length):∃r,allW (ws.take a)++r=allW ws:=by
 obtain⟨d,hd⟩:∃d,ws.length=a+d:=⟨ws.length-a,by omega⟩;induction d generalizing a with
 |zero=>exact⟨[],by rw[List.append_nil,List.take_of_length_le (by omega)]⟩
 |succ d ih=>
  obtain⟨r,hr⟩:=ih (a:=a+1) (by omega) (by omega);rw[allW_take (by omega),List.append_assoc]at hr;exact⟨_,hr⟩
structure InI(s ws:List Nat)(L:List Nat)(J:List (Mem s)→World→Prop)(W wr:World)(a r:Nat):Prop where
 r64:r<18446744073709551616
 ex:∃pre:List (Mem s),pre.map (·.1)++(bitsL r).map (64*a + ·)=allW (ws.take (a+1))∧J pre wr
 kp:KpB L W wr
theorem InI.next{s ws L:List Nat}{J:List (Mem s)→World→Prop}{W wr:World}{a r k m:Nat}(h:InI s ws L J W wr a r)(hs:s=allW ws)(ha:a<ws.length)(hr:r=2^k*(2*m+1)):∃(pre:List (Mem s)) (hx:64*a+k∈s),J pre wr∧pre.length<s.length∧∀w',J (pre++[⟨64*a+k,hx⟩]) w'→KpB L wr w'→InI s ws L J W w' a (r &&& (r-1)):=by
 obtain⟨pre,h1,h2⟩:=h.ex;have hb:=bitsL_step (k:=k) (m:=m) (by rw[← hr];exact h.r64);rw[← hr]at hb;rw[hb,List.map_cons]at h1;obtain⟨q,hq⟩:=allW_prefix (ws:=ws) (a:=a+1) (by omega);have hsub:pre.map (·.1)++((64*a+k)::(bitsL (r &&& (r-1))).map (64*a + ·))++q=s:=by rw[h1,hq,hs]
 have hx:64*a+k∈s:=by
  rw[← hsub];simp
 have hl:pre.length<s.length:=by
  have:=congrArg List.length hsub;simp at this;omega
 refine⟨pre,hx,h2,hl,fun w' hj hk=>⟨Nat.lt_of_le_of_lt Nat.and_le_left h.r64,⟨pre++[⟨64*a+k,hx⟩],?_,hj⟩,h.kp.trans hk⟩⟩;rw[← h1];simp
set_option maxRecDepth 100000 in
theorem all1_in(n l bw B:Nat)(v:Value)(ws s L:List Nat)(hs:s=allW ws)(J Jx:List (Mem s)→World→Prop)
  (hY:∀pre x W,J pre W→pre.length<s.length→YieldAt Fence.wide (n-1) Tryz.prog l (encN s x) W fun e W'=>
   (e=.returned (.bool true)∧J (pre++[x]) W'∧KpB L W W')∨(e=.returned (.bool false)∧Jx (pre++[x]) W'))
  (W:World) (hbw:W.heap[bw]?=some (.cells #[v] 110 (0,0))) (hO:OwnW W B v ws) (hl:ws.length≤2) (hT:TabAt W) (hL:∀g,v.ownBlock=some g→g∈L) (hLT:0∈L) (h0:J [] W) :
  CallsIn Fence.wide n Tryz.prog 127 #[.func (.yield l) #[] #[],.pointer (some ⟨bw,0,none⟩)] W fun e W'=>(∃v,e=.returned v) ∧
   ((∃xs,xs.map (·.1)=s∧J xs W')∨(∃pre,True∧Jx pre W')):=by
 have hc:W.cell? ⟨bw,0,none⟩=some v:=by rw[cell_at hbw];rfl
 obtain⟨ao,cap,rfl,hw⟩:=hO.form;have h64:=hO.2;refine callsIn_of_wp Tryz.func127 rfl trivial ?_ rfl;simp only[Tryz.ntmps127,List.size_toArray,List.length_cons,List.length_nil,Nat.reduceAdd,Nat.reduceSub,Array.replicate_succ,Array.replicate_zero,List.push_toArray,List.append_toArray,List.nil_append,List.cons_append];clear hO hbw;gi_wp2
 gi_loopw [8] (fun iv wr=>∃(a:Nat),iv=.int .i64 a∧a≤ws.length∧Hid (KpB L W wr∧∃pre:List (Mem s),pre.map (·.1)=allW (ws.take a)∧J pre wr))
  (fun iv _=>ws.length-(intOf iv).toNat)
 case atStart=>exact⟨0,rfl,Nat.zero_le _,hide ⟨KpB.refl _ _,[],by simp[allW],h0⟩⟩
 case round=>
  obtain⟨a,rfl,hle,HI⟩:=hrel;by_cases hlt:a<ws.length
  ·obtain⟨x,hx⟩:∃x,ws[a]?=some x:=⟨_,List.getElem?_eq_getElem hlt⟩;obtain⟨g,rfl,hg,_⟩:=hw a x hx;have hgr:wr.cell? ⟨g,a,none⟩=some (.int .u64 (x:Int)):=(World.cell?_of_block (a:=⟨g,a,none⟩) (HI.out.1 g (hL g rfl))).trans hg;have hxl:=h64 x (List.mem_of_getElem? hx);have H0:Hid (InI s ws L J W wr a x):=by
    obtain⟨k1,pre,k2,k3⟩:=HI.out;refine hide ⟨hxl,⟨pre,?_,k3⟩,k1⟩;rw[k2,allW_take hlt];have:ws.getD a 0=x:=by simp[hx]
    rw[this]
   clear HI hg hx;gi_wp2
   gi_loopw [5] (fun rv w1=>∃(r:Nat),rv=.int .u64 (r:Int)∧Hid (InI s ws L J W w1 a r)) (fun rv _=>(intOf rv).toNat)
   case atStart=>exact⟨x,rfl,H0.out⟩
   case round=>
    clear H0 hgr hxl;obtain⟨r,rfl,HR⟩:=hrel;have hr64:=HR.out.r64;by_cases hr0:r=0
    ·subst hr0;have HZ:Hid (KpB L W wr∧∃pre:List (Mem s),pre.map (·.1)=allW (ws.take (a+1))∧J pre wr):=by
      obtain⟨pre,k1,k2⟩:=HR.out.ex;rw[bitsL_zero]at k1;exact hide ⟨HR.out.kp,pre,by simpa using k1,k2⟩
     gi_wp2
     go_roundw
     case rel=>exact⟨a+1,by go_num,by omega,HZ⟩
     case measure=>simp[intOf];omega
    ·obtain⟨k,m,e⟩:=odd_part r hr0;obtain⟨pre,hx,k1,k2,k3⟩:=HR.out.next hs hlt e
     have hk:k<64:=bit_k (by rw[← e];exact hr64);have hTr:TabAt wr:=hT.of_heap (HR.out.kp _ hLT);have HTZ:=tz_any r k m hr64 e wr hTr;obtain⟨fn,tmps,assign,body,hy,hRd⟩:=hY pre ⟨64*a+k,hx⟩ wr k1 k2;have hy2:(Instr.yield l #[.int .u64 ((a:Int)*64+(k:Int))]).run Tryz.prog wr=.ok (.round l fn tmps assign body) wr:=by
      have e2:((64*a+k:Nat):Int)=(a:Int)*64+(k:Int):=by omega
      have h2:=hy;dsimp only[encN]at h2;rw[e2]at h2;exact h2
     have hand:=u64_and_nat r (r-1) hr64 (by omega);have hsub:((r-1:Nat):Int)=(r:Int)-1:=by omega
     rw[hsub]at hand;have hne:¬((r:Nat):Int)=0:=by omega
     have HK:=hide k3;have HRd:=hide hRd;clear hy k3 k1 k2 hTr e hT HR hRd hY;gi_wp2
     refine⟨trivial,fun h=>(by cases h),?_⟩;refine(callsIn_wide.2 HTZ).mono ?_
     clear HTZ;rintro e w' ⟨rfl,rfl⟩;gi_wp2
     refine⟨fun h=>(by cases h),?_⟩;refine HRd.out.mono ?_
     rintro e W3 (⟨rfl,hJ3,hk3⟩|⟨rfl,hJx3⟩)
     ·have HN:=hide (HK.out W3 hJ3 hk3);have HM:Hid (r &&& (r-1)<r):=hide (Nat.lt_of_le_of_lt Nat.and_le_right (by omega));clear hJ3 hk3;gi_wp2
      go_roundw
      case rel=>exact⟨_,rfl,HN⟩
      case measure=>simp[intOf];exact HM.out
     ·have HX:=hide hJx3;clear hJx3;gi_wp2
      refine bodyPost_ret (results_none rfl _ _ _) rfl ?_
      exact⟨⟨_,rfl⟩,.inr ⟨_,trivial,HX.out⟩⟩
  ·have haz:a=ws.length:=by omega
   subst haz;gi_wp2
   go_end0
   obtain⟨_,pre,k1,k2⟩:=HI.out;exact⟨⟨_,rfl⟩,.inl ⟨pre,by rw[k1,hs,List.take_of_length_le (Nat.le_refl _)],k2⟩⟩
theorem all_stops(n bw B:Nat)(v:Value)(s L:List Nat)(w:World)(hbw:w.heap[bw]?=some (.cells #[v] 110 (0,0)))(h:SetV w B v s)(hT:TabAt w)(hL:∀g,v.ownBlock=some g→g∈L)(hLT:0∈L) :
  SeqStopsK Fence.wide n Tryz.prog 127 #[.pointer (some ⟨bw,0,none⟩)] (encN s) (KpB L) (fun xs=>xs.map (·.1)=s) (fun _=>True) s.length w:=by
 intro l J Jx W hb _ _ hY h0;obtain⟨ws,hl,hO,rfl⟩:=h;have hk:Kb [] w W:=Kb.of_below hb [];exact all1_in n l bw B v ws _ L (allW_eq hl).symm J Jx hY W (hk.heap hbw (by simp)) (hO.kb hk (by simp)) hl (hT.kb hk (by simp)) hL hLT h0
theorem kpB_b{L:List Nat}{w:World}(hL:∀k∈L,k<w.heap.size)(W:World)(l:Nat)(o o':Obj)(hl:w.heap.size≤l)(_:W.heap[l]?=some o)(_:o.isCells=false)(_:o.isWalk=false):KpB L W (W.putObj l o'):=by
 intro k hk;have:=hL k hk;exact World.putObj_heap_other (by omega)
end
section
open Go.RowKit
abbrev TG:TypeId:=114
abbrev TNd:TypeId:=148
abbrev TL:TypeId:=170
structure GV where
 bg:Nat
 bn:Nat
 bl:Nat
 cap:Nat
 nv:List Value
 vs:Value
 vi:Value
 va:Value
 vn:Value
 vc:Value
 ab:List Nat
def blocksOf(l:List Value):List Nat:=l.filterMap Value.ownBlock
def GV.foot(G:GV):List Nat:=[G.bg,G.bn,G.bl]++blocksOf G.nv++blocksOf [G.vs,G.vi,G.va,G.vn,G.vc]
theorem mem_blocks{l:List Value}{b:Nat}:b∈blocksOf l↔∃v∈l,v.ownBlock=some b:=by simp[blocksOf]
theorem mem_foot{G:GV}{b:Nat}:b∈G.foot↔b=G.bg∨b=G.bn∨b=G.bl∨(∃v∈G.nv,v.ownBlock=some b)∨G.vs.ownBlock=some b∨G.vi.ownBlock=some b∨G.va.ownBlock=some b∨G.vn.ownBlock=some b∨G.vc.ownBlock=some b:=by
 unfold GV.foot;simp only[List.mem_append,mem_blocks,List.mem_cons,List.not_mem_nil,or_false];constructor
 ·rintro((h|h)|⟨v,h,e⟩)
  ·rcases h with h|h|h
   ·exact .inl h
   ·exact .inr (.inl h)
   ·exact .inr (.inr (.inl h))
  ·exact .inr (.inr (.inr (.inl h)))
  ·rcases h with rfl|rfl|rfl|rfl|rfl
   ·exact .inr (.inr (.inr (.inr (.inl e))))
   ·exact .inr (.inr (.inr (.inr (.inr (.inl e)))))
   ·exact .inr (.inr (.inr (.inr (.inr (.inr (.inl e))))))
   ·exact .inr (.inr (.inr (.inr (.inr (.inr (.inr (.inl e)))))))
   ·exact .inr (.inr (.inr (.inr (.inr (.inr (.inr (.inr e)))))))
 ·rintro(h|h|h|h|h|h|h|h|h)
  ·exact .inl (.inl (.inl h))
  ·exact .inl (.inl (.inr (.inl h)))
  ·exact .inl (.inl (.inr (.inr h)))
  ·exact .inl (.inr h)
  ·exact .inr ⟨_,.inl rfl,h⟩
  ·exact .inr ⟨_,.inr (.inl rfl),h⟩
  ·exact .inr ⟨_,.inr (.inr (.inl rfl)),h⟩
  ·exact .inr ⟨_,.inr (.inr (.inr (.inl rfl))),h⟩
  ·exact .inr ⟨_,.inr (.inr (.inr (.inr rfl))),h⟩
def gcells(c:Way)(n:Nat)(G:GV)(un:Nat):Array Value:=#[.int .i64 c.order,.bool c.cycles,.bool c.collapse,.bool c.subst,.bool c.deltas,.slice (some ⟨G.bn,0,none⟩) n G.cap,G.va,.pointer (some ⟨G.bl,0,none⟩),G.vs,.int .i64 un]
def lcells(c:Way)(G:GV):Array Value:=#[.int .i64 c.order,G.vi,G.vn,G.vc]
structure GM(w:World)(B:Nat)(c:Way)(n:Nat)(G:GV)(s:St):Prop where
 hB:B≤w.heap.size
 hbg:w.heap[G.bg]?=some (.cells (gcells c n G s.un) TG (0,0))
 hbn:w.heap[G.bn]?=some (.cells G.nv.toArray TNd (0,0))
 hbl:w.heap[G.bl]?=some (.cells (lcells c G) TL (0,0))
 lnv:G.nv.length=7*n
 lss:s.ss.length=7*n
 sN:∀(k:Nat) v t,G.nv[k]?=some v→s.ss[k]?=some t→SetV w B v t
 sS:SetV w B G.vs s.susp
 sI:SetV w B G.vi s.inside
 aNN:∀(j k:Nat) v v',j≠k→G.nv[j]?=some v→G.nv[k]?=some v'→Apart v v'
 aNS:∀(k:Nat) v,G.nv[k]?=some v→Apart v G.vs
 aNI:∀(k:Nat) v,G.nv[k]?=some v→Apart v G.vi
 aSI:Apart G.vs G.vi
 oA:OwnN w B G.va G.ab
 cls:ClsR G.ab s.rep
 oN:OwnN w B G.vn s.now
 oC:OwnN w B G.vc s.come
 aAN:Apart G.va G.vn
 aAC:Apart G.va G.vc
 aCN:Apart G.vn G.vc
 lo:B≤G.bg∧B≤G.bn∧B≤G.bl
 n40:n≤40
 lw:s.now.length≤1000∧s.come.length≤1000
 un:s.un<4611686018427387904
 ord:0≤c.order∧c.order≤2
structure GCh(w w':World)(G G':GV):Prop where
 kb:Kb G.foot w w'
 ft:∀b,b∈G'.foot→b∈G.foot∨w.heap.size≤b
 e1:G'.bg=G.bg
 e2:G'.bn=G.bn
 e3:G'.bl=G.bl
theorem GCh.refl(w:World)(G:GV):GCh w w G G:=⟨Kb.refl _ _,fun _ h=>.inl h,rfl,rfl,rfl⟩
theorem GCh.trans{w w' w'':World}{G G' G'':GV}(h:GCh w w' G G')(k:GCh w' w'' G' G''):GCh w w'' G G'':=by
 refine⟨⟨k.kb.os.trans h.kb.os,k.kb.tape.trans h.kb.tape,k.kb.output.trans h.kb.output,Nat.le_trans h.kb.size k.kb.size,fun j hj hl=>?_⟩,fun b hb=>?_,k.e1.trans h.e1,k.e2.trans h.e2,k.e3.trans h.e3⟩
 ·refine(k.kb.block j (Nat.lt_of_lt_of_le hj h.kb.size) (fun hm=>?_)).trans (h.kb.block j hj hl);rcases h.ft j hm with h1|h1
  ·exact hl h1
  ·omega
 ·rcases k.ft b hb with h1|h1
  ·exact h.ft b h1
  ·exact .inr (Nat.le_trans h.kb.size h1)
theorem ne_types{w:World}{a b:Nat}{c c':Array Value}{T T':TypeId}{f f':Nat × Nat}(h:w.heap[a]?=some (.cells c T f))(h':w.heap[b]?=some (.cells c' T' f'))(hT:T≠T'):a≠b:=by
 intro e;subst e;rw[h]at h';injection h' with h';injection h' with _ h2 _;exact hT h2
theorem OwnN.block{w:World}{B:Nat}{v:Value}{xs:List Nat}(h:OwnN w B v xs){g:Nat}(hg:v.ownBlock=some g):∃c,w.heap[g]?=some (.cells c TN (0,0)):=by
 rcases h.1.2 with⟨rfl,_⟩|⟨g',cap,cur,rfl,_,hh,_⟩
 ·cases hg
 ·cases hg;exact⟨_,hh⟩
theorem OwnW.block{w:World}{B:Nat}{v:Value}{xs:List Nat}(h:OwnW w B v xs){g:Nat}(hg:v.ownBlock=some g):∃c,w.heap[g]?=some (.cells c T64 (0,0)):=by
 rcases h.1.2 with⟨rfl,_⟩|⟨g',cap,cur,rfl,_,hh,_⟩
 ·cases hg
 ·cases hg;exact⟨_,hh⟩
theorem SetV.block{w:World}{B:Nat}{v:Value}{s:List Nat}(h:SetV w B v s){g:Nat}(hg:v.ownBlock=some g):∃c,w.heap[g]?=some (.cells c T64 (0,0)):=by
 obtain⟨ws,_,h2,_⟩:=h;exact h2.block hg
theorem GM.cells{w:World}{B:Nat}{c:Way}{n:Nat}{G:GV}{s:St}(h:GM w B c n G s){b:Nat}(hb:b∈G.foot):B≤b∧∃cs T,w.heap[b]?=some (.cells cs T (0,0)):=by
 rcases mem_foot.1 hb with rfl|rfl|rfl|⟨v,hv,e⟩|e|e|e|e|e
 ·exact⟨h.lo.1,_,_,h.hbg⟩
 ·exact⟨h.lo.2.1,_,_,h.hbn⟩
 ·exact⟨h.lo.2.2,_,_,h.hbl⟩
 ·obtain⟨k,hk⟩:=List.mem_iff_getElem?.1 hv;have hkl:=(List.getElem?_eq_some_iff.1 hk).1;obtain⟨t,ht⟩:∃t,s.ss[k]?=some t:=⟨_,List.getElem?_eq_getElem (by rw[h.lss,← h.lnv];exact hkl)⟩;have hs:=h.sN k v t hk ht;obtain⟨cs,hc⟩:=hs.block e;exact⟨(hs.lt e).1,cs,_,hc⟩
 ·obtain⟨cs,hc⟩:=h.sS.block e;exact⟨(h.sS.lt e).1,cs,_,hc⟩
 ·obtain⟨cs,hc⟩:=h.sI.block e;exact⟨(h.sI.lt e).1,cs,_,hc⟩
 ·obtain⟨cs,hc⟩:=h.oA.block e;exact⟨(h.oA.lt e).1,cs,_,hc⟩
 ·obtain⟨cs,hc⟩:=h.oN.block e;exact⟨(h.oN.lt e).1,cs,_,hc⟩
 ·obtain⟨cs,hc⟩:=h.oC.block e;exact⟨(h.oC.lt e).1,cs,_,hc⟩
theorem GM.beside{w w':World}{B:Nat}{c:Way}{n:Nat}{G:GV}{s:St}(h:GM w B c n G s){L:List Nat}(hk:Kb L w w')(hl:∀b∈L,b ∉ G.foot):GM w' B c n G s:=by
 have ne:∀ {v:Value},(∀b,v.ownBlock=some b→b∈G.foot)→∀g∈L,v.ownBlock≠some g:=fun hv g hg e=>hl g hg (hv g e)
 have nb:∀ {b:Nat},b∈G.foot→b ∉ L:=fun hb hm=>hl _ hm hb
 have f1:G.bg∈G.foot:=mem_foot.2 (.inl rfl);have f2:G.bn∈G.foot:=mem_foot.2 (.inr (.inl rfl));have f3:G.bl∈G.foot:=mem_foot.2 (.inr (.inr (.inl rfl)));refine⟨Nat.le_trans h.hB hk.size,hk.heap h.hbg (nb f1),hk.heap h.hbn (nb f2),hk.heap h.hbl (nb f3),h.lnv,h.lss,fun k v t hv ht=>(h.sN k v t hv ht).kb hk (ne (fun b e=>mem_foot.2 (.inr (.inr (.inr (.inl ⟨v,List.mem_of_getElem? hv,e⟩)))))),
  h.sS.kb hk (ne (fun b e=>mem_foot.2 (.inr (.inr (.inr (.inr (.inl e))))))),h.sI.kb hk (ne (fun b e=>mem_foot.2 (.inr (.inr (.inr (.inr (.inr (.inl e)))))))),h.aNN,h.aNS,h.aNI,h.aSI,h.oA.kb hk (ne (fun b e=>mem_foot.2 (.inr (.inr (.inr (.inr (.inr (.inr (.inl e))))))))),h.cls,
  h.oN.kb hk (ne (fun b e=>mem_foot.2 (.inr (.inr (.inr (.inr (.inr (.inr (.inr (.inl e)))))))))),h.oC.kb hk (ne (fun b e=>mem_foot.2 (.inr (.inr (.inr (.inr (.inr (.inr (.inr (.inr e)))))))))),h.aAN,h.aAC,h.aCN,h.lo,h.n40,h.lw,h.un,h.ord⟩
theorem GM.fresh{w w':World}{B:Nat}{c:Way}{n:Nat}{G:GV}{s:St}(h:GM w B c n G s)(hk:Kb [] w w'):GM w' B c n G s:=h.beside hk (by simp)
end
section
open Go.RowKit
variable {w w':World} {B:Nat} {c:Way} {n:Nat} {G:GV} {s:St}
theorem SetCh.keepS{b o:Nat}{cs:Array Value}{T:TypeId}{v v' u:Value}{t:List Nat}(h:SetCh w w' b o cs T v v')(hu:SetV w B u t)(h1:u.ownBlock≠some b)(h2:Apart v u):SetV w' B u t:=by
 refine hu.kb h.kb fun g hg=>?_
 rcases List.mem_cons.1 hg with rfl|hg
 ·exact h1
 ·simp at hg;exact h2 g hg
theorem SetCh.keepN{b o:Nat}{cs:Array Value}{T:TypeId}{v v' u:Value}{t:List Nat}(h:SetCh w w' b o cs T v v')(hu:OwnN w B u t)(h1:u.ownBlock≠some b)(h2:Apart v u):OwnN w' B u t:=by
 refine hu.kb h.kb fun g hg=>?_
 rcases List.mem_cons.1 hg with rfl|hg
 ·exact h1
 ·simp at hg;exact h2 g hg
theorem SetCh.keepB{b o a:Nat}{cs:Array Value}{T:TypeId}{v v':Value}{O:Obj}(h:SetCh w w' b o cs T v v')(ha:w.heap[a]?=some O)(h1:a≠b)(h2:v.ownBlock≠some a):w'.heap[a]?=some O:=by
 refine h.kb.heap ha fun hm=>?_
 rcases List.mem_cons.1 hm with e|hm
 ·exact h1 e
 ·simp at hm;exact h2 hm
theorem SetCh.apart'{b o:Nat}{cs:Array Value}{T:TypeId}{v v' u:Value}(h:SetCh w w' b o cs T v v')(h2:Apart v u)(hlt:∀g,u.ownBlock=some g→g<w.heap.size):Apart v' u:=by
 intro g hg e;rcases h.lies with e1|⟨g',e1,hg'⟩
 ·exact h2 g (by rw[← e1];exact hg) e
 ·rw[e1]at hg;cases hg;have:=hlt g e;omega
theorem apartSN{v u:Value}{t xs:List Nat}(h1:SetV w B v t)(h2:OwnN w B u xs):Apart v u:=by
 intro g e1 e2;obtain⟨_,k1⟩:=h1.block e1;obtain⟨_,k2⟩:=h2.block e2;exact ne_types k1 k2 (by decide) rfl
theorem foot_upd{b o:Nat}{cs:Array Value}{T:TypeId}{v v':Value}(h:SetCh w w' b o cs T v v')(hb:b∈G.foot)(hv:∀g,v.ownBlock=some g→g∈G.foot){G':GV}(e1:G'.bg=G.bg)(e2:G'.bn=G.bn)(e3:G'.bl=G.bl)(hft:∀x,x∈G'.foot→x∈G.foot∨v'.ownBlock=some x):GCh w w' G G':=by
 refine⟨h.kb.mono (fun k _ hk=>?_),fun x hx=>?_,e1,e2,e3⟩
 ·rcases List.mem_cons.1 hk with rfl|hk
  ·exact hb
  ·simp at hk;exact hv k hk
 ·rcases hft x hx with h1|h1
  ·exact .inl h1
  ·rcases h.lies with e|⟨g,e,hg⟩
   ·exact .inl (hv x (by rw[← e];exact h1))
   ·rw[e]at h1;cases h1;exact .inr hg
theorem GM.putN(h:GM w B c n G s){k:Nat}{v v':Value}{t:List Nat}(hv:G.nv[k]?=some v)(hc:SetCh w w' G.bn k G.nv.toArray TNd v v')(ht:SetV w' B v' t):GM w' B c n { G with nv:=G.nv.set k v' } (s.put k t)∧GCh w w' G { G with nv:=G.nv.set k v' }:=by
 have hkl:=(List.getElem?_eq_some_iff.1 hv).1;obtain⟨t0,ht0⟩:∃t,s.ss[k]?=some t:=⟨_,List.getElem?_eq_getElem (by rw[h.lss,← h.lnv];exact hkl)⟩;have hs:=h.sN k v t0 hv ht0;have hset:∀(j:Nat) u,(G.nv.set k v')[j]?=some u→(j=k∧u=v')∨(j≠k∧G.nv[j]?=some u):=by
  intro j u hu;by_cases e:j=k
  ·subst e;rw[List.getElem?_set_self hkl]at hu;injection hu with hu;exact .inl ⟨rfl,hu.symm⟩
  ·rw[List.getElem?_set_ne (Ne.symm e)]at hu;exact .inr ⟨e,hu⟩
 have hltN:∀(j:Nat) u,G.nv[j]?=some u→∀g,u.ownBlock=some g→g<w.heap.size:=by
  intro j u hu g hg;have hjl:=(List.getElem?_eq_some_iff.1 hu).1;obtain⟨t1,ht1⟩:∃t,s.ss[j]?=some t:=⟨_,List.getElem?_eq_getElem (by rw[h.lss,← h.lnv];exact hjl)⟩;exact((h.sN j u t1 hu ht1).lt hg).2
 refine⟨⟨Nat.le_trans h.hB hc.kb.size,?_,?_,?_,by simpa using h.lnv,by simpa[St.put]using h.lss,?_,?_,?_,?_,?_,?_,h.aSI,?_,h.cls,?_,?_,h.aAN,h.aAC,h.aCN,h.lo,h.n40,h.lw,h.un,h.ord⟩,?_⟩
 ·exact hc.keepB h.hbg (ne_types h.hbg h.hbn (by decide)) (hs.ne h.hbg (by decide))
 ·have:=hc.blk;rw[this];simp[List.setIfInBounds_toArray]
 ·exact hc.keepB h.hbl (ne_types h.hbl h.hbn (by decide)) (hs.ne h.hbl (by decide))
 ·intro j u t1 hu ht1;rcases hset j u hu with⟨rfl,rfl⟩|⟨hj,hu⟩
  ·have e:(s.put j t).ss[j]?=some t:=by simp[St.put,h.lss,← h.lnv,hkl]
   rw[e]at ht1;injection ht1 with ht1;subst ht1;exact ht
  ·have e:(s.put k t).ss[j]?=s.ss[j]?:=by simp[St.put,List.getElem?_set_ne (Ne.symm hj)]
   rw[e]at ht1;have hu':=h.sN j u t1 hu ht1;exact hc.keepS hu' (hu'.ne h.hbn (by decide)) (h.aNN k j v u (Ne.symm hj) hv hu)
 ·exact hc.keepS h.sS (h.sS.ne h.hbn (by decide)) (h.aNS k v hv)
 ·exact hc.keepS h.sI (h.sI.ne h.hbn (by decide)) (h.aNI k v hv)
 ·intro i j u u' hij hu hu';rcases hset i u hu with⟨rfl,rfl⟩|⟨hi,hu⟩
  ·rcases hset j u' hu' with⟨rfl,_⟩|⟨hj,hu'⟩
   ·exact absurd rfl hij
   ·exact hc.apart' (h.aNN i j v u' hij hv hu') (hltN j u' hu')
  ·rcases hset j u' hu' with⟨e1,e2⟩|⟨hj,hu'⟩
   ·rw[e2];exact(hc.apart' (h.aNN k i v u (fun e=>hi e.symm) hv hu) (hltN i u hu)).symm
   ·exact h.aNN i j u u' hij hu hu'
 ·intro j u hu;rcases hset j u hu with⟨rfl,rfl⟩|⟨hj,hu⟩
  ·exact hc.apart' (h.aNS j v hv) (fun g hg=>(h.sS.lt hg).2)
  ·exact h.aNS j u hu
 ·intro j u hu;rcases hset j u hu with⟨rfl,rfl⟩|⟨hj,hu⟩
  ·exact hc.apart' (h.aNI j v hv) (fun g hg=>(h.sI.lt hg).2)
  ·exact h.aNI j u hu
 ·exact hc.keepN h.oA (h.oA.ne h.hbn (by decide)) (apartSN hs h.oA)
 ·exact hc.keepN h.oN (h.oN.ne h.hbn (by decide)) (apartSN hs h.oN)
 ·exact hc.keepN h.oC (h.oC.ne h.hbn (by decide)) (apartSN hs h.oC)
 ·refine foot_upd hc (mem_foot.2 (.inr (.inl rfl))) (fun g hg=>mem_foot.2 (.inr (.inr (.inr (.inl ⟨v,List.mem_of_getElem? hv,hg⟩))))) rfl rfl rfl (fun x hx=>?_);rcases mem_foot.1 hx with e|e|e|⟨u,hu,e⟩|e
  ·exact .inl (mem_foot.2 (.inl e))
  ·exact .inl (mem_foot.2 (.inr (.inl e)))
  ·exact .inl (mem_foot.2 (.inr (.inr (.inl e))))
  ·obtain⟨j,hj⟩:=List.mem_iff_getElem?.1 hu;rcases hset j u hj with⟨_,rfl⟩|⟨_,hj⟩
   ·exact .inr e
   ·exact .inl (mem_foot.2 (.inr (.inr (.inr (.inl ⟨u,List.mem_of_getElem? hj,e⟩)))))
  ·exact .inl (mem_foot.2 (.inr (.inr (.inr (.inr e)))))
theorem GM.putS(h:GM w B c n G s){v':Value}{t:List Nat}(hc:SetCh w w' G.bg 8 (gcells c n G s.un) TG G.vs v')(ht:SetV w' B v' t):GM w' B c n { G with vs:=v' } { s with susp:=t }∧GCh w w' G { G with vs:=v' }:=by
 refine⟨⟨Nat.le_trans h.hB hc.kb.size,?_,?_,?_,h.lnv,h.lss,?_,ht,?_,h.aNN,?_,h.aNI,?_,?_,h.cls,?_,?_,h.aAN,h.aAC,h.aCN,h.lo,h.n40,h.lw,h.un,h.ord⟩,?_⟩
 ·rw[hc.blk];rfl
 ·exact hc.keepB h.hbn (ne_types h.hbn h.hbg (by decide)) (h.sS.ne h.hbn (by decide))
 ·exact hc.keepB h.hbl (ne_types h.hbl h.hbg (by decide)) (h.sS.ne h.hbl (by decide))
 ·intro k v t1 hv ht1;have hu:=h.sN k v t1 hv ht1;exact hc.keepS hu (hu.ne h.hbg (by decide)) (h.aNS k v hv).symm
 ·exact hc.keepS h.sI (h.sI.ne h.hbg (by decide)) h.aSI
 ·intro k v hv;refine(hc.apart' (h.aNS k v hv).symm (fun g hg=>?_)).symm;have hkl:=(List.getElem?_eq_some_iff.1 hv).1;obtain⟨t1,ht1⟩:∃t,s.ss[k]?=some t:=⟨_,List.getElem?_eq_getElem (by rw[h.lss,← h.lnv];exact hkl)⟩;exact((h.sN k v t1 hv ht1).lt hg).2
 ·exact hc.apart' h.aSI (fun g hg=>(h.sI.lt hg).2)
 ·exact hc.keepN h.oA (h.oA.ne h.hbg (by decide)) (apartSN h.sS h.oA)
 ·exact hc.keepN h.oN (h.oN.ne h.hbg (by decide)) (apartSN h.sS h.oN)
 ·exact hc.keepN h.oC (h.oC.ne h.hbg (by decide)) (apartSN h.sS h.oC)
 ·refine foot_upd hc (mem_foot.2 (.inl rfl)) (fun g hg=>mem_foot.2 (.inr (.inr (.inr (.inr (.inl hg)))))) rfl rfl rfl (fun x hx=>?_);rcases mem_foot.1 hx with e|e|e|e|e|e
  ·exact .inl (mem_foot.2 (.inl e))
  ·exact .inl (mem_foot.2 (.inr (.inl e)))
  ·exact .inl (mem_foot.2 (.inr (.inr (.inl e))))
  ·exact .inl (mem_foot.2 (.inr (.inr (.inr (.inl e)))))
  ·exact .inr e
  ·exact .inl (mem_foot.2 (.inr (.inr (.inr (.inr (.inr e))))))
theorem GM.putI(h:GM w B c n G s){v':Value}{t:List Nat}(hc:SetCh w w' G.bl 1 (lcells c G) TL G.vi v')(ht:SetV w' B v' t):GM w' B c n { G with vi:=v' } { s with inside:=t }∧GCh w w' G { G with vi:=v' }:=by
 refine⟨⟨Nat.le_trans h.hB hc.kb.size,?_,?_,?_,h.lnv,h.lss,?_,?_,ht,h.aNN,h.aNS,?_,?_,?_,h.cls,?_,?_,h.aAN,h.aAC,h.aCN,h.lo,h.n40,h.lw,h.un,h.ord⟩,?_⟩
 ·exact hc.keepB h.hbg (ne_types h.hbg h.hbl (by decide)) (h.sI.ne h.hbg (by decide))
 ·exact hc.keepB h.hbn (ne_types h.hbn h.hbl (by decide)) (h.sI.ne h.hbn (by decide))
 ·rw[hc.blk];rfl
 ·intro k v t1 hv ht1;have hu:=h.sN k v t1 hv ht1;exact hc.keepS hu (hu.ne h.hbl (by decide)) (h.aNI k v hv).symm
 ·exact hc.keepS h.sS (h.sS.ne h.hbl (by decide)) h.aSI.symm
 ·intro k v hv;refine(hc.apart' (h.aNI k v hv).symm (fun g hg=>?_)).symm;have hkl:=(List.getElem?_eq_some_iff.1 hv).1;obtain⟨t1,ht1⟩:∃t,s.ss[k]?=some t:=⟨_,List.getElem?_eq_getElem (by rw[h.lss,← h.lnv];exact hkl)⟩;exact((h.sN k v t1 hv ht1).lt hg).2
 ·exact(hc.apart' h.aSI.symm (fun g hg=>(h.sS.lt hg).2)).symm
 ·exact hc.keepN h.oA (h.oA.ne h.hbl (by decide)) (apartSN h.sI h.oA)
 ·exact hc.keepN h.oN (h.oN.ne h.hbl (by decide)) (apartSN h.sI h.oN)
 ·exact hc.keepN h.oC (h.oC.ne h.hbl (by decide)) (apartSN h.sI h.oC)
 ·refine foot_upd hc (mem_foot.2 (.inr (.inr (.inl rfl)))) (fun g hg=>mem_foot.2 (.inr (.inr (.inr (.inr (.inr (.inl hg))))))) rfl rfl rfl (fun x hx=>?_);rcases mem_foot.1 hx with e|e|e|e|e|e|e
  ·exact .inl (mem_foot.2 (.inl e))
  ·exact .inl (mem_foot.2 (.inr (.inl e)))
  ·exact .inl (mem_foot.2 (.inr (.inr (.inl e))))
  ·exact .inl (mem_foot.2 (.inr (.inr (.inr (.inl e)))))
  ·exact .inl (mem_foot.2 (.inr (.inr (.inr (.inr (.inl e))))))
  ·exact .inr e
  ·exact .inl (mem_foot.2 (.inr (.inr (.inr (.inr (.inr (.inr e)))))))
theorem GM.keepAll(h:GM w B c n G s){b o:Nat}{cs:Array Value}{T:TypeId}{v v':Value}{xs:List Nat}(hc:SetCh w w' b o cs T v v')(hb:w.heap[b]?=some (.cells cs T (0,0)))(hT:T≠T64)(ho:OwnN w B v xs):(∀(k:Nat) u t,G.nv[k]?=some u→s.ss[k]?=some t→SetV w' B u t)∧SetV w' B G.vs s.susp∧SetV w' B G.vi s.inside:=by
 refine⟨fun k u t hu ht=>?_,hc.keepS h.sS (h.sS.ne hb hT) (apartSN h.sS ho).symm,hc.keepS h.sI (h.sI.ne hb hT) (apartSN h.sI ho).symm⟩;have h1:=h.sN k u t hu ht;exact hc.keepS h1 (h1.ne hb hT) (apartSN h1 ho).symm
theorem GM.putA(h:GM w B c n G s){v':Value}{ab':List Nat}{rep':Nat→Nat}(hc:SrInv w w' B G.bg 6 (gcells c n G s.un) TG G.va rep' ab' v'):GM w' B c n { G with va:=v',ab:=ab' } { s with rep:=rep' }∧GCh w w' G { G with va:=v',ab:=ab' }:=by
 obtain⟨k1,k2,k3⟩:=h.keepAll hc.ch h.hbg (by decide) h.oA;refine⟨⟨Nat.le_trans h.hB hc.ch.kb.size,?_,?_,?_,h.lnv,h.lss,k1,k2,k3,h.aNN,h.aNS,h.aNI,h.aSI,hc.own,hc.cls,?_,?_,?_,?_,h.aCN,h.lo,h.n40,h.lw,h.un,h.ord⟩,?_⟩
 ·rw[hc.ch.blk];rfl
 ·exact hc.ch.keepB h.hbn (ne_types h.hbn h.hbg (by decide)) (h.oA.ne h.hbn (by decide))
 ·exact hc.ch.keepB h.hbl (ne_types h.hbl h.hbg (by decide)) (h.oA.ne h.hbl (by decide))
 ·exact hc.ch.keepN h.oN (h.oN.ne h.hbg (by decide)) h.aAN
 ·exact hc.ch.keepN h.oC (h.oC.ne h.hbg (by decide)) h.aAC
 ·exact hc.ch.apart' h.aAN (fun g hg=>(h.oN.lt hg).2)
 ·exact hc.ch.apart' h.aAC (fun g hg=>(h.oC.lt hg).2)
 ·refine foot_upd hc.ch (mem_foot.2 (.inl rfl)) (fun g hg=>mem_foot.2 (.inr (.inr (.inr (.inr (.inr (.inr (.inl hg)))))))) rfl rfl rfl (fun x hx=>?_);rcases mem_foot.1 hx with e|e|e|e|e|e|e|e
  ·exact .inl (mem_foot.2 (.inl e))
  ·exact .inl (mem_foot.2 (.inr (.inl e)))
  ·exact .inl (mem_foot.2 (.inr (.inr (.inl e))))
  ·exact .inl (mem_foot.2 (.inr (.inr (.inr (.inl e)))))
  ·exact .inl (mem_foot.2 (.inr (.inr (.inr (.inr (.inl e))))))
  ·exact .inl (mem_foot.2 (.inr (.inr (.inr (.inr (.inr (.inl e)))))))
  ·exact .inr e
  ·exact .inl (mem_foot.2 (.inr (.inr (.inr (.inr (.inr (.inr (.inr e))))))))
theorem GM.putT(h:GM w B c n G s){v':Value}{l:List Nat}(hc:SetCh w w' G.bl 2 (lcells c G) TL G.vn v')(ho:OwnN w' B v' l)(hl:l.length≤1000):GM w' B c n { G with vn:=v' } { s with now:=l }∧GCh w w' G { G with vn:=v' }:=by
 obtain⟨k1,k2,k3⟩:=h.keepAll hc h.hbl (by decide) h.oN;refine⟨⟨Nat.le_trans h.hB hc.kb.size,?_,?_,?_,h.lnv,h.lss,k1,k2,k3,h.aNN,h.aNS,h.aNI,h.aSI,?_,h.cls,ho,?_,?_,h.aAC,?_,h.lo,h.n40,⟨hl,h.lw.2⟩,h.un,h.ord⟩,?_⟩
 ·exact hc.keepB h.hbg (ne_types h.hbg h.hbl (by decide)) (h.oN.ne h.hbg (by decide))
 ·exact hc.keepB h.hbn (ne_types h.hbn h.hbl (by decide)) (h.oN.ne h.hbn (by decide))
 ·rw[hc.blk];rfl
 ·exact hc.keepN h.oA (h.oA.ne h.hbl (by decide)) h.aAN.symm
 ·exact hc.keepN h.oC (h.oC.ne h.hbl (by decide)) h.aCN
 ·exact(hc.apart' h.aAN.symm (fun g hg=>(h.oA.lt hg).2)).symm
 ·exact hc.apart' h.aCN (fun g hg=>(h.oC.lt hg).2)
 ·refine foot_upd hc (mem_foot.2 (.inr (.inr (.inl rfl)))) (fun g hg=>mem_foot.2 (.inr (.inr (.inr (.inr (.inr (.inr (.inr (.inl hg))))))))) rfl rfl rfl (fun x hx=>?_);rcases mem_foot.1 hx with e|e|e|e|e|e|e|e|e
  ·exact .inl (mem_foot.2 (.inl e))
  ·exact .inl (mem_foot.2 (.inr (.inl e)))
  ·exact .inl (mem_foot.2 (.inr (.inr (.inl e))))
  ·exact .inl (mem_foot.2 (.inr (.inr (.inr (.inl e)))))
  ·exact .inl (mem_foot.2 (.inr (.inr (.inr (.inr (.inl e))))))
  ·exact .inl (mem_foot.2 (.inr (.inr (.inr (.inr (.inr (.inl e)))))))
  ·exact .inl (mem_foot.2 (.inr (.inr (.inr (.inr (.inr (.inr (.inl e))))))))
  ·exact .inr e
  ·exact .inl (mem_foot.2 (.inr (.inr (.inr (.inr (.inr (.inr (.inr (.inr e)))))))))
theorem GM.putC(h:GM w B c n G s){v':Value}{l:List Nat}(hc:SetCh w w' G.bl 3 (lcells c G) TL G.vc v')(ho:OwnN w' B v' l)(hl:l.length≤1000):GM w' B c n { G with vc:=v' } { s with come:=l }∧GCh w w' G { G with vc:=v' }:=by
 obtain⟨k1,k2,k3⟩:=h.keepAll hc h.hbl (by decide) h.oC;refine⟨⟨Nat.le_trans h.hB hc.kb.size,?_,?_,?_,h.lnv,h.lss,k1,k2,k3,h.aNN,h.aNS,h.aNI,h.aSI,?_,h.cls,?_,ho,h.aAN,?_,?_,h.lo,h.n40,⟨h.lw.1,hl⟩,h.un,h.ord⟩,?_⟩
 ·exact hc.keepB h.hbg (ne_types h.hbg h.hbl (by decide)) (h.oC.ne h.hbg (by decide))
 ·exact hc.keepB h.hbn (ne_types h.hbn h.hbl (by decide)) (h.oC.ne h.hbn (by decide))
 ·rw[hc.blk];rfl
 ·exact hc.keepN h.oA (h.oA.ne h.hbl (by decide)) h.aAC.symm
 ·exact hc.keepN h.oN (h.oN.ne h.hbl (by decide)) h.aCN.symm
 ·exact(hc.apart' h.aAC.symm (fun g hg=>(h.oA.lt hg).2)).symm
 ·exact(hc.apart' h.aCN.symm (fun g hg=>(h.oN.lt hg).2)).symm
 ·refine foot_upd hc (mem_foot.2 (.inr (.inr (.inl rfl)))) (fun g hg=>mem_foot.2 (.inr (.inr (.inr (.inr (.inr (.inr (.inr (.inr hg))))))))) rfl rfl rfl (fun x hx=>?_);rcases mem_foot.1 hx with e|e|e|e|e|e|e|e|e
  ·exact .inl (mem_foot.2 (.inl e))
  ·exact .inl (mem_foot.2 (.inr (.inl e)))
  ·exact .inl (mem_foot.2 (.inr (.inr (.inl e))))
  ·exact .inl (mem_foot.2 (.inr (.inr (.inr (.inl e)))))
  ·exact .inl (mem_foot.2 (.inr (.inr (.inr (.inr (.inl e))))))
  ·exact .inl (mem_foot.2 (.inr (.inr (.inr (.inr (.inr (.inl e)))))))
  ·exact .inl (mem_foot.2 (.inr (.inr (.inr (.inr (.inr (.inr (.inl e))))))))
  ·exact .inl (mem_foot.2 (.inr (.inr (.inr (.inr (.inr (.inr (.inr (.inl e)))))))))
  ·exact .inr e
theorem GM.putU(h:GM w B c n G s)(hu:s.un+1<4611686018427387904):GM (w.setCell ⟨G.bg,9,none⟩ (.int .i64 ((s.un:Int)+1))) B c n G { s with un:=s.un+1 }∧GCh w (w.setCell ⟨G.bg,9,none⟩ (.int .i64 ((s.un:Int)+1))) G G:=by
 have hk:Kb [G.bg] w (w.setCell ⟨G.bg,9,none⟩ (.int .i64 ((s.un:Int)+1))):=(Kb.refl _ _).setCell (p:=⟨G.bg,9,none⟩) (.inl (by simp)) _;have nb:∀ {v:Value},v.ownBlock≠some G.bg→∀g∈[G.bg],v.ownBlock≠some g:=fun hv g hg=>by rw[List.mem_singleton.1 hg];exact hv
 refine⟨⟨Nat.le_trans h.hB hk.size,?_,hk.heap h.hbn ?_,hk.heap h.hbl ?_,h.lnv,h.lss,fun k v t hv ht=>(h.sN k v t hv ht).kb hk (nb ((h.sN k v t hv ht).ne h.hbg (by decide))),h.sS.kb hk (nb (h.sS.ne h.hbg (by decide))),h.sI.kb hk (nb (h.sI.ne h.hbg (by decide))),h.aNN,h.aNS,h.aNI,h.aSI,
  h.oA.kb hk (nb (h.oA.ne h.hbg (by decide))),h.cls,h.oN.kb hk (nb (h.oN.ne h.hbg (by decide))),h.oC.kb hk (nb (h.oC.ne h.hbg (by decide))),h.aAN,h.aAC,h.aCN,h.lo,h.n40,h.lw,hu,h.ord⟩,hk.mono (fun k _ hkm=>by rw[List.mem_singleton.1 hkm];exact mem_foot.2 (.inl rfl)),fun b hb=>.inl hb,rfl,rfl,rfl⟩
 ·rw[heap_set h.hbg];simp[gcells]
 ·simp;exact ne_types h.hbn h.hbg (by decide)
 ·simp;exact ne_types h.hbl h.hbg (by decide)
end
end Go.Proofs.YtiamlbhkiehilaaGreatDoor
