import Derived.Test.YtiamlbhkiehilaaGreatDoorKp04
namespace Go.Proofs.YtiamlbhkiehilaaGreatDoor
section
open Go.RowKit
variable {B:Nat} {c:Way} {n:Nat} {s:St}
def SortOK (B:Nat):Prop:=∀ (v:Value) (xs:List Nat) (w:World),OwnN w B v xs→xs.length≤40 →
  Calls Tryz.prog 155 #[v] w fun e w'=>e=.returned (.tuple #[])∧OwnN w' B v (xs.mergeSort (·≤·))∧Kb v.ownBlock.toList w w'
theorem run_append_zero (P:Program) (t ty e:TypeId) (i:TypeInfo) (ht:P.underlying t=some (.slice e)) (hi:P.info? e=some i) (b x:Option Addr) (l k k2:Nat) (hl:l≤k) (w:World) :
  (Builtin.append_ #[t,t] ty #[.slice b l k,.slice x 0 k2]).run P w=.ok (.slice b l k) w:=by
 unfold Builtin.append_
 cases b <;> cases x <;> simp [run_underlying ht,Builtin.lenOf,Builtin.firstCells,storeCells,loadCells,loadCellsFrom,hl,sizeOf,typeInfo,hi]
theorem step_append_zero {P:Program} (w:World) {ops:Array Oper} {o:Oper} {a:Act} {K:Act→World→Prop} {Q:Exit→Act→World→Prop} {E:Prop} (hgd:o.guard=none) (sl x:Operand) (t:TypeId)
  (ho:o.op=.call { callee:=.builtin .append,args:=#[sl,x],argTypes:=#[t,t] }) (v v2:Value) (hs:a.eval sl=v) (hx:a.eval x=v2) (hr:∀ ty,(Builtin.append_ #[t,t] ty #[v,v2]).run P w=.ok v w) (h:K (a.put o.dst v) w) :
  if Region.wanted o (yielded ops a.tmps)=true then Oper.wp P o a w K Q else E:=by
 have hw:Region.wanted o (yielded ops a.tmps)=true:=by simp [Region.wanted,hgd]
 rw [if_pos hw]
 unfold Oper.wp execOp
 simp only [ho,resolve,invoke,builtin,Sem.run_bind,Sem.run_pure,Result.andThen_ok,List.map_toArray,List.map_cons,List.map_nil,hs,hx,hr]
 exact h
theorem appCh2 {wr W w2:World} {b o g cp:Nat} {cs:Array Value} {T:TypeId} {vk:Value} {xs ys:List Nat} (hO:OwnN wr B vk xs) (hb:wr.heap[b]?=some (.cells cs T (0,0))) (hT:T≠TN) (hW:Kb [] wr W) (hg:W.grownBy w2 vk.ownBlock) (hbk:vk.ownBlock=some g∨g=W.heap.size)
  (hw2:w2.ownsRow B TN 1 (.slice (some ⟨g,0,none⟩) (xs.length+ys.length) cp) (xs.length+ys.length) (u64s xs ++ u64s ys)) (hy:∀ y∈ys,y < 18446744073709551616) :
  OwnN (w2.setCell ⟨b,o,none⟩ (.slice (some ⟨g,0,none⟩) (xs.length+ys.length) cp)) B (.slice (some ⟨g,0,none⟩) (xs.length+ys.length) cp) (xs ++ ys)∧SetCh wr (w2.setCell ⟨b,o,none⟩ (.slice (some ⟨g,0,none⟩) (xs.length+ys.length) cp)) b o cs T vk (.slice (some ⟨g,0,none⟩) (xs.length+ys.length) cp):=by
 have hne:=hO.ne hb hT
 have hgne:g≠b:=by
  rcases hbk with e | e
  ·intro e2
   subst e2
   exact hne e
  ·have h1:=lt_of_heap hb
   have h2:=hW.size
   omega
 have hcb:w2.heap[b]?=some (.cells cs T (0,0)):=(hg.block b (Nat.lt_of_lt_of_le (lt_of_heap hb) hW.size) (fun e=>hne e.symm)).trans (hW.heap hb (by simp))
 refine ⟨?_,?_,?_,?_⟩
 ·have hO2:OwnN w2 B (.slice (some ⟨g,0,none⟩) (xs.length+ys.length) cp) (xs ++ ys):=by
   refine ⟨?_,fun y hy2=>?_⟩
   ·have e1:u64s (xs ++ ys)=u64s xs ++ u64s ys:=by simp [u64s]
    rw [e1,List.length_append]
    exact hw2
   ·rcases List.mem_append.1 hy2 with h | h
    ·exact hO.2 y h
    ·exact hy y h
  exact hO2.kb ((Kb.refl [b] w2).setCell (p:=⟨b,o,none⟩) (.inl (by simp)) _) (by intro y hy2; rw [List.mem_singleton.1 hy2]; intro e; cases e; exact hgne rfl)
 ·rw [heap_set hcb]
 ·refine Kb.setCell ?_ (p:=⟨b,o,none⟩) (.inl (by simp)) _
  refine (hW.mono (by simp)).grown hg (fun y hy2=>.inl (by simp [hy2]))
 ·rcases hbk with e | e
  ·exact .inl e.symm
  ·exact .inr ⟨g,rfl,by rw [e]; exact hW.size⟩
theorem GM.noCome {w:World} {G:GV} (h:GM w B c n G s):GM (w.setCell ⟨G.bl,3,none⟩ (.slice none 0 0)) B c n { G with vc:=.slice none 0 0 } { s with come:=[] }∧GCh w (w.setCell ⟨G.bl,3,none⟩ (.slice none 0 0)) G { G with vc:=.slice none 0 0 }:=by
 have hk:Kb [G.bl] w (w.setCell ⟨G.bl,3,none⟩ (.slice none 0 0)):=(Kb.refl _ _).setCell (p:=⟨G.bl,3,none⟩) (.inl (by simp)) _
 have nb:∀ {v:Value},v.ownBlock≠some G.bl→∀ g∈[G.bl],v.ownBlock≠some g:=fun hv g hg=>by rw [List.mem_singleton.1 hg]; exact hv
 have na:∀ v:Value,Apart v (.slice none 0 0):=fun v g _ e=>by cases e
 refine ⟨⟨Nat.le_trans h.hB hk.size,hk.heap h.hbg ?_,hk.heap h.hbn ?_,?_,h.lnv,h.lss,fun k v t hv ht=>(h.sN k v t hv ht).kb hk (nb ((h.sN k v t hv ht).ne h.hbl (by decide))),h.sS.kb hk (nb (h.sS.ne h.hbl (by decide))),h.sI.kb hk (nb (h.sI.ne h.hbl (by decide))),h.aNN,h.aNS,h.aNI,h.aSI,
  h.oA.kb hk (nb (h.oA.ne h.hbl (by decide))),h.cls,h.oN.kb hk (nb (h.oN.ne h.hbl (by decide))),OwnN.nil _ _,h.aAN,na _,na _,h.lo,h.n40,⟨h.lw.1,by simp⟩,h.un,h.ord⟩,hk.mono (fun k _ hkm=>by rw [List.mem_singleton.1 hkm]; exact mem_foot.2 (.inr (.inr (.inl rfl)))),fun b hb=>.inl ?_,rfl,rfl,rfl⟩
 ·simp
  exact ne_types h.hbg h.hbl (by decide)
 ·simp
  exact ne_types h.hbn h.hbl (by decide)
 ·rw [heap_set h.hbl]
  rfl
 ·rcases mem_foot.1 hb with e | e | e | e | e | e | e | e | e
  ·exact mem_foot.2 (.inl e)
  ·exact mem_foot.2 (.inr (.inl e))
  ·exact mem_foot.2 (.inr (.inr (.inl e)))
  ·exact mem_foot.2 (.inr (.inr (.inr (.inl e))))
  ·exact mem_foot.2 (.inr (.inr (.inr (.inr (.inl e)))))
  ·exact mem_foot.2 (.inr (.inr (.inr (.inr (.inr (.inl e))))))
  ·exact mem_foot.2 (.inr (.inr (.inr (.inr (.inr (.inr (.inl e)))))))
  ·exact mem_foot.2 (.inr (.inr (.inr (.inr (.inr (.inr (.inr (.inl e))))))))
  ·cases e
set_option maxRecDepth 100000 in
set_option maxHeartbeats 4000000 in
theorem gletIn_any (hS:c.order=2→SortOK B) (w:World) (G:GV) (h:GM w B c n G s) (hln:s.now.length≤100) (hlc:s.come.length≤40) :
  Calls Tryz.prog 113 #[.pointer (some ⟨G.bl,0,none⟩)] w fun e w'=>e=.returned (.tuple #[])∧∃ G',GM w' B c n G' (s.letIn c.order)∧GCh w w' G G':=by
 obtain ⟨i0,hi,hz0,hz1,hz2⟩:=info_parts infoN
 obtain ⟨ord0,ord2⟩:=h.ord
 obtain ⟨an,cn,evn,hwn⟩:=h.oN.form
 obtain ⟨ac,cc,evc,hwc⟩:=h.oC.form
 have hb:=h.hbl
 have c0:w.cell? ⟨G.bl,0,none⟩=some (.int .i64 c.order):=by rw [cell_at hb]; rfl
 have c2:w.cell? ⟨G.bl,2,none⟩=some (.slice an s.now.length cn):=by rw [cell_at hb]; exact congrArg some evn
 have c3:w.cell? ⟨G.bl,3,none⟩=some (.slice ac s.come.length cc):=by rw [cell_at hb]; exact congrArg some evc
 have f2:w.frozen? ⟨G.bl,2,none⟩=false:=frozen_at hb 2
 have f3:w.frozen? ⟨G.bl,3,none⟩=false:=frozen_at hb 3
 obtain ⟨od,hod⟩:∃ od,od=c.order:=⟨_,rfl⟩
 rw [← hod] at c0
 have H:=hide h
 by_cases hret:od=2∧s.now≠[]
 ·have hl:0 < s.now.length:=List.length_pos_iff.2 hret.2
  have e1:s.letIn c.order=s:=by
   unfold St.letIn
   rw [if_pos]
   rw [← hod,hret.1]
   cases hn:s.now with
   | nil=>exact absurd hn hret.2
   | cons a r=>rfl
  have HF:Hid (GM w B c n G (s.letIn c.order)):=hide (by rw [e1]; exact h)
  obtain ⟨ho2,_⟩:=hret
  subst ho2
  clear h hb e1 hod
  go_enter Tryz.func113,Tryz.ntmps113
  go_wp2
  refine bodyPost_ret (results_none rfl _ _ _) rfl ?_
  exact ⟨rfl,_,HF.out,GCh.refl _ _⟩
 ·have HVC:=hide evc
  have HOD:=hide hod
  by_cases ho2:od=2
  ·have hnow:s.now=[]:=by
    by_cases e:s.now=[]
    ·exact e
    ·exact absurd ⟨ho2,e⟩ hret
   have hn0:s.now.length=0:=by rw [hnow]; rfl
   by_cases hce:s.come=[]
   ·have hl0:s.come.length=0:=by rw [hce]; rfl
    have hcap:s.now.length≤cn:=by
     have:=h.oN.1.2
     rw [evn] at this
     rcases this with ⟨e,h9⟩ | ⟨g',cap',cur,e,_,_,h1,_⟩
     ·injection e with _ _ e6; omega
     ·injection e with _ _ e6; omega
    have happ:∀ ty (W:World),(Builtin.append_ #[106,106] ty #[.slice an 0 cn,.slice ac 0 cc]).run Tryz.prog W=.ok (.slice an 0 cn) W:=fun ty W=>run_append_zero Tryz.prog _ ty _ i0 Tryz.underlying106 hi an ac _ _ cc (by omega) W
    have HVN2:Hid (G.vn=.slice an 0 cn):=hide (by rw [evn]; rw [hn0])
    have HG2:Hid (∀ W,SameW w W→GM (W.setCell ⟨G.bl,2,none⟩ (.slice an 0 cn)) B c n G { s with now:=s.now ++ s.come }∧GCh w (W.setCell ⟨G.bl,2,none⟩ (.slice an 0 cn)) G G):=by
     refine hide (fun W hW=>?_)
     have hg:=h.same hW
     have hk:SetCh W (W.setCell ⟨G.bl,2,none⟩ (.slice an 0 cn)) G.bl 2 (lcells c G) TL G.vn G.vn:=by
      refine ⟨?_,(Kb.refl _ _).setCell (p:=⟨G.bl,2,none⟩) (.inl (by simp)) _,.inl rfl⟩
      rw [heap_set hg.hbl,HVN2.out]
     have ho:OwnN (W.setCell ⟨G.bl,2,none⟩ (.slice an 0 cn)) B G.vn (s.now ++ s.come):=by
      rw [hce,List.append_nil]
      exact hg.oN.kb ((Kb.refl [G.bl] W).setCell (p:=⟨G.bl,2,none⟩) (.inl (by simp)) _) (by intro g hgm; rw [List.mem_singleton.1 hgm]; exact hg.oN.ne hg.hbl (by decide))
     obtain ⟨p1,p2⟩:=hg.putT hk ho (by rw [hce,List.append_nil]; omega)
     exact ⟨p1,(GCh.same hW G).trans p2⟩
    rw [hl0] at c3
    rw [hn0] at c2
    rw [ho2] at c0
    clear h hb hwn hwc evn evc hod
    go_enter Tryz.func113,Tryz.ntmps113
    have HAP:=hide happ
    clear happ
    go_wp2
    go_region_law (refine step_append_zero _ rfl (.tmp 19) (.tmp 23) 106 rfl _ _ (by simp [Act.eval]) (by simp [Act.eval]) (fun ty=>HAP.out ty _) ?_)
    all_goals
     have HG2':=HG2.out w.drew ⟨rfl,rfl,rfl,rfl⟩
     clear HG2
     have HG2:=hide HG2'
     clear HG2'
     rw [← hl0] at c3
     have hb2:=HG2.out.1.hbl
     have c3':(w.drew.setCell ⟨G.bl,2,none⟩ (.slice an 0 cn)).cell? ⟨G.bl,3,none⟩=some (.slice ac s.come.length cc):=by rw [cell_at hb2]; exact congrArg some HVC.out
     have f3':(w.drew.setCell ⟨G.bl,2,none⟩ (.slice an 0 cn)).frozen? ⟨G.bl,3,none⟩=false:=frozen_at hb2 3
     obtain ⟨g3,k3⟩:=HG2.out.1.noCome
     have hb3:=g3.hbl
     have c0'':((w.drew.setCell ⟨G.bl,2,none⟩ (.slice an 0 cn)).setCell ⟨G.bl,3,none⟩ (.slice none 0 0)).cell? ⟨G.bl,0,none⟩=some (.int .i64 od):=by rw [cell_at hb3,HOD.out]; rfl
     have HG3:=hide (And.intro g3 (HG2.out.2.trans k3))
     have e1:s.letIn c.order={ s with now:=(s.now ++ s.come).mergeSort (·≤·),come:=[] }:=by
      unfold St.letIn
      rw [← HOD.out,ho2,if_neg (by rw [hnow]; simp)]
      rfl
     have HE:=hide e1
     have cnow:((w.drew.setCell ⟨G.bl,2,none⟩ (.slice an 0 cn)).setCell ⟨G.bl,3,none⟩ (.slice none 0 0)).cell? ⟨G.bl,2,none⟩=some (.slice an 0 cn):=by rw [cell_at hb3]; exact congrArg some HVN2.out
     have HSt:=hS (by rw [← HOD.out,ho2]) _ (s.now ++ s.come) _ g3.oN (by rw [List.length_append]; omega)
     have evn2:=HVN2.out
     try dsimp only at evn2
     try dsimp only at HSt
     rw [evn2] at HSt
     have HO2:=hide ho2
     rw [ho2] at c0''
     clear g3 k3 hb3 hb2 e1 HOD evn2
     go_wp2_with fail
     refine HSt.mono ?_
     clear HSt
     rintro e w4 ⟨rfl,o4,k4⟩
     have HF:Hid (∃ G',GM w4 B c n G' (s.letIn c.order)∧GCh w w4 G G'):=by
      refine hide ?_
      have g3:=HG3.out.1
      have hb3:=g3.hbl
      have ho3:=g3.oN
      have evn2:G.vn=.slice an 0 cn:=HVN2.out
      replace k4:Kb G.vn.ownBlock.toList ((w.drew.setCell ⟨G.bl,2,none⟩ (.slice an 0 cn)).setCell ⟨G.bl,3,none⟩ (.slice none 0 0)) w4:=by rw [evn2]; exact k4
      replace o4:OwnN w4 B G.vn ((s.now ++ s.come).mergeSort (·≤·)):=by rw [evn2]; exact o4
      have hb4:=k4.heap hb3 (by simp; exact ho3.ne hb3 (by decide))
      obtain ⟨p1,p2⟩:=g3.putT (v':=_) ⟨by rw [hb4]; rfl,k4.mono (by intro k _ hk; simp at hk; simp [hk]),.inl rfl⟩ o4 (by rw [List.length_mergeSort,List.length_append]; omega)
      rw [HE.out]
      exact ⟨_,p1,HG3.out.2.trans p2⟩
     clear o4 k4
     go_wp2
     go_end0
     exact ⟨rfl,HF.out⟩
   ·have hlp:0 < s.come.length:=List.length_pos_iff.2 hce
    obtain ⟨gc,rfl⟩:∃ gc,ac=some ⟨gc,0,none⟩:=by
     obtain ⟨g,e,_⟩:=hwc 0 (s.come[0]'hlp) (List.getElem?_eq_getElem hlp)
     exact ⟨g,e⟩
    have HVN2:Hid (G.vn=.slice an 0 cn):=hide (by rw [evn]; rw [hn0])
    have HRow:Hid (∀ W,SameW w W→W.ownsRow B 144 1 (.slice an 0 cn) 0 (u64s s.now)):=by
     refine hide (fun W hW=>?_)
     have:=(h.same hW).oN.1
     rw [HVN2.out,hn0] at this
     exact this
    have HNews:Hid (∀ W,SameW w W→∀ j u,(u64s s.come)[j]?=some u→W.cell? ((⟨gc,0,none⟩:Addr).add j)=some u):=by
     refine hide (fun W hW j u hu=>?_)
     have hadd:(⟨gc,0,none⟩:Addr).add j=⟨gc,j,none⟩:=by unfold Addr.add; split <;> simp_all
     have hj:=(List.getElem?_eq_some_iff.1 hu).1
     rw [u64s_len] at hj
     obtain ⟨x,hx⟩:∃ x,s.come[j]?=some x:=⟨_,List.getElem?_eq_getElem hj⟩
     obtain ⟨g,e,hg,_⟩:=hwc j x hx
     cases e
     rw [u64s_get hx] at hu
     cases hu
     rw [hadd]
     unfold World.cell? at hg ⊢
     rw [hW.1]
     exact hg
    have HLt:Hid (G.bl < w.heap.size):=hide (lt_of_heap hb)
    have HNb:Hid ((Value.slice an 0 cn).ownBlock≠some G.bl):=hide (by have:=h.oN.ne hb (by decide); rw [HVN2.out] at this; exact this)
    have HBl:Hid (w.heap[G.bl]?=some (.cells (lcells c G) TL (0,0))):=hide hb
    have hBw:=h.hB
    have hc64:=h.oC.2
    rw [hn0] at c2
    rw [ho2] at c0
    clear h hb hwn hwc evn evc hod
    go_enter Tryz.func113,Tryz.ntmps113
    go_wp2
    go_region_law (refine step_append_lies w.drew rfl (.tmp 19) (.tmp 23) 106 rfl B 144 i0 (.int .u64 0) 1 8 Tryz.underlying106 hi hz0 hz1 hz2 rfl (by decide) (.slice an 0 cn) 0 (u64s s.now) (by simp [Act.eval]) (HRow.out w.drew ⟨rfl,rfl,rfl,rfl⟩) ⟨gc,0,none⟩ s.come.length cc (u64s s.come) (by simp [Act.eval]) (by rw [u64s_len,Nat.mul_one]) (HNews.out w.drew ⟨rfl,rfl,rfl,rfl⟩) (by intro u hu; obtain ⟨x,_,rfl⟩:=List.mem_map.1 hu; rfl) hlp (by unfold maxLen; omega) (by omega) hBw _ rfl ?_; intro g cp w2 hw2 hg hbk hgl; have hcb:w2.heap[G.bl]?=some (.cells (lcells c G) TL (0,0)):=(hg.block G.bl HLt.out (fun e=>HNb.out e.symm)).trans HBl.out; have hc2:w2.cell? ⟨G.bl,2,none⟩=some (.slice an 0 cn):=(cell_at hcb 2).trans (congrArg some HVN2.out); have hf2:w2.frozen? ⟨G.bl,2,none⟩=false:=frozen_at hcb 2)
    all_goals
     have HG2:Hid (GM (w2.setCell ⟨G.bl,2,none⟩ (.slice (some ⟨g,0,none⟩) s.come.length cp)) B c n { G with vn:=.slice (some ⟨g,0,none⟩) s.come.length cp } { s with now:=s.now ++ s.come }∧GCh w (w2.setCell ⟨G.bl,2,none⟩ (.slice (some ⟨g,0,none⟩) s.come.length cp)) G { G with vn:=.slice (some ⟨g,0,none⟩) s.come.length cp }):=by
      refine hide ?_
      have hX:=appCh2 (o:=2) (cp:=cp) (g:=g) (ys:=s.come) H.out.oN HBl.out (by decide) (W:=w.drew) (SameW.kb (w:=w) (W:=w.drew) ⟨rfl,rfl,rfl,rfl⟩ []) (by rw [HVN2.out]; exact hg) (by rw [HVN2.out]; exact hbk) (by first | exact hw2 | (rw [hn0,Nat.zero_add]; rw [Nat.zero_add] at hw2; exact hw2)) hc64
      rw [hn0,Nat.zero_add] at hX
      obtain ⟨p1,p2⟩:=H.out.putT hX.2 hX.1 (by rw [List.length_append]; omega)
      exact ⟨p1,p2⟩
     have HVN2x:Hid (({ G with vn:=.slice (some ⟨g,0,none⟩) s.come.length cp }:GV).vn=.slice (some ⟨g,0,none⟩) s.come.length cp):=hide rfl
     clear HVN2
     have HVN2:=HVN2x
     clear HVN2x hw2 hg hbk hgl HRow HNews
     have hb2:=HG2.out.1.hbl
     have c3':(w2.setCell ⟨G.bl,2,none⟩ (.slice (some ⟨g,0,none⟩) s.come.length cp)).cell? ⟨G.bl,3,none⟩=some (.slice (some ⟨gc,0,none⟩) s.come.length cc):=by rw [cell_at hb2]; exact congrArg some HVC.out
     have f3':(w2.setCell ⟨G.bl,2,none⟩ (.slice (some ⟨g,0,none⟩) s.come.length cp)).frozen? ⟨G.bl,3,none⟩=false:=frozen_at hb2 3
     obtain ⟨g3,k3⟩:=HG2.out.1.noCome
     have hb3:=g3.hbl
     have c0'':((w2.setCell ⟨G.bl,2,none⟩ (.slice (some ⟨g,0,none⟩) s.come.length cp)).setCell ⟨G.bl,3,none⟩ (.slice none 0 0)).cell? ⟨G.bl,0,none⟩=some (.int .i64 od):=by rw [cell_at hb3,HOD.out]; rfl
     have HG3:=hide (And.intro g3 (HG2.out.2.trans k3))
     have e1:s.letIn c.order={ s with now:=(s.now ++ s.come).mergeSort (·≤·),come:=[] }:=by
      unfold St.letIn
      rw [← HOD.out,ho2,if_neg (by rw [hnow]; simp)]
      rfl
     have HE:=hide e1
     have cnow:((w2.setCell ⟨G.bl,2,none⟩ (.slice (some ⟨g,0,none⟩) s.come.length cp)).setCell ⟨G.bl,3,none⟩ (.slice none 0 0)).cell? ⟨G.bl,2,none⟩=some (.slice (some ⟨g,0,none⟩) s.come.length cp):=by rw [cell_at hb3]; exact congrArg some HVN2.out
     have HSt:=hS (by rw [← HOD.out,ho2]) _ (s.now ++ s.come) _ g3.oN (by rw [List.length_append]; omega)
     have evn2:=HVN2.out
     try dsimp only at evn2
     try dsimp only at HSt
     rw [evn2] at HSt
     have HO2:=hide ho2
     rw [ho2] at c0''
     clear g3 k3 hb3 hb2 e1 HOD evn2
     go_wp2_with fail
     refine HSt.mono ?_
     clear HSt
     rintro e w4 ⟨rfl,o4,k4⟩
     have HF:Hid (∃ G',GM w4 B c n G' (s.letIn c.order)∧GCh w w4 G G'):=by
      refine hide ?_
      have g3:=HG3.out.1
      have hb3:=g3.hbl
      have ho3:=g3.oN
      have hb4:=k4.heap hb3 (by simp; exact ho3.ne hb3 (by decide))
      obtain ⟨p1,p2⟩:=g3.putT (v':=_) ⟨by rw [hb4]; rfl,k4.mono (by intro k _ hk; simp at hk; simp [hk]),.inl rfl⟩ o4 (by rw [List.length_mergeSort,List.length_append]; omega)
      rw [HE.out]
      exact ⟨_,p1,HG3.out.2.trans p2⟩
     clear o4 k4
     go_wp2
     go_end0
     exact ⟨rfl,HF.out⟩
  · -- no phases
   by_cases hce:s.come=[]
   ·have hl0:s.come.length=0:=by rw [hce]; rfl
    have hcap:s.now.length≤cn:=by
     have:=h.oN.1.2
     rw [evn] at this
     rcases this with ⟨e,h9⟩ | ⟨g',cap',cur,e,_,_,h1,_⟩
     ·injection e with _ _ e6; omega
     ·injection e with _ _ e6; omega
    have happ:∀ ty (W:World),(Builtin.append_ #[106,106] ty #[.slice an s.now.length cn,.slice ac 0 cc]).run Tryz.prog W=.ok (.slice an s.now.length cn) W:=fun ty W=>run_append_zero Tryz.prog _ ty _ i0 Tryz.underlying106 hi an ac _ _ cc (by omega) W
    have HVN2:Hid (G.vn=.slice an s.now.length cn):=hide (by rw [evn])
    have HG2:Hid (∀ W,SameW w W→GM (W.setCell ⟨G.bl,2,none⟩ (.slice an s.now.length cn)) B c n G { s with now:=s.now ++ s.come }∧GCh w (W.setCell ⟨G.bl,2,none⟩ (.slice an s.now.length cn)) G G):=by
     refine hide (fun W hW=>?_)
     have hg:=h.same hW
     have hk:SetCh W (W.setCell ⟨G.bl,2,none⟩ (.slice an s.now.length cn)) G.bl 2 (lcells c G) TL G.vn G.vn:=by
      refine ⟨?_,(Kb.refl _ _).setCell (p:=⟨G.bl,2,none⟩) (.inl (by simp)) _,.inl rfl⟩
      rw [heap_set hg.hbl,HVN2.out]
     have ho:OwnN (W.setCell ⟨G.bl,2,none⟩ (.slice an s.now.length cn)) B G.vn (s.now ++ s.come):=by
      rw [hce,List.append_nil]
      exact hg.oN.kb ((Kb.refl [G.bl] W).setCell (p:=⟨G.bl,2,none⟩) (.inl (by simp)) _) (by intro g hgm; rw [List.mem_singleton.1 hgm]; exact hg.oN.ne hg.hbl (by decide))
     obtain ⟨p1,p2⟩:=hg.putT hk ho (by rw [hce,List.append_nil]; omega)
     exact ⟨p1,(GCh.same hW G).trans p2⟩
    rw [hl0] at c3
    clear h hb hwn hwc evn evc hod
    go_enter Tryz.func113,Tryz.ntmps113
    have HAP:=hide happ
    clear happ
    go_wp2
    go_region_law (refine step_append_zero _ rfl (.tmp 19) (.tmp 23) 106 rfl _ _ (by simp [Act.eval]) (by simp [Act.eval]) (fun ty=>HAP.out ty _) ?_)
    all_goals
     have HG2':=HG2.out w.drew ⟨rfl,rfl,rfl,rfl⟩
     clear HG2
     have HG2:=hide HG2'
     clear HG2'
     rw [← hl0] at c3
     have hb2:=HG2.out.1.hbl
     have c3':(w.drew.setCell ⟨G.bl,2,none⟩ (.slice an s.now.length cn)).cell? ⟨G.bl,3,none⟩=some (.slice ac s.come.length cc):=by rw [cell_at hb2]; exact congrArg some HVC.out
     have f3':(w.drew.setCell ⟨G.bl,2,none⟩ (.slice an s.now.length cn)).frozen? ⟨G.bl,3,none⟩=false:=frozen_at hb2 3
     obtain ⟨g3,k3⟩:=HG2.out.1.noCome
     have hb3:=g3.hbl
     have c0'':((w.drew.setCell ⟨G.bl,2,none⟩ (.slice an s.now.length cn)).setCell ⟨G.bl,3,none⟩ (.slice none 0 0)).cell? ⟨G.bl,0,none⟩=some (.int .i64 od):=by rw [cell_at hb3,HOD.out]; rfl
     have HG3:=hide (And.intro g3 (HG2.out.2.trans k3))
     have e1:s.letIn c.order={ s with now:=s.now ++ s.come,come:=[] }:=by
      unfold St.letIn
      rw [← HOD.out,if_neg (by simp [ho2]),if_neg (by simp [ho2])]
     have HF:Hid (∃ G',GM ((w.drew.setCell ⟨G.bl,2,none⟩ (.slice an s.now.length cn)).setCell ⟨G.bl,3,none⟩ (.slice none 0 0)) B c n G' (s.letIn c.order)∧GCh w ((w.drew.setCell ⟨G.bl,2,none⟩ (.slice an s.now.length cn)).setCell ⟨G.bl,3,none⟩ (.slice none 0 0)) G G'):=hide (by rw [e1]; exact ⟨_,HG3.out.1,HG3.out.2⟩)
     clear g3 k3 hb3 hb2 e1 HOD
     go_wp2
     go_end0
     exact ⟨rfl,HF.out⟩
   ·have hlp:0 < s.come.length:=List.length_pos_iff.2 hce
    obtain ⟨gc,rfl⟩:∃ gc,ac=some ⟨gc,0,none⟩:=by
     obtain ⟨g,e,_⟩:=hwc 0 (s.come[0]'hlp) (List.getElem?_eq_getElem hlp)
     exact ⟨g,e⟩
    have HVN2:Hid (G.vn=.slice an s.now.length cn):=hide (by rw [evn])
    have HRow:Hid (∀ W,SameW w W→W.ownsRow B 144 1 (.slice an s.now.length cn) s.now.length (u64s s.now)):=by
     refine hide (fun W hW=>?_)
     have:=(h.same hW).oN.1
     rw [HVN2.out] at this
     exact this
    have HNews:Hid (∀ W,SameW w W→∀ j u,(u64s s.come)[j]?=some u→W.cell? ((⟨gc,0,none⟩:Addr).add j)=some u):=by
     refine hide (fun W hW j u hu=>?_)
     have hadd:(⟨gc,0,none⟩:Addr).add j=⟨gc,j,none⟩:=by unfold Addr.add; split <;> simp_all
     have hj:=(List.getElem?_eq_some_iff.1 hu).1
     rw [u64s_len] at hj
     obtain ⟨x,hx⟩:∃ x,s.come[j]?=some x:=⟨_,List.getElem?_eq_getElem hj⟩
     obtain ⟨g,e,hg,_⟩:=hwc j x hx
     cases e
     rw [u64s_get hx] at hu
     cases hu
     rw [hadd]
     unfold World.cell? at hg ⊢
     rw [hW.1]
     exact hg
    have HLt:Hid (G.bl < w.heap.size):=hide (lt_of_heap hb)
    have HNb:Hid ((Value.slice an s.now.length cn).ownBlock≠some G.bl):=hide (by have:=h.oN.ne hb (by decide); rw [HVN2.out] at this; exact this)
    have HBl:Hid (w.heap[G.bl]?=some (.cells (lcells c G) TL (0,0))):=hide hb
    have hBw:=h.hB
    have hc64:=h.oC.2
    clear h hb hwn hwc evn evc hod
    go_enter Tryz.func113,Tryz.ntmps113
    go_wp2
    go_region_law (refine step_append_lies w.drew rfl (.tmp 19) (.tmp 23) 106 rfl B 144 i0 (.int .u64 0) 1 8 Tryz.underlying106 hi hz0 hz1 hz2 rfl (by decide) (.slice an s.now.length cn) s.now.length (u64s s.now) (by simp [Act.eval]) (HRow.out w.drew ⟨rfl,rfl,rfl,rfl⟩) ⟨gc,0,none⟩ s.come.length cc (u64s s.come) (by simp [Act.eval]) (by rw [u64s_len,Nat.mul_one]) (HNews.out w.drew ⟨rfl,rfl,rfl,rfl⟩) (by intro u hu; obtain ⟨x,_,rfl⟩:=List.mem_map.1 hu; rfl) hlp (by unfold maxLen; omega) (by omega) hBw _ rfl ?_; intro g cp w2 hw2 hg hbk hgl; have hcb:w2.heap[G.bl]?=some (.cells (lcells c G) TL (0,0)):=(hg.block G.bl HLt.out (fun e=>HNb.out e.symm)).trans HBl.out; have hc2:w2.cell? ⟨G.bl,2,none⟩=some (.slice an s.now.length cn):=(cell_at hcb 2).trans (congrArg some HVN2.out); have hf2:w2.frozen? ⟨G.bl,2,none⟩=false:=frozen_at hcb 2)
    all_goals
     have HG2:Hid (GM (w2.setCell ⟨G.bl,2,none⟩ (.slice (some ⟨g,0,none⟩) (s.now.length+s.come.length) cp)) B c n { G with vn:=.slice (some ⟨g,0,none⟩) (s.now.length+s.come.length) cp } { s with now:=s.now ++ s.come }∧GCh w (w2.setCell ⟨G.bl,2,none⟩ (.slice (some ⟨g,0,none⟩) (s.now.length+s.come.length) cp)) G { G with vn:=.slice (some ⟨g,0,none⟩) (s.now.length+s.come.length) cp }):=by
      refine hide ?_
      have hX:=appCh2 (o:=2) (cp:=cp) (g:=g) (ys:=s.come) H.out.oN HBl.out (by decide) (W:=w.drew) (SameW.kb (w:=w) (W:=w.drew) ⟨rfl,rfl,rfl,rfl⟩ []) (by rw [HVN2.out]; exact hg) (by rw [HVN2.out]; exact hbk) (by first | exact hw2 | (rw [hn0,Nat.zero_add]; rw [Nat.zero_add] at hw2; exact hw2)) hc64
      obtain ⟨p1,p2⟩:=H.out.putT hX.2 hX.1 (by rw [List.length_append]; omega)
      exact ⟨p1,p2⟩
     have HVN2x:Hid (({ G with vn:=.slice (some ⟨g,0,none⟩) (s.now.length+s.come.length) cp }:GV).vn=.slice (some ⟨g,0,none⟩) (s.now.length+s.come.length) cp):=hide rfl
     clear HVN2
     have HVN2:=HVN2x
     clear HVN2x hw2 hg hbk hgl HRow HNews
     have hb2:=HG2.out.1.hbl
     have c3':(w2.setCell ⟨G.bl,2,none⟩ (.slice (some ⟨g,0,none⟩) (s.now.length+s.come.length) cp)).cell? ⟨G.bl,3,none⟩=some (.slice (some ⟨gc,0,none⟩) s.come.length cc):=by rw [cell_at hb2]; exact congrArg some HVC.out
     have f3':(w2.setCell ⟨G.bl,2,none⟩ (.slice (some ⟨g,0,none⟩) (s.now.length+s.come.length) cp)).frozen? ⟨G.bl,3,none⟩=false:=frozen_at hb2 3
     obtain ⟨g3,k3⟩:=HG2.out.1.noCome
     have hb3:=g3.hbl
     have c0'':((w2.setCell ⟨G.bl,2,none⟩ (.slice (some ⟨g,0,none⟩) (s.now.length+s.come.length) cp)).setCell ⟨G.bl,3,none⟩ (.slice none 0 0)).cell? ⟨G.bl,0,none⟩=some (.int .i64 od):=by rw [cell_at hb3,HOD.out]; rfl
     have HG3:=hide (And.intro g3 (HG2.out.2.trans k3))
     have e1:s.letIn c.order={ s with now:=s.now ++ s.come,come:=[] }:=by
      unfold St.letIn
      rw [← HOD.out,if_neg (by simp [ho2]),if_neg (by simp [ho2])]
     have HF:Hid (∃ G',GM ((w2.setCell ⟨G.bl,2,none⟩ (.slice (some ⟨g,0,none⟩) (s.now.length+s.come.length) cp)).setCell ⟨G.bl,3,none⟩ (.slice none 0 0)) B c n G' (s.letIn c.order)∧GCh w ((w2.setCell ⟨G.bl,2,none⟩ (.slice (some ⟨g,0,none⟩) (s.now.length+s.come.length) cp)).setCell ⟨G.bl,3,none⟩ (.slice none 0 0)) G G'):=hide (by rw [e1]; exact ⟨_,HG3.out.1,HG3.out.2⟩)
     clear g3 k3 hb3 hb2 e1 HOD
     go_wp2
     go_end0
     exact ⟨rfl,HF.out⟩
end
end Go.Proofs.YtiamlbhkiehilaaGreatDoor
