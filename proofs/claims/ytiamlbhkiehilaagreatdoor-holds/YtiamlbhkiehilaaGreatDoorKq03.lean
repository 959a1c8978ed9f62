import Derived.Test.YtiamlbhkiehilaaGreatDoorKq00
import Derived.Test.YtiamlbhkiehilaaGreatDoorKq02
import Derived.Deep.RegionWith
namespace Go.Proofs.YtiamlbhkiehilaaGreatDoor
section
structure WF(n:Nat)(s:St):Prop where
 hn:n≤40
 len:s.ss.length=7*n
 nd:(s.now++s.come).Nodup
 ins:∀x,x∈s.now++s.come→x∈s.inside
 inb:∀x,x∈s.inside→x<n
 bd:∀k x,x∈s.ss.getD k []→x<n
 sus:∀x,x∈s.susp→x<n
 rep:∀i,s.rep i≤i
variable {n:Nat} {s:St}
theorem WF.lt(h:WF n s){i:Nat}(hi:i<n):s.rep i<n:=Nat.lt_of_le_of_lt (h.rep i) hi
theorem nodup_len:∀(m:Nat) (l:List Nat),l.Nodup→(∀x,x∈l→x<m)→l.length≤m:=by
 intro m;induction m with
 |zero=>
  intro l _ h;cases l with
  |nil=>simp
  |cons a r=>exact absurd (h a List.mem_cons_self) (by omega)
 |succ m ih=>
  intro l hn h;have h1:=ih (l.filter (· != m)) (hn.filter _) (fun x hx=>by
   obtain⟨h1,h2⟩:=List.mem_filter.1 hx;have:=h x h1;simp at h2;omega)
  have h2:l.length≤(l.filter (· != m)).length+1:=by
   clear ih h h1;induction l with
   |nil=>simp
   |cons a r ih=>
    have hr:=List.nodup_cons.1 hn;by_cases e:a=m
    ·subst e;have:r.filter (· != a)=r:=by
      rw[List.filter_eq_self];intro x hx;simp;exact fun e2=>hr.1 (e2 ▸ hx)
     simp[this]
    ·have:=ih hr.2;simp[e];omega
  omega
theorem WF.lens(h:WF n s):s.now.length≤40∧s.come.length≤40:=by
 have:=nodup_len n _ h.nd (fun x hx=>h.inb x (h.ins x hx));have:=h.hn;rw[List.length_append]at *;omega
theorem WF.put(h:WF n s){k:Nat}{t:List Nat}(hk:k<7*n)(ht:∀x,x∈t→x<n):WF n (s.put k t):=by
 refine⟨h.hn,by rw[St.put_len];exact h.len,h.nd,h.ins,h.inb,fun j x hx=>?_,h.sus,h.rep⟩;rw[St.put_get (by rw[h.len];exact hk)]at hx;split at hx
 ·exact ht x hx
 ·exact h.bd j x hx
theorem WF.un(h:WF n s)(u:Nat):WF n { s with un:=u }:=⟨h.hn,h.len,h.nd,h.ins,h.inb,h.bd,h.sus,h.rep⟩
theorem WF.susp(h:WF n s){t:List Nat}(ht:∀x,x∈t→x<n):WF n { s with susp:=t }:=⟨h.hn,h.len,h.nd,h.ins,h.inb,h.bd,ht,h.rep⟩
theorem WF.wait(h:WF n s){m:Nat}(hm:m<n):WF n (s.wait m):=by
 have hn:=h.hn;unfold St.wait;split
 ·exact h
 ·rename_i hc;have hc:¬m∈s.inside:=by simpa using hc
  refine⟨h.hn,h.len,?_,?_,?_,h.bd,h.sus,h.rep⟩
  ·show(s.now++(s.come++[m])).Nodup;rw[← List.append_assoc];rw[List.nodup_append];refine⟨h.nd,by simp,?_⟩;intro a ha b hb e;rw[List.mem_singleton.1 hb]at e;subst e;exact hc (h.ins a ha)
  ·intro x hx;have hx:x∈s.now++(s.come++[m]):=hx;rw[← List.append_assoc]at hx;rcases List.mem_append.1 hx with hx|hx
   ·have:=h.ins x hx;have:=h.inb x this;exact mem_addS.2 ⟨by omega,.inr (h.ins x hx)⟩
   ·rw[List.mem_singleton.1 hx];exact mem_addS.2 ⟨by omega,.inl rfl⟩
  ·intro x hx;rcases(mem_addS.1 hx).2 with rfl|hx
   ·exact hm
   ·exact h.inb x hx
theorem WF.drop(h:WF n s)(m:Nat):WF n (s.drop m):=by
 have hn:=h.hn;refine⟨h.hn,h.len,?_,?_,?_,h.bd,h.sus,h.rep⟩
 ·show(s.now.filter (· != m)++s.come.filter (· != m)).Nodup;rw[← List.filter_append];exact h.nd.filter _
 ·intro x hx;have hx:x∈s.now.filter (· != m)++s.come.filter (· != m):=hx;rw[← List.filter_append]at hx;obtain⟨h1,h2⟩:=List.mem_filter.1 hx;have:=h.inb x (h.ins x h1);exact mem_delS.2 ⟨by omega,by simpa using h2,h.ins x h1⟩
 ·intro x hx;exact h.inb x (mem_delS.1 hx).2.2
theorem WF.suspect(h:WF n s){f j:Nat}(hf:f<n)(hj:j<n):WF n (s.suspect f j):=by
 unfold St.suspect;split
 ·refine(h.put (k:=7*f+6) (by omega) ?_).susp ?_
  ·intro x hx;rcases(mem_addS.1 hx).2 with rfl|hx
   ·exact hj
   ·exact h.bd _ x hx
  ·intro x hx;rcases(mem_addS.1 hx).2 with rfl|hx
   ·exact hf
   ·exact h.sus x hx
 ·exact h
theorem WF.hand(h:WF n s){c:Way}{T:List Nat}{f j:Nat}(hf:f<n)(hj:j<n)(hT:∀x,x∈T→x<n):WF n (s.hand c T f j):=by
 have h1:WF n (({ s with un:=s.un+1 }:St).put (7*j) (uniS (s.tg j) T)):=by
  refine(h.un _).put (by omega) ?_
  intro x hx;rcases(mem_uniS.1 hx).2 with hx|hx
  ·exact h.bd _ x hx
  ·exact hT x hx
 unfold St.hand;simp only[];split
 ·exact h1.wait hj
 ·split
  ·exact h1.suspect hf hj
  ·exact h1
theorem St.suspect_un(s:St)(f j:Nat):(s.suspect f j).un=s.un:=by unfold St.suspect;split<;>rfl
theorem St.hand_un(s:St)(c:Way)(T:List Nat)(f j:Nat):(s.hand c T f j).un=s.un+1:=by
 unfold St.hand;simp only[];split
 ·rw[St.wait_un];rfl
 ·split
  ·rw[St.suspect_un];rfl
  ·rfl
theorem WF.link(h:WF n s){c:Way}{f j:Nat}(hf:f<n)(hj:j<n):WF n (s.link c f j):=by
 have hf':=h.lt hf;have hj':=h.lt hj;unfold St.link;simp only[];split
 ·exact h
 ·have h1:WF n (s.addAt (7*s.rep f+2) (s.rep j)):=by
   refine h.put (by omega) ?_
   intro x hx;rcases(mem_addS.1 hx).2 with rfl|hx
   ·exact hj'
   ·exact h.bd _ x hx
  generalize s.addAt (7*s.rep f+2) (s.rep j)=s1 at *;have hb:∀x,x∈(if c.deltas=true then s1.hd (s.rep f)else s1.tg (s.rep f))→x<n:=by
   intro x hx;split at hx<;>exact h1.bd _ x hx
  generalize (if c.deltas=true then s1.hd (s.rep f)else s1.tg (s.rep f))=T at *;split
  ·exact h1
  ·exact h1.hand hf' hj' hb
theorem St.link_un(s:St)(c:Way)(f j:Nat):(s.link c f j).un≤s.un+1:=by
 unfold St.link;simp only[];split
 ·omega
 ·generalize (if c.deltas=true then(s.addAt (7*s.rep f+2) (s.rep j)).hd (s.rep f)else(s.addAt (7*s.rep f+2) (s.rep j)).tg (s.rep f))=T;split
  ·show s.un≤_;omega
  ·rw[St.hand_un];show s.un+1≤_;omega
theorem WF.fuse(h:WF n s){i j:Nat}(hi:i<n)(hj:j<n)(hij:i<j):WF n (s.fuse i j):=by
 obtain⟨f1,f2,f3,f4,f5,f6,f7,f8⟩:=St.fuse_sum (s:=s) h.len hi hj (by omega);refine⟨h.hn,f1,by rw[f5,f6];exact h.nd,by rw[f4,f5,f6];exact h.ins,by rw[f4];exact h.inb,fun k x hx=>?_,by rw[f7];exact h.sus,fun m=>?_⟩
 ·have hk:k=7*(k / 7)+k % 7:=(Nat.div_add_mod k 7).symm;rw[hk,f2 _ _ (Nat.mod_lt _ (by omega))]at hx;split at hx
  ·unfold comb at hx;split at hx
   ·exact h.bd _ x (mem_meetS.1 hx).2.1
   ·rcases(mem_uniS.1 hx).2 with hx|hx<;>exact h.bd _ x hx
  ·exact h.bd _ x hx
 ·rw[f3];have:=h.rep m;by_cases e:s.rep m=j
  ·simp[e];omega
  ·simp[e];omega
theorem WF.clear(h:WF n s){j:Nat}(hj:j<n):WF n (s.clear j):=by
 have key:∀m,m≤7→WF n ((List.range m).foldl (fun s k=>s.put (7*j+k) []) ({ s with un:=s.un+1 }:St)):=by
  intro m;induction m with
  |zero=>intro _;exact h.un _
  |succ m ih=>
   intro hm;rw[List.range_succ,List.foldl_append];exact(ih (by omega)).put (by omega) (by simp)
 exact(key 7 (by omega)).drop j
theorem WF.merge(h:WF n s){a b:Nat}(ha:a<n)(hb:b<n):WF n (s.merge a b).2:=by
 have ha':=h.lt ha;have hb':=h.lt hb;unfold St.merge;split
 ·exact h
 ·rename_i hc;have hne:s.rep a≠s.rep b:=by simpa using hc
  exact((h.fuse (by omega) (by omega) (by omega)).wait (by omega)).clear (by omega)
theorem St.merge_un(s:St)(hl:s.ss.length=7*n){a b:Nat}(ha:s.rep a<n)(hb:s.rep b<n):(s.merge a b).2.un≤s.un+1:=by
 unfold St.merge;split
 ·show s.un≤_;omega
 ·rename_i hc;have hne:s.rep a≠s.rep b:=by simpa using hc
  obtain⟨f1,f2,f3,f4,f5,f6,f7,f8⟩:=St.fuse_sum (s:=s) (i:=min (s.rep a) (s.rep b)) (j:=max (s.rep a) (s.rep b)) hl (by omega) (by omega) (by omega);obtain⟨_,_,_,_,_,_,_,c8⟩:=St.clear_sum (s:=(s.fuse (min (s.rep a) (s.rep b)) (max (s.rep a) (s.rep b))).wait (min (s.rep a) (s.rep b))) (n:=n) (j:=max (s.rep a) (s.rep b)) (by rw[St.wait_ss];exact f1) (by omega);show(St.clear _ _).un≤_;rw[c8,St.wait_un,f8];omega
end
section
open Go.RowKit
variable {B:Nat} {c:Way} {n:Nat} {s:St}
theorem gof_any(m:Nat)(w:World)(G:GV)(h:GM w B c n G s)(hm:m<128) :
  Calls Tryz.prog 93 #[.pointer (some ⟨G.bg,6,none⟩),.int .u64 m] w fun e w'=>e=.returned (.int .u64 (s.rep m))∧∃G',GM w' B c n G' s∧GCh w w' G G':=by
 refine(of_any B G.bg 6 (gcells c n G s.un) TG G.va G.ab s.rep m w h.hB (by decide) h.hbg rfl h.oA h.cls hm).mono ?_
 rintro e w' ⟨rfl,v',ab',_,_,hI⟩;obtain⟨h1,h2⟩:=h.putA hI;exact⟨rfl,_,h1,h2⟩
theorem SetV.canon{w:World}{v:Value}{t:List Nat}(h:SetV w B v t):t=mkS (t.contains ·):=by
 obtain⟨ws,_,_,rfl⟩:=h;refine mkS_congr fun k hk=>?_
 rw[mkS_contains hk]
theorem addS_self{t:List Nat}{m:Nat}(ht:t=mkS (t.contains ·))(hm:t.contains m=true):addS m t=t:=by
 unfold addS;conv=>rhs;rw[ht]
 refine mkS_congr fun k _=>?_
 by_cases e:k=m
 ·subst e;rw[hm];simp
 ·simp[e]
set_option maxRecDepth 100000 in
theorem gwait_any(m:Nat)(w:World)(G:GV)(h:GM w B c n G s)(hw:WF n s)(hm:m<n) :
  Calls Tryz.prog 88 #[.pointer (some ⟨G.bl,0,none⟩),.int .u64 m] w fun e w'=>e=.returned (.tuple #[])∧∃G',GM w' B c n G' (s.wait m)∧GCh w w' G G':=by
 obtain⟨i0,hi,hz0,hz1,hz2⟩:=info_parts infoN;have hn:=h.n40;have HA:=sadd_any B G.bl 1 (lcells c G) TL G.vi s.inside m w h.hB (by decide) h.hbl rfl h.sI (by omega);have H:=hide h;have hlen:=hw.lens;clear h hw;go_enter Tryz.func88,Tryz.ntmps88
 go_wp2_with fail
 refine HA.mono ?_
 clear HA;rintro e w1 ⟨rfl,v',hS,hC⟩;obtain⟨hG,hch⟩:=H.out.putI hC hS;clear hS hC;by_cases hin:s.inside.contains m=true
 ·have HF:Hid (GM w1 B c n { G with vi:=v' } (s.wait m)):=by
   refine hide ?_
   have e2:s.wait m=s:=by unfold St.wait;rw[if_pos hin]
   rw[addS_self H.out.sI.canon hin]at hG;rw[e2];exact hG
  clear hG;rw[hin];go_wp2;go_end0
  exact⟨rfl,_,HF.out,hch⟩
 ·have hin':s.inside.contains m=false:=by simpa using hin
  have e2:s.wait m={ s with inside:=addS m s.inside,come:=s.come++[m] }:=by unfold St.wait;rw[if_neg hin]
  have HE:=hide e2;obtain⟨ao,cap,evc,_⟩:=hG.oC.form;have hbl:=hG.hbl;have hcc:w1.cell? ⟨G.bl,3,none⟩=some (.slice ao s.come.length cap):=by rw[cell_at hbl];exact congrArg some evc
  have HB:=hide hbl;have HN:Hid ((Value.slice ao s.come.length cap).ownBlock≠some G.bl):=hide (by have:=hG.oC.ne hbl (by decide);rw[evc]at this;exact this);have HR:Hid ((w1.alloc (.cells #[.int .u64 (m:Int)] 144)).ownsRow B 144 1 (.slice ao s.come.length cap) s.come.length (u64s s.come)):=hide (by have:=(hG.oC.alloc (.cells #[.int .u64 (m:Int)] 144)).1;rw[evc]at this;exact this);have HS1:Hid (B≤(w1.alloc (.cells #[.int .u64 (m:Int)] 144)).heap.size):=hide (by rw[World.size_alloc];have:=hG.hB;omega);have HS2:Hid (G.bl<(w1.alloc (.cells #[.int .u64 (m:Int)] 144)).heap.size):=hide (by rw[World.size_alloc];exact Nat.lt_succ_of_lt (lt_of_heap hbl));have HG:=hide hG;have HV:=hide evc;clear hG hbl evc e2 hin;rw[hin'];go_wp2_with (first
   |(at_builtin;go_loud (refine wpList_append_lies _ rfl (.tmp 13) (.tmp 15) 106 rfl B 144 i0 (.int .u64 0) 1 8 Tryz.underlying106 hi hz0 hz1 hz2 rfl (by decide) (.slice ao s.come.length cap) s.come.length (u64s s.come) (by simp[Act.eval]) HR.out ⟨w1.heap.size,0,none⟩ 1 1 [.int .u64 (m:Int)] (by simp[Act.eval]) rfl (cells_new' w1 #[.int .u64 (m:Int)] 144 [.int .u64 (m:Int)] rfl) (by intro u hu;rw[List.mem_singleton.1 hu];rfl) (by decide) (by unfold maxLen;omega) (by omega) HS1.out _ rfl ?_;intro g cp w2 hw2 hg hbk hgl;have hcb:w2.heap[G.bl]?=some (.cells (lcells c { G with vi:=v' }) TL (0,0)):=(hg.block G.bl HS2.out (fun e=>HN.out e.symm)).trans (heap_old HB.out _);have hc2:w2.cell? ⟨G.bl,3,none⟩=some (.slice ao s.come.length cap):=(cell_at hcb 3).trans (congrArg some HV.out);have hf2:w2.frozen? ⟨G.bl,3,none⟩=false:=frozen_at hcb 3))
   |go_in)
  have HF:Hid (∃G',GM (w2.setCell ⟨G.bl,3,none⟩ (.slice (some ⟨g,0,none⟩) (s.come.length+1) cp)) B c n G' (s.wait m)∧GCh w (w2.setCell ⟨G.bl,3,none⟩ (.slice (some ⟨g,0,none⟩) (s.come.length+1) cp)) G G'):=by
   refine hide ?_
   have ho:=HG.out.oC;have ev:({ G with vi:=v' }:GV).vc=.slice ao s.come.length cap:=HV.out;have hX:=appCh (o:=3) ho HB.out (by decide) (W:=w1.alloc (.cells #[.int .u64 (m:Int)] 144)) ((Kb.refl [] w1).alloc _) (by rw[ev];exact hg) (by rw[ev];exact hbk) hw2 (by omega);obtain⟨p1,p2⟩:=HG.out.putC hX.2 hX.1 (by show(s.come++[m]).length≤1000;rw[List.length_append];simp;omega);rw[HE.out];exact⟨_,p1,hch.trans p2⟩
  clear hw2 hg hbk hgl hcb HR HB HN;go_wp2;go_end0
  exact⟨rfl,HF.out⟩
end
section
open Go.RowKit
variable {B:Nat} {c:Way} {n:Nat} {s:St}
theorem GM.get{w:World}{G:GV}(h:GM w B c n G s){k:Nat}(hk:k<7*n):∃v,G.nv[k]?=some v∧G.nv.toArray[k]?=some v∧SetV w B v (s.ss.getD k []):=by
 obtain⟨v,hv⟩:∃v,G.nv[k]?=some v:=⟨_,List.getElem?_eq_getElem (by rw[h.lnv];exact hk)⟩;obtain⟨t,ht⟩:∃t,s.ss[k]?=some t:=⟨_,List.getElem?_eq_getElem (by rw[h.lss];exact hk)⟩;refine⟨v,hv,by simpa using hv,?_⟩;have e:s.ss.getD k []=t:=by simp[ht]
 rw[e];exact h.sN k v t hv ht
theorem GM.reads{w:World}{G:GV}(h:GM w B c n G s):w.cell? ⟨G.bg,0,none⟩=some (.int .i64 c.order)∧w.cell? ⟨G.bg,1,none⟩=some (.bool c.cycles)∧w.cell? ⟨G.bg,2,none⟩=some (.bool c.collapse)∧w.cell? ⟨G.bg,3,none⟩=some (.bool c.subst)∧w.cell? ⟨G.bg,4,none⟩=some (.bool c.deltas)∧w.cell? ⟨G.bg,5,none⟩=some (.slice (some ⟨G.bn,0,none⟩) n G.cap)∧w.cell? ⟨G.bg,7,none⟩=some (.pointer (some ⟨G.bl,0,none⟩))∧w.cell? ⟨G.bg,9,none⟩=some (.int .i64 s.un)∧w.frozen? ⟨G.bg,9,none⟩=false:=by
 refine⟨?_,?_,?_,?_,?_,?_,?_,?_,frozen_at h.hbg 9⟩<;>(rw[cell_at h.hbg];rfl)
def SameW(w W:World):Prop:=W.heap=w.heap∧W.os=w.os∧W.tape=w.tape∧W.output=w.output
theorem SameW.kb{w W:World}(h:SameW w W)(L:List Nat):Kb L w W:=⟨h.2.1,h.2.2.1,h.2.2.2,by rw[h.1];exact Nat.le_refl _,fun _ _ _=>by rw[h.1]⟩
theorem GM.same{w W:World}{G:GV}(h:GM w B c n G s)(hs:SameW w W):GM W B c n G s:=h.fresh (hs.kb [])
theorem GCh.same{w W:World}(hs:SameW w W)(G:GV):GCh w W G G:=⟨hs.kb _,fun _ h=>.inl h,rfl,rfl,rfl⟩
theorem gadd_any(k m:Nat)(w:World)(G:GV)(h:GM w B c n G s)(hk:k<7*n)(hm:m<128) :
  Calls Tryz.prog 108 #[.pointer (some ⟨G.bn,k,none⟩),.int .u64 m] w fun e w'=>e=.returned (.bool (!(s.ss.getD k []).contains m))∧∃G',GM w' B c n G' (s.addAt k m)∧GCh w w' G G':=by
 obtain⟨v,q,q',qs⟩:=h.get hk;refine(sadd_any B G.bn k _ TNd v _ m w h.hB (by decide) h.hbn q' qs hm).mono ?_
 rintro e w' ⟨rfl,v',hS,hC⟩;obtain⟨p1,p2⟩:=h.putN q hC hS;exact⟨rfl,_,p1,p2⟩
theorem gsadd_any(m:Nat)(w:World)(G:GV)(h:GM w B c n G s)(hm:m<128) :
  Calls Tryz.prog 108 #[.pointer (some ⟨G.bg,8,none⟩),.int .u64 m] w fun e w'=>e=.returned (.bool (!s.susp.contains m))∧∃G',GM w' B c n G' { s with susp:=addS m s.susp }∧GCh w w' G G':=by
 refine(sadd_any B G.bg 8 _ TG G.vs _ m w h.hB (by decide) h.hbg rfl h.sS hm).mono ?_
 rintro e w' ⟨rfl,v',hS,hC⟩;obtain⟨p1,p2⟩:=h.putS hC hS;exact⟨rfl,_,p1,p2⟩
theorem gequal_any(k k2:Nat)(w:World)(G:GV)(h:GM w B c n G s)(hk:k<7*n)(hk2:k2<7*n) :
  Calls Tryz.prog 110 #[.pointer (some ⟨G.bn,k,none⟩),.pointer (some ⟨G.bn,k2,none⟩)] w fun e w'=>e=.returned (.bool (s.ss.getD k [] == s.ss.getD k2 []))∧∃m,w'=w.drewN m:=by
 obtain⟨v,q,q',qs⟩:=h.get hk;obtain⟨v2,q2,q2',qs2⟩:=h.get hk2;exact equal_any B B G.bn k G.bn k2 _ _ TNd TNd v v2 _ _ w h.hbn q' h.hbn q2' qs qs2
def SusOK(B:Nat)(c:Way)(n:Nat):Prop:=∀(s:St) (f j:Nat) (w:World) (G:GV),GM w B c n G s→f<n→j<n →
  Calls Tryz.prog 158 #[.pointer (some ⟨G.bg,0,none⟩),.int .u64 f,.int .u64 j] w fun e w'=>e=.returned (.tuple #[])∧∃G',GM w' B c n G' (s.suspect f j)∧GCh w w' G G'
structure ArgS(w:World)(B:Nat)(G:GV)(k b2 o2:Nat)(T:List Nat):Prop where
 ex:∃cs2 T2 v2,w.heap[b2]?=some (.cells cs2 T2 (0,0))∧cs2[o2]?=some v2∧T2≠T64∧T2≠TG∧T2≠TL∧(b2≠G.bn∨o2≠k)∧SetV w B v2 T∧∀v,G.nv[k]?=some v→Apart v v2
theorem ArgS.own{w:World}{G:GV}(h:GM w B c n G s){k k2:Nat}(hk2:k2<7*n)(hne:k2≠k):ArgS w B G k G.bn k2 (s.ss.getD k2 []):=by
 obtain⟨v2,q,q',qs⟩:=h.get hk2;exact⟨_,TNd,v2,h.hbn,q',by decide,by decide,by decide,.inr hne,qs,fun v hv=>h.aNN k k2 v v2 (Ne.symm hne) hv q⟩
set_option maxRecDepth 100000 in
theorem ghand_any(hS:c.cycles=true→SusOK B c n)(b2 o2 f j:Nat)(T:List Nat)(w:World)(G:GV)(h:GM w B c n G s)(hw:WF n s)(hf:f<n)(hj:j<n)(hT:∀x,x∈T→x<n)(ha:ArgS w B G (7*j) b2 o2 T)(hu:s.un+1<4611686018427387904) :
  Calls Tryz.prog 119 #[.pointer (some ⟨G.bg,0,none⟩),.pointer (some ⟨b2,o2,none⟩),.int .u64 f,.int .u64 j] w fun e w'=>e=.returned (.tuple #[])∧∃G',GM w' B c n G' (s.hand c T f j)∧GCh w w' G G':=by
 have hn:=h.n40;obtain⟨r0,r1,r2,r3,r4,r5,r7,r9,r9f⟩:=h.reads;obtain⟨g1,g1c⟩:=h.putU hu;obtain⟨v1,q1,q1',q1s⟩:=g1.get (k:=7*j) (by omega);obtain⟨cs2,T2,v2,a1,a2,a3,a4,a5,a6,a7,a8⟩:=ha.ex;have hu2:s.un<4611686018427387904:=by omega
 have hkU:Kb [G.bg] w (w.setCell ⟨G.bg,9,none⟩ (.int .i64 ((s.un:Int)+1))):=(Kb.refl _ _).setCell (p:=⟨G.bg,9,none⟩) (.inl (by simp)) _;have HU:=unite_any B G.bn (7*j) b2 o2 G.nv.toArray cs2 TNd T2 v1 v2 _ T _ g1.hB (by decide) a3 g1.hbn q1' (hkU.heap a1 (by simp;exact ne_types a1 h.hbg a4)) a2 a6 q1s (a7.kb hkU (by intro g hg;rw[List.mem_singleton.1 hg];exact a7.ne h.hbg (by decide))) (a8 v1 q1);have et:({ s with un:=s.un+1 }:St).ss.getD (7*j) []=s.tg j:=rfl;rw[et]at HU;obtain⟨b,hb⟩:∃b,b=newS (s.tg j) T:=⟨_,rfl⟩;rw[← hb,show 7*j=j*7 from Nat.mul_comm _ _]at HU;have HB:=hide hb;have hG1:=hide g1;have hC1:=hide g1c;have hQ:=hide q1;have r5':=g1.reads.2.2.2.2.2.1;clear h hb g1 g1c q1 q1' q1s a1 a2 a3 a4 a5 a6 a7 a8 ha et r0 r2 r3 r4 r7;go_enter Tryz.func119,Tryz.ntmps119
 go_wp2_with fail
 refine HU.mono ?_
 clear HU;rintro e w1 ⟨rfl,v',hS1,hCh⟩;rw[show j*7=7*j from Nat.mul_comm _ _]at hCh;obtain⟨p1,p2⟩:=hG1.out.putN hQ.out hCh hS1;have wf1:WF n (({ s with un:=s.un+1 }:St).put (7*j) (uniS (s.tg j) T)):=by
  refine(hw.un _).put (by omega) ?_
  intro x hx;rcases(mem_uniS.1 hx).2 with hx|hx
  ·exact hw.bd _ x hx
  ·exact hT x hx
 have hch:=hC1.out.trans p2;clear hS1 hCh;obtain⟨r0,r1',r2,r3,r4,r5'',r7,r9',_⟩:=p1.reads;generalize hG':({ G with nv:=G.nv.set (7*j) v' }:GV)=G1 at *;have e1:G1.bg=G.bg:=hch.e1;have e2:G1.bl=G.bl:=hch.e3;rw[e1]at r1' r7;rw[e2]at r7;have HP:=hide p1;have HC:=hide hch;have hst:s.hand c T f j=if b then(({ s with un:=s.un+1 }:St).put (7*j) (uniS (s.tg j) T)).wait j else if c.cycles then(({ s with un:=s.un+1 }:St).put (7*j) (uniS (s.tg j) T)).suspect f j else({ s with un:=s.un+1 }:St).put (7*j) (uniS (s.tg j) T):=by rw[HB.out];rfl
 have HST:=hide hst;clear hst p1 p2 hG1 hC1 hQ hG' hch r0 r2 r3 r4 r5'' r9' r1 r9 r9f r5 r5' hkU;cases b
 ·have hcy:c.cycles=true∨c.cycles=false:=by cases c.cycles<;>simp
  rcases hcy with hcy|hcy
  ·have HSu:=hS hcy _ f j w1 G1 HP.out hf hj;rw[e1]at HSu;rw[hcy]at r1';have HST2:Hid (s.hand c T f j=(({ s with un:=s.un+1 }:St).put (7*j) (uniS (s.tg j) T)).suspect f j):=hide (by rw[HST.out,hcy];rfl);go_wp2_with fail
   refine HSu.mono ?_
   clear HSu;rintro e w2 ⟨rfl,G2,hG2,hC2⟩;have HF:Hid (GM w2 B c n G2 (s.hand c T f j)∧GCh w w2 G G2):=hide ⟨by rw[HST2.out];exact hG2,HC.out.trans hC2⟩;clear hG2 hC2;go_wp2;go_end0
   exact⟨rfl,_,HF.out⟩
  ·rw[hcy]at r1';have HF:Hid (GM w1 B c n G1 (s.hand c T f j)∧GCh w w1 G G1):=hide ⟨by rw[HST.out,hcy];exact HP.out,HC.out⟩;go_wp2;go_end0
   exact⟨rfl,_,HF.out⟩
 ·have HWa:=gwait_any j w1 G1 HP.out wf1 hj;rw[e2]at HWa;go_wp2_with fail
  refine HWa.mono ?_
  clear HWa;rintro e w2 ⟨rfl,G2,hG2,hC2⟩;have HF:Hid (GM w2 B c n G2 (s.hand c T f j)∧GCh w w2 G G2):=hide ⟨by rw[HST.out];exact hG2,HC.out.trans hC2⟩;clear hG2 hC2;go_wp2;go_end0
  exact⟨rfl,_,HF.out⟩
end
end Go.Proofs.YtiamlbhkiehilaaGreatDoor
