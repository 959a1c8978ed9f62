import Derived.Test.YtiamlbhkiehilaaGreatDoorKq47
import Derived.Deep.RegionWith
namespace Go.Proofs.YtiamlbhkiehilaaGreatDoor
section
open Go.RowKit Go.Shelf Go.Maps
structure DuM(w:World)(B g cap:Nat)(dv:List Value)(ds:List (List ByteArray)):Prop where
 len:dv.length=ds.length
 row:w.ownsRow B 44 1 (.slice (some ⟨g,0,none⟩) ds.length cap) ds.length dv
 rows:∀(i:Nat) u l,dv[i]?=some u→ds[i]?=some l→w.ownsRow B 9 1 u l.length (l.map Value.string)
 sep:∀(i j:Nat) t u,i≠j→dv[i]?=some t→dv[j]?=some u→t.ownBlock=none∨t.ownBlock≠u.ownBlock
variable {w w':World} {B g cap:Nat} {dv:List Value} {ds:List (List ByteArray)}
theorem DuM.below(h:DuM w B g cap dv ds)(hb:Below w.heap.size w w'):DuM w' B g cap dv ds:=⟨h.len,own_below h.row hb,fun i u l h1 h2=>own_below (h.rows i u l h1 h2) hb,h.sep⟩
theorem DuM.get(h:DuM w B g cap dv ds){i:Nat}(hi:i<ds.length):∃u l,dv[i]?=some u∧ds[i]?=some l∧w.cell? ⟨g,i,none⟩=some u∧w.ownsRow B 9 1 u l.length (l.map Value.string):=by
 obtain⟨u,hu⟩:∃u,dv[i]?=some u:=⟨_,List.getElem?_eq_getElem (by rw[h.len];exact hi)⟩;obtain⟨l,hl⟩:∃l,ds[i]?=some l:=⟨_,List.getElem?_eq_getElem hi⟩;exact⟨u,l,hu,hl,(own_cell h.row).1 i u hu,h.rows i u l hu hl⟩
theorem DuM.push(h:DuM w B g cap dv ds){a:Nat}{u:Value}{l:List ByteArray}(hu:dv[a]?=some u)(hl:ds[a]?=some l)(hn:l.length≤10000)(x:ByteArray)(hB:B≤w.heap.size) :
  ∃g2 cp w2,(Builtin.append_ #[44,44] 44 #[u,.slice (some ⟨w.heap.size,0,none⟩) 1 1]).run Tryz.prog (w.drew.alloc (.cells #[.string x] 9))=.ok (.slice (some ⟨g2,0,none⟩) (l.length+1) cp) w2 ∧
   w2.cell? ⟨g,a,none⟩=some u∧w2.frozen? ⟨g,a,none⟩=false ∧
   DuM (w2.setCell ⟨g,a,none⟩ (.slice (some ⟨g2,0,none⟩) (l.length+1) cp)) B g cap (dv.set a (.slice (some ⟨g2,0,none⟩) (l.length+1) cp)) (ds.set a (l++[x])) ∧
   Kb (g::u.ownBlock.toList) w (w2.setCell ⟨g,a,none⟩ (.slice (some ⟨g2,0,none⟩) (l.length+1) cp))∧(u.ownBlock=some g2∨w.heap.size≤g2):=by
 have ha:a<ds.length:=(List.getElem?_eq_some_iff.1 hl).1;have hav:a<dv.length:=(List.getElem?_eq_some_iff.1 hu).1;have bA:Below w.heap.size w (w.drew.alloc (.cells #[.string x] 9)):=(Below.refl _ _).drew.alloc (Nat.le_refl _) _;have h2:=h.below bA;obtain⟨g2,cp,w2,hrun,hown,hgrow,hlies⟩:=app_strs (w.drew.alloc (.cells #[.string x] 9)) B u l [x] (h2.rows a u l hu hl) ⟨w.heap.size,0,none⟩ 1 (cells_new w.drew _ _ _ rfl) (by simp) hn (by simp) (Nat.le_trans hB bA.size);have kG:=kb_grown hgrow;have hlies':u.ownBlock=some g2∨w.heap.size≤g2:=by
  rcases hlies with e|e
  ·exact .inl e
  ·refine .inr ?_
   rw[e];have:=bA.size;omega
 have hgu:u.ownBlock≠some g:=fun e=>by
  rcases own_ne (h.rows a u l hu hl) h.row (by decide)with e2|e2
  ·rw[e]at e2;cases e2
  ·exact e2 (by rw[e];rfl)
 have hg2:g2≠g:=fun e=>by
  rcases hlies' with e2|e2
  ·exact hgu (by rw[e2,e])
  ·have:=(h.row.lt g rfl).2;omega
 have row2:w2.ownsRow B 44 1 (.slice (some ⟨g,0,none⟩) ds.length cap) ds.length dv:=own_kbL h2.row kG (fun b hb e=>by
  simp at hb;cases e;exact hgu hb)
 have kS:Kb [g] w2 (w2.setCell ⟨g,a,none⟩ (.slice (some ⟨g2,0,none⟩) (l.length+1) cp)):=(Kb.refl _ _).setCell (p:=⟨g,a,none⟩) (.inl (by simp)) _;refine⟨g2,cp,w2,hrun,(own_cell row2).1 a u hu,(own_cell row2).2 a,⟨?_,?_,?_,?_⟩,?_,hlies'⟩
 ·rw[List.length_set,List.length_set];exact h.len
 ·rw[List.length_set];exact own_set row2 a _
 ·intro i t m ht hm;by_cases e:i=a
  ·subst e;rw[List.getElem?_set_self hav]at ht;rw[List.getElem?_set_self ha]at hm;injection ht with ht;injection hm with hm;subst ht hm;have:=own_kbL hown kS (fun b hb e=>by
    rw[List.mem_singleton.1 hb]at e;cases e;exact hg2 rfl)
   simpa using this
  ·rw[List.getElem?_set_ne (Ne.symm e)]at ht hm;refine own_kbL (own_kbL (h2.rows i t m ht hm) kG (fun b hb e2=>?_)) kS (fun b hb e2=>?_)
   ·simp at hb;rcases h.sep i a t u e ht hu with e3|e3
    ·rw[e3]at e2;cases e2
    ·exact e3 (by rw[e2,hb])
   ·rw[List.mem_singleton.1 hb]at e2;rcases own_ne (h.rows i t m ht hm) h.row (by decide)with e3|e3
    ·rw[e3]at e2;cases e2
    ·exact e3 (by rw[e2];rfl)
 ·intro i j t t' hij ht ht';have key:∀(i:Nat) t,i≠a→dv[i]?=some t→t.ownBlock=none∨t.ownBlock≠some g2:=fun i t hi ht=>by
   rcases hlies' with e2|e2
   ·rw[← e2];exact h.sep i a t u hi ht hu
   ·obtain⟨m,hm⟩:∃m,ds[i]?=some m:=⟨_,List.getElem?_eq_getElem (by rw[← h.len];exact(List.getElem?_eq_some_iff.1 ht).1)⟩;refine .inr (fun e3=>?_);have:=((h.rows i t m ht hm).lt g2 e3).2;omega
  by_cases e:i=a
  ·subst e;rw[List.getElem?_set_self hav]at ht;rw[List.getElem?_set_ne hij]at ht';injection ht with ht;subst ht;rcases key j t' (Ne.symm hij) ht' with e3|e3
   ·exact .inr (fun e4=>by rw[e3]at e4;cases e4)
   ·exact .inr (fun e4=>e3 e4.symm)
  ·rw[List.getElem?_set_ne (Ne.symm e)]at ht;by_cases e5:j=a
   ·subst e5;rw[List.getElem?_set_self hav]at ht';injection ht' with ht';subst ht';exact key i t e ht
   ·rw[List.getElem?_set_ne (Ne.symm e5)]at ht';exact h.sep i j t t' hij ht ht'
 ·refine Kb.trans (b:=w2) ?_ (kS.mono (fun k _ hk=>by rw[List.mem_singleton.1 hk];exact List.mem_cons_self));have kB:Kb (g::u.ownBlock.toList) w (w.drew.alloc (.cells #[.string x] 9)):=Kb.of_below bA _;exact kB.trans (kG.mono (fun k _ hk=>List.mem_cons_of_mem _ hk))
end
section
open Go.RowKit Go.Shelf Go.Maps
attribute [local go_sem] Oper.semAt_some
attribute [-go_sem] Builtin.append_
def AtIs(rs:List RowD)(s:ByteArray)(e:Ending):Prop:=∃(i:Nat) (r:RowD),e=.returned (.int .i64 (i:Int))∧rs[i]?=some r∧r.name=s
set_option maxRecDepth 100000 in
set_option maxHeartbeats 1000000 in
theorem kat_any(v:Value)(rs:List RowD)(s:ByteArray)(w:World)(hlen:rs.length≤1000000)(hv:IsRows v rs w)(hm:∃r∈rs,r.name=s) :
  Calls Tryz.prog 35 #[v,.string s] w fun e w'=>AtIs rs s e∧w'=w:=by
 obtain⟨ao,ca,rfl,_,_,hfa⟩:=hv;have HA:=hide hfa;have HM:=hide hm;clear hfa hm;go_enter Tryz.func35,Tryz.ntmps35
 go_wp2;go_loop [5] (fun iv=>∃i:Nat,iv=.int .i64 i∧i≤rs.length∧Hid (∀r∈rs.take i,r.name≠s)) (fun iv=>rs.length-(intOf iv).toNat)
 case atStart=>exact⟨0,rfl,Nat.zero_le _,hide (by simp)⟩
 case round=>
  obtain⟨i,rfl,hi,HN⟩:=hrel;by_cases hlt:i<rs.length
  ·obtain⟨⟨x,tt⟩,hf⟩:∃f,rs[i]?=some f:=⟨_,List.getElem?_eq_getElem hlt⟩;have hne:rs≠[]:=by intro e;rw[e]at hlt;simp at hlt
   obtain⟨b1,o1,h1,hb1,hf1⟩:=HA.out hne;rw[h1];obtain⟨a0,tv,a1,htv⟩:=hf1 i x tt hf;have HF:=hide hf;by_cases hx:x=s
   ·have hxx:(x.toList == s.toList)=true:=by rw[hx];simp
    have HX:=hide hx;clear hf hf1 hx htv;go_wp2;go_ret
    exact⟨⟨i,⟨x,tt⟩,rfl,HF.out,HX.out⟩,rfl⟩
   ·have hxx:(x.toList == s.toList)=false:=by
     rw[beq_eq_false_iff_ne];intro e;exact hx (toList_inj e)
    have HN2:Hid (∀r∈rs.take (i+1),r.name≠s):=hide (by
     rw[List.take_add_one,HF.out];intro r hr;rcases List.mem_append.1 hr with hr|hr
     ·exact HN.out r hr
     ·simp at hr;rw[hr];exact hx)
    clear hf hf1 htv;go_wp2;go_round
    case rel=>exact⟨i+1,by go_num,hlt,HN2⟩
    case measure=>simp[intOf];omega
  ·exfalso;obtain⟨r,hr,hr2⟩:=HM.out;have h9:=HN.out;rw[show i=rs.length by omega,List.take_length]at h9;exact h9 r hr hr2
structure GvI(W wr:World)(B g cap:Nat)(dv:List Value)(ds:List (List ByteArray))(a:Nat)(u:Value)(l:List ByteArray)(B':Nat)(fv:Value)(fl:List ByteArray)(i n:Nat)(u':Value)(l':List ByteArray):Prop where
 dm:DuM wr B g cap (dv.set a u') (ds.set a l')
 mem:∀x,x∈l'↔x∈l∨x∈fl.take i
 nd:l.Nodup→l'.Nodup
 ln:l'.length=l.length+n
 un:n=0→l'=l
 fr:wr.ownsRow B' 9 1 fv fl.length (fl.map Value.string)
 kb:Kb (g::u.ownBlock.toList) W wr
 lies:∀b,u'.ownBlock=some b→u.ownBlock=some b∨W.heap.size≤b
 le:n≤i
variable {W wr:World} {B g cap:Nat} {dv:List Value} {ds:List (List ByteArray)} {a:Nat} {u:Value} {l:List ByteArray} {B':Nat} {fv:Value} {fl:List ByteArray} {i n:Nat} {u':Value} {l':List ByteArray}
theorem GvI.skip(h:GvI W wr B g cap dv ds a u l B' fv fl i n u' l'){x:ByteArray}(hx:fl[i]?=some x)(hin:x∈l')(m:Nat):GvI W (wr.drewN m) B g cap dv ds a u l B' fv fl (i+1) n u' l':=by
 refine⟨⟨h.dm.len,h.dm.row,h.dm.rows,h.dm.sep⟩,fun y=>?_,h.nd,h.ln,h.un,h.fr,h.kb.drewN m,h.lies,by have:=h.le;omega⟩;rw[List.take_add_one,hx,h.mem y];constructor
 ·rintro(h1|h1)
  ·exact .inl h1
  ·exact .inr (List.mem_append_left _ h1)
 ·rintro(h1|h1)
  ·exact .inl h1
  ·rcases List.mem_append.1 h1 with h1|h1
   ·exact .inr h1
   ·simp at h1;rw[h1];exact(h.mem x).1 hin
theorem GvI.add(h:GvI W wr B g cap dv ds a u l B' fv fl i n u' l')(ha:a<ds.length)(hav:a<dv.length)(hs:(∀x∈fl,x∈l)∨fv.ownBlock=none∨fv.ownBlock≠u.ownBlock)(hfW:∀b,fv.ownBlock=some b→b<W.heap.size){x:ByteArray}(hx:fl[i]?=some x)(hin:x ∉ l')(hn:l'.length≤10000)(hB:B≤wr.heap.size)(hgw:g<W.heap.size) :
  ∃g2 cp w2,(Builtin.append_ #[44,44] 44 #[u',.slice (some ⟨wr.heap.size,0,none⟩) 1 1]).run Tryz.prog (wr.drew.alloc (.cells #[.string x] 9))=.ok (.slice (some ⟨g2,0,none⟩) (l'.length+1) cp) w2∧w2.cell? ⟨g,a,none⟩=some u'∧w2.frozen? ⟨g,a,none⟩=false ∧
   GvI W (w2.setCell ⟨g,a,none⟩ (.slice (some ⟨g2,0,none⟩) (l'.length+1) cp)) B g cap dv ds a u l B' fv fl (i+1) (n+1) (.slice (some ⟨g2,0,none⟩) (l'.length+1) cp) (l'++[x]):=by
 obtain⟨g2,cp,w2,h1,h2,h3,h4,h5,h6⟩:=h.dm.push (a:=a) (u:=u') (l:=l') (List.getElem?_set_self hav) (List.getElem?_set_self ha) hn x hB;rw[List.set_set,List.set_set]at h4;have hxl:x ∉ l:=fun hm=>hin ((h.mem x).2 (.inl hm))
 have hsep:fv.ownBlock=none∨fv.ownBlock≠u.ownBlock:=hs.resolve_left (fun h9=>hxl (h9 x (List.mem_of_getElem? hx)));have hnfu:∀b,fv.ownBlock=some b→u'.ownBlock≠some b:=fun b hb e=>by
  rcases h.lies b e with e2|e2
  ·rcases hsep with e3|e3
   ·rw[e3]at hb;cases hb
   ·exact e3 (by rw[hb,e2])
  ·have:=hfW b hb;omega
 have hnfg:∀b,fv.ownBlock=some b→b≠g:=fun b hb e=>by
  rcases own_ne h.fr h.dm.row (by decide)with e3|e3
  ·rw[e3]at hb;cases hb
  ·exact e3 (by rw[hb,e];rfl)
 refine⟨g2,cp,w2,h1,h2,h3,⟨h4,fun y=>?_,fun hd=>?_,?_,fun h9=>by omega,own_kbL h.fr h5 (fun b hb e=>?_),?_,fun b hb=>?_,by have:=h.le;omega⟩⟩
 ·rw[List.take_add_one,hx,List.mem_append,h.mem y];simp;grind
 ·rw[List.nodup_append];refine⟨h.nd hd,by simp,fun y hy z hz=>?_⟩;simp at hz;rw[hz];intro e;exact hin (e ▸ hy)
 ·rw[List.length_append,h.ln];simp;omega
 ·rcases List.mem_cons.1 hb with rfl|hb
  ·exact hnfg _ e rfl
  ·simp at hb;exact hnfu b e hb
 ·refine⟨h5.os.trans h.kb.os,h5.tape.trans h.kb.tape,h5.output.trans h.kb.output,Nat.le_trans h.kb.size h5.size,fun j hj hn2=>?_⟩;refine(h5.block j (Nat.lt_of_lt_of_le hj h.kb.size) (fun hm=>?_)).trans (h.kb.block j hj hn2);rcases List.mem_cons.1 hm with rfl|hm
  ·exact hn2 List.mem_cons_self
  ·simp at hm;rcases h.lies j hm with e2|e2
   ·exact hn2 (List.mem_cons_of_mem _ (by simp[e2]))
   ·omega
 ·cases hb;rcases h6 with e|e
  ·exact h.lies _ e
  ·exact .inr (Nat.le_trans h.kb.size e)
end
section
open Go.RowKit Go.Shelf Go.Maps
attribute [local go_sem] Oper.semAt_some
attribute [-go_sem] Builtin.append_
structure GvR(W W':World)(B g cap:Nat)(dv:List Value)(ds:List (List ByteArray))(a:Nat)(u:Value)(l fl:List ByteArray)(n:Nat):Prop where
 ex:∃u' l',DuM W' B g cap (dv.set a u') (ds.set a l')∧(∀x,x∈l'↔x∈l∨x∈fl)∧(l.Nodup→l'.Nodup)∧l'.length=l.length+n∧(n=0→l'=l)
 kb:Kb (g::u.ownBlock.toList) W W'
 le:n≤fl.length
set_option maxRecDepth 100000 in
set_option maxHeartbeats 4000000 in
theorem kgives_any(B g cap:Nat)(dv:List Value)(ds:List (List ByteArray))(a:Nat)(u:Value)(l:List ByteArray)(B':Nat)(fv:Value)(fl:List ByteArray)(W:World)(hM:DuM W B g cap dv ds)(hu:dv[a]?=some u)(hl:ds[a]?=some l)(hB:B≤W.heap.size)(hf:W.ownsRow B' 9 1 fv fl.length (fl.map Value.string))(hs:(∀x∈fl,x∈l)∨fv.ownBlock=none∨fv.ownBlock≠u.ownBlock)(hfl:fl.length≤1000)(hll:l.length≤1000)(_hdl:ds.length≤1000) :
  Calls Tryz.prog 36 #[.slice (some ⟨g,0,none⟩) ds.length cap,.int .i64 (a:Int),fv] W fun e w'=>∃n:Nat,e=.returned (.int .i64 (n:Int))∧GvR W w' B g cap dv ds a u l fl n:=by
 have ha:a<ds.length:=(List.getElem?_eq_some_iff.1 hl).1;have hav:a<dv.length:=(List.getElem?_eq_some_iff.1 hu).1;have hfW:∀b,fv.ownBlock=some b→b<W.heap.size:=fun b hb=>(hf.lt b hb).2
 have hgW:g<W.heap.size:=(hM.row.lt g rfl).2;have I0:GvI W W B g cap dv ds a u l B' fv fl 0 0 u l:=by
  refine⟨?_,by simp,fun h=>h,by simp,fun _=>rfl,hf,Kb.refl _ _,fun b hb=>.inl hb,Nat.le_refl _⟩;rw[set_self hu,set_self hl];exact hM
 have HI0:=hide I0;have HS:=hide (And.intro hs hfW);obtain⟨fo,fc,rfl,hfo⟩:=own_form hf;have hai:(a:Int)<(ds.length:Int):=by omega
 clear I0 hM hu hl hf hs hfW;go_enter Tryz.func36,Tryz.ntmps36
 go_wp2;go_loopw [7,8] (fun nv iv wr=>∃(i n:Nat) (u':Value) (l':List ByteArray),nv=.int .i64 (n:Int)∧iv=.int .i64 (i:Int)∧i≤fl.length∧n≤i∧Hid (GvI W wr B g cap dv ds a u l B' (.slice fo fl.length fc) fl i n u' l')) (fun _ iv _=>fl.length-(intOf iv).toNat)
 case atStart=>exact⟨0,0,u,l,rfl,rfl,Nat.zero_le _,Nat.le_refl _,HI0⟩
 case round=>
  obtain⟨i,n,u',l',rfl,rfl,hi,hni,HI⟩:=hrel;by_cases hlt:i<fl.length
  ·obtain⟨x,hx⟩:∃x,fl[i]?=some x:=⟨_,List.getElem?_eq_getElem hlt⟩;obtain⟨b1,hb1⟩:=hfo (by omega);subst hb1;have h9:=HI.out;have cf:=(own_cell h9.fr).1 i (.string x) (by rw[List.getElem?_map,hx];rfl);have cd:wr.cell? ⟨g,a,none⟩=some u':=(own_cell h9.dm.row).1 a u' (List.getElem?_set_self hav);have hll2:l'.length≤3000:=by have:=h9.ln;omega
   have hrow:=h9.dm.rows a u' l' (List.getElem?_set_self hav) (List.getElem?_set_self ha);have HK:=kin_any u' l' x wr.drew (by omega) (strs_of_owns (own_below hrow ((Below.refl _ _).drew)));have hBw:B≤wr.heap.size:=Nat.le_trans hB h9.kb.size;by_cases hin:x∈l'
   ·have HN:=hide (fun m=>h9.skip hx hin m);clear h9 hrow;go_wp2_with fail
    go_region_with (go_at_call 19;refine HK.mono ?_;clear HK;rintro e w9 ⟨⟨bb,rfl,hbb⟩,hw9⟩;have hb9:bb=true:=hbb.2 hin;subst hb9;subst hw9;clear hbb)
    all_goals
     go_wp2;go_roundw
     case rel=>exact⟨i+1,n,u',l',rfl,by go_num,hlt,by omega,hide (HN.out 1)⟩
     case measure=>simp[intOf];omega
   ·clear h9 hrow;go_wp2_with fail
    go_region_with (go_at_call 19;refine HK.mono ?_;clear HK;rintro e w9 ⟨⟨bb,rfl,hbb⟩,hw9⟩;have hb9:bb=false:=(by cases bb with|false=>rfl|true=>exact absurd (hbb.1 rfl) hin);subst hb9;subst hw9;clear hbb)
    all_goals
     have h9:GvI W wr.drew B g cap dv ds a u l B' (.slice (some ⟨b1,0,none⟩) fl.length fc) fl i n u' l':=by
      have h8:=HI.out;exact⟨⟨h8.dm.len,h8.dm.row,h8.dm.rows,h8.dm.sep⟩,h8.mem,h8.nd,h8.ln,h8.un,h8.fr,h8.kb.drew,h8.lies,h8.le⟩
     have hBq:B≤wr.drew.heap.size:=hBw;clear cf cd HI;generalize wr.drew=wq at h9 hBq ⊢;have cf:=(own_cell h9.fr).1 i (.string x) (by rw[List.getElem?_map,hx];rfl);have cd:wq.cell? ⟨g,a,none⟩=some u':=(own_cell h9.dm.row).1 a u' (List.getElem?_set_self hav);have cdA:(wq.alloc (.cells #[.string x] 9)).cell? ⟨g,a,none⟩=some u':=((((Below.refl wq.heap.size wq).alloc (Nat.le_refl _) _).cell (p:=⟨g,a,none⟩) (h9.dm.row.lt g rfl).2)).trans cd;obtain⟨g2,cp,w2,hrun,c2,fz2,I2⟩:=h9.add ha hav HS.out.1 HS.out.2 hx hin (by omega) hBq hgW;have hrun2:(Builtin.append_ #[44,44] 44 #[u',.slice (some ⟨wq.heap.size,0,none⟩) 1 1]).run Tryz.prog ((wq.alloc (.cells #[.string x] 9)).drew)=.ok (.slice (some ⟨g2,0,none⟩) (l'.length+1) cp) w2:=hrun;obtain⟨AP,hAP⟩:∃AP,Builtin.append_ #[44,44] 44 #[u',.slice (some ⟨wq.heap.size,0,none⟩) 1 1]=AP:=⟨_,rfl⟩;rw[hAP]at hrun2;have HN:=hide I2
     have hwn:IntKind.i64.wrap ((n:Int)+1)=((n+1:Nat):Int):=by rw[IntKind.wrap_i64];omega
     clear h9 hrun I2;go_wp2_with fail
     go_region
     all_goals
      go_wp2;go_roundw
      case rel=>exact⟨i+1,n+1,_,_,by go_num,by go_num,hlt,by omega,HN⟩
      case measure=>simp[intOf];omega
  ·obtain rfl:i=fl.length:=by omega
   have h9:=HI.out;have HR:Hid (GvR W wr B g cap dv ds a u l fl n):=hide ⟨⟨u',l',h9.dm,(by rw[← List.take_length (l:=fl)];exact h9.mem),h9.nd,h9.ln,h9.un⟩,h9.kb,hni⟩;clear h9;go_wp2;go_ret
   exact⟨n,rfl,HR.out⟩
end
section
open Go.RowKit Go.Shelf Go.Maps
structure SdL[DP](fs:List Fct)(ds:List (List ByteArray)):Prop where
 len:ds.length=(solR fs).length
 ok:∀(i:Nat) r l,(solR fs)[i]?=some r→ds[i]?=some l→l.Nodup∧∀x∈l,Pts fs r.name x
def tot(ds:List (List ByteArray)):Nat:=(ds.map List.length).sum
theorem tot_set{ds:List (List ByteArray)}{a n:Nat}{l l':List ByteArray}(h:ds[a]?=some l)(hl:l'.length=l.length+n):tot (ds.set a l')=tot ds+n:=by
 induction ds generalizing a with
 |nil=>simp at h
 |cons x r ih=>
  cases a with
  |zero=>
   simp at h;subst h;simp[tot,hl];omega
  |succ a=>
   have:=ih (a:=a) (by simpa using h);simp only[tot,List.set_cons_succ,List.map_cons,List.sum_cons]at this ⊢;omega
theorem SdL.short[DP]{fs:List Fct}{ds:List (List ByteArray)}(h:SdL fs ds)(hg:okGo [] fs){i:Nat}{l:List ByteArray}(hl:ds[i]?=some l):l.length≤40:=by
 have hi:i<(solR fs).length:=by rw[← h.len];exact(List.getElem?_eq_some_iff.1 hl).1
 obtain⟨r,hr⟩:∃r,(solR fs)[i]?=some r:=⟨_,List.getElem?_eq_getElem hi⟩;obtain⟨h1,h2⟩:=h.ok i r l hr hl;exact Nat.le_trans (nodup_le h1 (fun x hx=>pts_ns (h2 x hx))) (pnames_le hg)
theorem SdL.set[DP]{fs:List Fct}{ds:List (List ByteArray)}(h:SdL fs ds){a:Nat}{r:RowD}{l l' fl:List ByteArray}(hr:(solR fs)[a]?=some r)(hl:ds[a]?=some l)(hm:∀x,x∈l'↔x∈l∨x∈fl)(hn:l.Nodup→l'.Nodup)(hf:∀x∈fl,Pts fs r.name x):SdL fs (ds.set a l'):=by
 have ha:a<ds.length:=(List.getElem?_eq_some_iff.1 hl).1;refine⟨by rw[List.length_set];exact h.len,fun i r' m h1 h2=>?_⟩;by_cases e:i=a
 ·subst e;rw[List.getElem?_set_self ha]at h2;injection h2 with h2;subst h2;rw[hr]at h1;injection h1 with h1;subst h1;obtain⟨q1,q2⟩:=h.ok i r l hr hl;refine⟨hn q1,fun x hx=>?_⟩;rcases(hm x).1 hx with h3|h3
  ·exact q2 x h3
  ·exact hf x h3
 ·rw[List.getElem?_set_ne (Ne.symm e)]at h2;exact h.ok i r' m h1 h2
def Ro[DP](fs:List Fct)(ds:List (List ByteArray))(a:ByteArray)(l:List ByteArray):Prop:=∃(i:Nat) (r:RowD),(solR fs)[i]?=some r∧r.name=a∧ds[i]?=some l
theorem sol_nd[DP]{fs:List Fct}{i j:Nat}{r s:RowD}(hi:(solR fs)[i]?=some r)(hj:(solR fs)[j]?=some s)(e:r.name=s.name):i=j:=by
 unfold solR at hi hj;rw[List.getElem?_map]at hi hj;cases h1:(nsOf fs)[i]? with
 |none=>rw[h1]at hi;cases hi
 |some a=>
  cases h2:(nsOf fs)[j]? with
  |none=>rw[h2]at hj;cases hj
  |some b=>
   rw[h1]at hi;rw[h2]at hj;simp at hi hj;subst hi hj;simp only at e;subst e;exact nd_inj (ns_nodup fs) h1 h2
def Cl[DP](fs:List Fct)(ds:List (List ByteArray))(f:Fct):Prop:=
 (f.k=1→∀l,Ro fs ds f.p l→f.q∈l)∧(f.k=2→∀l m,Ro fs ds f.p l→Ro fs ds f.q m→∀x∈m,x∈l) ∧
 (f.k=3→∀l m,Ro fs ds f.p l→Ro fs ds f.q m→∀y∈m,∀o,Ro fs ds y o→∀x∈o,x∈l) ∧
 (f.k=4→∀l m,Ro fs ds f.p l→Ro fs ds f.q m→∀y∈l,∀o,Ro fs ds y o→∀x∈m,x∈o)
theorem cl_all[DP]{fs:List Fct}{ds:List (List ByteArray)}(hd:SdL fs ds)(hc:∀f∈fs,Cl fs ds f){a x:ByteArray}(h:Pts fs a x):a∈nsOf fs→∀l,Ro fs ds a l→x∈l:=by
 have ex:∀b∈nsOf fs,∃l,Ro fs ds b l:=by
  intro b hb;obtain⟨r,hr,e⟩:=sol_has hb;obtain⟨i,hi⟩:=List.getElem?_of_mem hr;have:i<ds.length:=by rw[hd.len];exact(List.getElem?_eq_some_iff.1 hi).1
  exact⟨_,i,r,hi,e,List.getElem?_eq_getElem this⟩
 induction h using Pts.ind with
 |addr hm=>exact fun _ l hl=>(hc _ hm).1 rfl l hl
 |copy hm _ ih=>
  intro _ l hl;have hq:=mem_ns.2 ⟨_,hm,.inr rfl⟩;obtain⟨m,hm2⟩:=ex _ hq;exact(hc _ hm).2.1 rfl l m hl hm2 _ (ih hq m hm2)
 |load hm h1 _ ih1 ih2=>
  intro _ l hl;have hq:=mem_ns.2 ⟨_,hm,.inr rfl⟩;obtain⟨m,hm2⟩:=ex _ hq;have hv:=pts_ns h1;obtain⟨o,ho⟩:=ex _ hv;exact(hc _ hm).2.2.1 rfl l m hl hm2 _ (ih1 hq m hm2) o ho _ (ih2 hv o ho)
 |store hm h1 _ ih1 ih2=>
  intro hv l hl;have hp:=mem_ns.2 ⟨_,hm,.inl rfl⟩;have hq:=mem_ns.2 ⟨_,hm,.inr rfl⟩;obtain⟨lp,hlp⟩:=ex _ hp;obtain⟨m,hm2⟩:=ex _ hq;exact(hc _ hm).2.2.2 rfl lp m hlp hm2 _ (ih1 hp lp hlp) l hl _ (ih2 hq m hm2)
theorem Ro.uniq[DP]{fs:List Fct}{ds:List (List ByteArray)}{i:Nat}{r:RowD}{l l':List ByteArray}(hr:(solR fs)[i]?=some r)(hl:ds[i]?=some l)(h:Ro fs ds r.name l'):l'=l:=by
 obtain⟨j,s,h1,h2,h3⟩:=h;have:=sol_nd h1 hr h2;subst this;rw[hl]at h3;injection h3 with h3;exact h3.symm
structure Fo[DP](fs:List Fct)(B g cap:Nat)(W:World)(ds:List (List ByteArray))(W':World)(ds':List (List ByteArray))(n:Nat):Prop where
 dm:∃dv',DuM W' B g cap dv' ds'
 sd:SdL fs ds'
 tt:tot ds'=tot ds+n
 un:n=0→ds'=ds
 bl:Below B W W'
theorem Fo.trans[DP]{fs:List Fct}{B g cap:Nat}{W W1 W2:World}{ds d1 d2:List (List ByteArray)}{n m:Nat}(h:Fo fs B g cap W ds W1 d1 n)(k:Fo fs B g cap W1 d1 W2 d2 m):Fo fs B g cap W ds W2 d2 (n+m):=
 ⟨k.dm,k.sd,by rw[k.tt,h.tt];omega,fun e=>by rw[k.un (by omega),h.un (by omega)],h.bl.trans k.bl⟩
theorem GvR.fo[DP]{fs:List Fct}{W W':World}{B g cap:Nat}{dv:List Value}{ds:List (List ByteArray)}{a:Nat}{u:Value}{l fl:List ByteArray}{n:Nat}(h:GvR W W' B g cap dv ds a u l fl n)(hM:DuM W B g cap dv ds)(hs:SdL fs ds)(hu:dv[a]?=some u)(hl:ds[a]?=some l)(hB:B≤W.heap.size){r:RowD}(hr:(solR fs)[a]?=some r)(hf:∀x∈fl,Pts fs r.name x) :
  ∃ds',Fo fs B g cap W ds W' ds' n∧(n=0→∀x∈fl,x∈l):=by
 obtain⟨u',l',h1,h2,h3,h4,h5⟩:=h.ex;refine⟨ds.set a l',⟨⟨_,h1⟩,hs.set hr hl h2 h3 hf,tot_set hl h4,fun e=>?_,h.kb.below hB (fun k hk=>?_)⟩,fun e x hx=>?_⟩
 ·rw[h5 e];exact set_self hl
 ·rcases List.mem_cons.1 hk with rfl|hk
  ·exact(hM.row.lt _ rfl).1
  ·exact((hM.rows a u l hu hl).lt k (by simpa using hk)).1
 ·rw[← h5 e];exact(h2 x).2 (.inr hx)
theorem own_one(w:World)(x:ByteArray):(w.alloc (.cells #[.string x] 9)).ownsRow w.heap.size 9 1 (.slice (some ⟨w.heap.size,0,none⟩) 1 1) 1 [.string x]:=
 ⟨rfl,.inr ⟨w.heap.size,1,#[.string x],rfl,Nat.le_refl _,heap_new _ _,Nat.le_refl _,by unfold maxLen;omega,rfl,rfl⟩⟩
end
section
open Go.RowKit Go.Shelf Go.Maps
attribute [local go_sem] Oper.semAt_some
attribute [-go_sem] Builtin.append_
theorem kgives_row[DP]{fs:List Fct}(hg:okGo [] fs){B g cap:Nat}{X:World}{dv:List Value}{ds:List (List ByteArray)}(hM:DuM X B g cap dv ds)(hs:SdL fs ds)(hB:B≤X.heap.size){a:Nat}{r:RowD}(hr:(solR fs)[a]?=some r){B':Nat}{fv:Value}{fl:List ByteArray}(hf:X.ownsRow B' 9 1 fv fl.length (fl.map Value.string))(hfl:fl.length≤40)(hP:∀x∈fl,Pts fs r.name x)
  (hsep:∀u l,dv[a]?=some u→ds[a]?=some l→(∀x∈fl,x∈l)∨fv.ownBlock=none∨fv.ownBlock≠u.ownBlock) :
  Calls Tryz.prog 36 #[.slice (some ⟨g,0,none⟩) (solR fs).length cap,.int .i64 (a:Int),fv] X fun e w'=>∃(n:Nat) (ds':List (List ByteArray)),e=.returned (.int .i64 (n:Int))∧n≤40∧Fo fs B g cap X ds w' ds' n∧(n=0→∀l,ds[a]?=some l→∀x∈fl,x∈l):=by
 have hn:=pnames_le hg;have hN:(solR fs).length≤40:=by rw[sol_len];exact hn
 have ha:a<ds.length:=by rw[hs.len];exact(List.getElem?_eq_some_iff.1 hr).1
 obtain⟨u,l,h1,h2,_,_⟩:=hM.get ha;have:=kgives_any B g cap dv ds a u l B' fv fl X hM h1 h2 hB hf (hsep u l h1 h2) (by omega) (by have:=hs.short hg h2;omega) (by rw[hs.len];omega);rw[hs.len]at this;refine this.mono ?_
 rintro e w' ⟨n,rfl,hR⟩;obtain⟨ds',q1,q2⟩:=hR.fo hM hs h1 h2 hB hr hP;exact⟨n,ds',rfl,Nat.le_trans hR.le hfl,q1,fun e l' hl'=>by rw[h2]at hl';injection hl' with hl';rw[← hl'];exact q2 e⟩
theorem kgives_rows[DP]{fs:List Fct}(hg:okGo [] fs){B g cap:Nat}{X:World}{dv:List Value}{ds:List (List ByteArray)}(hM:DuM X B g cap dv ds)(hs:SdL fs ds)(hB:B≤X.heap.size){a b:Nat}{r:RowD}(hr:(solR fs)[a]?=some r){t:Value}{m:List ByteArray}(ht:dv[b]?=some t)(hm:ds[b]?=some m)(hP:∀x∈m,Pts fs r.name x) :
  Calls Tryz.prog 36 #[.slice (some ⟨g,0,none⟩) (solR fs).length cap,.int .i64 (a:Int),t] X fun e w'=>∃(n:Nat) (ds':List (List ByteArray)),e=.returned (.int .i64 (n:Int))∧n≤40∧Fo fs B g cap X ds w' ds' n∧(n=0→∀l,ds[a]?=some l→∀x∈m,x∈l):=by
 refine kgives_row hg hM hs hB hr (hM.rows b t m ht hm) (hs.short hg hm) hP (fun u l hu hl=>?_);by_cases e:b=a
 ·subst e;rw[hm]at hl;injection hl with hl;exact .inl (fun x hx=>hl ▸ hx)
 ·exact .inr (hM.sep b a t u e ht hu)
set_option maxRecDepth 100000 in
set_option maxHeartbeats 8000000 in
theorem kfollows_any[DP]{fs:List Fct}(hg:okGo [] fs)(v:Value)(k:Int)(p q:ByteArray)(hf:(⟨k,p,q⟩:Fct)∈fs)(B g cap:Nat)(dv:List Value)(ds:List (List ByteArray))(W0 W:World)(hB0:W0.heap.size=B)(hv:IsRows v (solR fs) W0)(hW:Below B W0 W)(hM:DuM W B g cap dv ds)(hs:SdL fs ds) :
  Calls Tryz.prog 22 #[v,.slice (some ⟨g,0,none⟩) (solR fs).length cap,.agg #[.int .i64 k,.string p,.string q]] W fun e w'=>∃(n:Nat) (ds':List (List ByteArray)),e=.returned (.int .i64 (n:Int))∧n≤2000∧Fo fs B g cap W ds w' ds' n∧(n=0→Cl fs ds ⟨k,p,q⟩):=by
 have hkd:=okGo_kinds hg ⟨k,p,q⟩ hf;have hp:p∈nsOf fs:=mem_ns.2 ⟨_,hf,.inl rfl⟩;have hq:q∈nsOf fs:=mem_ns.2 ⟨_,hf,.inr rfl⟩;have hN:(solR fs).length≤40:=by rw[sol_len];exact pnames_le hg
 have HAt:=hide (fun(s:ByteArray) (hs:s∈nsOf fs) (X:World) (hX:Below B W0 X)=>kat_any v (solR fs) s X (by omega) (hv.below (by rw[hB0];exact hX)) (sol_has hs));have hBW:B≤W.heap.size:=by rw[← hB0];exact hW.size
 have g0:=heap_new W (.cells #[.int .i64 k,.string p,.string q] 48);have b0:Below W.heap.size W (W.alloc (.cells #[.int .i64 k,.string p,.string q] 48)):=(Below.refl _ _).alloc (Nat.le_refl _) _;have x0:(W.alloc (.cells #[.int .i64 k,.string p,.string q] 48)).cell? ⟨W.heap.size,0,none⟩=some (.int .i64 k):=by rw[cell_at g0];rfl
 have x1:(W.alloc (.cells #[.int .i64 k,.string p,.string q] 48)).cell? ⟨W.heap.size,1,none⟩=some (.string p):=by rw[cell_at g0];rfl
 have x2:(W.alloc (.cells #[.int .i64 k,.string p,.string q] 48)).cell? ⟨W.heap.size,2,none⟩=some (.string q):=by rw[cell_at g0];rfl
 have hM1:=hM.below b0;have B1:Below B W (W.alloc (.cells #[.int .i64 k,.string p,.string q] 48)):=b0.mono hBW;have HP:=HAt.out p hp _ (hW.trans B1);have HQ:=HAt.out q hq _ (hW.trans B1);have HF:=hide (And.intro hf hg);have HM:=hide (And.intro hM1 (And.intro hs B1));have HW:=hide hW;clear hf hg hv g0 b0 hp hq hM hM1 hs B1 hW;simp only at hkd;obtain⟨hk1,hk4⟩:=hkd;go_enter Tryz.func22,Tryz.ntmps22
 go_wp2_with fail
 refine HP.mono ?_
 clear HP;rintro e W1 ⟨⟨ip,rp,rfl,hrp,hnp⟩,hW1⟩;subst hW1;go_wp2_with fail
 refine HQ.mono ?_
 clear HQ;rintro e W2 ⟨⟨iq,rq,rfl,hrq,hnq⟩,hW2⟩;subst hW2;have hipn:=(List.getElem?_eq_some_iff.1 hrp).1;have hiqn:=(List.getElem?_eq_some_iff.1 hrq).1;have hip':(ip:Int)<((solR fs).length:Int):=by omega
 have hiq':(iq:Int)<((solR fs).length:Int):=by omega
 have HI:=hide (And.intro hrp (And.intro hnp (And.intro hrq hnq)));obtain⟨up,lp,hup,hlp,cp,_⟩:=HM.out.1.get (i:=ip) (by rw[HM.out.2.1.len];exact hipn);obtain⟨uq,lq,huq,hlq,cq,_⟩:=HM.out.1.get (i:=iq) (by rw[HM.out.2.1.len];exact hiqn);have HL:=hide (And.intro hup (And.intro hlp (And.intro huq hlq)));clear hup hlp huq hlq hrp hnp hrq hnq;have hB1:B≤(W.alloc (.cells #[.int .i64 k,.string p,.string q] 48)).heap.size:=Nat.le_trans hBW (by simp);generalize W.alloc (.cells #[.int .i64 k,.string p,.string q] 48)=W1 at *;have hkc:k=1∨k=2∨k=3∨k=4:=by omega
 rcases hkc with rfl|rfl|rfl|rfl
 ·have bA:Below W1.heap.size W1 (W1.alloc (.cells #[.string q] 9)):=(Below.refl _ _).alloc (Nat.le_refl _) _;have HG:=kgives_row HF.out.2 (HM.out.1.below bA) HM.out.2.1 (Nat.le_trans hB1 bA.size) HI.out.1 (fl:=[q]) (own_one W1 q) (by simp) (by intro x hx;simp at hx;rw[hx,HI.out.2.1];exact .addr HF.out.1) (fun u l hu hl=>.inr (.inr (fun e=>by
   have:=((HM.out.1.rows ip u l hu hl).lt W1.heap.size (by rw[← e];rfl)).2;omega)))
  have HB9:=hide (bA.mono hB1);clear bA;go_wp2_with fail
  refine HG.mono ?_
  clear HG;rintro e W3 ⟨n,ds',rfl,hn9,hFo,hun⟩;have HR:Hid (Fo fs B g cap W ds W3 ds' n∧(n=0→Cl fs ds ⟨1,p,q⟩)):=hide ⟨⟨hFo.dm,hFo.sd,hFo.tt,hFo.un,(HM.out.2.2.trans HB9.out).trans hFo.bl⟩,fun e=>by
   refine⟨fun _ l hl=>?_,(fun h=>absurd h (by simp)),(fun h=>absurd h (by simp)),(fun h=>absurd h (by simp))⟩;have hu:=Ro.uniq HI.out.1 HL.out.2.1 (by rw[HI.out.2.1];exact hl);rw[hu];exact hun e lp HL.out.2.1 q (by simp)⟩
  clear hFo hun;go_wp2;go_ret
  exact⟨n,ds',rfl,by omega,HR.out⟩
 ·have HG:=kgives_rows HF.out.2 HM.out.1 HM.out.2.1 hB1 HI.out.1 HL.out.2.2.1 HL.out.2.2.2 (by
   intro x hx;rw[HI.out.2.1];have h9:=(HM.out.2.1.ok iq rq lq HI.out.2.2.1 HL.out.2.2.2).2 x hx;rw[HI.out.2.2.2]at h9;exact .copy HF.out.1 h9)
  go_wp2_with fail
  refine HG.mono ?_
  clear HG;rintro e W3 ⟨n,ds',rfl,hn9,hFo,hun⟩;have HR:Hid (Fo fs B g cap W ds W3 ds' n∧(n=0→Cl fs ds ⟨2,p,q⟩)):=hide ⟨⟨hFo.dm,hFo.sd,hFo.tt,hFo.un,HM.out.2.2.trans hFo.bl⟩,fun e=>by
   refine⟨(fun h=>absurd h (by simp)),fun _ l m hl hm=>?_,(fun h=>absurd h (by simp)),(fun h=>absurd h (by simp))⟩;have hu:=Ro.uniq HI.out.1 HL.out.2.1 (by rw[HI.out.2.1];exact hl);have hu2:=Ro.uniq HI.out.2.2.1 HL.out.2.2.2 (by rw[HI.out.2.2.2];exact hm);rw[hu,hu2];exact hun e lp HL.out.2.1⟩
  clear hFo hun;go_wp2;go_ret
  exact⟨n,ds',rfl,by omega,HR.out⟩
 ·clear cp cq;have hinit:Hid (Fo fs B g cap W ds W1 ds 0):=hide ⟨⟨_,HM.out.1⟩,HM.out.2.1,rfl,fun _=>rfl,HM.out.2.2⟩;go_wp2_with fail
  go_loopw [9,10] (fun nv iv wr=>∃(i n:Nat) (ds':List (List ByteArray)),nv=.int .i64 (n:Int)∧iv=.int .i64 (i:Int)∧i≤40∧n≤40*i∧Hid (Fo fs B g cap W ds wr ds' n∧(n=0→∀j y,j<i→lq[j]?=some y→∀o,Ro fs ds y o→∀x∈o,x∈lp))) (fun _ iv _=>41-(intOf iv).toNat)
  case atStart=>exact⟨0,0,ds,rfl,rfl,by omega,by omega,hide ⟨hinit.out,fun _ j y h=>absurd h (Nat.not_lt_zero _)⟩⟩
  case round=>
   obtain⟨i,n,ds',rfl,rfl,hi,hn,HR⟩:=hrel;obtain⟨dv',hM'⟩:=HR.out.1.dm;have hs':=HR.out.1.sd;have hBr:B≤wr.heap.size:=Nat.le_trans hBW HR.out.1.bl.size;obtain⟨tq,mq,htq,hmq,cq',oq⟩:=hM'.get (i:=iq) (by rw[hs'.len];exact hiqn);have hsh:=hs'.short HF.out.2 hmq;obtain⟨qa,qc,rfl,hqa⟩:=own_form oq;by_cases hlt:i<mq.length
   ·obtain⟨y,hy⟩:∃y,mq[i]?=some y:=⟨_,List.getElem?_eq_getElem hlt⟩;obtain⟨b1,hb1⟩:=hqa (by omega);subst hb1;have cy:=(own_cell oq).1 i (.string y) (by rw[List.getElem?_map,hy];rfl);have hPy:=(hs'.ok iq rq mq HI.out.2.2.1 hmq).2 y (List.mem_of_getElem? hy);rw[HI.out.2.2.2]at hPy;have hyn:=pts_ns hPy;have HAy:=HAt.out y hyn (wr) (HW.out.trans HR.out.1.bl);have HY:=hide (And.intro hy (And.intro hPy (And.intro htq hmq)));have HMM:=hide (And.intro hM' hs');clear hy hPy htq hmq oq hM' hs' hyn;go_wp2_with fail
    refine HAy.mono ?_
    clear HAy;rintro e w9 ⟨⟨iy,ry,rfl,hry,hny⟩,hw9⟩;subst hw9;have hiyn:=(List.getElem?_eq_some_iff.1 hry).1;have hiy':(iy:Int)<((solR fs).length:Int):=by omega
    obtain⟨ty,my,hty,hmy,cy2,_⟩:=HMM.out.1.get (i:=iy) (by rw[HMM.out.2.len];exact hiyn);have HG:=kgives_rows HF.out.2 HMM.out.1 HMM.out.2 hBr HI.out.1 hty hmy (by
     intro x hx;rw[HI.out.2.1];have h9:=(HMM.out.2.ok iy ry my hry hmy).2 x hx;rw[hny]at h9;exact .load HF.out.1 HY.out.2.1 h9)
    have HY2:=hide (And.intro hry (And.intro hny hmy));clear hty hmy hry hny;go_wp2_with fail
    refine HG.mono ?_
    clear HG;rintro e W5 ⟨n1,d5,rfl,hn1,hFo,hun⟩;have hF2:=HR.out.1.trans hFo;have hwn:IntKind.i64.wrap ((n:Int)+(n1:Int))=((n+n1:Nat):Int):=by rw[IntKind.wrap_i64];omega
    have HR2:Hid (Fo fs B g cap W ds W5 d5 (n+n1)∧(n+n1=0→∀j y,j<i+1→lq[j]?=some y→∀o,Ro fs ds y o→∀x∈o,x∈lp)):=hide ⟨hF2,fun e j z hj hz o ho x hx=>by
     have e0:n=0:=by omega
     have hds:=HR.out.1.un e0;by_cases hji:j<i
     ·exact HR.out.2 e0 j z hji hz o ho x hx
     ·obtain rfl:j=i:=by omega
      have hmq9:=HY.out.2.2.2;rw[hds,HL.out.2.2.2]at hmq9;injection hmq9 with hmq9;have hy9:=HY.out.1;rw[← hmq9,hz]at hy9;injection hy9 with hy9;subst hy9;have hmy9:=HY2.out.2.2;rw[hds]at hmy9;have ho9:=Ro.uniq HY2.out.1 hmy9 (by rw[HY2.out.2.1];exact ho);rw[ho9]at hx;exact hun (by omega) lp (by rw[hds];exact HL.out.2.1) x hx⟩
    clear hFo hun hF2;go_wp2;go_roundw
    case rel=>exact⟨i+1,n+n1,d5,by go_num,by go_num,by omega,by omega,HR2⟩
    case measure=>simp[intOf];omega
   ·have HE:Hid (n=0→Cl fs ds ⟨3,p,q⟩):=hide (fun e=>by
     refine⟨(fun h=>absurd h (by simp)),(fun h=>absurd h (by simp)),fun _ l m hl hm z hz o ho x hx=>?_,(fun h=>absurd h (by simp))⟩;have hu:=Ro.uniq HI.out.1 HL.out.2.1 (by rw[HI.out.2.1];exact hl);have hu2:=Ro.uniq HI.out.2.2.1 HL.out.2.2.2 (by rw[HI.out.2.2.2];exact hm);rw[hu2]at hz;rw[hu];have hds:=HR.out.1.un e;have hmq9:=hmq;rw[hds,HL.out.2.2.2]at hmq9;injection hmq9 with hmq9;obtain⟨j,hj⟩:=List.getElem?_of_mem hz;have hjl:=(List.getElem?_eq_some_iff.1 hj).1;exact HR.out.2 e j z (by rw[← hmq9]at hlt;omega) hj o ho x hx)
    clear hM' hs' htq hmq oq;go_wp2;go_ret
    exact⟨n,ds',rfl,by omega,HR.out.1,HE.out⟩
 ·clear cp cq;have hinit:Hid (Fo fs B g cap W ds W1 ds 0):=hide ⟨⟨_,HM.out.1⟩,HM.out.2.1,rfl,fun _=>rfl,HM.out.2.2⟩;go_wp2_with fail
  go_loopw [9,11] (fun nv iv wr=>∃(i n:Nat) (ds':List (List ByteArray)),nv=.int .i64 (n:Int)∧iv=.int .i64 (i:Int)∧i≤40∧n≤40*i∧Hid (Fo fs B g cap W ds wr ds' n∧(n=0→∀j y,j<i→lp[j]?=some y→∀o,Ro fs ds y o→∀x∈lq,x∈o))) (fun _ iv _=>41-(intOf iv).toNat)
  case atStart=>exact⟨0,0,ds,rfl,rfl,by omega,by omega,hide ⟨hinit.out,fun _ j y h=>absurd h (Nat.not_lt_zero _)⟩⟩
  case round=>
   obtain⟨i,n,ds',rfl,rfl,hi,hn,HR⟩:=hrel;obtain⟨dv',hM'⟩:=HR.out.1.dm;have hs':=HR.out.1.sd;have hBr:B≤wr.heap.size:=Nat.le_trans hBW HR.out.1.bl.size;obtain⟨tq,mq,htq,hmq,cq',oq⟩:=hM'.get (i:=ip) (by rw[hs'.len];exact hipn);have hsh:=hs'.short HF.out.2 hmq;obtain⟨qa,qc,rfl,hqa⟩:=own_form oq;by_cases hlt:i<mq.length
   ·obtain⟨y,hy⟩:∃y,mq[i]?=some y:=⟨_,List.getElem?_eq_getElem hlt⟩;obtain⟨b1,hb1⟩:=hqa (by omega);subst hb1;have cy:=(own_cell oq).1 i (.string y) (by rw[List.getElem?_map,hy];rfl);have hPy:=(hs'.ok ip rp mq HI.out.1 hmq).2 y (List.mem_of_getElem? hy);rw[HI.out.2.1]at hPy;have hyn:=pts_ns hPy;have HAy:=HAt.out y hyn (wr.drew) ((HW.out.trans HR.out.1.bl).drew);have HY:=hide (And.intro hy (And.intro hPy (And.intro htq hmq)));have HMM:=hide (And.intro hM' hs');clear hy hPy htq hmq oq hM' hs' hyn;have hMd:DuM wr.drew B g cap dv' ds':=HMM.out.1.below (Below.refl _ _).drew;obtain⟨t2,m2,ht2,hm2,cq2,_⟩:=HMM.out.1.get (i:=iq) (by rw[HMM.out.2.len];exact hiqn)
    have HG:Hid (∀(iy:Nat) (ry:RowD),(solR fs)[iy]?=some ry→ry.name=y→Calls Tryz.prog 36 #[.slice (some ⟨g,0,none⟩) (solR fs).length cap,.int .i64 (iy:Int),t2] wr.drew fun e w'=>∃(n:Nat) (d5:List (List ByteArray)),e=.returned (.int .i64 (n:Int))∧n≤40∧Fo fs B g cap wr.drew ds' w' d5 n∧(n=0→∀l,ds'[iy]?=some l→∀x∈m2,x∈l)):=hide (fun iy ry hry hny=>kgives_rows HF.out.2 hMd HMM.out.2 hBr hry ht2 hm2 (by
     intro x hx;rw[hny];have h9:=(HMM.out.2.ok iq rq m2 HI.out.2.2.1 hm2).2 x hx;rw[HI.out.2.2.2]at h9;exact .store HF.out.1 HY.out.2.1 h9))
    have HM2:=hide hm2;clear hMd ht2 hm2;go_wp2_with fail
    go_region_with (first
     |(go_at_call 35;refine HAy.mono ?_;clear HAy;rintro e w9 ⟨⟨iy,ry,rfl,hry,hny⟩,hw9⟩;subst hw9;have hG2:=HG.out iy ry hry hny;have HY2:=hide (And.intro hry hny);clear hry hny HG)
     | (go_at_call 36;refine hG2.mono ?_;clear hG2;rintro e W5 ⟨n1,d5,rfl,hn1,hFo,hun⟩;have hwn:IntKind.i64.wrap ((n:Int)+(n1:Int))=((n+n1:Nat):Int):=(by rw[IntKind.wrap_i64];omega);have HFo:=hide (And.intro hFo hun);clear hFo hun))
    all_goals
     have HR2:Hid (Fo fs B g cap W ds W5 d5 (n+n1)∧(n+n1=0→∀j y,j<i+1→lp[j]?=some y→∀o,Ro fs ds y o→∀x∈lq,x∈o)):=hide ⟨HR.out.1.trans ⟨HFo.out.1.dm,HFo.out.1.sd,HFo.out.1.tt,HFo.out.1.un,⟨HFo.out.1.bl.os,HFo.out.1.bl.tape,HFo.out.1.bl.output,HFo.out.1.bl.size,HFo.out.1.bl.block⟩⟩,fun e j z hj hz o ho x hx=>by
      have e0:n=0:=by omega
      have hds:=HR.out.1.un e0;by_cases hji:j<i
      ·exact HR.out.2 e0 j z hji hz o ho x hx
      ·obtain rfl:j=i:=by omega
       have hmq9:=HY.out.2.2.2;rw[hds,HL.out.2.1]at hmq9;injection hmq9 with hmq9;have hy9:=HY.out.1;rw[← hmq9,hz]at hy9;injection hy9 with hy9;subst hy9;obtain⟨jj,s,h1,h2,h3⟩:=ho;have hj9:=sol_nd h1 HY2.out.1 (by rw[h2,HY2.out.2]);subst hj9;have hm9:=HM2.out;rw[hds,HL.out.2.2.2]at hm9;injection hm9 with hm9;rw[hm9]at hx;exact HFo.out.2 (by omega) o (by rw[hds];exact h3) x hx⟩
     clear HFo;go_wp2;go_roundw
     case rel=>exact⟨i+1,n+n1,d5,by go_num,by go_num,by omega,by omega,HR2⟩
     case measure=>simp[intOf];omega
   ·have HE:Hid (n=0→Cl fs ds ⟨4,p,q⟩):=hide (fun e=>by
     refine⟨(fun h=>absurd h (by simp)),(fun h=>absurd h (by simp)),(fun h=>absurd h (by simp)),fun _ l m hl hm z hz o ho x hx=>?_⟩;have hu:=Ro.uniq HI.out.1 HL.out.2.1 (by rw[HI.out.2.1];exact hl);have hu2:=Ro.uniq HI.out.2.2.1 HL.out.2.2.2 (by rw[HI.out.2.2.2];exact hm);rw[hu]at hz;rw[hu2]at hx;have hds:=HR.out.1.un e;have hmq9:=hmq;rw[hds,HL.out.2.1]at hmq9;injection hmq9 with hmq9;obtain⟨j,hj⟩:=List.getElem?_of_mem hz;have hjl:=(List.getElem?_eq_some_iff.1 hj).1;exact HR.out.2 e j z (by rw[← hmq9]at hlt;omega) hj o ho x hx)
    clear hM' hs' htq hmq oq;go_wp2;go_ret
    exact⟨n,ds',rfl,by omega,HR.out.1,HE.out⟩
end
section
open Go.RowKit Go.Shelf Go.Maps
attribute [local go_sem] Oper.semAt_some
theorem tot_le{a b:List (List ByteArray)}(hl:a.length=b.length)(h:∀(i:Nat) x y,a[i]?=some x→b[i]?=some y→x.length≤y.length):tot a≤tot b:=by
 induction a generalizing b with
 |nil=>simp[tot]
 |cons x r ih=>
  cases b with
  |nil=>simp at hl
  |cons y s=>
   have h0:=h 0 x y rfl rfl;have h1:=ih (b:=s) (by simpa using hl) (fun i u v hu hv=>h (i+1) u v (by simpa using hu) (by simpa using hv));simp only[tot,List.map_cons,List.sum_cons]at h1 ⊢;omega
theorem tot_eq{a b:List (List ByteArray)}(hl:a.length=b.length)(h:∀(i:Nat) x y,a[i]?=some x→b[i]?=some y→x.length=y.length):tot a=tot b:=
 Nat.le_antisymm (tot_le hl (fun i x y h1 h2=>Nat.le_of_eq (h i x y h1 h2))) (tot_le hl.symm (fun i x y h1 h2=>Nat.le_of_eq (h i y x h2 h1).symm))
def totS[DP](fs:List Fct):Nat:=tot ((solR fs).map (·.to))
theorem sol_tnd[DP]{fs:List Fct}{r:RowD}(h:r∈solR fs):r.to.Nodup:=by
 unfold solR at h;obtain⟨a,_,rfl⟩:=List.mem_map.1 h;exact(ns_nodup fs).filter _
theorem SdL.le[DP]{fs:List Fct}{ds:List (List ByteArray)}(h:SdL fs ds):tot ds≤totS fs:=by
 refine tot_le (by rw[List.length_map];exact h.len) (fun i x y hx hy=>?_);rw[List.getElem?_map]at hy;cases hr:(solR fs)[i]? with
 |none=>rw[hr]at hy;cases hy
 |some r=>
  rw[hr]at hy;simp at hy;subst hy;obtain⟨h1,h2⟩:=h.ok i r x hr hx;exact nodup_le h1 (fun z hz=>((sol_row (List.mem_of_getElem? hr)).2 z).2 (h2 z hz))
theorem SdL.full[DP]{fs:List Fct}{ds:List (List ByteArray)}(h:SdL fs ds)(hc:∀f∈fs,Cl fs ds f):tot ds=totS fs:=by
 refine tot_eq (by rw[List.length_map];exact h.len) (fun i x y hx hy=>?_);rw[List.getElem?_map]at hy;cases hr:(solR fs)[i]? with
 |none=>rw[hr]at hy;cases hy
 |some r=>
  rw[hr]at hy;simp at hy;subst hy;obtain⟨h1,h2⟩:=h.ok i r x hr hx;have hm:=List.mem_of_getElem? hr;obtain⟨q1,q2⟩:=sol_row hm;refine Nat.le_antisymm (nodup_le h1 (fun z hz=>(q2 z).2 (h2 z hz))) (nodup_le (sol_tnd hm) (fun z hz=>?_));exact cl_all h hc ((q2 z).1 hz) q1 x ⟨i,r,hr,rfl,hx⟩
theorem totS_le[DP]{fs:List Fct}(h:okGo [] fs):totS fs≤1600:=by
 have hn:=pnames_le h;have key:∀(l:List (List ByteArray)),(∀x∈l,x.length≤40)→tot l≤40*l.length:=by
  intro l;induction l with
  |nil=>simp[tot]
  |cons x r ih=>
   intro hx;have h1:=hx x (by simp);have h2:=ih (fun y hy=>hx y (by simp[hy]));simp only[tot,List.map_cons,List.sum_cons,List.length_cons]at h2 ⊢;omega
 have:=key ((solR fs).map (·.to)) (fun x hx=>by
  obtain⟨r,hr,rfl⟩:=List.mem_map.1 hx;unfold solR at hr;obtain⟨b,hb,rfl⟩:=List.mem_map.1 hr;exact Nat.le_trans (List.length_filter_le _ _) hn)
 rw[List.length_map,sol_len]at this;unfold totS;omega
theorem tot_snoc(a:List (List ByteArray))(x:List ByteArray):tot (a++[x])=tot a+x.length:=by simp[tot]
structure EmI(W0 wr:World)(vd:Value)(dv:List Value)(i:Nat):Prop where
 len:dv.length=i
 row:wr.ownsRow W0.heap.size 44 1 vd i dv
 rows:∀(j:Nat) u,dv[j]?=some u→wr.ownsRow W0.heap.size 9 1 u 0 []
 sep:∀(i j:Nat) t u,i≠j→dv[i]?=some t→dv[j]?=some u→t.ownBlock=none∨t.ownBlock≠u.ownBlock
 blw:Below W0.heap.size W0 wr
theorem infoSl:(Tryz.prog.info? 44).map (fun i=>(i.zero,i.size,i.bytes))=some (some (.slice none 0 0),1,24):=by kernel_rfl
theorem EmI.add{W0 wr:World}{vd:Value}{dv:List Value}{i:Nat}(h:EmI W0 wr vd dv i)(hi:i≤1000) :
  ∃g cap w2,(Builtin.append_ #[56,56] 56 #[vd,.slice (some ⟨wr.heap.size+1,0,none⟩) 1 1]).run Tryz.prog ((wr.alloc (.cells #[] 9)).alloc (.cells #[.slice (some ⟨wr.heap.size,0,none⟩) 0 0] 44))=.ok (.slice (some ⟨g,0,none⟩) (i+1) cap) w2∧EmI W0 w2 (.slice (some ⟨g,0,none⟩) (i+1) cap) (dv++[.slice (some ⟨wr.heap.size,0,none⟩) 0 0]) (i+1):=by
 obtain⟨i0,hi0,hz0,hz1,hz2⟩:=info_parts infoSl;have z1:(wr.alloc (.cells #[] 9)).heap.size=wr.heap.size+1:=by simp
 have bA:Below wr.heap.size wr (wr.alloc (.cells #[] 9)):=(Below.refl _ _).alloc (Nat.le_refl _) _;have bB:Below wr.heap.size wr ((wr.alloc (.cells #[] 9)).alloc (.cells #[.slice (some ⟨wr.heap.size,0,none⟩) 0 0] 44)):=bA.alloc (by omega) _;have hrow:=own_below h.row bB;have hwB:=h.blw.size;obtain⟨g,cap,w2,hrun,hown,hgrow,hl,_⟩:=run_append_lies (P:=Tryz.prog) ((wr.alloc (.cells #[] 9)).alloc (.cells #[.slice (some ⟨wr.heap.size,0,none⟩) 0 0] 44)) 56 56 W0.heap.size 44 i0 (.slice none 0 0) 1 24 Tryz.underlying56 hi0 hz0 hz1 hz2 rfl (by decide) vd i dv hrow ⟨wr.heap.size+1,0,none⟩ 1 1 [.slice (some ⟨wr.heap.size,0,none⟩) 0 0] rfl (by
   have:=cells_new (wr.alloc (.cells #[] 9)) #[.slice (some ⟨wr.heap.size,0,none⟩) 0 0] 44 [.slice (some ⟨wr.heap.size,0,none⟩) 0 0] rfl;rw[z1]at this;exact this) (by intro u hu;simp at hu;rw[hu];rfl) (by omega) (by unfold maxLen;omega) (by omega) (Nat.le_trans hwB bB.size) _ rfl
 have kG:=kb_grown hgrow;have hne:∀ {t:Value} {l:List Value} {m:Nat} {Bx:Nat},((wr.alloc (.cells #[] 9)).alloc (.cells #[.slice (some ⟨wr.heap.size,0,none⟩) 0 0] 44)).ownsRow Bx 9 1 t m l→∀b∈vd.ownBlock.toList,t.ownBlock≠some b:=by
  intro t l m Bx ho b hb e;simp at hb;rcases own_ne ho hrow (by decide)with e2|e2
  ·rw[e2]at e;cases e
  ·exact e2 (by rw[e,hb])
 refine⟨g,cap,w2,hrun,⟨by simp[h.len],hown,?_,?_,h.blw.trans ((bB.mono hwB).trans (kG.below (Nat.le_trans hwB bB.size) (fun k hk=>(hrow.lt k (by simpa using hk)).1)))⟩⟩
 ·intro j u hu;by_cases hj:j<dv.length
  ·rw[List.getElem?_append_left hj]at hu;have ho:=own_below (h.rows j u hu) bB;exact own_kbL ho kG (hne ho)
  ·rw[List.getElem?_append_right (by omega)]at hu;have hj0:j-dv.length=0:=by
    have:=(List.getElem?_eq_some_iff.1 hu).1;simp at this;omega
   rw[hj0]at hu;simp at hu;subst hu;have ho:=own_below (World.ownsRow_made (e:=9) (size:=1) (base:=W0.heap.size) wr #[] 0 hwB (by unfold maxLen;omega) rfl) ((Below.refl _ _).alloc (Nat.le_refl _) (.cells #[.slice (some ⟨wr.heap.size,0,none⟩) 0 0] 44));exact own_kbL ho kG (hne ho)
 ·have lt:∀(j:Nat) t,dv[j]?=some t→∀b,t.ownBlock=some b→b<wr.heap.size:=fun j t ht b hb=>((h.rows j t ht).lt b hb).2
  intro i j t u hij ht hu;by_cases h1:i<dv.length
  ·rw[List.getElem?_append_left h1]at ht;by_cases h2:j<dv.length
   ·rw[List.getElem?_append_left h2]at hu;exact h.sep i j t u hij ht hu
   ·rw[List.getElem?_append_right (by omega)]at hu;have hj0:j-dv.length=0:=by
     have:=(List.getElem?_eq_some_iff.1 hu).1;simp at this;omega
    rw[hj0]at hu;simp at hu;subst hu;exact .inr (fun e=>by have:=lt i t ht wr.heap.size e;omega)
  ·rw[List.getElem?_append_right (by omega)]at ht;have hi0':i-dv.length=0:=by
    have:=(List.getElem?_eq_some_iff.1 ht).1;simp at this;omega
   rw[hi0']at ht;simp at ht;subst ht;have h2:j<dv.length:=by
    have:=(List.getElem?_eq_some_iff.1 hu).1;simp at this;omega
   rw[List.getElem?_append_left h2]at hu;exact .inr (fun e=>by have:=lt j u hu wr.heap.size e.symm;omega)
theorem EmI.start(W0:World):EmI W0 W0 (.slice none 0 0) [] 0:=⟨rfl,World.ownsRow_nil _ _ _ _,(fun j u h=>by simp at h),(fun i j t u _ h _=>by simp at h),Below.refl _ _⟩
theorem EmI.dum{W0 wr:World}{g cap n:Nat}{dv:List Value}(h:EmI W0 wr (.slice (some ⟨g,0,none⟩) n cap) dv n):DuM wr W0.heap.size g cap dv (List.replicate n []):=by
 refine⟨by rw[h.len,List.length_replicate],by rw[List.length_replicate];exact h.row,fun i u l hu hl=>?_,h.sep⟩;have:l=[]:=by
  have:=List.mem_of_getElem? hl;exact List.eq_of_mem_replicate this
 subst this;exact h.rows i u hu
end
end Go.Proofs.YtiamlbhkiehilaaGreatDoor
