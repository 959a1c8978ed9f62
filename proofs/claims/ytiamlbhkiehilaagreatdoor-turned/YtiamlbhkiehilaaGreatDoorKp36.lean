import Derived.Test.YtiamlbhkiehilaaGreatDoorKp35
import Derived.Test.YtiamlbhkiehilaaGreatDoorKp15
import Derived.Test.YtiamlbhkiehilaaGreatDoorKp19
import Derived.Test.YtiamlbhkiehilaaGreatDoorKp10
import Derived.Test.YtiamlbhkiehilaaGreatDoorKp21
import Derived.Test.YtiamlbhkiehilaaGreatDoorKp12
import Derived.Test.YtiamlbhkiehilaaGreatDoorKp17
import Derived.Test.YtiamlbhkiehilaaGreatDoorKp31
namespace Go.Proofs.YtiamlbhkiehilaaGreatDoor
section
open Go.RowKit Go.Shelf
variable {B:Nat} {c:Way} {n:Nat} {s:St}
theorem WF.umono {ps:List (List Nat)} {a:Nat} (ha:a < n):∀ (l:List Nat) (x:Bool × St),WF n x.2→(∀ b∈l,b < n)→WF n (l.foldl (sstep ps a) x).2∧x.2.un≤(l.foldl (sstep ps a) x).2.un:=by
 intro l
 induction l with
 | nil=>exact fun x h _=>⟨h,Nat.le_refl _⟩
 | cons b r ih=>
  intro x h hl
  have hb:=hl b List.mem_cons_self
  have key:WF n (sstep ps a x b).2∧x.2.un≤(sstep ps a x b).2.un:=by
   unfold sstep
   split
   ·exact ⟨h.merge ha hb,(h.wmerge ha hb).2⟩
   ·exact ⟨h,Nat.le_refl _⟩
  obtain ⟨i1,i2⟩:=ih (sstep ps a x b) key.1 (fun y hy=>hl y (List.mem_cons_of_mem _ hy))
  exact ⟨i1,Nat.le_trans key.2 i2⟩
theorem WF.umonos {ps:List (List Nat)} {al:List Nat} (ht:∀ b∈al,b < n):∀ (l:List Nat) (x:Bool × St),WF n x.2→(∀ b∈l,b < n)→WF n (l.foldl (sround ps al) x).2∧x.2.un≤(l.foldl (sround ps al) x).2.un:=by
 intro l
 induction l with
 | nil=>exact fun x h _=>⟨h,Nat.le_refl _⟩
 | cons b r ih=>
  intro x h hr
  obtain ⟨j1,j2⟩:=WF.umono (ps:=ps) (hr b List.mem_cons_self) al x h ht
  obtain ⟨i1,i2⟩:=ih (sround ps al x b) j1 (fun y hy=>hr y (List.mem_cons_of_mem _ hy))
  exact ⟨i1,Nat.le_trans j2 i2⟩
theorem WF.same (h:WF n s) (ps:List (List Nat)):WF n (s.mergeSame n ps).2∧s.un≤(s.mergeSame n ps).2.un:=by
 rw [mergeSame_eq]
 exact WF.umonos (fun b hb=>h.allLt hb) (s.all n) (false,s) h (fun b hb=>h.allLt hb)
theorem subst_step {k j:Nat} {s sF:St} (h:St.substitute k n (j+1) s=some sF):∃ ps,s.partsOf k n=some ps∧(if (s.mergeSame n ps).1 then St.substitute k n j (s.mergeSame n ps).2 else some (s.mergeSame n ps).2)=some sF:=by
 unfold St.substitute at h
 cases e:s.partsOf k n with
 | none=>rw [e] at h; cases h
 | some ps=>rw [e] at h; exact ⟨ps,rfl,h⟩
theorem subst_un {k:Nat}:∀ (j:Nat) {s sF:St},WF n s→St.substitute k n j s=some sF→s.un≤sF.un:=by
 intro j
 induction j with
 | zero=>intro s sF _ h; cases h
 | succ j ih=>
  intro s sF hw h
  obtain ⟨ps,_,h2⟩:=subst_step h
  obtain ⟨w1,w2⟩:=hw.same ps
  cases e:(s.mergeSame n ps).1
  ·rw [e] at h2
   cases h2
   exact w2
  ·rw [e] at h2
   exact Nat.le_trans w2 (ih w1 h2)
def PartsOK (B:Nat) (c:Way) (n k:Nat):Prop:=∀ (s:St) (ps:List (List Nat)) (w:World) (G:GV),GM w B c n G s→WF n s→TabAt w→s.partsOf k n=some ps →
  Calls Tryz.prog 152 #[.pointer (some ⟨G.bg,0,none⟩)] w fun e w'=>∃ G' bp pv,e=.returned (.slice (some ⟨bp,0,none⟩) n n)∧GM w' B c n G' s∧GCh w w' G G'∧PS w' w.heap.size bp n pv ps∧∀ b∈pft bp pv,b ∉ G'.foot
def SB (w:World) (B:Nat) (c:Way) (n:Nat) (G:GV) (k:Nat) (sF:St) (W:World) (j:Nat):Prop:=
 ∃ s1 G1,GM W B c n G1 s1∧WF n s1∧GCh w W G G1∧St.substitute k n (j+1) s1=some sF
set_option maxRecDepth 100000 in
set_option maxHeartbeats 2000000 in
theorem subst_of (hTl:0 < B) (k:Nat) (hPa:PartsOK B c n k):SubstOK B c n k:=by
 intro s sF w G h hw hT hu he
 have hn:=h.n40
 have TT:Hid (∀ {W:World} {G':GV},GCh w W G G'→TabAt W):=hide (fun hc=>hT.kb hc.kb (fun hm=>by have:=(h.cells hm).1; omega))
 obtain ⟨kk,hkk⟩:∃ kk,k=kk+1:=by
  cases k with
  | zero=>cases he
  | succ kk=>exact ⟨kk,rfl⟩
 have hS0:Hid (SB w B c n G k sF w kk):=hide ⟨s,G,h,hw,GCh.refl _ _,by rw [← hkk]; exact he⟩
 clear hkk he
 go_enter Tryz.func111,Tryz.ntmps111
 go_wp2_with fail
 go_loopw [] (fun wr=>∃ j,Hid (SB w B c n G k sF wr j)) (fun wr=>leastOf (fun j=>Hid (SB w B c n G k sF wr j)))
 case atStart=>exact ⟨kk,hS0⟩
 case round=>
  have hrel2:=(leastOf_spec hrel).1
  obtain ⟨j,hj⟩:∃ j,j=leastOf (fun j=>Hid (SB w B c n G k sF wr j)):=⟨_,rfl⟩
  rw [← hj] at hrel2
  have HJ:=hide hj
  obtain ⟨s1,G1,hG1,hw1,hC1,hs1⟩:=hrel2.out
  clear hrel hrel2 hj
  obtain ⟨ps,hps,hst⟩:=subst_step hs1
  have hun:=subst_un (j+1) hw1 hs1
  have HPo:=hPa s1 ps wr G1 hG1 hw1 (TT.out hC1) hps
  rw [hC1.e1] at HPo
  have H1:=hide (And.intro hC1 (And.intro hst hps))
  clear hG1 hC1 hs1 hps hst
  go_wp2_with fail
  refine HPo.mono ?_
  clear HPo
  rintro e w2 ⟨G2,bp,pv,rfl,hG2,hC2,hP2,hd2⟩
  have hC12:=H1.out.1.trans hC2
  have HMs:=gsame_any bp wr.heap.size pv ps w2 G2 hG2 hw1 (TT.out hC12) hTl hP2.hb hP2.ln hP2.st (hd2 _ (mem_pft.2 (.inl rfl))) (fun v hv g hg=>hd2 g (by unfold pft; exact List.mem_cons_of_mem _ (List.mem_filterMap.2 ⟨v,hv,hg⟩))) (by omega)
  rw [hC12.e1] at HMs
  have H2:=hide hC12
  clear hG2 hC2 hP2 hd2 hC12
  go_wp2_with fail
  refine HMs.mono ?_
  clear HMs
  rintro e w3 ⟨rfl,G3,hG3,hC3⟩
  have hC13:=H2.out.trans hC3
  have hwS:=(hw1.same ps).1
  have hst:=H1.out.2.1
  cases hfl:(s1.mergeSame n ps).1
  ·rw [hfl] at hst
   have hst2:(s1.mergeSame n ps).2=sF:=by injection hst
   rw [hst2] at hG3
   have HFi:=hide (And.intro hG3 hC13)
   clear hG3 hC13 hst hst2 hwS H1
   go_wp2
   go_end0
   exact ⟨rfl,_,HFi.out⟩
  ·rw [hfl] at hst
   have hst2:St.substitute k n j (s1.mergeSame n ps).2=some sF:=hst
   obtain ⟨jj,hjj⟩:∃ jj,j=jj+1:=by
    cases j with
    | zero=>cases hst2
    | succ jj=>exact ⟨jj,rfl⟩
   have hSR2:Hid (SB w B c n G k sF w3 jj):=hide ⟨_,G3,hG3,hwS,hC13,by rw [← hjj]; exact hst2⟩
   clear hG3 hC13 hst hst2 hwS H1
   go_wp2
   go_roundw
   case rel=>exact ⟨jj,hSR2⟩
   case measure=>
    have h1:=(leastOf_spec (p:=fun j=>Hid (SB w B c n G k sF w3 j)) ⟨_,hSR2⟩).2 _ hSR2
    rw [← HJ.out]
    omega
end
section
open Go.RowKit Go.Maps
def rowLine (r:RowD):List UInt8:=r.name.data.toList ++ 58 :: toText r.to
theorem rowText_line (r:RowD):rowText r=rowLine r ++ [10]:=by simp [rowText,rowLine]
def nc (c:Int) (x:UInt8):Bool:=decide ((x.toNat:Int)≠c)
theorem stop_take (s:ByteArray) (c:Int):∀ (d k:Nat),s.size - k=d→k≤s.size→stop s c k=k+((s.data.toList.drop k).takeWhile (nc c)).length:=by
 intro d
 induction d with
 | zero=>
  intro k hd hk
  have:k=s.size:=by omega
  subst this
  rw [stop_end (Nat.le_refl _),List.drop_eq_nil_of_le (by simp)]
  rfl
 | succ d ih=>
  intro k hd hk
  have hlt:k < s.size:=by omega
  rw [drop_cons hlt]
  by_cases hp:(s[k].toNat:Int)=c
  ·rw [stop_yes hlt hp]
   simp [nc,hp]
  ·rw [stop_no hlt hp,ih (k+1) (by omega) hlt]
   simp [nc,hp]
   omega
theorem ext_take {s:ByteArray} {c:Int} {k:Nat} (hk:k≤s.size):(s.extract k (stop s c k)).data.toList=(s.data.toList.drop k).takeWhile (nc c):=by
 rw [ByteArray.data_extract,Array.toList_extract,List.extract_eq_take_drop,stop_take s c _ k rfl hk,Nat.add_sub_cancel_left,take_takeWhile]
theorem drop_stop {s:ByteArray} {c:Int} {k:Nat} (hk:k≤s.size):s.data.toList.drop (stop s c k)=(s.data.toList.drop k).dropWhile (nc c):=by
 rw [stop_take s c _ k rfl hk,← List.drop_drop,drop_takeWhile]
def okRows:ByteArray→List RowD→Prop
 | _,[]=>True
 | last,r :: q=>rowErr r last=0∧okRows r.name q
theorem rowErr_zero {r:RowD} {last:ByteArray}:rowErr r last=0↔rowNames r=true∧chk true r last=0:=by
 cases h:rowNames r
 ·simp [rowErr,h]
 ·simp [rowErr,chk,h]
theorem tell_ok {rs:List RowD}:∀ {last:ByteArray} {i:Nat} {acc:List UInt8},okRows last rs→(acc ++ rowsText rs).length≤25000→tellGo last i acc rs=(acc ++ rowsText rs,0,0):=by
 induction rs with
 | nil=>
  intro last i acc _ h
  simp only [rowsText,List.append_nil] at h ⊢
  simp only [tellGo]
  rw [if_neg (by omega)]
 | cons r q ih=>
  intro last i acc ho h
  simp only [tellGo,ho.1,if_true]
  rw [ih ho.2 (by simpa [rowsText] using h)]
  simp [rowsText]
end
section
open Go.RowKit Go.Maps
theorem name_nc {n:List UInt8} (h:nameB n=true) (c:Int) (hs:startB c=false) (hp:partB c=false):∀ x∈n,nc c x=true:=by
 obtain ⟨a,t,rfl,ha,ht⟩:=name_parts h
 intro x hx
 simp only [nc,decide_eq_true_eq]
 intro he
 rcases List.mem_cons.1 hx with h1 | h1
 ·rw [← h1,he,hs] at ha; cases ha
 ·have:=ht x h1
  unfold prt at this
  rw [he,hp] at this
  cases this
theorem toText_head (ts:List ByteArray):toText ts=[]∨∃ r,toText ts=32 :: r:=by
 cases ts with
 | nil=>exact .inl rfl
 | cons a q=>exact .inr ⟨_,rfl⟩
theorem take_name {n:List UInt8} (h:nameB n=true) (ts:List ByteArray):(n ++ toText ts).takeWhile (nc 32)=n∧(n ++ toText ts).dropWhile (nc 32)=toText ts:=by
 have hn:=name_nc h 32 (by decide) (by decide)
 rcases toText_head ts with e | ⟨r,e⟩
 ·rw [e,List.append_nil]
  exact takeWhile_end hn
 ·rw [e]
  exact takeWhile_all hn 32 r (by decide)
theorem tos_list (s:ByteArray):∀ (ts:List ByteArray) (i:Nat),i≤s.size→(∀ t∈ts,nameB t.data.toList=true)→s.data.toList.drop i=toText ts→tosR s i=ts:=by
 intro ts
 induction ts with
 | nil=>
  intro i hi _ h
  have hl:=congrArg List.length h
  rw [List.length_drop,Array.length_toList] at hl
  simp only [toText,List.length_nil] at hl
  exact tosR_end (show s.data.size≤i by omega)
 | cons t q ih=>
  intro i hi hn h
  have hlt:i < s.size:=by
   rcases Nat.lt_or_ge i s.size with h1 | h1
   ·exact h1
   ·rw [List.drop_eq_nil_of_le (by rw [Array.length_toList]; exact h1)] at h
    simp [toText] at h
  rw [drop_cons hlt,toText,List.cons_append] at h
  injection h with _ h
  obtain ⟨e1,e2⟩:=take_name (hn t (by simp)) q
  have e3:=ext_take (s:=s) (c:=32) (k:=i+1) hlt
  have e4:=drop_stop (s:=s) (c:=32) (k:=i+1) hlt
  rw [h] at e3 e4
  rw [e1] at e3
  rw [e2] at e4
  rw [tosR_step hlt,data_inj e3,ih _ (stop_le hlt) (fun x hx=>hn x (by simp [hx])) e4]
theorem line_row {r:RowD} (h:rowNames r=true):lineRow ⟨(rowLine r).toArray⟩=some r:=by
 have hr:=h
 simp only [rowNames,Bool.and_eq_true,List.all_eq_true,isN] at h
 obtain ⟨hn,ht⟩:=h
 have hd:(⟨(rowLine r).toArray⟩:ByteArray).data.toList=r.name.data.toList ++ 58 :: toText r.to:=by
  show (rowLine r).toArray.toList=_
  rw [List.toList_toArray]; rfl
 have hsz:(⟨(rowLine r).toArray⟩:ByteArray).size=r.name.data.toList.length+1+(toText r.to).length:=by
  rw [arr_size]; simp [rowLine]; omega
 generalize (⟨(rowLine r).toArray⟩:ByteArray)=s at hd hsz
 obtain ⟨e1,e2⟩:=takeWhile_all (p:=nc 58) (name_nc hn 58 (by decide) (by decide)) 58 (toText r.to) (by decide)
 have e3:=stop_take s 58 _ 0 rfl (Nat.zero_le _)
 have e4:=ext_take (s:=s) (c:=58) (k:=0) (Nat.zero_le _)
 have e5:=drop_stop (s:=s) (c:=58) (k:=0) (Nat.zero_le _)
 rw [List.drop_zero,hd,e1,Nat.zero_add] at e3
 rw [List.drop_zero,hd,e1] at e4
 rw [List.drop_zero,hd,e2] at e5
 have e6:s.data.toList.drop (stop s 58 0+1)=toText r.to:=by
  rw [← List.drop_drop,hd,e3,List.drop_left]
  rfl
 have e7:=tos_list s r.to (stop s 58 0+1) (by rw [e3]; omega) ht e6
 have href:refRow s=some r:=by
  unfold refRow
  rw [if_neg (by rw [e3]; omega),if_pos,e7,data_inj e4]
  by_cases hl:s.size≤stop s 58 0+1
  ·exact .inl hl
  ·right
   have hlt:stop s 58 0+1 < s.size:=by omega
   rcases toText_head r.to with e | ⟨q,e⟩
   ·rw [e] at hsz
    simp only [List.length_nil] at hsz
    omega
   ·rw [e,drop_cons hlt] at e6
    injection e6 with e6 _
    rw [byteAt_lt hlt,e6]
    rfl
 unfold lineRow
 rw [href]
 simp [hr]
theorem toText_nonl {ts:List ByteArray} (h:∀ t∈ts,nameB t.data.toList=true):∀ c∈toText ts,c≠10:=by
 induction ts with
 | nil=>simp [toText]
 | cons t q ih=>
  intro c hc
  simp only [toText,List.cons_append,List.mem_cons,List.mem_append] at hc
  rcases hc with rfl | hc | hc
  ·decide
  ·exact name_nonl (h t (by simp)) c hc
  ·exact ih (fun x hx=>h x (by simp [hx])) c hc
theorem rowLine_nonl {r:RowD} (h:rowNames r=true):∀ c∈rowLine r,c≠10:=by
 simp only [rowNames,Bool.and_eq_true,List.all_eq_true,isN] at h
 intro c hc
 simp only [rowLine,List.mem_append,List.mem_cons] at hc
 rcases hc with hc | rfl | hc
 ·exact name_nonl h.1 c hc
 ·decide
 ·exact toText_nonl h.2 c hc
theorem okRows_names {last:ByteArray} {rs:List RowD} (h:okRows last rs):∀ r∈rs,rowNames r=true:=by
 induction rs generalizing last with
 | nil=>simp
 | cons a q ih=>
  intro r hr
  rcases List.mem_cons.1 hr with rfl | hr
  ·exact (rowErr_zero.1 h.1).1
  ·exact ih h.2 r hr
theorem lnL_rows {rs:List RowD} (h:∀ r∈rs,rowNames r=true):lnL (rowsText rs)=rs.map rowLine ++ [[]]:=by
 induction rs with
 | nil=>rfl
 | cons a q ih=>
  rw [rowsText,rowText_line,List.append_assoc,List.singleton_append,lnL_pre _ _ (rowLine_nonl (h a (by simp))),ih (fun x hx=>h x (by simp [hx]))]
  rfl
theorem read_lines {rs:List RowD}:∀ {last:ByteArray} {pre:List RowD} {n:Nat},okRows last rs→readGo pre last n (rs.map (fun r=>⟨(rowLine r).toArray⟩) ++ [⟨#[]⟩])=(pre ++ rs,0,0):=by
 induction rs with
 | nil=>intro last pre n _; simp [readGo,ByteArray.size]
 | cons a q ih=>
  intro last pre n h
  obtain ⟨h1,h2⟩:=rowErr_zero.1 h.1
  have:=ih (last:=a.name) (pre:=pre ++ [a]) (n:=n+1) h.2
  rw [List.append_assoc,List.singleton_append] at this
  cases hq:q.map (fun r=>(⟨(rowLine r).toArray⟩:ByteArray)) ++ [⟨#[]⟩] with
  | nil=>simp at hq
  | cons l' t=>
   rw [List.map_cons,List.cons_append,hq,readGo_add (line_row h1) h2,← hq]
   exact this
theorem tell_read {rs:List RowD} (h:okRows noB rs) (hl:(rowsText rs).length≤25000):readB ⟨(rowsText rs).toArray⟩=(rs,0,0):=by
 have hls:linesB ⟨(rowsText rs).toArray⟩=rs.map (fun r=>⟨(rowLine r).toArray⟩) ++ [⟨#[]⟩]:=by
  apply map_inj
  rw [linesB_lnL]
  show lnL (rowsText rs).toArray.toList=_
  rw [List.toList_toArray,lnL_rows (okRows_names h),List.map_append,List.map_map]
  congr 1
 unfold readB
 rw [if_neg (by rw [arr_size]; omega),hls,read_lines h]
 rfl
end
section
open Go.RowKit Go.Maps
theorem asc_ascB {l:List ByteArray} (h:Asc l):ascB l=true:=by
 induction l with
 | nil=>rfl
 | cons a r ih=>
  cases r with
  | nil=>rfl
  | cons b q=>
   have h':=List.pairwise_cons.1 h
   simp only [ascB,Bool.and_eq_true]
   exact ⟨h'.1 b (by simp),ih h'.2⟩
theorem less_empty {n:ByteArray} (h:nameB n.data.toList=true):lessS noB n=true:=by
 obtain ⟨c,t,he,_,_⟩:=name_parts h
 unfold lessS
 rw [ByteArray.toList_eq,ByteArray.toList_eq,he]
 rfl
theorem okRows_map {F:ByteArray→List ByteArray}:∀ {l:List ByteArray} {last:ByteArray},Asc l→(∀ a∈l,lessS last a=true)→(∀ a∈l,isN a=true∧a.size≤12∧Asc (F a)∧∀ b∈F a,isN b=true∧b.size≤12)→okRows last (l.map fun a=>⟨a,F a⟩):=by
 intro l
 induction l with
 | nil=>intro last _ _ _; trivial
 | cons a q ih=>
  intro last hasc hlast hall
  have h':=List.pairwise_cons.1 hasc
  obtain ⟨h1,h2,h3,h4⟩:=hall a (by simp)
  refine ⟨rowErr_zero.2 ⟨?_,?_⟩,ih h'.2 (fun b hb=>h'.1 b hb) (fun b hb=>hall b (by simp [hb]))⟩
  ·simp only [rowNames,Bool.and_eq_true,List.all_eq_true]
   exact ⟨h1,fun b hb=>(h4 b hb).1⟩
  ·have e1:ascB (F a)=true:=asc_ascB h3
   have e2:rowLong ⟨a,F a⟩=false:=by
    simp only [rowLong,longS,Bool.or_eq_false_iff,decide_eq_false_iff_not,List.any_eq_false,decide_eq_true_eq]
    exact ⟨by omega,fun b hb=>by have:=(h4 b hb).2; omega⟩
   have e3:leqS a last=false:=by rw [leqS_eq,hlast a (by simp)]; rfl
   simp [chk,e1,e2,e3]
theorem toWidth_le {l:List ByteArray} (h:∀ b∈l,b.size≤12):toWidth l≤13 * l.length:=by
 induction l with
 | nil=>simp [toWidth]
 | cons a q ih=>
  have h1:=h a (by simp)
  have h2:=ih (fun b hb=>h b (by simp [hb]))
  simp only [toWidth,List.length_cons]
  omega
theorem rowsText_le {rs:List RowD} {m:Nat} (h:∀ r∈rs,r.name.size≤12∧r.to.length≤m∧∀ b∈r.to,b.size≤12):(rowsText rs).length≤(14+13 * m) * rs.length:=by
 induction rs with
 | nil=>simp [rowsText]
 | cons a q ih=>
  obtain ⟨h1,h2,h3⟩:=h a (by simp)
  have h4:=toWidth_le h3
  have h5:=ih (fun b hb=>h b (by simp [hb]))
  rw [rowsText,List.length_append,rowText_length,List.length_cons,Nat.mul_succ]
  have h6:13 * a.to.length≤13 * m:=Nat.mul_le_mul_left _ h2
  omega
theorem sol_ok [DP] {fs:List Fct} (h:okGo [] fs):okRows noB (solR fs)∧(rowsText (solR fs)).length≤25000:=by
 have hfact:=okGo_fact h
 have hsm:=(okGo_small h).1
 have hns:∀ a∈nsOf fs,nameB a.data.toList=true∧a.size≤12:=by
  intro a ha
  obtain ⟨f,hf,he⟩:=mem_ns.1 ha
  have h1:=hfact f hf
  simp only [factB,Bool.and_eq_true] at h1
  have h2:=hsm f hf
  rcases he with rfl | rfl
  ·exact ⟨h1.2.1,h2.1⟩
  ·exact ⟨h1.2.2,h2.2⟩
 have hasc:Asc (nsOf fs):=asc_names _
 have hlen:(nsOf fs).length≤40:=by
  rcases okGo_dcount h with h1 | h1
  ·subst h1; decide
  ·rw [List.nil_append,← names_length] at h1
   exact h1
 refine ⟨okRows_map hasc (fun a ha=>less_empty (hns a ha).1) (fun a ha=>⟨(hns a ha).1,(hns a ha).2,List.Pairwise.filter _ hasc,fun b hb=>?_⟩),?_⟩
 ·have:=(List.mem_filter.1 hb).1
  exact ⟨(hns b this).1,(hns b this).2⟩
 ·have:=rowsText_le (rs:=solR fs) (m:=40) (fun r hr=>by
   unfold solR at hr
   obtain ⟨a,ha,rfl⟩:=List.mem_map.1 hr
   exact ⟨(hns a ha).2,Nat.le_trans (List.length_filter_le _ _) hlen,fun b hb=>(hns b (List.mem_filter.1 hb).1).2⟩)
  have hl2:(solR fs).length=(nsOf fs).length:=by unfold solR; rw [List.length_map]
  rw [hl2] at this
  have h3:(14+13 * 40) * (nsOf fs).length≤(14+13 * 40) * 40:=Nat.mul_le_mul_left _ hlen
  omega
theorem Pts.mono {fs gs:List Fct} (h:∀ f∈fs,f∈gs) {a b:ByteArray} (hp:Pts fs a b):Pts gs a b:=by
 induction hp using Pts.ind with
 | addr hm=>exact .addr (h _ hm)
 | copy hm _ ih=>exact .copy (h _ hm) ih
 | load hm _ _ ih1 ih2=>exact .load (h _ hm) ih1 ih2
 | store hm _ _ ih1 ih2=>exact .store (h _ hm) ih1 ih2
theorem sol_same [DP] {fs gs:List Fct} (h:∀ f,f∈fs↔f∈gs) (hn:nsOf fs=nsOf gs):solR fs=solR gs:=by
 have hp:∀ a b,Pts fs a b↔Pts gs a b:=fun a b=>⟨Pts.mono (fun f hf=>(h f).1 hf),Pts.mono (fun f hf=>(h f).2 hf)⟩
 unfold solR
 rw [hn]
 refine List.map_congr_left fun a _=>?_
 congr 1
 exact List.filter_congr fun b _=>decide_eq_decide.2 (hp a b)
end
section
open Go.RowKit Go.Maps
variable {n:Nat} {s:St}
theorem ptn_pts {fs:List Fct} {ns:List ByteArray} (hasc:Asc ns) (hnd:ns.Nodup) (hin:∀ f∈fs,f.p∈ns∧f.q∈ns) {i j:Nat} {a b:ByteArray} (ha:ns[i]?=some a) (hb:ns[j]?=some b):PtN (fs.map (numF ns)) i j↔Pts fs a b:=by
 have num:∀ {k:Int} {p q:Nat},(k,p,q)∈fs.map (numF ns)→∃ f∈fs,f.k=k∧ns[p]?=some f.p∧ns[q]?=some f.q:=by
  intro k p q hm
  obtain ⟨f,hf,e⟩:=List.mem_map.1 hm
  unfold numF at e
  injection e with e0 e
  injection e with e1 e2
  exact ⟨f,hf,e0,by rw [← e1]; exact asc_mem hasc (hin f hf).1,by rw [← e2]; exact asc_mem hasc (hin f hf).2⟩
 have same:∀ {u:Nat} {x y:ByteArray},ns[u]?=some x→ns[u]?=some y→x=y:=fun h1 h2=>by rw [h1] at h2; injection h2
 constructor
 ·intro h
  obtain ⟨a',b',h1,h2,h3⟩:=h (fun i j=>∃ a b,ns[i]?=some a∧ns[j]?=some b∧Pts fs a b)
   (fun p q hm=>by
    obtain ⟨⟨k,fp,fq⟩,hf,hk,h1,h2⟩:=num hm
    simp only at hk h1 h2
    subst hk
    exact ⟨_,_,h1,h2,.addr hf⟩)
   (fun p q x hm ⟨a,b,h3,h4,h5⟩=>by
    obtain ⟨⟨k,fp,fq⟩,hf,hk,h1,h2⟩:=num hm
    simp only at hk h1 h2
    subst hk
    rw [← same h2 h3] at h5
    exact ⟨_,_,h1,h4,.copy hf h5⟩)
   (fun p q v x hm ⟨a,b,h3,h4,h5⟩ ⟨a',b',h6,h7,h8⟩=>by
    obtain ⟨⟨k,fp,fq⟩,hf,hk,h1,h2⟩:=num hm
    simp only at hk h1 h2
    subst hk
    rw [← same h2 h3] at h5
    rw [← same h4 h6] at h8
    exact ⟨_,_,h1,h7,.load hf h5 h8⟩)
   (fun p q v x hm ⟨a,b,h3,h4,h5⟩ ⟨a',b',h6,h7,h8⟩=>by
    obtain ⟨⟨k,fp,fq⟩,hf,hk,h1,h2⟩:=num hm
    simp only at hk h1 h2
    subst hk
    rw [← same h1 h3] at h5
    rw [← same h2 h6] at h8
    exact ⟨_,_,h4,h7,.store hf h5 h8⟩)
  rw [same ha h1,same hb h2]
  exact h3
 ·intro h
  have key:PtN (fs.map (numF ns)) (insAt ns a) (insAt ns b):=h (fun a b=>PtN (fs.map (numF ns)) (insAt ns a) (insAt ns b))
   (fun p q hm=>.addr (List.mem_map.2 ⟨_,hm,rfl⟩))
   (fun p q x hm h1=>.copy (List.mem_map.2 ⟨_,hm,rfl⟩) h1)
   (fun p q v x hm h1 h2=>.load (List.mem_map.2 ⟨_,hm,rfl⟩) h1 h2)
   (fun p q v x hm h1 h2=>.store (List.mem_map.2 ⟨_,hm,rfl⟩) h1 h2)
  rw [nd_inj hnd (asc_mem hasc (List.mem_of_getElem? ha)) ha,nd_inj hnd (asc_mem hasc (List.mem_of_getElem? hb)) hb] at key
  exact key
theorem canon_range {t:List Nat} (h:t=mkS (t.contains ·)) (hn:n≤128) (hb:∀ x∈t,x < n):t=(List.range n).filter (t.contains ·):=by
 have e:List.range 128=List.range n ++ (List.range (128 - n)).map (n + ·):=by
  rw [← List.range_add]
  congr 1
  omega
 have h2:mkS (t.contains ·)=(List.range n).filter (t.contains ·):=by
  unfold mkS
  rw [e,List.filter_append]
  have e2:((List.range (128 - n)).map (n + ·)).filter (t.contains ·)=[]:=by
   rw [List.filter_eq_nil_iff]
   intro x hx
   obtain ⟨y,_,rfl⟩:=List.mem_map.1 hx
   intro hc
   have:=hb _ (List.contains_iff_mem.1 hc)
   omega
  rw [e2,List.append_nil]
 exact h.trans h2
theorem list_range {α:Type} (l:List α) (d:α):l=(List.range l.length).map (l.getD · d):=by
 refine List.ext_getElem? fun i=>?_
 rw [List.getElem?_map]
 by_cases hi:i < l.length
 ·rw [List.getElem?_range hi,List.getElem?_eq_getElem hi]
  simp [List.getD_eq_getElem?_getD,hi]
 ·rw [List.getElem?_eq_none (by omega),List.getElem?_eq_none (by simp; omega)]
  rfl
theorem rows_sol [DP] {fs:List Fct} {sF:St} (hin:∀ f∈fs,f.p∈nsOf fs∧f.q∈nsOf fs) (hn:(nsOf fs).length≤40) (hsol:∀ i x,x∈sF.tg (sF.rep i)↔PtN (fs.map (numF (nsOf fs))) i x) (hbd:∀ k x,x∈sF.ss.getD k []→x < (nsOf fs).length)
  (hcan:∀ m,sF.ss.getD m []=mkS ((sF.ss.getD m []).contains ·)):rowsS sF (nsOf fs)=solR fs:=by
 have hasc:Asc (nsOf fs):=asc_names _
 have hnd:=ns_nodup fs
 generalize hns:nsOf fs=ns at *
 unfold rowsS solR
 rw [hns]
 refine List.ext_getElem? fun i=>?_
 rw [List.getElem?_map,List.getElem?_map]
 by_cases hi:i < ns.length
 ·obtain ⟨a,ha⟩:∃ a,ns[i]?=some a:=⟨_,List.getElem?_eq_getElem hi⟩
  have ea:ns.getD i ⟨#[]⟩=a:=by rw [List.getD_eq_getElem?_getD,ha]; rfl
  rw [List.getElem?_range hi,ha]
  simp only [Option.map_some,Option.some.injEq,RowD.mk.injEq]
  refine ⟨ea,?_⟩
  have e1:=canon_range (n:=ns.length) (hcan (7 * sF.rep i)) (by omega) (hbd _)
  have e1':sF.tg (sF.rep i)=(List.range ns.length).filter ((sF.tg (sF.rep i)).contains ·):=e1
  have e2:ns.filter (fun b=>decide (Pts fs a b))=((List.range ns.length).filter (fun j=>decide (Pts fs a (ns.getD j ⟨#[]⟩)))).map (ns.getD · ⟨#[]⟩):=by
   have:=list_range ns (⟨#[]⟩:ByteArray)
   rw [show ns.filter (fun b=>decide (Pts fs a b))=((List.range ns.length).map (ns.getD · ⟨#[]⟩)).filter (fun b=>decide (Pts fs a b)) by rw [← this],List.filter_map]
   rfl
  rw [e2,e1']
  congr 1
  refine List.filter_congr fun j hj=>?_
  have hj':=List.mem_range.1 hj
  obtain ⟨b,hb⟩:∃ b,ns[j]?=some b:=⟨_,List.getElem?_eq_getElem hj'⟩
  have eb:ns.getD j ⟨#[]⟩=b:=by rw [List.getD_eq_getElem?_getD,hb]; rfl
  rw [eb]
  have hiff:=(hsol i j).trans (ptn_pts hasc hnd hin ha hb)
  rw [Bool.eq_iff_iff,decide_eq_true_eq,List.contains_iff_mem]
  exact hiff
 ·rw [List.getElem?_eq_none (by simp; omega),List.getElem?_eq_none (by omega)]
  rfl
def unS (fs:List Fct) (c:Way):Nat:=((St.solve 5000 c (St.start (nsOf fs).length (fs.map (numF (nsOf fs)))) (nsOf fs).length).map (·.un)).getD 0
end
section
open Go.RowKit Go.Maps
variable {n:Nat} {s:St}
theorem subst_wu {k:Nat}:∀ (j:Nat) {s sF:St},WF n s→St.substitute k n j s=some sF→WU n s sF:=by
 intro j
 induction j with
 | zero=>intro s sF _ h; cases h
 | succ j ih=>
  intro s sF hw h
  obtain ⟨ps,_,h2⟩:=subst_step h
  obtain ⟨w1,w2⟩:=hw.same ps
  cases e:(s.mergeSame n ps).1
  ·rw [e] at h2
   cases h2
   exact ⟨w1,w2⟩
  ·rw [e] at h2
   have:=ih w1 h2
   exact ⟨this.1,Nat.le_trans w2 this.2⟩
theorem twins_wu {k:Nat} (hk:130≤k) {s s':St} (hw:WF n s) (h:s.findTwins k n=some s'):WU n s s':=by
 unfold St.findTwins at h
 refine foldO_wu (P:=(· < n)) (fun s x s1 hs hx e=>?_) (s.all n) s s' hw (fun x hx=>hw.allLt hx) h
 obtain ⟨t,e1,e2⟩:=twinsOf_some (i:=x) hk hs
 rw [e1] at e
 injection e with e
 rw [← e]
 exact ⟨hs.put (by omega) e2,Nat.le_refl _⟩
theorem ahead_wu {k:Nat} (hk:130≤k) {c:Way} {s s':St} (hw:WF n s) (h:s.lookAhead k c n=some s'):WU n s s':=by
 unfold St.lookAhead at h
 cases e1:(if c.subst=true then St.substitute k n k s else some s) with
 | none=>rw [e1] at h; cases h
 | some s1=>
  rw [e1] at h
  simp only [Option.bind_some] at h
  have h1:WU n s s1:=by
   cases e2:c.subst
   ·rw [e2] at e1
    cases e1
    exact WU.refl hw
   ·rw [e2] at e1
    exact subst_wu k hw e1
  cases e2:c.collapse
  ·rw [e2] at h
   cases h
   exact h1
  ·rw [e2] at h
   exact h1.trans (twins_wu hk h1.1 h)
end
section
open Go.RowKit Go.Shelf
attribute [local go_sem] Oper.semAt_some
variable {B:Nat} {c:Way} {n:Nat} {s:St}
theorem infoPt:(Tryz.prog.info? TP).map (fun i=>(i.zero,i.size,i.bytes))=some (some (.agg #[.slice none 0 0]),1,24):=by kernel_rfl
theorem made_parts (n:Nat):madeCells (Value.agg #[.slice none 0 0]).cells (n * 1)=(List.replicate n nilV).toArray:=by
 have e:(Value.agg #[.slice none 0 0]).cells=#[nilV]:=rfl
 rw [e]
 apply Array.ext
 ·simp [madeCells]
 ·intro i h1 h2
  simp [madeCells,Nat.mod_one]
theorem PS.start {W:World} {Bp bp n:Nat} (hb:W.heap[bp]?=some (.cells (List.replicate n nilV).toArray TP (0,0))) (hl:Bp≤bp):PS W Bp bp n (List.replicate n nilV) (List.replicate n []):=by
 have g1:∀ i,i < n→(List.replicate n nilV).getD i nilV=nilV:=fun i hi=>by simp [List.getD_eq_getElem?_getD,hi]
 refine ⟨hb,hl,by simp,by simp,fun i hi=>?_,fun i j hi hj _=>?_⟩
 ·rw [g1 i hi]
  have:(List.replicate n ([]:List Nat)).getD i []=[]:=by simp [List.getD_eq_getElem?_getD,hi]
  rw [this]
  exact SetV.nil _ _
 ·rw [g1 i hi]
  exact fun g hg=>by cases hg
def pstep (s:St) (n i:Nat) (ps:List (List Nat)) (t:Nat):List (List Nat):=St.partAdd (St.partAdd ps i t) (s.rep t) (n+s.rep t)
def pround (s:St) (n:Nat) (ps:List (List Nat)) (i:Nat):List (List Nat):=(s.tg i).foldl (pstep s n i) ps
theorem parts0_eq (s:St) (n:Nat):s.parts0 n=(List.range n).foldl (pround s n) (List.replicate n []):=rfl
def rstep (s:St) (n:Nat) (x:Bool × List (List Nat)) (i:Nat):Bool × List (List Nat):=((s.handParts x.2 i (2 * n+i)).1 || x.1,(s.handParts x.2 i (2 * n+i)).2)
theorem partsRound_eq (s:St) (n:Nat) (al:List Nat) (ps:List (List Nat)):s.partsRound n al ps=al.foldl (rstep s n) (false,ps):=rfl
structure PaI (w:World) (B:Nat) (c:Way) (n:Nat) (G:GV) (s:St) (bp:Nat) (L:List Nat) (bxs:List (Nat × Array Value × TypeId)) (vts:List (Value × List Nat × Nat)) (ds:List Nat) (W:World) (G':GV) (pv:List Value) (ps:List (List Nat)):Prop where
 li:LI w B c n G L bxs vts W s G'
 ps:PS W w.heap.size bp n pv ps
 dj:∀ b∈pft bp pv,b ∉ G'.foot
 dl:∀ b∈pft bp pv,b ∉ L
 db:∀ b∈pft bp pv,∀ q∈bxs,q.1≠b
 dv:∀ b∈pft bp pv,∀ q∈vts,q.1.ownBlock≠some b
 dd:∀ D∈ds,W.heap[D]?=some (.deferred (some []))
 nd:ds.Nodup
 lo:∀ D∈ds,w.heap.size≤D
variable {w:World} {G:GV} {bp:Nat} {L:List Nat} {bxs:List (Nat × Array Value × TypeId)} {vts:List (Value × List Nat × Nat)} {ds:List Nat} {W W':World} {G' G1:GV} {pv pv':List Value} {ps ps':List (List Nat)}
theorem PaI.step (h:PaI w B c n G s bp L bxs vts ds W G' pv ps) (h1:GM W' B c n G1 s) (hP:PS W' w.heap.size bp n pv' ps') (hc:PCh W W' G' G1 bp pv pv') :
  PaI w B c n G s bp L bxs vts ds W' G1 pv' ps'∧(∀ D,KeepsFrom D W W')∧KpB L W W':=by
 have kf:∀ D,KeepsFrom D W W':=fun D=>kb_keepsFrom hc.kb (fun b hb o ho=>by
  rcases List.mem_append.1 hb with hb | hb
  ·exact h.li.gm.isCells b hb o ho
  ·obtain ⟨_,_,cs,T,h2⟩:=h.ps.cells hb
   rw [h2] at ho
   cases ho
   rfl) D
 have out1:∀ b,b < W.heap.size→b ∉ G'.foot→b ∉ G1.foot:=fun b hb hn hm=>by
  rcases hc.ft b hm with h2 | h2
  ·exact hn h2
  ·omega
 have nw:∀ {b:Nat},b∈pft bp pv'→b < W.heap.size→b∈pft bp pv:=fun {b} hb hl=>by
  rcases hc.pf b hb with h2 | h2
  ·exact h2
  ·omega
 refine ⟨⟨⟨h1,?_,fun q hq=>?_,fun q hq=>?_,fun k hk=>?_⟩,hP,hc.dj,fun b hb hm=>?_,fun b hb q hq e=>?_,fun b hb q hq e=>?_,fun D hD=>(kf D).same D _ (Nat.le_refl _) (h.dd D hD) rfl,h.nd,h.lo⟩,kf,fun k hk=>?_⟩
 ·refine ⟨⟨hc.kb.os.trans h.li.ch.kb.os,hc.kb.tape.trans h.li.ch.kb.tape,hc.kb.output.trans h.li.ch.kb.output,Nat.le_trans h.li.ch.kb.size hc.kb.size,fun j hj hl=>?_⟩,fun b hb=>?_,hc.e1.trans h.li.ch.e1,hc.e2.trans h.li.ch.e2,hc.e3.trans h.li.ch.e3⟩
  ·refine (hc.kb.block j (Nat.lt_of_lt_of_le hj h.li.ch.kb.size) (fun hm=>?_)).trans (h.li.ch.kb.block j hj hl)
   rcases List.mem_append.1 hm with hm | hm
   ·rcases h.li.ch.ft j hm with h2 | h2
    ·exact hl h2
    ·omega
   ·have:=(h.ps.cells hm).1
    omega
  ·rcases hc.ft b hb with h2 | h2
   ·exact h.li.ch.ft b h2
   ·exact .inr (Nat.le_trans h.li.ch.kb.size h2)
 ·obtain ⟨a1,a2⟩:=h.li.bx q hq
  refine ⟨hc.kb.heap a1 (fun hm=>?_),out1 _ (lt_of_heap a1) a2⟩
  rcases List.mem_append.1 hm with hm | hm
  ·exact a2 hm
  ·exact h.db _ hm q hq rfl
 ·obtain ⟨a1,a2⟩:=h.li.vt q hq
  refine ⟨a1.kb hc.kb (fun g hg e=>?_),fun g hg=>out1 g (a1.lt hg).2 (a2 g hg)⟩
  rcases List.mem_append.1 hg with hg | hg
  ·exact a2 g e hg
  ·exact h.dv _ hg q hq e
 ·obtain ⟨a1,a2⟩:=h.li.lb k hk
  exact ⟨out1 k a2 a1,Nat.lt_of_lt_of_le a2 hc.kb.size⟩
 ·exact h.dl b (nw hb (h.li.lb b hm).2) hm
 ·have h2:=lt_of_heap (h.li.bx q hq).1
  exact h.db b (nw hb (by omega)) q hq e
 ·exact h.dv b (nw hb ((h.li.vt q hq).1.lt e).2) q hq e
 ·refine hc.kb.block k (h.li.lb k hk).2 (fun hm=>?_)
  rcases List.mem_append.1 hm with hm | hm
  ·exact (h.li.lb k hk).1 hm
  ·exact h.dl k hm hk
theorem PaI.call (h:PaI w B c n G s bp L bxs vts ds W G' pv ps) (h1:GM W' B c n G1 s) (hc:GCh W W' G' G1) :
  PaI w B c n G s bp L bxs vts ds W' G1 pv ps∧(∀ D,KeepsFrom D W W')∧KpB L W W':=by
 refine h.step h1 (h.ps.kb hc.kb (fun b hb hm=>h.dj b hm hb)) ⟨hc.kb.mono (fun k _ hk=>List.mem_append_left _ hk),hc.ft,fun b hb=>.inl hb,fun b hb hm=>?_,hc.e1,hc.e2,hc.e3⟩
 rcases hc.ft b hm with h2 | h2
 ·exact h.dj b hb h2
 ·have:=(h.ps.cells hb).2.1
  omega
theorem PaI.fresh (h:PaI w B c n G s bp L bxs vts ds W G' pv ps) (hk:Kb [] W W'):PaI w B c n G s bp L bxs vts ds W' G' pv ps∧(∀ D,KeepsFrom D W W')∧KpB L W W':=
 h.call (h.li.gm.fresh hk) ⟨hk.mono (by simp),fun _ hb=>.inl hb,rfl,rfl,rfl⟩
theorem PaI.put (h:PaI w B c n G s bp L bxs vts ds W G' pv ps) {y:Nat} (hy:y < n) {v':Value} {t:List Nat} (hC:SetCh W W' bp y pv.toArray TP (pv.getD y nilV) v') (hS:SetV W' w.heap.size v' t) :
  PaI w B c n G s bp L bxs vts ds W' G' (pv.set y v') (ps.set y t)∧(∀ D,KeepsFrom D W W')∧KpB L W W':=by
 obtain ⟨p1,p2,p3⟩:=h.ps.put hy hC hS
 refine h.step (h.li.gm.beside p2 h.dj) p1 ⟨p2.mono (fun k _ hk=>List.mem_append_right _ hk),fun b hb=>.inl hb,p3,fun b hb hm=>?_,rfl,rfl,rfl⟩
 rcases p3 b hb with h2 | h2
 ·exact h.dj b h2 hm
 ·have:=h.li.gm.footlt b hm
  omega
theorem PaI.own (h:PaI w B c n G s bp L bxs vts ds W G' pv ps) {D:Nat} (hD:w.heap.size≤D) (hds:∀ x∈ds,x < D) {row:Option Nat} (hg:W.grownBy W' row) (hr:∀ r,row=some r→D≤r∧∃ o:Obj,W.heap[r]?=some o∧o.isCells=false):PaI w B c n G s bp L bxs vts ds W' G' pv ps:=by
 have hk:=kb_grown hg
 refine ⟨h.li.own hD hg hr,h.ps.kb hk (fun b hb hm=>?_),h.dj,h.dl,h.db,h.dv,fun x hx=>?_,h.nd,h.lo⟩
 ·obtain ⟨_,o,ho,e⟩:=hr b (by simpa using hb)
  obtain ⟨_,_,cs,T,h2⟩:=h.ps.cells hm
  rw [ho] at h2
  cases h2
  cases e
 ·have h9:=h.dd x hx
  rw [← h9]
  refine hk.block x (lt_of_heap h9) (fun hm=>?_)
  have:=(hr x (by simpa using hm)).1
  have:=hds x hx
  omega
theorem PaI.setL (h:PaI w B c n G s bp L bxs vts ds W G' pv ps) {L':List Nat} (hL:∀ k∈L',k ∉ G'.foot∧k < W.heap.size∧k ∉ pft bp pv):PaI w B c n G s bp L' bxs vts ds W G' pv ps:=
 ⟨⟨h.li.gm,h.li.ch,h.li.bx,h.li.vt,fun k hk=>⟨(hL k hk).1,(hL k hk).2.1⟩⟩,h.ps,h.dj,fun b hb hm=>(hL b hm).2.2 hb,h.db,h.dv,h.dd,h.nd,h.lo⟩
theorem PaI.addD (h:PaI w B c n G s bp L bxs vts ds W G' pv ps) {D:Nat} (hD:W.heap[D]?=some (.deferred (some []))) (hn:∀ x∈ds,x < D) (hl:w.heap.size≤D):PaI w B c n G s bp L bxs vts (D :: ds) W G' pv ps:=by
 refine ⟨h.li,h.ps,h.dj,h.dl,h.db,h.dv,fun x hx=>?_,List.nodup_cons.2 ⟨fun hm=>Nat.lt_irrefl _ (hn D hm),h.nd⟩,fun x hx=>?_⟩
 ·rcases List.mem_cons.1 hx with rfl | hx
  ·exact hD
  ·exact h.dd x hx
 ·rcases List.mem_cons.1 hx with rfl | hx
  ·exact hl
  ·exact h.lo x hx
theorem PaI.addBox (h:PaI w B c n G s bp L bxs vts ds W G' pv ps) {b:Nat} {cs:Array Value} {T:TypeId} (hb:W.heap[b]?=some (.cells cs T (0,0))) (hn:b ∉ G'.foot) (hp:b ∉ pft bp pv):PaI w B c n G s bp L ((b,cs,T) :: bxs) vts ds W G' pv ps:=by
 refine ⟨h.li.addBox hb hn,h.ps,h.dj,h.dl,fun x hx q hq e=>?_,h.dv,h.dd,h.nd,h.lo⟩
 rcases List.mem_cons.1 hq with rfl | hq
 ·exact hp (by rw [show b=x from e]; exact hx)
 ·exact h.db x hx q hq e
theorem PaI.addSet (h:PaI w B c n G s bp L bxs vts ds W G' pv ps) {v:Value} {t:List Nat} {B':Nat} (hs:SetV W B' v t) (hn:∀ g,v.ownBlock=some g→g ∉ G'.foot) (hp:∀ g,v.ownBlock=some g→g ∉ pft bp pv):PaI w B c n G s bp L bxs ((v,t,B') :: vts) ds W G' pv ps:=by
 refine ⟨h.li.addSet hs hn,h.ps,h.dj,h.dl,h.db,fun x hx q hq e=>?_,h.dd,h.nd,h.lo⟩
 rcases List.mem_cons.1 hq with rfl | hq
 ·exact hp x e hx
 ·exact h.dv x hx q hq e
theorem PaI.subB (h:PaI w B c n G s bp L bxs vts ds W G' pv ps) {bxs':List (Nat × Array Value × TypeId)} (hs:∀ k∈bxs',k∈bxs):PaI w B c n G s bp L bxs' vts ds W G' pv ps:=
 ⟨h.li.subB hs,h.ps,h.dj,h.dl,fun b hb q hq=>h.db b hb q (hs q hq),h.dv,h.dd,h.nd,h.lo⟩
theorem PaI.side (h:PaI w B c n G s bp L bxs vts ds W G' pv ps) {M:List Nat} (hk:Kb M W W') (hM:∀ b∈M,w.heap.size≤b∧b ∉ G'.foot∧b ∉ pft bp pv∧b ∉ L∧(∀ q∈bxs,q.1≠b)∧(∀ q∈vts,q.1.ownBlock≠some b)∧∃ cs T,W.heap[b]?=some (.cells cs T (0,0))) :
  PaI w B c n G s bp L bxs vts ds W' G' pv ps∧(∀ D,KeepsFrom D W W')∧KpB L W W':=by
 have kf:∀ D,KeepsFrom D W W':=fun D=>kb_keepsFrom hk (fun b hb o ho=>by
  obtain ⟨_,_,_,_,_,_,cs,T,hc⟩:=hM b hb
  rw [hc] at ho
  cases ho
  rfl) D
 refine ⟨⟨⟨h.li.gm.beside hk (fun b hb=>(hM b hb).2.1),h.li.ch.beside hk (fun b hb=>(hM b hb).1),fun q hq=>⟨hk.heap (h.li.bx q hq).1 (fun hm=>(hM _ hm).2.2.2.2.1 q hq rfl),(h.li.bx q hq).2⟩,fun q hq=>⟨(h.li.vt q hq).1.kb hk (fun g hg=>(hM g hg).2.2.2.2.2.1 q hq),(h.li.vt q hq).2⟩,fun k hk2=>⟨(h.li.lb k hk2).1,Nat.lt_of_lt_of_le (h.li.lb k hk2).2 hk.size⟩⟩,h.ps.kb hk (fun b hb=>(hM b hb).2.2.1),h.dj,h.dl,h.db,h.dv,fun D hD=>(kf D).same D _ (Nat.le_refl _) (h.dd D hD) rfl,h.nd,h.lo⟩,kf,fun k hk2=>hk.block k (h.li.lb k hk2).2 (fun hm=>(hM k hm).2.2.2.1 hk2)⟩
theorem PaI.done (h:PaI w B c n G s bp L bxs vts ds W G' pv ps):GM (ds.foldl (fun W D=>W.putObj D (.deferred none)) W) B c n G' s∧GCh w (ds.foldl (fun W D=>W.putObj D (.deferred none)) W) G G'∧PS (ds.foldl (fun W D=>W.putObj D (.deferred none)) W) w.heap.size bp n pv ps∧∀ b∈pft bp pv,b ∉ G'.foot:=by
 have hk:=coll_kb ds W
 refine ⟨h.li.gm.beside hk (fun D hD=>h.li.gm.notfoot (h.dd D hD) rfl),h.li.ch.beside hk h.lo,h.ps.kb hk (fun D hD hm=>?_),h.dj⟩
 obtain ⟨_,_,cs,T,h2⟩:=h.ps.cells hm
 rw [h.dd D hD] at h2
 cases h2
def PaJ (w:World) (B:Nat) (c:Way) (n:Nat) (G:GV) (s:St) (bp:Nat) (L:List Nat) (bxs:List (Nat × Array Value × TypeId)) (vts:List (Value × List Nat × Nat)) (ds:List Nat) (ps:List (List Nat)) (W:World):Prop:=∃ G' pv,PaI w B c n G s bp L bxs vts ds W G' pv ps
end
end Go.Proofs.YtiamlbhkiehilaaGreatDoor
