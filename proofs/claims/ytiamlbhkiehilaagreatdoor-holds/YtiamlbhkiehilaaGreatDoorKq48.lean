import Derived.Test.YtiamlbhkiehilaaGreatDoorKq47
namespace Go.Proofs.YtiamlbhkiehilaaGreatDoor
section
open Go.RowKit Go.Shelf Go.Maps
attribute [local go_sem] Oper.semAt_some
attribute [-go_sem] Builtin.append_
theorem nmL_snoc(A:List Fct)(f:Fct):nmL (A++[f])=nmL A++[f.p,f.q]:=by simp[nmL]
theorem nmL_len(A:List Fct):(nmL A).length=2*A.length:=by
 induction A with
 |nil=>rfl
 |cons a r ih=>
  show([a.p,a.q]++nmL r).length=_;rw[List.length_append,ih];simp;omega
theorem tkL_snoc(A:List Fct)(f:Fct):tkL (A++[f])=tkL A++(if f.k=1 then [f.q]else []):=by
 unfold tkL;rw[List.filterMap_append];by_cases h:f.k=1<;>simp[h]
theorem tkL_len(A:List Fct):(tkL A).length≤A.length:=List.length_filterMap_le _ _
set_option maxRecDepth 100000 in
set_option maxHeartbeats 8000000 in
theorem holds_walk[DP](v:Value)(rs:List RawD)(way:Int)(w:World)(hT:Tab w)(hlen:rs.length≤maxLen)(hv:IsRaws v rs w)(hok:∀r∈rs,r.ok)(h1:inI way) :
  Calls Tryz.prog 4 #[v,.int .i64 way] w fun e w'=>e=.returned (.bool true)∧Below w.heap.size w w':=by
 have hgo:=kraw_ok rs (m:=100) (by omega);have HF:=kfacts_any v rs 100 w hlen (by omega) hv hok;have hfl:((rs.take 100).map RawD.fct).length≤100:=by rw[List.length_map,List.length_take];omega
 generalize (rs.take 100).map RawD.fct=fs at *;have HP:=hide (fun(v:Value) (W:World) (hv:IsFacts v fs W)=>kprint_any hgo v W hv);have HW:=hide (fun(W:World) (hT:Tab W)=>hT.ml.elim fun m hm=>works_any W m hm hT.mlt hT.tab hT.tlt);have HC1:=hide (fun W=>config_any way W h1.1 h1.2);rw[cfgV_way]at HC1;obtain⟨c1,hc1⟩:∃c,c=cfgW (pickB way 48):=⟨_,rfl⟩;have o1:0≤c1.order∧c1.order≤2:=by rw[hc1];exact cfgW_ord _
 rw[← hc1]at HC1;have HA1:=hide (fun(W:World) (hT:Tab W)=>ksolved_any hgo c1 o1 W hT);have HH:=hide (fun(v:Value) (k:Int) (p q:ByteArray) (hf:(⟨k,p,q⟩:Fct)∈fs) (W:World) (hv:IsRows v (solR fs) W)=>kholds_any hgo v k p q hf W hv);have hn1:=pnames_le hgo;have HS:Hid (∀r∈solR fs,r.to.length≤1000∧r.name∈nmL fs∧∀x∈r.to,x∈tkL fs):=by
  refine hide (fun r hr=>?_);obtain⟨q1,q2⟩:=sol_row hr;refine⟨?_,?_,fun x hx=>?_⟩
  ·unfold solR at hr;obtain⟨b,hb,rfl⟩:=List.mem_map.1 hr;exact Nat.le_trans (List.length_filter_le _ _) (by omega)
  ·obtain⟨f,hf,h9⟩:=mem_ns.1 q1;exact List.mem_flatMap.2 ⟨f,hf,by simpa using h9⟩
  ·obtain⟨p',hp'⟩:=pts_taken ((q2 x).1 hx);exact List.mem_filterMap.2 ⟨_,hp',by simp⟩
 have hsl:(solR fs).length≤40:=by rw[sol_len];exact hn1
 generalize txF fs=tf at *;generalize hR1:solR fs=R1 at *;have HT:=hide hT;clear hR1 hgo hlen hv hok h1 o1 hc1 hT hn1;go_enter Tryz.func4,Tryz.ntmps4
 go_wp2_with fail
 refine HF.mono ?_
 clear HF;rintro e W1 ⟨vl,rfl,hown,hb1⟩;obtain⟨la,lc,rfl,_⟩:=own_form hown;have hfc:=facts_of_owns hown;have HP1:=HP.out _ W1 hfc;clear hown HP;go_wp2_with fail
 refine HP1.mono ?_
 clear HP1;rintro e W2 ⟨rfl,hb2⟩;have B2:Below w.heap.size w W2:=hb1.trans (hb2.mono hb1.size);have f2:=heap_new W2 (.cells #[.int .i64 0,.int .i64 0] 27);have k2:Below W2.heap.size W2 (W2.alloc (.cells #[.int .i64 0,.int .i64 0] 27)):=(Below.refl _ _).alloc (Nat.le_refl _) _;have hfc3:=(hfc.below hb2).below k2;have B3:Below w.heap.size w (W2.alloc (.cells #[.int .i64 0,.int .i64 0] 27)):=B2.alloc B2.size _;clear hb1 hb2 B2 hfc k2;go_wp2_with fail
 generalize W2.heap.size=V2 at f2 ⊢;generalize W2.alloc (.cells #[.int .i64 0,.int .i64 0] 27)=W3 at f2 B3 hfc3 ⊢;refine(HW.out W3 (HT.out.below B3)).mono ?_
 clear HW;rintro e W4 ⟨rfl,hb4⟩;have f4:=Below.heapAt hb4 f2 (lt_of_heap f2);have hfc4:=hfc3.below hb4;have B4:Below w.heap.size w W4:=B3.trans (hb4.mono B3.size);clear f2 B3 hb4 hfc3;go_wp2_with fail
 refine(HC1.out W4).mono ?_
 clear HC1;rintro e W5 ⟨rfl,hb5⟩;have f5:=Below.heapAt hb5 f4 (lt_of_heap f4);have hfc5:=hfc4.below hb5;have B5:Below w.heap.size w W5:=B4.trans (hb5.mono B4.size);clear f4 B4 hb5 hfc4;go_wp2_with fail
 refine(HA1.out W5 (HT.out.below B5)).mono ?_
 clear HA1;rintro e W6 ⟨va,pa,rfl,hpa,hOa,hb6⟩;have hRa:IsRows va R1 W6:=by rw[← hpa];exact hOa.rows
 have f6:=Below.heapAt hb6 f5 (lt_of_heap f5);have hfc6:=hfc5.below hb6;have B6:Below w.heap.size w W6:=B5.trans (hb6.mono B5.size);obtain⟨x0,_,_,_⟩:=err_cells f6;obtain⟨ra,rc,rfl,hrc,hrn,hra⟩:=hRa;have HRa:Hid (IsRows (.slice ra R1.length rc) R1 W6):=hide ⟨ra,rc,rfl,hrc,hrn,hra⟩;obtain⟨fa,fc,hfe,_,_,hfa⟩:=hfc6;have hfe2:fa=la:=by injection hfe with h9 _ _;exact h9.symm
 subst hfe2;have HFa:=hide hfa;have HB:=hide B6;clear f5 B5 hb6 hOa hpa hfc5 f6 hra hfa hfe B6 HT hrc hrn;go_wp2_with fail
 go_loopw [11,12,13] (fun nv kv iv wr=>∃i:Nat,iv=.int .i64 i∧i≤fs.length∧Hid (HdI W6 wr (nmL (fs.take i)) (tkL (fs.take i)) nv kv)) (fun _ _ iv _=>fs.length-(intOf iv).toNat)
 case atStart=>exact⟨0,rfl,Nat.zero_le _,hide (HdI.start W6)⟩
 case round=>
  obtain⟨i,rfl,hi,HI⟩:=hrel;by_cases hlt:i<fs.length
  ·obtain⟨⟨k,p,q⟩,hf⟩:∃f,fs[i]?=some f:=⟨_,List.getElem?_eq_getElem hlt⟩;have hne:fs≠[]:=by intro e;rw[e]at hlt;simp at hlt
   obtain⟨b1,o1,h1,hb1,hf1⟩:=HFa.out hne;have hbr:=HI.out.blw;obtain⟨y0,y1,y2⟩:=hf1 i k p q hf;have a0:=(hbr.cell (p:=⟨b1,_,none⟩) hb1).trans y0;have a1:=(hbr.cell (p:=⟨b1,_,none⟩) hb1).trans y1;have a2:=(hbr.cell (p:=⟨b1,_,none⟩) hb1).trans y2;rw[h1];have HHo:=HH.out _ k p q (List.mem_of_getElem? hf) wr (HRa.out.below hbr);have HY:=hide (And.intro y0 (And.intro y1 y2));have HFi:=hide hf;clear hf1 hf hne y0 y1 y2 hbr;go_wp2_with fail
   refine HHo.mono ?_
   clear HHo;rintro e W7 ⟨rfl,hb7⟩;have HI7:=HI.out.below hb7;have c1:=(HI7.blw.cell (p:=⟨b1,_,none⟩) hb1).trans HY.out.2.1;have c2:=(HI7.blw.cell (p:=⟨b1,_,none⟩) hb1).trans HY.out.2.2;obtain⟨g,cp,w8,hrun,HI8⟩:=HI7.names p q (by rw[nmL_len,List.length_take];omega);have d0:=(HI8.blw.cell (p:=⟨b1,_,none⟩) hb1).trans HY.out.1;have d2:=(HI8.blw.cell (p:=⟨b1,_,none⟩) hb1).trans HY.out.2.2;have hrun2:(Builtin.append_ #[44,44] 44 #[u11,.slice (some ⟨W7.heap.size,0,none⟩) 2 2]).run Tryz.prog ((W7.alloc (.cells #[.string p,.string q] 9)).drew)=.ok (.slice (some ⟨g,0,none⟩) ((nmL (fs.take i)).length+2) cp) w8:=hrun;obtain⟨AP,hAP⟩:∃AP,Builtin.append_ #[44,44] 44 #[u11,.slice (some ⟨W7.heap.size,0,none⟩) 2 2]=AP:=⟨_,rfl⟩;rw[hAP]at hrun2;have hsn:fs.take (i+1)=fs.take i++[⟨k,p,q⟩]:=by rw[List.take_add_one,HFi.out];rfl
   have HN1:Hid (nmL (fs.take (i+1))=nmL (fs.take i)++[p,q]):=hide (by rw[hsn,nmL_snoc]);have HT1:Hid (tkL (fs.take (i+1))=tkL (fs.take i)++(if k=1 then [q]else [])):=hide (by rw[hsn,tkL_snoc]);have HTl:Hid ((tkL (fs.take i)).length≤10000):=hide (by have:=tkL_len (fs.take i);rw[List.length_take]at this;omega);have H8:=hide HI8;generalize (nmL (fs.take i)).length+2=nl at *;clear HI7 HI8 hb7 hrun hsn a0 a1 a2;by_cases hk:k=1
   ·subst hk;obtain⟨g2,cp2,w9,hrun9,HI9⟩:=H8.out.taken q HTl.out;have hrunB:(Builtin.append_ #[44,44] 44 #[u12,.slice (some ⟨w8.heap.size,0,none⟩) 1 1]).run Tryz.prog (w8.alloc (.cells #[.string q] 9))=.ok (.slice (some ⟨g2,0,none⟩) ((tkL (fs.take i)).length+1) cp2) w9:=hrun9;obtain⟨AQ,hAQ⟩:∃AQ,Builtin.append_ #[44,44] 44 #[u12,.slice (some ⟨w8.heap.size,0,none⟩) 1 1]=AQ:=⟨_,rfl⟩;rw[hAQ]at hrunB;have HF9:Hid (HdI W6 w9 (nmL (fs.take (i+1))) (tkL (fs.take (i+1))) (.slice (some ⟨g,0,none⟩) nl cp) (.slice (some ⟨g2,0,none⟩) ((tkL (fs.take i)).length+1) cp2)):=hide (by
     rw[HN1.out,HT1.out,if_pos rfl];exact HI9)
    generalize (tkL (fs.take i)).length+1=tl at *;clear HI9 hrun9 H8;go_wp2_with fail
    go_region
    all_goals
     go_wp2;go_roundw
     case rel=>exact⟨i+1,by go_num,hlt,HF9⟩
     case measure=>simp[intOf];omega
   ·have HF9:Hid (HdI W6 w8 (nmL (fs.take (i+1))) (tkL (fs.take (i+1))) (.slice (some ⟨g,0,none⟩) nl cp) u12):=hide (by
     rw[HN1.out,HT1.out,if_neg hk,List.append_nil];exact H8.out)
    clear H8;have hk1:(k == 1)=false:=by simpa using hk
    go_wp2_with fail
    go_region
    all_goals
     go_wp2;go_roundw
     case rel=>exact⟨i+1,by go_num,hlt,HF9⟩
     case measure=>simp[intOf];omega
  ·obtain rfl:i=fs.length:=by omega
   have HI2:=HI.out;rw[List.take_length]at HI2;have hBf:Below w.heap.size w wr:=HB.out.trans (HI2.blw.mono HB.out.size);have HNm:=hide (strs_of_owns HI2.nm);have HTk:=hide (strs_of_owns HI2.tk);have hRw:=HRa.out.below HI2.blw;obtain⟨ra2,rc2,hre,_,_,hra⟩:=hRw;have hre2:ra2=ra:=by injection hre with h9 _ _;exact h9.symm
   subst hre2;have HRw:=hide hra;have hl3:(nmL fs).length≤1000:=by rw[nmL_len];omega
   have hl4:(tkL fs).length≤1000:=by have:=tkL_len fs;omega
   have HBf:=hide hBf;clear hra hre HI2 hBf HI;go_wp2_with fail
   go_loop [15] (fun iv=>∃i:Nat,iv=.int .i64 i∧i≤R1.length) (fun iv=>R1.length-(intOf iv).toNat)
   case atStart=>exact⟨0,rfl,Nat.zero_le _⟩
   case round=>
    obtain⟨j,rfl,hj⟩:=hrel;by_cases hlt2:j<R1.length
    ·obtain⟨⟨x,tt⟩,hf⟩:∃f,R1[j]?=some f:=⟨_,List.getElem?_eq_getElem hlt2⟩;have hne:R1≠[]:=by intro e;rw[e]at hlt2;simp at hlt2
     obtain⟨b1,q1,h1,hb1,hf1⟩:=HRw.out hne;rw[h1];obtain⟨a0,tv,a1,htv⟩:=hf1 j x tt hf;obtain⟨z1,z2,z3⟩:=HS.out ⟨x,tt⟩ (List.mem_of_getElem? hf);simp only at z1 z2 z3;have HIn:=kin_any u11 (nmL fs) x wr (by omega) HNm.out;have HUn:=kunder_any tv u12 tt (tkL fs) wr (by omega) (by omega) htv HTk.out;have HZ:=hide (And.intro z2 z3);clear hf hf1 z1 z2 z3 htv hne;go_wp2_with fail
     refine HIn.mono ?_
     clear HIn;rintro e W9 ⟨⟨bb,rfl,hbb⟩,hW9⟩;subst hW9;have hb9:bb=true:=hbb.2 HZ.out.1;subst hb9;clear hbb;go_wp2_with fail
     refine HUn.mono ?_
     clear HUn;rintro e W9 ⟨⟨bc,rfl,hbc⟩,hW9⟩;subst hW9;have hb8:bc=true:=hbc.2 HZ.out.2;subst hb8;clear hbc HZ;go_wp2;go_round
     case rel=>exact⟨j+1,by go_num,hlt2⟩
     case measure=>simp[intOf];omega
    ·go_wp2;go_ret
     exact⟨rfl,HBf.out⟩
end
end Go.Proofs.YtiamlbhkiehilaaGreatDoor
