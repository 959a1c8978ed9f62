import Derived.Test.YtiamlbhkiehilaaGreatDoorKq51
namespace Go.Proofs.YtiamlbhkiehilaaGreatDoor
section
open Go.RowKit Go.Shelf Go.Maps
attribute [local go_sem] Oper.semAt_some
attribute [-go_sem] Builtin.append_
def lbit:Value→Nat
 | .bool true=>1
 |_=>0
theorem tot_app(a b:List (List ByteArray)):tot (a++b)=tot a+tot b:=by simp[tot]
set_option maxRecDepth 100000 in
set_option maxHeartbeats 8000000 in
theorem least_walk[DP](v:Value)(rs:List RawD)(way:Int)(w:World)(hT:Tab w)(hlen:rs.length≤maxLen)(hv:IsRaws v rs w)(hok:∀r∈rs,r.ok)(h1:inI way) :
  Calls Tryz.prog 5 #[v,.int .i64 way] w fun e w'=>e=.returned (.bool true)∧Below w.heap.size w w':=by
 have hgo:=kraw_ok rs (m:=100) (by omega);have HF:=kfacts_any v rs 100 w hlen (by omega) hv hok;have hfl:((rs.take 100).map RawD.fct).length≤100:=by rw[List.length_map,List.length_take];omega
 generalize (rs.take 100).map RawD.fct=fs at *;have HP:=hide (fun(v:Value) (W:World) (hv:IsFacts v fs W)=>kprint_any hgo v W hv);have HW:=hide (fun(W:World) (hT:Tab W)=>hT.ml.elim fun m hm=>works_any W m hm hT.mlt hT.tab hT.tlt);have HC1:=hide (fun W=>config_any way W h1.1 h1.2);rw[cfgV_way]at HC1;obtain⟨c1,hc1⟩:∃c,c=cfgW (pickB way 48):=⟨_,rfl⟩;have o1:0≤c1.order∧c1.order≤2:=by rw[hc1];exact cfgW_ord _
 rw[← hc1]at HC1;have HA1:=hide (fun(W:World) (hT:Tab W)=>ksolved_any hgo c1 o1 W hT);have HPt:=hide (fun(v:Value) (W:World) (hv:IsRows v (solR fs) W) (a:ByteArray) (ha:a∈nsOf fs)=>kpts_sol hgo hv ha);have hn1:=pnames_le hgo;have HGO:=hide hgo;have hsl:(solR fs).length≤40:=by rw[sol_len];exact hn1
 generalize txF fs=tf at *;have HT:=hide hT;clear hgo hlen hv hok h1 o1 hc1 hT hn1;go_enter Tryz.func5,Tryz.ntmps5
 go_wp2_with fail
 refine HF.mono ?_
 clear HF;rintro e W1 ⟨vl,rfl,hown,hb1⟩;obtain⟨la,lc,rfl,_⟩:=own_form hown;have hfc:=facts_of_owns hown;have HP1:=HP.out _ W1 hfc;clear hown HP;go_wp2_with fail
 refine HP1.mono ?_
 clear HP1;rintro e W2 ⟨rfl,hb2⟩;have B2:Below w.heap.size w W2:=hb1.trans (hb2.mono hb1.size);have f2:=heap_new W2 (.cells #[.int .i64 0,.int .i64 0] 27);have k2:Below W2.heap.size W2 (W2.alloc (.cells #[.int .i64 0,.int .i64 0] 27)):=(Below.refl _ _).alloc (Nat.le_refl _) _;have hfc3:=(hfc.below hb2).below k2;have B3:Below w.heap.size w (W2.alloc (.cells #[.int .i64 0,.int .i64 0] 27)):=B2.alloc B2.size _;clear hb1 hb2 B2 hfc k2;go_wp2_with fail
 generalize W2.heap.size=V2 at f2 ⊢;generalize W2.alloc (.cells #[.int .i64 0,.int .i64 0] 27)=W3 at f2 B3 hfc3 ⊢;refine(HW.out W3 (HT.out.below B3)).mono ?_
 clear HW;rintro e W4 ⟨rfl,hb4⟩;have f4:=Below.heapAt hb4 f2 (lt_of_heap f2);have hfc4:=hfc3.below hb4;have B4:Below w.heap.size w W4:=B3.trans (hb4.mono B3.size);clear f2 B3 hb4 hfc3;go_wp2_with fail
 refine(HC1.out W4).mono ?_
 clear HC1;rintro e W5 ⟨rfl,hb5⟩;have f5:=Below.heapAt hb5 f4 (lt_of_heap f4);have hfc5:=hfc4.below hb5;have B5:Below w.heap.size w W5:=B4.trans (hb5.mono B4.size);clear f4 B4 hb5 hfc4;go_wp2_with fail
 refine(HA1.out W5 (HT.out.below B5)).mono ?_
 clear HA1;rintro e W6 ⟨va,pa,rfl,hpa,hOa,hb6⟩;have hRa:IsRows va (solR fs) W6:=by rw[← hpa];exact hOa.rows
 have f6:=Below.heapAt hb6 f5 (lt_of_heap f5);have hfc6:=hfc5.below hb6;have B6:Below w.heap.size w W6:=B5.trans (hb6.mono B5.size);obtain⟨x0,_,_,_⟩:=err_cells f6;obtain⟨ra,rc,rfl,hrc,hrn,hra⟩:=hRa;have HRa:Hid (IsRows (.slice ra (solR fs).length rc) (solR fs) W6):=hide ⟨ra,rc,rfl,hrc,hrn,hra⟩;obtain⟨fa,fc,hfe,_,_,hfa⟩:=hfc6;have hfe2:fa=la:=by injection hfe with h9 _ _;exact h9.symm
 subst hfe2;have HFa:=hide hfa;have HB:=hide B6;clear f5 B5 hb6 hOa hpa hfc5 f6 hfa hfe B6 HT hrc hrn;have HRw:=hide hra;clear hra;go_wp2_with fail
 go_loop [11] (fun iv=>∃i:Nat,iv=.int .i64 (i:Int)∧i≤fs.length) (fun iv=>fs.length-(intOf iv).toNat)
 case atStart=>exact⟨0,rfl,Nat.zero_le _⟩
 case round=>
  obtain⟨i,rfl,hi⟩:=hrel;by_cases hlt:i<fs.length
  ·obtain⟨⟨k,p,q⟩,hf⟩:∃f,fs[i]?=some f:=⟨_,List.getElem?_eq_getElem hlt⟩;have hne:fs≠[]:=by intro e;rw[e]at hlt;simp at hlt
   obtain⟨b1,o1,h1,hb1,hf1⟩:=HFa.out hne;obtain⟨y0,y1,y2⟩:=hf1 i k p q hf;rw[h1];have hm:=List.mem_of_getElem? hf;have HP9:=HPt.out _ W6 HRa.out p (mem_ns.2 ⟨_,hm,.inl rfl⟩);have HQ9:=HPt.out _ W6 HRa.out q (mem_ns.2 ⟨_,hm,.inr rfl⟩);clear hf1 hf hne hm;go_wp2_with fail
   refine HP9.mono ?_
   clear HP9;rintro e W9 ⟨⟨tw,tl,rfl,_,_,_⟩,hW9⟩;subst hW9;go_wp2_with fail
   refine HQ9.mono ?_
   clear HQ9;rintro e W9 ⟨⟨tw2,tl2,rfl,_,_,_⟩,hW9⟩;subst hW9;go_wp2;go_round
   case rel=>exact⟨i+1,by go_num,hlt⟩
   case measure=>simp[intOf];omega
  ·obtain rfl:i=fs.length:=by omega
   clear HPt;have hmk:∀w:World,(Instr.makeSlice 44 (.int .i64 0) (.int .i64 0)).run Tryz.prog w=.ok (.slice (some ⟨w.heap.size,0,none⟩) 0 0) (w.alloc (.cells #[] 9)):=by
    intro w;obtain⟨i0,hi0,hz0,hz1,hz2⟩:=info_parts infoStr;have:=run_make (P:=Tryz.prog) w 44 9 i0 _ Tryz.underlying44 hi0 hz0 .i64 .i64 0 0 (by omega) (Int.le_refl _) (by rw[hz2];omega) (by omega);rw[this,hz1];have e9:madeCells (Value.string ⟨#[]⟩).cells (Int.toNat 0*1)=#[]:=by
     apply Array.ext
     ·simp[madeCells]
     ·intro i h1 h2;simp at h2
    rw[e9];rfl
   have HST:=hide (EmI.start W6);have hT16:=totS_le HGO.out;have htk:∀n,n≤(solR fs).length→tot (((solR fs).take n).map (·.to))≤1600:=by
    intro n hn;refine Nat.le_trans ?_ hT16;unfold totS;have e9:=List.take_append_drop n (solR fs);have e8:(solR fs).map (·.to)=((solR fs).take n).map (·.to)++((solR fs).drop n).map (·.to):=by rw[← List.map_append,e9]
    rw[e8,tot_app];omega
   have HTK:=hide htk;clear htk;go_wp2_with fail
   go_loopw [16,17,18] (fun dvv lv iv wr=>∃(i tn:Nat) (dv:List Value) (da:Option Addr) (dc:Nat),dvv=.slice da i dc∧lv=.int .i64 (tn:Int)∧iv=.int .i64 (i:Int)∧i≤(solR fs).length∧tn≤1600∧Hid (tn=tot (((solR fs).take i).map (·.to))∧EmI W6 wr (.slice da i dc) dv i)) (fun _ _ iv _=>(solR fs).length-(intOf iv).toNat)
   case atStart=>exact⟨0,0,[],none,0,rfl,rfl,rfl,Nat.zero_le _,by omega,hide ⟨rfl,HST.out⟩⟩
   case round=>
    obtain⟨i,tn,dv,da,dc,rfl,rfl,rfl,hi2,htn,HI⟩:=hrel;by_cases hlt2:i<(solR fs).length
    ·obtain⟨⟨x,tt⟩,hx⟩:∃r,(solR fs)[i]?=some r:=⟨_,List.getElem?_eq_getElem hlt2⟩;have hneR:solR fs≠[]:=by intro e;rw[e]at hlt2;simp at hlt2
     obtain⟨b1,q1,h1,hb1,hf1⟩:=HRw.out hneR;rw[h1];obtain⟨_,tv,a1,htv⟩:=hf1 i x tt hx;obtain⟨ta,tc,rfl,_⟩:=htv;obtain⟨g2,cp2,w2,hrun,I2⟩:=HI.out.2.add (by omega);have c1:=(I2.blw.cell (p:=⟨b1,_,none⟩) hb1).trans a1;obtain⟨AP,hAP⟩:∃AP,Builtin.append_ #[56,56] 56 #[.slice da i dc,.slice (some ⟨wr.heap.size+1,0,none⟩) 1 1]=AP:=⟨_,rfl⟩;rw[hAP]at hrun;have htn2:tn+tt.length=tot (((solR fs).take (i+1)).map (·.to)):=by
      rw[List.take_add_one,hx,List.map_append];show _=tot (_++[tt]);rw[tot_snoc,HI.out.1]
     have htn3:tn+tt.length≤1600:=by rw[htn2];exact HTK.out _ hlt2
     have hwn:IntKind.i64.wrap ((tn:Int)+(tt.length:Int))=((tn+tt.length:Nat):Int):=by rw[IntKind.wrap_i64];omega
     have HN:=hide (And.intro htn2 I2);clear hf1 hx htn2 I2 hneR a1;go_wp2_with fail
     go_roundw
     case rel=>exact⟨i+1,tn+tt.length,_,some ⟨g2,0,none⟩,cp2,rfl,by go_num,by go_num,hlt2,htn3,HN⟩
     case measure=>simp[intOf];omega
    ·obtain rfl:i=(solR fs).length:=by omega
     obtain⟨ht9,I9⟩:=HI.out;rw[List.take_length]at ht9;have ht8:tn=totS fs:=ht9;clear HI HTK HST ht9;by_cases hN0:(solR fs).length=0
     ·have hfs0:fs=[]:=by
       cases fs with
       |nil=>rfl
       |cons f r=>
        exfalso;have hm:f.p∈nsOf (f::r):=mem_ns.2 ⟨f,by simp,.inl rfl⟩;rw[sol_len]at hN0;rw[List.length_eq_zero_iff.1 hN0]at hm;simp at hm
      have hle1:(fs.length:Int)≤0:=by rw[hfs0];decide
      have hle2:((solR fs).length:Int)≤0:=by omega
      have ht0:tn=0:=by
       rw[ht8];unfold totS;rw[List.length_eq_zero_iff.1 hN0];rfl
      have HT0:=hide ht0;have HB9:Hid (Below w.heap.size w wr):=hide (HB.out.trans (I9.blw.mono HB.out.size));clear hfs0 ht0 ht8 I9 hN0;go_wp2_with fail
      go_loopw [17,19] (fun lv cv wr'=>∃ch:Bool,lv=.int .i64 0∧cv=.bool ch∧Hid (Below w.heap.size w wr')) (fun _ cv _=>lbit cv)
      case atStart=>exact⟨true,by rw[HT0.out];rfl,rfl,HB9⟩
      case round=>
       obtain⟨ch,rfl,rfl,HB8⟩:=hrel;cases ch
       ·go_wp2_with fail
        go_loop [22] (fun iv=>iv=.int .i64 0) (fun _=>0)
        case atStart=>rfl
        case round=>
         subst hrel;go_wp2;exact bodyPost_ret (v:=.bool true) (by simp[results,Tryz.results5,go_sem]) rfl ⟨rfl,HB8.out⟩
       ·go_wp2_with fail
        go_loop [17,19,20] (fun lv cv iv=>lv=.int .i64 0∧cv=.bool false∧iv=.int .i64 0) (fun _ _ _=>0)
        case atStart=>exact⟨rfl,rfl,rfl⟩
        case round=>
         obtain⟨rfl,rfl,rfl⟩:=hrel;go_wp2;go_roundw
         case rel=>exact⟨false,rfl,rfl,HB8⟩
         case measure=>simp[lbit]
     ·obtain⟨g,cp,hge,_,_⟩:=I9.row.form (by omega);injection hge with e1 _ e3;subst e1 e3;have hM0:=I9.dum;have hS0:SdL fs (List.replicate (solR fs).length []):=by
       refine⟨List.length_replicate,fun i r l _ hl=>?_⟩;have:l=[]:=List.eq_of_mem_replicate (List.mem_of_getElem? hl);subst this;exact⟨List.nodup_nil,by simp⟩
      have hT0:tot (List.replicate (solR fs).length ([]:List ByteArray))=0:=by simp[tot]
      have H0:Hid ((∃dv,DuM wr W6.heap.size g dc dv (List.replicate (solR fs).length []))∧SdL fs (List.replicate (solR fs).length [])∧Below W6.heap.size W6 wr):=hide ⟨⟨dv,hM0⟩,hS0,I9.blw⟩;have hSt:tn+tot (List.replicate (solR fs).length ([]:List ByteArray))=totS fs:=by rw[hT0,ht8];rfl
      generalize List.replicate (solR fs).length ([]:List ByteArray)=D0 at *;clear hM0 hS0 hT0 I9 ht8;have hTot:=totS_le HGO.out;go_wp2_with fail
      go_loopw [17,19] (fun lv cv wr=>∃(t:Nat) (ch:Bool) (ds:List (List ByteArray)),lv=.int .i64 (t:Int)∧cv=.bool ch∧t+tot ds=totS fs∧Hid ((∃dv,DuM wr W6.heap.size g dc dv ds)∧SdL fs ds∧Below W6.heap.size W6 wr∧(ch=false→∀f∈fs,Cl fs ds f))) (fun lv cv _=>2*(intOf lv).toNat+lbit cv)
      case atStart=>exact⟨tn,true,D0,rfl,rfl,hSt,hide ⟨H0.out.1,H0.out.2.1,H0.out.2.2,(fun h=>by cases h)⟩⟩
      case round=>
       obtain⟨t,ch,ds,rfl,rfl,htt,HL⟩:=hrel;cases ch
       ·obtain⟨⟨dv5,hM5⟩,hS5,hb5,hc5⟩:=HL.out;have ht0:t=0:=by
         have:=hS5.full (hc5 rfl);omega
        have HT0:=hide ht0;clear ht0;have HM5:=hide (And.intro hM5 (And.intro hS5 hb5));clear hM5 hb5 hc5 HL htt;go_wp2_with fail
        go_loopw [22] (fun iv wr'=>∃j:Nat,iv=.int .i64 (j:Int)∧j≤(solR fs).length∧Hid (DuM wr' W6.heap.size g dc dv5 ds∧Below W6.heap.size W6 wr')) (fun iv _=>(solR fs).length-(intOf iv).toNat)
        case atStart=>exact⟨0,rfl,Nat.zero_le _,hide ⟨HM5.out.1,HM5.out.2.2⟩⟩
        case round=>
         obtain⟨j,rfl,hj,HJ⟩:=hrel;by_cases hlt5:j<(solR fs).length
         ·obtain⟨⟨x,tt⟩,hx⟩:∃r,(solR fs)[j]?=some r:=⟨_,List.getElem?_eq_getElem hlt5⟩;have hneR:solR fs≠[]:=by intro e;rw[e]at hlt5;simp at hlt5
          obtain⟨b1,q1,h1,hb1,hf1⟩:=HRw.out hneR;rw[h1];obtain⟨_,tv,a1,htv⟩:=hf1 j x tt hx;have c1:=(HJ.out.2.cell (p:=⟨b1,_,none⟩) hb1).trans a1;obtain⟨u5,l5,hu5,hl5,cu5,ho5⟩:=HJ.out.1.get (i:=j) (by rw[hS5.len];exact hlt5);have hsh:=hS5.short HGO.out hl5;have hj5:(j:Int)<((solR fs).length:Int):=by omega
          have htl:tt.length≤1000:=by
           have hm:=List.mem_of_getElem? hx;unfold solR at hm;obtain⟨b,hb,e9⟩:=List.mem_map.1 hm;have e8:tt=((nsOf fs).filter fun b'=>decide (Pts fs b b')):=by injection e9 with _ e9;exact e9.symm
           rw[e8];exact Nat.le_trans (List.length_filter_le _ _) (by rw[← sol_len];omega)
          have HU:=kunder_any u5 tv l5 tt wr.drew (by omega) (by omega) (strs_of_owns (own_below ho5 ((Below.refl _ _).drew))) (htv.below ⟨HJ.out.2.os,HJ.out.2.tape,HJ.out.2.output,HJ.out.2.size,HJ.out.2.block⟩);have HS9:Hid (∀z∈l5,z∈tt):=hide (fun z hz=>((sol_row (List.mem_of_getElem? hx)).2 z).2 ((hS5.ok j ⟨x,tt⟩ l5 hx hl5).2 z hz));have HJ2:Hid (DuM wr.drew W6.heap.size g dc dv5 ds∧Below W6.heap.size W6 wr.drew):=hide ⟨HJ.out.1.below (Below.refl _ _).drew,HJ.out.2.drew⟩;clear hf1 hx hneR a1 htv ho5 hu5 hl5 htl;go_wp2_with fail
          go_region_with (go_at_call 20;refine HU.mono ?_;clear HU;rintro e w9 ⟨⟨bb,rfl,hbb⟩,hw9⟩;have hb9:bb=true:=hbb.2 HS9.out;subst hb9;subst hw9;clear hbb)
          all_goals
           go_wp2;go_roundw
           case rel=>exact⟨j+1,by go_num,hlt5,HJ2⟩
           case measure=>simp[intOf];omega
         ·have HBf:Hid (Below w.heap.size w wr):=hide (HB.out.trans (HJ.out.2.mono HB.out.size));obtain rfl:t=0:=HT0.out;go_wp2;go_ret
          exact⟨rfl,HBf.out⟩
       ·have HT1:=hide htt;go_wp2_with fail
        go_loopw [17,19,20] (fun lv cv iv wr'=>∃(t':Nat) (ch:Bool) (i:Nat) (ds':List (List ByteArray)),lv=.int .i64 (t':Int)∧cv=.bool ch∧iv=.int .i64 (i:Int)∧i≤fs.length∧t'+tot ds'=totS fs∧Hid ((∃dv,DuM wr' W6.heap.size g dc dv ds')∧SdL fs ds'∧Below W6.heap.size W6 wr'∧(ch=true→tot ds<tot ds')∧(ch=false→ds'=ds∧∀(j:Nat) f,j<i→fs[j]?=some f→Cl fs ds f))) (fun _ _ iv _=>fs.length-(intOf iv).toNat)
        case atStart=>exact⟨t,false,0,ds,rfl,rfl,rfl,Nat.zero_le _,htt,hide ⟨HL.out.1,HL.out.2.1,HL.out.2.2.1,(fun h=>by cases h),fun _=>⟨rfl,fun j f h=>absurd h (Nat.not_lt_zero _)⟩⟩⟩
        case round=>
         obtain⟨t',ch,i,ds',rfl,rfl,rfl,hi3,htt',HI⟩:=hrel;by_cases hlt3:i<fs.length
         ·obtain⟨⟨k,p,q⟩,hf⟩:∃f,fs[i]?=some f:=⟨_,List.getElem?_eq_getElem hlt3⟩;have hne:fs≠[]:=by intro e;rw[e]at hlt3;simp at hlt3
          obtain⟨b1,o1,h1,hb1,hf1⟩:=HFa.out hne;obtain⟨⟨dv',hM'⟩,hS',hbr,hc1,hc2⟩:=HI.out;obtain⟨y0,y1,y2⟩:=hf1 i k p q hf;have a0:=(hbr.cell (p:=⟨b1,_,none⟩) hb1).trans y0;have a1:=(hbr.cell (p:=⟨b1,_,none⟩) hb1).trans y1;have a2:=(hbr.cell (p:=⟨b1,_,none⟩) hb1).trans y2;rw[h1];have HFo:=kfollows_any HGO.out _ k p q (List.mem_of_getElem? hf) W6.heap.size g dc dv' ds' W6 wr rfl HRa.out hbr hM' hS';have HX:=hide (And.intro hf (And.intro hbr (And.intro hc1 hc2)));clear hf hf1 hne hM' hS' hbr hc1 hc2 y0 y1 y2 HI;go_wp2_with fail
          refine HFo.mono ?_
          clear HFo;rintro e W8 ⟨n,d8,rfl,hn8,hFo,hcl⟩;have htt8:(t'-n)+tot d8=totS fs:=by
           have:=hFo.tt;have:=hFo.sd.le;omega
          have hnt:n≤t':=by
           have:=hFo.tt;have:=hFo.sd.le;omega
          have hwn:IntKind.i64.wrap ((t':Int)-(n:Int))=((t'-n:Nat):Int):=by rw[IntKind.wrap_i64];omega
          have HN:Hid ((∃dv,DuM W8 W6.heap.size g dc dv d8)∧SdL fs d8∧Below W6.heap.size W6 W8∧((ch || decide (0<n))=true→tot ds<tot d8)∧((ch || decide (0<n))=false→d8=ds∧∀(j:Nat) f,j<i+1→fs[j]?=some f→Cl fs ds f)):=by
           refine hide ⟨hFo.dm,hFo.sd,HX.out.2.1.trans hFo.bl,fun e=>?_,fun e=>?_⟩
           ·have ht:=hFo.tt;rcases Bool.or_eq_true_iff.1 e with e2|e2
            ·have:=HX.out.2.2.1 e2;omega
            ·have h0:0<n:=of_decide_eq_true e2;cases hch:ch
             ·rw[(HX.out.2.2.2 hch).1]at ht;omega
             ·have:=HX.out.2.2.1 hch;omega
           ·obtain⟨e1,e2⟩:=Bool.or_eq_false_iff.1 e;have hn0:n=0:=by
             have:=of_decide_eq_false e2;omega
            obtain⟨q1,q2⟩:=HX.out.2.2.2 e1;have hd:=hFo.un hn0;refine⟨by rw[hd,q1],fun j f hj hf=>?_⟩;by_cases hji:j<i
            ·exact q2 j f hji hf
            ·obtain rfl:j=i:=by omega
             rw[HX.out.1]at hf;injection hf with hf;rw[← hf,← q1];exact hcl hn0
          clear hFo hcl HX;cases ch
          ·by_cases h0:0<n
           ·have h0i:(0:Int)<(n:Int):=by omega
            have HN2:=HN.out;rw[show(false || decide (0<n))=true by simp[h0]]at HN2;have HN3:=hide HN2;clear HN HN2;go_wp2;go_roundw
            case rel=>exact⟨t'-n,true,i+1,d8,by go_num,rfl,by go_num,hlt3,htt8,hide ⟨HN3.out.1,HN3.out.2.1,HN3.out.2.2.1,fun _=>HN3.out.2.2.2.1 trivial,(fun h=>by cases h)⟩⟩
            case measure=>simp[intOf];omega
           ·obtain rfl:n=0:=by omega
            have HN2:=HN.out;rw[show(false || decide (0<0))=false by simp]at HN2;have HN3:=hide HN2;clear HN HN2;go_wp2;go_roundw
            case rel=>exact⟨t',false,i+1,d8,by go_num,rfl,by go_num,hlt3,htt8,hide ⟨HN3.out.1,HN3.out.2.1,HN3.out.2.2.1,(fun h=>by cases h),fun _=>HN3.out.2.2.2.2 trivial⟩⟩
            case measure=>simp[intOf];omega
          ·have HN2:=HN.out;rw[Bool.true_or]at HN2;have HN3:=hide HN2;clear HN HN2;go_wp2;go_roundw
           case rel=>exact⟨t'-n,true,i+1,d8,by go_num,rfl,by go_num,hlt3,htt8,hide ⟨HN3.out.1,HN3.out.2.1,HN3.out.2.2.1,fun _=>HN3.out.2.2.2.1 trivial,(fun h=>by cases h)⟩⟩
           case measure=>simp[intOf];omega
         ·obtain rfl:i=fs.length:=by omega
          obtain⟨hm9,hs9,hb9,hc1,hc2⟩:=HI.out;have HN:Hid ((∃dv,DuM wr W6.heap.size g dc dv ds')∧SdL fs ds'∧Below W6.heap.size W6 wr∧(ch=false→∀f∈fs,Cl fs ds' f)):=hide ⟨hm9,hs9,hb9,fun e f hf=>by
           obtain⟨q1,q2⟩:=hc2 e;obtain⟨j,hj⟩:=List.getElem?_of_mem hf;rw[q1];exact q2 j f (List.getElem?_eq_some_iff.1 hj).1 hj⟩
          have hme:2*t'+lbit (.bool ch)<2*t+1:=by
           have:=HT1.out;cases hch:ch
           ·have:=(hc2 hch).1;rw[this]at htt';show 2*t'+0<_;omega
           ·have:=hc1 hch;show 2*t'+1<_;omega
          have HME:=hide hme;clear hm9 hs9 hb9 hc1 hc2 HI hme;go_wp2;go_roundw
          case rel=>exact⟨t',ch,ds',rfl,rfl,htt',HN⟩
          case measure=>have:=HME.out;simpa[intOf,lbit]using this
end
end Go.Proofs.YtiamlbhkiehilaaGreatDoor
