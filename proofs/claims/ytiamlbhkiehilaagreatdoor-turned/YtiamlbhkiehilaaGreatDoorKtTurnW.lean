import Derived.Test.YtiamlbhkiehilaaGreatDoorKpMiss
import Derived.Test.YtiamlbhkiehilaaGreatDoorKtTuI
import Derived.Test.YtiamlbhkiehilaaGreatDoorKtTuP2
namespace Go.Proofs.YtiamlbhkiehilaaGreatDoor
open Go.RowKit Go.Shelf Go.Maps
attribute [local go_sem] Oper.semAt_some
attribute [-go_sem] Builtin.append_
def IsInts (v:Value) (os:List Int) (w:World):Prop:=
 ∃ ao cap,v=.slice ao os.length cap∧os.length≤cap∧(os≠[]→∃ b off,ao=some ⟨b,off,none⟩∧b < w.heap.size∧∀ (i:Nat) o,os[i]?=some o→w.cell? ⟨b,off+i,none⟩=some (.int .i64 o))
structure TuF (fs tl rl:List Fct):Prop where
 mem:∀ f,f∈fs↔f∈tl∨f∈rl
 len:tl.length+2 * rl.length≤100
theorem TuF.step {fs tl rl:List Fct} (h:TuF fs tl rl) {k:Nat} {f:Fct} (hf:rl[k]?=some f) (two:Bool):TuF fs (tl ++ (if two then [f,f] else [f])) (rl.take k ++ rl.drop (k+1)):=by
 have hk:=(List.getElem?_eq_some_iff.1 hf).1
 have hspl:rl=rl.take k ++ f :: rl.drop (k+1):=by
  have:=List.take_append_drop k rl
  rw [List.drop_eq_getElem_cons hk,(List.getElem?_eq_some_iff.1 hf).2] at this
  exact this.symm
 refine ⟨fun x=>?_,?_⟩
 ·rw [h.mem x]
  have e:x∈rl↔x=f∨x∈rl.take k ++ rl.drop (k+1):=by
   constructor
   ·intro hx
    rw [hspl] at hx
    rcases List.mem_append.1 hx with hx | hx
    ·exact .inr (List.mem_append_left _ hx)
    ·rcases List.mem_cons.1 hx with hx | hx
     ·exact .inl hx
     ·exact .inr (List.mem_append_right _ hx)
   ·rintro (rfl | hx)
    ·exact List.mem_of_getElem? hf
    ·rw [hspl]
     rcases List.mem_append.1 hx with hx | hx
     ·exact List.mem_append_left _ hx
     ·exact List.mem_append_right _ (List.mem_cons_of_mem _ hx)
  rw [e]
  cases two <;> simp <;> grind
 ·have hl:=h.len
  have h1:(rl.take k).length=k:=by rw [List.length_take]; omega
  have h2:(rl.drop (k+1)).length=rl.length - (k+1):=List.length_drop
  rw [List.length_append,List.length_append,h1,h2]
  cases two <;> simp <;> omega
set_option maxRecDepth 100000 in
set_option maxHeartbeats 8000000 in
theorem turned_walk [DP] (v:Value) (rs:List RawD) (vo:Value) (os:List Int) (way:Int) (w:World) (hT:Tab w) (hlen:rs.length≤maxLen) (hv:IsRaws v rs w) (hok:∀ r∈rs,r.ok) (_hlo:os.length≤maxLen) (hvo:IsInts vo os w) (hoo:∀ o∈os,inI o) (h1:inI way) :
  Calls Tryz.prog 7 #[v,vo,.int .i64 way] w fun e w'=>e=.returned (.bool true)∧Below w.heap.size w w':=by
 have hgo:=kraw_ok rs (m:=50) (by omega)
 have HF:=kfacts_any v rs 50 w hlen (by omega) hv hok
 have HF2:=hide (fun (W:World) (hb:Below w.heap.size w W)=>kfacts_any v rs 50 W hlen (by omega) (hv.below hb) hok)
 have hfl:((rs.take 50).map RawD.fct).length≤50:=by rw [List.length_map,List.length_take]; omega
 have HRL:Hid (∀ gs:List Fct,(∀ f∈gs,f∈(rs.take 50).map RawD.fct)→gs.length≤120→okGo [] gs∧∀ f∈gs,f.p.size≤2∧f.q.size≤2):=hide (fun gs hg hl=>by
  obtain ⟨ts,rfl⟩:=raws_lift hg
  refine ⟨raw_ok (by simp) (by simpa using hl),fun f hf=>?_⟩
  obtain ⟨x,_,rfl⟩:=List.mem_map.1 hf
  exact raw_small x)
 generalize (rs.take 50).map RawD.fct=fs at *
 have HP:=hide (fun (v:Value) (W:World) (hv:IsFacts v fs W)=>kprint_any hgo v W hv)
 have HP2:=hide (fun (gs:List Fct) (hg:okGo [] gs) (v:Value) (W:World) (hv:IsFacts v gs W)=>kprint_any hg v W hv)
 have HW:=hide (fun (W:World) (hT:Tab W)=>hT.ml.elim fun m hm=>works_any W m hm hT.mlt hT.tab hT.tlt)
 have HGO:=hide hgo
 have HT:=hide hT
 have HOO:=hide hoo
 have HV:=hide hv
 obtain ⟨oa,oc,rfl,hoc,hon⟩:=hvo
 have HON:=hide hon
 clear hgo hlen hok hT hoo hv hon
 go_enter Tryz.func7,Tryz.ntmps7
 go_wp2_with fail
 refine HF.mono ?_
 clear HF
 rintro e W1 ⟨vl,rfl,hown,hb1⟩
 have hfc:=facts_of_owns hown
 have HP1:=HP.out _ W1 hfc
 clear hown HP hfc
 go_wp2_with fail
 refine HP1.mono ?_
 clear HP1
 rintro e W2 ⟨rfl,hb2⟩
 have B2:Below w.heap.size w W2:=hb1.trans (hb2.mono hb1.size)
 have f2:=heap_new W2 (.cells #[.int .i64 0,.int .i64 0] 27)
 have B3:Below w.heap.size w (W2.alloc (.cells #[.int .i64 0,.int .i64 0] 27)):=B2.alloc B2.size _
 clear hb1 hb2 B2
 go_wp2_with fail
 generalize W2.heap.size=V2 at f2 ⊢
 generalize W2.alloc (.cells #[.int .i64 0,.int .i64 0] 27)=W3 at f2 B3 ⊢
 refine (HF2.out W3 B3).mono ?_
 clear HF2
 rintro e W4 ⟨vr,rfl,hown,hb4⟩
 have T0:TuI W3 W4 [] fs (.slice none 0 0) vr:=⟨World.ownsRow_nil _ _ _ _,hown,(fun g hg=>by cases hg),hb4⟩
 have HT0:=hide T0
 have F0:TuF fs [] fs:=⟨fun f=>by simp,by simp; omega⟩
 have HB3:=hide (And.intro B3 f2)
 obtain ⟨ra,rc,rfl,_⟩:=own_form hown
 clear hown hb4 T0 B3 f2
 go_wp2_with fail
 go_loopw [10,11,12] (fun tv rv iv wr=>∃ (i:Nat) (tl rl:List Fct) (ta:Option Addr) (tc:Nat) (ra:Option Addr) (rc:Nat),iv=.int .i64 i∧tv=.slice ta tl.length tc∧rv=.slice ra rl.length rc∧i≤100∧Hid (i+rl.length≤100∧TuF fs tl rl∧TuI W3 wr tl rl (.slice ta tl.length tc) (.slice ra rl.length rc))) (fun _ rv _ _=>match rv with | .slice _ n _=>n | _=>0)
 case atStart=>exact ⟨0,[],fs,none,0,ra,rc,rfl,rfl,rfl,by omega,hide ⟨by omega,F0,HT0.out⟩⟩
 case round=>
  obtain ⟨i,tl,rl,ta,tc,ra2,rc2,rfl,rfl,rfl,hi,HI⟩:=hrel
  by_cases hrl:0 < rl.length
  ·obtain ⟨g,cp,hge,_,_⟩:=HI.out.2.2.re.form hrl
   injection hge with e1 _ e3
   subst e1 e3
   have hcapn:rl.length≤rc2:=by
    rcases HI.out.2.2.re.2 with ⟨h9,_⟩ | ⟨g',cap',cur,h9,_,_,hnc,_⟩
    ·cases h9
    ·injection h9 with _ _ h7
     omega
   have hwr:Below w.heap.size w wr:=HB3.out.1.trans (HI.out.2.2.blw.mono HB3.out.1.size)
   by_cases hio:i < os.length
   ·obtain ⟨o,ho⟩:∃ o,os[i]?=some o:=⟨_,List.getElem?_eq_getElem hio⟩
    obtain ⟨b1,o1,h9,hb1,hc1⟩:=HON.out (by intro e; rw [e] at hio; simp at hio)
    have ca:=(hwr.cell (p:=⟨b1,_,none⟩) hb1).trans (hc1 i o ho)
    have hoi:=HOO.out o (List.mem_of_getElem? ho)
    have HPk:=pick_any o rl.length wr hoi.1 hoi.2 hrl (by have:=HI.out.2.1.len; omega)
    have hk:=pickB_lt o hrl
    rw [h9]
    generalize pickB o rl.length=k at *
    by_cases h3:o.tmod 3=0
    ·skip
     have hcl:=(own_cell HI.out.2.2.re).1
     obtain ⟨⟨fk,fp,fq⟩,hf⟩:∃ f,rl[k]?=some f:=⟨_,List.getElem?_eq_getElem hk⟩
     obtain ⟨y0,y1,y2⟩:=cellsF_get rl k fk fp fq hf
     have a0:=hcl _ _ y0
     have a1:=hcl _ _ y1
     have a2:=hcl _ _ y2
     obtain ⟨g1,p1,w5,hr1,I1⟩:=HI.out.2.2.push fk fp fq (by have:=HI.out.2.1.len; omega)
     have HF:=hide hf
     have hcl1:=(own_cell I1.re).1
     have b0:=hcl1 _ _ y0
     have b1':=hcl1 _ _ y1
     have b2:=hcl1 _ _ y2
     obtain ⟨g2,p2,w6,hr2,I2⟩:=I1.push fk fp fq (by have:=HI.out.2.1.len; rw [List.length_append]; simp; omega)
     rw [List.append_assoc] at I2
     have hl2:(tl ++ [(⟨fk,fp,fq⟩:Fct)]).length=tl.length+1:=by simp
     rw [hl2] at hr2 I2
     obtain ⟨D,hD,hDk⟩:∃ D:Addr,(if rc2=k+1 then some (⟨g,0,none⟩:Addr) else some ⟨g,(k+1) * 3,none⟩)=some D∧(k+1 < rl.length→D=⟨g,(k+1) * 3,none⟩):=by
      by_cases hc:rc2=k+1
      ·exact ⟨⟨g,0,none⟩,by rw [if_pos hc],fun h=>by omega⟩
      ·exact ⟨⟨g,(k+1) * 3,none⟩,by rw [if_neg hc],fun _=>rfl⟩
     obtain ⟨nv,w7,rv',w8,hr3,hr4,I3⟩:=I2.cut hk (by have:=HI.out.2.1.len; omega) D hDk rc2 (rc2 - (k+1))
     obtain ⟨na,nc,hnv,_⟩:=own_form I3.re
     subst hnv
     have hlr:(rl.take k ++ rl.drop (k+1)).length+1=rl.length:=by rw [List.length_append,List.length_take,List.length_drop]; omega
     have hTL:tl.length+1+1=(tl ++ ([(⟨fk,fp,fq⟩:Fct)] ++ [(⟨fk,fp,fq⟩:Fct)])).length:=by simp
     rw [hTL] at hr2 I3
     have F1:TuF fs (tl ++ ([(⟨fk,fp,fq⟩:Fct)] ++ [(⟨fk,fp,fq⟩:Fct)])) (rl.take k ++ rl.drop (k+1)):=HI.out.2.1.step HF.out true
     have hi1:i+1+(rl.take k ++ rl.drop (k+1)).length≤100:=by have:=HI.out.1; omega
     generalize tl ++ ([(⟨fk,fp,fq⟩:Fct)] ++ [(⟨fk,fp,fq⟩:Fct)])=TL at *
     generalize rl.take k ++ rl.drop (k+1)=RL at *
     have HFin:=hide (And.intro hi1 (And.intro F1 I3))
     have ca5:=((HB3.out.1.trans (I1.blw.mono HB3.out.1.size)).cell (p:=⟨b1,_,none⟩) hb1).trans (hc1 i o ho)
     have h3b:(o.tmod 3 == 0)=true:=by simpa using h3
     obtain ⟨A1,hA1⟩:∃ AP,Builtin.append_ #[36,36] 36 #[.slice ta tl.length tc,.slice (some ⟨wr.heap.size,0,none⟩) 1 1]=AP:=⟨_,rfl⟩
     rw [hA1] at hr1
     obtain ⟨A2,hA2⟩:∃ AP,Builtin.append_ #[36,36] 36 #[.slice (some ⟨g1,0,none⟩) (tl.length+1) p1,.slice (some ⟨w5.heap.size,0,none⟩) 1 1]=AP:=⟨_,rfl⟩
     rw [hA2] at hr2
     obtain ⟨A3,hA3⟩:∃ AP,Builtin.append_ #[36,36] 36 #[.slice none 0 0,.slice (some ⟨g,0,none⟩) k rc2]=AP:=⟨_,rfl⟩
     rw [hA3] at hr3
     obtain ⟨kk,hkk⟩:∃ kk,kk=k+1:=⟨_,rfl⟩
     rw [← hkk] at hr4 hD
     obtain ⟨A4,hA4⟩:∃ AP,Builtin.append_ #[36,36] 36 #[nv,.slice (some D) (rl.length - kk) (rc2 - kk)]=AP:=⟨_,rfl⟩
     rw [hA4] at hr4
     have hr50:rl.length≤50:=by have:=HI.out.2.1.len; omega
     have hkw:IntKind.i64.wrap ((k:Int)+1)=(kk:Int):=by rw [IntKind.wrap_i64]; omega
     have hk1:kk≤rl.length:=by omega
     have hk2:kk≤rc2:=by omega
     have hk3:k≤rc2:=by omega
     have HR:=hide (And.intro hlr hk)
     have hkn:(k:Int) < (rl.length:Int):=by omega
     have HKK:=hide hkk
     clear hkk hcl hf y0 y1 y2 I1 I3 hDk ho hc1 hwr HF hi1 F1 hlr hcl1 I2 hl2
     go_wp2_with fail
     refine HPk.mono ?_
     clear HPk
     rintro e w9 ⟨rfl,hw9⟩
     subst hw9
     go_wp2_with fail
     go_roundw
     case rel=>exact ⟨i+1,TL,RL,some ⟨g2,0,none⟩,p2,na,nc,by go_num,rfl,rfl,by have:=HFin.out.1; omega,HFin⟩
     case measure=>have:=HR.out.1; simp; omega
    ·skip
     have hcl:=(own_cell HI.out.2.2.re).1
     obtain ⟨⟨fk,fp,fq⟩,hf⟩:∃ f,rl[k]?=some f:=⟨_,List.getElem?_eq_getElem hk⟩
     obtain ⟨y0,y1,y2⟩:=cellsF_get rl k fk fp fq hf
     have a0:=hcl _ _ y0
     have a1:=hcl _ _ y1
     have a2:=hcl _ _ y2
     obtain ⟨g1,p1,w5,hr1,I1⟩:=HI.out.2.2.push fk fp fq (by have:=HI.out.2.1.len; omega)
     have HF:=hide hf
     obtain ⟨D,hD,hDk⟩:∃ D:Addr,(if rc2=k+1 then some (⟨g,0,none⟩:Addr) else some ⟨g,(k+1) * 3,none⟩)=some D∧(k+1 < rl.length→D=⟨g,(k+1) * 3,none⟩):=by
      by_cases hc:rc2=k+1
      ·exact ⟨⟨g,0,none⟩,by rw [if_pos hc],fun h=>by omega⟩
      ·exact ⟨⟨g,(k+1) * 3,none⟩,by rw [if_neg hc],fun _=>rfl⟩
     obtain ⟨nv,w7,rv',w8,hr3,hr4,I3⟩:=I1.cut hk (by have:=HI.out.2.1.len; omega) D hDk rc2 (rc2 - (k+1))
     obtain ⟨na,nc,hnv,_⟩:=own_form I3.re
     subst hnv
     have hlr:(rl.take k ++ rl.drop (k+1)).length+1=rl.length:=by rw [List.length_append,List.length_take,List.length_drop]; omega
     have hTL:tl.length+1=(tl ++ [(⟨fk,fp,fq⟩:Fct)]).length:=by simp
     rw [hTL] at hr1 I3
     have F1:TuF fs (tl ++ [(⟨fk,fp,fq⟩:Fct)]) (rl.take k ++ rl.drop (k+1)):=HI.out.2.1.step HF.out false
     have hi1:i+1+(rl.take k ++ rl.drop (k+1)).length≤100:=by have:=HI.out.1; omega
     generalize tl ++ [(⟨fk,fp,fq⟩:Fct)]=TL at *
     generalize rl.take k ++ rl.drop (k+1)=RL at *
     have HFin:=hide (And.intro hi1 (And.intro F1 I3))
     have ca5:=((HB3.out.1.trans (I1.blw.mono HB3.out.1.size)).cell (p:=⟨b1,_,none⟩) hb1).trans (hc1 i o ho)
     have h3b:(o.tmod 3 == 0)=false:=by simpa using h3
     obtain ⟨A1,hA1⟩:∃ AP,Builtin.append_ #[36,36] 36 #[.slice ta tl.length tc,.slice (some ⟨wr.heap.size,0,none⟩) 1 1]=AP:=⟨_,rfl⟩
     rw [hA1] at hr1
     obtain ⟨A3,hA3⟩:∃ AP,Builtin.append_ #[36,36] 36 #[.slice none 0 0,.slice (some ⟨g,0,none⟩) k rc2]=AP:=⟨_,rfl⟩
     rw [hA3] at hr3
     obtain ⟨kk,hkk⟩:∃ kk,kk=k+1:=⟨_,rfl⟩
     rw [← hkk] at hr4 hD
     obtain ⟨A4,hA4⟩:∃ AP,Builtin.append_ #[36,36] 36 #[nv,.slice (some D) (rl.length - kk) (rc2 - kk)]=AP:=⟨_,rfl⟩
     rw [hA4] at hr4
     have hr50:rl.length≤50:=by have:=HI.out.2.1.len; omega
     have hkw:IntKind.i64.wrap ((k:Int)+1)=(kk:Int):=by rw [IntKind.wrap_i64]; omega
     have hk1:kk≤rl.length:=by omega
     have hk2:kk≤rc2:=by omega
     have hk3:k≤rc2:=by omega
     have HR:=hide (And.intro hlr hk)
     have hkn:(k:Int) < (rl.length:Int):=by omega
     have HKK:=hide hkk
     clear hkk hcl hf y0 y1 y2 I1 I3 hDk ho hc1 hwr HF hi1 F1 hlr
     go_wp2_with fail
     refine HPk.mono ?_
     clear HPk
     rintro e w9 ⟨rfl,hw9⟩
     subst hw9
     go_wp2_with fail
     go_roundw
     case rel=>exact ⟨i+1,TL,RL,some ⟨g1,0,none⟩,p1,na,nc,by go_num,rfl,rfl,by have:=HFin.out.1; omega,HFin⟩
     case measure=>have:=HR.out.1; simp; omega
   ·skip
    have hcl:=(own_cell HI.out.2.2.re).1
    obtain ⟨⟨fk,fp,fq⟩,hf⟩:∃ f,rl[0]?=some f:=⟨_,List.getElem?_eq_getElem hrl⟩
    obtain ⟨y0,y1,y2⟩:=cellsF_get rl 0 fk fp fq hf
    have a0:=hcl _ _ y0
    have a1:=hcl _ _ y1
    have a2:=hcl _ _ y2
    simp only [Nat.zero_mul,Nat.zero_add] at a0 a1 a2
    obtain ⟨g1,p1,w5,hr1,I1⟩:=HI.out.2.2.push fk fp fq (by have:=HI.out.2.1.len; omega)
    have HF:=hide hf
    obtain ⟨D,hD,hDk⟩:∃ D:Addr,(if rc2=1 then some (⟨g,0,none⟩:Addr) else some ⟨g,3,none⟩)=some D∧(0+1 < rl.length→D=⟨g,(0+1) * 3,none⟩):=by
     by_cases hc:rc2=1
     ·exact ⟨⟨g,0,none⟩,by rw [if_pos hc],fun h=>by omega⟩
     ·exact ⟨⟨g,3,none⟩,by rw [if_neg hc],fun _=>rfl⟩
    obtain ⟨nv,w7,rv',w8,hr3,hr4,I3⟩:=I1.cut hrl (by have:=HI.out.2.1.len; omega) D hDk rc2 (rc2 - 1)
    obtain ⟨na,nc,hnv,_⟩:=own_form I3.re
    subst hnv
    have hlr:(rl.take 0 ++ rl.drop (0+1)).length+1=rl.length:=by rw [List.length_append,List.length_take,List.length_drop]; omega
    have hTL:tl.length+1=(tl ++ [(⟨fk,fp,fq⟩:Fct)]).length:=by simp
    rw [hTL] at hr1 I3
    have F1:TuF fs (tl ++ [(⟨fk,fp,fq⟩:Fct)]) (rl.take 0 ++ rl.drop (0+1)):=HI.out.2.1.step HF.out false
    have hi1:i+1+(rl.take 0 ++ rl.drop (0+1)).length≤100:=by have:=HI.out.1; omega
    generalize tl ++ [(⟨fk,fp,fq⟩:Fct)]=TL at *
    generalize rl.take 0 ++ rl.drop (0+1)=RL at *
    have HFin:=hide (And.intro hi1 (And.intro F1 I3))
    simp only [Nat.zero_add] at hr4
    obtain ⟨A1,hA1⟩:∃ AP,Builtin.append_ #[36,36] 36 #[.slice ta tl.length tc,.slice (some ⟨wr.heap.size,0,none⟩) 1 1]=AP:=⟨_,rfl⟩
    rw [hA1] at hr1
    obtain ⟨A3,hA3⟩:∃ AP,Builtin.append_ #[36,36] 36 #[.slice none 0 0,.slice (some ⟨g,0,none⟩) 0 rc2]=AP:=⟨_,rfl⟩
    rw [hA3] at hr3
    obtain ⟨A4,hA4⟩:∃ AP,Builtin.append_ #[36,36] 36 #[nv,.slice (some D) (rl.length - 1) (rc2 - 1)]=AP:=⟨_,rfl⟩
    rw [hA4] at hr4
    have hr50:rl.length≤50:=by have:=HI.out.2.1.len; omega
    have hk1:1≤rl.length:=hrl
    have hk2:1≤rc2:=by omega
    have HR:=hide hlr
    clear hcl hf y0 y1 y2 I1 I3 hDk hwr HF hi1 F1 hlr
    go_wp2_with fail
    go_roundw
    case rel=>exact ⟨i+1,TL,RL,some ⟨g1,0,none⟩,p1,na,nc,by go_num,rfl,rfl,by have:=HFin.out.1; omega,HFin⟩
    case measure=>have:=HR.out; simp; omega
  ·obtain rfl:rl=[]:=List.length_eq_zero_iff.1 (by omega)
   obtain ⟨_,F1,I1⟩:=HI.out
   have hmem:∀ f,f∈fs↔f∈tl:=fun f=>by have:=F1.mem f; simpa using this
   have htl:tl.length≤100:=by have:=F1.len; omega
   obtain ⟨hgt,hst⟩:=HRL.out tl (fun f hf=>(hmem f).2 hf) (by omega)
   have hsol:txS tl=txS fs:=by unfold txS; rw [sol_same hmem (ns_same hmem)]
   have hwr:Below w.heap.size w wr:=HB3.out.1.trans (I1.blw.mono HB3.out.1.size)
   have f3:=Below.heapAt I1.blw HB3.out.2 (lt_of_heap HB3.out.2)
   have HPr:=HP2.out tl hgt _ wr (facts_of_owns I1.tn)
   have hsz:(txF tl).size=(textL tl).length:=by unfold txF; rw [arr_size]
   have htx:(txF tl).data.toList=textL tl:=by unfold txF; simp
   have htl2:(textL tl).length≤4000:=by
    have:=textL_len (okGo_small hgt).1
    omega
   have HGT:=hide (And.intro hgt (And.intro hst (And.intro hsol htl)))
   have HTX:=hide htx
   have HSZ:=hide hsz
   clear F1 I1 HI hmem hgt hst hsol HP2 HRL htx hrl htl HB3
   go_wp2_with fail
   refine HPr.mono ?_
   clear HPr
   rintro e W5 ⟨rfl,hb5⟩
   have f5:=heap_old (Below.heapAt hb5 f3 (lt_of_heap f3)) (.cells #[.int .i64 0,.int .i64 0] 27)
   have g5:=heap_new W5 (.cells #[.int .i64 0,.int .i64 0] 27)
   have B5:Below w.heap.size w W5:=hwr.trans (hb5.mono hwr.size)
   have B5':Below w.heap.size w (W5.alloc (.cells #[.int .i64 0,.int .i64 0] 27)):=B5.alloc B5.size _
   clear f3 hwr hb5 B5
   generalize txF tl=tt at *
   go_wp2_with fail
   generalize W5.heap.size=V5 at g5 ⊢
   generalize W5.alloc (.cells #[.int .i64 0,.int .i64 0] 27)=W6 at f5 g5 B5' ⊢
   go_loop [17,18] (fun sv iv=>∃ (j:Nat) (acc:ByteArray),sv=.string acc∧iv=.int .i64 j∧j≤tt.size∧acc.size≤16+3 * j∧Hid (acc.data.toList=remL ++ 10 :: 10 :: trL ((textL tl).take j))) (fun _ iv=>tt.size - (intOf iv).toNat)
   case atStart=>exact ⟨0,⟨#[35,32,97,32,114,101,109,97,114,107,32,61,32,38,10,10]⟩,rfl,rfl,Nat.zero_le _,by decide,hide rfl⟩
   case round=>
    obtain ⟨j,acc,rfl,rfl,hj,hac,HA⟩:=hrel
    by_cases hlt:j < tt.size
    ·have hjs:(j:Int) < (tt.size:Int):=by omega
     have hjw:IntKind.i64.wrap ((j:Int)+1)=((j+1:Nat):Int):=by rw [IntKind.wrap_i64]; omega
     obtain ⟨ch,hch⟩:∃ c,(textL tl)[j]?=some c:=⟨_,List.getElem?_eq_getElem (by rw [← HSZ.out]; exact hlt)⟩
     have hex:(tt.extract j (j+1)).data.toList=[ch]:=by
      have h9:(tt.extract j (j+1)).data.toList=(tt.data.toList.drop j).take 1:=by
       simp [ByteArray.data_extract]
      rw [h9,HTX.out]
      have hlt9:j < (textL tl).length:=by rw [← HSZ.out]; exact hlt
      rw [List.drop_eq_getElem_cons hlt9,(List.getElem?_eq_some_iff.1 hch).2]
      rfl
     have hexl:(tt.extract j (j+1)).toList=[ch]:=by rw [ByteArray.toList_eq]; exact hex
     have htk:(textL tl).take (j+1)=(textL tl).take j ++ [ch]:=by rw [List.take_add_one,hch]; rfl
     have hes:(tt.extract j (j+1)).size=1:=by
      have:(tt.extract j (j+1)).data.toList.length=1:=by rw [hex]; rfl
      rw [Array.length_toList] at this
      exact this
     by_cases hsp:ch=61∨ch=10
     ·have HN:Hid ((acc ++ (⟨#[9,32]⟩ ++ (tt.extract j (j+1)))).data.toList=remL ++ 10 :: 10 :: trL ((textL tl).take (j+1))):=hide (by
       rw [htk,trL_app,ByteArray.data_append,Array.toList_append,HA.out,ByteArray.data_append,Array.toList_append,hex]
       have e9:trL [ch]=[9,32,ch]:=by simp [trL,trB,hsp]
       rw [e9]
       simp)
      have hsz2:(acc ++ (⟨#[9,32]⟩ ++ (tt.extract j (j+1)))).size≤16+3 * (j+1):=by
       rw [ByteArray.size_append,ByteArray.size_append,hes,show (⟨#[9,32]⟩:ByteArray).size=2 from rfl]
       omega
      have HS2:=hide hsz2
      clear htk hex hch hsz2
      rcases hsp with h9 | h9
      ·have hq1':((tt.extract j (j+1)).toList == [61])=true:=by rw [hexl,h9]; decide
       clear h9 hexl
       go_wp2
       go_round
       case rel=>exact ⟨j+1,_,rfl,by go_num,hlt,HS2.out,HN⟩
       case measure=>simp [intOf]; omega
      ·have hq1':((tt.extract j (j+1)).toList == [61])=false:=by rw [hexl,h9]; decide
       have hq2':((tt.extract j (j+1)).toList == [10])=true:=by rw [hexl,h9]; decide
       clear h9 hexl
       go_wp2
       go_round
       case rel=>exact ⟨j+1,_,rfl,by go_num,hlt,HS2.out,HN⟩
       case measure=>simp [intOf]; omega
     ·have HN:Hid ((acc ++ (tt.extract j (j+1))).data.toList=remL ++ 10 :: 10 :: trL ((textL tl).take (j+1))):=hide (by
       rw [htk,trL_app,ByteArray.data_append,Array.toList_append,HA.out,hex]
       have e9:trL [ch]=[ch]:=by simp [trL,trB,hsp]
       rw [e9]
       simp)
      have hsz2:(acc ++ (tt.extract j (j+1))).size≤16+3 * (j+1):=by
       rw [ByteArray.size_append,hes]
       omega
      have HS2:=hide hsz2
      have hq1':((tt.extract j (j+1)).toList == [61])=false:=by rw [hexl]; simpa using fun h=>hsp (.inl h)
      have hq2':((tt.extract j (j+1)).toList == [10])=false:=by rw [hexl]; simpa using fun h=>hsp (.inr h)
      clear htk hex hexl hch hsz2
      go_wp2
      go_round
      case rel=>exact ⟨j+1,_,rfl,by go_num,hlt,HS2.out,HN⟩
      case measure=>simp [intOf]; omega
    ·obtain rfl:j=tt.size:=by omega
     obtain ⟨hgt,hst,hsol,htl⟩:=HGT.out
     have hfull:acc.data.toList=remL ++ 10 :: 10 :: trL (textL tl):=by
      have:=HA.out
      rw [HSZ.out,List.take_length] at this
      exact this
     have hS:acc ++ ⟨#[32,35,32,116,104,101,32,101,110,100]⟩=⟨(turL tl).toArray⟩:=by
      have:(acc ++ ⟨#[32,35,32,116,104,101,32,101,110,100]⟩).data.toList=turL tl:=by
       rw [ByteArray.data_append,Array.toList_append,hfull]
       simp [turL,sufL]
      apply toList_inj
      rw [ByteArray.toList_eq,ByteArray.toList_eq,this]
     obtain ⟨c1,hc1⟩:∃ c,c=cfgW (pickB way 48):=⟨_,rfl⟩
     obtain ⟨c2,hc2⟩:∃ c,c=cfgW (pickB (way.tdiv 48) 48):=⟨_,rfl⟩
     have o1:0≤c1.order∧c1.order≤2:=by rw [hc1]; exact cfgW_ord _
     have o2:0≤c2.order∧c2.order≤2:=by rw [hc2]; exact cfgW_ord _
     have hwd:inI (way.tdiv 48):=by
      obtain ⟨q1,q2⟩:=h1
      unfold inI
      rcases Int.le_total 0 way with h9 | h9
      ·rw [Int.tdiv_eq_ediv_of_nonneg h9]
       omega
      ·have e9:way.tdiv 48=-((-way) / 48):=by
        rw [← Int.tdiv_eq_ediv_of_nonneg (show 0≤-way by omega),Int.neg_tdiv,Int.neg_neg]
       rw [e9]
       omega
     have hwq:IntKind.i64.wrap (way.tdiv 48)=way.tdiv 48:=by
      obtain ⟨q1,q2⟩:=hwd
      generalize way.tdiv 48=z at q1 q2 ⊢
      rw [IntKind.wrap_i64]
      omega
     have HC1:=hide (fun W=>config_any way W h1.1 h1.2)
     have HC2:=hide (fun W=>config_any (way.tdiv 48) W hwd.1 hwd.2)
     rw [cfgV_way,← hc1] at HC1
     rw [cfgV_way,← hc2] at HC2
     have HA1:=hide (fun (W:World) (hT:Tab W)=>kanalyze_any HGO.out c1 o1 W hT)
     have HA2:Hid (∀ W,Tab W→Calls Tryz.prog 12 #[.string (acc ++ ⟨#[32,35,32,116,104,101,32,101,110,100]⟩),wayV c2] W fun e w'=>e=.returned (.tuple #[.agg #[.string (txS fs),.int .i64 (unS tl c2:Int)],.agg #[.int .i64 0,.int .i64 0]])∧Below W.heap.size W w'):=hide (fun W hT=>by
      rw [hS]
      refine qanalyze_of _ c2 _ _ _ _ W (fun W' hb=>?_)
      have hT':=hT.below hb
      obtain ⟨m,hm⟩:=hT'.ml
      have:=panalyze_sol ⟨(turL tl).toArray⟩ c2 tl W' m (by rw [arr_size]; have:=turL_len hst (by omega); unfold maxLen; omega) hm hT'.mlt hT'.tab hT'.tlt o2 (turned_parse hgt hst (by omega))
      rw [← hsol]
      exact this)
     have hasz:acc.size≤16+3 * tt.size:=hac
     generalize unS fs c1=u1 at *
     generalize unS tl c2=u2 at *
     clear hgt hst hsol htl hfull hS hc1 hc2 o1 o2 hwd HA HGT HTX HGO
     generalize txF fs=tf at *
     generalize txS fs=ts at *
     go_wp2_with fail
     refine (HW.out W6 (HT.out.below B5')).mono ?_
     clear HW
     rintro e W8 ⟨rfl,hb8⟩
     have f8:=Below.heapAt hb8 f5 (lt_of_heap f5)
     have g8:=Below.heapAt hb8 g5 (lt_of_heap g5)
     have B8:Below w.heap.size w W8:=B5'.trans (hb8.mono B5'.size)
     clear f5 g5 B5' hb8
     go_wp2_with fail
     refine (HC1.out W8).mono ?_
     clear HC1
     rintro e W9 ⟨rfl,hb9⟩
     have f9:=Below.heapAt hb9 f8 (lt_of_heap f8)
     have g9:=Below.heapAt hb9 g8 (lt_of_heap g8)
     have B9:Below w.heap.size w W9:=B8.trans (hb9.mono B8.size)
     clear f8 g8 B8 hb9
     go_wp2_with fail
     refine (HA1.out W9 (HT.out.below B9)).mono ?_
     clear HA1
     rintro e W10 ⟨rfl,hb10⟩
     have f10:=heap_old (heap_old (Below.heapAt hb10 f9 (lt_of_heap f9)) (.cells #[.string ts,.int .i64 (u1:Int)] 31)) (.cells #[.int .i64 0,.int .i64 0] 27)
     have g10:=heap_old (heap_old (Below.heapAt hb10 g9 (lt_of_heap g9)) (.cells #[.string ts,.int .i64 (u1:Int)] 31)) (.cells #[.int .i64 0,.int .i64 0] 27)
     have r10:=heap_old (heap_new W10 (.cells #[.string ts,.int .i64 (u1:Int)] 31)) (.cells #[.int .i64 0,.int .i64 0] 27)
     have q10:=heap_new (W10.alloc (.cells #[.string ts,.int .i64 (u1:Int)] 31)) (.cells #[.int .i64 0,.int .i64 0] 27)
     rw [show (W10.alloc (.cells #[.string ts,.int .i64 (u1:Int)] 31)).heap.size=W10.heap.size+1 by simp] at q10
     have B10:Below w.heap.size w W10:=B9.trans (hb10.mono B9.size)
     have B10':Below w.heap.size w ((W10.alloc (.cells #[.string ts,.int .i64 (u1:Int)] 31)).alloc (.cells #[.int .i64 0,.int .i64 0] 27)):=(B10.alloc B10.size _).alloc (Nat.le_trans B10.size (by simp)) _
     clear f9 g9 B9 hb10 B10
     go_wp2_with fail
     generalize W10.heap.size=V10 at r10 q10 ⊢
     generalize (W10.alloc (.cells #[.string ts,.int .i64 (u1:Int)] 31)).alloc (.cells #[.int .i64 0,.int .i64 0] 27)=W11 at f10 g10 r10 q10 B10' ⊢
     refine (HC2.out W11).mono ?_
     clear HC2
     rintro e W12 ⟨rfl,hb12⟩
     have f12:=Below.heapAt hb12 f10 (lt_of_heap f10)
     have g12:=Below.heapAt hb12 g10 (lt_of_heap g10)
     have r12:=Below.heapAt hb12 r10 (lt_of_heap r10)
     have q12:=Below.heapAt hb12 q10 (lt_of_heap q10)
     have B12:Below w.heap.size w W12:=B10'.trans (hb12.mono B10'.size)
     clear f10 g10 r10 q10 B10' hb12
     go_wp2_with fail
     refine (HA2.out W12 (HT.out.below B12)).mono ?_
     clear HA2
     rintro e W13 ⟨rfl,hb13⟩
     have f13:=heap_old (heap_old (Below.heapAt hb13 f12 (lt_of_heap f12)) (.cells #[.string ts,.int .i64 (u2:Int)] 31)) (.cells #[.int .i64 0,.int .i64 0] 27)
     have g13:=heap_old (heap_old (Below.heapAt hb13 g12 (lt_of_heap g12)) (.cells #[.string ts,.int .i64 (u2:Int)] 31)) (.cells #[.int .i64 0,.int .i64 0] 27)
     have r13:=heap_old (heap_old (Below.heapAt hb13 r12 (lt_of_heap r12)) (.cells #[.string ts,.int .i64 (u2:Int)] 31)) (.cells #[.int .i64 0,.int .i64 0] 27)
     have q13:=heap_old (heap_old (Below.heapAt hb13 q12 (lt_of_heap q12)) (.cells #[.string ts,.int .i64 (u2:Int)] 31)) (.cells #[.int .i64 0,.int .i64 0] 27)
     have s13:=heap_old (heap_new W13 (.cells #[.string ts,.int .i64 (u2:Int)] 31)) (.cells #[.int .i64 0,.int .i64 0] 27)
     have t13:=heap_new (W13.alloc (.cells #[.string ts,.int .i64 (u2:Int)] 31)) (.cells #[.int .i64 0,.int .i64 0] 27)
     rw [show (W13.alloc (.cells #[.string ts,.int .i64 (u2:Int)] 31)).heap.size=W13.heap.size+1 by simp] at t13
     have B13:Below w.heap.size w W13:=B12.trans (hb13.mono B12.size)
     have B13':Below w.heap.size w ((W13.alloc (.cells #[.string ts,.int .i64 (u2:Int)] 31)).alloc (.cells #[.int .i64 0,.int .i64 0] 27)):=(B13.alloc B13.size _).alloc (Nat.le_trans B13.size (by simp)) _
     obtain ⟨a0,_,_,_⟩:=err_cells f13
     obtain ⟨c0,_,_,_⟩:=err_cells g13
     obtain ⟨d0,_,_,_⟩:=err_cells r13
     obtain ⟨e0,_,_,_⟩:=err_cells q13
     obtain ⟨i0,_,_,_⟩:=err_cells s13
     obtain ⟨j0,_,_,_⟩:=err_cells t13
     clear f12 g12 r12 q12 B12 hb13 B13 f13 g13 r13 q13 s13 t13
     go_wp2
     exact bodyPost_ret (v:=.bool true) (by simp [results,Tryz.results7,go_sem]) rfl ⟨rfl,B13'⟩
end Go.Proofs.YtiamlbhkiehilaaGreatDoor
