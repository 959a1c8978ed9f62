import Derived.Test.YtiamlbhkiehilaaGreatDoorKq03
namespace Go.Proofs.YtiamlbhkiehilaaGreatDoor
section
open Go.RowKit
variable {B:Nat} {c:Way} {n:Nat} {s:St}
theorem WF.addAt(h:WF n s){k m:Nat}(hk:k<7*n)(hm:m<n):WF n (s.addAt k m):=by
 refine h.put hk (fun x hx=>?_);rcases(mem_addS.1 hx).2 with rfl|hx
 ·exact hm
 ·exact h.bd _ x hx
theorem gempty_any(k:Nat)(w:World)(G:GV)(h:GM w B c n G s)(hk:k<7*n) :
  Calls Tryz.prog 87 #[.pointer (some ⟨G.bn,k,none⟩)] w fun e w'=>e=.returned (.bool (s.ss.getD k []).isEmpty)∧GM w' B c n G s∧GCh w w' G G:=by
 obtain⟨v,q,q',qs⟩:=h.get hk;refine(empty_any B G.bn k _ TNd v _ w h.hbn q' qs).mono ?_
 rintro e w' ⟨rfl,hk⟩;exact⟨rfl,h.fresh hk,hk.mono (by simp),fun _ hb=>.inl hb,rfl,rfl,rfl⟩
set_option maxRecDepth 100000 in
set_option maxHeartbeats 1000000 in
theorem glink_any(hS:c.cycles=true→SusOK B c n)(f j:Nat)(w:World)(G:GV)(h:GM w B c n G s)(hw:WF n s)(hf:f<n)(hj:j<n)(hu:s.un+1<4611686018427387904) :
  Calls Tryz.prog 117 #[.pointer (some ⟨G.bg,0,none⟩),.int .u64 f,.int .u64 j] w fun e w'=>e=.returned (.tuple #[])∧∃G',GM w' B c n G' (s.link c f j)∧GCh w w' G G':=by
 have hn:=h.n40;have hf':=hw.lt hf;have hj':=hw.lt hj;have HOf:Hid (∀(m:Nat) (W:World) (G':GV),m<128→GCh w W G G'→GM W B c n G' s→Calls Tryz.prog 93 #[.pointer (some ⟨G.bg,6,none⟩),.int .u64 m] W fun e w'=>e=.returned (.int .u64 (s.rep m))∧∃G'',GM w' B c n G'' s∧GCh w w' G G''):=by
  refine hide (fun m W G' hm hC hG=>?_);rw[← hC.e1];refine(gof_any m W G' hG hm).mono ?_
  rintro e w' ⟨rfl,G'',p1,p2⟩;exact⟨rfl,G'',p1,hC.trans p2⟩
 have hs0:SameW w w.drew:=⟨rfl,rfl,rfl,rfl⟩;have HF0:=HOf.out f w.drew G (by omega) (GCh.same hs0 G) (h.same hs0);have HJ0:=HOf.out j w.drew G (by omega) (GCh.same hs0 G) (h.same hs0);have HF1:Hid (∀W G',GCh w W G G'→GM W B c n G' s→_):=hide (fun W G' h1 h2=>HOf.out f W G' (by omega) h1 h2);have HJ1:Hid (∀W G',GCh w W G G'→GM W B c n G' s→_):=hide (fun W G' h1 h2=>HOf.out j W G' (by omega) h1 h2);clear h hs0 HOf;go_enter Tryz.func117,Tryz.ntmps117
 go_wp2;go_region_with (first
  |(go_at_call 93;refine HF0.mono ?_;clear HF0 HJ0;rintro e w1 ⟨rfl,G1,hG1,hC1⟩;have HN:=HJ1.out w1 G1 hC1 hG1;clear hG1 hC1)
  |(go_at_call 93;refine HJ0.mono ?_;clear HF0 HJ0;rintro e w1 ⟨rfl,G1,hG1,hC1⟩;have HN:=HF1.out w1 G1 hC1 hG1;clear hG1 hC1)
  |(go_at_call 93;refine HN.mono ?_;clear HN;rintro e w2 ⟨rfl,G2,hG2,hC2⟩))
 have hst:s.link c f j=if s.rep f == s.rep j || (s.hr (s.rep f)).contains (s.rep j)then s else if(if c.deltas then(s.addAt (7*s.rep f+2) (s.rep j)).hd (s.rep f)else(s.addAt (7*s.rep f+2) (s.rep j)).tg (s.rep f)).isEmpty then s.addAt (7*s.rep f+2) (s.rep j)else(s.addAt (7*s.rep f+2) (s.rep j)).hand c (if c.deltas then(s.addAt (7*s.rep f+2) (s.rep j)).hd (s.rep f)else(s.addAt (7*s.rep f+2) (s.rep j)).tg (s.rep f)) (s.rep f) (s.rep j):=rfl
 have HST:=hide hst;clear hst HF1 HJ1;generalize s.rep f=f' at *;generalize s.rep j=j' at *;have e1:G2.bg=G.bg:=hC2.e1;have e2:G2.bn=G.bn:=hC2.e2;obtain⟨r0,r1,r2,r3,r4,r5,r7,r9,r9f⟩:=hG2.reads;rw[e1]at r4 r5;rw[e2]at r5;have HAd:=gadd_any (7*f'+2) j' w2 G2 hG2 (by omega) (by omega);rw[e2,show 7*f'+2=f'*7+2 by omega]at HAd;rw[show f'*7+2=7*f'+2 by omega]at HAd;have HAd2:Calls Tryz.prog 108 #[.pointer (some ⟨G.bn,f'*7+2,none⟩),.int .u64 j'] w2 fun e w'=>e=.returned (.bool (!(s.hr f').contains j'))∧∃G',GM w' B c n G' (s.addAt (7*f'+2) j')∧GCh w2 w' G2 G':=by rw[show f'*7+2=7*f'+2 by omega];exact HAd
 have H2:=hide (And.intro hG2 hC2);clear HAd hG2 hC2 r0 r1 r2 r3 r7 r9 r9f;by_cases hfj:f'=j'
 ·have HF:Hid (GM w2 B c n G2 (s.link c f j)∧GCh w w2 G G2):=by
   refine hide ?_
   rw[HST.out,if_pos (by rw[hfj];simp)];exact H2.out
  subst hfj;clear HAd2;go_wp2;refine bodyPost_ret (results_none rfl _ _ _) rfl ?_
  exact⟨rfl,_,HF.out⟩
 ·obtain⟨b,hb⟩:∃b,b=(s.hr f').contains j':=⟨_,rfl⟩;rw[← hb]at HAd2;have HB:=hide hb;clear hb;have hne:¬((f':Nat):Int)=((j':Nat):Int):=by omega
  go_wp2_with fail
  refine HAd2.mono ?_
  clear HAd2;rintro e w3 ⟨rfl,G3,hG3,hC3⟩;have hC:=H2.out.2.trans hC3;cases b
  ·have wf3:WF n (s.addAt (7*f'+2) j'):=hw.addAt (by omega) hj';have hu3:(s.addAt (7*f'+2) j').un+1<4611686018427387904:=hu;have hst2:s.link c f j=if(if c.deltas then(s.addAt (7*f'+2) j').hd f' else(s.addAt (7*f'+2) j').tg f').isEmpty then s.addAt (7*f'+2) j' else(s.addAt (7*f'+2) j').hand c (if c.deltas then(s.addAt (7*f'+2) j').hd f' else(s.addAt (7*f'+2) j').tg f') f' j':=by
    rw[HST.out,if_neg (by rw[← HB.out];simp[hfj])]
   have HST2:=hide hst2;have e1':G3.bg=G.bg:=hC.e1;have e2':G3.bn=G.bn:=hC.e2;obtain⟨r0,r1,r2,r3,r4',r5',r7,r9,r9f⟩:=hG3.reads;rw[e1']at r4' r5';rw[e2']at r5';have H3:=hide (And.intro hG3 hC);clear hst2 HST HB hG3 hC hC3 r0 r1 r2 r3 r7 r9 r9f r4 r5;generalize s.addAt (7*f'+2) j'=s1 at *;have rest:∀(o2 k2:Nat) (T:List Nat),o2=k2→k2<7*n→k2≠7*j'→s1.ss.getD k2 []=T→(s.link c f j=if T.isEmpty then s1 else s1.hand c T f' j') →
     Calls Tryz.prog 87 #[.pointer (some ⟨G.bn,o2,none⟩)] w3 (fun e w'=>e=.returned (.bool T.isEmpty)∧GM w' B c n G3 s1∧GCh w w' G G3) ∧
     ∀W,GM W B c n G3 s1→GCh w W G G3→(T.isEmpty=true→GM W B c n G3 (s.link c f j))∧(T.isEmpty=false→Calls Tryz.prog 119 #[.pointer (some ⟨G.bg,0,none⟩),.pointer (some ⟨G.bn,o2,none⟩),.int .u64 f',.int .u64 j'] W fun e w'=>e=.returned (.tuple #[])∧∃G',GM w' B c n G' (s.link c f j)∧GCh w w' G G'):=by
    intro o2 k2 T e hk hkj hT hl;subst e;refine⟨?_,fun W hG hCw=>⟨fun ht=>?_,fun ht=>?_⟩⟩
    ·have:=gempty_any o2 w3 G3 H3.out.1 hk;rw[e2',hT]at this;refine this.mono ?_
     rintro e w' ⟨rfl,p1,p2⟩;exact⟨rfl,p1,H3.out.2.trans p2⟩
    ·rw[hl,if_pos ht];exact hG
    ·have ha:=ArgS.own hG (k:=7*j') hk hkj;rw[hT]at ha;have:=ghand_any hS G3.bn o2 f' j' T W G3 hG wf3 hf' hj' (fun x hx=>wf3.bd o2 x (by rw[hT];exact hx)) ha hu3;rw[e1',e2']at this;refine this.mono ?_
     rintro e w' ⟨rfl,G',p1,p2⟩;refine⟨rfl,G',?_,hCw.trans p2⟩;rw[hl,ht];exact p1
   have hcd:c.deltas=true∨c.deltas=false:=by cases c.deltas<;>simp
   rcases hcd with hd|hd
   ·obtain⟨E1,E2⟩:=rest (f'*7+1) (7*f'+1) (s1.hd f') (by omega) (by omega) (by omega) rfl (by rw[HST2.out,hd];rfl);obtain⟨b,hb⟩:∃b,b=(s1.hd f').isEmpty:=⟨_,rfl⟩;rw[← hb]at E1 E2;have HE2:=hide E2;rw[hd]at r4';clear rest E2 hb HST2 H3;go_wp2_with fail
    refine E1.mono ?_
    clear E1;rintro e w4 ⟨rfl,hG4,hC4⟩;obtain⟨k1,k2⟩:=HE2.out w4 hG4 hC4;clear HE2 hG4;cases b
    ·have hcall:=k2 rfl;clear k1 k2;go_wp2_with fail
     refine hcall.mono ?_
     clear hcall;rintro e w5 ⟨rfl,G5,hG5⟩;have HF:=hide hG5;clear hG5;go_wp2;go_end0
     exact⟨rfl,_,HF.out⟩
    ·have HF:=hide (And.intro (k1 rfl) hC4);clear k1 k2 hC4;go_wp2;go_end0
     exact⟨rfl,_,HF.out⟩
   ·obtain⟨E1,E2⟩:=rest (f'*7) (7*f') (s1.tg f') (by omega) (by omega) (by omega) rfl (by rw[HST2.out,hd];rfl);obtain⟨b,hb⟩:∃b,b=(s1.tg f').isEmpty:=⟨_,rfl⟩;rw[← hb]at E1 E2;have HE2:=hide E2;rw[hd]at r4';clear rest E2 hb HST2 H3;go_wp2_with fail
    refine E1.mono ?_
    clear E1;rintro e w4 ⟨rfl,hG4,hC4⟩;obtain⟨k1,k2⟩:=HE2.out w4 hG4 hC4;clear HE2 hG4;cases b
    ·have hcall:=k2 rfl;clear k1 k2;go_wp2_with fail
     refine hcall.mono ?_
     clear hcall;rintro e w5 ⟨rfl,G5,hG5⟩;have HF:=hide hG5;clear hG5;go_wp2;go_end0
     exact⟨rfl,_,HF.out⟩
    ·have HF:=hide (And.intro (k1 rfl) hC4);clear k1 k2 hC4;go_wp2;go_end0
     exact⟨rfl,_,HF.out⟩
  ·have HF:Hid (GM w3 B c n G3 (s.link c f j)∧GCh w w3 G G3):=by
    refine hide ⟨?_,hC⟩;rw[HST.out,if_pos (by rw[← HB.out];simp)];have ea:s.addAt (7*f'+2) j'=s:=by
     have hcan:s.hr f'=mkS ((s.hr f').contains ·):=by
      obtain⟨v,q,q',qs⟩:=H2.out.1.get (k:=7*f'+2) (by omega);exact qs.canon
     have:=addS_self hcan HB.out.symm;unfold St.addAt;rw[show s.ss.getD (7*f'+2) []=s.hr f' from rfl,this];unfold St.put;have e5:s.ss.set (7*f'+2) (s.hr f')=s.ss:=by
      apply List.ext_getElem?;intro i;by_cases e:i=7*f'+2
      ·subst e;have hl:7*f'+2<s.ss.length:=by rw[hw.len];omega
       rw[List.getElem?_set_self hl];unfold St.hr;rw[List.getD_eq_getElem?_getD,List.getElem?_eq_getElem hl];rfl
      ·rw[List.getElem?_set_ne (Ne.symm e)]
     rw[e5]
    rw[ea]at hG3;exact hG3
   clear hG3 hC3 hC;go_wp2;refine bodyPost_ret (results_none rfl _ _ _) rfl ?_
   exact⟨rfl,_,HF.out⟩
end
end Go.Proofs.YtiamlbhkiehilaaGreatDoor
