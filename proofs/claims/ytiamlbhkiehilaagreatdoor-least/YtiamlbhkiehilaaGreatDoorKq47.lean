import Derived.Test.YtiamlbhkiehilaaGreatDoorKq46
import Derived.Deep.AppendLies
namespace Go.Proofs.YtiamlbhkiehilaaGreatDoor
section
open Go.RowKit Go.Shelf Go.Maps
attribute [local go_sem] Oper.semAt_some
theorem pts_ns{fs:List Fct}{p x:ByteArray}(h:Pts fs p x):x∈nsOf fs:=by
 induction h using Pts.ind with
 |addr hm=>exact mem_ns.2 ⟨_,hm,.inr rfl⟩
 |copy _ _ ih=>exact ih
 |load _ _ _ _ ih=>exact ih
 |store _ _ _ _ ih=>exact ih
set_option maxRecDepth 100000 in
set_option maxHeartbeats 4000000 in
theorem kholds_any[DP]{fs:List Fct}(h:okGo [] fs)(v:Value)(k:Int)(p q:ByteArray)(hf:(⟨k,p,q⟩:Fct)∈fs)(w:World)(hv:IsRows v (solR fs) w) :
  Calls Tryz.prog 18 #[v,.agg #[.int .i64 k,.string p,.string q]] w fun e w'=>e=.returned (.bool true)∧Below w.heap.size w w':=by
 have hkd:=okGo_kinds h ⟨k,p,q⟩ hf;have hp:p∈nsOf fs:=mem_ns.2 ⟨_,hf,.inl rfl⟩;have hq:q∈nsOf fs:=mem_ns.2 ⟨_,hf,.inr rfl⟩;have g0:=heap_new w (.cells #[.int .i64 k,.string p,.string q] 48);have b0:Below w.heap.size w (w.alloc (.cells #[.int .i64 k,.string p,.string q] 48)):=(Below.refl _ _).alloc (Nat.le_refl _) _;have hv0:=hv.below b0;have x0:(w.alloc (.cells #[.int .i64 k,.string p,.string q] 48)).cell? ⟨w.heap.size,0,none⟩=some (.int .i64 k):=by rw[cell_at g0];rfl
 have x1:(w.alloc (.cells #[.int .i64 k,.string p,.string q] 48)).cell? ⟨w.heap.size,1,none⟩=some (.string p):=by rw[cell_at g0];rfl
 have x2:(w.alloc (.cells #[.int .i64 k,.string p,.string q] 48)).cell? ⟨w.heap.size,2,none⟩=some (.string q):=by rw[cell_at g0];rfl
 have HPt:=hide (fun(a:ByteArray) (ha:a∈nsOf fs)=>kpts_sol h hv0 ha);have HP:=HPt.out p hp;have HQ:=HPt.out q hq;have HB:=hide b0;have HF:=hide (And.intro hf h);clear hf h hv hv0 g0 b0 hp hq;simp only at hkd;obtain⟨hk1,hk4⟩:=hkd;go_enter Tryz.func18,Tryz.ntmps18
 go_wp2_with fail
 refine HP.mono ?_
 clear HP;rintro e W1 ⟨⟨tp,lp,rfl,htp,hlp,hpp⟩,hW1⟩;subst hW1;go_wp2_with fail
 refine HQ.mono ?_
 clear HQ;rintro e W2 ⟨⟨tq,lq,rfl,htq,hlq,hqq⟩,hW2⟩;subst hW2;generalize hW0:w.alloc (.cells #[.int .i64 k,.string p,.string q] 48)=W0 at *;have HPP:=hide hpp;have HQQ:=hide hqq;clear hpp hqq hW0;have hkc:k=1∨k=2∨k=3∨k=4:=by omega
 rcases hkc with rfl|rfl|rfl|rfl
 ·have HI:=kin_any tp lp q W0 (by omega) htp;have HR:Hid (q∈lp):=hide ((HPP.out q).2 (.addr HF.out.1));clear htp htq;go_wp2_with fail
  refine HI.mono ?_
  rintro e W3 ⟨⟨bb,rfl,hbb⟩,hW3⟩;subst hW3;have hb9:bb=true:=hbb.2 HR.out;subst hb9;go_wp2;go_ret
  exact⟨rfl,HB.out⟩
 ·have HI:=kunder_any tq tp lq lp W0 (by omega) (by omega) htq htp;have HR:Hid (∀x∈lq,x∈lp):=hide (fun x hx=>(HPP.out x).2 (.copy HF.out.1 ((HQQ.out x).1 hx)));clear htp htq;go_wp2_with fail
  refine HI.mono ?_
  rintro e W3 ⟨⟨bb,rfl,hbb⟩,hW3⟩;subst hW3;have hb9:bb=true:=hbb.2 HR.out;subst hb9;go_wp2;go_ret
  exact⟨rfl,HB.out⟩
 ·have HTP:=hide htp;have htq':=htq;obtain⟨ao,ac,rfl,_,_,hsq⟩:=htq';have HSQ:=hide hsq;clear htp htq hsq;go_wp2_with fail
  go_loop [9] (fun iv=>∃i:Nat,iv=.int .i64 i∧i≤lq.length) (fun iv=>lq.length-(intOf iv).toNat)
  case atStart=>exact⟨0,rfl,Nat.zero_le _⟩
  case round=>
   obtain⟨i,rfl,hi⟩:=hrel;by_cases hlt:i<lq.length
   ·obtain⟨x,hx⟩:∃f,lq[i]?=some f:=⟨_,List.getElem?_eq_getElem hlt⟩;have hne:lq≠[]:=by intro e;rw[e]at hlt;simp at hlt
    obtain⟨b1,q1,h1,hb1,hf1⟩:=HSQ.out hne;rw[h1];have a0:=hf1 i x hx;have hxq:=(HQQ.out x).1 (List.mem_of_getElem? hx);have HP9:=HPt.out x (pts_ns hxq);have HX:=hide hxq;clear hx hf1 hne hxq;go_wp2_with fail
    refine HP9.mono ?_
    clear HP9;rintro e W3 ⟨⟨tx,lx,rfl,htx,hlx,hxx⟩,hW3⟩;subst hW3;have HU:=kunder_any tx tp lx lp _ (by omega) (by omega) htx HTP.out;have HR:Hid (∀y∈lx,y∈lp):=hide (fun y hy=>(HPP.out y).2 (.load HF.out.1 HX.out ((hxx y).1 hy)));clear htx hxx;go_wp2_with fail
    refine HU.mono ?_
    clear HU;rintro e W3 ⟨⟨bb,rfl,hbb⟩,hW3⟩;subst hW3;have hb9:bb=true:=hbb.2 HR.out;subst hb9;clear hbb HR;go_wp2;go_round
    case rel=>exact⟨i+1,by go_num,hlt⟩
    case measure=>simp[intOf];omega
   ·go_wp2;go_ret
    exact⟨rfl,HB.out⟩
 ·have HTQ:=hide htq;have htp':=htp;obtain⟨ao,ac,rfl,_,_,hsp⟩:=htp';have HSP:=hide hsp;clear htp htq hsp;go_wp2_with fail
  go_loop [13] (fun iv=>∃i:Nat,iv=.int .i64 i∧i≤lp.length) (fun iv=>lp.length-(intOf iv).toNat)
  case atStart=>exact⟨0,rfl,Nat.zero_le _⟩
  case round=>
   obtain⟨i,rfl,hi⟩:=hrel;by_cases hlt:i<lp.length
   ·obtain⟨x,hx⟩:∃f,lp[i]?=some f:=⟨_,List.getElem?_eq_getElem hlt⟩;have hne:lp≠[]:=by intro e;rw[e]at hlt;simp at hlt
    obtain⟨b1,q1,h1,hb1,hf1⟩:=HSP.out hne;rw[h1];have a0:=hf1 i x hx;have hxq:=(HPP.out x).1 (List.mem_of_getElem? hx);have HP9:=HPt.out x (pts_ns hxq);have HX:=hide hxq;clear hx hf1 hne hxq;go_wp2_with fail
    refine HP9.mono ?_
    clear HP9;rintro e W3 ⟨⟨tx,lx,rfl,htx,hlx,hxx⟩,hW3⟩;subst hW3;have HU:=kunder_any tq tx lq lx _ (by omega) (by omega) HTQ.out htx;have HR:Hid (∀y∈lq,y∈lx):=hide (fun y hy=>(hxx y).2 (.store HF.out.1 HX.out ((HQQ.out y).1 hy)));clear htx hxx;go_wp2_with fail
    refine HU.mono ?_
    clear HU;rintro e W3 ⟨⟨bb,rfl,hbb⟩,hW3⟩;subst hW3;have hb9:bb=true:=hbb.2 HR.out;subst hb9;clear hbb HR;go_wp2;go_round
    case rel=>exact⟨i+1,by go_num,hlt⟩
    case measure=>simp[intOf];omega
   ·go_wp2;go_ret
    exact⟨rfl,HB.out⟩
end
section
open Go.RowKit Go.Shelf Go.Maps
attribute [local go_sem] Oper.semAt_some
attribute [-go_sem] Builtin.append_
theorem pts_taken{fs:List Fct}{p x:ByteArray}(h:Pts fs p x):∃p',(⟨1,p',x⟩:Fct)∈fs:=by
 induction h using Pts.ind with
 |addr hm=>exact⟨_,hm⟩
 |copy _ _ ih=>exact ih
 |load _ _ _ _ ih=>exact ih
 |store _ _ _ _ ih=>exact ih
theorem app_strs(X:World)(B:Nat)(v:Value)(ss news:List ByteArray)(hown:X.ownsRow B 9 1 v ss.length (ss.map Value.string))(ad:Addr)(c:Nat)(hnews:∀(j:Nat) u,(news.map Value.string)[j]?=some u→X.cell? (ad.add j)=some u)(hm:0<news.length)(h1:ss.length≤10000)(h2:news.length≤1000)(hB:B≤X.heap.size) :
  ∃g cap w',(Builtin.append_ #[44,44] 44 #[v,.slice (some ad) news.length c]).run Tryz.prog X=.ok (.slice (some ⟨g,0,none⟩) (ss.length+news.length) cap) w'∧w'.ownsRow B 9 1 (.slice (some ⟨g,0,none⟩) (ss.length+news.length) cap) (ss++news).length ((ss++news).map Value.string)∧X.grownBy w' v.ownBlock∧(v.ownBlock=some g∨g=X.heap.size):=by
 obtain⟨i0,hi0,hz0,hz1,hz2⟩:=info_parts infoStr;obtain⟨g,cap,w',hrun,hown',hgrow,hl,_⟩:=run_append_lies (P:=Tryz.prog) X 44 44 B 9 i0 (.string ⟨#[]⟩) 1 16 Tryz.underlying44 hi0 hz0 hz1 hz2 rfl (by decide) v ss.length _ hown ad news.length c (news.map Value.string) (by simp) hnews (by intro u hu;obtain⟨y,_,rfl⟩:=List.mem_map.1 hu;rfl) hm (by unfold maxLen;omega) (by omega) hB _ rfl;refine⟨g,cap,w',hrun,?_,hgrow,hl⟩;rw[List.length_append,List.map_append];exact hown'
structure HdI(W0 wr:World)(nL tL:List ByteArray)(vn vt:Value):Prop where
 nm:wr.ownsRow W0.heap.size 9 1 vn nL.length (nL.map Value.string)
 tk:wr.ownsRow W0.heap.size 9 1 vt tL.length (tL.map Value.string)
 sep:∀g,vn.ownBlock=some g→vt.ownBlock≠some g
 blw:Below W0.heap.size W0 wr
theorem HdI.start(W0:World):HdI W0 W0 [] [] (.slice none 0 0) (.slice none 0 0):=⟨World.ownsRow_nil _ _ _ _,World.ownsRow_nil _ _ _ _,(fun g hg=>by cases hg),Below.refl _ _⟩
theorem HdI.below{W0 wr W1:World}{nL tL:List ByteArray}{vn vt:Value}(h:HdI W0 wr nL tL vn vt)(hb:Below wr.heap.size wr W1):HdI W0 W1 nL tL vn vt:=
 ⟨own_below h.nm hb,own_below h.tk hb,h.sep,h.blw.trans (hb.mono h.blw.size)⟩
theorem HdI.names{W0 wr:World}{nL tL:List ByteArray}{vn vt:Value}(h:HdI W0 wr nL tL vn vt)(x y:ByteArray)(hn:nL.length≤10000) :
  ∃g cap w2,(Builtin.append_ #[44,44] 44 #[vn,.slice (some ⟨wr.heap.size,0,none⟩) 2 2]).run Tryz.prog (wr.drew.alloc (.cells #[.string x,.string y] 9))=.ok (.slice (some ⟨g,0,none⟩) (nL.length+2) cap) w2∧HdI W0 w2 (nL++[x,y]) tL (.slice (some ⟨g,0,none⟩) (nL.length+2) cap) vt:=by
 have bA:Below wr.heap.size wr (wr.drew.alloc (.cells #[.string x,.string y] 9)):=(Below.refl _ _).drew.alloc (Nat.le_refl _) _;have h2:=h.below bA;obtain⟨g,cap,w2,hrun,hown,hgrow,hl⟩:=app_strs (wr.drew.alloc (.cells #[.string x,.string y] 9)) W0.heap.size vn nL [x,y] h2.nm ⟨wr.heap.size,0,none⟩ 2 (cells_new wr.drew _ _ _ rfl) (by simp) hn (by simp) h2.blw.size;have kG:=kb_grown hgrow;refine⟨g,cap,w2,hrun,hown,own_kb2 h2.tk kG (fun g' hg' hm=>h2.sep g' (by simpa using hm) hg'),fun g' hg' hg2=>?_,h2.blw.trans (kG.below h2.blw.size (fun k hk=>(h2.nm.lt k (by simpa using hk)).1))⟩;cases hg';rcases hl with e|e
 ·exact h2.sep g e hg2
 ·have:=(h2.tk.lt g hg2).2;omega
theorem HdI.taken{W0 wr:World}{nL tL:List ByteArray}{vn vt:Value}(h:HdI W0 wr nL tL vn vt)(y:ByteArray)(hn:tL.length≤10000) :
  ∃g cap w2,(Builtin.append_ #[44,44] 44 #[vt,.slice (some ⟨wr.heap.size,0,none⟩) 1 1]).run Tryz.prog (wr.alloc (.cells #[.string y] 9))=.ok (.slice (some ⟨g,0,none⟩) (tL.length+1) cap) w2∧HdI W0 w2 nL (tL++[y]) vn (.slice (some ⟨g,0,none⟩) (tL.length+1) cap):=by
 have bA:Below wr.heap.size wr (wr.alloc (.cells #[.string y] 9)):=(Below.refl _ _).alloc (Nat.le_refl _) _;have h2:=h.below bA;obtain⟨g,cap,w2,hrun,hown,hgrow,hl⟩:=app_strs (wr.alloc (.cells #[.string y] 9)) W0.heap.size vt tL [y] h2.tk ⟨wr.heap.size,0,none⟩ 1 (cells_new wr _ _ _ rfl) (by simp) hn (by simp) h2.blw.size;have kG:=kb_grown hgrow;refine⟨g,cap,w2,hrun,own_kb2 h2.nm kG (fun g' hg' hm=>h2.sep g' hg' (by simpa using hm)),hown,fun g' hg' hg2=>?_,h2.blw.trans (kG.below h2.blw.size (fun k hk=>(h2.tk.lt k (by simpa using hk)).1))⟩;cases hg2;rcases hl with e|e
 ·exact h2.sep g hg' e
 ·have:=(h2.nm.lt g hg').2;omega
def nmL(fs:List Fct):List ByteArray:=fs.flatMap fun f=>[f.p,f.q]
def tkL(fs:List Fct):List ByteArray:=fs.filterMap fun f=>if f.k=1 then some f.q else none
end
end Go.Proofs.YtiamlbhkiehilaaGreatDoor
