import Derived.Test.YtiamlbhkiehilaaGreatDoorKpMiss
import Derived.Test.YtiamlbhkiehilaaGreatDoorKtMoreW
import Derived.Deep.AppendLies
namespace Go.Proofs.YtiamlbhkiehilaaGreatDoor
open Go.RowKit Go.Shelf Go.Maps
theorem app_fcts (X:World) (B:Nat) (v:Value) (fs news:List Fct) (hown:X.ownsRow B 48 3 v fs.length (cellsF fs)) (ad:Addr) (c:Nat) (hnews:∀ (j:Nat) u,(cellsF news)[j]?=some u→X.cell? (ad.add j)=some u) (hm:0 < news.length) (h1:fs.length≤10000) (h2:news.length≤1000) (hB:B≤X.heap.size) :
  ∃ g cap w',(Builtin.append_ #[36,36] 36 #[v,.slice (some ad) news.length c]).run Tryz.prog X=.ok (.slice (some ⟨g,0,none⟩) (fs.length+news.length) cap) w'∧w'.ownsRow B 48 3 (.slice (some ⟨g,0,none⟩) (fs.length+news.length) cap) (fs ++ news).length (cellsF (fs ++ news))∧X.grownBy w' v.ownBlock∧(v.ownBlock=some g∨g=X.heap.size):=by
 obtain ⟨i0,hi0,hz0,hz1,hz2⟩:=info_parts infoFact
 obtain ⟨g,cap,w',hrun,hown',hgrow,hl,_⟩:=run_append_lies (P:=Tryz.prog) X 36 36 B 48 i0 (.agg #[.int .i64 0,.string ⟨#[]⟩,.string ⟨#[]⟩]) 3 40 Tryz.underlying36 hi0 hz0 hz1 hz2 rfl (by decide) v fs.length _ hown ad news.length c (cellsF news) (cellsF_length news) hnews (cellsF_one news) hm (by unfold maxLen; omega) (by omega) hB _ rfl
 refine ⟨g,cap,w',hrun,?_,hgrow,hl⟩
 rw [List.length_append,cellsF_app]
 exact hown'
structure TuI (W0 wr:World) (tl rl:List Fct) (tv rv:Value):Prop where
 tn:wr.ownsRow W0.heap.size 48 3 tv tl.length (cellsF tl)
 re:wr.ownsRow W0.heap.size 48 3 rv rl.length (cellsF rl)
 sep:∀ g,tv.ownBlock=some g→rv.ownBlock≠some g
 blw:Below W0.heap.size W0 wr
theorem TuI.below {W0 wr W1:World} {tl rl:List Fct} {tv rv:Value} (h:TuI W0 wr tl rl tv rv) (hb:Below wr.heap.size wr W1):TuI W0 W1 tl rl tv rv:=
 ⟨own_below h.tn hb,own_below h.re hb,h.sep,h.blw.trans (hb.mono h.blw.size)⟩
theorem TuI.push {W0 wr:World} {tl rl:List Fct} {tv rv:Value} (h:TuI W0 wr tl rl tv rv) (k:Int) (p q:ByteArray) (hn:tl.length≤10000) :
  ∃ g cap w2,(Builtin.append_ #[36,36] 36 #[tv,.slice (some ⟨wr.heap.size,0,none⟩) 1 1]).run Tryz.prog (wr.alloc (.cells #[.int .i64 k,.string p,.string q] 48))=.ok (.slice (some ⟨g,0,none⟩) (tl.length+1) cap) w2∧TuI W0 w2 (tl ++ [⟨k,p,q⟩]) rl (.slice (some ⟨g,0,none⟩) (tl.length+1) cap) rv:=by
 have bA:Below wr.heap.size wr (wr.alloc (.cells #[.int .i64 k,.string p,.string q] 48)):=(Below.refl _ _).alloc (Nat.le_refl _) _
 have h2:=h.below bA
 obtain ⟨g,cap,w2,hrun,hown,hgrow,hl⟩:=app_fcts (wr.alloc (.cells #[.int .i64 k,.string p,.string q] 48)) W0.heap.size tv tl [⟨k,p,q⟩] h2.tn ⟨wr.heap.size,0,none⟩ 1 (cells_new wr _ _ _ rfl) (by simp) hn (by simp) h2.blw.size
 have kG:=kb_grown hgrow
 refine ⟨g,cap,w2,hrun,hown,own_kb2 h2.re kG (fun g' hg' hm=>h2.sep g' (by simpa using hm) hg'),fun g' hg' hg2=>?_,h2.blw.trans (kG.below h2.blw.size (fun k hk=>(h2.tn.lt k (by simpa using hk)).1))⟩
 cases hg'
 rcases hl with e | e
 ·exact h2.sep g e hg2
 ·have:=(h2.re.lt g hg2).2
  omega
theorem cellsF_take (fs:List Fct) (k:Nat):cellsF (fs.take k)=(cellsF fs).take (3 * k):=by
 induction fs generalizing k with
 | nil=>simp [cellsF]
 | cons f r ih=>
  cases k with
  | zero=>simp [cellsF]
  | succ k=>
   rw [List.take_succ_cons,show cellsF (f :: r.take k)=[.int .i64 f.k,.string f.p,.string f.q] ++ cellsF (r.take k) by simp [cellsF],show cellsF (f :: r)=[.int .i64 f.k,.string f.p,.string f.q] ++ cellsF r by simp [cellsF],ih,show 3 * (k+1)=3 * k+3 by omega]
   simp
theorem cellsF_drop (fs:List Fct) (k:Nat):cellsF (fs.drop k)=(cellsF fs).drop (3 * k):=by
 induction fs generalizing k with
 | nil=>simp [cellsF]
 | cons f r ih=>
  cases k with
  | zero=>simp [cellsF]
  | succ k=>
   rw [List.drop_succ_cons,show cellsF (f :: r)=[.int .i64 f.k,.string f.p,.string f.q] ++ cellsF r by simp [cellsF],ih,show 3 * (k+1)=3 * k+3 by omega]
   simp
theorem TuI.cut {W0 wr:World} {tl rl:List Fct} {tv:Value} {g cap:Nat} (h:TuI W0 wr tl rl tv (.slice (some ⟨g,0,none⟩) rl.length cap)) {k:Nat} (hk:k < rl.length) (hn:rl.length≤1000) (D:Addr) (hD:k+1 < rl.length→D=⟨g,(k+1) * 3,none⟩) (c1 c2:Nat) :
  ∃ nv w1 rv' w2,(Builtin.append_ #[36,36] 36 #[.slice none 0 0,.slice (some ⟨g,0,none⟩) k c1]).run Tryz.prog wr=.ok nv w1∧(Builtin.append_ #[36,36] 36 #[nv,.slice (some D) (rl.length - (k+1)) c2]).run Tryz.prog w1=.ok rv' w2∧TuI W0 w2 tl (rl.take k ++ rl.drop (k+1)) tv rv':=by
 obtain ⟨i0,hi0,hz0,hz1,hz2⟩:=info_parts infoFact
 have hcl:=(own_cell h.re).1
 -- what is ahead of it
 have s1:∃ nv w1,(Builtin.append_ #[36,36] 36 #[.slice none 0 0,.slice (some ⟨g,0,none⟩) k c1]).run Tryz.prog wr=.ok nv w1∧w1.ownsRow wr.heap.size 48 3 nv k (cellsF (rl.take k))∧Below wr.heap.size wr w1:=by
  by_cases hk0:k=0
  ·subst hk0
   exact ⟨_,wr,run_append_zero Tryz.prog 36 36 48 i0 Tryz.underlying36 hi0 none (some ⟨g,0,none⟩) 0 0 c1 (Nat.le_refl _) wr,World.ownsRow_nil _ _ _ _,Below.refl _ _⟩
  ·have hlt:(rl.take k).length=k:=by rw [List.length_take]; omega
   obtain ⟨g1,cp,w1,hrun,hown,hgrow,_⟩:=app_fcts wr wr.heap.size (.slice none 0 0) [] (rl.take k) (World.ownsRow_nil _ _ _ _) ⟨g,0,none⟩ c1 (fun j u hu=>by
    rw [cellsF_take] at hu
    have hj:j < 3 * k:=by
     have:=(List.getElem?_eq_some_iff.1 hu).1
     rw [List.length_take] at this
     omega
    rw [List.getElem?_take_of_lt hj] at hu
    simp only [Addr.add_lit]
    simpa using hcl j u hu) (by omega) (by simp) (by omega) (Nat.le_refl _)
   rw [hlt] at hrun
   refine ⟨_,w1,hrun,?_,(kb_grown hgrow).below (Nat.le_refl _) (by intro x hx; simp [Value.ownBlock] at hx)⟩
   simpa [hlt] using hown
 obtain ⟨nv,w1,r1,o1,b1⟩:=s1
 have h1:=h.below b1
 have hlt:(rl.take k).length=k:=by rw [List.length_take]; omega
 have hld:(rl.drop (k+1)).length=rl.length - (k+1):=List.length_drop
 by_cases hl:rl.length - (k+1)=0
 ·obtain ⟨no,nc,hnv,_⟩:=own_form o1
  have hle:k≤nc:=by
   rcases o1.2 with ⟨h9,_⟩ | ⟨g',cap',cur,h9,_,_,hnc,_⟩
   ·rw [hnv] at h9; injection h9 with _ h8 h7; omega
   ·rw [hnv] at h9; injection h9 with _ _ h7; omega
  refine ⟨nv,w1,nv,w1,r1,?_,h1.tn,?_,fun g' hg' hg2=>?_,h1.blw⟩
  ·rw [hl,hnv]
   exact run_append_zero Tryz.prog 36 36 48 i0 Tryz.underlying36 hi0 no (some D) k nc c2 hle w1
  ·have e:rl.drop (k+1)=[]:=List.drop_eq_nil_of_le (by omega)
   rw [e,List.append_nil,hlt]
   exact own_mono o1 h.blw.size
  ·have q1:=(o1.lt g' hg2).1
   have q2:=(h.tn.lt g' hg').2
   omega
 ·have hD':=hD (by omega)
  obtain ⟨g2,cp2,w2,hrun,hown,hgrow,hl2⟩:=app_fcts w1 wr.heap.size nv (rl.take k) (rl.drop (k+1)) (by rw [hlt]; exact o1) D c2 (fun j u hu=>by
   rw [cellsF_drop,List.getElem?_drop] at hu
   rw [hD']
   simp only [Addr.add_lit]
   have hc:=(own_cell h1.re).1 (3 * (k+1)+j) u hu
   rw [show (k+1) * 3+j=3 * (k+1)+j by omega]
   exact hc) (by omega) (by omega) (by omega) b1.size
  have kG:=kb_grown hgrow
  have hnl:∀ x,nv.ownBlock=some x→wr.heap.size≤x:=fun x hx=>(o1.lt x hx).1
  rw [hld] at hrun hown
  refine ⟨nv,w1,_,w2,r1,hrun,?_,own_mono hown h.blw.size,fun g' hg' hg2=>?_,h1.blw.trans (kG.below h1.blw.size (fun x hx=>Nat.le_trans h.blw.size (hnl x (by simpa using hx))))⟩
  ·refine own_kb2 h1.tn kG (fun g' hg' hm=>?_)
   have q1:=hnl g' (by simpa using hm)
   have q2:=(h.tn.lt g' hg').2
   omega
  ·cases hg2
   have q2:=(h.tn.lt g2 hg').2
   rcases hl2 with e | e
   ·have:=hnl g2 e; omega
   ·have:=b1.size; omega
end Go.Proofs.YtiamlbhkiehilaaGreatDoor
