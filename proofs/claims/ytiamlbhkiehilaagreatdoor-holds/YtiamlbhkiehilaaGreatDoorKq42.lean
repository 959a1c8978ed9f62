import Derived.Test.YtiamlbhkiehilaaGreatDoorKq41
import Derived.Test.YtiamlbhkiehilaaGreatDoorKq11
import Derived.Test.YtiamlbhkiehilaaGreatDoorKq38
import Derived.Test.YtiamlbhkiehilaaGreatDoorKq08
import Derived.Laws.OwnMore
namespace Go.Proofs.YtiamlbhkiehilaaGreatDoor
section
open Go.RowKit Go.Maps
structure RawD where
 k:Int
 p:Int
 q:Int
def RawD.fct(r:RawD):Fct:=rawF r.k r.p r.q
def RawD.ok(r:RawD):Prop:=inI r.k∧inI r.p∧inI r.q
def IsRaws(v:Value)(rs:List RawD)(w:World):Prop:=
 ∃ao cap,v=.slice ao rs.length cap∧rs.length≤cap∧(rs≠[]→∃b off,ao=some ⟨b,off,none⟩∧b<w.heap.size∧∀(i:Nat) r,rs[i]?=some r→w.cell? ⟨b,off+i*3,none⟩=some (.int .i64 r.k)∧w.cell? ⟨b,off+i*3+1,none⟩=some (.int .i64 r.p)∧w.cell? ⟨b,off+i*3+2,none⟩=some (.int .i64 r.q))
structure FaInv(w wr:World)(rs:List RawD)(i:Nat)(v:Value):Prop where
 own:wr.ownsRow w.heap.size 48 3 v i (cellsF ((rs.take i).map RawD.fct))
 blw:Below w.heap.size w wr
set_option maxRecDepth 100000 in
set_option maxHeartbeats 2000000 in
theorem kfacts_any(v:Value)(rs:List RawD)(most:Nat)(w:World)(hlen:rs.length≤maxLen)(hm:most≤1000)(hv:IsRaws v rs w)(hok:∀r∈rs,r.ok) :
  Calls Tryz.prog 13 #[v,.int .i64 most] w fun e w'=>∃v,e=.returned v∧w'.ownsRow w.heap.size 48 3 v ((rs.take most).map RawD.fct).length (cellsF ((rs.take most).map RawD.fct))∧Below w.heap.size w w':=by
 obtain⟨i0,hi0,hz0,hz1,hz2⟩:=info_parts infoFact;obtain⟨ao,cap,rfl,hcap,hne⟩:=hv;have HNE:=hide hne;have HOK:=hide hok;clear hne hok;unfold maxLen at hlen;go_enter Tryz.func13,Tryz.ntmps13
 go_wp2;go_loopw [5,6] (fun v iv wr=>∃i:Nat,iv=.int .i64 i∧i≤rs.length∧i≤most∧FaInv w wr rs i v) (fun _ iv _=>most-(intOf iv).toNat)
 case atStart=>exact⟨0,rfl,Nat.zero_le _,Nat.zero_le _,World.ownsRow_nil _ _ _ _,Below.refl _ _⟩
 case round=>
  obtain⟨i,rfl,hi1,hi2,hI⟩:=hrel;have HI:=hide hI;have hbx:=hI.blw;by_cases h1:i<rs.length
  ·by_cases h2:i<most
   ·obtain⟨r,hr⟩:∃r,rs[i]?=some r:=⟨_,List.getElem?_eq_getElem h1⟩;have hnil:rs≠[]:=by intro e;rw[e]at h1;simp at h1
    obtain⟨b,off,rfl,hb,hc⟩:=HNE.out hnil;obtain⟨a0,a1,a2⟩:=hc i r hr;have c0:=(hbx.cell (p:=⟨b,_,none⟩) hb).trans a0;have c1:=(hbx.cell (p:=⟨b,_,none⟩) hb).trans a1;have c2:=(hbx.cell (p:=⟨b,_,none⟩) hb).trans a2;obtain⟨o1,o2,o3⟩:=HOK.out r (List.mem_of_getElem? hr);have hfa:=kfact_any r.k r.p r.q wr o1 o2 o3;have HST:Hid (∀(w3:World) v',w3.ownsRow w.heap.size 48 3 v' (i+1) (cellsF ((rs.take i).map RawD.fct)++[.int .i64 r.fct.k,.string r.fct.p,.string r.fct.q])→Below w.heap.size w w3→FaInv w w3 rs (i+1) v'):=by
     intro w3 v' h3 h4;refine⟨?_,h4⟩;rw[take_next hr,List.map_append,List.map_singleton,cellsF_snoc];exact h3
    obtain⟨va,vc,rfl,_⟩:=own_form hI.own;clear hI a0 a1 a2 hc hr o1 o2 o3;go_wp2_with fail
    refine hfa.mono ?_
    rintro e w2 ⟨rfl,hb2⟩;have ho2:=own_below HI.out.own hb2;have hB2:Below w.heap.size w w2:=hbx.trans (hb2.mono hbx.size);have HO2:=hide ho2;clear hfa ho2 hb2 c0 c1 c2;go_wp2_with (first|(at_builtin;refine wpList_append_own _ rfl _ _ 36 rfl w.heap.size 48 i0 (.agg #[.int .i64 0,.string ⟨#[]⟩,.string ⟨#[]⟩]) 3 40 Tryz.underlying36 hi0 hz0 hz1 hz2 rfl (by decide) _ _ _ rfl (HO2.out.alloc _) ⟨w2.heap.size,0,none⟩ 1 1 [.int .i64 (rawF r.k r.p r.q).k,.string (rawF r.k r.p r.q).p,.string (rawF r.k r.p r.q).q] rfl rfl (cell_three_new _ _ _ _ _) ?x6 ?x7 ?x8 ?x9 ?_)|go_in)
    case x6=>intro u hu;simp at hu;rcases hu with rfl|rfl|rfl<;>rfl
    case x7=>unfold maxLen;omega
    case x8=>omega
    case x9=>have:=hB2.size;simp;omega
    intro v' w3 ho3 hg3 _;have hB3:Below w.heap.size w w3:=(hB2.alloc hB2.size _).grown hg3 (by have:=hB2.size;simp;omega) (fun j hj=>(HO2.out.lt j hj).1);have hnx:=HST.out w3 v' (by rw[List.map_take];exact ho3) hB3;clear ho3 hg3;go_wp2;go_round
    case rel=>exact⟨i+1,by go_num,h1,h2,hnx⟩
    case measure=>simp[intOf];omega
   ·have hie:i=most:=by omega
    have HF:Hid (rs.take most=rs.take i):=by rw[hie];rfl
    have hd2:decide ((i:Int)<(most:Int))=false:=by simp;omega
    clear hI;go_wp2;go_ret
    exact⟨_,rfl,by rw[HF.out];simpa[Nat.min_eq_left hi1]using HI.out.own,hbx⟩
  ·have hie:i=rs.length:=by omega
   have HF:Hid (rs.take most=rs.take i):=by unfold Hid;rw[List.take_of_length_le (by omega),List.take_of_length_le (by omega)]
   have hd1:decide ((i:Int)<(rs.length:Int))=false:=by simp;omega
   clear hI;go_wp2;go_ret
   exact⟨_,rfl,by rw[HF.out];simpa[Nat.min_eq_left hi1]using HI.out.own,hbx⟩
end
section
open Go.RowKit Go.Maps
def rowLine(r:RowD):List UInt8:=r.name.data.toList++58::toText r.to
theorem rowText_line(r:RowD):rowText r=rowLine r++[10]:=by simp[rowText,rowLine]
def nc(c:Int)(x:UInt8):Bool:=decide ((x.toNat:Int)≠c)
theorem stop_take(s:ByteArray)(c:Int):∀(d k:Nat),s.size-k=d→k≤s.size→stop s c k=k+((s.data.toList.drop k).takeWhile (nc c)).length:=by
 intro d;induction d with
 |zero=>
  intro k hd hk;have:k=s.size:=by omega
  subst this;rw[stop_end (Nat.le_refl _),List.drop_eq_nil_of_le (by simp)];rfl
 |succ d ih=>
  intro k hd hk;have hlt:k<s.size:=by omega
  rw[drop_cons hlt];by_cases hp:(s[k].toNat:Int)=c
  ·rw[stop_yes hlt hp];simp[nc,hp]
  ·rw[stop_no hlt hp,ih (k+1) (by omega) hlt];simp[nc,hp];omega
theorem ext_take{s:ByteArray}{c:Int}{k:Nat}(hk:k≤s.size):(s.extract k (stop s c k)).data.toList=(s.data.toList.drop k).takeWhile (nc c):=by
 rw[ByteArray.data_extract,Array.toList_extract,List.extract_eq_take_drop,stop_take s c _ k rfl hk,Nat.add_sub_cancel_left,take_takeWhile]
theorem drop_stop{s:ByteArray}{c:Int}{k:Nat}(hk:k≤s.size):s.data.toList.drop (stop s c k)=(s.data.toList.drop k).dropWhile (nc c):=by
 rw[stop_take s c _ k rfl hk,← List.drop_drop,drop_takeWhile]
def okRows:ByteArray→List RowD→Prop
 |_,[]=>True
 |last,r::q=>rowErr r last=0∧okRows r.name q
theorem rowErr_zero{r:RowD}{last:ByteArray}:rowErr r last=0↔rowNames r=true∧chk true r last=0:=by
 cases h:rowNames r
 ·simp[rowErr,h]
 ·simp[rowErr,chk,h]
theorem tell_ok{rs:List RowD}:∀ {last:ByteArray} {i:Nat} {acc:List UInt8},okRows last rs→(acc++rowsText rs).length≤25000→tellGo last i acc rs=(acc++rowsText rs,0,0):=by
 induction rs with
 |nil=>
  intro last i acc _ h;simp only[rowsText,List.append_nil]at h ⊢;simp only[tellGo];rw[if_neg (by omega)]
 |cons r q ih=>
  intro last i acc ho h;simp only[tellGo,ho.1,if_true];rw[ih ho.2 (by simpa[rowsText]using h)];simp[rowsText]
end
section
open Go.RowKit Go.Maps
theorem name_nc{n:List UInt8}(h:nameB n=true)(c:Int)(hs:startB c=false)(hp:partB c=false):∀x∈n,nc c x=true:=by
 obtain⟨a,t,rfl,ha,ht⟩:=name_parts h;intro x hx;simp only[nc,decide_eq_true_eq];intro he;rcases List.mem_cons.1 hx with h1|h1
 ·rw[← h1,he,hs]at ha;cases ha
 ·have:=ht x h1;unfold prt at this;rw[he,hp]at this;cases this
theorem toText_head(ts:List ByteArray):toText ts=[]∨∃r,toText ts=32::r:=by
 cases ts with
 |nil=>exact .inl rfl
 |cons a q=>exact .inr ⟨_,rfl⟩
theorem take_name{n:List UInt8}(h:nameB n=true)(ts:List ByteArray):(n++toText ts).takeWhile (nc 32)=n∧(n++toText ts).dropWhile (nc 32)=toText ts:=by
 have hn:=name_nc h 32 (by decide) (by decide);rcases toText_head ts with e|⟨r,e⟩
 ·rw[e,List.append_nil];exact takeWhile_end hn
 ·rw[e];exact takeWhile_all hn 32 r (by decide)
theorem tos_list(s:ByteArray):∀(ts:List ByteArray) (i:Nat),i≤s.size→(∀t∈ts,nameB t.data.toList=true)→s.data.toList.drop i=toText ts→tosR s i=ts:=by
 intro ts;induction ts with
 |nil=>
  intro i hi _ h;have hl:=congrArg List.length h;rw[List.length_drop,Array.length_toList]at hl;simp only[toText,List.length_nil]at hl;exact tosR_end (show s.data.size≤i by omega)
 |cons t q ih=>
  intro i hi hn h;have hlt:i<s.size:=by
   rcases Nat.lt_or_ge i s.size with h1|h1
   ·exact h1
   ·rw[List.drop_eq_nil_of_le (by rw[Array.length_toList];exact h1)]at h;simp[toText]at h
  rw[drop_cons hlt,toText,List.cons_append]at h;injection h with _ h;obtain⟨e1,e2⟩:=take_name (hn t (by simp)) q;have e3:=ext_take (s:=s) (c:=32) (k:=i+1) hlt;have e4:=drop_stop (s:=s) (c:=32) (k:=i+1) hlt;rw[h]at e3 e4;rw[e1]at e3;rw[e2]at e4;rw[tosR_step hlt,data_inj e3,ih _ (stop_le hlt) (fun x hx=>hn x (by simp[hx])) e4]
theorem line_row{r:RowD}(h:rowNames r=true):lineRow ⟨(rowLine r).toArray⟩=some r:=by
 have hr:=h;simp only[rowNames,Bool.and_eq_true,List.all_eq_true,isN]at h;obtain⟨hn,ht⟩:=h;have hd:(⟨(rowLine r).toArray⟩:ByteArray).data.toList=r.name.data.toList++58::toText r.to:=by
  show(rowLine r).toArray.toList=_;rw[List.toList_toArray];rfl
 have hsz:(⟨(rowLine r).toArray⟩:ByteArray).size=r.name.data.toList.length+1+(toText r.to).length:=by
  rw[arr_size];simp[rowLine];omega
 generalize (⟨(rowLine r).toArray⟩:ByteArray)=s at hd hsz;obtain⟨e1,e2⟩:=takeWhile_all (p:=nc 58) (name_nc hn 58 (by decide) (by decide)) 58 (toText r.to) (by decide);have e3:=stop_take s 58 _ 0 rfl (Nat.zero_le _);have e4:=ext_take (s:=s) (c:=58) (k:=0) (Nat.zero_le _);have e5:=drop_stop (s:=s) (c:=58) (k:=0) (Nat.zero_le _);rw[List.drop_zero,hd,e1,Nat.zero_add]at e3;rw[List.drop_zero,hd,e1]at e4;rw[List.drop_zero,hd,e2]at e5;have e6:s.data.toList.drop (stop s 58 0+1)=toText r.to:=by
  rw[← List.drop_drop,hd,e3,List.drop_left];rfl
 have e7:=tos_list s r.to (stop s 58 0+1) (by rw[e3];omega) ht e6;have href:refRow s=some r:=by
  unfold refRow;rw[if_neg (by rw[e3];omega),if_pos,e7,data_inj e4];by_cases hl:s.size≤stop s 58 0+1
  ·exact .inl hl
  ·right;have hlt:stop s 58 0+1<s.size:=by omega
   rcases toText_head r.to with e|⟨q,e⟩
   ·rw[e]at hsz;simp only[List.length_nil]at hsz;omega
   ·rw[e,drop_cons hlt]at e6;injection e6 with e6 _;rw[byteAt_lt hlt,e6];rfl
 unfold lineRow;rw[href];simp[hr]
theorem toText_nonl{ts:List ByteArray}(h:∀t∈ts,nameB t.data.toList=true):∀c∈toText ts,c≠10:=by
 induction ts with
 |nil=>simp[toText]
 |cons t q ih=>
  intro c hc;simp only[toText,List.cons_append,List.mem_cons,List.mem_append]at hc;rcases hc with rfl|hc|hc
  ·decide
  ·exact name_nonl (h t (by simp)) c hc
  ·exact ih (fun x hx=>h x (by simp[hx])) c hc
theorem rowLine_nonl{r:RowD}(h:rowNames r=true):∀c∈rowLine r,c≠10:=by
 simp only[rowNames,Bool.and_eq_true,List.all_eq_true,isN]at h;intro c hc;simp only[rowLine,List.mem_append,List.mem_cons]at hc;rcases hc with hc|rfl|hc
 ·exact name_nonl h.1 c hc
 ·decide
 ·exact toText_nonl h.2 c hc
theorem okRows_names{last:ByteArray}{rs:List RowD}(h:okRows last rs):∀r∈rs,rowNames r=true:=by
 induction rs generalizing last with
 |nil=>simp
 |cons a q ih=>
  intro r hr;rcases List.mem_cons.1 hr with rfl|hr
  ·exact(rowErr_zero.1 h.1).1
  ·exact ih h.2 r hr
theorem lnL_rows{rs:List RowD}(h:∀r∈rs,rowNames r=true):lnL (rowsText rs)=rs.map rowLine++[[]]:=by
 induction rs with
 |nil=>rfl
 |cons a q ih=>
  rw[rowsText,rowText_line,List.append_assoc,List.singleton_append,lnL_pre _ _ (rowLine_nonl (h a (by simp))),ih (fun x hx=>h x (by simp[hx]))];rfl
theorem read_lines{rs:List RowD}:∀ {last:ByteArray} {pre:List RowD} {n:Nat},okRows last rs→readGo pre last n (rs.map (fun r=>⟨(rowLine r).toArray⟩)++[⟨#[]⟩])=(pre++rs,0,0):=by
 induction rs with
 |nil=>intro last pre n _;simp[readGo,ByteArray.size]
 |cons a q ih=>
  intro last pre n h;obtain⟨h1,h2⟩:=rowErr_zero.1 h.1;have:=ih (last:=a.name) (pre:=pre++[a]) (n:=n+1) h.2;rw[List.append_assoc,List.singleton_append]at this;cases hq:q.map (fun r=>(⟨(rowLine r).toArray⟩:ByteArray))++[⟨#[]⟩]with
  |nil=>simp at hq
  |cons l' t=>
   rw[List.map_cons,List.cons_append,hq,readGo_add (line_row h1) h2,← hq];exact this
theorem tell_read{rs:List RowD}(h:okRows noB rs)(hl:(rowsText rs).length≤25000):readB ⟨(rowsText rs).toArray⟩=(rs,0,0):=by
 have hls:linesB ⟨(rowsText rs).toArray⟩=rs.map (fun r=>⟨(rowLine r).toArray⟩)++[⟨#[]⟩]:=by
  apply map_inj;rw[linesB_lnL];show lnL (rowsText rs).toArray.toList=_;rw[List.toList_toArray,lnL_rows (okRows_names h),List.map_append,List.map_map];congr 1
 unfold readB;rw[if_neg (by rw[arr_size];omega),hls,read_lines h];rfl
end
section
open Go.RowKit Go.Maps
end
section
open Go.RowKit Go.Maps
theorem set_self{α:Type}{l:List α}{i:Nat}{x:α}(h:l[i]?=some x):l.set i x=l:=by
 obtain⟨hi,rfl⟩:=List.getElem?_eq_some_iff.1 h;exact List.set_getElem_self hi
end
section
open Go.RowKit Go.Maps
def Pts(fs:List Fct)(p x:ByteArray):Prop:=∀R:ByteArray→ByteArray→Prop,(∀p q,(⟨1,p,q⟩:Fct)∈fs→R p q)→(∀p q x,(⟨2,p,q⟩:Fct)∈fs→R q x→R p x)→(∀p q v x,(⟨3,p,q⟩:Fct)∈fs→R q v→R v x→R p x)→(∀p q v x,(⟨4,p,q⟩:Fct)∈fs→R p v→R q x→R v x)→R p x
theorem Pts.addr{fs:List Fct}{p q:ByteArray}(h:(⟨1,p,q⟩:Fct)∈fs):Pts fs p q:=fun _ a _ _ _=>a p q h
theorem Pts.copy{fs:List Fct}{p q x:ByteArray}(h:(⟨2,p,q⟩:Fct)∈fs)(h1:Pts fs q x):Pts fs p x:=fun R a b c d=>b p q x h (h1 R a b c d)
theorem Pts.load{fs:List Fct}{p q v x:ByteArray}(h:(⟨3,p,q⟩:Fct)∈fs)(h1:Pts fs q v)(h2:Pts fs v x):Pts fs p x:=fun R a b c d=>c p q v x h (h1 R a b c d) (h2 R a b c d)
theorem Pts.store{fs:List Fct}{p q v x:ByteArray}(h:(⟨4,p,q⟩:Fct)∈fs)(h1:Pts fs p v)(h2:Pts fs q x):Pts fs v x:=fun R a b c d=>d p q v x h (h1 R a b c d) (h2 R a b c d)
theorem Pts.ind{fs:List Fct}{motive:∀p x,Pts fs p x→Prop}(addr:∀ {p q:ByteArray} (h:(⟨1,p,q⟩:Fct)∈fs),motive p q (.addr h))(copy:∀ {p q x:ByteArray} (h:(⟨2,p,q⟩:Fct)∈fs) (h1:Pts fs q x),motive q x h1→motive p x (.copy h h1))
  (load:∀ {p q v x:ByteArray} (h:(⟨3,p,q⟩:Fct)∈fs) (h1:Pts fs q v) (h2:Pts fs v x),motive q v h1→motive v x h2→motive p x (.load h h1 h2)) (store:∀ {p q v x:ByteArray} (h:(⟨4,p,q⟩:Fct)∈fs) (h1:Pts fs p v) (h2:Pts fs q x),motive p v h1→motive q x h2→motive v x (.store h h1 h2))
  {p x:ByteArray} (t:Pts fs p x):motive p x t:=by
 obtain⟨_,h⟩:=t (fun p x=>∃h:Pts fs p x,motive p x h) (fun p q h=>⟨.addr h,addr h⟩) (fun p q x h ⟨h1,i1⟩=>⟨.copy h h1,copy h h1 i1⟩) (fun p q v x h ⟨h1,i1⟩ ⟨h2,i2⟩=>⟨.load h h1 h2,load h h1 h2 i1 i2⟩) (fun p q v x h ⟨h1,i1⟩ ⟨h2,i2⟩=>⟨.store h h1 h2,store h h1 h2 i1 i2⟩);exact h
end
section
open Go.RowKit Go.Maps
end
section
open Go.RowKit Go.Maps
end
section
open Go.RowKit Go.Maps
theorem nd_inj{ns:List ByteArray}(hnd:ns.Nodup){i j:Nat}{x:ByteArray}(hi:ns[i]?=some x)(hj:ns[j]?=some x):i=j:=by
 obtain⟨h1,h2⟩:=List.getElem?_eq_some_iff.1 hi;obtain⟨h3,h4⟩:=List.getElem?_eq_some_iff.1 hj;exact(List.getElem_inj (h₀:=h1) (h₁:=h3) hnd).1 (h2.trans h4.symm)
def bit:Value→Nat
 | .bool true=>1
 |_=>0
end
section
open Go.RowKit Go.Maps
theorem mem_insN{l:List ByteArray}{s x:ByteArray}:x∈insN l s↔x=s∨x∈l:=by
 by_cases h:l[insAt l s]?=some s
 ·rw[insN_old rfl h];constructor
  ·exact .inr
  ·rintro(rfl|h2)
   ·exact List.mem_of_getElem? h
   ·exact h2
 ·rw[insN_new rfl h];constructor
  ·intro hx;rcases List.mem_append.1 hx with hx|hx
   ·exact .inr (List.mem_of_mem_take hx)
   ·rcases List.mem_cons.1 hx with hx|hx
    ·exact .inl hx
    ·exact .inr (List.mem_of_mem_drop hx)
  ·rintro(rfl|h2)
   ·simp
   ·rw[← List.take_append_drop (insAt l s) l]at h2;rcases List.mem_append.1 h2 with h2|h2
    ·exact List.mem_append_left _ h2
    ·exact List.mem_append_right _ (List.mem_cons_of_mem _ h2)
theorem mem_fold{l:List ByteArray}:∀ {out:List ByteArray} {x:ByteArray},x∈l.foldl insN out↔x∈out∨x∈l:=by
 induction l with
 |nil=>intro out x;simp
 |cons a r ih=>
  intro out x;rw[List.foldl_cons,ih,mem_insN];constructor
  ·rintro((rfl|h)|h)
   ·exact .inr (by simp)
   ·exact .inl h
   ·exact .inr (by simp[h])
  ·rintro(h|h)
   ·exact .inl (.inr h)
   ·rcases List.mem_cons.1 h with rfl|h
    ·exact .inl (.inl rfl)
    ·exact .inr h
def nsOf(fs:List Fct):List ByteArray:=namesS (strsOf fs)
theorem mem_ns{fs:List Fct}{x:ByteArray}:x∈nsOf fs↔∃f∈fs,x=f.p∨x=f.q:=by
 unfold nsOf namesS;rw[mem_fold];simp[strsOf]
theorem ns_nodup(fs:List Fct):(nsOf fs).Nodup:=by
 have h:=asc_names (strsOf fs);exact List.Pairwise.imp (fun {a b} hab e=>by subst e;rw[lessS_irrefl]at hab;cases hab) h
abbrev DP:=∀(fs:List Fct) (a b:ByteArray),Decidable (Pts fs a b)
def solR[DP](fs:List Fct):List RowD:=(nsOf fs).map fun a=>⟨a,(nsOf fs).filter fun b=>decide (Pts fs a b)⟩
end
end Go.Proofs.YtiamlbhkiehilaaGreatDoor
