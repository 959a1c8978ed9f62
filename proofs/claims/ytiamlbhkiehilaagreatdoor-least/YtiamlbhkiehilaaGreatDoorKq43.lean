import Derived.Test.YtiamlbhkiehilaaGreatDoorKq42
import Derived.Test.YtiamlbhkiehilaaGreatDoorKq38
import Derived.Test.YtiamlbhkiehilaaGreatDoorKq37
import Derived.Test.YtiamlbhkiehilaaGreatDoorKq07
import Derived.Test.YtiamlbhkiehilaaGreatDoorKq39
import Derived.Test.YtiamlbhkiehilaaGreatDoorKq21
import Derived.Test.YtiamlbhkiehilaaGreatDoorKq36
import Derived.Test.YtiamlbhkiehilaaGreatDoorKq31
import Derived.Test.YtiamlbhkiehilaaGreatDoorKq26
import Derived.Test.YtiamlbhkiehilaaGreatDoorKq04
namespace Go.Proofs.YtiamlbhkiehilaaGreatDoor
section
open Go.RowKit Go.Maps
end
section
open Go.RowKit Go.Maps
theorem asc_ascB{l:List ByteArray}(h:Asc l):ascB l=true:=by
 induction l with
 |nil=>rfl
 |cons a r ih=>
  cases r with
  |nil=>rfl
  |cons b q=>
   have h':=List.pairwise_cons.1 h;simp only[ascB,Bool.and_eq_true];exact⟨h'.1 b (by simp),ih h'.2⟩
theorem less_empty{n:ByteArray}(h:nameB n.data.toList=true):lessS noB n=true:=by
 obtain⟨c,t,he,_,_⟩:=name_parts h;unfold lessS;rw[ByteArray.toList_eq,ByteArray.toList_eq,he];rfl
theorem okRows_map{F:ByteArray→List ByteArray}:∀ {l:List ByteArray} {last:ByteArray},Asc l→(∀a∈l,lessS last a=true)→(∀a∈l,isN a=true∧a.size≤12∧Asc (F a)∧∀b∈F a,isN b=true∧b.size≤12)→okRows last (l.map fun a=>⟨a,F a⟩):=by
 intro l;induction l with
 |nil=>intro last _ _ _;trivial
 |cons a q ih=>
  intro last hasc hlast hall;have h':=List.pairwise_cons.1 hasc;obtain⟨h1,h2,h3,h4⟩:=hall a (by simp);refine⟨rowErr_zero.2 ⟨?_,?_⟩,ih h'.2 (fun b hb=>h'.1 b hb) (fun b hb=>hall b (by simp[hb]))⟩
  ·simp only[rowNames,Bool.and_eq_true,List.all_eq_true];exact⟨h1,fun b hb=>(h4 b hb).1⟩
  ·have e1:ascB (F a)=true:=asc_ascB h3;have e2:rowLong ⟨a,F a⟩=false:=by
    simp only[rowLong,longS,Bool.or_eq_false_iff,decide_eq_false_iff_not,List.any_eq_false,decide_eq_true_eq];exact⟨by omega,fun b hb=>by have:=(h4 b hb).2;omega⟩
   have e3:leqS a last=false:=by rw[leqS_eq,hlast a (by simp)];rfl
   simp[chk,e1,e2,e3]
theorem toWidth_le{l:List ByteArray}(h:∀b∈l,b.size≤12):toWidth l≤13*l.length:=by
 induction l with
 |nil=>simp[toWidth]
 |cons a q ih=>
  have h1:=h a (by simp);have h2:=ih (fun b hb=>h b (by simp[hb]));simp only[toWidth,List.length_cons];omega
theorem rowsText_le{rs:List RowD}{m:Nat}(h:∀r∈rs,r.name.size≤12∧r.to.length≤m∧∀b∈r.to,b.size≤12):(rowsText rs).length≤(14+13*m)*rs.length:=by
 induction rs with
 |nil=>simp[rowsText]
 |cons a q ih=>
  obtain⟨h1,h2,h3⟩:=h a (by simp);have h4:=toWidth_le h3;have h5:=ih (fun b hb=>h b (by simp[hb]));rw[rowsText,List.length_append,rowText_length,List.length_cons,Nat.mul_succ];have h6:13*a.to.length≤13*m:=Nat.mul_le_mul_left _ h2;omega
theorem sol_ok[DP]{fs:List Fct}(h:okGo [] fs):okRows noB (solR fs)∧(rowsText (solR fs)).length≤25000:=by
 have hfact:=okGo_fact h;have hsm:=(okGo_small h).1;have hns:∀a∈nsOf fs,nameB a.data.toList=true∧a.size≤12:=by
  intro a ha;obtain⟨f,hf,he⟩:=mem_ns.1 ha;have h1:=hfact f hf;simp only[factB,Bool.and_eq_true]at h1;have h2:=hsm f hf;rcases he with rfl|rfl
  ·exact⟨h1.2.1,h2.1⟩
  ·exact⟨h1.2.2,h2.2⟩
 have hasc:Asc (nsOf fs):=asc_names _;have hlen:(nsOf fs).length≤40:=by
  rcases okGo_dcount h with h1|h1
  ·subst h1;decide
  ·rw[List.nil_append,← names_length]at h1;exact h1
 refine⟨okRows_map hasc (fun a ha=>less_empty (hns a ha).1) (fun a ha=>⟨(hns a ha).1,(hns a ha).2,List.Pairwise.filter _ hasc,fun b hb=>?_⟩),?_⟩
 ·have:=(List.mem_filter.1 hb).1;exact⟨(hns b this).1,(hns b this).2⟩
 ·have:=rowsText_le (rs:=solR fs) (m:=40) (fun r hr=>by
   unfold solR at hr;obtain⟨a,ha,rfl⟩:=List.mem_map.1 hr;exact⟨(hns a ha).2,Nat.le_trans (List.length_filter_le _ _) hlen,fun b hb=>(hns b (List.mem_filter.1 hb).1).2⟩)
  have hl2:(solR fs).length=(nsOf fs).length:=by unfold solR;rw[List.length_map]
  rw[hl2]at this;have h3:(14+13*40)*(nsOf fs).length≤(14+13*40)*40:=Nat.mul_le_mul_left _ hlen;omega
end
section
open Go.RowKit Go.Maps
theorem nodup_le{l:List ByteArray}:∀ {m:List ByteArray},l.Nodup→(∀x∈l,x∈m)→l.length≤m.length:=by
 induction l with
 |nil=>intro m _ _;exact Nat.zero_le _
 |cons a r ih=>
  intro m hn hs;obtain⟨h1,h2⟩:=List.nodup_cons.1 hn;obtain⟨s,t,rfl⟩:=List.append_of_mem (hs a (by simp));have:=ih (m:=s++t) h2 (fun x hx=>by
   have h3:=hs x (by simp[hx]);have hne:x≠a:=by intro e;subst e;exact h1 hx
   simp only[List.mem_append,List.mem_cons]at h3 ⊢;rcases h3 with h3|h3|h3
   ·exact .inl h3
   ·exact absurd h3 hne
   ·exact .inr h3)
  simp only[List.length_append,List.length_cons]at this ⊢;omega
def allQ:List ByteArray:=(List.range 20).map nmQ
theorem raw_names(r:RawD):r.fct.p∈allQ∧r.fct.q∈allQ:=by
 have h1:=pickB_lt r.p (n:=20) (by decide);have h2:=pickB_lt r.q (n:=20) (by decide);exact⟨List.mem_map.2 ⟨_,List.mem_range.2 h1,rfl⟩,List.mem_map.2 ⟨_,List.mem_range.2 h2,rfl⟩⟩
theorem raw_count{fs:List Fct}(h:∀f∈fs,f.p∈allQ∧f.q∈allQ):dcount (namesL fs)≤20:=by
 rw[← names_length];have:=nodup_le (ns_nodup fs) (m:=allQ) (fun x hx=>by
  obtain⟨f,hf,he⟩:=mem_ns.1 hx;rcases he with rfl|rfl
  ·exact(h f hf).1
  ·exact(h f hf).2)
 have e:allQ.length=20:=by simp[allQ]
 rw[e]at this;exact this
theorem raw_ok{rs:List RawD}:∀ {pre:List Fct},(∀f∈pre,f.p∈allQ∧f.q∈allQ)→pre.length+rs.length≤120→okGo pre (rs.map RawD.fct):=by
 induction rs with
 |nil=>intro pre _ _;trivial
 |cons r q ih=>
  intro pre hp hl;have hall:∀f∈pre++[r.fct],f.p∈allQ∧f.q∈allQ:=by
   intro f hf;rcases List.mem_append.1 hf with hf|hf
   ·exact hp f hf
   ·rw[List.mem_singleton.1 hf];exact raw_names r
  have h1:=(nmQ_name (pickB_lt r.p (n:=20) (by decide))).2;have h2:=(nmQ_name (pickB_lt r.q (n:=20) (by decide))).2;have h1':r.fct.p.size=2:=h1;have h2':r.fct.q.size=2:=h2;have hc:=raw_count hall;simp only[List.length_cons]at hl;refine⟨rawF_ok r.k r.p r.q,errOf_ok (by omega) (by omega) (by omega),ih hall ?_⟩;rw[List.length_append];show pre.length+1+q.length≤120;omega
end
section
open Go.RowKit
theorem tellGo_ok{ahead:ByteArray}{i:Nat}{acc:List UInt8}{r:RowD}{s:List RowD}(h:rowErr r ahead=0):tellGo ahead i acc (r::s)=tellGo r.name (i+1) (acc++rowText r) s:=by simp[tellGo,h]
theorem tellGo_err{ahead:ByteArray}{i:Nat}{acc:List UInt8}{r:RowD}{s:List RowD}{e:Int}(h:rowErr r ahead=e)(h0:e≠0):tellGo ahead i acc (r::s)=([],e,(i:Int)+1):=by simp[tellGo,h,h0]
theorem tellGo_nil{ahead:ByteArray}{i:Nat}{acc:List UInt8}:tellGo ahead i acc []=if 25000<acc.length then([],2,0)else(acc,0,0):=by simp[tellGo]
structure TInv(w wr:World)(rs:List RowD)(n:Nat):Prop where
 le:n≤rs.length
 rest:tellGo (lastName (rs.take n)) n (rowsText (rs.take n)) (rs.drop n)=tellGo ⟨#[]⟩ 0 [] rs
 res:wr.heap[w.heap.size]?=some (.cells #[.int .i64 0,.int .i64 0] 27 (0,0))
 blw:Below w.heap.size w wr
theorem TInv.next{w wr w2:World}{rs:List RowD}{n:Nat}{r:RowD}(h:TInv w wr rs n)(hr:rs[n]?=some r)(he:rowErr r (lastName (rs.take n))=0)(hres:w2.heap[w.heap.size]?=some (.cells #[.int .i64 0,.int .i64 0] 27 (0,0)))(hb:Below w.heap.size w w2):TInv w w2 rs (n+1):=by
 refine⟨lt_get hr,?_,hres,hb⟩;have e:=h.rest;rw[drop_here hr,tellGo_ok he]at e;rw[take_next hr,lastName_snoc,rowsText_snoc];exact e
set_option maxHeartbeats 2000000 in
set_option maxRecDepth 100000 in
theorem rtell_any(v:Value)(rs:List RowD)(w:World)(hlen:rs.length≤maxLen)(hv:IsRows v rs w)(hfit:fitsR rs)(hbound:(rowsText rs).length≤1000000000000) :
  Calls Tryz.prog 39 #[v] w fun e w'=>e=.returned (.tuple #[.string ⟨(tellGo ⟨#[]⟩ 0 [] rs).1.toArray⟩,.agg #[.int .i64 (tellGo ⟨#[]⟩ 0 [] rs).2.1,.int .i64 (tellGo ⟨#[]⟩ 0 [] rs).2.2]])∧Below w.heap.size w w':=by
 have hv0:=hide hv;have hlen0:=hlen;obtain⟨ao,cap,hve,_,_,hne0⟩:=hv;subst hve;have hne:=hide hne0;clear hne0;unfold maxLen at hlen;go_enter Tryz.func39,Tryz.ntmps39
 go_wp2;go_loopw [4,5,11] (fun s a i wr=>∃n:Nat,i=.int .i64 n∧s=.int .i64 ((min (rowsText (rs.take n)).length 25001:Nat):Int)∧a=.string (lastName (rs.take n))∧TInv w wr rs n) (fun _ _ i _=>rs.length-(intOf i).toNat)
 case atStart=>exact⟨0,rfl,rfl,rfl,Nat.zero_le _,rfl,heap_new _ _,(Below.refl _ _).alloc (Nat.le_refl _) _⟩
 case round=>
  obtain⟨n,rfl,rfl,rfl,hi⟩:=hrel;have hbl:=hi.blw;have hres:=hi.res;have hsz:=lt_of_heap hres;by_cases hlt:n<rs.length
  ·obtain⟨⟨nm,tgs⟩,hr⟩:∃r,rs[n]?=some r:=⟨_,List.getElem?_eq_getElem hlt⟩;obtain⟨b,off,hao,hbw,hrs⟩:=hne.out (ne_nil_of_get hr);subst hao;obtain⟨d0w,tv,d1w,hst0⟩:=hrs n nm tgs hr;have d0:=(hbl.cell (p:=⟨b,off+n*2,none⟩) hbw).trans d0w;have d1:=(hbl.cell (p:=⟨b,off+n*2+1,none⟩) hbw).trans d1w;clear d0w d1w;have HIS:Hid (∀w',Below w.heap.size w w'→IsStrs tv tgs w'):=fun w' h=>hst0.below h
   obtain⟨ao2,cap2,htv,_⟩:=hst0;subst htv;obtain⟨hf1,hf2,hf3⟩:=hfit _ (List.mem_of_getElem? hr);simp only at hf1 hf2 hf3;have htx:=rowsText_snoc (rs.take n) ⟨nm,tgs⟩;rw[← take_next hr]at htx;have hL:=rowsText_take (l:=rs) (k:=n+1);have htl:(rowsText (rs.take (n+1))).length=(rowsText (rs.take n)).length+(nm.size+2+toWidth tgs):=by rw[htx,List.length_append,rowText_length]
   have hln:=lastName_snoc (rs.take n) ⟨nm,tgs⟩;rw[← take_next hr]at hln;have HR:=hide hr;have HTL:=hide htl;have HLN:=hide hln;have hw1:nm.size+2+toWidth tgs≤1000000000000:=by omega
   clear htx hr hrs htl hln;generalize hla:lastName (rs.take n)=ahead at *;have HLA:=hide hla;clear hla;go_wp2_with fail
   have hk1:=(Kb.refl [] wr).alloc (.cells #[.string nm,.slice ao2 tgs.length cap2] 51);have g1:=heap_new wr (.cells #[.string nm,.slice ao2 tgs.length cap2] 51);generalize wr.alloc (.cells #[.string nm,.slice ao2 tgs.length cap2] 51)=w1 at hk1 g1 ⊢;have hbl1:Below w.heap.size w w1:=hbl.trans (hk1.below hbl.size (by simp));have hres1:=hk1.heap hres (by simp);have hz1:=lt_of_heap g1;have p0:w1.cell? ⟨wr.heap.size,0,none⟩=some (.string nm):=by rw[cell_at g1];rfl
   have p1:w1.cell? ⟨wr.heap.size,1,none⟩=some (.slice ao2 tgs.length cap2):=by rw[cell_at g1];rfl
   clear hk1 hres hbl d0 d1;go_region_with (first|(go_at_call 72;refine(areNames_any nm _ tgs _ hf1 hf2 (HIS.out _ hbl1.drew) hf3).mono ?_;rintro e w2 ⟨rfl,hb2⟩;have hb2':Below w1.heap.size w1 w2:=(Below.refl _ _).drew.trans hb2;have g2:=Below.heapAt hb2' g1 hz1;have q0:w2.cell? ⟨wr.heap.size,0,none⟩=some (.string nm):=(by rw[cell_at g2];rfl);have q1:w2.cell? ⟨wr.heap.size,1,none⟩=some (.slice ao2 tgs.length cap2):=(by rw[cell_at g2];rfl))|(go_at_call 71;refine(check_any nm _ tgs _ ahead _ hf1 hf2 (HIS.out _ (hbl1.trans (hb2'.mono hbl1.size))) hf3).mono ?_;rintro e w3 ⟨rfl,hb3⟩))
   all_goals
    have hb3':Below w1.heap.size w1 w3:=hb2'.trans (hb3.mono hb2'.size);have g3:=Below.heapAt hb3' g1 hz1;have hbl3:=hbl1.trans (hb3'.mono hbl1.size);have hres3:=Below.heapAt hb3' hres1 (lt_of_heap hres1);have k0:w3.cell? ⟨wr.heap.size,0,none⟩=some (.string nm):=by rw[cell_at g3];rfl
    have k1:w3.cell? ⟨wr.heap.size,1,none⟩=some (.slice ao2 tgs.length cap2):=by rw[cell_at g3];rfl
    have r0:w3.cell? ⟨w.heap.size,0,none⟩=some (.int .i64 0):=by rw[cell_at hres3];rfl
    have r1:w3.cell? ⟨w.heap.size,1,none⟩=some (.int .i64 0):=by rw[cell_at hres3];rfl
    have r2:w3.frozen? ⟨w.heap.size,0,none⟩=false:=frozen_at hres3 _;have r3:w3.frozen? ⟨w.heap.size,1,none⟩=false:=frozen_at hres3 _;clear hb2 hb2' hb3 hb3' g2 q0 q1 p0 p1 hres1 hbl1;rw[← rowErr_chk];by_cases he:rowErr ⟨nm,tgs⟩ ahead=0
    ·have HE:=hide he;rw[HE.out];clear he;go_wp2_with fail
     refine(width_any nm _ tgs _ hf2 (HIS.out _ hbl3) hw1).mono ?_
     rintro e w4 ⟨rfl,hb4⟩;have g4:=Below.heapAt hb4 g3 (lt_of_heap g3);have hbl4:=hbl3.trans (hb4.mono hbl3.size);have hres4:=Below.heapAt hb4 hres3 (lt_of_heap hres3);have m0:w4.cell? ⟨wr.heap.size,0,none⟩=some (.string nm):=by rw[cell_at g4];rfl
     have hnext:=hi.next HR.out (by rw[HLA.out];exact HE.out) hres4 hbl4
     have hmin:min (min (rowsText (rs.take n)).length 25001+(nm.size+2+toWidth tgs)) 25001=min (rowsText (rs.take (n+1))).length 25001:=by rw[HTL.out];omega
     have HMIN:=hide hmin;clear hb4 g3 g4 hres3 hres4 hbl3 hi hmin k0 k1 r0 r1 r2 r3;generalize (rowsText (rs.take n)).length=L at *;have hLm:min L 25001≤25001:=Nat.min_le_right _ _;generalize min L 25001=sz at *;generalize nm.size+2+toWidth tgs=wd at *;go_wp2;go_roundw
     case rel=>exact⟨n+1,by go_num,congrArg (Value.int .i64) (by rw[← HMIN.out];omega),by rw[HLN.out],hnext⟩
     case measure=>simp[intOf];omega
    ·have HE:Hid (tellGo ⟨#[]⟩ 0 [] rs=([],rowErr ⟨nm,tgs⟩ ahead,(n:Int)+1)):=by
      have e:=hi.rest;rw[drop_here HR.out,HLA.out,tellGo_err rfl he]at e;exact e.symm
     generalize rowErr ⟨nm,tgs⟩ ahead=x at HE he ⊢;have hx:(x != 0)=true:=bne_iff_ne.2 he;clear he hres3 g3;go_wp2;refine bodyPost_ret (v:=.tuple #[.string ⟨#[]⟩,.agg #[.int .i64 x,.int .i64 ((n:Int)+1)]]) (by simp[results,Tryz.results39,go_sem,r0,r1]) rfl ⟨by rw[HE.out],?_⟩;exact(hbl3.setCell (p:=⟨w.heap.size,0,none⟩) (Nat.le_refl _) _).setCell (p:=⟨w.heap.size,1,none⟩) (Nat.le_refl _) _
  ·have htk:rs.take n=rs:=List.take_of_length_le (by omega);have e:=hi.rest;rw[List.drop_of_length_le (by omega),tellGo_nil,htk]at e;rw[htk];have r0:wr.cell? ⟨w.heap.size,0,none⟩=some (.int .i64 0):=by rw[cell_at hres];rfl
   have r1:wr.cell? ⟨w.heap.size,1,none⟩=some (.int .i64 0):=by rw[cell_at hres];rfl
   have r2:wr.frozen? ⟨w.heap.size,0,none⟩=false:=frozen_at hres _;have r3:wr.frozen? ⟨w.heap.size,1,none⟩=false:=frozen_at hres _;clear hi htk;by_cases hbig:25000<(rowsText rs).length
   ·rw[if_pos hbig]at e;have HE:=hide e.symm;have hm:min (rowsText rs).length 25001=25001:=by omega
    rw[hm];clear e hm hres;go_wp2;refine bodyPost_ret (v:=.tuple #[.string ⟨#[]⟩,.agg #[.int .i64 2,.int .i64 0]]) (by simp[results,Tryz.results39,go_sem,r0,r1]) rfl ⟨by rw[HE.out],?_⟩;exact(hbl.setCell (p:=⟨w.heap.size,0,none⟩) (Nat.le_refl _) _).setCell (p:=⟨w.heap.size,1,none⟩) (Nat.le_refl _) _
   ·rw[if_neg hbig]at e;have HE:=hide e.symm;have hm:min (rowsText rs).length 25001=(rowsText rs).length:=by omega
    rw[hm];clear e hm;have hle:((rowsText rs).length:Int)≤25000:=by omega
    go_wp2_with fail
    refine(write_any _ rs _ hlen0 (hv0.out.below hbl) hfit hbound).mono ?_
    rintro e w2 ⟨rfl,hb2⟩;have hres2:=Below.heapAt hb2 hres (lt_of_heap hres);have hbl2:=hbl.trans (hb2.mono hbl.size);have q0:w2.cell? ⟨w.heap.size,0,none⟩=some (.int .i64 0):=by rw[cell_at hres2];rfl
    have q1:w2.cell? ⟨w.heap.size,1,none⟩=some (.int .i64 0):=by rw[cell_at hres2];rfl
    have q2:w2.frozen? ⟨w.heap.size,0,none⟩=false:=frozen_at hres2 _;have q3:w2.frozen? ⟨w.heap.size,1,none⟩=false:=frozen_at hres2 _;clear hb2 hres hres2 hbl r0 r1 r2 r3;go_wp2;refine bodyPost_ret (v:=.tuple #[.string ⟨(rowsText rs).toArray⟩,.agg #[.int .i64 0,.int .i64 0]]) (by simp[results,Tryz.results39,go_sem,q0,q1]) rfl ⟨by rw[HE.out],?_⟩;exact(hbl2.setCell (p:=⟨w.heap.size,0,none⟩) (Nat.le_refl _) _).setCell (p:=⟨w.heap.size,1,none⟩) (Nat.le_refl _) _
set_option maxHeartbeats 400000 in
theorem qtell_any(v:Value)(rs:List RowD)(w:World)(hlen:rs.length≤maxLen)(hv:IsRows v rs w)(hfit:fitsR rs)(hbound:(rowsText rs).length≤1000000000000) :
  Calls Tryz.prog 26 #[v] w fun e w'=>e=.returned (.tuple #[.string ⟨(tellGo ⟨#[]⟩ 0 [] rs).1.toArray⟩,.agg #[.int .i64 (tellGo ⟨#[]⟩ 0 [] rs).2.1,.int .i64 (tellGo ⟨#[]⟩ 0 [] rs).2.2]])∧Below w.heap.size w w':=by
 have hb0:Below w.heap.size w (w.alloc (.cells #[.int .i64 0,.int .i64 0] 27)):=(Below.refl _ _).alloc (Nat.le_refl _) _;have HC:=rtell_any v rs _ hlen (hv.below hb0) hfit hbound;generalize tellGo ⟨#[]⟩ 0 [] rs=R at HC ⊢;have HH:Hid (Calls _ _ _ _ _):=HC;clear HC;go_enter Tryz.func26,Tryz.ntmps26
 go_wp2_with fail
 refine(HH.out).mono ?_
 rintro e w2 ⟨rfl,hb2⟩;have g0:w2.heap[w.heap.size]?=some (.cells #[.int .i64 0,.int .i64 0] 27 (0,0)):=Below.heapAt hb2 (heap_new _ _) (by simp);have r0:w2.cell? ⟨w.heap.size,0,none⟩=some (.int .i64 0):=by rw[cell_at g0];rfl
 have r1:w2.cell? ⟨w.heap.size,1,none⟩=some (.int .i64 0):=by rw[cell_at g0];rfl
 have r2:w2.frozen? ⟨w.heap.size,0,none⟩=false:=frozen_at g0 _;have r3:w2.frozen? ⟨w.heap.size,1,none⟩=false:=frozen_at g0 _;have hbl:Below w.heap.size w w2:=hb0.trans (hb2.mono (by simp));clear hb2 g0 HH;go_wp2;refine bodyPost_ret (v:=.tuple #[.string ⟨R.1.toArray⟩,.agg #[.int .i64 R.2.1,.int .i64 R.2.2]]) (by simp[results,Tryz.results26,go_sem,r0,r1]) rfl ⟨rfl,?_⟩;exact(hbl.setCell (p:=⟨w.heap.size,0,none⟩) (Nat.le_refl _) _).setCell (p:=⟨w.heap.size,1,none⟩) (Nat.le_refl _) _
end
section
open Go.RowKit
set_option maxHeartbeats 400000 in
theorem isFact_any(k:Int)(p q:ByteArray)(w:World)(hp:p.size≤maxLen)(hq:q.size≤maxLen) :
  Calls Tryz.prog 63 #[.agg #[.int .i64 k,.string p,.string q]] w fun e w'=>e=.returned (.bool (factB k p q))∧Below w.heap.size w w':=by
 have hb:∀o,Below w.heap.size w (w.alloc o):=fun o=>(Below.refl _ _).alloc (Nat.le_refl _) o
 by_cases h1:1≤k
 ·by_cases h2:k≤4
  ·cases hc:nameB p.data.toList
   ·have HC:Hid (nameB p.data.toList=false):=hc;have HF:Hid (factB k p q=false):=by simp[factB,hc,Hid]
    clear hc;go_enter Tryz.func63,Tryz.ntmps63
    go_wp2_with (go_at_call 95;refine(isName_any _ _ hp).mono ?_;rintro e w' ⟨rfl,rfl⟩;rw[HC.out])
    go_ret
    exact⟨by rw[HF.out];rfl,hb _⟩
   ·have HC:Hid (nameB p.data.toList=true):=hc;have HF:Hid (factB k p q=nameB q.data.toList):=by simp[factB,hc,Hid,h1,h2]
    clear hc;go_enter Tryz.func63,Tryz.ntmps63
    go_wp2_with fail
    refine(isName_any _ _ hp).mono ?_;rintro e w' ⟨rfl,rfl⟩;rw[HC.out];go_wp2_with fail
    refine(isName_any _ _ hq).mono ?_;rintro e w' ⟨rfl,rfl⟩;go_wp2;go_ret
    exact⟨by rw[HF.out];rfl,hb _⟩
  ·have HF:Hid (factB k p q=false):=by simp[factB,h2,Hid]
   go_enter Tryz.func63,Tryz.ntmps63
   go_wp2;go_ret
   exact⟨by rw[HF.out];rfl,hb _⟩
 ·have HF:Hid (factB k p q=false):=by simp[factB,h1,Hid]
  go_enter Tryz.func63,Tryz.ntmps63
  go_wp2;go_ret
  exact⟨by rw[HF.out];rfl,hb _⟩
theorem ret_str{a b:ByteArray}(h:a=b):Ending.returned (.string a)=.returned (.string b):=by rw[h]
set_option maxHeartbeats 400000 in
theorem printLine_any(k:Int)(p q:ByteArray)(w:World)(hp:p.size≤12)(hq:q.size≤12) :
  Calls Tryz.prog 66 #[.agg #[.int .i64 k,.string p,.string q]] w fun e w'=>e=.returned (.string (lineB k p q))∧Below w.heap.size w w':=by
 go_enter Tryz.func66,Tryz.ntmps66
 go_wp2;all_goals
  go_ret
  refine⟨ret_str ?_,(Below.refl _ _).alloc (Nat.le_refl _) _⟩;simp_all[lineB]
end
section
open Go.RowKit Go.Maps
theorem nm2{x a b:Nat}(h1:x≠a)(h2:x≠b):x ∉ [a,b]:=by simp[h1,h2]
structure PInv(w wr:World)(fs:List Fct)(n:Nat)(acc:List UInt8):Prop where
 le:n≤fs.length
 few:n≤120
 short:acc.length≤29*n
 rest:printGo (fs.take n) (fs.drop n) acc=printGo [] fs []
 res:wr.heap[w.heap.size]?=some (.cells #[.int .i64 0,.int .i64 0] 27 (0,0))
 bld:Lib.IsBuilderF 118 5 w.heap.size (w.heap.size+1) (Lib.byteCells acc) wr
 tal:IsTally (w.heap.size+1+1+1) (w.heap.size+1+1) n (2*n) (keysOf (fs.take n)) wr
 blw:Below w.heap.size w wr
theorem PInv.start(w:World)(fs:List Fct) :
  PInv w ((((w.alloc (.cells #[.int .i64 0,.int .i64 0] 27)).alloc (.cells #[.pointer none,.slice none 0 0] 118)).alloc (.map #[] 0)).alloc (.cells #[.int .i64 0,.map (some (w.heap.size+1+1))] 158)) fs 0 []:=by
 have s1:(w.alloc (.cells #[.int .i64 0,.int .i64 0] 27)).heap.size=w.heap.size+1:=by simp
 have s2:((w.alloc (.cells #[.int .i64 0,.int .i64 0] 27)).alloc (.cells #[.pointer none,.slice none 0 0] 118)).heap.size=w.heap.size+1+1:=by simp
 have s3:(((w.alloc (.cells #[.int .i64 0,.int .i64 0] 27)).alloc (.cells #[.pointer none,.slice none 0 0] 118)).alloc (.map #[] 0)).heap.size=w.heap.size+1+1+1:=by simp
 refine⟨Nat.zero_le _,Nat.zero_le _,Nat.le_refl _,rfl,?_,?_,⟨?_,?_⟩,?_⟩
 ·exact heap_old (heap_old (heap_old (heap_new w _) _) _) _
 ·refine .inl ⟨Nat.le_succ _,.slice none 0 0,?_,World.ownsRowF_nil _ _ _ _,by simp[Value.ownBlock]⟩;have:=heap_new (w.alloc (.cells #[.int .i64 0,.int .i64 0] 27)) (.cells #[.pointer none,.slice none 0 0] 118);rw[s1]at this;exact heap_old (heap_old this _) _
 ·have:=heap_new (((w.alloc (.cells #[.int .i64 0,.int .i64 0] 27)).alloc (.cells #[.pointer none,.slice none 0 0] 118)).alloc (.map #[] 0)) (.cells #[.int .i64 0,.map (some (w.heap.size+1+1))] 158);rw[s3]at this;exact this
 ·have:=World.ownsMap_made (H:=Unit) ((w.alloc (.cells #[.int .i64 0,.int .i64 0] 27)).alloc (.cells #[.pointer none,.slice none 0 0] 118)) Tryz.prog 9 (unitElem (H:=Unit));rw[s2]at this;exact Kb.ownsMap (l:=[]) ((Kb.refl _ _).alloc _) this (by simp)
 ·exact((((Below.refl _ _).alloc (Nat.le_refl _) _).alloc (by simp) _).alloc (by simp;omega) _).alloc (by simp;omega) _
theorem PInv.kept{w wr w2:World}{fs:List Fct}{n:Nat}{acc:List UInt8}(h:PInv w wr fs n acc)(hk:Kb [] wr w2):PInv w w2 fs n acc:=
 ⟨h.le,h.few,h.short,h.rest,hk.heap h.res (by simp),hk.builder h.bld (by simp) (by simp),⟨hk.heap h.tal.1 (by simp),hk.ownsMap h.tal.2 (by simp)⟩,
  h.blw.trans (hk.below (by have:=lt_of_heap h.res;omega) (by simp))⟩
theorem errOf_zero{pre:List Fct}{f:Fct}(h:errOf pre f=0):f.p.size≤12∧f.q.size≤12∧pre.length<120:=by
 by_cases h1:12<f.p.size∨12<f.q.size
 ·rw[errOf_name h1]at h;cases h
 ·by_cases h2:120≤pre.length
  ·rw[errOf_many h1 h2]at h;cases h
  ·omega
theorem PInv.mid{w w2 w3 w4:World}{fs:List Fct}{n:Nat}{acc:List UInt8}(h:PInv w w2 fs n acc)(hk:Kb [w.heap.size+1+1+1,w.heap.size+1+1] w2 w3)(hk4:Kb [] w3 w4) :
  Lib.IsBuilderF 118 5 w.heap.size (w.heap.size+1) (Lib.byteCells acc) w4∧w.heap.size≤w4.heap.size:=by
 refine⟨hk4.builder (hk.builder h.bld (nm2 (by omega) (by omega)) ?_) (by simp) (by simp),?_⟩
 ·intro x hx c fz hc;simp only[List.mem_cons,List.not_mem_nil,or_false]at hx;rcases hx with rfl|rfl
  ·rw[h.tal.1]at hc;cases hc
  ·obtain⟨es,cl,hb,_⟩:=h.tal.2;rw[hb]at hc;cases hc
 ·have:=lt_of_heap h.res;have:=hk.size;have:=hk4.size;omega
theorem PInv.next{w w2 w3 w4 w5:World}{fs:List Fct}{n:Nat}{acc:List UInt8}{k:Int}{p q:ByteArray}(h:PInv w w2 fs n acc)(hf:fs[n]?=some ⟨k,p,q⟩)(hB:factB k p q=true)(he:errOf (fs.take n) ⟨k,p,q⟩=0)
  (hk:Kb [w.heap.size+1+1+1,w.heap.size+1+1] w2 w3) (ht:IsTally (w.heap.size+1+1+1) (w.heap.size+1+1) ((fs.take n).length+1) (2*((fs.take n).length+1)) (keysOf (fs.take n++[⟨k,p,q⟩])) w3)
  (hk4:Kb [] w3 w4) (hb5:Lib.IsBuilderF 118 5 w.heap.size (w.heap.size+1) (Lib.byteCells acc++Lib.strCells (lineB k p q)) w5) (hw5:Below w.heap.size w4 w5) (ho:Lib.OthersKept 5 (some (w.heap.size+1)) w4 w5) :
  PInv w w5 fs (n+1) (acc++(lineB k p q).data.toList):=by
 have hlt:=(List.getElem?_eq_some_iff.1 hf).1;have hnl:(fs.take n).length=n:=by rw[List.length_take];have:=h.le;omega
 rw[hnl,← take_next hf]at ht;obtain⟨s1,s2,s3⟩:=errOf_zero he;rw[hnl]at s3;simp only at s1 s2;refine⟨hlt,s3,?_,?_,?_,?_,⟨?_,?_⟩,?_⟩
 ·have h1:=lineB_size k p q;have h2:(lineB k p q).data.toList.length=(lineB k p q).size:=Array.length_toList;have h3:=h.short;rw[List.length_append,h2];omega
 ·have e:=h.rest;rw[drop_here hf,printGo_ok (f:=⟨k,p,q⟩) hB he,← take_next hf]at e;exact e
 ·exact ho _ _ (hk4.heap (hk.heap h.res (nm2 (by omega) (by omega))) (by simp)) (by intro e;injection e;omega) (by intro c fz e;cases e)
 ·have e:Lib.byteCells (acc++(lineB k p q).data.toList)=Lib.byteCells acc++Lib.strCells (lineB k p q):=by simp[Lib.byteCells,Lib.strCells]
  rw[e];exact hb5
 ·exact ho _ _ (hk4.heap ht.1 (by simp)) (by intro e;injection e;omega) (by intro c fz e;cases e)
 ·exact others_ownsMap ho (hk4.ownsMap ht.2 (by simp)) (by intro e;injection e;omega)
 ·have hs:=lt_of_heap h.res;have hs2:=hk.size;refine((h.blw.trans (hk.below (by omega) ?_)).trans (hk4.below (by omega) (by simp))).trans hw5;intro x hx;simp only[List.mem_cons,List.not_mem_nil,or_false]at hx;omega
set_option maxHeartbeats 400000 in
theorem fprint_some(b off cap:Nat)(fs:List Fct)(w:World)(hlen:fs.length≤maxLen)(hf:FactsAt b off fs w)(hb:b<w.heap.size)(hfit:fitsF fs) :
  Calls Tryz.prog 34 #[.slice (some ⟨b,off,none⟩) fs.length cap] w fun e w'=>e=.returned (.tuple #[.string ⟨(printGo [] fs []).1.toArray⟩,.agg #[.int .i64 (printGo [] fs []).2.1,.int .i64 (printGo [] fs []).2.2]])∧Below w.heap.size w w':=by
 unfold maxLen at hlen;go_enter Tryz.func34,Tryz.ntmps34
 go_wp2_with fail
 refine(newTally_any _).mono ?_
 rintro e w1 ⟨rfl,rfl⟩;go_wp2_with fail
 go_loopw [12] (fun i wr=>∃n acc,i=.int .i64 (n:Nat)∧PInv w wr fs n acc) (fun i _=>fs.length-(intOf i).toNat)
 case atStart=>exact⟨0,[],rfl,PInv.start w fs⟩
 case round=>
  obtain⟨n,acc,rfl,hi⟩:=hrel;by_cases hlt:n<fs.length
  ·obtain⟨⟨k,p,q⟩,hfn⟩:∃f,fs[n]?=some f:=⟨_,List.getElem?_eq_getElem hlt⟩;have HF:Hid (fs[n]?=some ⟨k,p,q⟩):=hfn;obtain⟨d0,d1,d2⟩:=(hf.below hi.blw hb) n k p q hfn;obtain⟨hp,hq⟩:=hfit _ (List.mem_of_getElem? hfn);simp only at hp hq;clear hfn;go_wp2_with fail
   refine(isFact_any k p q _ hp hq).mono ?_
   rintro e w2 ⟨rfl,hb2⟩;have hk2:Kb [] wr w2:=((Kb.refl _ _).alloc _).trans (Kb.of_below hb2 []);have hi2:=hi.kept hk2;have g0:w2.heap[wr.heap.size]?=some (.cells #[.int .i64 k,.string p,.string q] 48 (0,0)):=Below.heapAt hb2 (heap_new _ _) (by simp);have g1:w2.cell? ⟨wr.heap.size,0,none⟩=some (.int .i64 k):=by rw[cell_at g0];rfl
   have g2:w2.cell? ⟨wr.heap.size,1,none⟩=some (.string p):=by rw[cell_at g0];rfl
   have g3:w2.cell? ⟨wr.heap.size,2,none⟩=some (.string q):=by rw[cell_at g0];rfl
   have r0:w2.cell? ⟨w.heap.size,0,none⟩=some (.int .i64 0):=by rw[cell_at hi2.res];rfl
   have r1:w2.cell? ⟨w.heap.size,1,none⟩=some (.int .i64 0):=by rw[cell_at hi2.res];rfl
   have r2:w2.frozen? ⟨w.heap.size,0,none⟩=false:=frozen_at hi2.res _;have r3:w2.frozen? ⟨w.heap.size,1,none⟩=false:=frozen_at hi2.res _;have hsw:=lt_of_heap hi.tal.1;clear hb2 d0 d1 d2 hi hk2;cases hB:factB k p q
   ·have HE:Hid (printGo [] fs []=([],4,(n:Int)+1)):=by
     have e:=hi2.rest;rw[drop_here HF.out,printGo_form (f:=⟨k,p,q⟩) hB,List.length_take,Nat.min_eq_left (by omega)]at e;exact e.symm
    clear hB;have hbl:=hi2.blw;clear hi2;go_wp2;refine bodyPost_ret (v:=.tuple #[.string ⟨#[]⟩,.agg #[.int .i64 4,.int .i64 ((n:Int)+1)]]) (by simp[results,Tryz.results34,go_sem,r0,r1]) rfl ⟨by rw[HE.out],?_⟩;exact(hbl.setCell (p:=⟨w.heap.size,0,none⟩) (Nat.le_refl _) _).setCell (p:=⟨w.heap.size,1,none⟩) (Nat.le_refl _) _
   ·have HB:Hid (factB k p q=true):=hB;clear hB;go_wp2_with fail
    have hnl:(fs.take n).length=n:=by rw[List.length_take];omega
    have htal:=hi2.tal;have h120:=hi2.few;refine(add_any (w.heap.size+1+1+1) (w.heap.size+1+1) (fs.take n) k p q _ (by omega) hp hq (by rw[hnl];exact htal)).mono ?_
    rintro e w3 ⟨rfl,hk3,ht3⟩;clear htal;have hsz:=lt_of_heap hi2.tal.1;have hsz2:=lt_of_heap g0;have k0:w3.heap[wr.heap.size]?=some (.cells #[.int .i64 k,.string p,.string q] 48 (0,0)):=hk3.heap g0 (nm2 (by omega) (by omega));have k4:w3.heap[w.heap.size]?=some (.cells #[.int .i64 0,.int .i64 0] 27 (0,0)):=hk3.heap hi2.res (nm2 (by omega) (by omega));have k1:w3.cell? ⟨wr.heap.size,0,none⟩=some (.int .i64 k):=by rw[cell_at k0];rfl
    have k2:w3.cell? ⟨wr.heap.size,1,none⟩=some (.string p):=by rw[cell_at k0];rfl
    have k3:w3.cell? ⟨wr.heap.size,2,none⟩=some (.string q):=by rw[cell_at k0];rfl
    have q0:w3.cell? ⟨w.heap.size,0,none⟩=some (.int .i64 0):=by rw[cell_at k4];rfl
    have q1:w3.cell? ⟨w.heap.size,1,none⟩=some (.int .i64 0):=by rw[cell_at k4];rfl
    have q2:w3.frozen? ⟨w.heap.size,0,none⟩=false:=frozen_at k4 _;have q3:w3.frozen? ⟨w.heap.size,1,none⟩=false:=frozen_at k4 _;clear k0 k4 g0 g1 g2 g3 r0 r1 r2 r3;by_cases he:errOf (fs.take n) ⟨k,p,q⟩=0
    ·have ht4:=ht3 he;obtain⟨s1,s2,_⟩:=errOf_zero he;simp only at s1 s2;have HR:Hid (errOf (fs.take n) ⟨k,p,q⟩=0):=he;rw[HR.out];clear he ht3;go_wp2_with fail
     refine(printLine_any k p q _ s1 s2).mono ?_
     rintro e w4 ⟨rfl,hb4⟩;have hk4:Kb [] w3 w4:=Kb.of_below hb4 [];obtain⟨hbd,hsz4⟩:=hi2.mid hk3 hk4;have hsh:=hi2.short;have hln:=lineB_size k p q;have hbc:(Lib.byteCells acc).length=acc.length:=Lib.byteCells_length acc;go_wp2_with fail
     refine(writeString_any w.heap.size (w.heap.size+1) (Lib.byteCells acc) (lineB k p q) _ hbd (by omega) hsz4).mono ?_
     rintro e w5 ⟨rfl,hb5,hw5,ho5⟩;have hnext:=hi2.next HF.out HB.out HR.out hk3 ht4 hk4 hb5 hw5 ho5
     clear hi2 hk3 ht4 hk4 hb5 hw5 ho5 hbd;go_wp2;go_roundw
     case rel=>exact⟨n+1,_,by go_num,hnext⟩
     case measure=>simp[intOf];omega
    ·have HE:Hid (printGo [] fs []=([],errOf (fs.take n) ⟨k,p,q⟩,(n:Int)+1)):=by
      have e:=hi2.rest;rw[drop_here HF.out,printGo_err (f:=⟨k,p,q⟩) HB.out rfl he,hnl]at e;exact e.symm
     have hbl:=hi2.blw.trans (hk3.below (B:=w.heap.size) (by omega) (by intro x hx;simp only[List.mem_cons,List.not_mem_nil,or_false]at hx;omega));clear hi2 hk3 ht3;generalize errOf (fs.take n) ⟨k,p,q⟩=x at HE he ⊢;have hx:(x != 0)=true:=bne_iff_ne.2 he;clear he;go_wp2;refine bodyPost_ret (v:=.tuple #[.string ⟨#[]⟩,.agg #[.int .i64 x,.int .i64 ((n:Int)+1)]]) (by simp[results,Tryz.results34,go_sem,q0,q1]) rfl ⟨by rw[HE.out],?_⟩;exact(hbl.setCell (p:=⟨w.heap.size,0,none⟩) (Nat.le_refl _) _).setCell (p:=⟨w.heap.size,1,none⟩) (Nat.le_refl _) _
  ·have HE:Hid (printGo [] fs []=(acc,0,0)):=by
    have e:=hi.rest;rw[List.drop_of_length_le (by omega),printGo_nil]at e;exact e.symm
   have hres:=hi.res;have hbl:=hi.blw;have hbd:=hi.bld;have hsz:=lt_of_heap hres;clear hi;go_wp2_with fail
   refine(builderString_any w.heap.size (w.heap.size+1) acc _ hbd (by omega)).mono ?_
   rintro e w2 ⟨rfl,hb2,hw2,ho2⟩;have g0:w2.heap[w.heap.size]?=some (.cells #[.int .i64 0,.int .i64 0] 27 (0,0)):=ho2 _ _ hres (by intro e;injection e;omega) (by intro c fz e;cases e);have r0:w2.cell? ⟨w.heap.size,0,none⟩=some (.int .i64 0):=by rw[cell_at g0];rfl
   have r1:w2.cell? ⟨w.heap.size,1,none⟩=some (.int .i64 0):=by rw[cell_at g0];rfl
   have r2:w2.frozen? ⟨w.heap.size,0,none⟩=false:=frozen_at g0 _;have r3:w2.frozen? ⟨w.heap.size,1,none⟩=false:=frozen_at g0 _;clear ho2 hres hb2;go_wp2;refine bodyPost_ret (v:=.tuple #[.string ⟨acc.toArray⟩,.agg #[.int .i64 0,.int .i64 0]]) (by simp[results,Tryz.results34,go_sem,r0,r1]) rfl ⟨by rw[HE.out],?_⟩;exact((hbl.trans hw2).setCell (p:=⟨w.heap.size,0,none⟩) (Nat.le_refl _) _).setCell (p:=⟨w.heap.size,1,none⟩) (Nat.le_refl _) _
set_option maxHeartbeats 400000 in
theorem fprint_none(ao:Option Addr)(cap:Nat)(w:World) :
  Calls Tryz.prog 34 #[.slice ao 0 cap] w fun e w'=>e=.returned (.tuple #[.string ⟨#[]⟩,.agg #[.int .i64 0,.int .i64 0]])∧Below w.heap.size w w':=by
 go_enter Tryz.func34,Tryz.ntmps34
 go_wp2_with fail
 refine(newTally_any _).mono ?_
 rintro e w1 ⟨rfl,rfl⟩;have hi:=PInv.start w [];go_wp2_with fail
 refine wp_loop_rounds 1 ?_
 rw[rounds_succ];have hres:=hi.res;have hbl:=hi.blw;have hbd:=hi.bld;have hsz:=lt_of_heap hres;generalize ((((w.alloc (.cells #[.int .i64 0,.int .i64 0] 27)).alloc (.cells #[.pointer none,.slice none 0 0] 118)).alloc (.map #[] 0)).alloc (.cells #[.int .i64 0,.map (some (w.heap.size+1+1))] 158))=wr at *;clear hi;go_wp2_with fail
 refine(builderString_any w.heap.size (w.heap.size+1) [] _ hbd (by omega)).mono ?_
 rintro e w2 ⟨rfl,hb2,hw2,ho2⟩;have g0:w2.heap[w.heap.size]?=some (.cells #[.int .i64 0,.int .i64 0] 27 (0,0)):=ho2 _ _ hres (by intro e;injection e;omega) (by intro c fz e;cases e);have r0:w2.cell? ⟨w.heap.size,0,none⟩=some (.int .i64 0):=by rw[cell_at g0];rfl
 have r1:w2.cell? ⟨w.heap.size,1,none⟩=some (.int .i64 0):=by rw[cell_at g0];rfl
 have r2:w2.frozen? ⟨w.heap.size,0,none⟩=false:=frozen_at g0 _;have r3:w2.frozen? ⟨w.heap.size,1,none⟩=false:=frozen_at g0 _;clear ho2 hres hb2;go_wp2;refine bodyPost_ret (v:=.tuple #[.string ⟨#[]⟩,.agg #[.int .i64 0,.int .i64 0]]) (by simp[results,Tryz.results34,go_sem,r0,r1]) rfl ⟨rfl,?_⟩;exact((hbl.trans hw2).setCell (p:=⟨w.heap.size,0,none⟩) (Nat.le_refl _) _).setCell (p:=⟨w.heap.size,1,none⟩) (Nat.le_refl _) _
theorem fprint_any(v:Value)(fs:List Fct)(w:World)(hlen:fs.length≤maxLen)(hv:IsFacts v fs w)(hfit:fitsF fs) :
  Calls Tryz.prog 34 #[v] w fun e w'=>e=.returned (.tuple #[.string ⟨(printGo [] fs []).1.toArray⟩,.agg #[.int .i64 (printGo [] fs []).2.1,.int .i64 (printGo [] fs []).2.2]])∧Below w.heap.size w w':=by
 obtain⟨ao,cap,rfl,_,_,h⟩:=hv;by_cases hfs:fs=[]
 ·subst hfs;exact fprint_none ao cap w
 ·obtain⟨b,off,rfl,hb,hf⟩:=h hfs;exact fprint_some b off cap fs w hlen hf hb hfit
set_option maxHeartbeats 400000 in
theorem qprint_any(v:Value)(fs:List Fct)(w:World)(hlen:fs.length≤maxLen)(hv:IsFacts v fs w)(hfit:fitsF fs) :
  Calls Tryz.prog 14 #[v] w fun e w'=>e=.returned (.tuple #[.string ⟨(printGo [] fs []).1.toArray⟩,.agg #[.int .i64 (printGo [] fs []).2.1,.int .i64 (printGo [] fs []).2.2]])∧Below w.heap.size w w':=by
 have hb0:Below w.heap.size w (w.alloc (.cells #[.int .i64 0,.int .i64 0] 27)):=(Below.refl _ _).alloc (Nat.le_refl _) _;have hc:=fprint_any v fs _ hlen (hv.below hb0) hfit;have HC:=Hid.out (p:=Calls _ _ _ _ _) hc;clear hc;generalize printGo [] fs []=R at HC ⊢;have HH:Hid (Calls _ _ _ _ _):=HC;clear HC;go_enter Tryz.func14,Tryz.ntmps14
 go_wp2_with fail
 refine(HH.out).mono ?_
 rintro e w2 ⟨rfl,hb2⟩;have g0:w2.heap[w.heap.size]?=some (.cells #[.int .i64 0,.int .i64 0] 27 (0,0)):=Below.heapAt hb2 (heap_new _ _) (by simp);have r0:w2.cell? ⟨w.heap.size,0,none⟩=some (.int .i64 0):=by rw[cell_at g0];rfl
 have r1:w2.cell? ⟨w.heap.size,1,none⟩=some (.int .i64 0):=by rw[cell_at g0];rfl
 have r2:w2.frozen? ⟨w.heap.size,0,none⟩=false:=frozen_at g0 _;have r3:w2.frozen? ⟨w.heap.size,1,none⟩=false:=frozen_at g0 _;have hbl:Below w.heap.size w w2:=hb0.trans (hb2.mono (by simp));clear hb2 g0 HH;go_wp2;refine bodyPost_ret (v:=.tuple #[.string ⟨R.1.toArray⟩,.agg #[.int .i64 R.2.1,.int .i64 R.2.2]]) (by simp[results,Tryz.results14,go_sem,r0,r1]) rfl ⟨rfl,?_⟩;exact(hbl.setCell (p:=⟨w.heap.size,0,none⟩) (Nat.le_refl _) _).setCell (p:=⟨w.heap.size,1,none⟩) (Nat.le_refl _) _
end
section
open Go.RowKit Go.Shelf
attribute [local go_sem] Oper.semAt_some
end
section
open Go.RowKit Go.Maps
variable {n:Nat} {s:St}
theorem ptn_pts{fs:List Fct}{ns:List ByteArray}(hasc:Asc ns)(hnd:ns.Nodup)(hin:∀f∈fs,f.p∈ns∧f.q∈ns){i j:Nat}{a b:ByteArray}(ha:ns[i]?=some a)(hb:ns[j]?=some b):PtN (fs.map (numF ns)) i j↔Pts fs a b:=by
 have num:∀ {k:Int} {p q:Nat},(k,p,q)∈fs.map (numF ns)→∃f∈fs,f.k=k∧ns[p]?=some f.p∧ns[q]?=some f.q:=by
  intro k p q hm;obtain⟨f,hf,e⟩:=List.mem_map.1 hm;unfold numF at e;injection e with e0 e;injection e with e1 e2;exact⟨f,hf,e0,by rw[← e1];exact asc_mem hasc (hin f hf).1,by rw[← e2];exact asc_mem hasc (hin f hf).2⟩
 have same:∀ {u:Nat} {x y:ByteArray},ns[u]?=some x→ns[u]?=some y→x=y:=fun h1 h2=>by rw[h1]at h2;injection h2
 constructor
 ·intro h;obtain⟨a',b',h1,h2,h3⟩:=h (fun i j=>∃a b,ns[i]?=some a∧ns[j]?=some b∧Pts fs a b)
   (fun p q hm=>by
    obtain⟨⟨k,fp,fq⟩,hf,hk,h1,h2⟩:=num hm;simp only at hk h1 h2;subst hk;exact⟨_,_,h1,h2,.addr hf⟩)
   (fun p q x hm ⟨a,b,h3,h4,h5⟩=>by
    obtain⟨⟨k,fp,fq⟩,hf,hk,h1,h2⟩:=num hm;simp only at hk h1 h2;subst hk;rw[← same h2 h3]at h5;exact⟨_,_,h1,h4,.copy hf h5⟩)
   (fun p q v x hm ⟨a,b,h3,h4,h5⟩ ⟨a',b',h6,h7,h8⟩=>by
    obtain⟨⟨k,fp,fq⟩,hf,hk,h1,h2⟩:=num hm;simp only at hk h1 h2;subst hk;rw[← same h2 h3]at h5;rw[← same h4 h6]at h8;exact⟨_,_,h1,h7,.load hf h5 h8⟩)
   (fun p q v x hm ⟨a,b,h3,h4,h5⟩ ⟨a',b',h6,h7,h8⟩=>by
    obtain⟨⟨k,fp,fq⟩,hf,hk,h1,h2⟩:=num hm;simp only at hk h1 h2;subst hk;rw[← same h1 h3]at h5;rw[← same h2 h6]at h8;exact⟨_,_,h4,h7,.store hf h5 h8⟩)
  rw[same ha h1,same hb h2];exact h3
 ·intro h;have key:PtN (fs.map (numF ns)) (insAt ns a) (insAt ns b):=h (fun a b=>PtN (fs.map (numF ns)) (insAt ns a) (insAt ns b))
   (fun p q hm=>.addr (List.mem_map.2 ⟨_,hm,rfl⟩))
   (fun p q x hm h1=>.copy (List.mem_map.2 ⟨_,hm,rfl⟩) h1)
   (fun p q v x hm h1 h2=>.load (List.mem_map.2 ⟨_,hm,rfl⟩) h1 h2)
   (fun p q v x hm h1 h2=>.store (List.mem_map.2 ⟨_,hm,rfl⟩) h1 h2)
  rw[nd_inj hnd (asc_mem hasc (List.mem_of_getElem? ha)) ha,nd_inj hnd (asc_mem hasc (List.mem_of_getElem? hb)) hb]at key;exact key
theorem canon_range{t:List Nat}(h:t=mkS (t.contains ·))(hn:n≤128)(hb:∀x∈t,x<n):t=(List.range n).filter (t.contains ·):=by
 have e:List.range 128=List.range n++(List.range (128-n)).map (n + ·):=by
  rw[← List.range_add];congr 1
  omega
 have h2:mkS (t.contains ·)=(List.range n).filter (t.contains ·):=by
  unfold mkS;rw[e,List.filter_append];have e2:((List.range (128-n)).map (n + ·)).filter (t.contains ·)=[]:=by
   rw[List.filter_eq_nil_iff];intro x hx;obtain⟨y,_,rfl⟩:=List.mem_map.1 hx;intro hc;have:=hb _ (List.contains_iff_mem.1 hc);omega
  rw[e2,List.append_nil]
 exact h.trans h2
theorem list_range{α:Type}(l:List α)(d:α):l=(List.range l.length).map (l.getD · d):=by
 refine List.ext_getElem? fun i=>?_
 rw[List.getElem?_map];by_cases hi:i<l.length
 ·rw[List.getElem?_range hi,List.getElem?_eq_getElem hi];simp[List.getD_eq_getElem?_getD,hi]
 ·rw[List.getElem?_eq_none (by omega),List.getElem?_eq_none (by simp;omega)];rfl
theorem rows_sol[DP]{fs:List Fct}{sF:St}(hin:∀f∈fs,f.p∈nsOf fs∧f.q∈nsOf fs)(hn:(nsOf fs).length≤40)(hsol:∀i x,x∈sF.tg (sF.rep i)↔PtN (fs.map (numF (nsOf fs))) i x)(hbd:∀k x,x∈sF.ss.getD k []→x<(nsOf fs).length)
  (hcan:∀m,sF.ss.getD m []=mkS ((sF.ss.getD m []).contains ·)):rowsS sF (nsOf fs)=solR fs:=by
 have hasc:Asc (nsOf fs):=asc_names _;have hnd:=ns_nodup fs;generalize hns:nsOf fs=ns at *;unfold rowsS solR;rw[hns];refine List.ext_getElem? fun i=>?_
 rw[List.getElem?_map,List.getElem?_map];by_cases hi:i<ns.length
 ·obtain⟨a,ha⟩:∃a,ns[i]?=some a:=⟨_,List.getElem?_eq_getElem hi⟩;have ea:ns.getD i ⟨#[]⟩=a:=by rw[List.getD_eq_getElem?_getD,ha];rfl
  rw[List.getElem?_range hi,ha];simp only[Option.map_some,Option.some.injEq,RowD.mk.injEq];refine⟨ea,?_⟩;have e1:=canon_range (n:=ns.length) (hcan (7*sF.rep i)) (by omega) (hbd _);have e1':sF.tg (sF.rep i)=(List.range ns.length).filter ((sF.tg (sF.rep i)).contains ·):=e1;have e2:ns.filter (fun b=>decide (Pts fs a b))=((List.range ns.length).filter (fun j=>decide (Pts fs a (ns.getD j ⟨#[]⟩)))).map (ns.getD · ⟨#[]⟩):=by
   have:=list_range ns (⟨#[]⟩:ByteArray);rw[show ns.filter (fun b=>decide (Pts fs a b))=((List.range ns.length).map (ns.getD · ⟨#[]⟩)).filter (fun b=>decide (Pts fs a b)) by rw[← this],List.filter_map];rfl
  rw[e2,e1'];congr 1
  refine List.filter_congr fun j hj=>?_
  have hj':=List.mem_range.1 hj;obtain⟨b,hb⟩:∃b,ns[j]?=some b:=⟨_,List.getElem?_eq_getElem hj'⟩;have eb:ns.getD j ⟨#[]⟩=b:=by rw[List.getD_eq_getElem?_getD,hb];rfl
  rw[eb];have hiff:=(hsol i j).trans (ptn_pts hasc hnd hin ha hb);rw[Bool.eq_iff_iff,decide_eq_true_eq,List.contains_iff_mem];exact hiff
 ·rw[List.getElem?_eq_none (by simp;omega),List.getElem?_eq_none (by omega)];rfl
def unS(fs:List Fct)(c:Way):Nat:=((St.solve 5000 c (St.start (nsOf fs).length (fs.map (numF (nsOf fs)))) (nsOf fs).length).map (·.un)).getD 0
end
section
open Go.RowKit Go.Maps
variable {n:Nat} {s:St}
theorem subst_wu{k:Nat}:∀(j:Nat) {s sF:St},WF n s→St.substitute k n j s=some sF→WU n s sF:=by
 intro j;induction j with
 |zero=>intro s sF _ h;cases h
 |succ j ih=>
  intro s sF hw h;obtain⟨ps,_,h2⟩:=subst_step h;obtain⟨w1,w2⟩:=hw.same ps;cases e:(s.mergeSame n ps).1
  ·rw[e]at h2;cases h2;exact⟨w1,w2⟩
  ·rw[e]at h2;have:=ih w1 h2;exact⟨this.1,Nat.le_trans w2 this.2⟩
theorem twins_wu{k:Nat}(hk:130≤k){s s':St}(hw:WF n s)(h:s.findTwins k n=some s'):WU n s s':=by
 unfold St.findTwins at h;refine foldO_wu (P:=(· < n)) (fun s x s1 hs hx e=>?_) (s.all n) s s' hw (fun x hx=>hw.allLt hx) h;obtain⟨t,e1,e2⟩:=twinsOf_some (i:=x) hk hs;rw[e1]at e;injection e with e;rw[← e];exact⟨hs.put (by omega) e2,Nat.le_refl _⟩
theorem ahead_wu{k:Nat}(hk:130≤k){c:Way}{s s':St}(hw:WF n s)(h:s.lookAhead k c n=some s'):WU n s s':=by
 unfold St.lookAhead at h;cases e1:(if c.subst=true then St.substitute k n k s else some s)with
 |none=>rw[e1]at h;cases h
 |some s1=>
  rw[e1]at h;simp only[Option.bind_some]at h;have h1:WU n s s1:=by
   cases e2:c.subst
   ·rw[e2]at e1;cases e1;exact WU.refl hw
   ·rw[e2]at e1;exact subst_wu k hw e1
  cases e2:c.collapse
  ·rw[e2]at h;cases h;exact h1
  ·rw[e2]at h;exact h1.trans (twins_wu hk h1.1 h)
end
section
open Go.RowKit Go.Shelf
attribute [local go_sem] Oper.semAt_some
variable {B:Nat} {c:Way} {n:Nat} {s:St}
theorem put_self{s:St}{k:Nat}(h:k<s.ss.length):s.put k (s.ss.getD k [])=s:=by
 unfold St.put;rw[List.getD_eq_getElem?_getD,List.getElem?_eq_getElem h];simp
set_option maxRecDepth 100000 in
set_option maxHeartbeats 4000000 in
theorem gsuspect_any(f j:Nat)(w:World)(G:GV)(h:GM w B c n G s)(hf:f<n)(hj:j<n) :
  Calls Tryz.prog 158 #[.pointer (some ⟨G.bg,0,none⟩),.int .u64 f,.int .u64 j] w fun e w'=>e=.returned (.tuple #[])∧∃G',GM w' B c n G' (s.suspect f j)∧GCh w w' G G':=by
 have hn:=h.n40;obtain⟨r0,r1,r2,r3,r4,r5,r7,r9,r9f⟩:=h.reads;have ef:f*7=7*f:=Nat.mul_comm _ _;have ej:j*7=7*j:=Nat.mul_comm _ _;obtain⟨E,hE⟩:∃E,E=(s.tg f == s.tg j):=⟨_,rfl⟩;have HEq:Hid (∀W,SameW w W→Calls Tryz.prog 110 #[.pointer (some ⟨G.bn,f*7,none⟩),.pointer (some ⟨G.bn,j*7,none⟩)] W fun e w'=>e=.returned (.bool E)∧∃m,w'=W.drewN m):=hide (fun W hW=>by rw[ef,ej,hE];exact gequal_any (7*f) (7*j) W G (h.same hW) (by omega) (by omega));have HAd:Hid (∀W,SameW w W→Calls Tryz.prog 108 #[.pointer (some ⟨G.bn,f*7+6,none⟩),.int .u64 j] W fun e w'=>e=.returned (.bool (!(s.tr f).contains j))∧∃G',GM w' B c n G' (s.addAt (7*f+6) j)∧GCh W w' G G'):=hide (fun W hW=>by rw[ef];exact gadd_any (7*f+6) j W G (h.same hW) (by omega) (by omega));have H:=hide h;have HE:=hide hE;clear h ef ej hE r0 r1 r2 r3 r4 r7 r9 r9f;go_enter Tryz.func158,Tryz.ntmps158
 go_wp2;cases E
 ·have HF:Hid (∀W,SameW w W→GM W B c n G (s.suspect f j)∧GCh w W G G):=by
   refine hide (fun W hW=>?_);have e1:s.suspect f j=s:=by unfold St.suspect;rw[← HE.out];rfl
   rw[e1];exact⟨H.out.same hW,GCh.same hW G⟩
  first|(go_region_with (go_at_call 110;refine(HEq.out w.drew ⟨rfl,rfl,rfl,rfl⟩).mono ?_;rintro e w1 ⟨rfl,m,rfl⟩))|fail
  all_goals
   go_wp2;go_end0
   exact⟨rfl,G,HF.out _ ⟨rfl,rfl,rfl,rfl⟩⟩
 ·obtain⟨b,hb⟩:∃b,b=(!(s.tr f).contains j):=⟨_,rfl⟩;rw[← hb]at HAd;have HB:=hide hb;clear hb;go_region_with (first|(go_at_call 110;refine(HEq.out w.drew ⟨rfl,rfl,rfl,rfl⟩).mono ?_;rintro e w1 ⟨rfl,m,rfl⟩)|(go_at_call 108;refine(HAd.out (w.drewN (1+m)) ⟨rfl,rfl,rfl,rfl⟩).mono ?_;rintro e w2 ⟨rfl,G2,hG2,hC2⟩))
  all_goals
   have H2:=hide (And.intro hG2 hC2);have hk1:GCh w w2 G G2:=((GCh.same (w:=w) (W:=w.drewN (1+m)) ⟨rfl,rfl,rfl,rfl⟩ G)).trans hC2;cases b
   ·have HF:Hid (GM w2 B c n G2 (s.suspect f j)∧GCh w w2 G G2):=by
     refine hide ⟨?_,hk1⟩;have hb2:(s.tr f).contains j=true:=by
      have h9:=HB.out;cases h8:(s.tr f).contains j
      ·rw[h8]at h9;cases h9
      ·rfl
     have e1:s.suspect f j=s:=by unfold St.suspect;rw[hb2];simp
     have hkl:7*f+6<7*n:=by omega
     obtain⟨v,q,q',qs⟩:=H.out.get hkl;have e2:s.addAt (7*f+6) j=s:=by
      unfold St.addAt;rw[addS_self qs.canon hb2];exact put_self (by rw[H.out.lss];exact hkl)
     rw[e1];have h7:=H2.out.1;rw[e2]at h7;exact h7
    clear hG2 hC2 hk1;go_wp2;go_end0
    exact⟨rfl,G2,HF.out⟩
   ·have HSd:=gsadd_any f w2 G2 hG2 (by omega);rw[hC2.e1]at HSd;have e1:s.suspect f j={ s.addAt (7*f+6) j with susp:=addS f (s.addAt (7*f+6) j).susp }:=by
     have h9:=HB.out;unfold St.suspect;rw[← HE.out];have hb2:(s.tr f).contains j=false:=by
      cases h8:(s.tr f).contains j
      ·rfl
      ·rw[h8]at h9;cases h9
     rw[hb2];rfl
    have HK1:=hide hk1;have HE1:=hide e1;clear hG2 hC2 hk1 e1;go_wp2_with fail
    refine HSd.mono ?_
    clear HSd;rintro e w3 ⟨rfl,G3,hG3,hC3⟩;go_wp2;go_end0
    refine⟨rfl,G3,?_,HK1.out.trans hC3⟩;rw[HE1.out];exact hG3
theorem sus_ok:SusOK B c n:=fun _ f j w G h hf hj=>gsuspect_any f j w G h hf hj
end
end Go.Proofs.YtiamlbhkiehilaaGreatDoor
