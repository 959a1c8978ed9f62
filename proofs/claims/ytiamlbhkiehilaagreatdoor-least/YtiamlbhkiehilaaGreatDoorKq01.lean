import Derived.Test.YtiamlbhkiehilaaGreatDoorKq00
import Derived.Lib.OthersKept
import Derived.Deep.Quiet
import Derived.Maps.OwnSet
import Derived.Maps.Views
import Derived.Test.YtiamlbhkiehilaaGreatDoorRows
import Derived.Deep.AppendLies
import Derived.WalkSpells
import Derived.WalkLawsBesides
import Derived.RegionTactic
import Derived.ChangeAlike
import Derived.Laws.BitsAll
import Derived.Deep.RegionLaw
namespace Go.Proofs.YtiamlbhkiehilaaGreatDoor
section
theorem foldO_nil{α β:Type}(f:α→β→Option α)(a:α):St.foldO f a []=some a:=rfl
theorem foldO_cons{α β:Type}(f:α→β→Option α)(a:α)(x:β)(r:List β):St.foldO f a (x::r)=(f a x).bind fun b=>St.foldO f b r:=rfl
theorem Inv.susp{fs:List (Int × Nat × Nat)}{n:Nat}{c:Way}{E:Nat→Prop}{s:St}(h:Inv fs n c E s){l:List Nat}(hl:∀i,i∈l→i<n):Inv fs n c E { s with susp:=l }:=
 { h with sus:=hl }
theorem Inv.lookStep{fs:List (Int × Nat × Nat)}{n:Nat}{c:Way}{E:Nat→Prop}{s:St}(h:Inv fs n c E s){k a:Nat}(hk:130≤k)(ha:a<n):∃s',s.lookStep k a=some s'∧Inv fs n c E s'∧s'.mea n≤s.mea n∧s'.pt n≤s.pt n:=by
 have h1:Inv fs n c E { s with susp:=delS a s.susp }:=h.susp (fun i hi=>h.sus i (mem_delS.1 hi).2.2);have hn:=h.hn;unfold St.lookStep;simp only[];generalize hs1:({ s with susp:=delS a s.susp }:St)=s1 at *;have m1:s1.mea n=s.mea n:=by rw[← hs1];rfl
 have m2:s1.pt n=s.pt n:=by rw[← hs1];rfl
 obtain⟨l,hl⟩:=around_ends (next:=s1.heirsOf) (fun x y hy=>(mem_heirsOf.1 hy).1) hk a;rw[hl];have hsame:=around_same (V:=PtN fs) (fun x y hy t ht=>(h1.heirs_lt hy).2.2 t ht) hl;have hbd:=around_bd (P:=(· < n)) hl ha (fun x y hy=>(h1.heirs_lt hy).1);obtain⟨p1,p2,p3,p4⟩:=h1.mergeAll ha (l:=l) (fun b hb=>⟨hbd b hb,fun t=>(hsame b hb t).symm⟩);exact⟨_,rfl,p1,by show(s1.mergeAll a l).2.mea n≤_;omega,by show(s1.mergeAll a l).2.pt n≤_;omega⟩
theorem Inv.lookL{fs:List (Int × Nat × Nat)}{n:Nat}{c:Way}{E:Nat→Prop}{k:Nat}(hk:130≤k):∀(l:List Nat) {s:St},Inv fs n c E s→(∀a,a∈l→a<n)→∃s',St.foldO (St.lookStep k) s l=some s'∧Inv fs n c E s'∧s'.mea n≤s.mea n∧s'.pt n≤s.pt n:=by
 intro l;induction l with
 |nil=>exact fun h _=>⟨_,rfl,h,Nat.le_refl _,Nat.le_refl _⟩
 |cons a r ih=>
  intro s h hl;obtain⟨s1,e1,p1,p2,p3⟩:=h.lookStep hk (hl a List.mem_cons_self);obtain⟨s2,e2,q1,q2,q3⟩:=ih p1 (fun b hb=>hl b (List.mem_cons_of_mem _ hb));refine⟨s2,?_,q1,by omega,by omega⟩;rw[foldO_cons,e1];exact e2
theorem Inv.look{fs:List (Int × Nat × Nat)}{n:Nat}{c:Way}{E:Nat→Prop}{s:St}(h:Inv fs n c E s){k:Nat}(hk:130≤k):∃s',s.lookForCycles k=some s'∧Inv fs n c E s'∧s'.mea n≤s.mea n∧s'.pt n≤s.pt n:=
 Inv.lookL hk s.susp h h.sus
theorem St.letIn_W(s:St)(o:Int)(i:Nat):(s.letIn o).W i↔s.W i:=by
 unfold St.letIn;split
 ·exact Iff.rfl
 ·unfold St.W;simp only[List.not_mem_nil,or_false];split
  ·rw[List.mem_mergeSort,List.mem_append]
  ·rw[List.mem_append]
theorem St.letIn_nw(s:St)(o:Int):(s.letIn o).nw=s.nw:=by
 unfold St.letIn;split
 ·rfl
 ·unfold St.nw;simp only[List.length_nil,Nat.add_zero];split
  ·rw[List.length_mergeSort,List.length_append]
  ·rw[List.length_append]
theorem St.letIn_same(s:St)(o:Int):(s.letIn o).ss=s.ss∧(s.letIn o).rep=s.rep∧(s.letIn o).inside=s.inside∧(s.letIn o).susp=s.susp∧(s.letIn o).un=s.un:=by
 unfold St.letIn;split<;>exact⟨rfl,rfl,rfl,rfl,rfl⟩
theorem St.letIn_come(s:St)(o:Int)(h:(s.letIn o).now=[]):(s.letIn o).come=[]:=by
 unfold St.letIn at h ⊢;split
 ·rename_i hc;rw[if_pos hc]at h;rw[h]at hc;simp at hc
 ·rfl
theorem filter_ne_lt{l:List Nat}{a:Nat}(h:a∈l):(l.filter (· != a)).length<l.length:=by
 have:=filter_len_lt l (· != a) (fun _=>true) (fun _ _ _=>rfl) h (by simp) rfl;rwa [List.filter_eq_self.2 (fun _ _=>rfl)]at this
theorem Inv.same_as{fs:List (Int × Nat × Nat)}{n:Nat}{c:Way}{E E':Nat→Prop}{s s':St}(h:Inv fs n c E s)(e1:s'.ss=s.ss)(e2:s'.rep=s.rep)(e3:s'.susp=s.susp)(hins:∀i,i∈s'.inside↔s'.W i)(hw:∀i,s'.W i→s.W i)(hE:∀i,s.W i∨E i→s'.W i∨E' i):Inv fs n c E' s':=by
 obtain⟨ss,rep,inside,now,come,susp,un⟩:=s';simp only at e1 e2 e3;subst e1 e2 e3;refine⟨h.hn,h.fsb,h.len,h.repl,h.repi,h.same,h.bd,h.gone,h.tg,h.hdt,h.hdn,h.hr,h.ld,h.sr,h.tw,h.cA,h.cC,h.cL,h.cS,hins,fun i hi=>h.wst i (hw i hi),h.sus,?_,?_⟩
 ·exact fun i hi hx hc=>h.all i hi (fun hw'=>hx (hE i hw')) hc
 ·intro i x hi hxt hcond;refine h.done i x hi hxt ?_
  split
  ·rename_i hc;rw[if_pos hc]at hcond;exact hcond
  ·rename_i hc;rw[if_neg hc]at hcond;exact fun hw'=>hcond (hE i hw')
theorem Inv.next{fs:List (Int × Nat × Nat)}{n:Nat}{c:Way}{s:St}(h:Inv fs n c (fun _=>False) s)(o:Int) :
  (∃s',s.next o=(none,s')∧Inv fs n c (fun _=>False) s'∧(∀i,¬s'.W i)∧s'.pt n=s.pt n) ∨
  (∃a s',s.next o=(some a,s')∧Inv fs n c (·=a) s'∧a<n∧s'.rep a=a∧s'.mea n+1≤s.mea n∧s'.pt n+n≤s.pt n):=by
 obtain⟨e1,e2,e3,e4,e5⟩:=St.letIn_same s o;have eW:=St.letIn_W s o;have en:=St.letIn_nw s o;have ec:=St.letIn_come s o;have key:s.next o=(match(s.letIn o).now with | []=>(none,s.letIn o)|x::r=>(some (if o == 1 then(x::r).getLastD 0 else x),(s.letIn o).drop (if o == 1 then(x::r).getLastD 0 else x))):=by
  unfold St.next
  rfl
 rw[key];generalize s.letIn o=s1 at *;have m0:∀f,s1.mis n f=s.mis n f:=fun f=>by unfold St.mis;rw[e1,e2]
 have md:s1.dn n=s.dn n:=St.dn_eq e2;have mm:s1.mea n=s.mea n:=by unfold St.mea;rw[m0,md,en]
 have mp:s1.pt n=s.pt n:=by unfold St.pt;rw[m0,md,mm,e5]
 have hins1:∀i,i∈s1.inside↔s1.W i:=fun i=>by rw[e3,eW];exact h.ins i
 cases hnow:s1.now with
 |nil=>
  refine .inl ⟨s1,rfl,h.same_as e1 e2 e4 hins1 (fun i hi=>(eW i).1 hi) (fun i hi=>hi.imp (eW i).2 id),?_,mp⟩;intro i hi;unfold St.W at hi;rw[hnow,ec hnow]at hi;rcases hi with hi|hi<;>cases hi
 |cons x r=>
  refine .inr ⟨_,_,rfl,?_⟩;have hmem:(if o == 1 then(x::r).getLastD 0 else x)∈s1.now:=by
   rw[hnow];split
   ·rw[List.getLastD_eq_getLast?,List.getLast?_eq_some_getLast (by simp)];exact List.getLast_mem _
   ·exact List.mem_cons_self
  generalize (if o == 1 then(x::r).getLastD 0 else x)=a at hmem;have hwa:s.W a:=(eW a).1 (.inl hmem);obtain⟨ha,hra⟩:=h.wst a hwa;have dW:∀i,(s1.drop a).W i↔s1.W i∧i≠a:=by
   intro i;unfold St.W St.drop;simp only[List.mem_filter,bne_iff_ne];constructor
   ·rintro(⟨p,q⟩|⟨p,q⟩)
    ·exact⟨.inl p,q⟩
    ·exact⟨.inr p,q⟩
   ·rintro⟨p|p,q⟩
    ·exact .inl ⟨p,q⟩
    ·exact .inr ⟨p,q⟩
  have dins:∀i,i∈(s1.drop a).inside↔(s1.drop a).W i:=by
   intro i;rw[dW];show i∈delS a s1.inside↔_;rw[mem_delS,hins1];constructor
   ·rintro⟨_,p,q⟩;exact⟨q,p⟩
   ·rintro⟨q,p⟩;exact⟨h.w128 i ((eW i).1 q),p,q⟩
  have dn:(s1.drop a).nw+1≤s1.nw:=by
   unfold St.nw St.drop;have:=filter_ne_lt hmem;have:=filter_ne_len s1.come a;simp only;omega
  have d0:∀f,(s1.drop a).mis n f=s1.mis n f:=fun f=>rfl
  have dd:(s1.drop a).dn n=s1.dn n:=rfl;have dm:(s1.drop a).mea n+1≤s.mea n:=by rw[← mm];unfold St.mea;rw[d0,dd];omega
  refine⟨h.same_as e1 e2 e4 dins (fun i hi=>(eW i).1 ((dW i).1 hi).1) ?_,ha,by show s1.rep a=a;rw[e2];exact hra,dm,?_⟩
  ·rintro i (hi|hi)
   ·by_cases e:i=a
    ·exact .inr e
    ·exact .inl ((dW i).2 ⟨(eW i).2 hi,e⟩)
   ·exact hi.elim
  ·have:=Nat.mul_le_mul_left n dm;rw[Nat.mul_add,Nat.mul_one]at this;have e6:(s1.drop a).un=s1.un:=rfl;rw[← mp];unfold St.pt;rw[d0,dd,e6];rw[mm];omega
theorem Inv.solveL{fs:List (Int × Nat × Nat)}{n:Nat}{c:Way}{k:Nat}(hk:130≤k):∀(j:Nat) {s:St},Inv fs n c (fun _=>False) s→s.mea n<j→∃s',St.solveL k c j s=some s'∧Inv fs n c (fun _=>False) s'∧(∀i,¬s'.W i)∧s'.pt n≤s.pt n:=by
 intro j;induction j with
 |zero=>intro s _ hj;omega
 |succ j ih=>
  intro s h hj;rcases h.next c.order with⟨s',e,p1,p2,p3⟩|⟨a,s',e,p1,p2,p3,p4,p5⟩
  ·refine⟨s',?_,p1,p2,by omega⟩;rw[St.solveL,e]
  ·obtain⟨q1,q2,q3⟩:=p1.work p2 p3;obtain⟨s2,e2,r1,r2,r3⟩:=q1.look hk;obtain⟨s3,e3,t1,t2,t3⟩:=ih r1 (by omega);refine⟨s3,?_,t1,t2,by omega⟩;rw[St.solveL,e];simp only[];rw[e2];exact e3
theorem Inv.solved{fs:List (Int × Nat × Nat)}{n:Nat}{c:Way}{s:St}(h:Inv fs n c (fun _=>False) s)(hw:∀i,¬s.W i)(i x:Nat):x∈s.tg (s.rep i)↔PtN fs i x:=by
 constructor
 ·intro hx;exact(h.same i x).1 (h.tg _ _ hx)
 ·have done:∀i x,x∈s.tg (s.rep i)→(∀j,j∈s.hr (s.rep i)→x∈s.tg (s.rep j))∧(∀p,p∈s.ld (s.rep i)→s.Edge x p)∧(∀q,q∈s.sr (s.rep i)→s.Edge q x):=by
   intro i x hx;refine h.done _ x (h.repi i) hx ?_
   split
   ·rename_i hc;exact h.all _ (h.repi i) (fun hw'=>hw'.elim (hw _) id) hc x hx
   ·exact fun hw'=>hw'.elim (hw _) id
  have edge:∀t p x,s.Edge t p→x∈s.tg (s.rep t)→x∈s.tg (s.rep p):=by
   rintro t p x (e|⟨j,hj,e⟩) hx
   ·rw[← e];exact hx
   ·rw[← e];exact(done t x hx).1 j hj
  intro hx;induction hx using PtN.ind with
  |addr hf=>exact h.cA _ _ hf
  |copy hf _ ih=>exact(done _ _ ih).1 _ (h.cC _ _ hf)
  |load hf _ _ ih1 ih2=>exact edge _ _ _ ((done _ _ ih1).2.1 _ (h.cL _ _ hf)) ih2
  |store hf _ _ ih1 ih2=>exact edge _ _ _ ((done _ _ ih1).2.2 _ (h.cS _ _ hf)) ih2
end
section
theorem Inv.putTw{fs:List (Int × Nat × Nat)}{n:Nat}{c:Way}{E:Nat→Prop}{s:St}(h:Inv fs n c E s){i:Nat}(hi:i<n)(hri:s.rep i=i){T:List Nat}(hT:∀u,u∈T→u<n∧∀x,PtN fs i x→∀t,PtN fs x t↔PtN fs u t) :
  Inv fs n c E (s.put (7*i+5) T)∧(s.put (7*i+5) T).mea n=s.mea n∧(s.put (7*i+5) T).pt n=s.pt n:=by
 have e:∀k,(s.put (7*i+5) T).ss.getD k []=if k=7*i+5 then T else s.ss.getD k []:=fun k=>St.put_get (by rw[h.len];omega) k
 have m:∀f,f<5→(s.put (7*i+5) T).mis n f=s.mis n f:=by
  intro f hf;unfold St.mis;congr 1
  funext j
  have e1:(s.put (7*i+5) T).ss.getD (7*j+f) []=s.ss.getD (7*j+f) []:=by rw[e,if_neg (by omega)]
  rw[e1];rfl
 have m0:=m 0 (by omega);have m2:=m 2 (by omega);have md:(s.put (7*i+5) T).dn n=s.dn n:=rfl;have mn:(s.put (7*i+5) T).nw=s.nw:=rfl;have mu:(s.put (7*i+5) T).un=s.un:=rfl;have mm:(s.put (7*i+5) T).mea n=s.mea n:=by unfold St.mea;rw[m0,md,mn]
 refine⟨?_,mm,by unfold St.pt;rw[mm,m2,md,mu]⟩;generalize hs':s.put (7*i+5) T=s' at e;have hrep:s'.rep=s.rep:=by rw[← hs'];rfl
 have etg:∀j,s'.tg j=s.tg j:=fun j=>by unfold St.tg;rw[e,if_neg (by omega)]
 have ehd:∀j,s'.hd j=s.hd j:=fun j=>by unfold St.hd;rw[e,if_neg (by omega)]
 have ehr:∀j,s'.hr j=s.hr j:=fun j=>by unfold St.hr;rw[e,if_neg (by omega)]
 have eld:∀j,s'.ld j=s.ld j:=fun j=>by unfold St.ld;rw[e,if_neg (by omega)]
 have esr:∀j,s'.sr j=s.sr j:=fun j=>by unfold St.sr;rw[e,if_neg (by omega)]
 have hW:∀j,s'.W j↔s.W j:=by rw[← hs'];exact fun _=>Iff.rfl
 have edge:∀t p,s'.Edge t p↔s.Edge t p:=fun t p=>by unfold St.Edge;rw[hrep,ehr]
 refine⟨h.hn,h.fsb,(by rw[← hs',St.put_len];exact h.len),(by rw[hrep];exact h.repl),(by rw[hrep];exact h.repi),(by rw[hrep];exact h.same),?_,?_,(by intro j;rw[etg];exact h.tg j),(by intro j;rw[etg,ehd];exact h.hdt j),(by intro hc j;rw[ehd];exact h.hdn hc j),(by intro j;rw[ehr];exact h.hr j),(by intro j;rw[eld];exact h.ld j),(by intro j;rw[esr];exact h.sr j),?_,
  (by intro p q hf;rw[hrep,etg];exact h.cA p q hf),(by intro p q hf;rw[hrep,ehr];exact h.cC p q hf),(by intro p q hf;rw[hrep,eld];exact h.cL p q hf),(by intro p q hf;rw[hrep,esr];exact h.cS p q hf),(by rw[← hs'];exact h.ins),(by intro j hj;rw[hrep];exact h.wst j ((hW j).1 hj)),(by rw[← hs'];exact h.sus),?_,?_⟩
 ·intro k x hx;rw[e]at hx;split at hx
  ·exact(hT x hx).1
  ·exact h.bd _ _ hx
 ·intro j f hj hf;rw[hrep]at hj;have hne:j≠i:=fun e2=>hj (by rw[e2];exact hri)
  rw[e,if_neg (by omega)];exact h.gone j f hj hf
 ·intro j u hu x hx t;have hu:u∈s'.ss.getD (7*j+5) []:=hu;rw[e]at hu;split at hu
  ·rename_i e2;have:j=i:=by omega
   subst this;exact(hT u hu).2 x hx t
  ·exact h.tw j u hu x hx t
 ·intro j hj hx hc x hxt;rw[hrep]at hj;rw[etg]at hxt;rw[ehd];exact h.all j hj (fun hw=>hx (hw.imp (hW j).2 id)) hc x hxt
 ·intro j x hj hxt hcond;rw[hrep]at hj;rw[etg]at hxt;rw[ehd,hW]at hcond;obtain⟨k1,k2,k3⟩:=h.done j x hj hxt hcond;refine⟨?_,?_,?_⟩
  ·intro y hy;rw[ehr]at hy;rw[hrep,etg];exact k1 y hy
  ·intro p hp;rw[eld]at hp;exact(edge _ _).2 (k2 p hp)
  ·intro q hq;rw[esr]at hq;exact(edge _ _).2 (k3 q hq)
theorem Inv.twinsOf{fs:List (Int × Nat × Nat)}{n:Nat}{c:Way}{E:Nat→Prop}{s:St}(h:Inv fs n c E s){k i:Nat}(hk:130≤k):∃T,s.twinsOf k n i=some T∧∀u,u∈T→u<n∧∀x,PtN fs i x→∀t,PtN fs x t↔PtN fs u t:=by
 have hn:=h.hn;unfold St.twinsOf;simp only[];obtain⟨nx,hnx⟩:∃nx,nx=fun m=>if m == n then s.standing (s.ld i)else if(s.standing (s.sr i)).contains m then addS n (s.heirsOf m)else s.heirsOf m:=⟨_,rfl⟩
 rw[← hnx];have hstep:∀m y,y∈nx m→(m=n∧y∈s.standing (s.ld i))∨(m≠n∧y=n∧m∈s.standing (s.sr i))∨(m≠n∧y∈s.heirsOf m):=by
  intro m y hy;rw[hnx]at hy;simp only[beq_iff_eq,List.contains_iff_mem]at hy;split at hy
  ·exact .inl ⟨by assumption,hy⟩
  ·split at hy
   ·rcases(mem_addS.1 hy).2 with rfl|hy
    ·exact .inr (.inl ⟨by assumption,rfl,by assumption⟩)
    ·exact .inr (.inr ⟨by assumption,hy⟩)
   ·exact .inr (.inr ⟨by assumption,hy⟩)
 have hle:∀m y,y∈nx m→y≤n:=by
  intro m y hy;rcases hstep m y hy with⟨_,hy⟩|⟨_,rfl,_⟩|⟨_,hy⟩
  ·exact Nat.le_of_lt (h.standing_lt (k:=7*i+3) hy).1
  ·exact Nat.le_refl _
  ·exact Nat.le_of_lt (h.heirs_lt hy).1
 obtain⟨l,hl⟩:=around_ends (next:=nx) (fun m y hy=>by have:=hle m y hy;omega) hk n;rw[hl];refine⟨_,rfl,?_⟩;intro u hu;obtain⟨_,hun,hu⟩:=mem_delS.1 hu;have hule:=around_bd (P:=(·≤n)) hl (Nat.le_refl _) hle u hu;refine⟨by omega,fun x hx t=>?_⟩;have:=around_same (V:=fun m t=>if m=n then PtN fs x t else PtN fs m t) (next:=nx) (fun m y hy t ht=>?_) hl u hu t
 ·simp only[hun,if_false,if_true]at this;exact this.symm
 ·rcases hstep m y hy with⟨rfl,hy⟩|⟨hm,rfl,hy⟩|⟨hm,hy⟩
  ·simp only[if_true]at ht;have hyn:=(h.standing_lt (k:=7*i+3) hy).1;rw[if_neg (by omega)];obtain⟨_,p,hp,rfl⟩:=mem_standing.1 hy;exact(h.same p t).2 (h.ld i p hp x t hx ht)
  ·rw[if_neg hm]at ht;simp only[if_true];obtain⟨_,q,hq,rfl⟩:=mem_standing.1 hy;exact h.sr i q hq x t hx ((h.same q t).1 ht)
  ·rw[if_neg hm]at ht;obtain⟨q1,q2,q3⟩:=h.heirs_lt hy;rw[if_neg (by omega)];exact q3 t ht
theorem Inv.all_lt{fs:List (Int × Nat × Nat)}{n:Nat}{c:Way}{E:Nat→Prop}{s:St}(h:Inv fs n c E s){i:Nat}:i∈s.all n↔i<n∧s.rep i=i:=by
 have hn:=h.hn;unfold St.all;rw[mem_standing];constructor
 ·rintro⟨_,x,hx,rfl⟩;exact⟨h.rlt (by simpa using hx),h.repi x⟩
 ·rintro⟨h1,h2⟩;exact⟨by omega,i,by simpa using h1,h2⟩
theorem Inv.twinsL{fs:List (Int × Nat × Nat)}{n:Nat}{c:Way}{E:Nat→Prop}{k:Nat}(hk:130≤k):∀(l:List Nat) {s:St},Inv fs n c E s→(∀i,i∈l→i<n∧s.rep i=i)→∃s',St.foldO (fun s i=>(s.twinsOf k n i).map fun t=>s.put (7*i+5) t) s l=some s'∧Inv fs n c E s'∧s'.mea n=s.mea n∧s'.pt n=s.pt n:=by
 intro l;induction l with
 |nil=>exact fun h _=>⟨_,rfl,h,rfl,rfl⟩
 |cons a r ih=>
  intro s h hl;obtain⟨a1,a2⟩:=hl a List.mem_cons_self;obtain⟨T,e1,hT⟩:=h.twinsOf (i:=a) hk;obtain⟨p1,p2,p3⟩:=h.putTw a1 a2 hT;obtain⟨s2,e2,q1,q2,q3⟩:=ih p1 (fun b hb=>hl b (List.mem_cons_of_mem _ hb));refine⟨s2,?_,q1,by omega,by omega⟩;rw[foldO_cons,e1];exact e2
theorem Inv.findTwins{fs:List (Int × Nat × Nat)}{n:Nat}{c:Way}{E:Nat→Prop}{s:St}(h:Inv fs n c E s){k:Nat}(hk:130≤k):∃s',s.findTwins k n=some s'∧Inv fs n c E s'∧s'.mea n=s.mea n∧s'.pt n=s.pt n:=
 Inv.twinsL hk _ h (fun _ hi=>h.all_lt.1 hi)
def PV(fs:List (Int × Nat × Nat))(n:Nat)(s:St)(x t:Nat):Prop:=
 (x<n∧t=x)∨(∃p q y,((4:Int),p,q)∈fs∧PtN fs p y∧x=n+s.rep y∧PtN fs q t)∨(2*n≤x∧∃y,PtN fs (x-2*n) y∧PtN fs y t)
structure Ps(fs:List (Int × Nat × Nat))(n:Nat)(s:St)(ps:List (List Nat)):Prop where
 len:ps.length=n
 bd:∀i x,x∈ps.getD i []→x<3*n
 snd:∀i x t,x∈ps.getD i []→PV fs n s x t→PtN fs i t
def psM(n:Nat)(ps:List (List Nat)):Nat:=sumN n fun i=>3*n-cnt (3*n) (ps.getD i [])
theorem ps_set{ps:List (List Nat)}{i:Nat}{t:List Nat}(hi:i<ps.length)(j:Nat):(ps.set i t).getD j []=if j=i then t else ps.getD j []:=by
 simp only[List.getD_eq_getElem?_getD];by_cases h:j=i
 ·subst h;simp[hi]
 ·rw[List.getElem?_set_ne (Ne.symm h)];simp[h]
theorem Ps.grow{fs:List (Int × Nat × Nat)}{n:Nat}{s:St}{ps:List (List Nat)}(h:Ps fs n s ps){i:Nat}(hi:i<n){T:List Nat}(h1:∀x,x∈T→x<3*n)(h2:∀x t,x∈T→PV fs n s x t→PtN fs i t):Ps fs n s (ps.set i T):=by
 have e:=fun j=>ps_set (t:=T) (by rw[h.len];exact hi:i<ps.length) j
 refine⟨by rw[List.length_set];exact h.len,fun j x hx=>?_,fun j x t hx hv=>?_⟩
 ·rw[e]at hx;split at hx
  ·exact h1 x hx
  ·exact h.bd j x hx
 ·rw[e]at hx;split at hx
  ·rename_i e2;subst e2;exact h2 x t hx hv
  ·exact h.snd j x t hx hv
theorem psM_le{n:Nat}{ps ps':List (List Nat)}(h:∀i x,x∈ps.getD i []→x∈ps'.getD i []):psM n ps'≤psM n ps:=by
 refine sumN_le fun i _=>?_
 have:=cnt_mono (n:=3*n) (h i);omega
theorem psM_lt{n:Nat}{ps ps':List (List Nat)}(h:∀i x,x∈ps.getD i []→x∈ps'.getD i []){j x:Nat}(hj:j<n)(hx:x<3*n)(h1:x ∉ ps.getD j [])(h2:x∈ps'.getD j []):psM n ps'<psM n ps:=by
 refine sumN_lt (fun i _=>?_) hj ?_
 ·have:=cnt_mono (n:=3*n) (h i);omega
 ·have:=cnt_lt (n:=3*n) (h j) hx h1 h2;have:=acnt_le (3*n) (ps'.getD j []);omega
structure PStep(fs:List (Int × Nat × Nat))(n:Nat)(s:St)(ps:List (List Nat))(f:Bool)(ps':List (List Nat)):Prop where
 ok:Ps fs n s ps'
 up:∀i x,x∈ps.getD i []→x∈ps'.getD i []
 no:f=false→∀i x,x∈ps'.getD i []→x∈ps.getD i []
 m:psM n ps'+(if f then 1 else 0)≤psM n ps
theorem PStep.refl{fs:List (Int × Nat × Nat)}{n:Nat}{s:St}{ps:List (List Nat)}(h:Ps fs n s ps):PStep fs n s ps false ps:=⟨h,fun _ _ h=>h,fun _ _ _ h=>h,by simp⟩
theorem PStep.trans{fs:List (Int × Nat × Nat)}{n:Nat}{s:St}{a b c:List (List Nat)}{f g:Bool}(h:PStep fs n s a f b)(k:PStep fs n s b g c):PStep fs n s a (g || f) c:=by
 refine⟨k.ok,fun i x hx=>k.up i x (h.up i x hx),fun e i x hx=>?_,?_⟩
 ·rw[Bool.or_eq_false_iff]at e;exact h.no e.2 i x (k.no e.1 i x hx)
 ·have h1:=h.m;have h2:=k.m;cases f<;>cases g<;>simp at * <;> omega
theorem PStep.set{fs:List (Int × Nat × Nat)}{n:Nat}{s:St}{ps:List (List Nat)}(h:Ps fs n s ps){i:Nat}(hi:i<n){T:List Nat}(h1:∀x,x∈T→x<3*n)(h2:∀x t,x∈T→PV fs n s x t→PtN fs i t)(h3:∀x,x∈ps.getD i []→x∈T){f:Bool}(h4:f=false→∀x,x∈T→x∈ps.getD i [])(h5:f=true→∃x,x∈T∧x ∉ ps.getD i []):PStep fs n s ps f (ps.set i T):=by
 have e:=fun j=>ps_set (t:=T) (by rw[h.len];exact hi:i<ps.length) j
 have up:∀j x,x∈ps.getD j []→x∈(ps.set i T).getD j []:=by
  intro j x hx;rw[e];split
  ·rename_i e2;subst e2;exact h3 x hx
  ·exact hx
 refine⟨h.grow hi h1 h2,up,fun hf j x hx=>?_,?_⟩
 ·rw[e]at hx;split at hx
  ·rename_i e2;subst e2;exact h4 hf x hx
  ·exact hx
 ·cases hf:f
  ·have:=psM_le (n:=n) up;simp;omega
  ·obtain⟨x,hx,hx'⟩:=h5 hf;have:=psM_lt (n:=n) up hi (h1 x hx) hx' (by rw[e,if_pos rfl];exact hx);simp;omega
end
section
variable {fs:List (Int × Nat × Nat)} {n:Nat} {c:Way} {E:Nat→Prop} {s:St}
theorem mem_add_self{ps:List (List Nat)}{i x:Nat}(hx:x<128)(hi:i<ps.length):x∈(St.partAdd ps i x).getD i []:=by
 unfold St.partAdd;rw[ps_set hi,if_pos rfl];exact mem_addS.2 ⟨hx,.inl rfl⟩
theorem PStep.add{ps:List (List Nat)}(h:Ps fs n s ps)(hn:n≤40){i x:Nat}(hi:i<n)(hx:x<3*n)(hv:∀t,PV fs n s x t→PtN fs i t):PStep fs n s ps (!(ps.getD i []).contains x) (St.partAdd ps i x):=by
 refine PStep.set h hi ?_ ?_ ?_ ?_ ?_
 ·intro y hy;rcases(mem_addS.1 hy).2 with rfl|hy
  ·exact hx
  ·exact h.bd _ _ hy
 ·intro y t hy hpv;rcases(mem_addS.1 hy).2 with rfl|hy
  ·exact hv t hpv
  ·exact h.snd _ _ _ hy hpv
 ·intro y hy;have:=h.bd _ _ hy;exact mem_addS.2 ⟨by omega,.inr hy⟩
 ·intro hf y hy;simp only[Bool.not_eq_false',List.contains_iff_mem]at hf;rcases(mem_addS.1 hy).2 with rfl|hy
  ·exact hf
  ·exact hy
 ·intro hf;simp only[Bool.not_eq_true',List.contains_eq_mem,decide_eq_false_iff_not]at hf;exact⟨x,mem_addS.2 ⟨by omega,.inl rfl⟩,hf⟩
theorem PStep.uni{ps:List (List Nat)}(h:Ps fs n s ps)(hn:n≤40){i j:Nat}(hi:i<n)(hS:∀t,PtN fs j t→PtN fs i t):PStep fs n s ps (newS (ps.getD i []) (ps.getD j [])) (ps.set i (uniS (ps.getD i []) (ps.getD j []))):=by
 refine PStep.set h hi ?_ ?_ ?_ ?_ ?_
 ·intro y hy;rcases(mem_uniS.1 hy).2 with hy|hy<;>exact h.bd _ _ hy
 ·intro y t hy hpv;rcases(mem_uniS.1 hy).2 with hy|hy
  ·exact h.snd _ _ _ hy hpv
  ·exact hS t (h.snd _ _ _ hy hpv)
 ·intro y hy;have:=h.bd _ _ hy;exact mem_uniS.2 ⟨by omega,.inl hy⟩
 ·intro hf y hy;rcases(mem_uniS.1 hy).2 with hy|hy
  ·exact hy
  ·exact newS_false.1 hf y hy
 ·intro hf;obtain⟨x,hx,hx'⟩:=newS_iff.1 hf;have:=h.bd _ _ hx;exact⟨x,mem_uniS.2 ⟨by omega,.inr hx⟩,hx'⟩
theorem Inv.parts0(h:Inv fs n c E s):Ps fs n s (s.parts0 n)∧∀i x,i<n→x∈s.tg i→x∈(s.parts0 n).getD i []∧n+s.rep x∈(s.parts0 n).getD (s.rep x) []:=by
 have hn:=h.hn;have inner:∀(i:Nat),i<n→∀(l:List Nat),(∀x,x∈l→x∈s.tg i)→∀(ps:List (List Nat)),Ps fs n s ps →
   let ps':=l.foldl (fun ps t=>St.partAdd (St.partAdd ps i t) (s.rep t) (n+s.rep t)) ps
   Ps fs n s ps'∧(∀j x,x∈ps.getD j []→x∈ps'.getD j [])∧∀x,x∈l→x∈ps'.getD i []∧n+s.rep x∈ps'.getD (s.rep x) []:=by
  intro i hi l;induction l with
  |nil=>exact fun _ ps hp=>⟨hp,fun _ _ hx=>hx,fun x hx=>by cases hx⟩
  |cons a r ih=>
   intro hl ps hp;have hat:=hl a List.mem_cons_self;have han:=h.bd _ _ hat;have hra:=h.rlt han;have s1:=PStep.add hp hn hi (x:=a) (by omega) (fun t hv=>by
    rcases hv with⟨_,rfl⟩|⟨p,q,y,_,_,e,_⟩|⟨e,_⟩
    ·exact h.tg _ _ hat
    ·omega
    ·omega)
   have s2:=PStep.add s1.ok hn hra (x:=n+s.rep a) (by omega) (fun t hv=>by
    rcases hv with⟨e,_⟩|⟨p,q,y,hf,hy,e,ht⟩|⟨e,_⟩
    ·omega
    ·have e2:s.rep y=s.rep a:=by omega
     rw[← e2];exact(h.same y t).2 (PtN.store hf hy ht)
    ·omega)
   obtain⟨p1,p2,p3⟩:=ih (fun x hx=>hl x (List.mem_cons_of_mem _ hx)) _ s2.ok;refine⟨p1,fun j x hx=>p2 j x (s2.up j x (s1.up j x hx)),fun x hx=>?_⟩;rcases List.mem_cons.1 hx with rfl|hx
   ·exact⟨p2 _ _ (s2.up _ _ (mem_add_self (by omega) (by rw[hp.len];exact hi))),p2 _ _ (mem_add_self (by omega) (by rw[s1.ok.len];exact hra))⟩
   ·exact p3 x hx
 have outer:∀m,m≤n →
   let ps':=(List.range m).foldl (fun ps i=>(s.tg i).foldl (fun ps t=>St.partAdd (St.partAdd ps i t) (s.rep t) (n+s.rep t)) ps) (List.replicate n [])
   Ps fs n s ps'∧∀i x,i<m→x∈s.tg i→x∈ps'.getD i []∧n+s.rep x∈ps'.getD (s.rep x) []:=by
  intro m;induction m with
  |zero=>
   intro _;refine⟨⟨by simp,?_,?_⟩,fun i x hi=>by omega⟩
   ·intro i x hx;simp only[List.range_zero,List.foldl_nil,List.getD_eq_getElem?_getD,List.getElem?_replicate]at hx;split at hx<;>simp at hx
   ·intro i x t hx;simp only[List.range_zero,List.foldl_nil,List.getD_eq_getElem?_getD,List.getElem?_replicate]at hx;split at hx<;>simp at hx
  |succ m ih=>
   intro hm;obtain⟨p1,p2⟩:=ih (by omega);rw[List.range_succ,List.foldl_append];simp only[List.foldl_cons,List.foldl_nil];obtain⟨q1,q2,q3⟩:=inner m (by omega) (s.tg m) (fun _ hx=>hx) _ p1;refine⟨q1,fun i x hi hx=>?_⟩;by_cases e:i=m
   ·subst e;exact q3 x hx
   ·obtain⟨r1,r2⟩:=p2 i x (by omega) hx;exact⟨q2 _ _ r1,q2 _ _ r2⟩
 obtain⟨p1,p2⟩:=outer n (Nat.le_refl _);exact⟨p1,p2⟩
def Shut(n:Nat)(s:St)(ps:List (List Nat))(i:Nat):Prop:=ps.getD i []≠[]→(∀h,h∈s.heirsOf i→∀x,x∈ps.getD i []→x∈ps.getD h [])∧(∀p,p∈s.standing (s.ld i)→2*n+i∈ps.getD p [])
theorem Shut.of{ps ps':List (List Nat)}{i:Nat}(h:Shut n s ps' i)(h1:∀j x,x∈ps.getD j []↔x∈ps'.getD j []):Shut n s ps i:=by
 intro hne;have hne':ps'.getD i []≠[]:=by
  obtain⟨x,hx⟩:=List.exists_mem_of_ne_nil _ hne;exact List.ne_nil_of_mem ((h1 i x).1 hx)
 obtain⟨k1,k2⟩:=h hne';exact⟨fun j hj x hx=>(h1 j x).2 (k1 j hj x ((h1 i x).1 hx)),fun p hp=>(h1 p _).2 (k2 p hp)⟩
theorem Inv.handParts(h:Inv fs n c E s){ps:List (List Nat)}(hp:Ps fs n s ps){i:Nat}(hi:i<n) :
  PStep fs n s ps (s.handParts ps i (2*n+i)).1 (s.handParts ps i (2*n+i)).2∧((s.handParts ps i (2*n+i)).1=false→Shut n s ps i):=by
 have hn:=h.hn;unfold St.handParts;by_cases he:(ps.getD i []).isEmpty=true
 ·rw[if_pos he];refine⟨PStep.refl hp,fun _ hne=>absurd (by simpa using he) hne⟩
 ·rw[if_neg he];simp only[];have k1:∀(l:List Nat),(∀j,j∈l→j<n∧∀t,PtN fs i t→PtN fs j t)→∀(x:Bool × List (List Nat)),PStep fs n s ps x.1 x.2 →
    let z:=l.foldl (fun x h=>(newS (x.2.getD h []) (x.2.getD i []) || x.1,x.2.set h (uniS (x.2.getD h []) (x.2.getD i [])))) x
    PStep fs n s ps z.1 z.2∧(z.1=false→x.1=false∧∀j,j∈l→∀y,y∈ps.getD i []→y∈ps.getD j []):=by
   intro l;induction l with
   |nil=>exact fun _ x hx=>⟨hx,fun e=>⟨e,fun j hj=>by cases hj⟩⟩
   |cons a r ih=>
    intro hl x hx;obtain⟨a1,a2⟩:=hl a List.mem_cons_self;obtain⟨p1,p2⟩:=ih (fun j hj=>hl j (List.mem_cons_of_mem _ hj)) (newS (x.2.getD a []) (x.2.getD i []) || x.1,x.2.set a (uniS (x.2.getD a []) (x.2.getD i []))) (hx.trans (PStep.uni hx.ok hn a1 a2));refine⟨p1,fun e=>?_⟩;obtain⟨q1,q2⟩:=p2 e;simp only[Bool.or_eq_false_iff]at q1;refine⟨q1.2,fun j hj y hy=>?_⟩;rcases List.mem_cons.1 hj with rfl|hj
    ·exact hx.no q1.2 _ _ (newS_false.1 q1.1 y (hx.up _ _ hy))
    ·exact q2 j hj y hy
  obtain⟨p1,p2⟩:=k1 (s.heirsOf i) (fun j hj=>by obtain⟨q1,_,q3⟩:=h.heirs_lt hj;exact⟨q1,q3⟩) (false,ps) (PStep.refl hp);generalize (s.heirsOf i).foldl (fun x h=>(newS (x.2.getD h []) (x.2.getD i []) || x.1,x.2.set h (uniS (x.2.getD h []) (x.2.getD i [])))) (false,ps)=z at *;have k2:∀(l:List Nat),(∀p,p∈l→p<n∧∀x t,PtN fs i x→PtN fs x t→PtN fs p t)→∀(x:Bool × List (List Nat)),PStep fs n s ps x.1 x.2 →
    let y:=l.foldl (fun x p=>((!(x.2.getD p []).contains (2*n+i)) || x.1,St.partAdd x.2 p (2*n+i))) x
    PStep fs n s ps y.1 y.2∧(y.1=false→x.1=false∧∀p,p∈l→2*n+i∈ps.getD p []):=by
   intro l;induction l with
   |nil=>exact fun _ x hx=>⟨hx,fun e=>⟨e,fun j hj=>by cases hj⟩⟩
   |cons a r ih=>
    intro hl x hx;obtain⟨a1,a2⟩:=hl a List.mem_cons_self;have hadd:=PStep.add hx.ok hn a1 (x:=2*n+i) (by omega) (fun t hv=>by
     rcases hv with⟨e,_⟩|⟨p,q,y,hf,hy,e,ht⟩|⟨_,y,hy,ht⟩
     ·omega
     ·have hyt:=PtN.taken hy;obtain⟨p',hp'⟩:=hyt;have:=h.rlt (h.fsb _ _ _ hp').2;omega
     ·rw[Nat.add_sub_cancel_left]at hy;exact a2 y t hy ht)
    obtain⟨p1,p2⟩:=ih (fun j hj=>hl j (List.mem_cons_of_mem _ hj)) ((!(x.2.getD a []).contains (2*n+i)) || x.1,St.partAdd x.2 a (2*n+i)) (hx.trans hadd);refine⟨p1,fun e=>?_⟩;obtain⟨q1,q2⟩:=p2 e;simp only[Bool.or_eq_false_iff]at q1;refine⟨q1.2,fun p hp=>?_⟩;rcases List.mem_cons.1 hp with rfl|hp
    ·exact hx.no q1.2 _ _ (by simpa using q1.1)
    ·exact q2 p hp
  obtain⟨r1,r2⟩:=k2 (s.standing (s.ld i)) (fun p hp=>by
   obtain⟨_,x,hx,rfl⟩:=mem_standing.1 hp;exact⟨h.rlt (h.bd _ _ hx),fun y t hy ht=>(h.same x t).2 (h.ld i x hx y t hy ht)⟩) z p1
  refine⟨r1,fun e _=>?_⟩;obtain⟨u1,u2⟩:=r2 e;exact⟨(p2 u1).2,u2⟩
theorem Inv.partsRound(h:Inv fs n c E s):∀(l:List Nat),(∀i,i∈l→i<n)→∀(ps:List (List Nat)),Ps fs n s ps→PStep fs n s ps (s.partsRound n l ps).1 (s.partsRound n l ps).2∧((s.partsRound n l ps).1=false→∀i,i∈l→Shut n s ps i):=by
 intro l hl ps hp;have key:∀(l:List Nat),(∀i,i∈l→i<n)→∀(x:Bool × List (List Nat)),PStep fs n s ps x.1 x.2 →
   let z:=l.foldl (fun x i=>let y:=s.handParts x.2 i (2*n+i);(y.1 || x.1,y.2)) x
   PStep fs n s ps z.1 z.2∧(z.1=false→x.1=false∧∀i,i∈l→Shut n s ps i):=by
  intro l;induction l with
  |nil=>exact fun _ x hx=>⟨hx,fun e=>⟨e,fun j hj=>by cases hj⟩⟩
  |cons a r ih=>
   intro hl x hx;obtain⟨s1,s2⟩:=h.handParts hx.ok (hl a List.mem_cons_self);obtain⟨p1,p2⟩:=ih (fun j hj=>hl j (List.mem_cons_of_mem _ hj)) ((s.handParts x.2 a (2*n+a)).1 || x.1,(s.handParts x.2 a (2*n+a)).2) (hx.trans s1);refine⟨p1,fun e=>?_⟩;obtain⟨q1,q2⟩:=p2 e;simp only[Bool.or_eq_false_iff]at q1;refine⟨q1.2,fun i hi=>?_⟩;rcases List.mem_cons.1 hi with rfl|hi
   ·exact(s2 q1.1).of (fun j y=>⟨hx.up j y,hx.no q1.2 j y⟩)
   ·exact q2 i hi
 obtain⟨p1,p2⟩:=key l hl (false,ps) (PStep.refl hp);exact⟨p1,fun e=>(p2 e).2⟩
theorem Inv.partsLoop(h:Inv fs n c E s){l:List Nat}(hl:∀i,i∈l→i<n):∀(k:Nat) (ps:List (List Nat)),Ps fs n s ps→psM n ps<k→∃ps',s.partsLoop n l k ps=some ps'∧Ps fs n s ps'∧(∀i x,x∈ps.getD i []→x∈ps'.getD i [])∧∀i,i∈l→Shut n s ps' i:=by
 intro k;induction k with
 |zero=>intro ps _ hk;omega
 |succ k ih=>
  intro ps hp hk;obtain⟨p1,p2⟩:=h.partsRound l hl ps hp;rw[St.partsLoop];cases hf:(s.partsRound n l ps).1
  ·simp only[Bool.false_eq_true,if_false];refine⟨_,rfl,p1.ok,p1.up,fun i hi=>(p2 hf i hi).of (fun j x=>⟨p1.no hf j x,p1.up j x⟩)⟩
  ·simp only[if_true];have hm:=p1.m;rw[hf]at hm;simp only[if_true]at hm;obtain⟨ps',e,q1,q2,q3⟩:=ih _ p1.ok (by omega);exact⟨ps',e,q1,fun i x hx=>q2 i x (p1.up i x hx),q3⟩
theorem psM_bound(n:Nat)(ps:List (List Nat)):psM n ps≤n*(3*n):=sumN_bound (fun _ _=>Nat.sub_le _ _)
theorem Inv.partsOf(h:Inv fs n c E s){k:Nat}(hk:5000≤k):∃ps,s.partsOf k n=some ps∧∀a b,a<n→b<n→s.rep a=a→s.rep b=b→ps.getD a []=ps.getD b []→∀t,PtN fs a t↔PtN fs b t:=by
 have hn:=h.hn;obtain⟨p1,p2⟩:=h.parts0;have hb:=psM_bound n (s.parts0 n);have hb2:n*(3*n)≤40*(3*40):=Nat.mul_le_mul hn (Nat.mul_le_mul (Nat.le_refl _) hn);obtain⟨ps,e,q1,q2,q3⟩:=h.partsLoop (l:=s.all n) (fun i hi=>(h.all_lt.1 hi).1) k (s.parts0 n) p1 (by omega);refine⟨ps,e,?_⟩;have full:∀p t,PtN fs p t→∃x,x∈ps.getD (s.rep p) []∧PV fs n s x t:=by
  have hn':∀p t,PtN fs p t→p<n∧t<n:=by
   intro p t ht;refine⟨?_,?_⟩
   ·have hx:∀p t,PtN fs p t→p<n:=by
     intro p t ht;induction ht using PtN.ind with
     |addr hf=>exact(h.fsb _ _ _ hf).1
     |copy hf=>exact(h.fsb _ _ _ hf).1
     |load hf=>exact(h.fsb _ _ _ hf).1
     |store _ hv=>
      obtain⟨p',hp'⟩:=hv.taken;exact(h.fsb _ _ _ hp').2
    exact hx p t ht
   ·obtain⟨p',hp'⟩:=ht.taken;exact(h.fsb _ _ _ hp').2
  have shut:∀p,p<n→Shut n s ps (s.rep p):=fun p hp=>q3 _ (h.all_lt.2 ⟨h.rlt hp,h.repi p⟩)
  intro p t ht;induction ht using PtN.ind with
  | @addr p q hf=>
   have:=h.fsb _ _ _ hf;exact⟨q,q2 _ _ (p2 _ _ (h.rlt this.1) (h.cA _ _ hf)).1,.inl ⟨this.2,rfl⟩⟩
  | @copy p q x hf hq ih=>
   obtain⟨y,hy,hv⟩:=ih;have hb:=h.fsb _ _ _ hf;by_cases e2:s.rep p=s.rep q
   ·rw[e2];exact⟨y,hy,hv⟩
   ·have:=h.rlt hb.1;exact⟨y,((shut q hb.2) (List.ne_nil_of_mem hy)).1 (s.rep p) (mem_heirsOf.2 ⟨by omega,e2,p,h.cC _ _ hf,rfl⟩) y hy,hv⟩
  | @load p q v x hf hq hv ih1 ih2=>
   obtain⟨y,hy,_⟩:=ih1;have hb:=h.fsb _ _ _ hf;have:=h.rlt hb.1;refine⟨2*n+s.rep q,((shut q hb.2) (List.ne_nil_of_mem hy)).2 (s.rep p) (mem_standing.2 ⟨by omega,p,h.cL _ _ hf,rfl⟩),.inr (.inr ⟨by omega,v,?_,hv⟩)⟩;rw[Nat.add_sub_cancel_left];exact(h.same q v).2 hq
  | @store p q v x hf hp hq ih1 ih2=>
   obtain⟨p',hp'⟩:=hp.taken;have:=h.rlt (h.fsb _ _ _ hp').1;exact⟨n+s.rep v,q2 _ _ (p2 _ _ this (h.cA _ _ hp')).2,.inr (.inl ⟨p,q,v,hf,hp,rfl,hq⟩)⟩
 intro a b ha hb ra rb e2 t;constructor
 ·intro ht;obtain⟨x,hx,hv⟩:=full a t ht;rw[ra,e2]at hx;exact q1.snd b x t hx hv
 ·intro ht;obtain⟨x,hx,hv⟩:=full b t ht;rw[rb,← e2]at hx;exact q1.snd a x t hx hv
end
section
variable {fs:List (Int × Nat × Nat)} {n:Nat} {c:Way} {E:Nat→Prop}
theorem Inv.mergeSame{s:St}(h:Inv fs n c E s){ps:List (List Nat)}(hp:∀a b,a<n→b<n→s.rep a=a→s.rep b=b→ps.getD a []=ps.getD b []→∀t,PtN fs a t↔PtN fs b t) :
  Inv fs n c E (s.mergeSame n ps).2∧((s.mergeSame n ps).1=false→(s.mergeSame n ps).2=s)∧(s.mergeSame n ps).2.mea n+(if(s.mergeSame n ps).1 then 1 else 0)≤s.mea n∧(s.mergeSame n ps).2.pt n≤s.pt n:=by
 have hall:∀i,i∈s.all n→i<n∧s.rep i=i:=fun i hi=>h.all_lt.1 hi
 have inner:∀(a:Nat),a∈s.all n→∀(l:List Nat),(∀b,b∈l→b∈s.all n)→∀(x:Bool × St),Inv fs n c E x.2→(x.1=false→x.2=s)→x.2.mea n+(if x.1 then 1 else 0)≤s.mea n→x.2.pt n≤s.pt n →
   let z:=l.foldl (fun x b=>if a<b && ps.getD a [] == ps.getD b []then let y:=x.2.merge a b;(y.1 || x.1,y.2)else x) x
   Inv fs n c E z.2∧(z.1=false→z.2=s)∧z.2.mea n+(if z.1 then 1 else 0)≤s.mea n∧z.2.pt n≤s.pt n:=by
  intro a ha l;induction l with
  |nil=>exact fun _ x h1 h2 h3 h4=>⟨h1,h2,h3,h4⟩
  |cons b r ih=>
   intro hl x h1 h2 h3 h4;rw[List.foldl_cons];by_cases hc:(decide (a<b) && ps.getD a [] == ps.getD b [])=true
   ·rw[if_pos hc];simp only[Bool.and_eq_true,beq_iff_eq]at hc;have ha':=hall a ha;have hb':=hall b (hl b List.mem_cons_self);obtain⟨q1,q2,q3⟩:=h1.merge ha'.1 hb'.1 (hp a b ha'.1 hb'.1 ha'.2 hb'.2 hc.2);refine ih (fun b hb=>hl b (List.mem_cons_of_mem _ hb)) _ q1 ?_ ?_ ?_
    ·intro e;have e:((x.2.merge a b).1 || x.1)=false:=e;rw[Bool.or_eq_false_iff]at e;show(x.2.merge a b).2=s;rw[q2 e.1];exact h2 e.2
    ·show(x.2.merge a b).2.mea n+(if((x.2.merge a b).1 || x.1)=true then 1 else 0)≤_;cases hm:(x.2.merge a b).1
     ·rw[q2 hm];simpa using h3
     ·have:=(q3 hm).1;simp;split at h3<;>omega
    ·show(x.2.merge a b).2.pt n≤_;cases hm:(x.2.merge a b).1
     ·rw[q2 hm];exact h4
     ·have:=(q3 hm).2;omega
   ·rw[if_neg hc];exact ih (fun b hb=>hl b (List.mem_cons_of_mem _ hb)) x h1 h2 h3 h4
 have outer:∀(l:List Nat),(∀b,b∈l→b∈s.all n)→∀(x:Bool × St),Inv fs n c E x.2→(x.1=false→x.2=s)→x.2.mea n+(if x.1 then 1 else 0)≤s.mea n→x.2.pt n≤s.pt n →
   let z:=l.foldl (fun x a=>(s.all n).foldl (fun x b=>if a<b && ps.getD a [] == ps.getD b []then let y:=x.2.merge a b;(y.1 || x.1,y.2)else x) x) x
   Inv fs n c E z.2∧(z.1=false→z.2=s)∧z.2.mea n+(if z.1 then 1 else 0)≤s.mea n∧z.2.pt n≤s.pt n:=by
  intro l;induction l with
  |nil=>exact fun _ x h1 h2 h3 h4=>⟨h1,h2,h3,h4⟩
  |cons a r ih=>
   intro hl x h1 h2 h3 h4;rw[List.foldl_cons];obtain⟨p1,p2,p3,p4⟩:=inner a (hl a List.mem_cons_self) (s.all n) (fun _ hb=>hb) x h1 h2 h3 h4;exact ih (fun b hb=>hl b (List.mem_cons_of_mem _ hb)) _ p1 p2 p3 p4
 exact outer (s.all n) (fun _ hb=>hb) (false,s) h (fun _=>rfl) (by simp) (Nat.le_refl _)
theorem Inv.substitute{k:Nat}(hk:5000≤k):∀(j:Nat) {s:St},Inv fs n c E s→s.mea n<j→∃s',St.substitute k n j s=some s'∧Inv fs n c E s'∧s'.mea n≤s.mea n∧s'.pt n≤s.pt n:=by
 intro j;induction j with
 |zero=>intro s _ hj;omega
 |succ j ih=>
  intro s h hj;obtain⟨ps,e,hp⟩:=h.partsOf hk;obtain⟨q1,q2,q3,q4⟩:=h.mergeSame hp;rw[St.substitute,e];simp only[Option.bind_some];cases hf:(s.mergeSame n ps).1
  ·simp only[Bool.false_eq_true,if_false];rw[hf]at q3;exact⟨_,rfl,q1,by simpa using q3,q4⟩
  ·simp only[if_true];rw[hf]at q3;simp only[if_true]at q3;obtain⟨s',e',r1,r2,r3⟩:=ih q1 (by omega);exact⟨s',e',r1,by omega,by omega⟩
theorem Inv.lookAhead{k:Nat}(hk:5000≤k){s:St}(h:Inv fs n c E s)(hm:s.mea n<k):∃s',s.lookAhead k c n=some s'∧Inv fs n c E s'∧s'.mea n≤s.mea n∧s'.pt n≤s.pt n:=by
 unfold St.lookAhead;have h1:∃s1,(if c.subst then St.substitute k n k s else some s)=some s1∧Inv fs n c E s1∧s1.mea n≤s.mea n∧s1.pt n≤s.pt n:=by
  cases c.subst
  ·exact⟨s,rfl,h,Nat.le_refl _,Nat.le_refl _⟩
  ·exact Inv.substitute hk k h hm
 obtain⟨s1,e1,p1,p2,p3⟩:=h1;rw[e1];simp only[Option.bind_some];cases c.collapse
 ·exact⟨s1,rfl,p1,p2,p3⟩
 ·obtain⟨s2,e2,q1,q2,q3⟩:=p1.findTwins (k:=k) (by omega);exact⟨s2,e2,q1,by omega,by omega⟩
def st0(n:Nat):St:={ ss:=List.replicate (7*n) [],rep:=id,inside:=[],now:=[],come:=[],susp:=[],un:=0 }
structure Laid(n:Nat)(l:List (Int × Nat × Nat))(s:St):Prop where
 len:s.ss.length=7*n
 tg:∀i x,x∈s.tg i↔((1:Int),i,x)∈l
 hr:∀i x,x∈s.hr i↔((2:Int),x,i)∈l
 ld:∀i x,x∈s.ld i↔((3:Int),x,i)∈l
 sr:∀i x,x∈s.sr i↔((4:Int),i,x)∈l
 hd:∀i,s.hd i=[]
 tw:∀i,s.tw i=[]
 tr:∀i,s.tr i=[]
 rep:s.rep=id
 ins:s.inside=[]
 now:s.now=[]
 come:s.come=[]
 susp:s.susp=[]
 un:s.un=0
theorem add_get{s:St}{n j x0:Nat}(hl:s.ss.length=7*n)(hj:j<7*n)(hx0:x0<128)(hb:∀m x,x∈s.ss.getD m []→x<128):(s.addAt j x0).ss.length=7*n∧(∀m x,x∈(s.addAt j x0).ss.getD m []↔x∈s.ss.getD m []∨(m=j∧x=x0))∧(∀m,m≠j→(s.addAt j x0).ss.getD m []=s.ss.getD m []):=by
 refine⟨by simp[St.addAt];exact hl,fun m x=>?_,fun m hm=>?_⟩
 ·unfold St.addAt;rw[St.put_get (by omega)];split
  ·rename_i e;subst e;rw[mem_addS];constructor
   ·rintro⟨a,rfl|b⟩
    ·exact .inr ⟨rfl,rfl⟩
    ·exact .inl b
   ·rintro(a|⟨_,rfl⟩)
    ·exact⟨hb _ _ a,.inr a⟩
    ·exact⟨hx0,.inl rfl⟩
  ·rename_i e;constructor
   ·exact .inl
   ·rintro(a|⟨a,_⟩)
    ·exact a
    ·exact absurd a e
 ·unfold St.addAt;rw[St.put_get (by omega),if_neg hm]
theorem Laid.bd{n:Nat}{l:List (Int × Nat × Nat)}{s:St}(h:Laid n l s)(hf:∀k p q,(k,p,q)∈l→p<n∧q<n):∀m x,x∈s.ss.getD m []→x<n:=by
 intro m x hx;have hm:m=7*(m / 7)+m % 7:=(Nat.div_add_mod m 7).symm;have hlt:m % 7<7:=Nat.mod_lt _ (by omega);generalize m / 7=i at hm;generalize m % 7=f at hm hlt;subst hm;rcases(show f=0∨f=1∨f=2∨f=3∨f=4∨f=5∨f=6 by omega)with rfl|rfl|rfl|rfl|rfl|rfl|rfl
 ·exact(hf _ _ _ ((h.tg i x).1 hx)).2
 ·have:=h.hd i;unfold St.hd at this;rw[this]at hx;cases hx
 ·exact(hf _ _ _ ((h.hr i x).1 hx)).1
 ·exact(hf _ _ _ ((h.ld i x).1 hx)).1
 ·exact(hf _ _ _ ((h.sr i x).1 hx)).2
 ·have:=h.tw i;unfold St.tw at this;rw[this]at hx;cases hx
 ·have:=h.tr i;unfold St.tr at this;rw[this]at hx;cases hx
theorem mem_snoc3{l:List (Int × Nat × Nat)}{k k':Int}{p q p' q':Nat}:(k',p',q')∈l++[(k,p,q)]↔(k',p',q')∈l∨(k'=k∧p'=p∧q'=q):=by simp
theorem Laid.lay{n:Nat}{l:List (Int × Nat × Nat)}{s:St}(h:Laid n l s)(hn:n≤40)(hf:∀k p q,(k,p,q)∈l→p<n∧q<n){k:Int}{p q:Nat}(hp:p<n)(hq:q<n)(hk:1≤k∧k≤4):Laid n (l++[(k,p,q)]) (s.lay k p q):=by
 have hb:∀m x,x∈s.ss.getD m []→x<128:=fun m x hx=>by have:=h.bd hf m x hx;omega
 unfold St.lay;rcases(show k=1∨k=2∨k=3∨k=4 by omega)with rfl|rfl|rfl|rfl
 ·obtain⟨a1,a2,a3⟩:=add_get (x0:=q) h.len (show 7*p<7*n by omega) (by omega) hb;rw[if_pos rfl];refine⟨a1,?_,?_,?_,?_,?_,?_,?_,h.rep,h.ins,h.now,h.come,h.susp,h.un⟩
  ·intro i x;rw[mem_snoc3,← h.tg];refine(a2 (7*i) x).trans (or_congr Iff.rfl ?_);constructor
   ·rintro⟨e,rfl⟩;exact⟨rfl,by omega,rfl⟩
   ·rintro⟨_,rfl,rfl⟩;exact⟨rfl,rfl⟩
  ·intro i x;rw[mem_snoc3,← h.hr];unfold St.hr;rw[a3 _ (by omega)];simp
  ·intro i x;rw[mem_snoc3,← h.ld];unfold St.ld;rw[a3 _ (by omega)];simp
  ·intro i x;rw[mem_snoc3,← h.sr];unfold St.sr;rw[a3 _ (by omega)];simp
  ·intro i;exact(a3 _ (by omega)).trans (h.hd i)
  ·intro i;exact(a3 _ (by omega)).trans (h.tw i)
  ·intro i;exact(a3 _ (by omega)).trans (h.tr i)
 ·obtain⟨a1,a2,a3⟩:=add_get (x0:=p) h.len (show 7*q+2<7*n by omega) (by omega) hb;rw[if_neg (by omega),if_pos rfl];refine⟨a1,?_,?_,?_,?_,?_,?_,?_,h.rep,h.ins,h.now,h.come,h.susp,h.un⟩
  ·intro i x;rw[mem_snoc3,← h.tg];unfold St.tg;rw[a3 _ (by omega)];simp
  ·intro i x;rw[mem_snoc3,← h.hr];refine(a2 (7*i+2) x).trans (or_congr Iff.rfl ?_);constructor
   ·rintro⟨e,rfl⟩;exact⟨rfl,rfl,by omega⟩
   ·rintro⟨_,rfl,rfl⟩;exact⟨rfl,rfl⟩
  ·intro i x;rw[mem_snoc3,← h.ld];unfold St.ld;rw[a3 _ (by omega)];simp
  ·intro i x;rw[mem_snoc3,← h.sr];unfold St.sr;rw[a3 _ (by omega)];simp
  ·intro i;exact(a3 _ (by omega)).trans (h.hd i)
  ·intro i;exact(a3 _ (by omega)).trans (h.tw i)
  ·intro i;exact(a3 _ (by omega)).trans (h.tr i)
 ·obtain⟨a1,a2,a3⟩:=add_get (x0:=p) h.len (show 7*q+3<7*n by omega) (by omega) hb;rw[if_neg (by omega),if_neg (by omega),if_pos rfl];refine⟨a1,?_,?_,?_,?_,?_,?_,?_,h.rep,h.ins,h.now,h.come,h.susp,h.un⟩
  ·intro i x;rw[mem_snoc3,← h.tg];unfold St.tg;rw[a3 _ (by omega)];simp
  ·intro i x;rw[mem_snoc3,← h.hr];unfold St.hr;rw[a3 _ (by omega)];simp
  ·intro i x;rw[mem_snoc3,← h.ld];refine(a2 (7*i+3) x).trans (or_congr Iff.rfl ?_);constructor
   ·rintro⟨e,rfl⟩;exact⟨rfl,rfl,by omega⟩
   ·rintro⟨_,rfl,rfl⟩;exact⟨rfl,rfl⟩
  ·intro i x;rw[mem_snoc3,← h.sr];unfold St.sr;rw[a3 _ (by omega)];simp
  ·intro i;exact(a3 _ (by omega)).trans (h.hd i)
  ·intro i;exact(a3 _ (by omega)).trans (h.tw i)
  ·intro i;exact(a3 _ (by omega)).trans (h.tr i)
 ·obtain⟨a1,a2,a3⟩:=add_get (x0:=q) h.len (show 7*p+4<7*n by omega) (by omega) hb;rw[if_neg (by omega),if_neg (by omega),if_neg (by omega),if_pos rfl];refine⟨a1,?_,?_,?_,?_,?_,?_,?_,h.rep,h.ins,h.now,h.come,h.susp,h.un⟩
  ·intro i x;rw[mem_snoc3,← h.tg];unfold St.tg;rw[a3 _ (by omega)];simp
  ·intro i x;rw[mem_snoc3,← h.hr];unfold St.hr;rw[a3 _ (by omega)];simp
  ·intro i x;rw[mem_snoc3,← h.ld];unfold St.ld;rw[a3 _ (by omega)];simp
  ·intro i x;rw[mem_snoc3,← h.sr];refine(a2 (7*i+4) x).trans (or_congr Iff.rfl ?_);constructor
   ·rintro⟨e,rfl⟩;exact⟨rfl,by omega,rfl⟩
   ·rintro⟨_,rfl,rfl⟩;exact⟨rfl,rfl⟩
  ·intro i;exact(a3 _ (by omega)).trans (h.hd i)
  ·intro i;exact(a3 _ (by omega)).trans (h.tw i)
  ·intro i;exact(a3 _ (by omega)).trans (h.tr i)
theorem Laid.zero(n:Nat):Laid n [] (st0 n):=by
 have e:∀k,(st0 n).ss.getD k []=[]:=by
  intro k;simp only[st0,List.getD_eq_getElem?_getD,List.getElem?_replicate];split<;>simp
 have m:∀k x,¬x∈(st0 n).ss.getD k []:=fun k x=>by rw[e];simp
 refine⟨by simp[st0],?_,?_,?_,?_,fun i=>e _,fun i=>e _,fun i=>e _,rfl,rfl,rfl,rfl,rfl,rfl⟩
 ·intro i x;exact⟨fun h=>absurd h (m _ _),fun h=>by cases h⟩
 ·intro i x;exact⟨fun h=>absurd h (m _ _),fun h=>by cases h⟩
 ·intro i x;exact⟨fun h=>absurd h (m _ _),fun h=>by cases h⟩
 ·intro i x;exact⟨fun h=>absurd h (m _ _),fun h=>by cases h⟩
theorem Laid.all{n:Nat}(hn:n≤40):∀(l m:List (Int × Nat × Nat)) (s:St),Laid n m s→(∀k p q,(k,p,q)∈m++l→p<n∧q<n)→(∀k p q,(k,p,q)∈l→1≤k∧k≤4)→Laid n (m++l) (l.foldl (fun s f=>s.lay f.1 f.2.1 f.2.2) s):=by
 intro l;induction l with
 |nil=>intro m s h _ _;simpa using h
 |cons a r ih=>
  intro m s h h1 h2;obtain⟨k,p,q⟩:=a;have hp:=h1 k p q (by simp);have:=ih (m++[(k,p,q)]) (s.lay k p q) (h.lay hn (fun k p q hf=>h1 k p q (by simp[hf])) hp.1 hp.2 (h2 k p q (by simp))) (fun k p q hf=>h1 k p q (by simpa using hf)) (fun k p q hf=>h2 k p q (List.mem_cons_of_mem _ hf));rw[List.append_assoc]at this;exact this
theorem start_inv(hn:n≤40)(h1:∀k p q,(k,p,q)∈fs→p<n∧q<n)(h2:∀k p q,(k,p,q)∈fs→1≤k∧k≤4):Inv fs n c (fun _=>False) (St.start n fs)∧(St.start n fs).un=0∧(St.start n fs).nw≤n:=by
 have hl:=Laid.all hn fs [] (st0 n) (Laid.zero n) (by simpa using h1) h2;rw[List.nil_append]at hl;have hs:St.start n fs=(List.range n).foldl (fun s i=>if(s.tg i).isEmpty then s else s.wait i) (fs.foldl (fun s f=>s.lay f.1 f.2.1 f.2.2) (st0 n)):=rfl;rw[hs];generalize fs.foldl (fun s f=>s.lay f.1 f.2.1 f.2.2) (st0 n)=s at hl;have key:∀m,m≤n→let s':=(List.range m).foldl (fun s i=>if(s.tg i).isEmpty then s else s.wait i) s
   s'.ss=s.ss∧s'.rep=id∧s'.susp=[]∧s'.un=0∧s'.nw≤m∧(∀i,i∈s'.inside↔s'.W i)∧(∀i,s'.W i→i<n)∧(∀i,i<m→s.tg i≠[]→s'.W i):=by
  intro m;induction m with
  |zero=>
   intro _;refine⟨rfl,hl.rep,hl.susp,hl.un,by show s.nw≤0;unfold St.nw;rw[hl.now,hl.come];simp,fun i=>?_,fun i hi=>?_,fun i hi=>by omega⟩
   ·show i∈s.inside↔s.W i;unfold St.W;rw[hl.ins,hl.now,hl.come];simp
   ·have hi:s.W i:=hi;unfold St.W at hi;rw[hl.now,hl.come]at hi;simp at hi
  |succ m ih=>
   intro hm;obtain⟨p1,p2,p3,p4,p5,p6,p7,p8⟩:=ih (by omega);simp only[List.range_succ,List.foldl_append,List.foldl_cons,List.foldl_nil];generalize (List.range m).foldl (fun s i=>if(s.tg i).isEmpty then s else s.wait i) s=s1 at *;have et:s1.tg m=s.tg m:=by unfold St.tg;rw[p1]
   by_cases he:(s1.tg m).isEmpty=true
   ·rw[if_pos he];refine⟨p1,p2,p3,p4,by omega,p6,p7,fun i hi hne=>?_⟩;by_cases e:i=m
    ·subst e;rw[et]at he;exact absurd (by simpa using he) hne
    ·exact p8 i (by omega) hne
   ·rw[if_neg he];have:=St.wait_nw s1 m;refine⟨by rw[St.wait_ss];exact p1,by rw[St.wait_rep];exact p2,by rw[St.wait_susp];exact p3,by rw[St.wait_un];exact p4,by omega,St.wait_ins p6 (by omega) (fun i hi=>by have:=p7 i hi;omega),fun i hi=>?_,fun i hi hne=>?_⟩
    ·rcases(St.wait_W p6 m i).1 hi with hi|rfl
     ·exact p7 i hi
     ·omega
    ·refine(St.wait_W p6 m i).2 ?_
     by_cases e:i=m
     ·exact .inr e
     ·exact .inl (p8 i (by omega) hne)
 obtain⟨p1,p2,p3,p4,p5,p6,p7,p8⟩:=key n (Nat.le_refl _);generalize (List.range n).foldl (fun s i=>if(s.tg i).isEmpty then s else s.wait i) s=s' at *;have g:∀k,s'.ss.getD k []=s.ss.getD k []:=fun k=>by rw[p1]
 have hr:∀i,s'.rep i=i:=fun i=>by rw[p2];rfl
 have hhd:∀i,s'.hd i=[]:=fun i=>(g _).trans (hl.hd i)
 refine⟨⟨hn,h1,by rw[p1];exact hl.len,fun i=>by rw[hr];exact Nat.le_refl _,fun i=>by rw[hr,hr],fun i t=>by rw[hr],fun k x hx=>by rw[g]at hx;exact hl.bd h1 k x hx,fun i f hi=>absurd (hr i) hi,?_,fun i x hx=>by rw[hhd]at hx;(cases hx),fun _=>hhd,?_,?_,?_,?_,?_,?_,?_,?_,p6,fun i hi=>⟨p7 i hi,hr i⟩,fun i hi=>by rw[p3]at hi;(cases hi),?_,?_⟩,p4,p5⟩
 ·intro i x hx;exact PtN.addr ((hl.tg i x).1 (by unfold St.tg at hx ⊢;rw[g]at hx;exact hx))
 ·intro i x hx t ht;exact PtN.copy ((hl.hr i x).1 (by unfold St.hr at hx ⊢;rw[g]at hx;exact hx)) ht
 ·intro i x hx y t hy ht;exact PtN.load ((hl.ld i x).1 (by unfold St.ld at hx ⊢;rw[g]at hx;exact hx)) hy ht
 ·intro i x hx y t hy ht;exact PtN.store ((hl.sr i x).1 (by unfold St.sr at hx ⊢;rw[g]at hx;exact hx)) hy ht
 ·intro i u hu;have:=hl.tw i;unfold St.tw at this hu;rw[g,this]at hu;cases hu
 ·intro p q hf;rw[hr];unfold St.tg;rw[g];exact(hl.tg p q).2 hf
 ·intro p q hf;rw[hr];unfold St.hr;rw[g];exact(hl.hr q p).2 hf
 ·intro p q hf;rw[hr];unfold St.ld;rw[g];exact(hl.ld q p).2 hf
 ·intro p q hf;rw[hr];unfold St.sr;rw[g];exact(hl.sr p q).2 hf
 ·intro i _ hx _ x hxt;exfalso;have hxt:x∈s.tg i:=by unfold St.tg at hxt ⊢;rw[g]at hxt;exact hxt
  exact hx (.inl (p8 i (h1 _ _ _ ((hl.tg i x).1 hxt)).1 (List.ne_nil_of_mem hxt)))
 ·intro i x _ hxt hcond;have hxt:x∈s.tg i:=by unfold St.tg at hxt ⊢;rw[g]at hxt;exact hxt
  have hw:=p8 i (h1 _ _ _ ((hl.tg i x).1 hxt)).1 (List.ne_nil_of_mem hxt);split at hcond
  ·rw[hhd]at hcond;cases hcond
  ·exact absurd (.inl hw) hcond
theorem sumN_one(n:Nat):∀s:St,s.dn n≤n:=fun s=>by
 have:=sumN_bound (n:=n) (m:=1) (f:=fun i=>if s.rep i=i then 1 else 0) (fun i _=>by split<;>omega);unfold St.dn;omega
theorem run_ok(hn:n≤40)(h1:∀k p q,(k,p,q)∈fs→p<n∧q<n)(h2:∀k p q,(k,p,q)∈fs→1≤k∧k≤4){k:Nat}(hk:5000≤k) :
  ∃s,St.solve k c (St.start n fs) n=some s∧(∀i x,x∈s.tg (s.rep i)↔PtN fs i x)∧s.un≤n*n*n+4*(n*n)+n∧Inv fs n c (fun _=>False) s:=by
 obtain⟨h,hu,hw⟩:=start_inv (c:=c) hn h1 h2;generalize St.start n fs=s at *;have b0:s.mis n 0≤n*n:=sumN_bound (fun i _=>by split<;>omega);have b2:s.mis n 2≤n*n:=sumN_bound (fun i _=>by split<;>omega);have bd:=sumN_one n s;have bm:s.mea n≤n*n+3*n:=by unfold St.mea;omega
 have bn:n*n≤40*40:=Nat.mul_le_mul hn hn;obtain⟨s1,e1,p1,p2,p3⟩:=h.lookAhead hk (by omega);obtain⟨s2,e2,q1,q2,q3⟩:=Inv.solveL (k:=k) (by omega) k p1 (by omega);refine⟨s2,by unfold St.solve;rw[e1];exact e2,q1.solved q2,?_,q1⟩;have hpt:s.pt n≤n*n+n+n*(n*n+3*n):=by
  have:=Nat.mul_le_mul_left n bm;unfold St.pt;omega
 have hun:s2.un≤s2.pt n:=by unfold St.pt;omega
 have e3:n*(n*n+3*n)=n*n*n+3*(n*n):=by
  rw[Nat.mul_add,← Nat.mul_assoc,← Nat.mul_assoc,Nat.mul_comm n 3,Nat.mul_assoc 3]
 omega
end
section
open Go.RowKit
structure Kb(l:List Nat)(w w':World):Prop where
 os:w'.os=w.os
 tape:w'.tape=w.tape
 output:w'.output=w.output
 size:w.heap.size≤w'.heap.size
 block:∀k,k<w.heap.size→k ∉ l→w'.heap[k]?=w.heap[k]?
theorem Kb.refl(l:List Nat)(w:World):Kb l w w:=⟨rfl,rfl,rfl,Nat.le_refl _,fun _ _ _=>rfl⟩
theorem Kb.trans{l:List Nat}{a b c:World}(h:Kb l a b)(k:Kb l b c):Kb l a c:=
 ⟨k.os.trans h.os,k.tape.trans h.tape,k.output.trans h.output,Nat.le_trans h.size k.size,fun i hi hl=>(k.block i (Nat.lt_of_lt_of_le hi h.size) hl).trans (h.block i hi hl)⟩
theorem Kb.mono{l l':List Nat}{w w':World}(h:Kb l w w')(hl:∀k,k<w.heap.size→k∈l→k∈l'):Kb l' w w':=
 ⟨h.os,h.tape,h.output,h.size,fun k hk hn=>h.block k hk (fun hm=>hn (hl k hk hm))⟩
theorem Kb.drew{l:List Nat}{a w:World}(h:Kb l a w):Kb l a w.drew:=⟨h.os,h.tape,h.output,h.size,h.block⟩
theorem Kb.drewN{l:List Nat}{a w:World}(h:Kb l a w)(n:Nat):Kb l a (w.drewN n):=⟨h.os,h.tape,h.output,h.size,h.block⟩
theorem Kb.alloc{l:List Nat}{a w:World}(h:Kb l a w)(o:Obj):Kb l a (w.alloc o):=
 h.trans ⟨rfl,rfl,rfl,by simp,fun k hk _=>Below.heap_alloc _ _ _ hk⟩
theorem Kb.setCell{l:List Nat}{a w:World}(h:Kb l a w){p:Addr}(hp:p.block∈l∨a.heap.size≤p.block)(u:Value):Kb l a (w.setCell p u):=by
 refine⟨h.os,h.tape,h.output,by simpa[World.setCell]using h.size,fun k hk hl=>?_⟩;have hne:k≠p.block:=by
  rcases hp with hp|hp
  ·intro e;exact hl (e ▸ hp)
  ·omega
 exact(Below.heap_setCell _ _ _ _ hne).trans (h.block k hk hl)
theorem Kb.grown{l:List Nat}{a w w':World}{row:Option Nat}(h:Kb l a w)(hg:w.grownBy w' row)(hr:∀k,row=some k→k∈l∨a.heap.size≤k):Kb l a w':=
 ⟨hg.os.trans h.os,hg.tape.trans h.tape,hg.output.trans h.output,Nat.le_trans h.size hg.size,fun k hk hl=>(hg.block k (Nat.lt_of_lt_of_le hk h.size) (fun e=>by
  rcases hr k e.symm with h1|h1
  ·exact hl h1
  ·omega)).trans (h.block k hk hl)⟩
theorem Kb.of_below{w w':World}(h:Below w.heap.size w w')(l:List Nat):Kb l w w':=⟨h.os,h.tape,h.output,h.size,fun k hk _=>h.block k hk⟩
theorem Kb.below{l:List Nat}{w w':World}(h:Kb l w w'){B:Nat}(hB:B≤w.heap.size)(hl:∀k∈l,B≤k):Below B w w':=
 ⟨h.os,h.tape,h.output,h.size,fun k hk=>h.block k (by omega) (fun hm=>by have:=hl k hm;omega)⟩
theorem Kb.cell{l:List Nat}{w w':World}(h:Kb l w w'){p:Addr}(hp:p.block<w.heap.size)(hl:p.block ∉ l):w'.cell? p=w.cell? p:=World.cell?_of_block (w:=w) (h.block p.block hp hl)
theorem lt_of_heap{w:World}{b:Nat}{o:Obj}(h:w.heap[b]?=some o):b<w.heap.size:=(Array.getElem?_eq_some_iff.1 h).1
theorem Kb.heap{l:List Nat}{w w':World}(h:Kb l w w'){b:Nat}{o:Obj}(hb:w.heap[b]?=some o)(hl:b ∉ l):w'.heap[b]?=some o:=(h.block b (lt_of_heap hb) hl).trans hb
theorem Below.heapAt{B:Nat}{w w':World}(h:Below B w w'){b:Nat}{o:Obj}(hb:w.heap[b]?=some o)(hl:b<B):w'.heap[b]?=some o:=(h.block b hl).trans hb
theorem heap_new(w:World)(o:Obj):(w.alloc o).heap[w.heap.size]?=some o:=by
 show(w.heap.push o)[w.heap.size]?=_;simp
theorem heap_old{w:World}{b:Nat}{x:Obj}(h:w.heap[b]?=some x)(o:Obj):(w.alloc o).heap[b]?=some x:=by
 rw[Below.heap_alloc _ _ _ (lt_of_heap h)];exact h
theorem cell_at{w:World}{b:Nat}{cs:Array Value}{T:TypeId}{fr:Nat × Nat}(hb:w.heap[b]?=some (.cells cs T fr))(j:Nat):w.cell? ⟨b,j,none⟩=cs[j]?:=by
 simp[World.cell?,hb]
theorem frozen_at{w:World}{b:Nat}{cs:Array Value}{T:TypeId}(hb:w.heap[b]?=some (.cells cs T (0,0)))(j:Nat):w.frozen? ⟨b,j,none⟩=false:=by
 simp[World.frozen?,hb]
theorem heap_set{w:World}{b:Nat}{cs:Array Value}{T:TypeId}{fr:Nat × Nat}(hb:w.heap[b]?=some (.cells cs T fr))(j:Nat)(v:Value):(w.setCell ⟨b,j,none⟩ v).heap[b]?=some (.cells (cs.setIfInBounds j v) T fr):=by
 simp[World.setCell,Array.getElem?_modify,hb]
theorem Kb.ownsMap{H:Type}{P:Program}{l:List Nat}{w w':World}(h:Kb l w w'){k:TypeId}{R:Value→Option (DataW H × List MemPlace)}{b n:Nat}{D:DataW H}(hm:w.ownsMap P k R b n D)(hl:b ∉ l):w'.ownsMap P k R b n D:=by
 obtain⟨es,clock,hb,r⟩:=hm;exact⟨es,clock,h.heap hb hl,r⟩
theorem others_ownsMap{H:Type}{P:Program}{e:TypeId}{c:Option Nat}{w w':World}(h:Lib.OthersKept e c w w'){k:TypeId}{R:Value→Option (DataW H × List MemPlace)}{b n:Nat}{D:DataW H}(hm:w.ownsMap P k R b n D)(hl:some b≠c):w'.ownsMap P k R b n D:=by
 obtain⟨es,clock,hb,r⟩:=hm;exact⟨es,clock,h b _ hb hl (by intro c fz;exact fun e=>by cases e),r⟩
theorem Kb.builderAt{l:List Nat}{w w':World}(h:Kb l w w'){T e:TypeId}{B b:Nat}{p:Value}{bs:List Value}(hb:Lib.BuilderAtF T e B b p bs w)(hl:b ∉ l)(hn:∀x∈l,∀c fz,w.heap[x]?≠some (.cells c e fz)):Lib.BuilderAtF T e B b p bs w':=by
 obtain⟨hB,v,hv,hown,hne⟩:=hb;refine⟨hB,v,h.heap hv hl,?_,hne⟩;obtain⟨h1,h2⟩:=hown;refine⟨h1,?_⟩;rcases h2 with h2|⟨g,cap,cur,fz,hv,hg,hh,r⟩
 ·exact Or.inl h2
 ·exact Or.inr ⟨g,cap,cur,fz,hv,hg,h.heap hh (fun hm=>hn g hm _ _ hh),r⟩
theorem Kb.builder{l:List Nat}{w w':World}(h:Kb l w w'){T e:TypeId}{B b:Nat}{bs:List Value}(hb:Lib.IsBuilderF T e B b bs w)(hl:b ∉ l)(hn:∀x∈l,∀c fz,w.heap[x]?≠some (.cells c e fz)):Lib.IsBuilderF T e B b bs w':=by
 rcases hb with hb|hb
 ·exact .inl (h.builderAt hb hl hn)
 ·exact .inr (h.builderAt hb hl hn)
end
section
open Go.RowKit
abbrev T64:TypeId:=186
def hasW(ws:List Nat)(k:Nat):Bool:=(ws.getD (k / 64) 0).testBit (k % 64)
def u64s(ws:List Nat):List Value:=ws.map fun(x:Nat)=>Value.int .u64 (x:Int)
theorem u64s_len(ws:List Nat):(u64s ws).length=ws.length:=by simp[u64s]
theorem u64s_get{ws:List Nat}{j x:Nat}(h:ws[j]?=some x):(u64s ws)[j]?=some (.int .u64 (x:Int)):=by simp[u64s,h]
theorem u64s_set(ws:List Nat)(j x:Nat):(u64s ws).set j (.int .u64 (x:Int))=u64s (ws.set j x):=by simp[u64s,List.map_set]
def OwnW(w:World)(B:Nat)(v:Value)(ws:List Nat):Prop:=w.ownsRow B T64 1 v ws.length (u64s ws)∧∀x∈ws,x<18446744073709551616
theorem OwnW.lt{w:World}{B:Nat}{v:Value}{ws:List Nat}(h:OwnW w B v ws){g:Nat}(hg:v.ownBlock=some g):B≤g∧g<w.heap.size:=by
 rcases h.1.2 with⟨rfl,_⟩|⟨g',cap,cur,rfl,hb,hh,_⟩
 ·cases hg
 ·cases hg;exact⟨hb,lt_of_heap hh⟩
theorem OwnW.kb{w w':World}{B:Nat}{v:Value}{ws:List Nat}{L:List Nat}(h:OwnW w B v ws)(hk:Kb L w w')(hl:∀g∈L,v.ownBlock≠some g):OwnW w' B v ws:=by
 refine⟨⟨h.1.1,?_⟩,h.2⟩;rcases h.1.2 with h2|⟨g,cap,cur,hv,hg,hh,r⟩
 ·exact .inl h2
 ·exact .inr ⟨g,cap,cur,hv,hg,hk.heap hh (fun hm=>hl g hm (by rw[hv];rfl)),r⟩
theorem OwnW.ne{w:World}{B b:Nat}{v:Value}{ws:List Nat}{cs:Array Value}{T:TypeId}{fz:Nat × Nat}(h:OwnW w B v ws)(hb:w.heap[b]?=some (.cells cs T fz))(hT:T≠T64):v.ownBlock≠some b:=by
 intro e;rcases h.1.2 with⟨rfl,_⟩|⟨g,cap,cur,rfl,_,hh,_⟩
 ·cases e
 ·cases e;rw[hb]at hh;injection hh with hh;injection hh with _ h2 _;exact hT h2
theorem OwnW.form{w:World}{B:Nat}{v:Value}{ws:List Nat}(h:OwnW w B v ws):∃ao cap,v=.slice ao ws.length cap∧(∀(j x:Nat),ws[j]?=some x→∃g,ao=some ⟨g,0,none⟩∧w.cell? ⟨g,j,none⟩=some (.int .u64 (x:Int))∧w.frozen? ⟨g,j,none⟩=false):=by
 rcases h.1.2 with⟨rfl,h0⟩|⟨g,cap,cur,rfl,_,hh,h1,h2,h3,h4⟩
 ·refine⟨none,0,by rw[h0],fun j x hx=>?_⟩;have:=(List.getElem?_eq_some_iff.1 hx).1;omega
 ·refine⟨some ⟨g,0,none⟩,cap,rfl,fun j x hx=>⟨g,rfl,?_,frozen_at hh j⟩⟩;have hj:=(List.getElem?_eq_some_iff.1 hx).1;rw[cell_at hh,← Array.getElem?_toList];have e:=u64s_get hx;rw[← h4,Nat.mul_one,List.getElem?_take_of_lt hj]at e;exact e
theorem OwnW.set{w:World}{B g n cap:Nat}{ws:List Nat}(h:OwnW w B (.slice (some ⟨g,0,none⟩) n cap) ws)(j x:Nat)(hx:x<18446744073709551616):OwnW (w.setCell ⟨g,j,none⟩ (.int .u64 (x:Int))) B (.slice (some ⟨g,0,none⟩) n cap) (ws.set j x):=by
 refine⟨⟨by simp[u64s],?_⟩,fun y hy=>?_⟩
 ·rcases h.1.2 with⟨e,_⟩|⟨g',cap',cur,e,hb,hh,h1,h2,h3,h4⟩
  ·cases e
  ·injection e with e1 e2 e3;injection e1 with e1;injection e1 with e1;subst e1 e2 e3;rw[List.length_set];refine .inr ⟨g,cap,cur.setIfInBounds j (.int .u64 (x:Int)),rfl,hb,heap_set hh j _,h1,h2,by simpa using h3,?_⟩;rw[Array.toList_setIfInBounds,← u64s_set,← h4,List.take_set]
 ·rcases List.mem_or_eq_of_mem_set hy with hy|rfl
  ·exact h.2 y hy
  ·exact hx
theorem OwnW.alloc{w:World}{B:Nat}{v:Value}{ws:List Nat}(h:OwnW w B v ws)(o:Obj):OwnW (w.alloc o) B v ws:=h.kb ((Kb.refl [] w).alloc o) (by simp)
theorem OwnW.nil(w:World)(B:Nat):OwnW w B (.slice none 0 0) []:=⟨⟨rfl,.inl ⟨rfl,rfl⟩⟩,by simp⟩
structure SetCh(w w':World)(b o:Nat)(cs:Array Value)(T:TypeId)(v v':Value):Prop where
 blk:w'.heap[b]?=some (.cells (cs.setIfInBounds o v') T (0,0))
 kb:Kb (b::v.ownBlock.toList) w w'
 lies:v'.ownBlock=v.ownBlock∨∃g,v'.ownBlock=some g∧w.heap.size≤g
theorem SetCh.refl{w:World}{b o:Nat}{cs:Array Value}{T:TypeId}{v:Value}(hb:w.heap[b]?=some (.cells cs T (0,0)))(hv:cs[o]?=some v):SetCh w w b o cs T v v:=by
 refine⟨?_,Kb.refl _ _,.inl rfl⟩;rw[hb];have:cs.setIfInBounds o v=cs:=by
  apply Array.ext_getElem?;intro i;rw[Array.getElem?_setIfInBounds];split
  ·rename_i e;subst e;split
   ·exact hv.symm
   ·rename_i hn;rw[Array.getElem?_eq_none (by omega)]
  ·rfl
 rw[this]
theorem set_set'(cs:Array Value)(o:Nat)(v v':Value):(cs.setIfInBounds o v).setIfInBounds o v'=cs.setIfInBounds o v':=by
 apply Array.ext_getElem?;intro i;simp only[Array.getElem?_setIfInBounds,Array.size_setIfInBounds];split<;>rfl
theorem SetCh.trans{w w' w'':World}{b o:Nat}{cs:Array Value}{T:TypeId}{v v' v'':Value}(h:SetCh w w' b o cs T v v')(k:SetCh w' w'' b o (cs.setIfInBounds o v') T v' v''):SetCh w w'' b o cs T v v'':=by
 refine⟨by rw[k.blk,set_set'],?_,?_⟩
 ·refine⟨k.kb.os.trans h.kb.os,k.kb.tape.trans h.kb.tape,k.kb.output.trans h.kb.output,Nat.le_trans h.kb.size k.kb.size,fun j hj hl=>?_⟩;refine(k.kb.block j (Nat.lt_of_lt_of_le hj h.kb.size) (fun hm=>?_)).trans (h.kb.block j hj hl);rcases List.mem_cons.1 hm with rfl|hm
  ·exact hl List.mem_cons_self
  ·rcases h.lies with e|⟨g,e,hg⟩
   ·rw[e]at hm;exact hl (List.mem_cons_of_mem _ hm)
   ·rw[e]at hm;simp at hm;omega
 ·rcases k.lies with e|⟨g,e,hg⟩
  ·rw[e];exact h.lies
  ·exact .inr ⟨g,e,Nat.le_trans h.kb.size hg⟩
end
section
open Go.RowKit
theorem splace_any(n q bt:Nat)(hn:n<128)(hq:q=n / 64)(hbt:bt=2^(n % 64))(w:World):Calls Tryz.prog 147 #[.int .u64 n] w fun e w'=>e=.returned (.tuple #[.int .i64 q,.int .u64 bt])∧w'=w:=by
 have hlt:2^(n % 64)<18446744073709551616:=by
  have:n % 64<64:=Nat.mod_lt _ (by omega);exact Nat.lt_of_lt_of_le (Nat.pow_lt_pow_right (by omega) this) (by decide)
 have HQ:=hide (And.intro hq hbt);clear hq hbt;go_enter Tryz.func147,Tryz.ntmps147
 go_wp2;have hwr:IntKind.u64.wrap (2^(n % 64))=((2^(n % 64):Nat):Int):=by
  rw[IntKind.wrap_u64];have e:((2:Int)^(n % 64))=((2^(n % 64):Nat):Int):=by simp
  rw[e];generalize 2^(n % 64)=p at hlt;omega
 refine bodyPost_ret (v:=.tuple #[.int .i64 ((n / 64:Nat):Int),.int .u64 ((2^(n % 64):Nat):Int)]) (by simp[results,Tryz.results147,go_sem,hwr]) rfl ⟨by rw[HQ.out.1,HQ.out.2],rfl⟩
theorem word_any(B b o:Nat)(cs:Array Value)(T:TypeId)(v:Value)(ws:List Nat)(at_:Nat)(w:World)(hb:w.heap[b]?=some (.cells cs T (0,0)))(hv:cs[o]?=some v)(h:OwnW w B v ws) :
  Calls Tryz.prog 150 #[.pointer (some ⟨b,o,none⟩),.int .i64 at_] w fun e w'=>e=.returned (.int .u64 ((ws.getD at_ 0:Nat):Int))∧w'=w:=by
 have hc:w.cell? ⟨b,o,none⟩=some v:=by rw[cell_at hb];exact hv
 obtain⟨ao,cap,rfl,hw⟩:=h.form;go_enter Tryz.func150,Tryz.ntmps150
 by_cases hlt:at_<ws.length
 ·obtain⟨x,hx⟩:∃x,ws[at_]?=some x:=⟨_,List.getElem?_eq_getElem hlt⟩;obtain⟨g,rfl,hg,_⟩:=hw at_ x hx;have e:ws.getD at_ 0=x:=by simp[hx]
  go_wp2;go_ret
  exact⟨by rw[e];rfl,rfl⟩
 ·have e:ws.getD at_ 0=0:=by simp[List.getElem?_eq_none (Nat.le_of_not_lt hlt)]
  go_wp2;go_ret
  exact⟨by rw[e];rfl,rfl⟩
theorem info64:(Tryz.prog.info? 186).map (fun i=>(i.zero,i.size,i.bytes))=some (some (.int .u64 0),1,8):=by kernel_rfl
def padW(ws:List Nat)(size:Nat):List Nat:=ws++List.replicate (size-ws.length) 0
theorem padW_get(ws:List Nat)(size k:Nat):(padW ws size).getD k 0=ws.getD k 0:=by
 unfold padW;simp only[List.getD_eq_getElem?_getD];by_cases h:k<ws.length
 ·rw[List.getElem?_append_left h]
 ·rw[List.getElem?_append_right (by omega),List.getElem?_replicate,List.getElem?_eq_none (Nat.le_of_not_lt h)];split<;>rfl
theorem padW_has(ws:List Nat)(size k:Nat):hasW (padW ws size) k=hasW ws k:=by unfold hasW;rw[padW_get]
theorem padW_len(ws:List Nat)(size:Nat):(padW ws size).length=max ws.length size:=by simp[padW];omega
theorem padW_zero{ws:List Nat}{size:Nat}(h:size≤ws.length):padW ws size=ws:=by simp[padW,Nat.sub_eq_zero_of_le h]
theorem padW_step{ws:List Nat}{k:Nat}(h:ws.length≤k):padW ws (k+1)=padW ws k++[0]:=by
 unfold padW;rw[List.append_assoc,show k+1-ws.length=(k-ws.length)+1 by omega,List.replicate_succ']
structure RcInv(w wr:World)(B b o:Nat)(cs:Array Value)(T:TypeId)(v:Value)(ws:List Nat)(k:Nat)(vk:Value):Prop where
 le:ws.length≤k
 own:OwnW wr B vk (padW ws k)
 ch:SetCh w wr b o cs T v vk
def lenAt(w:World)(b o:Nat):Nat:=match w.cell? ⟨b,o,none⟩with
 |some (.slice _ n _)=>n
 |_=>0
theorem cells_new'(w:World)(cs:Array Value)(T:TypeId)(xs:List Value)(h:cs.toList=xs):∀j u,xs[j]?=some u→(w.alloc (.cells cs T)).cell? ((⟨w.heap.size,0,none⟩:Addr).add j)=some u:=by
 intro j u hu;have hadd:(⟨w.heap.size,0,none⟩:Addr).add j=⟨w.heap.size,j,none⟩:=by unfold Addr.add;split<;>simp_all
 rw[hadd,cell_at (heap_new w _),← Array.getElem?_toList,h];exact hu
set_option maxRecDepth 100000 in
theorem reach_any(B b o:Nat)(cs:Array Value)(T:TypeId)(v:Value)(ws:List Nat)(size:Nat)(w:World)(hB:B≤w.heap.size)(hT:T≠T64)(hb:w.heap[b]?=some (.cells cs T (0,0)))(hv:cs[o]?=some v)(h:OwnW w B v ws)(hs:size≤1000) :
  Calls Tryz.prog 148 #[.pointer (some ⟨b,o,none⟩),.int .i64 size] w fun e w'=>e=.returned (.tuple #[])∧∃v',OwnW w' B v' (padW ws size)∧SetCh w w' b o cs T v v':=by
 obtain⟨i0,hi,hz0,hz1,hz2⟩:=info_parts info64;have ho:o<cs.size:=(Array.getElem?_eq_some_iff.1 hv).1;go_enter Tryz.func148,Tryz.ntmps148
 go_wp2;have H0:Hid (RcInv w w B b o cs T v ws ws.length v):=hide ⟨Nat.le_refl _,by rw[padW_zero (Nat.le_refl _)];exact h,SetCh.refl hb hv⟩;clear h;go_loopw [] (fun wr=>∃(k:Nat) (vk:Value),(k=ws.length∨k≤size)∧RcInv w wr B b o cs T v ws k vk) (fun wr=>size-lenAt wr b o)
 case atStart=>exact⟨ws.length,v,.inl rfl,H0.out⟩
 case round=>
  clear H0;obtain⟨k,vk,hk,hI⟩:=hrel;have hle:=hI.le;have hpl:(padW ws k).length=k:=by rw[padW_len];omega
  obtain⟨ao,cap,rfl,_⟩:=hI.own.form;rw[hpl]at hI;have hbr:=hI.ch.blk;have hc:wr.cell? ⟨b,o,none⟩=some (.slice ao k cap):=by rw[cell_at hbr];simp[ho]
  have hfz:wr.frozen? ⟨b,o,none⟩=false:=frozen_at hbr o;have hm:lenAt wr b o=k:=by unfold lenAt;rw[hc]
  by_cases hlt:k<size
  ·have hsz:=hI.ch.kb.size;have hne:(Value.slice ao k cap).ownBlock≠some b:=hI.own.ne hbr hT;have hown:=hI.own.alloc (.cells #[.int .u64 0] 186);have HI:=hide hI;have HM:=hide hm;have HN:=hide hne;have HB:=hide hbr;have HS1:Hid (B≤(wr.alloc (.cells #[.int .u64 0] 186)).heap.size):=hide (by rw[World.size_alloc];omega);have HS2:Hid (b<(wr.alloc (.cells #[.int .u64 0] 186)).heap.size):=hide (by rw[World.size_alloc];exact Nat.lt_succ_of_lt (lt_of_heap hbr));have HS3:Hid ((cs.setIfInBounds o (.slice ao k cap))[o]?=some (.slice ao k cap)):=hide (by simp[ho]);have hrow:=hown.1;rw[hpl]at hrow;have HR:=hide hrow;clear hI hm hne hbr hown hrow;go_wp2_with (first
    |(at_builtin;go_loud (refine wpList_append_lies _ rfl (.tmp 15) (.tmp 16) 110 rfl B 186 i0 (.int .u64 0) 1 8 Tryz.underlying110 hi hz0 hz1 hz2 rfl (by decide) (.slice ao k cap) k (u64s (padW ws k)) (by simp[Act.eval]) HR.out ⟨wr.heap.size,0,none⟩ 1 1 [.int .u64 0] (by simp[Act.eval]) rfl (cells_new' wr #[.int .u64 0] 186 [.int .u64 0] rfl) (by intro u hu;rw[List.mem_singleton.1 hu];rfl) (by decide) (by unfold maxLen;omega) (by omega) HS1.out _ rfl ?_;intro g cp w2 hw2 hg hbk hgl;have hcb:w2.heap[b]?=some (.cells (cs.setIfInBounds o (.slice ao k cap)) T (0,0)):=(hg.block b HS2.out (fun e=>HN.out e.symm)).trans (heap_old HB.out _);have hc2:w2.cell? ⟨b,o,none⟩=some (.slice ao k cap):=(cell_at hcb o).trans HS3.out;have hf2:w2.frozen? ⟨b,o,none⟩=false:=frozen_at hcb o))
    |go_in)
   have HX:Hid (RcInv w (w2.setCell ⟨b,o,none⟩ (.slice (some ⟨g,0,none⟩) (k+1) cp)) B b o cs T v ws (k+1) (.slice (some ⟨g,0,none⟩) (k+1) cp)):=by
    have hgne:g≠b:=by
     rcases hbk with e|e
     ·intro e2;subst e2;exact HN.out e
     ·have:=lt_of_heap HB.out;simp at e;omega
    refine hide ⟨by omega,?_,?_⟩
    ·have hO:OwnW w2 B (.slice (some ⟨g,0,none⟩) (k+1) cp) (padW ws (k+1)):=by
      rw[padW_step hle];refine⟨?_,fun x hx=>?_⟩
      ·have e1:u64s (padW ws k++[0])=u64s (padW ws k)++[.int .u64 0]:=by simp[u64s]
       rw[e1,List.length_append,hpl];exact hw2
      ·rcases List.mem_append.1 hx with hx|hx
       ·exact HI.out.own.2 x hx
       ·rw[List.mem_singleton.1 hx];decide
     exact hO.kb ((Kb.refl [b] w2).setCell (p:=⟨b,o,none⟩) (.inl (by simp)) _) (by intro x hx;rw[List.mem_singleton.1 hx];intro e;cases e;exact hgne rfl)
    ·refine HI.out.ch.trans ⟨?_,?_,?_⟩
     ·rw[heap_set hcb]
     ·refine(((Kb.refl _ wr).alloc _).grown hg (fun x hx=>?_)).setCell (p:=⟨b,o,none⟩) (.inl (by simp)) _;exact .inl (by simp[hx])
     ·rcases hbk with e|e
      ·exact .inl e.symm
      ·refine .inr ⟨g,rfl,?_⟩;simp at e;omega
   have HL:Hid (lenAt (w2.setCell ⟨b,o,none⟩ (.slice (some ⟨g,0,none⟩) (k+1) cp)) b o=k+1):=by
    refine hide ?_
    unfold lenAt;rw[cell_at (heap_set hcb o _)];simp[ho]
   clear hw2 hg hbk hgl hcb HR HB HN;go_wp2;go_roundw
   case rel=>exact⟨k+1,_,.inr (by omega),HX.out⟩
   case measure=>rw[HL.out,HM.out];omega
  ·have HI:=hide hI;clear hI;go_wp2;go_end0
   refine⟨rfl,_,?_,HI.out.ch⟩;have e:padW ws size=padW ws k:=by
    rcases hk with rfl|hk
    ·rw[padW_zero (Nat.le_of_not_lt hlt),padW_zero (Nat.le_refl _)]
    ·rw[show k=size by omega]
   rw[e];exact HI.out.own
end
section
open Go.RowKit
def SetV(w:World)(B:Nat)(v:Value)(s:List Nat):Prop:=∃ws,ws.length≤2∧OwnW w B v ws∧s=mkS (hasW ws)
theorem SetV.kb{w w':World}{B:Nat}{v:Value}{s:List Nat}{L:List Nat}(h:SetV w B v s)(hk:Kb L w w')(hl:∀g∈L,v.ownBlock≠some g):SetV w' B v s:=by
 obtain⟨ws,h1,h2,h3⟩:=h;exact⟨ws,h1,h2.kb hk hl,h3⟩
theorem SetV.nil(w:World)(B:Nat):SetV w B (.slice none 0 0) []:=⟨[],by simp,OwnW.nil w B,by simp[mkS,hasW]⟩
theorem SetV.ne{w:World}{B b:Nat}{v:Value}{s:List Nat}{cs:Array Value}{T:TypeId}{fz:Nat × Nat}(h:SetV w B v s)(hb:w.heap[b]?=some (.cells cs T fz))(hT:T≠T64):v.ownBlock≠some b:=by
 obtain⟨ws,_,h2,_⟩:=h;exact h2.ne hb hT
theorem SetV.lt{w:World}{B:Nat}{v:Value}{s:List Nat}(h:SetV w B v s){g:Nat}(hg:v.ownBlock=some g):B≤g∧g<w.heap.size:=by
 obtain⟨ws,_,h2,_⟩:=h;exact h2.lt hg
theorem mkS_contains{p:Nat→Bool}{n:Nat}(hn:n<128):(mkS p).contains n=p n:=by
 rw[Bool.eq_iff_iff,List.contains_iff_mem,mem_mkS];exact⟨fun h=>h.2,fun h=>⟨hn,h⟩⟩
theorem mkS_congr{p q:Nat→Bool}(h:∀k,k<128→p k=q k):mkS p=mkS q:=by
 unfold mkS;refine List.filter_congr fun k hk=>h k (by simpa using hk)
theorem and_pow{x m:Nat}:(x &&& 2^m=0)↔x.testBit m=false:=by
 constructor
 ·intro h;have h2:(x &&& 2^m).testBit m=false:=by rw[h];simp
  rw[Nat.testBit_and,Nat.testBit_two_pow_self]at h2;simpa using h2
 ·intro h;apply Nat.eq_of_testBit_eq;intro i;rw[Nat.testBit_and,Nat.testBit_two_pow,Nat.zero_testBit];by_cases e:m=i
  ·subst e;simp[h]
  ·simp[e]
theorem set_getD(ws:List Nat)(i x k:Nat)(hi:i<ws.length):(ws.set i x).getD k 0=if k=i then x else ws.getD k 0:=by
 simp only[List.getD_eq_getElem?_getD];by_cases h:k=i
 ·subst h;simp[hi]
 ·rw[List.getElem?_set_ne (Ne.symm h)];simp[h]
theorem hasW_or{ws:List Nat}{n q bt x:Nat}(hq:q=n / 64)(hbt:bt=2^(n % 64))(hx:ws[q]?=some x)(k:Nat):hasW (ws.set q (x ||| bt)) k=(k == n || hasW ws k):=by
 subst hq hbt;have hn:=(List.getElem?_eq_some_iff.1 hx).1;unfold hasW;rw[set_getD _ _ _ _ hn];by_cases h:k / 64=n / 64
 ·rw[if_pos h,Nat.testBit_or,Nat.testBit_two_pow,h];have e1:ws.getD (n / 64) 0=x:=by simp[hx]
  rw[e1];by_cases e:n % 64=k % 64
  ·have:k=n:=by omega
   subst this;simp
  ·have:k≠n:=fun e2=>e (by rw[e2])
   simp[e,this]
 ·rw[if_neg h];have:k≠n:=fun e2=>h (by rw[e2])
  simp[this]
theorem hasW_at{ws:List Nat}{n q x:Nat}(hq:q=n / 64)(hx:ws[q]?=some x):hasW ws n=x.testBit (n % 64):=by
 subst hq;unfold hasW;simp[hx]
theorem new_bit{x n bt:Nat}(hbt:bt=2^(n % 64)):decide (x &&& bt=0)=!x.testBit (n % 64):=by
 subst hbt;by_cases e:x &&& 2^(n % 64)=0
 ·simp[e,and_pow.1 e]
 ·cases ht:x.testBit (n % 64)
  ·exact absurd (and_pow.2 ht) e
  ·simp[e]
theorem beq0(m:Nat):(((m:Nat):Int) == 0)=decide (m=0):=by
 rw[Bool.eq_iff_iff];simp
theorem or_lt64{x y:Nat}(hx:x<18446744073709551616)(hy:y<18446744073709551616):x ||| y<18446744073709551616:=Nat.or_lt_two_pow (n:=64) hx hy
theorem pow64(n:Nat):2^(n % 64)<18446744073709551616:=Nat.lt_of_lt_of_le (Nat.pow_lt_pow_right (by omega) (Nat.mod_lt n (by omega))) (by decide)
set_option maxRecDepth 100000 in
theorem sadd_any(B b o:Nat)(cs:Array Value)(T:TypeId)(v:Value)(s:List Nat)(n:Nat)(w:World)(hB:B≤w.heap.size)(hT:T≠T64)(hb:w.heap[b]?=some (.cells cs T (0,0)))(hv:cs[o]?=some v)(h:SetV w B v s)(hn:n<128) :
  Calls Tryz.prog 108 #[.pointer (some ⟨b,o,none⟩),.int .u64 n] w fun e w'=>e=.returned (.bool (!s.contains n))∧∃v',SetV w' B v' (addS n s)∧SetCh w w' b o cs T v v':=by
 obtain⟨ws,hl,hO,rfl⟩:=h;have ho:o<cs.size:=(Array.getElem?_eq_some_iff.1 hv).1;obtain⟨q,hq⟩:∃q,q=n / 64:=⟨_,rfl⟩;obtain⟨bt,hbt⟩:∃bt,bt=2^(n % 64):=⟨_,rfl⟩;have hp:bt<18446744073709551616:=by rw[hbt];exact pow64 n
 have hq2:q≤1:=by omega
 have HP:=splace_any n q bt hn hq hbt w;have HQ:=hide (And.intro hq hbt);clear hq hbt;go_enter Tryz.func108,Tryz.ntmps108
 go_wp2_with fail
 refine HP.mono ?_
 clear HP;rintro e w' ⟨rfl,rfl⟩;go_wp2_with fail
 refine(reach_any B b o cs T v ws (q+1) w' hB hT hb hv hO (by omega)).mono ?_
 rintro e w1 ⟨rfl,v1,hO1,hC1⟩;have hpl:=padW_len ws (q+1);have HH:Hid (∀k,hasW (padW ws (q+1)) k=hasW ws k):=padW_has ws (q+1);have hL2:(padW ws (q+1)).length≤2:=by omega
 have hlt:q<(padW ws (q+1)).length:=by omega
 generalize padW ws (q+1)=wp at *;clear hpl hl hO;obtain⟨x,hx⟩:∃x,wp[q]?=some x:=⟨_,List.getElem?_eq_getElem hlt⟩;obtain⟨ao,cap,rfl,hw⟩:=hO1.form;obtain⟨g,rfl,hg,hgf⟩:=hw _ x hx;have hxl:x<18446744073709551616:=hO1.2 x (List.mem_of_getElem? hx);have hbr:=hC1.blk;have hc:w1.cell? ⟨b,o,none⟩=some (.slice (some ⟨g,0,none⟩) wp.length cap):=by rw[cell_at hbr];simp[ho]
 have hgb:g≠b:=fun e=>hO1.ne hbr hT (by rw[e];rfl)
 have HF:Hid (SetV (w1.setCell ⟨g,q,none⟩ (.int .u64 ((x ||| bt:Nat):Int))) B (.slice (some ⟨g,0,none⟩) wp.length cap) (addS n (mkS (hasW ws)))∧SetCh w' (w1.setCell ⟨g,q,none⟩ (.int .u64 ((x ||| bt:Nat):Int))) b o cs T v (.slice (some ⟨g,0,none⟩) wp.length cap)):=by
  refine hide ⟨⟨wp.set q (x ||| bt),by rw[List.length_set];omega,hO1.set _ _ (or_lt64 hxl hp),?_⟩,hC1.trans ⟨?_,(Kb.refl _ _).setCell (p:=⟨g,q,none⟩) (.inl (by simp[Value.ownBlock])) _,.inl rfl⟩⟩
  ·unfold addS;refine mkS_congr fun k hk=>?_
   rw[hasW_or HQ.out.1 HQ.out.2 hx,mkS_contains hk,HH.out]
  ·have e2:(w1.setCell ⟨g,q,none⟩ (.int .u64 ((x ||| bt:Nat):Int))).heap[b]?=w1.heap[b]?:=Below.heap_setCell _ _ _ _ (fun e=>hgb e.symm);rw[e2,hbr,set_set']
 have HE:Hid ((!(mkS (hasW ws)).contains n)=decide (x &&& bt=0)):=by
  refine hide ?_
  rw[mkS_contains hn,← HH.out,hasW_at HQ.out.1 hx,new_bit HQ.out.2]
 have HX:=hide hx;have hand:=u64_and_nat x bt hxl hp;have hor:=u64_or_nat x bt hxl hp;generalize wp.length=L at *;clear hO1 hC1 hw hbr hx;go_wp2;go_ret
 refine⟨?_,_,HF.out⟩;rw[HE.out,← beq0];rfl
end
section
open Go.RowKit
def Apart(v v2:Value):Prop:=∀g,v.ownBlock=some g→v2.ownBlock≠some g
theorem Apart.symm{v v2:Value}(h:Apart v v2):Apart v2 v:=fun g h1 h2=>h g h2 h1
theorem SetCh.other{w w':World}{B b o b2 o2:Nat}{cs cs2:Array Value}{T T2:TypeId}{v v' v2:Value}{ws:List Nat}(h:SetCh w w' b o cs T v v')(hb:w.heap[b]?=some (.cells cs T (0,0)))(hO:OwnW w B v ws)(hb2:w.heap[b2]?=some (.cells cs2 T2 (0,0)))(hv2:cs2[o2]?=some v2)(hT2:T2≠T64)(hne:b2≠b∨o2≠o):∃cs2',w'.heap[b2]?=some (.cells cs2' T2 (0,0))∧cs2'[o2]?=some v2:=by
 by_cases e:b2=b
 ·subst e;rw[hb]at hb2;injection hb2 with hb2;injection hb2 with e1 e2 _;subst e1 e2;refine⟨_,h.blk,?_⟩;rw[Array.getElem?_setIfInBounds,if_neg (fun e=>(hne.resolve_left (by simp)) e.symm)];exact hv2
 ·refine⟨cs2,h.kb.heap hb2 ?_,hv2⟩;intro hm;rcases List.mem_cons.1 hm with e1|hm
  ·exact e e1
  ·simp at hm;exact hO.ne hb2 hT2 hm
theorem SetCh.apart{w w':World}{B b o:Nat}{cs:Array Value}{T:TypeId}{v v' v2:Value}{ws2:List Nat}(h:SetCh w w' b o cs T v v')(hb:w.heap[b]?=some (.cells cs T (0,0)))(hT:T≠T64)(h2:OwnW w B v2 ws2)(ha:Apart v v2):OwnW w' B v2 ws2∧Apart v' v2:=by
 refine⟨h2.kb h.kb ?_,?_⟩
 ·intro g hg;rcases List.mem_cons.1 hg with rfl|hg
  ·exact h2.ne hb hT
  ·simp at hg;exact ha g hg
 ·intro g hg;rcases h.lies with e|⟨g',e,hg'⟩
  ·exact ha g (by rw[← e];exact hg)
  ·rw[e]at hg;cases hg;intro e2;have:=(h2.lt e2).2;omega
theorem has_any(B b o:Nat)(cs:Array Value)(T:TypeId)(v:Value)(s:List Nat)(n:Nat)(w:World)(hb:w.heap[b]?=some (.cells cs T (0,0)))(hv:cs[o]?=some v)(h:SetV w B v s)(hn:n<128) :
  Calls Tryz.prog 178 #[.pointer (some ⟨b,o,none⟩),.int .u64 n] w fun e w'=>e=.returned (.bool (s.contains n))∧w'=w:=by
 obtain⟨ws,hl,hO,rfl⟩:=h;obtain⟨q,hq⟩:∃q,q=n / 64:=⟨_,rfl⟩;obtain⟨bt,hbt⟩:∃bt,bt=2^(n % 64):=⟨_,rfl⟩;have hp:bt<18446744073709551616:=by rw[hbt];exact pow64 n
 have HP:=splace_any n q bt hn hq hbt w;have HE:Hid ((mkS (hasW ws)).contains n=!decide (ws.getD q 0 &&& bt=0)):=by
  refine hide ?_
  rw[mkS_contains hn,new_bit hbt,Bool.not_not];subst hq;rfl
 have HQ:=hide (And.intro hq hbt);clear hq hbt;have hxl:ws.getD q 0<18446744073709551616:=by
  rw[List.getD_eq_getElem?_getD];cases hx:ws[q]? with
  |none=>simp
  |some x=>simpa using hO.2 x (List.mem_of_getElem? hx)
 have HW:=word_any B b o cs T v ws q w hb hv hO;clear hO;generalize ws.getD q 0=x at *;have hand:=u64_and_nat x bt hxl hp;go_enter Tryz.func178,Tryz.ntmps178
 go_wp2_with fail
 refine HP.mono ?_
 clear HP;rintro e w' ⟨rfl,rfl⟩;go_wp2_with fail
 refine HW.mono ?_
 clear HW;rintro e w1 ⟨rfl,rfl⟩;go_wp2;go_ret
 refine⟨?_,rfl⟩;rw[HE.out,← beq0];rfl
end
section
open Go.RowKit
abbrev TN:TypeId:=144
def OwnN(w:World)(B:Nat)(v:Value)(ws:List Nat):Prop:=w.ownsRow B TN 1 v ws.length (u64s ws)∧∀x∈ws,x<18446744073709551616
theorem OwnN.lt{w:World}{B:Nat}{v:Value}{ws:List Nat}(h:OwnN w B v ws){g:Nat}(hg:v.ownBlock=some g):B≤g∧g<w.heap.size:=by
 rcases h.1.2 with⟨rfl,_⟩|⟨g',cap,cur,rfl,hb,hh,_⟩
 ·cases hg
 ·cases hg;exact⟨hb,lt_of_heap hh⟩
theorem OwnN.kb{w w':World}{B:Nat}{v:Value}{ws:List Nat}{L:List Nat}(h:OwnN w B v ws)(hk:Kb L w w')(hl:∀g∈L,v.ownBlock≠some g):OwnN w' B v ws:=by
 refine⟨⟨h.1.1,?_⟩,h.2⟩;rcases h.1.2 with h2|⟨g,cap,cur,hv,hg,hh,r⟩
 ·exact .inl h2
 ·exact .inr ⟨g,cap,cur,hv,hg,hk.heap hh (fun hm=>hl g hm (by rw[hv];rfl)),r⟩
theorem OwnN.ne{w:World}{B b:Nat}{v:Value}{ws:List Nat}{cs:Array Value}{T:TypeId}{fz:Nat × Nat}(h:OwnN w B v ws)(hb:w.heap[b]?=some (.cells cs T fz))(hT:T≠TN):v.ownBlock≠some b:=by
 intro e;rcases h.1.2 with⟨rfl,_⟩|⟨g,cap,cur,rfl,_,hh,_⟩
 ·cases e
 ·cases e;rw[hb]at hh;injection hh with hh;injection hh with _ h2 _;exact hT h2
theorem OwnN.form{w:World}{B:Nat}{v:Value}{ws:List Nat}(h:OwnN w B v ws):∃ao cap,v=.slice ao ws.length cap∧(∀(j x:Nat),ws[j]?=some x→∃g,ao=some ⟨g,0,none⟩∧w.cell? ⟨g,j,none⟩=some (.int .u64 (x:Int))∧w.frozen? ⟨g,j,none⟩=false):=by
 rcases h.1.2 with⟨rfl,h0⟩|⟨g,cap,cur,rfl,_,hh,h1,h2,h3,h4⟩
 ·refine⟨none,0,by rw[h0],fun j x hx=>?_⟩;have:=(List.getElem?_eq_some_iff.1 hx).1;omega
 ·refine⟨some ⟨g,0,none⟩,cap,rfl,fun j x hx=>⟨g,rfl,?_,frozen_at hh j⟩⟩;have hj:=(List.getElem?_eq_some_iff.1 hx).1;rw[cell_at hh,← Array.getElem?_toList];have e:=u64s_get hx;rw[← h4,Nat.mul_one,List.getElem?_take_of_lt hj]at e;exact e
theorem OwnN.set{w:World}{B g n cap:Nat}{ws:List Nat}(h:OwnN w B (.slice (some ⟨g,0,none⟩) n cap) ws)(j x:Nat)(hx:x<18446744073709551616):OwnN (w.setCell ⟨g,j,none⟩ (.int .u64 (x:Int))) B (.slice (some ⟨g,0,none⟩) n cap) (ws.set j x):=by
 refine⟨⟨by simp[u64s],?_⟩,fun y hy=>?_⟩
 ·rcases h.1.2 with⟨e,_⟩|⟨g',cap',cur,e,hb,hh,h1,h2,h3,h4⟩
  ·cases e
  ·injection e with e1 e2 e3;injection e1 with e1;injection e1 with e1;subst e1 e2 e3;rw[List.length_set];refine .inr ⟨g,cap,cur.setIfInBounds j (.int .u64 (x:Int)),rfl,hb,heap_set hh j _,h1,h2,by simpa using h3,?_⟩;rw[Array.toList_setIfInBounds,← u64s_set,← h4,List.take_set]
 ·rcases List.mem_or_eq_of_mem_set hy with hy|rfl
  ·exact h.2 y hy
  ·exact hx
theorem OwnN.alloc{w:World}{B:Nat}{v:Value}{ws:List Nat}(h:OwnN w B v ws)(o:Obj):OwnN (w.alloc o) B v ws:=h.kb ((Kb.refl [] w).alloc o) (by simp)
theorem OwnN.nil(w:World)(B:Nat):OwnN w B (.slice none 0 0) []:=⟨⟨rfl,.inl ⟨rfl,rfl⟩⟩,by simp⟩
def topF(ab:List Nat):Nat→Nat→Nat
 |0,n=>n
 |k+1,n=>match ab[n]? with
  |some x=>if x=n then n else topF ab k x
  |none=>n
def topOf(ab:List Nat)(n:Nat):Nat:=topF ab (n+1) n
def Down(ab:List Nat):Prop:=∀(i x:Nat),ab[i]?=some x→x≤i
theorem topF_more{ab:List Nat}(h:Down ab):∀(n k:Nat),n+1≤k→topF ab k n=topF ab (n+1) n:=by
 intro n;induction n using Nat.strongRecOn with
 |_ n ih=>
  intro k hk;obtain⟨k,rfl⟩:∃j,k=j+1:=⟨k-1,by omega⟩;simp only[topF];cases hx:ab[n]? with
  |none=>rfl
  |some x=>
   simp only[];by_cases e:x=n
   ·rw[if_pos e,if_pos e]
   ·have:=h n x hx;rw[if_neg e,if_neg e,ih x (by omega) k (by omega),ih x (by omega) n (by omega)]
theorem topOf_step{ab:List Nat}(h:Down ab){n x:Nat}(hx:ab[n]?=some x):topOf ab n=if x=n then n else topOf ab x:=by
 unfold topOf;have h2:=h n x hx;rw[topF,hx];simp only[];by_cases e:x=n
 ·rw[if_pos e,if_pos e]
 ·rw[if_neg e,if_neg e];exact topF_more h x n (by omega)
theorem topOf_none{ab:List Nat}{n:Nat}(hx:ab[n]?=none):topOf ab n=n:=by
 unfold topOf;rw[topF,hx]
theorem topOf_le{ab:List Nat}(h:Down ab):∀(n:Nat),topOf ab n≤n:=by
 intro n;induction n using Nat.strongRecOn with
 |_ n ih=>
  cases hx:ab[n]? with
  |none=>rw[topOf_none hx];exact Nat.le_refl _
  |some x=>
   rw[topOf_step h hx];have:=h n x hx;by_cases e:x=n
   ·rw[if_pos e];exact Nat.le_refl _
   ·rw[if_neg e];have:=ih x (by omega);omega
theorem topOf_top{ab:List Nat}(h:Down ab):∀(n:Nat),topOf ab (topOf ab n)=topOf ab n:=by
 intro n;induction n using Nat.strongRecOn with
 |_ n ih=>
  cases hx:ab[n]? with
  |none=>rw[topOf_none hx,topOf_none hx]
  |some x=>
   have:=h n x hx;have e1:=topOf_step h hx;by_cases e:x=n
   ·rw[if_pos e]at e1;rw[e1,e1]
   ·rw[if_neg e]at e1;rw[e1];exact ih x (by omega)
theorem topOf_at{ab:List Nat}(h:Down ab){n x:Nat}(hx:ab[topOf ab n]?=some x):x=topOf ab n:=by
 have h1:=topOf_step h hx;rw[topOf_top h]at h1;by_cases e:x=topOf ab n
 ·exact e
 ·rw[if_neg e]at h1;have h2:=h _ _ hx;have h3:=topOf_le h x;omega
theorem topOf_set{ab:List Nat}(h:Down ab){j i:Nat}(hj:j<ab.length)(hi:topOf ab i=i)(hij:i≤j):Down (ab.set j i)∧(∀m,topOf ab j=i→topOf (ab.set j i) m=topOf ab m)∧(topOf ab j=j→∀m,topOf (ab.set j i) m=if topOf ab m=j then i else topOf ab m):=by
 have hD:Down (ab.set j i):=by
  intro m x hx;rw[List.getElem?_set]at hx;split at hx
  ·rename_i e;subst e;injection hx with hx;omega
  ·exact h m x hx
 refine⟨hD,fun m he=>?_,fun he m=>?_⟩
 ·induction m using Nat.strongRecOn with
  |_ m ih=>
   by_cases e:m=j
   ·subst e;have hx:(ab.set m i)[m]?=some i:=by simp[hj]
    rw[topOf_step hD hx,he];by_cases e2:i=m
    ·rw[if_pos e2,e2]
    ·rw[if_neg e2,ih i (by omega),hi]
   ·have hx:(ab.set j i)[m]?=ab[m]?:=List.getElem?_set_ne (Ne.symm e);cases hm:ab[m]? with
    |none=>rw[topOf_none (hx.trans hm),topOf_none hm]
    |some x=>
     have:=h m x hm;rw[topOf_step hD (hx.trans hm),topOf_step h hm];by_cases e2:x=m
     ·rw[if_pos e2,if_pos e2]
     ·rw[if_neg e2,if_neg e2,ih x (by omega)]
 ·induction m using Nat.strongRecOn with
  |_ m ih=>
   by_cases e:m=j
   ·subst e;have hx:(ab.set m i)[m]?=some i:=by simp[hj]
    rw[topOf_step hD hx,he,if_pos rfl];by_cases e2:i=m
    ·rw[if_pos e2,e2]
    ·rw[if_neg e2,ih i (by omega),hi,if_neg e2]
   ·have hx:(ab.set j i)[m]?=ab[m]?:=List.getElem?_set_ne (Ne.symm e);cases hm:ab[m]? with
    |none=>rw[topOf_none (hx.trans hm),topOf_none hm,if_neg e]
    |some x=>
     have:=h m x hm;rw[topOf_step hD (hx.trans hm),topOf_step h hm];by_cases e2:x=m
     ·rw[if_pos e2,if_pos e2,if_neg e]
     ·rw[if_neg e2,if_neg e2,ih x (by omega)]
theorem topOf_snoc{ab:List Nat}(h:Down ab):Down (ab++[ab.length])∧∀m,topOf (ab++[ab.length]) m=topOf ab m:=by
 have hD:Down (ab++[ab.length]):=by
  intro i x hx;by_cases e:i<ab.length
  ·rw[List.getElem?_append_left e]at hx;exact h i x hx
  ·rw[List.getElem?_append_right (by omega)]at hx;have:=(List.getElem?_eq_some_iff.1 hx).1;simp at this;have e2:i=ab.length:=by omega
   subst e2;simp at hx;omega
 refine⟨hD,fun m=>?_⟩;induction m using Nat.strongRecOn with
 |_ m ih=>
  by_cases e:m<ab.length
  ·have hx:(ab++[ab.length])[m]?=ab[m]?:=List.getElem?_append_left e;obtain⟨x,hm⟩:∃x,ab[m]?=some x:=⟨_,List.getElem?_eq_getElem e⟩;have:=h m x hm;rw[topOf_step hD (hx.trans hm),topOf_step h hm];by_cases e2:x=m
   ·rw[if_pos e2,if_pos e2]
   ·rw[if_neg e2,if_neg e2,ih x (by omega)]
  ·rw[topOf_none (List.getElem?_eq_none (Nat.le_of_not_lt e):ab[m]?=none)];by_cases e2:m=ab.length
   ·subst e2;have hx:(ab++[ab.length])[ab.length]?=some ab.length:=by simp
    rw[topOf_step hD hx,if_pos rfl]
   ·exact topOf_none (List.getElem?_eq_none (by simp;omega))
structure ClsR(ab:List Nat)(rep:Nat→Nat):Prop where
 down:Down ab
 top:∀m,topOf ab m=rep m
 small:ab.length≤128
theorem ClsR.nil:ClsR [] id:=⟨fun i x hx=>by simp at hx,fun m=>topOf_none (by simp),by simp⟩
end
end Go.Proofs.YtiamlbhkiehilaaGreatDoor
