import Derived.Test.YtiamlbhkiehilaaGreatDoorKa04
open Go renaming World→vF
open Go.Builtin renaming append_→Ka
open Go.Proofs.Tryz renaming prog→hE,func113→Ly,ntmps113→Lp,underlying106→KM
open Go.Region renaming wanted→Ll
open Go.RowKit renaming Hid→I3
open List renaming length_append→A4,mem_singleton→A1,length_pos_iff→K7,append_nil→JK,length_mergeSort→Nz,getElem?_eq_getElem→hZ,getElem?_eq_some_iff→II
open Nat renaming zero_add→JR
namespace Go.Proofs.YtiamlbhkiehilaaGreatDoor
section
open Go.RowKit
variable {B:Nat} {c:Way} {n:Nat} {s:St}
def tR(B:Nat):Prop:=∀(v:Value) (a:List Nat) (w:vF),cI w B v a→a.length≤40 →
  Calls hE 155 #[v] w fun e b=>e=.returned (.tuple #[])∧cI b B v (a.mergeSort (·≤·))∧Kb v.ownBlock.toList w b
theorem mX(P:Program)(t a e:TypeId)(i:TypeInfo)(d:P.underlying t=some (.slice e))(f:P.info? e=some i)(b x:Option Addr)(l k g:Nat)(h:l≤k)(w:vF) :
  (Ka #[t,t] a #[.slice b l k,.slice x 0 g]).run P w=.ok (.slice b l k) w:=by
 unfold Ka;cases b<;>cases x<;>simp[run_underlying d,Builtin.lenOf,Builtin.firstCells,storeCells,loadCells,loadCellsFrom,h,sizeOf,typeInfo,f]
theorem lM{P:Program}(w:vF){b:Array Oper}{o:Oper}{a:Act}{K:Act→vF→Prop}{Q:Exit→Act→vF→Prop}{E:Prop}(f:o.guard=none)(d x:Operand)(t:TypeId)
  (g:o.op=.call { callee:=.builtin .append,args:=#[d,x],argTypes:=#[t,t] }) (v e:Value) (i:a.eval d=v) (j:a.eval x=e) (hr:∀k,(Ka #[t,t] k #[v,e]).run P w=.ok v w) (h:K (a.put o.dst v) w) :
  if Ll o (yielded b a.tmps)=true then Oper.wp P o a w K Q else E:=by
 have l:Ll o (yielded b a.tmps)=true:=by simp[Ll,f]
 rw[if_pos l];unfold Oper.wp execOp;simp only[g,resolve,invoke,builtin,Sem.run_bind,Sem.run_pure,Result.andThen_ok,List.map_toArray,List.map_cons,List.map_nil,i,j,hr];exact h
theorem EF{wr W a:vF}{b o g cp:Nat}{k:Array Value}{T:TypeId}{i:Value}{xs ys:List Nat}(l:cI wr B i xs)(j:wr.heap[b]?=some (.cells k T (0,0)))(t:T≠TN)(d:Kb [] wr W)(m:W.grownBy a i.ownBlock)(q:i.ownBlock=some g∨g=W.heap.size)
  (u:a.ownsRow B TN 1 (.slice (some ⟨g,0,none⟩) (xs.length+ys.length) cp) (xs.length+ys.length) (dO xs++dO ys)) (w:∀y∈ys,y<18446744073709551616) :
  cI (a.setCell ⟨b,o,none⟩ (.slice (some ⟨g,0,none⟩) (xs.length+ys.length) cp)) B (.slice (some ⟨g,0,none⟩) (xs.length+ys.length) cp) (xs++ys)∧SetCh wr (a.setCell ⟨b,o,none⟩ (.slice (some ⟨g,0,none⟩) (xs.length+ys.length) cp)) b o k T i (.slice (some ⟨g,0,none⟩) (xs.length+ys.length) cp):=by
 have r:=l.ne j t;have x:g≠b:=by
  rcases q with e|e
  ·intro z;subst z;exact r e
  ·have E:=aB j;have F:=d.size;omega
 have A:a.heap[b]?=some (.cells k T (0,0)):=(m.block b (Nat.lt_of_lt_of_le (aB j) d.size) (fun e=>r e.symm)).trans (d.heap j (by simp));refine⟨?_,?_,?_,?_⟩
 ·have C:cI a B (.slice (some ⟨g,0,none⟩) (xs.length+ys.length) cp) (xs++ys):=by
   refine⟨?_,fun y f=>?_⟩
   ·have D:dO (xs++ys)=dO xs++dO ys:=by simp[dO]
    rw[D,A4];exact u
   ·rcases List.mem_append.1 f with h|h
    ·exact l.2 y h
    ·exact w y h
  exact C.kb ((Kb.refl [b] a).setCell (p:=⟨b,o,none⟩) (.inl (by simp)) _) (by intro y f;rw[A1.1 f];intro e;cases e;exact x rfl)
 ·rw[aI A]
 ·refine Kb.setCell ?_ (p:=⟨b,o,none⟩) (.inl (by simp)) _;refine(d.mono (by simp)).grown m (fun y f=>.inl (by simp[f]))
 ·rcases q with e|e
  ·exact .inl e.symm
  ·exact .inr ⟨g,rfl,by rw[e];exact d.size⟩
theorem GM.ja{w:vF}{G:GV}(h:GM w B c n G s):GM (w.setCell ⟨G.bl,3,none⟩ (.slice none 0 0)) B c n { G with vc:=.slice none 0 0 } { s with come:=[] }∧GCh w (w.setCell ⟨G.bl,3,none⟩ (.slice none 0 0)) G { G with vc:=.slice none 0 0 }:=by
 have a:Kb [G.bl] w (w.setCell ⟨G.bl,3,none⟩ (.slice none 0 0)):=(Kb.refl _ _).setCell (p:=⟨G.bl,3,none⟩) (.inl (by simp)) _;have d:∀ {v:Value},v.ownBlock≠some G.bl→∀g∈[G.bl],v.ownBlock≠some g:=fun f g l=>by rw[A1.1 l];exact f
 have i:∀v:Value,eR v (.slice none 0 0):=fun v g _ e=>by cases e
 refine⟨⟨Nat.le_trans h.hB a.size,a.heap h.hbg ?_,a.heap h.hbn ?_,?_,h.lnv,h.lss,fun k v t f j=>(h.sN k v t f j).kb a (d ((h.sN k v t f j).ne h.hbl (by decide))),h.sS.kb a (d (h.sS.ne h.hbl (by decide))),h.sI.kb a (d (h.sI.ne h.hbl (by decide))),h.aNN,h.aNS,h.aNI,h.aSI,
  h.oA.kb a (d (h.oA.ne h.hbl (by decide))),h.cls,h.oN.kb a (d (h.oN.ne h.hbl (by decide))),cI.nil _ _,h.aAN,i _,i _,h.lo,h.n40,⟨h.lw.1,by simp⟩,h.un,h.ord⟩,a.mono (fun k _ m=>by rw[A1.1 m];exact aG.2 (.inr (.inr (.inl rfl)))),fun b o=>.inl ?_,rfl,rfl,rfl⟩
 ·simp;exact aP h.hbg h.hbl (by decide)
 ·simp;exact aP h.hbn h.hbl (by decide)
 ·rw[aI h.hbl];rfl
 ·rcases aG.1 o with e|e|e|e|e|e|e|e|e
  ·exact aG.2 (.inl e)
  ·exact aG.2 (.inr (.inl e))
  ·exact aG.2 (.inr (.inr (.inl e)))
  ·exact aG.2 (.inr (.inr (.inr (.inl e))))
  ·exact aG.2 (.inr (.inr (.inr (.inr (.inl e)))))
  ·exact aG.2 (.inr (.inr (.inr (.inr (.inr (.inl e))))))
  ·exact aG.2 (.inr (.inr (.inr (.inr (.inr (.inr (.inl e)))))))
  ·exact aG.2 (.inr (.inr (.inr (.inr (.inr (.inr (.inr (.inl e))))))))
  ·cases e
set_option maxRecDepth 100000 in
set_option maxHeartbeats 4000000 in
theorem Bd(hS:c.order=2→tR B)(w:vF)(G:GV)(h:GM w B c n G s)(b9:s.now.length≤100)(ba:s.come.length≤40) :
  Calls hE 113 #[.pointer (some ⟨G.bl,0,none⟩)] w fun e w'=>e=.returned (.tuple #[])∧∃y,GM w' B c n y (s.letIn c.order)∧GCh w w' G y:=by
 obtain⟨i0,hi,ay,az,aV⟩:=info_parts CH;obtain⟨bb,bc⟩:=h.ord;obtain⟨a,b,D,ae⟩:=h.oN.form;obtain⟨ac,E,a1,T⟩:=h.oC.form;have q:=h.hbl;have c0:w.cell? ⟨G.bl,0,none⟩=some (.int .i64 c.order):=by rw[aC q];rfl
 have c2:w.cell? ⟨G.bl,2,none⟩=some (.slice a s.now.length b):=by rw[aC q];exact congrArg some D
 have c3:w.cell? ⟨G.bl,3,none⟩=some (.slice ac s.come.length E):=by rw[aC q];exact congrArg some a1
 have f2:w.frozen? ⟨G.bl,2,none⟩=false:=aE q 2;have f3:w.frozen? ⟨G.bl,3,none⟩=false:=aE q 3;obtain⟨U,V⟩:∃U,U=c.order:=⟨_,rfl⟩;rw[← V]at c0;have af:=aA h;by_cases a2:U=2∧s.now≠[]
 ·have hl:0<s.now.length:=K7.2 a2.2;have z:s.letIn c.order=s:=by
   unfold St.letIn;rw[if_pos];rw[← V,a2.1];cases hn:s.now with
   |nil=>exact absurd hn a2.2
   |cons bd be=>rfl
  have N:I3 (GM w B c n G (s.letIn c.order)):=aA (by rw[z];exact h);obtain⟨p,_⟩:=a2;subst p;clear h q z V;go_enter Ly,Lp
  go_wp2;refine bodyPost_ret (results_none rfl _ _ _) rfl ?_
  exact⟨rfl,_,N.out,GCh.refl _ _⟩
 ·have ag:=aA a1;have A:=aA V;by_cases p:U=2
  ·have ah:s.now=[]:=by
    by_cases e:s.now=[]
    ·exact e
    ·exact absurd ⟨p,e⟩ a2
   have X:s.now.length=0:=by rw[ah];rfl
   by_cases O:s.come=[]
   ·have a3:s.come.length=0:=by rw[O];rfl
    have b0:s.now.length≤b:=by
     have:=h.oN.1.2;rw[D]at this;rcases this with⟨e,h9⟩|⟨g',b1,b2,e,_,_,h1,_⟩
     ·injection e with _ _ e6;omega
     ·injection e with _ _ e6;omega
    have a4:∀F (W:vF),(Ka #[106,106] F #[.slice a 0 b,.slice ac 0 E]).run hE W=.ok (.slice a 0 b) W:=fun F W=>mX hE _ F _ i0 KM hi a ac _ _ E (by omega) W
    have k:I3 (G.vn=.slice a 0 b):=aA (by rw[D];rw[X]);have l:I3 (∀W,iP w W→GM (W.setCell ⟨G.bl,2,none⟩ (.slice a 0 b)) B c n G { s with now:=s.now++s.come }∧GCh w (W.setCell ⟨G.bl,2,none⟩ (.slice a 0 b)) G G):=by
     refine aA (fun W C=>?_);have f:=h.same C;have P:SetCh W (W.setCell ⟨G.bl,2,none⟩ (.slice a 0 b)) G.bl 2 (gG c G) TL G.vn G.vn:=by refine⟨?_,(Kb.refl _ _).setCell (p:=⟨G.bl,2,none⟩) (.inl (by simp)) _,.inl rfl⟩;rw[aI f.hbl,k.out]
     have ho:cI (W.setCell ⟨G.bl,2,none⟩ (.slice a 0 b)) B G.vn (s.now++s.come):=by rw[O,JK];exact f.oN.kb ((Kb.refl [G.bl] W).setCell (p:=⟨G.bl,2,none⟩) (.inl (by simp)) _) (by intro g aj;rw[A1.1 aj];exact f.oN.ne f.hbl (by decide))
     obtain⟨H,I⟩:=f.jk P ho (by rw[O,JK];omega);exact⟨H,(GCh.same C G).trans I⟩
    rw[a3]at c3;rw[X]at c2;rw[p]at c0;clear h q ae T D a1 V;go_enter Ly,Lp
    have ak:=aA a4;clear a4;go_wp2;go_region_law (refine lM _ rfl (.tmp 19) (.tmp 23) 106 rfl _ _ (by simp[Act.eval]) (by simp[Act.eval]) (fun F=>ak.out F _) ?_)
    all_goals
     have a5:=l.out w.drew ⟨rfl,rfl,rfl,rfl⟩;clear l;have l:=aA a5;clear a5;rw[← a3]at c3;have r:=l.out.1.hbl;have al:(w.drew.setCell ⟨G.bl,2,none⟩ (.slice a 0 b)).cell? ⟨G.bl,3,none⟩=some (.slice ac s.come.length E):=by rw[aC r];exact congrArg some ag.out
     have am:(w.drew.setCell ⟨G.bl,2,none⟩ (.slice a 0 b)).frozen? ⟨G.bl,3,none⟩=false:=aE r 3;obtain⟨i,J⟩:=l.out.1.ja;have o:=i.hbl;have a6:((w.drew.setCell ⟨G.bl,2,none⟩ (.slice a 0 b)).setCell ⟨G.bl,3,none⟩ (.slice none 0 0)).cell? ⟨G.bl,0,none⟩=some (.int .i64 U):=by rw[aC o,A.out];rfl
     have K:=aA (And.intro i (l.out.2.trans J));have z:s.letIn c.order={ s with now:=(s.now++s.come).mergeSort (·≤·),come:=[] }:=by unfold St.letIn;rw[← A.out,p,if_neg (by rw[ah];simp)];rfl
     have HE:=aA z;have b3:((w.drew.setCell ⟨G.bl,2,none⟩ (.slice a 0 b)).setCell ⟨G.bl,3,none⟩ (.slice none 0 0)).cell? ⟨G.bl,2,none⟩=some (.slice a 0 b):=by rw[aC o];exact congrArg some k.out
     have Q:=hS (by rw[← A.out,p]) _ (s.now++s.come) _ i.oN (by rw[A4];omega);have M:=k.out;try dsimp only at M
     try dsimp only at Q
     rw[M]at Q;have b4:=aA p;rw[p]at a6;clear i J o r z A M;go_wp2_with fail
     refine Q.mono ?_
     clear Q;rintro e Z ⟨rfl,o4,R⟩;have N:I3 (∃y,GM Z B c n y (s.letIn c.order)∧GCh w Z G y):=by
      refine aA ?_
      have i:=K.out.1;have o:=i.hbl;have ao:=i.oN;have M:G.vn=.slice a 0 b:=k.out;replace R:Kb G.vn.ownBlock.toList ((w.drew.setCell ⟨G.bl,2,none⟩ (.slice a 0 b)).setCell ⟨G.bl,3,none⟩ (.slice none 0 0)) Z:=by rw[M];exact R
      replace o4:cI Z B G.vn ((s.now++s.come).mergeSort (·≤·)):=by rw[M];exact o4
      have ap:=R.heap o (by simp;exact ao.ne o (by decide));obtain⟨H,I⟩:=i.jk (v':=_) ⟨by rw[ap];rfl,R.mono (by intro b5 _ P;simp at P;simp[P]),.inl rfl⟩ o4 (by rw[Nz,A4];omega);rw[HE.out];exact⟨_,H,K.out.2.trans I⟩
     clear o4 R;go_wp2;go_end0
     exact⟨rfl,N.out⟩
   ·have a0:0<s.come.length:=K7.2 O;obtain⟨t,rfl⟩:∃t,ac=some ⟨t,0,none⟩:=by
     obtain⟨g,e,_⟩:=T 0 (s.come[0]'a0) (hZ a0);exact⟨g,e⟩
    have k:I3 (G.vn=.slice a 0 b):=aA (by rw[D];rw[X]);have a7:I3 (∀W,iP w W→W.ownsRow B 144 1 (.slice a 0 b) 0 (dO s.now)):=by refine aA (fun W C=>?_);have:=(h.same C).oN.1;rw[k.out,X]at this;exact this
    have a8:I3 (∀W,iP w W→∀j u,(dO s.come)[j]?=some u→W.cell? ((⟨t,0,none⟩:Addr).add j)=some u):=by
     refine aA (fun W C j u L=>?_);have aq:(⟨t,0,none⟩:Addr).add j=⟨t,j,none⟩:=by unfold Addr.add;split<;>simp_all
     have hj:=(II.1 L).1;rw[fY]at hj;obtain⟨x,hx⟩:∃x,s.come[j]?=some x:=⟨_,hZ hj⟩;obtain⟨g,e,f,_⟩:=T j x hx;cases e;rw[lI hx]at L;cases L;rw[aq];unfold World.cell? at f ⊢;rw[C.1];exact f
    have ar:I3 (G.bl<w.heap.size):=aA (aB q);have au:I3 ((Value.slice a 0 b).ownBlock≠some G.bl):=aA (by have:=h.oN.ne q (by decide);rw[k.out]at this;exact this);have a9:I3 (w.heap[G.bl]?=some (.cells (gG c G) TL (0,0))):=aA q;have av:=h.hB;have aw:=h.oC.2;rw[X]at c2;rw[p]at c0;clear h q ae T D a1 V;go_enter Ly,Lp
    go_wp2;go_region_law (refine step_append_lies w.drew rfl (.tmp 19) (.tmp 23) 106 rfl B 144 i0 (.int .u64 0) 1 8 KM hi ay az aV rfl (by decide) (.slice a 0 b) 0 (dO s.now) (by simp[Act.eval]) (a7.out w.drew ⟨rfl,rfl,rfl,rfl⟩) ⟨t,0,none⟩ s.come.length E (dO s.come) (by simp[Act.eval]) (by rw[fY,Nat.mul_one]) (a8.out w.drew ⟨rfl,rfl,rfl,rfl⟩) (by intro u L;obtain⟨x,_,rfl⟩:=List.mem_map.1 L;rfl) a0 (by unfold maxLen;omega) (by omega) av _ rfl ?_;intro g d m S f aa ax;have ab:m.heap[G.bl]?=some (.cells (gG c G) TL (0,0)):=(f.block G.bl ar.out (fun e=>au.out e.symm)).trans a9.out;have b6:m.cell? ⟨G.bl,2,none⟩=some (.slice a 0 b):=(aC ab 2).trans (congrArg some k.out);have b7:m.frozen? ⟨G.bl,2,none⟩=false:=aE ab 2)
    all_goals
     have l:I3 (GM (m.setCell ⟨G.bl,2,none⟩ (.slice (some ⟨g,0,none⟩) s.come.length d)) B c n { G with vn:=.slice (some ⟨g,0,none⟩) s.come.length d } { s with now:=s.now++s.come }∧GCh w (m.setCell ⟨G.bl,2,none⟩ (.slice (some ⟨g,0,none⟩) s.come.length d)) G { G with vn:=.slice (some ⟨g,0,none⟩) s.come.length d }):=by
      refine aA ?_
      have hX:=EF (o:=2) (cp:=d) (g:=g) (ys:=s.come) af.out.oN a9.out (by decide) (W:=w.drew) (iP.kb (w:=w) (W:=w.drew) ⟨rfl,rfl,rfl,rfl⟩ []) (by rw[k.out];exact f) (by rw[k.out];exact aa) (by first|exact S|(rw[X,JR];rw[JR]at S;exact S)) aw;rw[X,JR]at hX;obtain⟨H,I⟩:=af.out.jk hX.2 hX.1 (by rw[A4];omega);exact⟨H,I⟩
     have ad:I3 (({ G with vn:=.slice (some ⟨g,0,none⟩) s.come.length d }:GV).vn=.slice (some ⟨g,0,none⟩) s.come.length d):=aA rfl;clear k;have k:=ad;clear ad S f aa ax a7 a8;have r:=l.out.1.hbl;have al:(m.setCell ⟨G.bl,2,none⟩ (.slice (some ⟨g,0,none⟩) s.come.length d)).cell? ⟨G.bl,3,none⟩=some (.slice (some ⟨t,0,none⟩) s.come.length E):=by rw[aC r];exact congrArg some ag.out
     have am:(m.setCell ⟨G.bl,2,none⟩ (.slice (some ⟨g,0,none⟩) s.come.length d)).frozen? ⟨G.bl,3,none⟩=false:=aE r 3;obtain⟨i,J⟩:=l.out.1.ja;have o:=i.hbl;have a6:((m.setCell ⟨G.bl,2,none⟩ (.slice (some ⟨g,0,none⟩) s.come.length d)).setCell ⟨G.bl,3,none⟩ (.slice none 0 0)).cell? ⟨G.bl,0,none⟩=some (.int .i64 U):=by rw[aC o,A.out];rfl
     have K:=aA (And.intro i (l.out.2.trans J));have z:s.letIn c.order={ s with now:=(s.now++s.come).mergeSort (·≤·),come:=[] }:=by unfold St.letIn;rw[← A.out,p,if_neg (by rw[ah];simp)];rfl
     have HE:=aA z;have b3:((m.setCell ⟨G.bl,2,none⟩ (.slice (some ⟨g,0,none⟩) s.come.length d)).setCell ⟨G.bl,3,none⟩ (.slice none 0 0)).cell? ⟨G.bl,2,none⟩=some (.slice (some ⟨g,0,none⟩) s.come.length d):=by rw[aC o];exact congrArg some k.out
     have Q:=hS (by rw[← A.out,p]) _ (s.now++s.come) _ i.oN (by rw[A4];omega);have M:=k.out;try dsimp only at M
     try dsimp only at Q
     rw[M]at Q;have b4:=aA p;rw[p]at a6;clear i J o r z A M;go_wp2_with fail
     refine Q.mono ?_
     clear Q;rintro e Z ⟨rfl,o4,R⟩;have N:I3 (∃y,GM Z B c n y (s.letIn c.order)∧GCh w Z G y):=by
      refine aA ?_
      have i:=K.out.1;have o:=i.hbl;have ao:=i.oN;have ap:=R.heap o (by simp;exact ao.ne o (by decide));obtain⟨H,I⟩:=i.jk (v':=_) ⟨by rw[ap];rfl,R.mono (by intro b5 _ P;simp at P;simp[P]),.inl rfl⟩ o4 (by rw[Nz,A4];omega);rw[HE.out];exact⟨_,H,K.out.2.trans I⟩
     clear o4 R;go_wp2;go_end0
     exact⟨rfl,N.out⟩
  · -- no bf
   by_cases O:s.come=[]
   ·have a3:s.come.length=0:=by rw[O];rfl
    have b0:s.now.length≤b:=by
     have:=h.oN.1.2;rw[D]at this;rcases this with⟨e,h9⟩|⟨g',b1,b2,e,_,_,h1,_⟩
     ·injection e with _ _ e6;omega
     ·injection e with _ _ e6;omega
    have a4:∀F (W:vF),(Ka #[106,106] F #[.slice a s.now.length b,.slice ac 0 E]).run hE W=.ok (.slice a s.now.length b) W:=fun F W=>mX hE _ F _ i0 KM hi a ac _ _ E (by omega) W
    have k:I3 (G.vn=.slice a s.now.length b):=aA (by rw[D]);have l:I3 (∀W,iP w W→GM (W.setCell ⟨G.bl,2,none⟩ (.slice a s.now.length b)) B c n G { s with now:=s.now++s.come }∧GCh w (W.setCell ⟨G.bl,2,none⟩ (.slice a s.now.length b)) G G):=by
     refine aA (fun W C=>?_);have f:=h.same C;have P:SetCh W (W.setCell ⟨G.bl,2,none⟩ (.slice a s.now.length b)) G.bl 2 (gG c G) TL G.vn G.vn:=by refine⟨?_,(Kb.refl _ _).setCell (p:=⟨G.bl,2,none⟩) (.inl (by simp)) _,.inl rfl⟩;rw[aI f.hbl,k.out]
     have ho:cI (W.setCell ⟨G.bl,2,none⟩ (.slice a s.now.length b)) B G.vn (s.now++s.come):=by rw[O,JK];exact f.oN.kb ((Kb.refl [G.bl] W).setCell (p:=⟨G.bl,2,none⟩) (.inl (by simp)) _) (by intro g aj;rw[A1.1 aj];exact f.oN.ne f.hbl (by decide))
     obtain⟨H,I⟩:=f.jk P ho (by rw[O,JK];omega);exact⟨H,(GCh.same C G).trans I⟩
    rw[a3]at c3;clear h q ae T D a1 V;go_enter Ly,Lp
    have ak:=aA a4;clear a4;go_wp2;go_region_law (refine lM _ rfl (.tmp 19) (.tmp 23) 106 rfl _ _ (by simp[Act.eval]) (by simp[Act.eval]) (fun F=>ak.out F _) ?_)
    all_goals
     have a5:=l.out w.drew ⟨rfl,rfl,rfl,rfl⟩;clear l;have l:=aA a5;clear a5;rw[← a3]at c3;have r:=l.out.1.hbl;have al:(w.drew.setCell ⟨G.bl,2,none⟩ (.slice a s.now.length b)).cell? ⟨G.bl,3,none⟩=some (.slice ac s.come.length E):=by rw[aC r];exact congrArg some ag.out
     have am:(w.drew.setCell ⟨G.bl,2,none⟩ (.slice a s.now.length b)).frozen? ⟨G.bl,3,none⟩=false:=aE r 3;obtain⟨i,J⟩:=l.out.1.ja;have o:=i.hbl;have a6:((w.drew.setCell ⟨G.bl,2,none⟩ (.slice a s.now.length b)).setCell ⟨G.bl,3,none⟩ (.slice none 0 0)).cell? ⟨G.bl,0,none⟩=some (.int .i64 U):=by rw[aC o,A.out];rfl
     have K:=aA (And.intro i (l.out.2.trans J));have z:s.letIn c.order={ s with now:=s.now++s.come,come:=[] }:=by unfold St.letIn;rw[← A.out,if_neg (by simp[p]),if_neg (by simp[p])]
     have N:I3 (∃y,GM ((w.drew.setCell ⟨G.bl,2,none⟩ (.slice a s.now.length b)).setCell ⟨G.bl,3,none⟩ (.slice none 0 0)) B c n y (s.letIn c.order)∧GCh w ((w.drew.setCell ⟨G.bl,2,none⟩ (.slice a s.now.length b)).setCell ⟨G.bl,3,none⟩ (.slice none 0 0)) G y):=aA (by rw[z];exact⟨_,K.out.1,K.out.2⟩);clear i J o r z A;go_wp2;go_end0
     exact⟨rfl,N.out⟩
   ·have a0:0<s.come.length:=K7.2 O;obtain⟨t,rfl⟩:∃t,ac=some ⟨t,0,none⟩:=by
     obtain⟨g,e,_⟩:=T 0 (s.come[0]'a0) (hZ a0);exact⟨g,e⟩
    have k:I3 (G.vn=.slice a s.now.length b):=aA (by rw[D]);have a7:I3 (∀W,iP w W→W.ownsRow B 144 1 (.slice a s.now.length b) s.now.length (dO s.now)):=by refine aA (fun W C=>?_);have:=(h.same C).oN.1;rw[k.out]at this;exact this
    have a8:I3 (∀W,iP w W→∀j u,(dO s.come)[j]?=some u→W.cell? ((⟨t,0,none⟩:Addr).add j)=some u):=by
     refine aA (fun W C j u L=>?_);have aq:(⟨t,0,none⟩:Addr).add j=⟨t,j,none⟩:=by unfold Addr.add;split<;>simp_all
     have hj:=(II.1 L).1;rw[fY]at hj;obtain⟨x,hx⟩:∃x,s.come[j]?=some x:=⟨_,hZ hj⟩;obtain⟨g,e,f,_⟩:=T j x hx;cases e;rw[lI hx]at L;cases L;rw[aq];unfold World.cell? at f ⊢;rw[C.1];exact f
    have ar:I3 (G.bl<w.heap.size):=aA (aB q);have au:I3 ((Value.slice a s.now.length b).ownBlock≠some G.bl):=aA (by have:=h.oN.ne q (by decide);rw[k.out]at this;exact this);have a9:I3 (w.heap[G.bl]?=some (.cells (gG c G) TL (0,0))):=aA q;have av:=h.hB;have aw:=h.oC.2;clear h q ae T D a1 V;go_enter Ly,Lp
    go_wp2;go_region_law (refine step_append_lies w.drew rfl (.tmp 19) (.tmp 23) 106 rfl B 144 i0 (.int .u64 0) 1 8 KM hi ay az aV rfl (by decide) (.slice a s.now.length b) s.now.length (dO s.now) (by simp[Act.eval]) (a7.out w.drew ⟨rfl,rfl,rfl,rfl⟩) ⟨t,0,none⟩ s.come.length E (dO s.come) (by simp[Act.eval]) (by rw[fY,Nat.mul_one]) (a8.out w.drew ⟨rfl,rfl,rfl,rfl⟩) (by intro u L;obtain⟨x,_,rfl⟩:=List.mem_map.1 L;rfl) a0 (by unfold maxLen;omega) (by omega) av _ rfl ?_;intro g d m S f aa ax;have ab:m.heap[G.bl]?=some (.cells (gG c G) TL (0,0)):=(f.block G.bl ar.out (fun e=>au.out e.symm)).trans a9.out;have b6:m.cell? ⟨G.bl,2,none⟩=some (.slice a s.now.length b):=(aC ab 2).trans (congrArg some k.out);have b7:m.frozen? ⟨G.bl,2,none⟩=false:=aE ab 2)
    all_goals
     have l:I3 (GM (m.setCell ⟨G.bl,2,none⟩ (.slice (some ⟨g,0,none⟩) (s.now.length+s.come.length) d)) B c n { G with vn:=.slice (some ⟨g,0,none⟩) (s.now.length+s.come.length) d } { s with now:=s.now++s.come }∧GCh w (m.setCell ⟨G.bl,2,none⟩ (.slice (some ⟨g,0,none⟩) (s.now.length+s.come.length) d)) G { G with vn:=.slice (some ⟨g,0,none⟩) (s.now.length+s.come.length) d }):=by
      refine aA ?_
      have hX:=EF (o:=2) (cp:=d) (g:=g) (ys:=s.come) af.out.oN a9.out (by decide) (W:=w.drew) (iP.kb (w:=w) (W:=w.drew) ⟨rfl,rfl,rfl,rfl⟩ []) (by rw[k.out];exact f) (by rw[k.out];exact aa) (by first|exact S|(rw[X,JR];rw[JR]at S;exact S)) aw;obtain⟨H,I⟩:=af.out.jk hX.2 hX.1 (by rw[A4];omega);exact⟨H,I⟩
     have ad:I3 (({ G with vn:=.slice (some ⟨g,0,none⟩) (s.now.length+s.come.length) d }:GV).vn=.slice (some ⟨g,0,none⟩) (s.now.length+s.come.length) d):=aA rfl;clear k;have k:=ad;clear ad S f aa ax a7 a8;have r:=l.out.1.hbl;have al:(m.setCell ⟨G.bl,2,none⟩ (.slice (some ⟨g,0,none⟩) (s.now.length+s.come.length) d)).cell? ⟨G.bl,3,none⟩=some (.slice (some ⟨t,0,none⟩) s.come.length E):=by rw[aC r];exact congrArg some ag.out
     have am:(m.setCell ⟨G.bl,2,none⟩ (.slice (some ⟨g,0,none⟩) (s.now.length+s.come.length) d)).frozen? ⟨G.bl,3,none⟩=false:=aE r 3;obtain⟨i,J⟩:=l.out.1.ja;have o:=i.hbl;have a6:((m.setCell ⟨G.bl,2,none⟩ (.slice (some ⟨g,0,none⟩) (s.now.length+s.come.length) d)).setCell ⟨G.bl,3,none⟩ (.slice none 0 0)).cell? ⟨G.bl,0,none⟩=some (.int .i64 U):=by rw[aC o,A.out];rfl
     have K:=aA (And.intro i (l.out.2.trans J));have z:s.letIn c.order={ s with now:=s.now++s.come,come:=[] }:=by unfold St.letIn;rw[← A.out,if_neg (by simp[p]),if_neg (by simp[p])]
     have N:I3 (∃y,GM ((m.setCell ⟨G.bl,2,none⟩ (.slice (some ⟨g,0,none⟩) (s.now.length+s.come.length) d)).setCell ⟨G.bl,3,none⟩ (.slice none 0 0)) B c n y (s.letIn c.order)∧GCh w ((m.setCell ⟨G.bl,2,none⟩ (.slice (some ⟨g,0,none⟩) (s.now.length+s.come.length) d)).setCell ⟨G.bl,3,none⟩ (.slice none 0 0)) G y):=aA (by rw[z];exact⟨_,K.out.1,K.out.2⟩);clear i J o r z A;go_wp2;go_end0
     exact⟨rfl,N.out⟩
end
end Go.Proofs.YtiamlbhkiehilaaGreatDoor
