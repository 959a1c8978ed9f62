import Derived.Test.YtiamlbhkiehilaaGreatDoorKa47
import Derived.Test.YtiamlbhkiehilaaGreatDoorKa48
import Derived.Test.YtiamlbhkiehilaaGreatDoorKa46
import Derived.Test.YtiamlbhkiehilaaGreatDoorKa36
open Bool renaming false_and→Na,false_or→JF,true_or→KQ
open Go renaming World→vF,Value→sA,maxLen→IU,Calls→I5,bodyPost_ret→IG,results→Jl
open Go.Builtin renaming copy_→MZ,lenOf→Ot,firstCells→NG
open Go.Op renaming bytesLess→Jc
open Go.Proofs.Tryz renaming prog→hE,func28→NQ,ntmps28→Nw,underlying36→JN,results43→Lc,underlying40→KZ,results38→Ld
open Go.RowKit renaming Hid→I3
open Go.Value renaming slice→E2,bool→IY,string→F2
open Go.World renaming cell?_of_block→J3,setCell→Mm,block_lt_of_cell?→Nm
open List renaming replicate→A3,getElem?_eq_none→Ja,take_of_length_le→I6,getElem?_append_left→IL,getElem?_toArray→LO,getElem?_eq_getElem→hZ,mem_of_getElem?→IJ,drop_length→LK,length_append→A4,mem_append→IK,length_nil→J1,length_map→JO,append_assoc→JI,cons_append→K1
open Nat renaming zero_add→JR,le_trans→IH,le_of_lt→JA,le_refl→gO,lt_of_lt_of_le→A2,zero_le→IM
open Prod renaming fst→Ml
namespace Go.Proofs.YtiamlbhkiehilaaGreatDoor
set_option maxRecDepth 100000
set_option maxHeartbeats 4000000
section
open Go.RowKit
theorem D9{P:Program}(w:vF)(l q r h:TypeId)(size g k s:Nat)(ao:Option Addr)(c u:Nat)(d:Array sA)(t:TypeId)(b:List sA)
  (m:P.underlying l=some (.slice h)) (n:(P.info? h).map (·.size)=some size) (x:w.heap[g]?=some (.cells d t (0,0))) (y:c≤k) (o:b.length=c*size) (z:ao=none→c=0)
  (A:∀a,ao=some a→∀j v,b[j]?=some v→w.cell? (a.add j)=some v) (C:b.length≤d.size) (h1:∀v∈b,v.oneCell'=true) :
  (MZ #[l,q] r #[.slice (some ⟨g,0,none⟩) k s,.slice ao c u]).run P w =
   .ok (goInt c) (w.setRow g (b++d.toList.drop b.length).toArray):=by
 have e:=run_storeCells_at P g 0 t b 0 d w x (by simpa using C) h1;have D:Nat.min c k=c:=Nat.min_eq_left y;simp only[Nat.add_zero,List.take_zero,List.nil_append,JR]at e;cases f:P.info? h with
 |none=>simp[f]at n
 |some i=>
  have E:i.size=size:=by simpa[f]using n
  cases ao with
  |none=>have G:=z rfl;subst G;have H:b=[]:=List.eq_nil_of_length_eq_zero (by simpa using o);subst H;simp at e;simp[MZ,run_underlying m,Ot,NG,sizeOf,typeInfo,f,e]
  |some a=>have p:=run_loadCells_list (P:=P) w a b (A a rfl);rw[o]at p;simp[MZ,run_underlying m,Ot,NG,sizeOf,typeInfo,f,E,D,p,e]
theorem qV{P:Program}{w:vF}{n:Array Oper}{rest:List Oper}{o:Oper}{a:Act}{Q:Exit→Act→vF→Prop}(x:o.guard=none)(d s:Operand)(i p:TypeId)
  (y:o.op=.call { callee:=.builtin .copy,args:=#[d,s],argTypes:=#[i,p] }) (l:TypeId) (size:Nat) (z:P.underlying i=some (.slice l)) (A:(P.info? l).map (·.size)=some size)
  (g m q:Nat) (ao:Option Addr) (c r:Nat) (hd:a.eval d=.slice (some ⟨g,0,none⟩) m q) (C:a.eval s=.slice ao c r)
  (f:Array sA) (t:TypeId) (u:w.heap[g]?=some (.cells f t (0,0))) (b:List sA) (D:c≤m) (E:b.length=c*size) (G:ao=none→c=0)
  (H:∀a,ao=some a→∀j v,b[j]?=some v→w.cell? (a.add j)=some v) (I:b.length≤f.size) (h1:∀v∈b,v.oneCell'=true)
  (h:∀w',I3 (w'.heap[g]?=some (.cells (b++f.toList.drop b.length).toArray t (0,0)))→w.grownBy w' (some g)→wpList P n Q rest (a.put o.dst (goInt c)) w'):wpList P n Q (o::rest) a w:=by
 refine wpList_plain x fun K J=>?_
 have L:=D9 (P:=P) w i p o.type l size g m q ao c r f t b z A u D E G H I h1;unfold Oper.wp;simp[execOp,y,resolve,invoke,builtin,hd,C,L,Result.andThen];refine J _ _ (h _ (setRow_heap w g _ _ t _ u) ⟨rfl,rfl,rfl,by simp[World.setRow],fun k _ M=>setRow_other w g k _ (fun e=>M (by rw[e]))⟩)
end
section
open Go.RowKit Go.Maps
theorem FY:(hE.info? 48).map (·.size)=some 3:=by kernel_rfl
def zF:Fct:=⟨0,⟨#[]⟩,⟨#[]⟩⟩
theorem oU(A B:List Fct):aY (A++B)=aY A++aY B:=by simp[aY]
theorem Cu(k:Nat):(madeCells (Value.agg #[.int .i64 0,.string ⟨#[]⟩,.string ⟨#[]⟩]).cells (k*3)).toList=aY (A3 k zF):=by
 have e:(Value.agg #[.int .i64 0,.string ⟨#[]⟩,.string ⟨#[]⟩]).cells=#[.int .i64 0,.string ⟨#[]⟩,.string ⟨#[]⟩]:=rfl;have b:aY (A3 k zF)=dJ k [.int .i64 0,.string ⟨#[]⟩,.string ⟨#[]⟩]:=by
  induction k with
  |zero=>rfl
  |succ n c=>rw[List.replicate_succ,jJ,← c];simp[aY,zF]
 rw[e,b];apply List.ext_getElem?;intro j;by_cases a:j<k*3
 ·rw[gC k _ j (by show j<k*3;exact a)];have d:j % 3<3:=Nat.mod_lt _ (by decide);simp[madeCells,a];rcases(by omega:j % 3=0∨j % 3=1∨j % 3=2)with h|h|h<;>simp[h]
 ·rw[Ja (by simp[madeCells];omega),Ja (by rw[iU];show k*3≤j;omega)]
variable {B kb:Nat} {fs:List Value} {F:Value} {ts:List Value} {T:Value} {rs:List Value} {R:Value}
theorem H6(s:ByteArray)(J K:sA)(c:Way)(xs:List Fct)(w:vF)(r:cV J xs w)(a7:qA xs)(b1:capOf J≤IU)(bm:xs.length≤1400000)
  (b2:fs.length % 4=0) (bn:fs.length≤100000000) (t:BookA B kb fs F ts T rs R w) :
  I5 hE 28 #[.pointer (some ⟨kb,0,none⟩),iW 2 s J c K] w fun e w'=>e=.returned (.bool true)∧∃L u,u.length=fs.length+4∧BookA B kb u L ts T rs R w'∧Below B w w':=by
 have b3:B≤w.heap.size:=IH t.f.le (JA (aB t.f.head));have HB:=aA t;obtain⟨i0,b4,b5,b6,b7⟩:=info_parts jU;have M:=aA r;obtain⟨d,g,rfl,_⟩:=r;clear t;unfold iW;go_enter NQ,Nw
 go_wp2_with (first|(at_make;refine wpList_make_full _ rfl _ _ 36 rfl w.heap.size 48 i0 (.agg #[.int .i64 0,.string ⟨#[]⟩,.string ⟨#[]⟩]) 3 JN b4 b5 b6 .i64 .i64 _ _ (xs.length+8) rfl rfl (by simp) (by simp) ?c1 ?c2 ?c3 ?_)|go_in)
 case c1=>rw[b7];omega
 case c2=>unfold IU;omega
 case c3=>simp
 intro x a8 N;have a9:=aD w (.cells #[.int .i64 2,.string s,.slice d xs.length g,.int .i64 c.order,.bool c.cycles,.bool c.collapse,.bool c.subst,.bool c.deltas,K] 78);have aa:Below w.heap.size w (w.alloc (.cells #[.int .i64 2,.string s,.slice d xs.length g,.int .i64 c.order,.bool c.cycles,.bool c.collapse,.bool c.subst,.bool c.deltas,K] 78)):=(Below.refl _ _).alloc (gO _) _;have y:=(N.block w.heap.size (by simp) (by simp)).trans a9;have z:Below w.heap.size w x:=aa.grown N (by simp) (fun j l=>by cases l);obtain⟨f,ab,ad,ae⟩:∃f,x.heap[w.heap.size+1]?=some (.cells f 48 (0,0))∧f.size=(xs.length+8)*3∧f.toList=aY (A3 (xs.length+8) zF):=by
  rcases a8.2 with⟨h,_⟩|⟨af,cp,f,O,_,hg,_,_,hs,ht⟩
  ·cases h
  ·injection O with i e2 e3;injection i with i;injection i with i;subst i e3;refine⟨f,hg,hs,?_⟩;rw[I6 (by rw[Array.length_toList,hs];exact gO _)]at ht;rw[ht];exact Cu _
 have ag:I3 (∀a,d=some a→∀j v,(aY xs)[j]?=some v→x.cell? (a.add j)=some v):=by
  intro a A j v l;obtain⟨b8,b9,P,_,_,ba⟩:=M.out;injection P with Q bb bc;have bd:xs≠[]:=by rintro rfl;simp[aY]at l
  obtain⟨bo,bp,bf,hb,r⟩:=ba bd;rw[Q,bf]at A;injection A with A;subst A;exact(r.below z hb).cells j v l
 have ah:I3 (d=none→xs.length=0):=by intro h;obtain⟨b8,b9,P,bq,hn,_⟩:=M.out;injection P with Q bb bc;have:=hn (Q.symm.trans h);omega
 have cO:x.cell? ⟨w.heap.size,2,none⟩=some (.slice d xs.length g):=by rw[aC y];rfl
 have ai:=aB y;clear a8 N a9;go_wp2_with (first|(refine qV rfl (.tmp 65) (.tmp 67) 36 36 rfl 48 3 JN FY (w.heap.size+1) (xs.length+8) (xs.length+8) d xs.length g rfl rfl f 48 ab (aY xs) (by omega) (dA xs) ah.out ag.out (by rw[dA,ad];omega) (tW xs) ?_;intro b aj S;have ak:=(S.block w.heap.size ai (by simp)).trans y;have al:b.cell? ⟨w.heap.size,2,none⟩=some (.slice d xs.length g):=(by rw[aC ak];rfl);have am:=aB ak))
 have o:Below w.heap.size w b:=z.grown S (by have:=z.size;omega) (fun j l=>by cases l;omega);have an:f.toList.drop (aY xs).length=aY (A3 8 zF):=by rw[ae,← List.replicate_append_replicate,oU,List.drop_left' (by rw[dA,dA,List.length_replicate])]
 have m:b.heap[w.heap.size+1]?=some (.cells (aY (xs++A3 8 zF)).toArray 48 (0,0)):=by rw[oU,← an];exact aj.out
 have ao:cV (.slice (some ⟨w.heap.size+1,0,none⟩) xs.length (xs.length+8)) xs b:=by
  refine⟨_,_,rfl,by omega,(fun h=>by cases h),fun _=>⟨_,_,rfl,aB m,?_⟩⟩;intro bg k ap bh hi;obtain⟨e0,i,e2⟩:=mL (xs++A3 8 zF) bg k ap bh (by rw[IL (aK hi)];exact hi);refine⟨?_,?_,?_⟩
  ·rw[JR,aC m];simpa using e0
  ·rw[JR,aC m];simpa using i
  ·rw[JR,aC m];simpa using e2
 have aq:b.ownsRow B 48 3 (.slice (some ⟨w.heap.size+1,0,none⟩) (xs.length+8) (xs.length+8)) (xs++A3 8 zF).length (aY (xs++A3 8 zF)):=by
  have ar:(xs++A3 8 zF).length=xs.length+8:=by simp
  refine⟨dA _,.inr ⟨_,_,_,by rw[ar],by omega,m,by omega,by unfold IU;omega,?_,?_⟩⟩
  ·rw[List.size_toArray,dA,ar]
  ·rw[I6 (by rw[dA];exact gO _)]
 have U:=aA (fun(W:vF) (h:cV (.slice d xs.length g) xs W)=>Ct (.slice d xs.length g) xs W b1 h a7);have hQ:=B8 _ xs b (by unfold IU;omega) ao a7;clear ag ah ab aj S ad ae an ao cO ai y z aa;refine hQ.mono ?_
 clear hQ;generalize bK [] xs []=bi at *;obtain⟨tx,k,n⟩:=bi;rintro e C ⟨rfl,p⟩;simp only at U ⊢;have bj:=(p.cell (p:=⟨w.heap.size,2,none⟩) am).trans al;have bk:=A2 am p.size;clear al;go_wp2_with fail
 have D:=aD C (.cells #[.int .i64 k,.int .i64 n] 27);have q:Below b.heap.size b (C.alloc (.cells #[.int .i64 k,.int .i64 n] 27)):=p.alloc p.size _;generalize C.alloc (.cells #[.int .i64 k,.int .i64 n] 27)=E at D q ⊢;generalize C.heap.size=be at D ⊢;have au:Below w.heap.size w E:=o.trans (q.mono o.size);refine(U.out E (M.out.below au)).mono ?_
 rintro e G ⟨rfl,V⟩;simp only;clear bj bk p U;have X:=aD G (.cells #[.int .i64 k,.int .i64 n] 27);have Y:Below E.heap.size E (G.alloc (.cells #[.int .i64 k,.int .i64 n] 27)):=V.alloc V.size _;have Z:=Below.fj Y D (aB D);have a4:Below b.heap.size b (G.alloc (.cells #[.int .i64 k,.int .i64 n] 27)):=q.trans (Y.mono q.size);have H:=aM aq a4;have a5:Below w.heap.size w (G.alloc (.cells #[.int .i64 k,.int .i64 n] 27)):=o.trans (a4.mono o.size);have I:=HB.out.below a5;have av:∀v∈fs,v.ownBlock=none∨v.ownBlock≠(E2 (some ⟨w.heap.size+1,0,none⟩) (xs.length+8) (xs.length+8)).ownBlock:=by
  intro v O;cases bl:v.ownBlock with
  |none=>exact .inl rfl
  |some af=>
   refine .inr fun h=>?_
   have h1:=HB.out.lt v (by simp[O]) af bl;injection h with h;simp only at h;omega
 have aw:=vE _ (xs++A3 8 zF) b2 (by omega) (by simp;omega) I H av;go_wp2_with fail
 refine aw.mono ?_
 rintro e w9 ⟨rfl,L,u,ax,ay,az,a6⟩;have aV:=a6.heap Z (qU I.f H Z (by decide) (by decide) (by decide));have b0:=a6.heap X (qU I.f H X (by decide) (by decide) (by decide));obtain⟨a0,a1,_,_⟩:=aH aV;obtain⟨a2,a3,_,_⟩:=aH b0;have q1:=pW k n;have q3:=nH;have HF:=aA (And.intro ax (And.intro ay ((a5.mono b3).trans az)));clear aw av I ay az a6 ax H Z X aV b0 a5 a4 Y V q o au aq m;go_wp2;go_ret
 exact⟨rfl,L,u,HF.out.1,HF.out.2.1,HF.out.2.2⟩
end
section
open Go.RowKit Go.Maps
variable {B kb:Nat} {fs:List Value} {F:Value} {ts:List Value} {T:Value} {rs:List Value} {R:Value}
theorem H7[DP](s:ByteArray)(x y:sA)(c:Way)(w:vF)(m:Int)(E:s.size≤IU)(U:w.cell? ⟨1,0,none⟩=some (.int .i64 m))(V:1<B)(X:bN w)(Y:0<B)
  (z:BookA B kb fs F ts T rs R w) :
  I5 hE 28 #[.pointer (some ⟨kb,0,none⟩),iW 3 s x c y] w fun e w'=>e=.returned (.bool true)∧BookA B kb fs F ts T rs R w'∧Below B w w':=by
 have A:B≤w.heap.size:=IH z.f.le (JA (aB z.f.head));have Z:=aA z;have I:=aA (fun W=>yK s c.order c.cycles c.collapse c.subst c.deltas W E);have J:=aA (fun(W:vF) (C:Below w.heap.size w W)=>AE s c W m E ((C.cell (p:=⟨1,0,none⟩) (by show 1<_;omega)).trans U) (A2 V (IH A C.size)) (X.kb (Kb.gi C []) (by simp)) (A2 Y (IH A C.size)));clear z E;unfold iW;go_enter NQ,Nw
 go_wp2_with fail
 have d:=aD w (.cells #[.int .i64 3,.string s,x,.int .i64 c.order,.bool c.cycles,.bool c.collapse,.bool c.subst,.bool c.deltas,y] 78);have g:Below w.heap.size w (w.alloc (.cells #[.int .i64 3,.string s,x,.int .i64 c.order,.bool c.cycles,.bool c.collapse,.bool c.subst,.bool c.deltas,y] 78)):=(Below.refl _ _).alloc (gO _) _;generalize a3:w.heap.size=a at d ⊢;generalize w.alloc (.cells #[.int .i64 3,.string s,x,.int .i64 c.order,.bool c.cycles,.bool c.collapse,.bool c.subst,.bool c.deltas,y] 78)=f at d g ⊢;have h:=aB d;have K:f.cell? ⟨a,1,none⟩=some (.string s):=by rw[aC d];rfl
 have L:f.cell? ⟨a,3,none⟩=some (.int .i64 c.order):=by rw[aC d];rfl
 have M:f.cell? ⟨a,4,none⟩=some (.bool c.cycles):=by rw[aC d];rfl
 have N:f.cell? ⟨a,5,none⟩=some (.bool c.collapse):=by rw[aC d];rfl
 have O:f.cell? ⟨a,6,none⟩=some (.bool c.subst):=by rw[aC d];rfl
 have P:f.cell? ⟨a,7,none⟩=some (.bool c.deltas):=by rw[aC d];rfl
 refine(J.out f g).mono ?_
 clear J d;generalize anU s c=u at *;generalize dS s c.order=r at *;obtain⟨t,k,n⟩:=r;rintro e l ⟨rfl,b⟩;simp only at I ⊢;have x1:=(b.cell (p:=⟨a,1,none⟩) h).trans K;have x3:=(b.cell (p:=⟨a,3,none⟩) h).trans L;have x4:=(b.cell (p:=⟨a,4,none⟩) h).trans M;have x5:=(b.cell (p:=⟨a,5,none⟩) h).trans N;have x6:=(b.cell (p:=⟨a,6,none⟩) h).trans O;have x7:=(b.cell (p:=⟨a,7,none⟩) h).trans P;have a2:=A2 h b.size;clear K L M N O P;go_wp2_with fail
 have o:=aF (aD l (.cells #[.string t,.int .i64 u] 31)) (.cells #[.int .i64 k,.int .i64 n] 27);have i:=aD (l.alloc (.cells #[.string t,.int .i64 u] 31)) (.cells #[.int .i64 k,.int .i64 n] 27);have j:Below f.heap.size f ((l.alloc (.cells #[.string t,.int .i64 u] 31)).alloc (.cells #[.int .i64 k,.int .i64 n] 27)):=(b.alloc b.size _).alloc (by simp;have:=b.size;omega) _;clear x1 x3 x4 x5 x6 x7 a2;rw[World.size_alloc]at i;generalize (l.alloc (.cells #[.string t,.int .i64 u] 31)).alloc (.cells #[.int .i64 k,.int .i64 n] 27)=w2 at o i j ⊢;generalize l.heap.size=Q at o i ⊢;refine(I.out w2).mono ?_
 rintro e S ⟨rfl,q⟩;have D:=Below.fj q o (aB o);have G:=Below.fj q i (aB i);have r0:S.cell? ⟨Q,0,none⟩=some (.string t):=by rw[aC D];rfl
 have r1:S.cell? ⟨Q,1,none⟩=some (.int .i64 u):=by rw[aC D];rfl
 have a4:=aB D;obtain⟨a0,a1,_,_⟩:=aH G;have q1:=pW k n;have q3:=nH;have H:=aA (And.intro (Z.out.below (g.trans ((j.trans (q.mono j.size)).mono g.size))) ((g.trans ((j.trans (q.mono j.size)).mono g.size)).mono A));have a5:=aB G;clear o i D G q j b g;go_wp2;go_ret
 exact⟨rfl,H.out.1.below ((Below.refl _ _).alloc (gO _) _),H.out.2.alloc (IH A H.out.2.size) _⟩
end
section
open Go.RowKit
def okK(r:RowD)(k:Nat):Bool:=isN r.name && ((r.to.take k).all isN && gA (r.to.take k))
def dQ(r:RowD)(k:Nat):Bool:=eS r.name || (r.to.take k).any eS
theorem FZ{r:RowD}{x:ByteArray}(a:r.to[0]?=some x):okK r 1=(okK r 0 && isN x):=by unfold okK;rw[uB (k:=0) a,zO];cases isN r.name<;>simp[gA]
theorem F4{r:RowD}{j:Nat}{y x:ByteArray}(b:r.to[j]?=some y)(a:r.to[j+1]?=some x):okK r (j+1+1)=(okK r (j+1) && isN x && cK y x):=by unfold okK;rw[uB (k:=j+1) a,wT b a];cases isN r.name<;>cases (r.to.take (j+1)).all isN<;>cases isN x<;>cases gA (r.to.take (j+1))<;>cases cK y x<;>rfl
theorem bQ{r:RowD}{k:Nat}{x:ByteArray}(a:r.to[k]?=some x):dQ r (k+1)=(dQ r k || eS x):=by unfold dQ;rw[zW a,Bool.or_assoc]
theorem GR{r:RowD}{k:Nat}(h:r.to.length≤k):okK r k=(dC r && gA r.to):=by unfold okK dC;rw[I6 h,Bool.and_assoc]
theorem Ea{r:RowD}{k:Nat}(h:r.to.length≤k):dQ r k=fO r:=by unfold dQ fO;rw[I6 h]
theorem pK(n:ByteArray)(v:sA)(ss:List ByteArray)(t:ByteArray)(w:vF)(S:n.size≤IU)(Y:ss.length≤IU)(Z:cY v ss w)(a0:rU ss) :
  I5 hE 76 #[.agg #[.string n,v],.string t] w fun e w'=>e=.returned (.int .i64 (cE ⟨n,ss⟩ t))∧Below w.heap.size w w':=by
 obtain⟨J,K,rfl,_,_,U⟩:=Z;have L:=aA U;clear U;have a1:=S;unfold IU at Y S;have G:Below w.heap.size w (w.alloc (.cells #[.string n,.slice J ss.length K] 51)):=(Below.refl _ _).alloc (gO _) _;have M:=aD w (.cells #[.string n,.slice J ss.length K] 51);go_enter Tryz.func76,Tryz.ntmps76
 go_wp2_with fail
 refine(bM _ _ a1).mono ?_
 rintro e N ⟨rfl,rfl⟩;go_wp2_with fail
 generalize w.alloc (.cells #[.string n,.slice J ss.length K] 51)=N at G M ⊢;have a2:=aB M;go_loopw [5,6,7] (fun a3 a4 i wr=>∃k:Nat,i=.int .i64 k∧k≤ss.length∧a3=.bool (okK ⟨n,ss⟩ k)∧a4=.bool (dQ ⟨n,ss⟩ k)∧Below N.heap.size N wr) (fun _ _ i _=>ss.length-(intOf i).toNat)
 case atStart=>exact⟨0,rfl,IM _,by simp[okK,isN,gA],congrArg IY (by rw[Bool.eq_iff_iff];simp[dQ,eS];omega),Below.refl _ _⟩
 case round=>
  obtain⟨k,rfl,hk,rfl,rfl,g⟩:=hrel;have O:=Below.fj g M a2;have c0:=(aC O 0);have c1:=(aC O 1);simp only[LO,List.getElem?_cons_zero,List.getElem?_cons_succ]at c0 c1;by_cases a5:k<ss.length
  ·obtain⟨x,u⟩:∃x,ss[k]?=some x:=⟨_,hZ a5⟩;obtain⟨a8,a9,a6,V,P⟩:=L.out (bT u);subst a6;have H:=(P.below G V).below (g.mono G.size) V;have d0:=H k x u;have h:=a0 x (IJ u);have aa:(x.size:Int)≤9223372036854775807:=by unfold IU at h;omega
   have m:=aA u;clear O;by_cases X:k=0
   ·subst X;have q:=FZ (r:=⟨n,ss⟩) u;rw[Nat.add_zero]at d0;clear u P L H;cases s:okK ⟨n,ss⟩ 0
    ·cases l:isN x;all_goals
      have d:I3 (okK ⟨n,ss⟩ (0+1)=false):=by unfold I3;rw[q,s,Na]
      have f:I3 (bP x.data.toList=_):=l;clear q s l;cases c:dQ ⟨n,ss⟩ 0
      ·have b:=aA c;clear c;by_cases o:12<x.size
       ·have a:I3 (dQ ⟨n,ss⟩ (0+1)=true):=by unfold I3;rw[bQ m.out,b.out,JF];simp[eS,o]
        go_wp2_with fail
        refine(bM _ _ h).mono ?_
        rintro e p ⟨rfl,rfl⟩;rw[f.out];go_wp2_with fail
        go_quiet (fail)
        go_wp2;go_roundw
        case rel=>exact⟨0+1,by go_num,by omega,congrArg IY d.out.symm,congrArg IY (by first|exact a.out.symm|(rw[a.out];simp<;>omega)),aN g _⟩
        case measure=>simp[intOf];omega
       ·have a:I3 (dQ ⟨n,ss⟩ (0+1)=false):=by unfold I3;rw[bQ m.out,b.out,JF];simp[eS,o]
        go_wp2_with fail
        refine(bM _ _ h).mono ?_
        rintro e p ⟨rfl,rfl⟩;rw[f.out];go_wp2_with fail
        go_quiet (fail)
        go_wp2;go_roundw
        case rel=>exact⟨0+1,by go_num,by omega,congrArg IY d.out.symm,congrArg IY (by first|exact a.out.symm|(rw[a.out];simp<;>omega)),aN g _⟩
        case measure=>simp[intOf];omega
      ·have b:=aA c;clear c;have a:I3 (dQ ⟨n,ss⟩ (0+1)=true):=by unfold I3;rw[bQ m.out,b.out,KQ]
       go_wp2_with fail
       refine(bM _ _ h).mono ?_
       rintro e p ⟨rfl,rfl⟩;rw[f.out];go_wp2_with fail
       go_quiet (fail)
       go_wp2;go_roundw
       case rel=>exact⟨0+1,by go_num,by omega,congrArg IY d.out.symm,congrArg IY (by first|exact a.out.symm|(rw[a.out];simp<;>omega)),aN g _⟩
       case measure=>simp[intOf];omega
    ·cases l:isN x
     ·have d:I3 (okK ⟨n,ss⟩ (0+1)=false):=by unfold I3;rw[q,s,l];rfl
      have f:I3 (bP x.data.toList=_):=l;clear q s l;cases c:dQ ⟨n,ss⟩ 0
      ·have b:=aA c;clear c;by_cases o:12<x.size
       ·have a:I3 (dQ ⟨n,ss⟩ (0+1)=true):=by unfold I3;rw[bQ m.out,b.out,JF];simp[eS,o]
        go_wp2_with fail
        refine(bM _ _ h).mono ?_
        rintro e p ⟨rfl,rfl⟩;rw[f.out];go_wp2_with fail
        go_quiet (fail)
        go_wp2;go_roundw
        case rel=>exact⟨0+1,by go_num,by omega,congrArg IY d.out.symm,congrArg IY (by first|exact a.out.symm|(rw[a.out];simp<;>omega)),aN g _⟩
        case measure=>simp[intOf];omega
       ·have a:I3 (dQ ⟨n,ss⟩ (0+1)=false):=by unfold I3;rw[bQ m.out,b.out,JF];simp[eS,o]
        go_wp2_with fail
        refine(bM _ _ h).mono ?_
        rintro e p ⟨rfl,rfl⟩;rw[f.out];go_wp2_with fail
        go_quiet (fail)
        go_wp2;go_roundw
        case rel=>exact⟨0+1,by go_num,by omega,congrArg IY d.out.symm,congrArg IY (by first|exact a.out.symm|(rw[a.out];simp<;>omega)),aN g _⟩
        case measure=>simp[intOf];omega
      ·have b:=aA c;clear c;have a:I3 (dQ ⟨n,ss⟩ (0+1)=true):=by unfold I3;rw[bQ m.out,b.out,KQ]
       go_wp2_with fail
       refine(bM _ _ h).mono ?_
       rintro e p ⟨rfl,rfl⟩;rw[f.out];go_wp2_with fail
       go_quiet (fail)
       go_wp2;go_roundw
       case rel=>exact⟨0+1,by go_num,by omega,congrArg IY d.out.symm,congrArg IY (by first|exact a.out.symm|(rw[a.out];simp<;>omega)),aN g _⟩
       case measure=>simp[intOf];omega
     ·have d:I3 (okK ⟨n,ss⟩ (0+1)=true):=by unfold I3;rw[q,s,l];rfl
      have f:I3 (bP x.data.toList=_):=l;clear q s l;cases c:dQ ⟨n,ss⟩ 0
      ·have b:=aA c;clear c;by_cases o:12<x.size
       ·have a:I3 (dQ ⟨n,ss⟩ (0+1)=true):=by unfold I3;rw[bQ m.out,b.out,JF];simp[eS,o]
        go_wp2_with fail
        refine(bM _ _ h).mono ?_
        rintro e p ⟨rfl,rfl⟩;rw[f.out];go_wp2_with fail
        go_quiet (fail)
        go_wp2;go_roundw
        case rel=>exact⟨0+1,by go_num,by omega,congrArg IY d.out.symm,congrArg IY (by first|exact a.out.symm|(rw[a.out];simp<;>omega)),aN g _⟩
        case measure=>simp[intOf];omega
       ·have a:I3 (dQ ⟨n,ss⟩ (0+1)=false):=by unfold I3;rw[bQ m.out,b.out,JF];simp[eS,o]
        go_wp2_with fail
        refine(bM _ _ h).mono ?_
        rintro e p ⟨rfl,rfl⟩;rw[f.out];go_wp2_with fail
        go_quiet (fail)
        go_wp2;go_roundw
        case rel=>exact⟨0+1,by go_num,by omega,congrArg IY d.out.symm,congrArg IY (by first|exact a.out.symm|(rw[a.out];simp<;>omega)),aN g _⟩
        case measure=>simp[intOf];omega
      ·have b:=aA c;clear c;have a:I3 (dQ ⟨n,ss⟩ (0+1)=true):=by unfold I3;rw[bQ m.out,b.out,KQ]
       go_wp2_with fail
       refine(bM _ _ h).mono ?_
       rintro e p ⟨rfl,rfl⟩;rw[f.out];go_wp2_with fail
       go_quiet (fail)
       go_wp2;go_roundw
       case rel=>exact⟨0+1,by go_num,by omega,congrArg IY d.out.symm,congrArg IY (by first|exact a.out.symm|(rw[a.out];simp<;>omega)),aN g _⟩
       case measure=>simp[intOf];omega
   ·obtain⟨j,rfl⟩:∃j,k=j+1:=⟨k-1,by omega⟩;obtain⟨y,Q⟩:∃y,ss[j]?=some y:=⟨_,hZ (by omega)⟩;have d1:=H j y Q;have q:=F4 (r:=⟨n,ss⟩) Q u;have ab:((j:Int)+1 == 0)=false:=by rw[beq_eq_false_iff_ne];omega
    clear u P L H Q X;cases s:okK ⟨n,ss⟩ (j+1)
    ·cases l:isN x;all_goals
      have d:I3 (okK ⟨n,ss⟩ (j+1+1)=false):=by unfold I3;rw[q,s,Na,Na]
      have f:I3 (bP x.data.toList=_):=l;clear q s l;cases c:dQ ⟨n,ss⟩ (j+1)
      ·have b:=aA c;clear c;by_cases o:12<x.size
       ·have a:I3 (dQ ⟨n,ss⟩ (j+1+1)=true):=by unfold I3;rw[bQ m.out,b.out,JF];simp[eS,o]
        go_wp2_with fail
        refine(bM _ _ h).mono ?_
        rintro e p ⟨rfl,rfl⟩;rw[f.out];go_wp2_with fail
        go_quiet (fail)
        go_wp2;go_roundw
        case rel=>exact⟨j+1+1,by go_num,by omega,congrArg IY d.out.symm,congrArg IY (by first|exact a.out.symm|(rw[a.out];simp<;>omega)),aN g _⟩
        case measure=>simp[intOf];omega
       ·have a:I3 (dQ ⟨n,ss⟩ (j+1+1)=false):=by unfold I3;rw[bQ m.out,b.out,JF];simp[eS,o]
        go_wp2_with fail
        refine(bM _ _ h).mono ?_
        rintro e p ⟨rfl,rfl⟩;rw[f.out];go_wp2_with fail
        go_quiet (fail)
        go_wp2;go_roundw
        case rel=>exact⟨j+1+1,by go_num,by omega,congrArg IY d.out.symm,congrArg IY (by first|exact a.out.symm|(rw[a.out];simp<;>omega)),aN g _⟩
        case measure=>simp[intOf];omega
      ·have b:=aA c;clear c;have a:I3 (dQ ⟨n,ss⟩ (j+1+1)=true):=by unfold I3;rw[bQ m.out,b.out,KQ]
       go_wp2_with fail
       refine(bM _ _ h).mono ?_
       rintro e p ⟨rfl,rfl⟩;rw[f.out];go_wp2_with fail
       go_quiet (fail)
       go_wp2;go_roundw
       case rel=>exact⟨j+1+1,by go_num,by omega,congrArg IY d.out.symm,congrArg IY (by first|exact a.out.symm|(rw[a.out];simp<;>omega)),aN g _⟩
       case measure=>simp[intOf];omega
    ·cases l:isN x
     ·have d:I3 (okK ⟨n,ss⟩ (j+1+1)=false):=by unfold I3;rw[q,s,l];rfl
      have f:I3 (bP x.data.toList=_):=l;clear q s l;cases c:dQ ⟨n,ss⟩ (j+1)
      ·have b:=aA c;clear c;by_cases o:12<x.size
       ·have a:I3 (dQ ⟨n,ss⟩ (j+1+1)=true):=by unfold I3;rw[bQ m.out,b.out,JF];simp[eS,o]
        go_wp2_with fail
        refine(bM _ _ h).mono ?_
        rintro e p ⟨rfl,rfl⟩;rw[f.out];go_wp2_with fail
        go_quiet (fail)
        go_wp2;go_roundw
        case rel=>exact⟨j+1+1,by go_num,by omega,congrArg IY d.out.symm,congrArg IY (by first|exact a.out.symm|(rw[a.out];simp<;>omega)),aN g _⟩
        case measure=>simp[intOf];omega
       ·have a:I3 (dQ ⟨n,ss⟩ (j+1+1)=false):=by unfold I3;rw[bQ m.out,b.out,JF];simp[eS,o]
        go_wp2_with fail
        refine(bM _ _ h).mono ?_
        rintro e p ⟨rfl,rfl⟩;rw[f.out];go_wp2_with fail
        go_quiet (fail)
        go_wp2;go_roundw
        case rel=>exact⟨j+1+1,by go_num,by omega,congrArg IY d.out.symm,congrArg IY (by first|exact a.out.symm|(rw[a.out];simp<;>omega)),aN g _⟩
        case measure=>simp[intOf];omega
      ·have b:=aA c;clear c;have a:I3 (dQ ⟨n,ss⟩ (j+1+1)=true):=by unfold I3;rw[bQ m.out,b.out,KQ]
       go_wp2_with fail
       refine(bM _ _ h).mono ?_
       rintro e p ⟨rfl,rfl⟩;rw[f.out];go_wp2_with fail
       go_quiet (fail)
       go_wp2;go_roundw
       case rel=>exact⟨j+1+1,by go_num,by omega,congrArg IY d.out.symm,congrArg IY (by first|exact a.out.symm|(rw[a.out];simp<;>omega)),aN g _⟩
       case measure=>simp[intOf];omega
     ·cases C:cK y x
      ·have d:I3 (okK ⟨n,ss⟩ (j+1+1)=false):=by unfold I3;rw[q,s,l,C];rfl
       have f:I3 (bP x.data.toList=_):=l;have a7:Jc y.toList x.toList=false:=C;clear q s l C;cases c:dQ ⟨n,ss⟩ (j+1)
       ·have b:=aA c;clear c;by_cases o:12<x.size
        ·have a:I3 (dQ ⟨n,ss⟩ (j+1+1)=true):=by unfold I3;rw[bQ m.out,b.out,JF];simp[eS,o]
         go_wp2_with fail
         refine(bM _ _ h).mono ?_
         rintro e p ⟨rfl,rfl⟩;rw[f.out];go_wp2_with fail
         go_quiet (fail)
         go_wp2;go_roundw
         case rel=>exact⟨j+1+1,by go_num,by omega,congrArg IY d.out.symm,congrArg IY (by first|exact a.out.symm|(rw[a.out];simp<;>omega)),aN g _⟩
         case measure=>simp[intOf];omega
        ·have a:I3 (dQ ⟨n,ss⟩ (j+1+1)=false):=by unfold I3;rw[bQ m.out,b.out,JF];simp[eS,o]
         go_wp2_with fail
         refine(bM _ _ h).mono ?_
         rintro e p ⟨rfl,rfl⟩;rw[f.out];go_wp2_with fail
         go_quiet (fail)
         go_wp2;go_roundw
         case rel=>exact⟨j+1+1,by go_num,by omega,congrArg IY d.out.symm,congrArg IY (by first|exact a.out.symm|(rw[a.out];simp<;>omega)),aN g _⟩
         case measure=>simp[intOf];omega
       ·have b:=aA c;clear c;have a:I3 (dQ ⟨n,ss⟩ (j+1+1)=true):=by unfold I3;rw[bQ m.out,b.out,KQ]
        go_wp2_with fail
        refine(bM _ _ h).mono ?_
        rintro e p ⟨rfl,rfl⟩;rw[f.out];go_wp2_with fail
        go_quiet (fail)
        go_wp2;go_roundw
        case rel=>exact⟨j+1+1,by go_num,by omega,congrArg IY d.out.symm,congrArg IY (by first|exact a.out.symm|(rw[a.out];simp<;>omega)),aN g _⟩
        case measure=>simp[intOf];omega
      ·have d:I3 (okK ⟨n,ss⟩ (j+1+1)=true):=by unfold I3;rw[q,s,l,C];rfl
       have f:I3 (bP x.data.toList=_):=l;have a7:Jc y.toList x.toList=true:=C;clear q s l C;cases c:dQ ⟨n,ss⟩ (j+1)
       ·have b:=aA c;clear c;by_cases o:12<x.size
        ·have a:I3 (dQ ⟨n,ss⟩ (j+1+1)=true):=by unfold I3;rw[bQ m.out,b.out,JF];simp[eS,o]
         go_wp2_with fail
         refine(bM _ _ h).mono ?_
         rintro e p ⟨rfl,rfl⟩;rw[f.out];go_wp2_with fail
         go_quiet (fail)
         go_wp2;go_roundw
         case rel=>exact⟨j+1+1,by go_num,by omega,congrArg IY d.out.symm,congrArg IY (by first|exact a.out.symm|(rw[a.out];simp<;>omega)),aN g _⟩
         case measure=>simp[intOf];omega
        ·have a:I3 (dQ ⟨n,ss⟩ (j+1+1)=false):=by unfold I3;rw[bQ m.out,b.out,JF];simp[eS,o]
         go_wp2_with fail
         refine(bM _ _ h).mono ?_
         rintro e p ⟨rfl,rfl⟩;rw[f.out];go_wp2_with fail
         go_quiet (fail)
         go_wp2;go_roundw
         case rel=>exact⟨j+1+1,by go_num,by omega,congrArg IY d.out.symm,congrArg IY (by first|exact a.out.symm|(rw[a.out];simp<;>omega)),aN g _⟩
         case measure=>simp[intOf];omega
       ·have b:=aA c;clear c;have a:I3 (dQ ⟨n,ss⟩ (j+1+1)=true):=by unfold I3;rw[bQ m.out,b.out,KQ]
        go_wp2_with fail
        refine(bM _ _ h).mono ?_
        rintro e p ⟨rfl,rfl⟩;rw[f.out];go_wp2_with fail
        go_quiet (fail)
        go_wp2;go_roundw
        case rel=>exact⟨j+1+1,by go_num,by omega,congrArg IY d.out.symm,congrArg IY (by first|exact a.out.symm|(rw[a.out];simp<;>omega)),aN g _⟩
        case measure=>simp[intOf];omega
  ·have HO:=aA (GR (r:=⟨n,ss⟩) (k:=k) (by simp only;omega));have b:=aA (Ea (r:=⟨n,ss⟩) (k:=k) (by simp only;omega));rw[HO.out,b.out];have I:=G.trans (g.mono G.size);simp only;cases z:(dC ⟨n,ss⟩ && gA ss)
   ·have A:I3 (cE ⟨n,ss⟩ t=4):=by unfold I3 cE;simp only;rw[z];rfl
    clear z;go_wp2;go_ret
    exact⟨by rw[A.out];rfl,I⟩
   ·cases D:fO ⟨n,ss⟩
    ·cases E:zN n t
     ·have A:I3 (cE ⟨n,ss⟩ t=0):=by unfold I3 cE;simp only;rw[z,D,E];rfl
      have hq:(Jc n.toList t.toList || n.toList == t.toList)=false:=E;clear z D E;go_wp2;go_ret
      exact⟨by rw[A.out];rfl,I⟩
     ·have A:I3 (cE ⟨n,ss⟩ t=4):=by unfold I3 cE;simp only;rw[z,D,E];rfl
      have hq:(Jc n.toList t.toList || n.toList == t.toList)=true:=E;clear z D E;go_wp2;go_ret
      exact⟨by rw[A.out];rfl,I⟩
    ·have A:I3 (cE ⟨n,ss⟩ t=5):=by unfold I3 cE;simp only;rw[z,D];rfl
     clear z D;go_wp2;go_ret
     exact⟨by rw[A.out];rfl,I⟩
end
section
open Go.RowKit Go.Maps
theorem xF{l:ByteArray}(h:l.size=0):l=⟨#[]⟩:=by
 obtain⟨⟨l⟩⟩:=l;cases l with
 |nil=>rfl
 |cons a b=>simp[ByteArray.size]at h
theorem xG{l:ByteArray}(h:¬l.size=0):l.toList.isEmpty=false:=by
 rw[ByteArray.toList_eq];obtain⟨⟨l⟩⟩:=l;cases l with
 |nil=>exact absurd rfl h
 |cons a b=>rfl
theorem Eb(s:ByteArray)(w:vF)(hs:s.size≤IU) :
  I5 hE 43 #[.string s] w fun e w'=>kE w w' s e:=by
 unfold IU at hs;obtain⟨i0,ak,al,am,an⟩:=info_parts sZ;have P:=aD w (.cells #[.int .i64 0,.int .i64 0] 27);have Q:Below w.heap.size w (w.alloc (.cells #[.int .i64 0,.int .i64 0] 27)):=(Below.refl _ _).alloc (gO _) _;by_cases a9:25000<s.size
 ·have q:I3 (fA s=([],2,0)):=by unfold I3 fA;rw[if_pos a9]
  go_enter Tryz.func43,Tryz.ntmps43
  go_wp2_with fail
  refine IG (v:=.tuple #[.slice none 0 0,.agg #[.int .i64 2,.int .i64 0]]) (by simp[Jl,Lc,go_sem]) rfl (kE.bad q.out ?_);exact(Below.refl _ _).alloc (gO _) _
 ·have q:I3 (fA s=eQ [] noB 0 (cJ s)):=by unfold I3 fA;rw[if_neg a9]
  go_enter Tryz.func43,Tryz.ntmps43
  go_wp2_with fail
  generalize w.alloc (.cells #[.int .i64 0,.int .i64 0] 27)=w0 at P Q ⊢;have ao:=aB P;refine(wW s w0 (by omega)).mono ?_
  rintro e d ⟨v,rfl,t,a0⟩;have g1:=Below.fj a0 P ao;have ap:Below w.heap.size w d:=Q.trans (a0.mono Q.size);have b3:=jX s;have aq:=aA (iT s);have aa:0<(cJ s).length:=by simp[cJ]
  obtain⟨a1,b4,rfl,b5,ar,b6,ab⟩:=lP t aa;have au:=aA ab;clear ab t a0 P Q;generalize cJ s=c at *;go_wp2_with fail
  go_loopw [4,6,7] (fun v lv iv wr=>∃(i:Nat) (a:ByteArray) (u:List (RowD × sA)),lv=.string a∧iv=.int .i64 i∧RdInv d wr c i v a u) (fun _ _ iv _=>c.length-(intOf iv).toNat)
  case atStart=>exact⟨0,noB,[],rfl,rfl,aa,rfl,by simp,OwnR.nil _ _ _,Below.refl _ _⟩
  case round=>
   obtain⟨i,a,u,rfl,rfl,k⟩:=hrel;have D:=k.blw;have t:=k.own;have av:=k.lt;have b7:=k.cnt;have K:w.heap.size<d.heap.size:=aB g1;have f:=Below.fj D g1 K;have x:Below w.heap.size w wr:=ap.trans (D.mono (JA K));obtain⟨l,L⟩:∃l,c[i]?=some l:=⟨_,hZ av⟩;have cl:wr.cell? ⟨a1,i,none⟩=some (.string l):=(J3 (w:=d) (a:=⟨a1,i,none⟩) (D.block a1 ar)).trans (au.out i l L);have b:=k.eqn;rw[cR L]at b;have b9:=aq.out l (IJ L);by_cases aw:i+1=c.length
   ·have hd:c.drop (i+1)=[]:=by rw[aw,LK]
    rw[hd,nR]at b;have hq:((i:Int) == (c.length:Int)-1)=true:=by simp;omega
    obtain⟨E,G,f0,f1⟩:=aH f;by_cases S:l.size=0
    ·rw[if_pos S]at b;have m:I3 (fA s=(u.map Ml,0,0)):=q.out.trans b;have ax:=xF S;subst ax;clear k b L f;go_wp2_with fail
     refine IG (v:=.tuple #[u4,.agg #[.int .i64 0,.int .i64 0]]) (by simp[Jl,Lc,go_sem,E,G]) rfl ⟨u4,u,by rw[m.out],by rw[m.out],?_,?_⟩
     ·exact(((t.store K).store K).low (JA K)).high (by simp[Mm])
     ·exact(x.setCell (p:=⟨w.heap.size,0,none⟩) (gO _) _).setCell (p:=⟨w.heap.size,1,none⟩) (gO _) _
    ·rw[if_neg S]at b;have m:I3 (fA s=([],4,(i:Int)+1)):=q.out.trans b;have ad:=xG S;clear k b L f;go_wp2_with fail
     refine IG (v:=.tuple #[.slice none 0 0,.agg #[.int .i64 4,.int .i64 ((i:Int)+1)]]) (by simp[Jl,Lc,go_sem,E,G]) rfl (kE.bad m.out ?_);exact(x.setCell (p:=⟨w.heap.size,0,none⟩) (gO _) _).setCell (p:=⟨w.heap.size,1,none⟩) (gO _) _
   ·have hq:((i:Int) == (c.length:Int)-1)=false:=beq_false_of_ne (by omega);obtain⟨l',a2⟩:∃l',c[i+1]?=some l':=⟨_,hZ (by omega)⟩;rw[cR a2]at b;have U:=aA b;have ay:=aA a2;clear b k a2;go_wp2_with fail
    refine(EY l wr (by omega)).mono ?_
    rintro e H (⟨hn,rfl,n⟩|⟨r,tv,hr,rfl,a3,n⟩)
    ·have m:I3 (fA s=([],4,(i:Int)+1)):=q.out.trans (U.out.trans (kR (E4 hn)));have g:=aF (Below.fj n f (aB f)) (.cells #[.string ⟨#[]⟩,.slice none 0 0] 51);have a4:Below w.heap.size w (H.alloc (.cells #[.string ⟨#[]⟩,.slice none 0 0] 51)):=(x.trans (n.mono x.size)).alloc (IH x.size n.size) _;have y:=aD H (.cells #[.string ⟨#[]⟩,.slice none 0 0] 51);go_wp2_with fail
     generalize H.alloc (.cells #[.string ⟨#[]⟩,.slice none 0 0] 51)=w3 at g y a4 ⊢;refine(pK ⟨#[]⟩ (.slice none 0 0) [] a w3 (by decide) (by decide) ⟨none,0,rfl,gO _,fun _=>rfl,fun az=>absurd rfl az⟩ (fun ae hx=>by simp at hx)).mono ?_
     rintro e I ⟨rfl,o⟩;generalize cE ⟨⟨#[]⟩,[]⟩ a=z;have M:=Below.fj o g (aB g);have a5:Below w.heap.size w I:=a4.trans (o.mono a4.size);obtain⟨E,G,f0,f1⟩:=aH M;clear hn t f g y M cl;go_wp2_with fail
     refine IG (v:=.tuple #[.slice none 0 0,.agg #[.int .i64 4,.int .i64 ((i:Int)+1)]]) (by simp[Jl,Lc,go_sem,E,G]) rfl (kE.bad m.out ?_);exact(a5.setCell (p:=⟨w.heap.size,0,none⟩) (gO _) _).setCell (p:=⟨w.heap.size,1,none⟩) (gO _) _
    ·obtain⟨h,j,rfl,_⟩:=aQ a3;obtain⟨q1,q2,q3⟩:=nQ hr;have N:=Dw hr a;have g:=aF (Below.fj n f (aB f)) (.cells #[.string r.name,.slice h r.to.length j] 51);have V:Below wr.heap.size wr (H.alloc (.cells #[.string r.name,.slice h r.to.length j] 51)):=n.alloc n.size _;have y:=aD H (.cells #[.string r.name,.slice h r.to.length j] 51);have X:=a3.alloc (.cells #[.string r.name,.slice h r.to.length j] 51);go_wp2_with fail
     generalize H.alloc (.cells #[.string r.name,.slice h r.to.length j] 51)=w3 at g y V X ⊢;refine(pK r.name (.slice h r.to.length j) r.to a w3 (by unfold IU;omega) (by unfold IU;omega) (jF X) (fun ae hx=>by have:=q3 ae hx;unfold IU;omega)).mono ?_
     rintro e I ⟨rfl,o⟩;have M:=Below.fj o g (aB g);have g6:=Below.fj o y (aB y);have af:=aM X o;have Y:Below wr.heap.size wr I:=V.trans (o.mono V.size);have a5:Below w.heap.size w I:=x.trans (Y.mono x.size);have Z:Below d.heap.size d I:=D.trans (Y.mono D.size);have ag:=t.below Y;obtain⟨E,G,f0,f1⟩:=aH M;obtain⟨d0,d1,e0,e1⟩:=aH g6;change _∨_ at N;have aV:=aA af;have a6:=aA ag;clear a3 X af t ag n V o f g y M g6 e0 e1 cl hr Y;have a7:∀z:Int,z≠0→cE r a=z→fA s=([],z,(i:Int)+1):=by
      intro z ad O;rcases N with⟨J,A⟩|⟨J,A⟩
      ·rw[A]at O;rw[← O];exact q.out.trans (U.out.trans (pE J (by rw[O];exact ad)))
      ·rw[A]at O;rw[← O];exact q.out.trans (U.out.trans (kR J))
     by_cases C:cE r a=0
     ·have HN:I3 (eQ [] noB 0 c=eQ ((u++[(r,E2 h r.to.length j)]).map Ml) r.name (i+1) (c.drop (i+1))):=by
       unfold I3;rcases N with⟨J,A⟩|⟨J,A⟩
       ·rw[cR ay.out,U.out,pD J (by rw[← A];exact C)];simp
       ·rw[A]at C;exact absurd C (by decide)
      have ah:cE ⟨r.name,r.to⟩ a=0:=C;rw[ah];clear N a7 C ah;go_wp2_with (first|(at_builtin;refine wpList_append_own _ rfl _ _ 40 rfl d.heap.size 51 i0 (.agg #[.string ⟨#[]⟩,.slice none 0 0]) 2 40 KZ ak al am an rfl (by decide) _ _ _ rfl (a6.out.row.alloc _) ⟨I.heap.size,0,none⟩ 1 1 [.string r.name,.slice h r.to.length j] rfl rfl (bU _ _ _ _ rfl) ?x6 ?x7 ?x8 ?x9 ?_)|go_in)
      case x6=>intro ba hu;simp at hu;rcases hu with rfl|rfl<;>rfl
      case x7=>unfold IU;omega
      case x8=>omega
      case x9=>have:=Z.size;simp;omega
      intro v' w5 ai a8 _;have b0:Below d.heap.size d w5:=(Z.alloc Z.size _).grown a8 (by have:=Z.size;simp;omega) (fun b1 hj=>(a6.out.row.lt b1 hj).1);have b2:=a6.out.push D.size aV.out ai a8;clear ai a8;go_wp2_with fail
      go_round
      case rel=>exact⟨i+1,r.name,u++[(r,.slice h r.to.length j)],rfl,by go_num,by omega,HN.out,by rw[A4];show u.length+1≤_;omega,b2,b0⟩
      case measure=>simp[intOf];omega
     ·have m:=aA (a7 _ C rfl);have bb:(cE r a == 0)=false:=beq_false_of_ne C;have aj:cE ⟨r.name,r.to⟩ a=cE r a:=rfl;rw[aj];clear N a7 aj;generalize cE r a=z at *;go_wp2_with fail
      refine IG (v:=.tuple #[.slice none 0 0,.agg #[.int .i64 z,.int .i64 ((i:Int)+1)]]) (by simp[Jl,Lc,go_sem,E,G]) rfl (kE.bad m.out ?_);exact(a5.setCell (p:=⟨w.heap.size,0,none⟩) (gO _) _).setCell (p:=⟨w.heap.size,1,none⟩) (gO _) _
theorem Ec(s:ByteArray)(w:vF)(m:Int)(hs:s.size≤IU)(hm:w.cell? ⟨1,0,none⟩=some (.int .i64 m)) :
  I5 hE 38 #[.string s] w fun e w'=>kE w w' s e:=by
 unfold IU at hs;obtain⟨i0,ah,ai,aj,ak⟩:=info_parts sZ;have N:=aD w (.cells #[.int .i64 0,.int .i64 0] 27);have J:Below w.heap.size w (w.alloc (.cells #[.int .i64 0,.int .i64 0] 27)):=(Below.refl _ _).alloc (gO _) _;by_cases a8:25000<s.size
 ·have D:I3 (fA s=([],2,0)):=by unfold I3 fA;rw[if_pos a8]
  go_enter Tryz.func38,Tryz.ntmps38
  go_wp2_with fail
  refine IG (v:=.tuple #[.slice none 0 0,.agg #[.int .i64 2,.int .i64 0]]) (by simp[Jl,Ld,go_sem]) rfl (kE.bad D.out ?_);exact(Below.refl _ _).alloc (gO _) _
 ·have D:I3 (fA s=eQ [] noB 0 (cJ s)):=by unfold I3 fA;rw[if_neg a8]
  have a0:=sL s;have a1:=Lib.splitB_all ⟨#[10]⟩ (by decide) 0 _ s rfl;rw[a0]at a1;go_enter Tryz.func38,Tryz.ntmps38
  go_wp2_with fail
  generalize w.alloc (.cells #[.int .i64 0,.int .i64 0] 27)=o at N J ⊢;have al:=aB N;have a9:o.cell? ⟨1,0,none⟩=some (.int .i64 m):=by rw[J.cell (Nm _ _ hm)];exact hm
  refine(Tryz.strings_Split s ⟨#[10]⟩ m o (by omega) a9 (by decide)).mono ?_
  rintro e d ⟨rfl,a2⟩;rw[← a1];rw[a0]at a2;have a:=aD o (.cells ((cJ s).map F2).toArray 9);have O:Below o.heap.size o (o.alloc (.cells ((cJ s).map F2).toArray 9)):=(Below.refl _ _).alloc (gO _) _;rw[← a2]at a O;clear a2 a9 a1 a0;have g1:=Below.fj O N al;have am:Below w.heap.size w d:=J.trans (O.mono J.size);have b2:=jX s;have an:=aA (iT s);have ao:0<(cJ s).length:=by simp[cJ]
  have ap:=aA (fun(i:Nat) l (y:(cJ s)[i]?=some l)=>show d.cell? ⟨o.heap.size,i,none⟩=some (.string l)from by rw[aC a];simp[y]);have aq:=aB a;clear a O N J;generalize cJ s=h at *;generalize o.heap.size=a3 at *;obtain⟨n,hn⟩:∃n,h.length=n+1:=⟨h.length-1,by omega⟩;rw[hn];go_wp2_with fail
  go_loopw [6,7,26] (fun v lv iv wr=>∃(i:Nat) (b:ByteArray) (z:List (RowD × sA)),lv=.string b∧iv=.int .i64 i∧RdInv d wr h i v b z) (fun _ _ iv _=>h.length-(intOf iv).toNat)
  case atStart=>exact⟨0,noB,[],rfl,rfl,ao,rfl,by simp,OwnR.nil _ _ _,Below.refl _ _⟩
  case round=>
   obtain⟨i,b,z,rfl,rfl,q⟩:=hrel;have E:=q.blw;have P:=q.own;have ar:=q.lt;have b3:=q.cnt;have K:w.heap.size<d.heap.size:=aB g1;have j:=Below.fj E g1 K;have A:Below w.heap.size w wr:=am.trans (E.mono (JA K));obtain⟨l,y⟩:∃l,h[i]?=some l:=⟨_,hZ ar⟩;have cl:wr.cell? ⟨a3,i,none⟩=some (.string l):=(J3 (w:=d) (a:=⟨a3,i,none⟩) (E.block a3 aq)).trans (ap.out i l y);have c:=q.eqn;rw[cR y]at c;have b5:=an.out l (IJ y);by_cases au:i=n
   ·subst au;have hd:h.drop (i+1)=[]:=by rw[← hn,LK]
    rw[hd,nR]at c;obtain⟨G,H,f0,f1⟩:=aH j;by_cases Q:l.size=0
    ·rw[if_pos Q]at c;have t:I3 (fA s=(z.map Ml,0,0)):=D.out.trans c;have av:=xF Q;subst av;clear q c y j;go_wp2_with fail
     refine IG (v:=.tuple #[u6,.agg #[.int .i64 0,.int .i64 0]]) (by simp[Jl,Ld,go_sem,G,H]) rfl ⟨u6,z,by rw[t.out],by rw[t.out],?_,?_⟩
     ·exact(((P.store K).store K).low (JA K)).high (by simp[Mm])
     ·exact(A.setCell (p:=⟨w.heap.size,0,none⟩) (gO _) _).setCell (p:=⟨w.heap.size,1,none⟩) (gO _) _
    ·rw[if_neg Q]at c;have t:I3 (fA s=([],4,(i:Int)+1)):=D.out.trans c;have b6:=xG Q;clear q c y j;go_wp2_with fail
     refine IG (v:=.tuple #[.slice none 0 0,.agg #[.int .i64 4,.int .i64 ((i:Int)+1)]]) (by simp[Jl,Ld,go_sem,G,H]) rfl (kE.bad t.out ?_);exact(A.setCell (p:=⟨w.heap.size,0,none⟩) (gO _) _).setCell (p:=⟨w.heap.size,1,none⟩) (gO _) _
   ·obtain⟨l',a4⟩:∃l',h[i+1]?=some l':=⟨_,hZ (by omega)⟩;rw[cR a4]at c;have HQ:=aA c;have aw:=aA a4;have b7:i<n:=by omega
    clear c q a4;go_wp2_with fail
    refine(Fj l wr (by omega)).mono ?_
    rintro e u (⟨aa,rfl,k⟩|⟨r,tv,hr,rfl,a5,k⟩)
    ·have t:I3 (fA s=([],4,(i:Int)+1)):=D.out.trans (HQ.out.trans (kR aa));have a:=aF (Below.fj k j (aB j)) (.cells #[.string ⟨#[]⟩,.slice none 0 0] 51);have a6:Below w.heap.size w (u.alloc (.cells #[.string ⟨#[]⟩,.slice none 0 0] 51)):=(A.trans (k.mono A.size)).alloc (IH A.size k.size) _;have C:=aD u (.cells #[.string ⟨#[]⟩,.slice none 0 0] 51);go_wp2_with fail
     generalize u.alloc (.cells #[.string ⟨#[]⟩,.slice none 0 0] 51)=w3 at a C a6 ⊢;refine(rE ⟨#[]⟩ (.slice none 0 0) [] false b w3 (by decide) (by decide) ⟨none,0,rfl,gO _,fun _=>rfl,fun ax=>absurd rfl ax⟩ (fun ab hx=>by simp at hx)).mono ?_
     rintro e I ⟨rfl,x⟩;have ay:chk false ⟨⟨#[]⟩,[]⟩ b=4:=rfl;rw[ay];have L:=Below.fj x a (aB a);have a7:Below w.heap.size w I:=a6.trans (x.mono a6.size);obtain⟨G,H,f0,f1⟩:=aH L;clear aa P j a C L cl;go_wp2_with fail
     refine IG (v:=.tuple #[.slice none 0 0,.agg #[.int .i64 4,.int .i64 ((i:Int)+1)]]) (by simp[Jl,Ld,go_sem,G,H]) rfl (kE.bad t.out ?_);exact(a7.setCell (p:=⟨w.heap.size,0,none⟩) (gO _) _).setCell (p:=⟨w.heap.size,1,none⟩) (gO _) _
    ·obtain⟨f,g,rfl,_⟩:=aQ a5;obtain⟨q1,q2,q3⟩:=nQ (sH hr).1;have HR:=aA hr;have a:=aF (Below.fj k j (aB j)) (.cells #[.string r.name,.slice f r.to.length g] 51);have S:Below wr.heap.size wr (u.alloc (.cells #[.string r.name,.slice f r.to.length g] 51)):=k.alloc k.size _;have C:=aD u (.cells #[.string r.name,.slice f r.to.length g] 51);have U:=a5.alloc (.cells #[.string r.name,.slice f r.to.length g] 51);go_wp2_with fail
     generalize u.alloc (.cells #[.string r.name,.slice f r.to.length g] 51)=w3 at a C S U ⊢;refine(rE r.name (.slice f r.to.length g) r.to true b w3 (by unfold IU;omega) (by unfold IU;omega) (jF U) (fun ab hx=>by have:=q3 ab hx;unfold IU;omega)).mono ?_
     rintro e I ⟨rfl,x⟩;have L:=Below.fj x a (aB a);have g6:=Below.fj x C (aB C);have ad:=aM U x;have V:Below wr.heap.size wr I:=S.trans (x.mono S.size);have a7:Below w.heap.size w I:=A.trans (V.mono A.size);have X:Below d.heap.size d I:=E.trans (V.mono E.size);have ae:=P.below V;obtain⟨G,H,f0,f1⟩:=aH L;obtain⟨d0,d1,e0,e1⟩:=aH g6;have az:=aA ad;have Y:=aA ae;have G6:=aA g6;have b8:wr.heap.size≤u.heap.size:=k.size;clear a5 U ad P ae k S x j a C L g6 e0 e1 cl hr V;have af:chk true ⟨r.name,r.to⟩ b=chk true r b:=rfl;rw[af];clear af;by_cases M:chk true r b=0
     ·have HN:I3 (eQ [] noB 0 h=eQ ((z++[(r,E2 f r.to.length g)]).map Ml) r.name (i+1) (h.drop (i+1))):=by
       unfold I3;rw[cR aw.out,HQ.out,pD HR.out M];simp
      rw[M];clear M;go_wp2_with (first|(at_builtin;refine wpList_append_own _ rfl _ _ 40 rfl d.heap.size 51 i0 (.agg #[.string ⟨#[]⟩,.slice none 0 0]) 2 40 KZ ah ai aj ak rfl (by decide) _ _ _ rfl (Y.out.row.alloc _) ⟨I.heap.size,0,none⟩ 1 1 [.string r.name,.slice f r.to.length g] rfl rfl (bU _ _ _ _ rfl) ?x6 ?x7 ?x8 ?x9 ?_)|go_in)
      case x6=>intro b9 hu;simp at hu;rcases hu with rfl|rfl<;>rfl
      case x7=>unfold IU;omega
      case x8=>omega
      case x9=>have:=X.size;simp;omega
      intro v' w5 ag Z _;have aV:Below d.heap.size d w5:=(X.alloc X.size _).grown Z (by have:=X.size;simp;omega) (fun b0 hj=>(Y.out.row.lt b0 hj).1);have b1:=Y.out.push E.size az.out ag Z;have g7:w5.heap[u.heap.size]?=some (.cells #[.string r.name,.slice f r.to.length g] 51 (0,0)):=(Z.block _ (by have:=aB G6.out;simp;omega) (fun e=>by have:=Y.out.top _ e.symm;omega)).trans (aF G6.out _);obtain⟨ba,bb,_,_⟩:=aH g7;clear ag Z g7 d0 d1;go_wp2_with fail
      go_round
      case rel=>exact⟨i+1,r.name,z++[(r,.slice f r.to.length g)],rfl,by go_num,by omega,HN.out,by rw[A4];show z.length+1≤_;omega,b1,aV⟩
      case measure=>simp[intOf];omega
     ·have t:I3 (fA s=([],chk true r b,(i:Int)+1)):=D.out.trans (HQ.out.trans (pE HR.out M));have bc:(chk true r b == 0)=false:=beq_false_of_ne M;generalize chk true r b=er at *;go_wp2_with fail
      refine IG (v:=.tuple #[.slice none 0 0,.agg #[.int .i64 er,.int .i64 ((i:Int)+1)]]) (by simp[Jl,Ld,go_sem,G,H]) rfl (kE.bad t.out ?_);exact(a7.setCell (p:=⟨w.heap.size,0,none⟩) (gO _) _).setCell (p:=⟨w.heap.size,1,none⟩) (gO _) _
theorem Ed(s:ByteArray)(w:vF)(m:Int)(i:s.size≤IU)(f:w.cell? ⟨1,0,none⟩=some (.int .i64 m)) :
  I5 hE 25 #[.string s] w fun e w'=>kE w w' s e:=by
 have c:=aD w (.cells #[.int .i64 0,.int .i64 0] 27);have a:Below w.heap.size w (w.alloc (.cells #[.int .i64 0,.int .i64 0] 27)):=(Below.refl _ _).alloc (gO _) _;have g:(w.alloc (.cells #[.int .i64 0,.int .i64 0] 27)).cell? ⟨1,0,none⟩=some (.int .i64 m):=by rw[a.cell (Nm _ _ f)];exact f
 go_enter Tryz.func25,Tryz.ntmps25
 go_wp2_with fail
 generalize w.alloc (.cells #[.int .i64 0,.int .i64 0] 27)=j at c a g ⊢;have b:=aB c;refine(Ec s j m i g).mono ?_
 rintro e l ⟨v,o,rfl,d,q,h⟩;have t:=Below.fj h c b;obtain⟨u,x,z,A⟩:=aH t;have y:Below w.heap.size w l:=a.trans (h.mono a.size);generalize hr:fA s=r at d ⊢;obtain⟨fs,k,n⟩:=r;simp only at d ⊢;go_wp2_with fail
 refine IG (v:=.tuple #[v,.agg #[.int .i64 k,.int .i64 n]]) (by simp[Jl,Tryz.results25,go_sem,u,x]) rfl ⟨v,o,by rw[hr],by rw[hr];exact d,?_,?_⟩
 ·exact(((q.store b).store b).low (JA b)).high (by simp[Mm])
 ·exact(y.setCell (p:=⟨w.heap.size,0,none⟩) (gO _) _).setCell (p:=⟨w.heap.size,1,none⟩) (gO _) _
theorem vY(va g:sA)(ss:List ByteArray)(w:vF)(y:ss.length≤1000000)(n:cY va ss w)(o:cY g ss w) :
  I5 hE 77 #[va,g] w fun e w'=>e=.returned (.bool true)∧Below w.heap.size w w':=by
 obtain⟨z,A,rfl,_,_,h⟩:=n;obtain⟨C,D,rfl,_,_,j⟩:=o;have p:=aA h;have q:=aA j;clear h j;have E:((ss.length:Int) != (ss.length:Int))=false:=by simp
 go_enter Tryz.func77,Tryz.ntmps77
 go_wp2;go_loopw [5] (fun c wr=>∃i:Nat,c=.int .i64 i∧i≤ss.length∧Below w.heap.size w wr) (fun c _=>ss.length-(intOf c).toNat)
 case atStart=>exact⟨0,rfl,IM _,Below.refl _ _⟩
 case round=>
  obtain⟨i,rfl,G,a⟩:=hrel;by_cases b:i<ss.length
  ·obtain⟨x,d⟩:∃f,ss[i]?=some f:=⟨_,hZ b⟩;have k:ss≠[]:=by intro e;rw[e]at b;simp at b
   obtain⟨H,I,r,s,l⟩:=p.out k;obtain⟨J,K,t,u,m⟩:=q.out k;rw[r,t];have L:=(l.below a s) i x d;have M:=(m.below a u) i x d;have N:(x.toList != x.toList)=false:=by simp
   clear d l m;go_wp2;go_quiet (fail)
   go_wp2;go_roundw
   case rel=>exact⟨i+1,by go_num,b,aN a _⟩
   case measure=>simp[intOf];omega
  ·go_wp2;go_ret
   exact⟨rfl,a⟩
theorem yS(va k:sA)(rs:List RowD)(w:vF)(Z:rs.length≤1000000)(l:∀r∈rs,r.to.length≤1000000)(E:dP va rs w)(G:dP k rs w) :
  I5 hE 44 #[va,k] w fun e w'=>e=.returned (.bool true)∧Below w.heap.size w w':=by
 obtain⟨ao,ca,rfl,_,_,m⟩:=E;obtain⟨bo,cb,rfl,_,_,o⟩:=G;have H:=aA m;have I:=aA o;have J:=aA l;clear m o l;have hq:((rs.length:Int) != (rs.length:Int))=false:=by simp
 go_enter Tryz.func44,Tryz.ntmps44
 go_wp2;go_loopw [5] (fun j wr=>∃i:Nat,j=.int .i64 i∧i≤rs.length∧Below w.heap.size w wr) (fun j _=>rs.length-(intOf j).toNat)
 case atStart=>exact⟨0,rfl,IM _,Below.refl _ _⟩
 case round=>
  obtain⟨i,rfl,hi,a⟩:=hrel;by_cases c:i<rs.length
  ·obtain⟨⟨n,d⟩,g⟩:∃f,rs[i]?=some f:=⟨_,hZ c⟩;have q:rs≠[]:=by intro e;rw[e]at c;simp at c
   obtain⟨K,o1,L,s,t⟩:=H.out q;obtain⟨M,o2,N,u,x⟩:=I.out q;rw[L,N];obtain⟨y,O,P,z⟩:=(t.below a s) i n d g;obtain⟨A,Q,S,C⟩:=(x.below a u) i n d g;have U:=aA (vY O Q d wr.drew (J.out ⟨n,d⟩ (IJ g)) (z.below (Below.refl _ _).drew) (C.below (Below.refl _ _).drew));have V:=A2 s a.size;have X:=A2 u a.size;have a0:(n.toList != n.toList)=false:=by simp
   clear g t x z C;go_wp2_with fail
   go_region_with (go_at_call 77;refine U.out.mono ?_;rintro e D ⟨rfl,b⟩)
   all_goals
    have h:Below wr.heap.size wr D:=⟨b.os,b.tape,b.output,b.size,b.block⟩;have a1:=(h.cell (p:=⟨K,_,none⟩) V).trans y;have a2:=(h.cell (p:=⟨M,_,none⟩) X).trans A;have Y:Below w.heap.size w D:=a.trans (h.mono a.size);clear y A P S b h;go_wp2;go_quiet (fail)
    go_wp2;go_roundw
    case rel=>exact⟨i+1,by go_num,c,aN Y _⟩
    case measure=>simp[intOf];omega
  ·go_wp2;go_ret
   exact⟨rfl,a⟩
theorem AJ(M:Nat)(b:List ByteArray):∀(pre:List RowD) (c:ByteArray) (n:Nat),(∀l∈b,l.size≤M)→(∀r∈pre,r.to.length≤M)→(∀r∈(eQ pre c n b).1,r.to.length≤M)∧(eQ pre c n b).1.length≤pre.length+b.length:=by
 induction b with
 |nil=>intro pre c n _ d;exact⟨d,by simp[eQ]⟩
 |cons l q h=>
  intro pre c n f d;cases q with
  |nil=>
   rw[nR];split
   ·exact⟨d,by simp⟩
   ·exact⟨by simp,by simp⟩
  |cons j r=>
   cases e:bW l with
   |none=>rw[kR e];exact⟨by simp,by simp⟩
   |some x=>
    by_cases g:chk true x c=0
    ·rw[pD e g];have i:x.to.length≤M:=IH (nQ (sH e).1).2.1 (f l (by simp));have:=h (pre++[x]) x.name (n+1) (fun y a=>f y (by simp at a ⊢;exact .inr a)) (fun y a=>by
      rcases IK.1 a with a|a
      ·exact d y a
      ·rw[List.mem_singleton.1 a];exact i)
     refine⟨this.1,IH this.2 ?_⟩;simp only[A4,List.length_cons,J1];omega
    ·rw[pE e g];exact⟨by simp,by simp⟩
theorem Cv(s:ByteArray):(∀r∈(fA s).1,r.to.length≤25000)∧(fA s).1.length≤26000:=by
 unfold fA;split
 ·exact⟨by simp,by simp⟩
 ·rename_i h;have a:=AJ 25000 (cJ s) [] noB 0 (fun l b=>IH (iT s l b) (by omega)) (by simp);have c:=jX s;exact⟨a.1,by have:=a.2;simp only[J1]at this;omega⟩
end
section
open Go.RowKit Go.Maps
variable {B kb:Nat} {fs:List Value} {F:Value} {ts:List Value} {T:Value} {rs:List Value} {R:Value}
theorem H8(s:ByteArray)(t u:sA)(c:Way)(w:vF)(m:Int)(N:s.size≤IU)(hm:w.cell? ⟨1,0,none⟩=some (.int .i64 m))(b2:1<B)
  (am:ts.length % 4=0) (an:rs.length % 4=0) (b3:ts.length≤400000000000) (b4:rs.length≤100000000) (y:BookA B kb fs F ts T rs R w) :
  I5 hE 28 #[.pointer (some ⟨kb,0,none⟩),iW 4 s t c u] w fun e w'=>e=.returned (.bool true)∧∃b O z P,b.length≤ts.length+104000∧b.length % 4=0∧z.length=rs.length+4∧BookA B kb fs F b O z P w'∧Below B w w':=by
 have ao:B≤w.heap.size:=IH y.f.le (JA (aB y.f.head));have HB:=aA y;obtain⟨Q,ap⟩:=Cv s;have S:=aA (fun W=>Eb s W N);have A:I3 (∀w',w'.cell? ⟨1,0,none⟩=some (.int .i64 m)→I5 hE 25 #[.string s] w' fun e aq=>kE w' aq s e):=fun w' ar=>Ed s w' m N ar
 clear y N;unfold iW;go_enter NQ,Nw
 go_wp2_with fail
 have i:=aD w (.cells #[.int .i64 4,.string s,t,.int .i64 c.order,.bool c.cycles,.bool c.collapse,.bool c.subst,.bool c.deltas,u] 78);have d:Below w.heap.size w (w.alloc (.cells #[.int .i64 4,.string s,t,.int .i64 c.order,.bool c.cycles,.bool c.collapse,.bool c.subst,.bool c.deltas,u] 78)):=(Below.refl _ _).alloc (gO _) _;generalize b5:w.heap.size=bo at i ⊢;generalize w.alloc (.cells #[.int .i64 4,.string s,t,.int .i64 c.order,.bool c.cycles,.bool c.collapse,.bool c.subst,.bool c.deltas,u] 78)=a at i d ⊢;have a4:=aB i;have cO:a.cell? ⟨bo,1,none⟩=some (.string s):=by rw[aC i];rfl
 have a5:a.cell? ⟨1,0,none⟩=some (.int .i64 m):=(d.cell (p:=⟨1,0,none⟩) (by show 1<_;omega)).trans hm;refine(A.out a a5).mono ?_
 unfold kE at A S ⊢;generalize fA s=r at *;obtain⟨C,k,n⟩:=r;rintro e j ⟨v1,U,rfl,D,a6,f⟩;simp only at D Q ap S A ⊢;have a7:=aA Q;clear Q;have av:=(f.cell (p:=⟨bo,1,none⟩) a4).trans cO;have a8:=A2 a4 f.size;clear i cO A a5;go_wp2_with fail
 have g:=aD j (.cells #[.int .i64 k,.int .i64 n] 27);have E:Below a.heap.size a (j.alloc (.cells #[.int .i64 k,.int .i64 n] 27)):=f.alloc f.size _;have G:=a6.below ((Below.refl _ _).alloc (gO _) (.cells #[.int .i64 k,.int .i64 n] 27));generalize j.alloc (.cells #[.int .i64 k,.int .i64 n] 27)=H at g E G ⊢;have aw:a.heap.size≤j.heap.size:=f.size;generalize j.heap.size=be at g G aw a8 ⊢;refine(S.out H).mono ?_
 rintro e l ⟨v3,p3,rfl,e3,a9,I⟩;simp only at e3 ⊢;clear a6 f av a8;go_wp2_with fail
 have o:=aD l (.cells #[.int .i64 k,.int .i64 n] 27);have p:Below H.heap.size H (l.alloc (.cells #[.int .i64 k,.int .i64 n] 27)):=I.alloc I.size _;have J:=a9.below ((Below.refl _ _).alloc (gO _) (.cells #[.int .i64 k,.int .i64 n] 27));have K:=Below.fj p g (aB g);have L:=G.below p;have b6:=aB g;have ax:H.heap.size≤l.heap.size:=I.size;generalize l.alloc (.cells #[.int .i64 k,.int .i64 n] 27)=w4 at o p J K L ⊢;generalize l.heap.size=bf at o J ax ⊢;clear a9 I g G;have M:Below a.heap.size a w4:=E.trans (p.mono E.size);have V:=L.rows;have X:=J.rows;rw[D]at V;rw[e3]at X;have ay:I3 (∀r∈C,r.to.length≤1000000):=fun r hr=>IH (a7.out r hr) (by omega)
 refine(yS v1 v3 C w4 (by omega) ay.out V X).mono ?_
 rintro e w5 ⟨rfl,h⟩;have aa:=L.below h;have ab:=Below.fj h K (aB K);have ad:=Below.fj h o (aB o);have Y:Below w.heap.size w w5:=d.trans ((M.trans (h.mono M.size)).mono d.size);have z0:=d.size;have z4:=M.size;have z5:=h.size;have ae:=HB.out.below Y;have l1:U.length=C.length:=by rw[← D,JO]
 have az:∀x∈U,x.1.to.length≤1500000:=by
  intro x hx;have:x.1∈C:=by rw[← D];exact List.mem_map_of_mem hx
  exact IH (a7.out _ this) (by omega)
 have af:=vG a.heap.size be v1 U (by omega) (by omega) am an (by omega) (by omega) (by omega) az ae aa (fun aV hu b0 hg=>.inl (by have:=HB.out.lt aV hu b0 hg;omega));clear L K o J V X;go_wp2_with fail
 refine af.mono ?_
 rintro e w9 ⟨rfl,b,O,z,P,ag,b1,ah,ai,Z⟩;have aj:=Z _ _ _ _ ab (by decide) (by decide) (by decide) (.inr (gO _));have ak:=Z _ _ _ _ ad (by decide) (by decide) (by decide) (.inr (by omega));obtain⟨a0,a1,_,_⟩:=aH aj;obtain⟨a2,a3,_,_⟩:=aH ak;have q1:=pW k n;have q3:=nH;have al:b.length≤ts.length+104000∧b.length % 4=0:=⟨by omega,by omega⟩;have q:=aA (And.intro al (And.intro ag (And.intro ah ((Y.mono ao).trans ai))));clear af ae ah ai Z ag b1 al aa ab ad aj ak Y h M p E d;go_wp2;go_ret
 exact⟨rfl,b,O,z,P,q.out.1.1,q.out.1.2,q.out.2.1,q.out.2.2.1,q.out.2.2.2⟩
end
section
open Go.RowKit
def qW:ByteArray:=⟨#[98,101,121,111,110,100]⟩
def eG(ps:List (ByteArray × sA)):List sA:=ps.flatMap fun p=>[.string p.1,p.2]
theorem iL(ps:List (ByteArray × sA)):(eG ps).length=ps.length*2:=by
 induction ps with
 |nil=>rfl
 |cons f r a=>
  have:eG (f::r)=.string f.1::f.2::eG r:=by simp[eG]
  rw[this];simp[a];omega
theorem Cw(ps:List (ByteArray × sA))(i:Nat)(n:ByteArray)(v:sA)(h:ps[i]?=some (n,v)):(eG ps)[i*2]?=some (.string n)∧(eG ps)[i*2+1]?=some v:=by
 induction ps generalizing i with
 |nil=>simp at h
 |cons f r a=>
  have e:eG (f::r)=.string f.1::f.2::eG r:=by simp[eG]
  rw[e];cases i with
  |zero=>simp at h;subst h;exact⟨rfl,rfl⟩
  |succ i=>
   have:=a i (by simpa using h);have b:(i+1)*2=i*2+1+1:=by omega
   rw[b];simpa using this
theorem pL(A B:List (ByteArray × sA))(n:ByteArray)(v:sA):eG (A++(n,v)::B)=eG A ++ .string n::v::eG B:=by simp[eG]
def jG(g:Nat)(ps:List (ByteArray × sA))(rest:List sA)(w:vF):Prop:=w.heap[g]?=some (.cells (eG ps++rest).toArray 51 (0,0))
theorem jG.get{g:Nat}{ps:List (ByteArray × sA)}{rest:List sA}{w:vF}(h:jG g ps rest w){i:Nat}{n:ByteArray}{v:sA}(a:ps[i]?=some (n,v)) :
  w.cell? ⟨g,i*2,none⟩=some (.string n)∧w.cell? ⟨g,i*2+1,none⟩=some v:=by
 have k:=bV a;obtain⟨c,d⟩:=Cw ps _ _ _ a;have b:∀j u,j<ps.length*2→(eG ps)[j]?=some u→w.cell? ⟨g,j,none⟩=some u:=by intro j u e f;rw[aC h];simp only[LO];rw[IL (by rw[iL];exact e),f]
 exact⟨b _ _ (by omega) c,b _ _ (by omega) d⟩
theorem GX(c:List sA)(x y a b:sA)(r:List sA):((c++x::y::r).toArray.setIfInBounds c.length a).setIfInBounds (c.length+1) b=(c++a::b::r).toArray:=by apply Array.ext';simp
theorem Iv(b:List sA)(x a:sA)(r:List sA):(b++x::r).toArray.setIfInBounds b.length a=(b++a::r).toArray:=by apply Array.ext';simp
theorem jG.push{g:Nat}{ps:List (ByteArray × sA)}{x y:sA}{rest:List sA}{w:vF}(h:jG g ps (x::y::rest) w)(n:ByteArray)(v:sA) :
  jG g (ps++[(n,v)]) rest ((w.setCell ⟨g,ps.length*2,none⟩ (.string n)).setCell ⟨g,ps.length*2+1,none⟩ v):=by
 have a:=aI (aI h (ps.length*2) (.string n)) (ps.length*2+1) v;unfold jG;rw[a];have e:=GX (eG ps) x y (.string n) v rest;rw[iL]at e;rw[e,pL];simp[eG]
theorem jG.over{g:Nat}{A B:List (ByteArray × sA)}{m:ByteArray}{u:sA}{rest:List sA}{w:vF}(h:jG g (A++(m,u)::B) rest w)(n:ByteArray)(v:sA) :
  jG g (A++(n,v)::B) rest ((w.setCell ⟨g,A.length*2,none⟩ (.string n)).setCell ⟨g,A.length*2+1,none⟩ v):=by
 unfold jG at h;rw[pL,JI,K1,K1]at h;have a:=aI (aI h (A.length*2) (.string n)) (A.length*2+1) v;unfold jG;rw[a];have e:=GX (eG A) (.string m) u (.string n) v (eG B++rest);rw[iL]at e;rw[e,pL,JI,K1,K1]
def qX(h:Nat)(ss:List ByteArray)(rest:List sA)(w:vF):Prop:=w.heap[h]?=some (.cells (ss.map F2++rest).toArray 9 (0,0))
theorem qX.get{h:Nat}{ss:List ByteArray}{rest:List sA}{w:vF}(hr:qX h ss rest w){i:Nat}{s:ByteArray}(a:ss[i]?=some s):w.cell? ⟨h,i,none⟩=some (.string s):=by rw[aC hr];simp only[LO];rw[IL (by simpa using bV a),List.getElem?_map,a];rfl
theorem qX.push{h:Nat}{ss:List ByteArray}{x:sA}{rest:List sA}{w:vF}(hr:qX h ss (x::rest) w)(s:ByteArray):qX h (ss++[s]) rest (w.setCell ⟨h,ss.length,none⟩ (.string s)):=by have a:=aI hr ss.length (.string s);unfold qX;rw[a];have e:=Iv (ss.map F2) x (.string s) rest;rw[JO]at e;rw[e];simp
def slv(h:Nat)(a:List ByteArray):sA:=.slice (some ⟨h,0,none⟩) a.length (a.length+8)
def eV(a:List Nat)(rs:List RowD):List (ByteArray × sA):=List.zipWith (fun h r=>(r.name,slv h r.to)) a rs
def pM:ByteArray × sA:=(qW,.slice none 0 0)
structure Fam(g:Nat)(hs:List Nat)(rs:List RowD)(w:World):Prop where
 len:hs.length=rs.length
 nodup:hs.Nodup
 gt:∀h∈hs,g<h
 blk:∀(j h:Nat) (r:RowD),hs[j]?=some h→rs[j]?=some r→qX h (r.to++List.replicate 8 qW) [] w
theorem xH{a:List Nat}{rs:List RowD}{j h:Nat}{r:RowD}(h1:a[j]?=some h)(h2:rs[j]?=some r):(eV a rs)[j]?=some (r.name,slv h r.to):=by unfold eV;rw[List.getElem?_zipWith,h1,h2]
theorem iB{a:List Nat}{rs:List RowD}(h:a.length=rs.length):(eV a rs).length=rs.length:=by simp[eV,h]
theorem Cx{a:List Nat}{rs:List RowD}(h:a.length=rs.length)(k:Nat)(r:RowD):eV (a++[k]) (rs++[r])=eV a rs++[(r.name,slv k r.to)]:=by unfold eV;rw[List.zipWith_append h];rfl
theorem Fam.kb{g:Nat}{b:List Nat}{rs:List RowD}{w w':vF}(a:Fam g b rs w){l:List Nat}(d:Kb l w w')(e:∀h∈b,h ∉ l):Fam g b rs w':=
 ⟨a.len,a.nodup,a.gt,fun j h r c f=>d.heap (a.blk j h r c f) (e h (IJ c))⟩
theorem Fam.lt{g:Nat}{a:List Nat}{rs:List RowD}{w:vF}(b:Fam g a rs w):∀h∈a,h<w.heap.size:=by intro h e;obtain⟨j,c⟩:=List.getElem?_of_mem e;have d:=bV c;rw[b.len]at d;exact aB (b.blk j h _ c (hZ d))
theorem Fam.snoc{g:Nat}{l:List Nat}{rs:List RowD}{w:vF}(i:Fam g l rs w){k:Nat}{r:RowD}(n:qX k (r.to++A3 8 qW) [] w)(o:k ∉ l)(x:g<k):Fam g (l++[k]) (rs++[r]) w:=by
 refine⟨by simp[i.len],?_,?_,?_⟩
 ·rw[List.nodup_append];refine⟨i.nodup,by simp,?_⟩;intro a p b m e;simp at m;subst m;subst e;exact o p
 ·intro h f;rw[IK]at f;rcases f with f|f
  ·exact i.gt h f
  ·simp at f;omega
 ·intro j h q c d;rw[List.getElem?_append]at c d;have y:=i.len;split at c
  ·rename_i s;rw[if_pos (by omega)]at d;exact i.blk j h q c d
  ·rename_i s;rw[if_neg (by omega)]at d;have t:j-l.length=0:=by have:=bV c;simp at this;omega
   have u:j-rs.length=0:=by omega
   rw[t]at c;rw[u]at d;simp at c d;subst c d;exact n
theorem Ee{g cap:Nat}{a:List Nat}{rs:List RowD}{ps:List (ByteArray × sA)}{rest:List sA}{w:vF}(b:Fam g a rs w)(d:jG g (eV a rs++ps) rest w)(p:rs.length≤cap) :
  dP (.slice (some ⟨g,0,none⟩) rs.length cap) rs w:=by
 refine⟨_,cap,rfl,p,(fun h=>by cases h),fun _=>⟨g,0,rfl,aB d,?_⟩⟩;intro i n f c;have k:=bV c;obtain⟨h,l⟩:∃h,a[i]?=some h:=⟨_,hZ (by rw[b.len];exact k)⟩;have q:=xH l c;have r:(eV a rs++ps)[i]?=some (n,slv h f):=by rw[IL (by rw[iB b.len];exact k)];exact q
 obtain⟨t,u⟩:=d.get r;rw[JR];have m:=b.blk i h _ l c;refine⟨t,_,u,some ⟨h,0,none⟩,f.length+8,rfl,by omega,(fun e=>by cases e),fun _=>⟨h,0,rfl,aB m,?_⟩⟩;intro j s o;rw[JR];exact m.get (by rw[IL (bV o)];exact o)
end
end Go.Proofs.YtiamlbhkiehilaaGreatDoor
