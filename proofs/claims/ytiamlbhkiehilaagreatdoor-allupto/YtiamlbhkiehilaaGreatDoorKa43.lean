import Derived.Test.YtiamlbhkiehilaaGreatDoorKa42
open Bool renaming or_eq_false_iff→J5,or_false→K2
open Go renaming World→vF,Value→sA
open Go.Proofs.Tryz renaming prog→hE
open Go.Value renaming bool→IY
open List renaming replicate→A3,getElem?_append_left→IL,getElem?_append_right→IZ,length_replicate→Jy,getElem?_replicate→Jk,getElem?_eq_getElem→hZ,length_set→JD,getElem?_eq_some_iff→II,getD_eq_getElem?_getD→E1,getElem?_of_mem→J6
open Nat renaming zero_le→IM,not_lt_zero→MX
namespace Go.Proofs.YtiamlbhkiehilaaGreatDoor
section
open Go.RowKit Go.Maps
theorem Fy:(hE.info? 4).map (fun i=>(i.zero,i.size,i.bytes))=some (some (.bool false),1,1):=by kernel_rfl
theorem DZ:(hE.info? 99).map (fun i=>(i.zero,i.size,i.bytes))=some (some (.slice none 0 0),1,24):=by kernel_rfl
structure BldM(w wr:World)(n i:Nat)(v:Value)(rv:List Value):Prop where
 le:i≤n
 len:rv.length=i
 row:wr.ownsRow w.heap.size 99 1 v i rv
 rows:∀(j:Nat) u,rv[j]?=some u→wr.ownsRow w.heap.size 4 1 u n ((List.replicate n false).map Value.bool)
 sep:∀(i j:Nat) t u,i≠j→rv[i]?=some t→rv[j]?=some u→t.ownBlock=none∨t.ownBlock≠u.ownBlock
 blw:Below w.heap.size w wr
theorem BldM.push{w wr m p:vF}{n i:Nat}{v v':sA}{d:List sA}{o:Obj}(h:BldM w wr n i v d)(C:i<n)(z:m.ownsRow w.heap.size 4 1 (.slice (some ⟨wr.heap.size,0,none⟩) n n) n ((A3 n false).map IY))(l:wr.grownBy m none)
  (D:p.ownsRow w.heap.size 99 1 v' (i+1) (d++[.slice (some ⟨wr.heap.size,0,none⟩) n n])) (q:(m.alloc o).grownBy p v.ownBlock):BldM w p n (i+1) v' (d++[.slice (some ⟨wr.heap.size,0,none⟩) n n]):=by
 have r:=h.row.kept l (by cases s:v.ownBlock<;>simp);have E:∀(j:Nat) u,d[j]?=some u→p.ownsRow w.heap.size 4 1 u n ((A3 n false).map IY):=by intro j u c;have A:=(h.rows j u c).kept l (by cases s:u.ownBlock<;>simp);exact(A.alloc o).kept q (gL A r (by decide))
 have F:=(z.alloc o).kept q (gL z r (by decide));have B:∀(j:Nat) u,d[j]?=some u→∀g,u.ownBlock=some g→g<wr.heap.size:=fun j u c g l=>((h.rows j u c).lt g l).2
 refine⟨C,by rw[List.length_append,h.len];rfl,D,?_,?_,?_⟩
 ·intro j u c;by_cases G:j<d.length
  ·rw[IL G]at c;exact E j u c
  ·rw[IZ (by omega)]at c;have:j-d.length=0:=by have:=bV c;simp at this;omega
   rw[this]at c;simp at c;subst c;exact F
 ·intro a b t u H f c;by_cases I:a<d.length
  ·rw[IL I]at f;by_cases x:b<d.length
   ·rw[IL x]at c;exact h.sep a b t u H f c
   ·rw[IZ (by omega)]at c;have:b-d.length=0:=by have:=bV c;simp at this;omega
    rw[this]at c;simp at c;subst c;cases s:t.ownBlock with
    |none=>exact .inl rfl
    |some g=>refine .inr (fun e=>?_);have J:=B a t f g s;simp only[Value.ownBlock,Option.some.injEq]at e;omega
  ·rw[IZ (by omega)]at f;have:a-d.length=0:=by have:=bV f;simp at this;omega
   rw[this]at f;simp at f;subst f;have x:b<d.length:=by have:=bV c;simp at this;omega
   rw[IL x]at c;refine .inr (fun e=>?_);have J:=B b u c wr.heap.size e.symm;omega
 ·have K:=h.blw.size;have M:wr.heap.size≤m.heap.size:=l.size;have L:Below w.heap.size w m:=h.blw.grown l K (fun k y=>by cases y);exact(L.alloc (by omega) o).grown q (by simp;omega) (fun k y=>(r.lt k y).1)
theorem BldM.full{w wr:vF}{n:Nat}{v:sA}{a:List sA}(h:BldM w wr n n v a):OwnM wr w.heap.size v (A3 n (A3 n false)) a:=by refine⟨by rw[Jy];exact h.len,by rw[Jy];exact h.row,?_,h.sep⟩;intro i r u hr c;rw[Jy];have b:=bV hr;rw[Jy]at b;rw[Jk,if_pos b]at hr;injection hr with hr;subst hr;rw[Jy];exact⟨rfl,h.rows i u c⟩
theorem Ca(n i j:Nat):bY (A3 n (A3 n false)) i j=false:=by
 cases h:bY (A3 n (A3 n false)) i j with
 |false=>rfl
 |true=>obtain⟨r,hr,a⟩:=DV h;have b:=bV hr;rw[Jy]at b;rw[Jk,if_pos b]at hr;injection hr with hr;subst hr;have c:=bV a;rw[Jy]at c;rw[Jk,if_pos c]at a;cases a
theorem OwnM.below{w w':vF}{B:Nat}{v:sA}{M:List (List Bool)}{a:List sA}(h:OwnM w B v M a)(b:Below w.heap.size w w'):OwnM w' B v M a:=
 ⟨h.len,aM h.row b,fun i r u hr c=>⟨(h.rows i r u hr c).1,aM (h.rows i r u hr c).2 b⟩,h.sep⟩
structure PtI(fs:List Fct)(ns:List ByteArray)(w wr:World)(v:Value)(rv:List Value)(M:List (List Bool)):Prop where
 own:OwnM wr w.heap.size v M rv
 len:M.length=ns.length
 snd:uZ fs ns M
 blw:Below w.heap.size w wr
theorem PtI.below{a:List Fct}{b:List ByteArray}{w wr c:vF}{v:sA}{d:List sA}{M:List (List Bool)}(h:PtI a b w wr v d M)(e:Below wr.heap.size wr c):PtI a b w c v d M:=
 ⟨h.own.below e,h.len,h.snd,h.blw.trans (e.mono h.blw.size)⟩
theorem PtI.row{e:List Fct}{a:List ByteArray}{w wr:vF}{v:sA}{b:List sA}{M:List (List Bool)}(h:PtI e a w wr v b M){i:Nat}(c:i<a.length):∃X,M[i]?=some X∧X.length=a.length:=by obtain⟨X,d⟩:∃X,M[i]?=some X:=⟨_,hZ (by rw[h.len];exact c)⟩;obtain⟨u,f⟩:∃u,b[i]?=some u:=⟨_,hZ (by rw[h.own.len,h.len];exact c)⟩;exact⟨X,d,by rw[(h.own.rows i X u d f).1,h.len]⟩
theorem PtI.kx{e:List Fct}{d:List ByteArray}{w wr f:vF}{v u:sA}{c:List sA}{M:List (List Bool)}{a b:Nat}{X Y:List Bool}(h:PtI e d w wr v c M)(g:M[a]?=some X)(l:M[b]?=some Y)(n:c[a]?=some u)
  (o:OwnM f w.heap.size v (M.set a (orK X Y M.length)) c) (q:Kb u.ownBlock.toList wr f) (r:∀j,bY M b j=true→∃p y,d[a]?=some p∧d[j]?=some y∧Pts e p y):PtI e d w f v c (M.set a (orK X Y M.length)):=by
 have s:=(h.own.rows a X u g n).2;have t:=(h.own.rows a X u g n).1;obtain⟨x,z⟩:∃u,c[b]?=some u:=⟨_,hZ (by rw[h.own.len];exact bV l)⟩;have A:=(h.own.rows b Y x l z).1;refine⟨o,by rw[JD];exact h.len,?_,h.blw.trans (q.below h.blw.size (fun k B=>(s.lt k (Option.mem_toList.1 B)).1))⟩;intro i j C;rcases(oL g l t A).2.2.1 i j C with m|⟨rfl,m⟩
 ·exact h.snd i j m
 ·obtain⟨p,y,D,E,F⟩:=r j m;exact⟨p,y,D,E,F⟩
structure PtF(fs:List Fct)(ns:List ByteArray)(w wr:World)(v:Value)(rv:List Value)(M M2:List (List Bool))(c:Bool)(f:Fct):Prop where
 ptI:PtI fs ns w wr v rv M2
 no:c=false→M2=M∧kU ns M f
 yes:c=true→kK M<kK M2
structure PtJ(fs:List Fct)(ns:List ByteArray)(w wr:World)(v:Value)(rv:List Value)(M M1:List (List Bool))(ch:Bool)(i:Nat):Prop where
 le:i≤fs.length
 ptI:PtI fs ns w wr v rv M1
 no:ch=false→M1=M∧∀(j:Nat) f,j<i→fs[j]?=some f→kU ns M f
 yes:ch=true→kK M<kK M1
theorem PtJ.next{b:List Fct}{d:List ByteArray}{w wr n:vF}{v:sA}{e:List sA}{M o M2:List (List Bool)}{k c:Bool}{i:Nat}{f:Fct}(h:PtJ b d w wr v e M o k i)(p:b[i]?=some f)(h2:PtF b d w n v e o M2 c f):PtJ b d w n v e M M2 (k || c) (i+1):=by
 refine⟨bV p,h2.ptI,fun l=>?_,fun q=>?_⟩
 ·simp only[J5]at l;obtain⟨t,u⟩:=h.no l.1;obtain⟨x,y⟩:=h2.no l.2;subst t;refine⟨x,fun j g A a=>?_⟩;by_cases z:j=i
  ·subst z;rw[p]at a;injection a with a;rw[← a];exact y
  ·exact u j g (by omega) a
 ·cases m:c
  ·rw[m,K2]at q;rw[(h2.no m).1];exact h.yes q
  ·have r:=h2.yes m;cases s:k
   ·rw[(h.no s).1]at r;exact r
   ·have:=h.yes s;omega
theorem iZ{a:List ByteArray}(b:a.Nodup){i j:Nat}{x:ByteArray}(c:a[i]?=some x)(d:a[j]?=some x):i=j:=by obtain⟨e,f⟩:=II.1 c;obtain⟨g,h⟩:=II.1 d;exact(List.getElem_inj (h₀:=e) (h₁:=g) b).1 (f.trans h.symm)
theorem Fz{e:List Fct}{c:List ByteArray}{w wr f:vF}{v:sA}{g:List sA}{M:List (List Bool)}{a b:Nat}{X:List Bool}{x:Bool}{p q:ByteArray}(k:c.Nodup)(h:PtI e c w wr v g M)(n:M[a]?=some X)(o:X[b]?=some x)
  (l:c[a]?=some p) (m:c[b]?=some q) (r:(⟨1,p,q⟩:Fct)∈e) (s:OwnM f w.heap.size v (M.set a (X.set b true)) g) (t:Below w.heap.size w f):PtF e c w f v g M (M.set a (X.set b true)) (!x) ⟨1,p,q⟩:=by
 obtain⟨u,y,z,H⟩:=DY n o;refine⟨⟨s,by rw[JD];exact h.len,?_,t⟩,fun I=>?_,fun J=>y (by cases x<;>simp_all)⟩
 ·intro i j A;rcases z i j A with B|⟨rfl,rfl⟩
  ·exact h.snd i j B
  ·exact⟨p,q,l,m,.addr r⟩
 ·have C:x=true:=by cases x<;>simp_all
  obtain⟨D,E⟩:=u C;refine⟨D,⟨fun _ i j F G=>?_,(fun d=>by simp at d),(fun d=>by simp at d),(fun d=>by simp at d)⟩⟩;rw[iZ k F l,iZ k G m];exact E
theorem FA{g:List Fct}{c:List ByteArray}{w wr k:vF}{v u:sA}{f:List sA}{M:List (List Bool)}{a b:Nat}{X Y:List Bool}{p q:ByteArray}(n:c.Nodup)(h:PtI g c w wr v f M)(o:M[a]?=some X)(r:M[b]?=some Y)(A:X.length=c.length)(B:Y.length=c.length)(C:f[a]?=some u)
  (s:c[a]?=some p) (t:c[b]?=some q) (D:(⟨2,p,q⟩:Fct)∈g) (E:OwnM k w.heap.size v (M.set a (orK X Y M.length)) f) (d:Kb u.ownBlock.toList wr k):PtF g c w k v f M (M.set a (orK X Y M.length)) (oR X Y M.length) ⟨2,p,q⟩:=by
 have F:=h.kx o r C E d (fun j l=>by
  obtain⟨L,y,e,m,G⟩:=h.snd b j l;rw[t]at e;injection e with e;subst e;exact⟨p,y,s,m,.copy D G⟩)
 obtain⟨e,m,_,_⟩:=oL o r (A.trans h.len.symm) (B.trans h.len.symm);refine⟨F,fun H=>?_,m⟩;obtain⟨I,J⟩:=e H;refine⟨I,⟨(fun d=>by simp at d),fun _ i j x K l z=>?_,(fun d=>by simp at d),(fun d=>by simp at d)⟩⟩;rw[iZ n K s];rw[iZ n l t]at z;exact J x z
structure PtL(fs:List Fct)(ns:List ByteArray)(w wr:World)(v:Value)(rv:List Value)(M M2:List (List Bool))(c:Bool)(x:Nat)(by':Nat→Nat→Prop):Prop where
 le:x≤ns.length
 ptI:PtI fs ns w wr v rv M2
 no:c=false→M2=M∧∀u j,u<x→by' u j
 yes:c=true→kK M<kK M2
theorem PtL.step{f:List Fct}{b:List ByteArray}{w wr k:vF}{v:sA}{g:List sA}{M M2 e:List (List Bool)}{c d:Bool}{x:Nat}{i:Nat→Nat→Prop}(h:PtL f b w wr v g M M2 c x i)(p:x<b.length)(hI:PtI f b w k v g e)(l:d=false→e=M2∧(M2=M→∀j,i x j))(q:d=true→kK M2<kK e) :
  PtL f b w k v g M e (c || d) (x+1) i:=by
 refine⟨p,hI,fun a=>?_,fun a=>?_⟩
 ·simp only[J5]at a;obtain⟨m,r⟩:=h.no a.1;obtain⟨s,t⟩:=l a.2;refine⟨s.trans m,fun u j z=>?_⟩;by_cases y:u=x
  ·subst y;exact t m j
  ·exact r u j (by omega)
 ·cases hd:d
  ·rw[hd,K2]at a;rw[(l hd).1];exact h.yes a
  ·have n:=q hd;cases o:c
   ·rw[(h.no o).1]at n;exact n
   ·have:=h.yes o;omega
theorem C4{d:List Fct}{c:List ByteArray}{M:List (List Bool)}(h:uZ d c M){i j:Nat}(e:bY M i j=true):i<c.length∧j<c.length:=by obtain⟨a,b,f,g,_⟩:=h i j e;exact⟨bV f,bV g⟩
theorem PtL.load{f:List Fct}{d:List ByteArray}{w wr m:vF}{v:sA}{g:List sA}{M M2:List (List Bool)}{c:Bool}{a b:Nat}{p q:ByteArray}(l:d.Nodup)(n:d[a]?=some p)(o:d[b]?=some q)(r:PtI f d w m v g M)
  (h:PtL f d w wr v g M M2 c d.length (fun u j=>bY M b u=true→bY M u j=true→bY M a j=true)):PtF f d w wr v g M M2 c ⟨3,p,q⟩:=by
 refine⟨h.ptI,fun s=>?_,h.yes⟩;obtain⟨t,y⟩:=h.no s;refine⟨t,⟨(fun e=>by simp at e),(fun e=>by simp at e),fun _ i j u x z A k B=>?_,(fun e=>by simp at e)⟩⟩;rw[iZ l z n];rw[iZ l A o]at k;exact y u x (C4 r.snd k).2 k B
theorem PtL.store{f:List Fct}{d:List ByteArray}{w wr n:vF}{v:sA}{g:List sA}{M M2:List (List Bool)}{c:Bool}{a b:Nat}{p q:ByteArray}(l:d.Nodup)(o:d[a]?=some p)(r:d[b]?=some q)(s:PtI f d w n v g M)
  (h:PtL f d w wr v g M M2 c d.length (fun u j=>bY M a u=true→bY M b j=true→bY M u j=true)):PtF f d w wr v g M M2 c ⟨4,p,q⟩:=by
 refine⟨h.ptI,fun t=>?_,h.yes⟩;obtain⟨y,z⟩:=h.no t;refine⟨y,⟨(fun e=>by simp at e),(fun e=>by simp at e),(fun e=>by simp at e),fun _ i j u x A B k m=>?_⟩⟩;rw[iZ l A o]at k;rw[iZ l B r]at m;exact z u x (C4 s.snd k).2 k m
theorem D0{g:List Fct}{f:List ByteArray}{w wr:vF}{v:sA}{i:List sA}{M M2:List (List Bool)}{c:Bool}{x a b:Nat}(h:PtL g f w wr v i M M2 c x (fun u j=>bY M b u=true→bY M u j=true→bY M a j=true))(l:x<f.length)(m:bY M2 b x=false) :
  PtL g f w wr v i M M2 c (x+1) (fun u j=>bY M b u=true→bY M u j=true→bY M a j=true):=by
 have:=h.step (d:=false) l h.ptI (fun _=>⟨rfl,fun e j k=>by rw[← e,m]at k;cases k⟩) (fun h=>by cases h);rw[K2]at this;exact this
theorem D1{k:List Fct}{d:List ByteArray}{w wr l:vF}{v u:sA}{i:List sA}{M M2:List (List Bool)}{c:Bool}{x a b:Nat}{X Z:List Bool}{p q:ByteArray}(h:PtL k d w wr v i M M2 c x (fun u j=>bY M b u=true→bY M u j=true→bY M a j=true))(r:x<d.length)(t:bY M2 b x=true)
  (n:M2[a]?=some X) (o:M2[x]?=some Z) (z:X.length=d.length) (A:Z.length=d.length) (B:i[a]?=some u) (C:d[a]?=some p) (D:d[b]?=some q) (E:(⟨3,p,q⟩:Fct)∈k) (F:OwnM l w.heap.size v (M2.set a (orK X Z M2.length)) i) (G:Kb u.ownBlock.toList wr l) :
  PtL k d w l v i M (M2.set a (orK X Z M2.length)) (c || oR X Z M2.length) (x+1) (fun u j=>bY M b u=true→bY M u j=true→bY M a j=true):=by
 have H:=h.ptI.kx n o B F G (fun j I=>by
  obtain⟨N,s,f,m,J⟩:=h.ptI.snd b x t;obtain⟨O,y,g,K,L⟩:=h.ptI.snd x j I;rw[D]at f;injection f with f;rw[m]at g;injection g with g;subst f g;exact⟨p,y,C,K,.load E J L⟩)
 obtain⟨f,m,_,_⟩:=oL n o (z.trans h.ptI.len.symm) (A.trans h.ptI.len.symm);exact h.step r H (fun hd=>⟨(f hd).1,fun e j _ g=>by rw[← e]at g ⊢;exact(f hd).2 j g⟩) m
theorem Cb{g:List Fct}{f:List ByteArray}{w wr:vF}{v:sA}{i:List sA}{M M2:List (List Bool)}{c:Bool}{x a b:Nat}(h:PtL g f w wr v i M M2 c x (fun u j=>bY M a u=true→bY M b j=true→bY M u j=true))(l:x<f.length)(m:bY M2 a x=false) :
  PtL g f w wr v i M M2 c (x+1) (fun u j=>bY M a u=true→bY M b j=true→bY M u j=true):=by
 have:=h.step (d:=false) l h.ptI (fun _=>⟨rfl,fun e j k=>by rw[← e,m]at k;cases k⟩) (fun h=>by cases h);rw[K2]at this;exact this
theorem Cc{k:List Fct}{d:List ByteArray}{w wr l:vF}{v u:sA}{i:List sA}{M M2:List (List Bool)}{c:Bool}{x a b:Nat}{Y Z:List Bool}{p q:ByteArray}(h:PtL k d w wr v i M M2 c x (fun u j=>bY M a u=true→bY M b j=true→bY M u j=true))(r:x<d.length)(t:bY M2 a x=true)
  (n:M2[x]?=some Z) (o:M2[b]?=some Y) (z:Z.length=d.length) (A:Y.length=d.length) (B:i[x]?=some u) (C:d[a]?=some p) (D:d[b]?=some q) (E:(⟨4,p,q⟩:Fct)∈k) (F:OwnM l w.heap.size v (M2.set x (orK Z Y M2.length)) i) (G:Kb u.ownBlock.toList wr l) :
  PtL k d w l v i M (M2.set x (orK Z Y M2.length)) (c || oR Z Y M2.length) (x+1) (fun u j=>bY M a u=true→bY M b j=true→bY M u j=true):=by
 have H:=h.ptI.kx n o B F G (fun j I=>by
  obtain⟨N,s,f,m,J⟩:=h.ptI.snd a x t;obtain⟨O,y,g,K,L⟩:=h.ptI.snd b j I;rw[C]at f;injection f with f;rw[D]at g;injection g with g;subst f g;exact⟨s,y,m,K,.store E J L⟩)
 obtain⟨f,m,_,_⟩:=oL n o (z.trans h.ptI.len.symm) (A.trans h.ptI.len.symm);exact h.step r H (fun hd=>⟨(f hd).1,fun e j _ g=>by rw[← e]at g ⊢;exact(f hd).2 j g⟩) m
theorem PtI.reads{o:List Fct}{d:List ByteArray}{w wr:vF}{n vc:Nat}{va:Option Addr}{g:List sA}{M:List (List Bool)}(h:PtI o d w wr (.slice va n vc) g M)(s:n=d.length){a:Nat}(l:a<d.length) :
  ∃e X c f,va=some ⟨e,0,none⟩∧M[a]?=some X∧X.length=d.length∧g[a]?=some (.slice (some ⟨c,0,none⟩) X.length f)∧wr.cell? ⟨e,a,none⟩=some (.slice (some ⟨c,0,none⟩) X.length f)∧w.heap.size≤c∧(∀b x,X[b]?=some x→wr.cell? ⟨c,b,none⟩=some (.bool x))∧∀b,wr.frozen? ⟨c,b,none⟩=false:=by
 obtain⟨X,m,p⟩:=h.row l;obtain⟨u,i⟩:∃u,g[a]?=some u:=⟨_,hZ (by rw[h.own.len,h.len];exact l)⟩;have j:=(h.own.rows a X u m i).2;obtain⟨c,f,rfl,_,hr⟩:=fL j (by omega);obtain⟨e,t,k,_,q⟩:=fL h.own.row (by rw[h.len];omega);injection k with k _ _;refine⟨e,X,c,f,k,m,p,i,q a _ i,(j.lt c rfl).1,fun b x r=>hr b _ (by rw[List.getElem?_map,r];rfl),(eZ j).2⟩
def bit:sA→Nat
 | .bool true=>1
 |_=>0
set_option maxRecDepth 100000 in
set_option maxHeartbeats 2000000 in
theorem Cd(vl vn:sA)(d:List Fct)(a:List ByteArray)(w:vF)(cv:d.length≤1000)(cw:a.length≤1000)(hl:cV vl d w)(hn:cY vn a w)(a9:a.Nodup)(az:∀f∈d,f.p∈a∧f.q∈a)(hk:∀f∈d,1≤f.k∧f.k≤4) :
  Calls hE 54 #[vl,vn] w fun e w'=>∃v M g,e=.returned v∧M.length=a.length∧OwnM w' w.heap.size v M g∧Below w.heap.size w w'∧uZ d a M∧∀f∈d,kU a M f:=by
 obtain⟨aj,aV⟩:=Hu;have b3:=aA aV;clear aV;obtain⟨i0,bn,bo,bp,bq⟩:=info_parts Fy;obtain⟨j0,br,bs,bt,bu⟩:=info_parts DZ;have bv:=aA hl;have HN:=aA hn;obtain⟨lo,lc,rfl,_,_,_⟩:=hl;obtain⟨no,b4,rfl,_,_,_⟩:=hn;have bw:=aA az;have bx:=aA hk;clear az hk;go_enter Tryz.func54,Tryz.ntmps54
 go_wp2;go_loopw [5,6] (fun v I wr=>∃(i:Nat) (g:List sA),I=.int .i64 i∧BldM w wr a.length i v g) (fun _ I _=>a.length-(intOf I).toNat)
 case atStart=>exact⟨0,[],rfl,IM _,rfl,World.ownsRow_nil _ _ _ _,(fun j u h=>by simp at h),(fun i j cz u _ h=>by simp at h),Below.refl _ _⟩
 case round=>
  obtain⟨i,g,rfl,C⟩:=hrel;by_cases bz:i<a.length
  ·obtain⟨r,m,rfl,_⟩:=aQ C.row;have U:=aA C;have hz:=C.blw.size;clear C;go_wp2_with (first|(at_make;refine wpList_make_full _ rfl _ _ 99 rfl w.heap.size 4 i0 (.bool false) 1 Tryz.underlying99 bn bo bp .i64 .i64 _ _ a.length rfl rfl (by simp) (by simp) ?c1 ?c2 ?c3 ?_)|go_in)
   case c1=>rw[bq];omega
   case c2=>unfold maxLen;omega
   case c3=>exact hz
   intro V ak aa;have b5:V.ownsRow w.heap.size 4 1 (.slice (some ⟨wr.heap.size,0,none⟩) a.length a.length) a.length ((A3 a.length false).map IY):=by rw[List.map_replicate];rw[toList_madeCells_one]at ak;exact ak
   have HV:=aA (U.out.row.kept aa (by cases hq:(Value.slice r i m).ownBlock<;>simp));have bF:=aA b5;have c0:=aA aa;have cA:wr.heap.size≤V.heap.size:=aa.size;clear ak b5 aa;go_wp2_with (first|(at_builtin;refine wpList_append_own _ rfl _ _ 97 rfl w.heap.size 99 j0 (.slice none 0 0) 1 24 Tryz.underlying97 br bs bt bu rfl (by decide) (.slice r i m) i g rfl (HV.out.alloc _) ⟨V.heap.size,0,none⟩ 1 1 [.slice (some ⟨wr.heap.size,0,none⟩) a.length a.length] rfl rfl (bU _ _ _ _ rfl) ?x6 ?x7 ?x8 ?x9 ?_)|go_in)
   case x6=>intro u s;rw[List.mem_singleton.1 s];rfl
   case x7=>unfold maxLen;omega
   case x8=>omega
   case x9=>simp;omega
   intro v' w3 b6 b7 _;have c4:=U.out.push bz bF.out c0.out b6 b7;clear b6 b7;go_wp2;go_round
   case rel=>exact⟨i+1,_,by go_num,c4⟩
   case measure=>simp[intOf];omega
  ·have c5:i=a.length:=by have:=C.le;omega
   subst c5;have HM:=aA C.full;have U:=aA C.blw;obtain⟨r,m,rfl,_⟩:=aQ C.row;clear C;have b8:PtI d a w wr (.slice r a.length m) g (A3 a.length (A3 a.length false)):=⟨HM.out,by rw[Jy],(fun i j h=>by rw[Ca]at h;cases h),U.out⟩;clear HM U;go_wp2_with fail
   go_loopw [7] (fun D wr=>∃(q:Bool) (M:List (List Bool)),D=.bool q∧PtI d a w wr (.slice r a.length m) g M∧(q=false→∀f∈d,kU a M f)) (fun D wr=>2*(a.length*a.length-aj w.heap.size (.slice r a.length m) g wr)+bit D)
   case atStart=>exact⟨true,_,rfl,b8,fun h=>by cases h⟩
   case round=>
    clear b8;obtain⟨c6,M,rfl,Q,al⟩:=hrel;cases c6
    ·have b:=aA (And.intro Q (al rfl));clear Q al;go_wp2;go_ret
     exact⟨.slice r a.length m,M,g,rfl,b.out.1.len,b.out.1.own,b.out.1.blw,b.out.1.snd,b.out.2⟩
    ·clear al;have c7:=aA Q;have b9:=b3.out _ _ _ _ _ Q.own;have ba:=aA b9;have bb:PtJ d a w wr (.slice r a.length m) g M M false 0:=⟨IM _,Q,(fun _=>⟨rfl,fun j f J=>absurd J (MX _)⟩),fun h=>by cases h⟩;clear Q b9;generalize c8:wr=wo at c7 ba;go_wp2_with fail
     go_loopw [7,8] (fun D I wr=>∃(q:Bool) (i:Nat) (l:List (List Bool)),D=.bool q∧I=.int .i64 i∧PtJ d a w wr (.slice r a.length m) g M l q i) (fun _ I _=>d.length-(intOf I).toNat)
     case atStart=>exact⟨false,0,M,rfl,rfl,by rw[← c8];exact bb⟩
     case round=>
      obtain⟨q,i,l,rfl,rfl,hJ⟩:=hrel;have z:=aA hJ;have bc:=hJ.ptI.blw;have cB:=hJ.le;clear hJ bb;by_cases am:i<d.length
      ·obtain⟨⟨k,p,an⟩,hf⟩:∃f,d[i]?=some f:=⟨_,hZ am⟩;have ab:=List.mem_of_getElem? hf;obtain⟨hp,hq⟩:=bw.out _ ab;obtain⟨c9,cc⟩:=bx.out _ ab;simp only at hp hq c9 cc;have cd:d≠[]:=by intro e;rw[e]at am;simp at am
       obtain⟨cC,cF,he,_,_,bd⟩:=bv.out.below bc;injection he with he _ ce;subst ce;obtain⟨fb,fo,cf,ad,be⟩:=bd cd;rw[cf]at he;subst he;obtain⟨a0,a1,a2⟩:=be i k p an hf;have HF:=aA hf;have ae:=aA ab;have ao:=HN.out.below bc;clear be bd hf ab;go_wp2_with fail
       refine(xD (.slice no a.length b4) a p wr (by omega) ao).mono ?_
       rintro e V ⟨X,rfl,bf,K⟩;have ap:=bf hp;have b0:=(K.cell (p:=⟨fb,_,none⟩) ad).trans a0;have b1:=(K.cell (p:=⟨fb,_,none⟩) ad).trans a1;have b2:=(K.cell (p:=⟨fb,_,none⟩) ad).trans a2;have bg:=ao.below K;clear a0 a1 a2 bf;go_wp2_with fail
       refine(xD (.slice no a.length b4) a an V (by omega) bg).mono ?_
       rintro e w3 ⟨A,rfl,bh,aq⟩;have ar:=bh hq;have cg:=Nat.lt_of_lt_of_le ad K.size;have d0:=(aq.cell (p:=⟨fb,_,none⟩) cg).trans b0;have af:PtI d a w w3 (.slice r a.length m) g l:=(z.out.ptI.below K).below aq;have ag:Hid (∀(R:vF) (n:List (List Bool)) (c:Bool),PtF d a w R (.slice r a.length m) g l n c ⟨k,p,an⟩→PtJ d a w R (.slice r a.length m) g M n (q || c) (i+1)):=fun R n c h=>z.out.next HF.out h
       have au:=bV ap;have av:=bV ar;obtain⟨Y,ah,ga,ca,rfl,L,lX,s,rx,ch,Z,a3⟩:=af.reads rfl au;obtain⟨cL,bi,gb,cb,a4,hY,lY,ci,ry,_,ai,_⟩:=af.reads rfl av;injection a4 with a4;injection a4 with a4;subst a4;have S:=aA ap;have T:=aA ar;have B:=aA af;have HX:=aA L;have HY:=aA hY;have HU:=aA s;clear b0 b1 b2 bh K aq ao bg hp hq ap ar af L hY s ci;have cj:k=1∨k=2∨k=3∨k=4:=by omega
       rcases cj with rfl|rfl|rfl|rfl
       ·obtain⟨x,hx⟩:∃x,ah[A]?=some x:=⟨_,hZ (by omega)⟩;have cx:=Z A x hx;have zx:=a3 A;have bj:=B.out.own.set (i:=A) HX.out HU.out true;have b:=aA (ag.out _ _ _ (Fz a9 B.out HX.out hx S.out T.out ae.out bj (B.out.blw.setCell (p:=⟨ga,A,none⟩) ch _)));clear Z ai a3 bj hx;cases q<;>cases x
        all_goals
         go_wp2;go_roundw
         case rel=>exact⟨_,i+1,_,rfl,by go_num,b.out⟩
         case measure=>simp[intOf];omega
       ·have F:=rI w.heap.size (.slice (some ⟨Y,0,none⟩) a.length m) l g X A ah bi w3 (by rw[B.out.len];omega) B.out.own HX.out HY.out;clear Z ai a3;go_wp2_with fail
        refine F.mono ?_
        rintro e R ⟨u,s,rfl,G,H⟩;have b:=aA (ag.out _ _ _ (FA a9 B.out HX.out HY.out lX lY s S.out T.out ae.out G H));clear F s G H;generalize oR ah bi l.length=c at b ⊢;cases q<;>cases c
        all_goals
         go_wp2;go_roundw
         case rel=>exact⟨_,i+1,_,rfl,by go_num,b.out⟩
         case measure=>simp[intOf];omega
       ·clear Z ai a3 rx ry;go_wp2_with fail
        go_loopw [11,12] (fun D N wr=>∃(c:Bool) (x:Nat) (n:List (List Bool)),D=.bool c∧N=.int .i64 x∧PtL d a w wr (.slice (some ⟨Y,0,none⟩) a.length m) g l n c x (fun u j=>bY l A u=true→bY l u j=true→bY l X j=true)) (fun _ N _=>a.length-(intOf N).toNat)
        case atStart=>exact⟨false,0,l,rfl,rfl,IM _,B.out,(fun _=>⟨rfl,fun u j h=>absurd h (MX _)⟩),fun h=>by cases h⟩
        case round=>
         obtain⟨c,x,n,rfl,rfl,O⟩:=hrel;have o:=aA O;have ck:=O.le;clear O;by_cases E:x<a.length
         ·obtain⟨cl,Q2,gq,cq,t,a5,cm,_,rq,_,a6,_⟩:=o.out.ptI.reads rfl av;injection t with t;injection t with t;subst t;obtain⟨y,P⟩:∃y,Q2[x]?=some y:=⟨_,hZ (by omega)⟩;have cy:=a6 x y P;have a7:Hid (bY n A x=y):=by unfold Hid;rw[gE a5,E1,P];rfl
          clear a6 P a5;cases y
          ·have b:=aA (D0 o.out E a7.out);go_wp2;go_roundw
           case rel=>exact⟨c,x+1,n,rfl,by go_num,b.out⟩
           case measure=>simp[intOf];omega
          ·have cn:=E;obtain⟨X2,bk,co⟩:=o.out.ptI.row au;obtain⟨Z2,a8,aw⟩:=o.out.ptI.row E;have F:=rI w.heap.size (.slice (some ⟨Y,0,none⟩) a.length m) n g X x X2 Z2 wr (by rw[o.out.ptI.len];omega) o.out.ptI.own bk a8;go_wp2_with fail
           refine F.mono ?_
           rintro e R ⟨u,s,rfl,G,H⟩;have b:=aA (D1 o.out E a7.out bk a8 co aw s S.out T.out ae.out G H);clear F s G H cy rq;generalize oR X2 Z2 n.length=ax at b ⊢;cases c<;>cases ax
           all_goals
            go_wp2;go_roundw
            case rel=>exact⟨_,x+1,_,rfl,by go_num,b.out⟩
            case measure=>simp[intOf];omega
         ·have ay:x=a.length:=by omega
          subst ay;have b:=aA (ag.out _ _ _ (PtL.load a9 S.out T.out B.out o.out));cases q<;>cases c
          all_goals
           go_wp2;go_roundw
           case rel=>exact⟨_,i+1,_,rfl,by go_num,b.out⟩
           case measure=>simp[intOf];omega
       ·clear Z ai a3 rx ry;go_wp2_with fail
        go_loopw [11,14] (fun D N wr=>∃(c:Bool) (x:Nat) (n:List (List Bool)),D=.bool c∧N=.int .i64 x∧PtL d a w wr (.slice (some ⟨Y,0,none⟩) a.length m) g l n c x (fun u j=>bY l X u=true→bY l A j=true→bY l u j=true)) (fun _ N _=>a.length-(intOf N).toNat)
        case atStart=>exact⟨false,0,l,rfl,rfl,IM _,B.out,(fun _=>⟨rfl,fun u j h=>absurd h (MX _)⟩),fun h=>by cases h⟩
        case round=>
         obtain⟨c,x,n,rfl,rfl,O⟩:=hrel;have o:=aA O;have ck:=O.le;clear O;by_cases E:x<a.length
         ·obtain⟨cl,Q2,gq,cq,t,a5,cm,_,rq,_,a6,_⟩:=o.out.ptI.reads rfl au;injection t with t;injection t with t;subst t;obtain⟨y,P⟩:∃y,Q2[x]?=some y:=⟨_,hZ (by omega)⟩;have cy:=a6 x y P;have a7:Hid (bY n X x=y):=by unfold Hid;rw[gE a5,E1,P];rfl
          clear a6 P a5;cases y
          ·have b:=aA (Cb o.out E a7.out);go_wp2;go_roundw
           case rel=>exact⟨c,x+1,n,rfl,by go_num,b.out⟩
           case measure=>simp[intOf];omega
          ·have cn:=E;obtain⟨Z2,a8,aw⟩:=o.out.ptI.row E;obtain⟨Y2,bl,cp⟩:=o.out.ptI.row av;have F:=rI w.heap.size (.slice (some ⟨Y,0,none⟩) a.length m) n g x A Z2 Y2 wr (by rw[o.out.ptI.len];omega) o.out.ptI.own a8 bl;go_wp2_with fail
           refine F.mono ?_
           rintro e R ⟨u,s,rfl,G,H⟩;have b:=aA (Cc o.out E a7.out a8 bl aw cp s S.out T.out ae.out G H);clear F s G H cy rq;generalize oR Z2 Y2 n.length=ax at b ⊢;cases c<;>cases ax
           all_goals
            go_wp2;go_roundw
            case rel=>exact⟨_,x+1,_,rfl,by go_num,b.out⟩
            case measure=>simp[intOf];omega
         ·have ay:x=a.length:=by omega
          subst ay;have b:=aA (ag.out _ _ _ (PtL.store a9 S.out T.out B.out o.out));cases q<;>cases c
          all_goals
           go_wp2;go_roundw
           case rel=>exact⟨_,i+1,_,rfl,by go_num,b.out⟩
           case measure=>simp[intOf];omega
      ·have cr:i=d.length:=by omega
       subst cr;have HC:Hid (q=false→∀f∈d,kU a l f):=by intro hc f cs;obtain⟨j,J⟩:=J6 cs;obtain⟨e1,e2⟩:=z.out.no hc;rw[e1];exact e2 j f (bV J) J
       have bm:=b3.out _ _ _ _ _ z.out.ptI.own;have ct:kK l≤a.length*a.length:=by
        have:=Ht (M:=l) (n:=a.length) (fun cS hr=>by
         obtain⟨j,J⟩:=J6 hr;obtain⟨ah,L,lX⟩:=z.out.ptI.row (i:=j) (by have:=bV J;rw[z.out.ptI.len]at this;exact this);rw[J]at L;injection L with L;rw[L,lX];exact Nat.le_refl _)
        rw[z.out.ptI.len]at this;exact this
       have cu:Hid (2*(a.length*a.length-aj w.heap.size (.slice r a.length m) g wr)+bit (.bool q)<2*(a.length*a.length-aj w.heap.size (.slice r a.length m) g wo)+bit (.bool true)):=by
        unfold Hid;rw[bm,ba.out];cases hc:q
        ·rw[(z.out.no hc).1];simp[bit]
        ·have:=z.out.yes hc;simp only[bit];omega
       clear bm ct;go_wp2;go_roundw
       case rel=>exact⟨q,l,rfl,z.out.ptI,HC.out⟩
       case measure=>exact cu.out
end
end Go.Proofs.YtiamlbhkiehilaaGreatDoor
