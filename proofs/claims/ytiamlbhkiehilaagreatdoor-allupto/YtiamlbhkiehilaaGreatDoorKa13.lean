import Derived.Test.YtiamlbhkiehilaaGreatDoorKa12
open Array renaming length_toList→IR
open Bool renaming eq_false_iff→Kw
open ByteArray renaming size_extract→Jw
open Go renaming World→vF,maxLen→IU,Value→sA,TypeId→I1,bytes→OC,grownCap→OD,bodyPost_ret→IG,KeepsFrom→Ju
open Go.Builtin renaming zeroCells→NK
open Go.IntKind renaming i64→KE
open Go.Maps renaming size→JS
open Go.Proofs.Tryz renaming prog→hE,underlying44→I7,results75→M7
open Go.RowKit renaming ownsRow_setCell_below→Lg
open Go.Value renaming ownBlock→Jh,string→F2
open Go.World renaming ownsRow_nil→JW
open List renaming replicate→A3,replicate_succ→Mh,length_append→A4,getElem?_append_left→IL,getElem?_append_right→IZ,size_toArray→Km,take_left→OP,length_take→Ji,getElem?_take→Jr,append_assoc→JI,mem_iff_getElem→NL,nil_append→Mk,length_cons→Jn,mem_singleton→A1,map_append→Jp,length_eq_zero_iff→LJ,getElem?_map→Jx,mem_cons→sT,nodup_cons→OE,length_dropLast→K3
open Nat renaming le_refl→gO,add_mul→NX,zero_add→JR,mul_le_mul_right→NY,strongRecOn→Kn,zero_le→IM,le_of_lt→JA,lt_of_lt_of_le→A2,le_trans→IH
open Option.some renaming injEq→Kh
open Prod renaming fst→Ml
open UInt8 renaming ofNat→Kp
namespace Go.Proofs.YtiamlbhkiehilaaGreatDoor
set_option maxRecDepth 100000
set_option maxHeartbeats 1000000
section
open Go.RowKit Go.Maps
def bJ(n:Nat):ByteArray:=⟨#[109,97,114,107]⟩++⟨#[Kp (n % 256),Kp (n / 256 % 256),Kp (n / 65536 % 256)]⟩
theorem lR(n:Nat)(w:vF)(d:n≤1000000000000) :
  Calls hE 49 #[.int .i64 n] w fun e w'=>e=.returned (.string (bJ n))∧Below w.heap.size w w':=by
 have a:∀m:Nat,((Kp (m % 256)).toNat:Int)=(m:Int) % 256:=by intro m;rw[UInt8.toNat_ofNat'];omega
 have b:(w.alloc (.cells #[.int .u8 ((n:Int) % 256),.int .u8 ((n:Int) / 256 % 256),.int .u8 ((n:Int) / 65536 % 256)] 5)).ownsRow w.heap.size 5 1 (.slice (some ⟨w.heap.size,0,none⟩) 3 3) ([Kp (n % 256),Kp (n / 256 % 256),Kp (n / 65536 % 256)]:List UInt8).length (fU [Kp (n % 256),Kp (n / 256 % 256),Kp (n / 65536 % 256)]):=by refine⟨by simp[fU],.inr ⟨w.heap.size,3,_,rfl,gO _,aD _ _,by simp,by unfold IU;omega,by simp,?_⟩⟩;simp only[fU,List.map_cons,List.map_nil,a];simp
 have f:=qI b;clear b a;go_enter Tryz.func49,Tryz.ntmps49
 go_wp2;go_ret
 exact⟨rfl,(Below.refl _ _).alloc (gO _) _⟩
def sD(i:Nat):Fct:=⟨0,bJ (i / 4*4),noB⟩
end
section
open Go
def dJ(n:Nat)(xs:List sA):List sA:=(A3 n xs).flatten
theorem jJ(n:Nat)(xs:List sA):dJ (n+1) xs=xs++dJ n xs:=by simp[dJ,Mh]
theorem iU(n:Nat)(xs:List sA):(dJ n xs).length=n*xs.length:=by
 induction n with
 |zero=>simp[dJ]
 |succ n a=>rw[jJ,A4,a,Nat.succ_mul];omega
theorem zY(n m:Nat)(xs:List sA):dJ n xs++dJ m xs=dJ (n+m) xs:=by simp[dJ,← List.flatten_append,List.replicate_append_replicate]
theorem gC(n:Nat)(xs:List sA):∀j,j<n*xs.length→(dJ n xs)[j]?=xs[j % xs.length]?:=by
 induction n with
 |zero=>intro j h;simp at h
 |succ n b=>
  intro j h;rw[jJ];by_cases a:j<xs.length
  ·rw[IL a,Nat.mod_eq_of_lt a]
  ·rw[Nat.succ_mul]at h;rw[IZ (by omega),b (j-xs.length) (by omega)];congr 1
   exact(Nat.mod_eq_sub_mod (by omega)).symm
theorem ES{n:Nat}{xs:List sA}{u:sA}(h:u∈dJ n xs):u∈xs:=by simp only[dJ,List.mem_flatten]at h;obtain⟨l,b,a⟩:=h;rw[(List.mem_replicate.1 b).2]at a;exact a
section
variable {P:Program} (w:World)
theorem rF(x:Nat)(t y e:I1)(i:TypeInfo)(z:sA)(JS OC:Nat)(E:P.underlying t=some (.slice e))(H:P.info? e=some i)(R:i.zero=some z)
  (a4:i.size=JS) (a5:i.bytes=OC) (a6:z.cells.size=JS) (ak:0<JS)
  (v:sA) (n:Nat) (xs:List sA) (d:xs.length=JS) (r:w.ownsRow x e JS v n (dJ n xs))
  (a:Addr) (m c:Nat) (al:0<m) (J:∀j u,(dJ m xs)[j]?=some u→w.cell? (a.add j)=some u) (h1:∀u∈xs,u.oneCell'=true)
  (S:n+m≤IU) (T:(n+m)*OC≤140737488355328) (a7:x≤w.heap.size) :
  ∃v' w',(Builtin.append_ #[t,t] y #[v,.slice (some a) m c]).run P w=.ok v' w'∧w'.ownsRow x e JS v' (n+m) (dJ (n+m) xs)∧w.grownBy w' v.ownBlock ∧
   (∀B u k,w.ownsRow B e JS u k (dJ k xs)→w'.ownsRow B e JS u k (dJ k xs))∧(v'.ownBlock=v.ownBlock∨∃g,v'.ownBlock=some g∧w.heap.size≤g):=by
 subst a4;subst a5;have a8:∀u∈dJ m xs,u.oneCell'=true:=fun u f=>h1 u (ES f)
 have h:(dJ m xs).length=m*i.size:=by rw[iU,d]
 have am:n+m≤9223372036854775807:=by simp only[IU]at S;omega
 have U:(dJ n xs++dJ m xs).length=(n+m)*i.size:=by rw[A4,r.1,h,NX]
 have K:∀(l:Nat),l<n+m→∀(V:Option Nat),
   (w.drew.alloc (.cells ((dJ n xs).toArray++(dJ m xs).toArray++NK z.cells (OD w (n+m) l e-(n+m))) e)).ownsRow x e i.size
    (.slice (some ⟨w.heap.size,0,none⟩) (n+m) (OD w (n+m) l e)) (n+m) (dJ (n+m) xs) ∧
   w.grownBy (w.drew.alloc (.cells ((dJ n xs).toArray++(dJ m xs).toArray++NK z.cells (OD w (n+m) l e-(n+m))) e)) V:=by
  intro l ho V;have a9:=grownCap_ge w (n+m) l e;have N:OD w (n+m) l e≤IU:=grownCap_le_maxLen w (n+m) l e S;refine⟨⟨by rw[iU,d],.inr ⟨w.heap.size,_,_,rfl,a7,heap_alloc_new w.drew _,a9,N,?_,?_⟩⟩,⟨rfl,rfl,rfl,by simp,fun k A _=>by first|exact heap_alloc_old w.drew _ k A|exact heap_alloc_old w.drew _ A⟩⟩
  ·simp only[Array.size_append,Km,size_zeroCells,a6,r.1,h,← NX];congr 1
   omega
  ·simp only[Array.toList_append];rw[← U,zY];exact OP
 rcases r.2 with⟨rfl,rfl⟩|⟨g,o,b,rfl,aa,C,an,N,X,Y⟩
 ·have hr:=run_append_nil (P:=P) w t y e i z E H R a m c (dJ m xs) h J (by omega) (by omega) (by have hb:=T;simp only[JR]at hb;omega);have p:=K 0 (by omega) (Jh (.slice none 0 0));have h0:dJ 0 xs=[]:=rfl;rw[h0]at p;simp only[JR,Array.empty_append]at p ⊢;exact⟨_,_,hr,p.1,p.2,fun B u k f=>f.kept p.2 (by cases hv:u.ownBlock<;>simp[Jh]),.inr ⟨w.heap.size,rfl,gO _⟩⟩
 ·by_cases O:n+m≤o
  ·have ab:n*i.size+(dJ m xs).length≤b.size:=by rw[h,X,← NX];exact NY _ O
   have hr:=run_append_room (P:=P) w t y e i E H g n o b C a m c (dJ m xs) h J a8 O ab;have Z:(b.toList.take (n*i.size)++dJ m xs++b.toList.drop (n*i.size+(dJ m xs).length)).toArray.size=o*i.size:=by simp only[Km,A4,Ji,List.length_drop,IR (xs:=b)];omega
   have a0:w.grownBy (w.setRow g (b.toList.take (n*i.size)++dJ m xs++b.toList.drop (n*i.size+(dJ m xs).length)).toArray) (some g):=
    ⟨rfl,rfl,rfl,by simp,fun k _ A=>setRow_other w g k _ (fun e=>A (by rw[e]))⟩
   refine⟨_,_,hr,⟨by rw[iU,d],.inr ⟨g,o,_,rfl,aa,setRow_heap w g b _ e _ C,O,N,Z,?_⟩⟩,a0,?_,.inl rfl⟩
   ·rw[Y,← zY,← U];exact OP
   ·intro B u k f;by_cases D:u.ownBlock=some g
    ·refine⟨f.1,?_⟩;rcases f.2 with⟨rfl,_⟩|⟨g',a1,ao,rfl,ad,q,a2,ae,af,ag⟩
     ·cases D
     ·simp only[Jh,Kh]at D;subst D;rw[C]at q;injection q with q;injection q with q;subst q;refine .inr ⟨g',a1,_,rfl,ad,setRow_heap w g' b _ e _ C,a2,ae,by rw[Z,← X,af],?_⟩;have ap:k*i.size≤a1*i.size:=NY _ a2;refine List.ext_getElem? fun j=>?_
      rw[Jr];split
      ·rename_i Q;have hR:(dJ k xs)[j]?=xs[j % i.size]?:=by rw[gC k xs j (by rw[d];exact Q),d]
       rw[hR];by_cases ah:j<n*i.size
       ·rw[JI,IL (by rw[Ji,IR (xs:=b)];omega),Y,gC n xs j (by rw[d];exact ah),d]
       ·by_cases aq:j<n*i.size+m*i.size
        ·rw[IL (by rw[A4,Ji,IR (xs:=b),h];omega),IZ (by rw[Ji,IR (xs:=b)];omega),Ji,IR (xs:=b),Nat.min_eq_left (by omega),gC m xs _ (by rw[d];omega),d];congr 1
         have a3:(j-n*i.size+n*i.size) % i.size=(j-n*i.size) % i.size:=Nat.add_mul_mod_self_right _ _ _;rw[Nat.sub_add_cancel (by omega)]at a3;exact a3.symm
        ·rw[IZ (by rw[A4,Ji,IR (xs:=b),h];omega),A4,Ji,IR (xs:=b),h,List.getElem?_drop,← hR,← ag,Jr,if_pos Q];congr 1
         omega
      ·rename_i Q;rw[List.getElem?_eq_none];rw[iU,d];omega
    ·exact f.kept a0 (.inr D)
  ·have ai:∀j u,(dJ n xs)[j]?=some u→w.cell? ((⟨g,0,none⟩:Addr).add j)=some u:=r.cells (g:=g) rfl;have hr:=run_append_grow (P:=P) w t y e i z E H R ⟨g,0,none⟩ n o (dJ n xs) r.1 ai a m c (dJ m xs) h J (by omega) (by omega) (growslice_fits (by omega) T);have p:=K o (by omega) (Jh (.slice (some ⟨g,0,none⟩) n o));have aj:=(K o (by omega) none).2;exact⟨_,_,hr,p.1,p.2,fun B u k f=>f.kept aj (by cases hv:u.ownBlock<;>simp),.inr ⟨w.heap.size,rfl,gO _⟩⟩
theorem bS{f:Array Oper}{rest:List Oper}{o:Oper}{a:Act}{Q:Exit→Act→vF→Prop}(l:o.guard=none)(s x:Operand)(t:I1)
  (p:o.op=.call { callee:=.builtin .append,args:=#[s,x],argTypes:=#[t,t] })
  (b:Nat) (e:I1) (i:TypeInfo) (z:sA) (JS OC:Nat) (q:P.underlying t=some (.slice e)) (r:P.info? e=some i) (y:i.zero=some z)
  (A:i.size=JS) (C:i.bytes=OC) (D:z.cells.size=JS) (E:0<JS)
  (v:sA) (n:Nat) (xs:List sA) (H:xs.length=JS) (hs:a.eval s=v) (J:w.ownsRow b e JS v n (dJ n xs))
  (d:Addr) (m c:Nat) (K:0<m) (N:a.eval x=.slice (some d) m c) (O:∀j u,(dJ m xs)[j]?=some u→w.cell? (d.add j)=some u) (h1:∀u∈xs,u.oneCell'=true)
  (R:n+m≤IU) (S:(n+m)*OC≤140737488355328) (T:b≤w.heap.size)
  (h:∀v' w',w'.ownsRow b e JS v' (n+m) (dJ (n+m) xs)→w.grownBy w' v.ownBlock→(∀B u k,w.ownsRow B e JS u k (dJ k xs)→w'.ownsRow B e JS u k (dJ k xs))→(v'.ownBlock=v.ownBlock∨∃g,v'.ownBlock=some g∧w.heap.size≤g)→wpList P f Q rest (a.put o.dst v') w'):wpList P f Q (o::rest) a w:=
 wpList_plain l fun _ U=>by
  obtain⟨v',w',hr,V,X,Y,Z⟩:=rF (P:=P) w b t o.type e i z JS OC q r y A C D E v n xs H J d m c K O h1 R S T;unfold Oper.wp execOp;simp only[p,resolve,invoke,builtin,Sem.run_bind,Sem.run_pure,Result.andThen_ok,List.map_toArray,List.map_cons,List.map_nil,hs,N,hr];exact U _ _ (h v' w' V X Y Z)
end
end
section
open Go.RowKit Go.Maps
theorem Dt:(hE.info? 36).map (fun i=>(i.zero,i.size,i.bytes))=some (some (.slice none 0 0),1,24):=by kernel_rfl
def sE(i:Nat):List sA:=[.int .i64 0,.string (bJ (i / 4*4)),.string noB]
theorem Bt(n i:Nat):aY (A3 n (sD i))=dJ n (sE i):=by
 induction n with
 |zero=>rfl
 |succ n a=>rw[Mh,jJ,← a];simp[aY,sD,sE]
theorem mR{w:vF}{B:Nat}{e:I1}{JS g n cap:Nat}{xs:List sA}(h:w.ownsRow B e JS (.slice (some ⟨g,0,none⟩) n cap) n xs)(j:Nat)(v:sA) :
  (w.setCell ⟨g,j,none⟩ v).ownsRow B e JS (.slice (some ⟨g,0,none⟩) n cap) n (xs.set j v):=by
 refine⟨by rw[List.length_set];exact h.1,?_⟩;rcases h.2 with⟨b,_⟩|⟨p,q,r,b,d,f,i,k,l,m⟩
 ·cases b
 ·injection b with a _ o;injection a with a;injection a with a;subst a o;refine .inr ⟨g,cap,_,rfl,d,aI f j v,i,k,by simpa using l,?_⟩;rw[Array.toList_setIfInBounds,List.take_set,m]
theorem eZ{w:vF}{B:Nat}{e:I1}{JS g n cap:Nat}{xs:List sA}(h:w.ownsRow B e JS (.slice (some ⟨g,0,none⟩) n cap) n xs) :
  (∀(j:Nat) u,xs[j]?=some u→w.cell? ⟨g,j,none⟩=some u)∧(∀o,w.frozen? ⟨g,o,none⟩=false):=by
 rcases h.2 with⟨b,_⟩|⟨m,p,q,b,r,f,t,x,y,k⟩
 ·cases b
 ·injection b with a _ l;injection a with a;injection a with a;subst a l;refine⟨fun j u d=>?_,fun o=>aE f o⟩;have i:=aK d;rw[h.1]at i;rw[aC f];rw[← k,Jr,if_pos i]at d;simpa using d
theorem aQ{w:vF}{B:Nat}{e:I1}{JS n:Nat}{v:sA}{xs:List sA}(h:w.ownsRow B e JS v n xs) :
  ∃ao cap,v=.slice ao n cap∧(0<n→∃g,ao=some ⟨g,0,none⟩):=by
 rcases h.2 with⟨rfl,rfl⟩|⟨g,cap,a,rfl,_⟩
 ·exact⟨none,0,rfl,fun h=>absurd h (Nat.lt_irrefl _)⟩
 ·exact⟨_,cap,rfl,fun _=>⟨g,rfl⟩⟩
theorem Ic(d:List sA)(x y z a b c:sA)(r:List sA):(((d++x::y::z::r).set d.length a).set (d.length+1) b).set (d.length+2) c=d++a::b::c::r:=by simp
theorem Id(A B:List Fct)(f:Fct)(k:Int)(p q:ByteArray):(((aY (A++f::B)).set (A.length*3) (.int .i64 k)).set (A.length*3+1) (.string p)).set (A.length*3+2) (.string q)=aY (A++⟨k,p,q⟩::B):=by
 have e:∀f:Fct,aY (A++f::B)=aY A ++ .int .i64 f.k :: .string f.p :: .string f.q::aY B:=fun f=>by simp[aY]
 have h:=Ic (aY A) (.int .i64 f.k) (.string f.p) (.string f.q) (.int .i64 k) (.string p) (.string q) (aY B);rw[dA]at h;rw[e,e];exact h
theorem eT{w w':vF}{B:Nat}{e:I1}{JS n:Nat}{v:sA}{xs:List sA}{L:List Nat}(h:w.ownsRow B e JS v n xs)(a:Kb L w w')(b:∀g∈L,v.ownBlock≠some g):w'.ownsRow B e JS v n xs:=by
 refine⟨h.1,?_⟩;rcases h.2 with h|⟨g,d,f,rfl,i,j,k⟩
 ·exact .inl h
 ·exact .inr ⟨g,d,f,rfl,i,a.heap j (fun l=>b g l rfl),k⟩
theorem bU(w:vF)(a:Array sA)(T:I1)(xs:List sA)(h:a.toList=xs):∀j u,xs[j]?=some u→(w.alloc (.cells a T)).cell? ((⟨w.heap.size,0,none⟩:Addr).add j)=some u:=by intro j u b;rw[Addr.add_lit,aC (aD w (.cells a T)),JR];rw[← h]at b;simpa using b
theorem gL{w:vF}{B B':Nat}{e b:I1}{JS f:Nat}{v v':sA}{n i:Nat}{xs j:List sA}(h:w.ownsRow B e JS v n xs)(k:w.ownsRow B' b f v' i j)(l:e≠b):v.ownBlock=none∨v.ownBlock≠v'.ownBlock:=by
 rcases h.2 with⟨rfl,_⟩|⟨g,q,r,rfl,_,d,_⟩
 ·exact .inl rfl
 ·refine .inr fun a=>?_
  rcases k.2 with⟨rfl,_⟩|⟨t,u,x,rfl,_,m,_⟩
  ·cases a
  ·simp only[Jh,Kh]at a;rw[a,m]at d;injection d with o;injection o with y p;exact l p.symm
theorem cM{w:vF}{B:Nat}{e T:I1}{JS:Nat}{v:sA}{n b:Nat}{xs:List sA}{c:Array sA}{f:Nat × Nat}(h:w.ownsRow B e JS v n xs)(i:w.heap[b]?=some (.cells c T f))(j:e≠T):some b≠v.ownBlock:=by
 intro a;rcases h.2 with⟨rfl,_⟩|⟨g,m,o,rfl,_,d,_⟩
 ·cases a
 ·simp only[Jh,Kh]at a;rw[← a,i]at d;injection d with k;injection k with p l;exact j l.symm
def may(a:Nat)(V l:sA):List Nat:=a::(V.ownBlock.toList++l.ownBlock.toList)
structure KInv(B:Nat)(w1 wr:World)(l:Value)(fs:List Fct)(m:Fct)(i:Nat):Prop where
 le:i≤fs.length
 own:wr.ownsRow B 48 3 l fs.length (aY (List.replicate i m++fs.drop i))
 kb:Kb l.ownBlock.toList w1 wr
def kB(s:ByteArray)(c:Int):Nat→Nat→Nat
 |0,k=>k
 |f+1,k=>if bE s k=c then k else kB s c f (k+1)
def stop(s:ByteArray)(c:Int)(k:Nat):Nat:=kB s c (s.size-k) k
theorem zZ{s:ByteArray}{c:Int}{k:Nat}(h:s.size≤k):stop s c k=k:=by unfold stop;rw[Nat.sub_eq_zero_of_le h];rfl
theorem Aa{s:ByteArray}{c:Int}{k:Nat}(h:k<s.size)(a:(s[k].toNat:Int)=c):stop s c k=k:=by unfold stop;obtain⟨f,b⟩:∃f,s.size-k=f+1:=⟨s.size-k-1,by omega⟩;rw[b];simp[kB,bL h,a]
theorem CU{s:ByteArray}{c:Int}{k:Nat}(h:k<s.size)(a:(s[k].toNat:Int)≠c):stop s c k=stop s c (k+1):=by
 unfold stop;obtain⟨f,b⟩:∃f,s.size-k=f+1:=⟨s.size-k-1,by omega⟩;have d:s.size-(k+1)=f:=by omega
 rw[b,d];simp[kB,bL h,a]
theorem ET(s:ByteArray)(c:Int)(f k:Nat):k≤kB s c f k:=by
 induction f generalizing k with
 |zero=>exact gO _
 |succ f a=>
  unfold kB;split
  ·exact gO _
  ·have:=a (k+1);omega
theorem kQ(s:ByteArray)(c:Int)(k:Nat):k≤stop s c k:=ET _ _ _ _
theorem EU(s:ByteArray)(c:Int)(f k:Nat):kB s c f k≤k+f:=by
 induction f generalizing k with
 |zero=>exact gO _
 |succ f a=>
  unfold kB;split
  ·omega
  ·have:=a (k+1);omega
theorem sY{s:ByteArray}{c:Int}{k:Nat}(h:k≤s.size):stop s c k≤s.size:=by have:=EU s c (s.size-k) k;unfold stop;omega
theorem xV(s:ByteArray)(c:Int)(f k:Nat):∀j,k≤j→j<kB s c f k→bE s j≠c:=by
 induction f generalizing k with
 |zero=>intro j b a;simp only[kB]at a;omega
 |succ f d=>
  intro j b a;unfold kB at a;split at a
  ·omega
  ·rename_i g;by_cases e:j=k
   ·subst e;exact g
   ·exact d (k+1) j (by omega) a
theorem Ab{s:ByteArray}{c:Int}{k j:Nat}(h1:k≤j)(h2:j<stop s c k):bE s j≠c:=xV _ _ _ _ j h1 h2
theorem EV(s:ByteArray)(c:Int)(f k:Nat)(h:kB s c f k<k+f):bE s (kB s c f k)=c:=by
 induction f generalizing k with
 |zero=>simp only[kB]at h;omega
 |succ f a=>
  unfold kB at h ⊢;split
  ·assumption
  ·rename_i b;rw[if_neg b]at h;exact a (k+1) (by omega)
theorem oH{s:ByteArray}{c:Int}{k:Nat}(a:k≤s.size)(h:stop s c k<s.size):bE s (stop s c k)=c:=by unfold stop at h ⊢;exact EV _ _ _ _ (by omega)
def xW(s:ByteArray):Nat→Nat→List ByteArray
 |0,_=>[]
 |f+1,i=>if s.size≤i then []else s.extract (i+1) (stop s 32 (i+1))::xW s f (stop s 32 (i+1))
def rG(s:ByteArray)(i:Nat):List ByteArray:=xW s (s.size-i) i
theorem nO(s:ByteArray)(f i:Nat)(h:s.size≤i):xW s f i=[]:=by
 cases f with
 |zero=>rfl
 |succ f=>simp only[xW,if_pos h]
theorem Du(s:ByteArray)(f g i:Nat)(d:s.size-i≤f)(e:s.size-i≤g):xW s f i=xW s g i:=by
 induction f generalizing g i with
 |zero=>rw[nO s 0 i (by omega),nO s g i (by omega)]
 |succ f a=>
  by_cases h:s.size≤i
  ·rw[nO s _ i h,nO s _ i h]
  ·obtain⟨g,rfl⟩:∃b,g=b+1:=⟨g-1,by omega⟩;have j:=kQ s 32 (i+1);unfold xW;rw[a g (stop s 32 (i+1)) (by omega) (by omega)]
theorem qJ{s:ByteArray}{i:Nat}(h:s.size≤i):rG s i=[]:=nO _ _ _ h
theorem lS{s:ByteArray}{i:Nat}(h:i<s.size):rG s i=s.extract (i+1) (stop s 32 (i+1))::rG s (stop s 32 (i+1)):=by obtain⟨f,a⟩:∃f,s.size-i=f+1:=⟨s.size-i-1,by omega⟩;have d:=kQ s 32 (i+1);have b:rG s (stop s 32 (i+1))=xW s f (stop s 32 (i+1)):=Du _ _ _ _ (by omega) (by omega);rw[b];unfold rG;rw[a];simp only[xW];rw[if_neg (by omega)]
def gM(s:ByteArray):Option RowD:=
 if s.size≤stop s 58 0 then none
 else if s.size≤stop s 58 0+1∨bE s (stop s 58 0+1)=32 then some ⟨s.extract 0 (stop s 58 0),rG s (stop s 58 0+1)⟩
 else none
def bW(s:ByteArray):Option RowD:=
 match gM s with
 |some r=>if dC r=true then some r else none
 |none=>none
def xX(s:ByteArray):Nat→Nat→List ByteArray→Option (List ByteArray)
 |0,_,a=>some a
 |f+1,i,a=>
  if s.size≤i then some a
  else if bE s i=32∧bC (bE s (i+1))=true then xX s f (bX s (i+2)) (a++[s.extract (i+1) (bX s (i+2))])
  else none
def pB(s:ByteArray)(i:Nat)(a:List ByteArray):Option (List ByteArray):=xX s (s.size-i) i a
theorem nP(s:ByteArray)(f i:Nat)(a:List ByteArray)(h:s.size≤i):xX s f i a=some a:=by
 cases f with
 |zero=>rfl
 |succ f=>simp only[xX,if_pos h]
theorem Dv(s:ByteArray)(f g i:Nat)(a:List ByteArray)(e:s.size-i≤f)(j:s.size-i≤g):xX s f i a=xX s g i a:=by
 induction f generalizing g i a with
 |zero=>rw[nP s 0 i a (by omega),nP s g i a (by omega)]
 |succ f b=>
  by_cases h:s.size≤i
  ·rw[nP s _ i a h,nP s _ i a h]
  ·obtain⟨g,rfl⟩:∃d,g=d+1:=⟨g-1,by omega⟩;have k:=mM s (i+2);unfold xX;rw[b g (bX s (i+2)) _ (by omega) (by omega)]
theorem Ac{s:ByteArray}{i:Nat}{a:List ByteArray}(h:s.size≤i):pB s i a=some a:=nP _ _ _ _ h
theorem lT{s:ByteArray}{i:Nat}{a:List ByteArray}(h:i<s.size):pB s i a =
  if bE s i=32∧bC (bE s (i+1))=true then pB s (bX s (i+2)) (a++[s.extract (i+1) (bX s (i+2))])else none:=by
 obtain⟨f,b⟩:∃f,s.size-i=f+1:=⟨s.size-i-1,by omega⟩;have e:=mM s (i+2);have d:∀o,pB s (bX s (i+2)) o=xX s f (bX s (i+2)) o:=fun o=>Dv _ _ _ _ _ (by omega) (by omega)
 rw[d];unfold pB;rw[b];simp only[xX];rw[if_neg (by omega)]
def xY(s:ByteArray):Option RowD:=
 if bC (bE s 0)=true∧bE s (bX s 1)=58 then(pB s (bX s 1+1) []).map (fun t=>⟨s.extract 0 (bX s 1),t⟩)else none
theorem lU{s:ByteArray}{k:Nat}(h:s.size≤k):bE s k=0:=by unfold bE;rw[dif_neg (by omega)]
theorem Bu{s:ByteArray}{k:Nat}{p:Int→Prop}(h:p (bE s k))(a:¬p 0):k<s.size:=by
 by_cases b:k<s.size
 ·exact b
 ·rw[lU (by omega)]at h;exact absurd h a
theorem uD{s:ByteArray}{k:Nat}(h:bC (bE s k)=true):k<s.size:=Bu (p:=fun c=>bC c=true) h (by decide)
theorem Ad(s:ByteArray)(a k:Nat)(q:k≤s.size):isN (s.extract a k)=true↔a<k∧bC (bE s a)=true∧∀j,a<j→j<k→dE (bE s j)=true:=by
 by_cases f:a<k
 ·have e:(s.extract a k).data.toList=s[a]::(s.data.toList.drop (a+1)).take (k-(a+1)):=by
   rw[ByteArray.data_extract,Array.toList_extract,List.extract_eq_take_drop,List.drop_eq_getElem_cons (by simp;omega)];have g:k-a=(k-(a+1))+1:=by omega
   rw[g,List.take_succ_cons];rfl
  unfold isN;rw[e];simp only[bP,Bool.and_eq_true,dH,List.all_eq_true];rw[bL (show a<s.size by omega)];constructor
  ·rintro⟨b,d⟩;refine⟨f,b,fun j r t=>?_⟩;rw[bL (show j<s.size by omega)];refine d s[j] ?_
   refine NL.2 ⟨j-(a+1),by simp;omega,?_⟩;simp only[List.getElem_take,List.getElem_drop,Array.getElem_toList];have:a+1+(j-(a+1))=j:=by omega
   simp only[this];rfl
  ·rintro⟨_,b,d⟩;refine⟨b,fun c i=>?_⟩;obtain⟨j,l,m⟩:=NL.1 i;simp at l;have:=d (a+1+j) (by omega) (by omega);rw[bL (show a+1+j<s.size by omega)]at this;have o:c=s[a+1+j]:=by
    rw[← m];simp;rfl
   rw[o];exact this
 ·constructor
  ·intro h;exfalso;have p:(s.extract a k).size=0:=by rw[Jw];omega
   have:=nB _ p;unfold isN at h;rw[this]at h;cases h
  ·rintro⟨h,_⟩;exact absurd h f
theorem wX{s:ByteArray}{k j:Nat}(a:k≤s.size)(h1:k≤j)(h2:j<bX s k):dE (bE s j)=true:=tZ s (s.size-k) k (by omega) j h1 h2
theorem Gt{s:ByteArray}{a k:Nat}(l:a≤k)(m:k≤s.size)(e:∀j,a≤j→j<k→dE (bE s j)=true)(g:dE (bE s k)=false):bX s a=k:=by
 induction hd:k-a generalizing a with
 |zero=>
  have:a=k:=by omega
  subst this;by_cases f:a<s.size
  ·exact sX f (by rw[← bL f];exact g)
  ·exact qC (by omega)
 |succ d h=>have b:=e a (gO _) (by omega);rw[bL (show a<s.size by omega)]at b;rw[qD (by omega) b];exact h (by omega) (fun j b i=>e j (by omega) i) (by omega)
theorem uE{s:ByteArray}{c:Int}(l:dE c=false){a:Nat}(d:a≤s.size):isN (s.extract a (stop s c a))=true↔bC (bE s a)=true∧bX s (a+1)=stop s c a:=by
 have p:=kQ s c a;have e:=sY (c:=c) d;have m:dE (bE s (stop s c a))=false:=by
  by_cases h:stop s c a<s.size
  ·rw[oH d h];exact l
  ·rw[lU (by omega)];decide
 rw[Ad _ _ _ e];constructor
 ·rintro⟨b,f,g⟩;exact⟨f,Gt (by omega) e (fun j o i=>g j (by omega) i) m⟩
 ·rintro⟨b,f⟩;have q:=uD b;have g:=mM s (a+1);exact⟨by omega,b,fun j o i=>wX (k:=a+1) (by omega) (by omega) (by omega)⟩
theorem sG{s:ByteArray}{c:Int}(b:dE c=false){a:Nat}(g:a<s.size)(hs:bC (bE s a)=true)(j:bX s (a+1)≠stop s c a):bX s (a+1)<stop s c a∧bE s (bX s (a+1))≠c:=by
 have l:=kQ s c a;have m:=sY (c:=c) (k:=a) (by omega:a≤s.size);have o:=mM s (a+1);have p:=CT (s:=s) (k:=a+1) g;have f:bX s (a+1)<stop s c a:=by
  rcases Nat.lt_or_ge (bX s (a+1)) (stop s c a)with h|h
  ·exact h
  ·exfalso;have i:stop s c a<bX s (a+1):=by omega
   have d:=oH (c:=c) (k:=a) (s:=s) (by omega) (by omega);by_cases e:stop s c a=a
   ·rw[e]at d;rw[d]at hs;rw[fX hs]at b;cases b
   ·have:=wX (s:=s) (k:=a+1) (by omega) (by omega) i;rw[d,b]at this;cases this
 exact⟨f,Ab (by omega) f⟩
theorem Gu(s:ByteArray):∀(d i:Nat) (g:List ByteArray),s.size-i=d→i≤s.size→(i<s.size→bE s i=32) →
  pB s i g=if(rG s i).all isN=true then some (g++rG s i)else none:=by
 intro d;induction d using Kn with
 |_ d m=>
  intro i g hd r j;by_cases b:i<s.size
  ·rw[lT b,lS b];have j:=j b;have t:=kQ s 32 (i+1);have o:=sY (s:=s) (c:=32) (k:=i+1) b;have l:=uE (s:=s) (c:=32) (by decide) (a:=i+1) b;by_cases hs:bC (bE s (i+1))=true
   ·rw[if_pos ⟨j,hs⟩];have p:=uD hs;by_cases f:bX s (i+1+1)=stop s 32 (i+1)
    ·have e:=l.2 ⟨hs,f⟩;rw[show i+2=i+1+1 from rfl,f,m (s.size-stop s 32 (i+1)) (by omega) _ _ rfl o (fun h=>oH b h)];simp only[List.all_cons,e,Bool.true_and,JI,List.cons_append,Mk]
    ·have e:isN (s.extract (i+1) (stop s 32 (i+1)))=false:=by
      rw[Kw];intro h;exact f (l.1 h).2
     obtain⟨u,q⟩:=sG (c:=32) (by decide) p hs f;rw[show i+2=i+1+1 from rfl,lT (by omega),if_neg (fun h=>q h.1)];simp[e]
   ·rw[if_neg (fun h=>hs h.2)];have e:isN (s.extract (i+1) (stop s 32 (i+1)))=false:=by
     rw[Kw];intro h;exact hs (l.1 h).1
    simp[e]
  ·rw[Ac (by omega),qJ (by omega)];simp
theorem Ae(s:ByteArray):xY s=bW s:=by
 unfold xY bW gM;have o:=kQ s 58 0;have p:=sY (s:=s) (c:=58) (k:=0) (IM _);have f:=uE (s:=s) (c:=58) (by decide) (a:=0) (IM _);by_cases hs:bC (bE s 0)=true
 ·have i:=uD hs;by_cases e:bX s (0+1)=stop s 58 0
  ·have d:=f.2 ⟨hs,e⟩;have j:bX s 1=stop s 58 0:=e;rw[j];by_cases g:s.size≤stop s 58 0
   ·rw[if_neg (fun h=>by rw[lU g]at h;exact absurd h.2 (by decide)),if_pos g]
   ·rw[if_neg g,if_pos ⟨hs,oH (IM _) (by omega)⟩];by_cases b:s.size≤stop s 58 0+1∨bE s (stop s 58 0+1)=32
    ·rw[if_pos b,Gu s _ (stop s 58 0+1) [] rfl (by omega) (fun h=>by
      rcases b with b|b
      ·omega
      ·exact b)]
     simp only[dC,d,Bool.true_and,Mk];split<;>rfl
    ·rw[if_neg b];obtain⟨q,l⟩:=not_or.1 b;rw[lT (by omega),if_neg (fun h=>l h.1)];rfl
  ·obtain⟨t,m⟩:=sG (c:=58) (by decide) i hs e;have d:isN (s.extract 0 (stop s 58 0))=false:=by
    rw[Kw];intro h;exact e (f.1 h).2
   rw[if_neg (fun h=>m h.2)];split
   ·rename_i r hr;split at hr
    ·cases hr
    ·split at hr
     ·injection hr with hr;rw[← hr];simp[dC,d]
     ·cases hr
   ·rfl
 ·have d:isN (s.extract 0 (stop s 58 0))=false:=by
   rw[Kw];intro h;exact hs (f.1 h).1
  rw[if_neg (fun h=>hs h.1)];split
  ·rename_i r hr;split at hr
   ·cases hr
   ·split at hr
    ·injection hr with hr;rw[← hr];simp[dC,d]
    ·cases hr
  ·rfl
def eQ:List RowD→ByteArray→Nat→List ByteArray→List RowD × Int × Int
 |pre,_,_,[]=>(pre,0,0)
 |pre,_,n,[l]=>if l.size=0 then(pre,0,0)else([],4,(n:Int)+1)
 |pre,a,n,l::b::r=>
  match bW l with
  |none=>([],4,(n:Int)+1)
  |some x=>if chk true x a=0 then eQ (pre++[x]) x.name (n+1) (b::r)else([],chk true x a,(n:Int)+1)
def fA(s:ByteArray):List RowD × Int × Int:=if 25000<s.size then([],2,0)else eQ [] noB 0 (cJ s)
def EW(o:Option RowD)(w w':vF)(e:Ending):Prop:=
 (o=none∧e=.returned (.tuple #[.agg #[.string ⟨#[]⟩,.slice none 0 0],.bool false])∧Below w.heap.size w w') ∨
 (∃r a,o=some r∧e=.returned (.tuple #[.agg #[.string r.name,a],.bool true])∧w'.ownsRow w.heap.size 9 1 a r.to.length (r.to.map F2)∧Below w.heap.size w w')
theorem EX(s:ByteArray):∀(d i:Nat),s.size-i=d→(rG s i).length≤d:=by
 intro d;induction d using Kn with
 |_ d a=>
  intro i hd;by_cases h:i<s.size
  ·rw[lS h,Jn];have b:=kQ s 32 (i+1);have:=a (s.size-stop s 32 (i+1)) (by omega) _ rfl;omega
  ·rw[qJ (by omega)];exact IM _
theorem gP{w:vF}{B:Nat}{e T:I1}{JS n b j:Nat}{v x:sA}{xs:List sA}{c:Array sA}(h:w.ownsRow B e JS v n xs)(d:e≠T)(f:w.heap[b]?=some (.cells c T (0,0))):(w.setCell ⟨b,j,none⟩ x).ownsRow B e JS v n xs:=by have i:Kb [b] w (w.setCell ⟨b,j,none⟩ x):=(Kb.refl _ _).setCell (p:=⟨b,j,none⟩) (.inl (by simp)) _;refine eT h i (fun g k a=>?_);rw[A1.1 k]at a;exact cM h f d a.symm
theorem qK{w:vF}{B:Nat}{e T:I1}{JS n b:Nat}{v x y:sA}{xs:List sA}{c:Array sA}(h:w.ownsRow B e JS v n xs)(d:e≠T)(f:w.heap[b]?=some (.cells c T (0,0))):((w.setCell ⟨b,0,none⟩ x).setCell ⟨b,1,none⟩ y).ownsRow B e JS v n xs:=by have i:Kb [b] w ((w.setCell ⟨b,0,none⟩ x).setCell ⟨b,1,none⟩ y):=((Kb.refl _ _).setCell (p:=⟨b,0,none⟩) (.inl (by simp)) _).setCell (p:=⟨b,1,none⟩) (.inl (by simp)) _;refine eT h i (fun g j a=>?_);rw[A1.1 j]at a;exact cM h f d a.symm
structure RwInv(w wr:World)(s nm:ByteArray)(br k1 i:Nat)(out:List ByteArray)(tv:Value):Prop where
 le:i≤s.size
 eqn:rG s k1=out++rG s i
 len:out.length≤i
 alt:(i=k1∧out=[])∨(bE s k1=32∧(i<s.size→bE s i=32))
 cell:wr.heap[br]?=some (.cells #[.string nm,tv] 51 (0,0))
 own:wr.ownsRow w.heap.size 9 1 tv out.length (out.map Value.string)
 slot:wr.heap[w.heap.size]?=some (.cells #[.string ⟨#[]⟩,.slice none 0 0] 51 (0,0))
 blw:Below w.heap.size w wr
theorem Af{s:ByteArray}(h:stop s 58 0=s.size):gM s=none:=by unfold gM;rw[if_pos (by omega)]
theorem EY(s:ByteArray)(w:vF)(hs:s.size≤1000000) :
  Calls hE 75 #[.string s] w fun e w'=>EW (gM s) w w' e:=by
 obtain⟨i0,af,ag,ah,ai⟩:=info_parts iJ;have C:=aD w (.cells #[.string ⟨#[]⟩,.slice none 0 0] 51);have D:Below w.heap.size w (w.alloc (.cells #[.string ⟨#[]⟩,.slice none 0 0] 51)):=(Below.refl _ _).alloc (gO _) _;go_enter Tryz.func75,Tryz.ntmps75
 go_wp2;generalize w.alloc (.cells #[.string ⟨#[]⟩,.slice none 0 0] 51)=E at C D ⊢;have aj:=aB C;go_loop [4] (fun r=>∃i:Nat,r=.int .i64 i∧i≤s.size∧stop s 58 0=stop s 58 i) (fun r=>s.size-(intOf r).toNat)
 case atStart=>exact⟨0,rfl,IM _,rfl⟩
 case round=>
  obtain⟨i,rfl,hi,he⟩:=hrel;have U:=aA he;clear he;by_cases O:i<s.size
  ·by_cases Q:(s[i].toNat:Int)=58
   ·have hq:((i:Int) == (s.size:Int))=false:=beq_false_of_ne (by omega);have x:Hid (stop s 58 0=i):=U.out.trans (Aa O Q);have R:((s[i].toNat:Int) != 58)=false:=by simp[Q]
    go_wp2_with fail
    have S:=aD E (.cells #[.string (s.extract 0 i),.slice none 0 0] 51);have V:=aF C (.cells #[.string (s.extract 0 i),.slice none 0 0] 51);have X:Below w.heap.size w (E.alloc (.cells #[.string (s.extract 0 i),.slice none 0 0] 51)):=D.alloc D.size _;generalize E.alloc (.cells #[.string (s.extract 0 i),.slice none 0 0] 51)=w1 at S V X ⊢;have Y:w.heap.size<E.heap.size:=aj;generalize E.heap.size=br at S Y ⊢;clear C D aj R hq;have hI:RwInv w w1 s (s.extract 0 i) br (i+1) (i+1) [] (.slice none 0 0):=⟨O,by simp,IM _,.inl ⟨rfl,rfl⟩,S,JW _ _ _ _,V,X⟩;clear S V X;go_loopw [4] (fun r wr=>∃(j:Nat) (a:List ByteArray) (tv:sA),r=.int .i64 j∧RwInv w wr s (s.extract 0 i) br (i+1) j a tv) (fun r _=>s.size-(intOf r).toNat)
    case atStart=>exact⟨i+1,[],_,by go_num,hI⟩
    case round=>
     clear hI;obtain⟨j,a,tv,rfl,d⟩:=hrel;obtain⟨y,z,rfl,_⟩:=aQ d.own;have b:=aA d;by_cases o:j<s.size
     ·by_cases A:(s[j].toNat:Int)=32
      ·have R:((s[j].toNat:Int) != 32)=false:=by simp[A]
       clear d;go_wp2_with fail
       go_loop [6] (fun Z=>∃k:Nat,Z=.int .i64 k∧j+1≤k∧k≤s.size∧stop s 32 (j+1)=stop s 32 k) (fun Z=>s.size-(intOf Z).toNat)
       case atStart=>exact⟨j+1,by go_num,gO _,o,rfl⟩
       case round=>
        obtain⟨k,rfl,aV,hk,ak⟩:=hrel;have a0:=aA ak;clear ak;by_cases a1:k<s.size
        ·by_cases T:(s[k].toNat:Int)=32
         ·have al:((s[k].toNat:Int) != 32)=false:=by simp[T]
          have m:Hid (stop s 32 (j+1)=k):=a0.out.trans (Aa a1 T);have HI:Hid (∀(f:vF) (g h:Nat),f.heap[br]?=some (.cells #[.string (s.extract 0 i),.slice (some ⟨g,0,none⟩) (a.length+1) h] 51 (0,0))→f.ownsRow w.heap.size 9 1 (.slice (some ⟨g,0,none⟩) (a.length+1) h) (a.length+1) (a.map F2++[.string (s.extract (j+1) k)])→f.heap[w.heap.size]?=some (.cells #[.string ⟨#[]⟩,.slice none 0 0] 51 (0,0))→Below w.heap.size w f→RwInv w f s (s.extract 0 i) br (i+1) k (a++[s.extract (j+1) k]) (.slice (some ⟨g,0,none⟩) (a.length+1) h)):=by
           intro f g h q H h3 h4;have d:=b.out;refine⟨hk,?_,?_,.inr ⟨?_,?_⟩,q,?_,h3,h4⟩
           ·rw[d.eqn,lS o,m.out];simp
           ·have:=d.len;rw[A4];show a.length+1≤k;omega
           ·rcases d.alt with⟨l,_⟩|⟨l,_⟩
            ·rw[← l,bL o];exact A
            ·exact l
           ·intro l;rw[← m.out];exact oH (by omega) (by rw[m.out];exact l)
           ·rw[A4,Jp];exact H
          obtain⟨d0,d1,e0,e1⟩:=aH b.out.cell;have am:=b.out.len;have a2:=aA (b.out.own.alloc (.cells #[.string (s.extract (j+1) k)] 9));have a3:=b.out.blw.size;have J:=bU wr #[.string (s.extract (j+1) k)] 9 [.string (s.extract (j+1) k)] rfl;have a4:=aA J;have an:=aB b.out.cell;have a5:=aA (cM b.out.own b.out.cell (by decide));have a6:=aA (cM b.out.own b.out.slot (by decide));clear J;have ao:KE.wrap ((j:Int)+1)=(j:Int)+1:=by rw[wrap_i64 _ (by omega) (by omega)]
          have a7:(j:Int)+1≤(k:Int):=by omega
          have ap:(0:Int)≤(j:Int)+1:=by omega
          have aq:((j:Int)+1).toNat=j+1:=by omega
          go_wp2_with fail
          go_region_law (refine step_append_lies _ rfl (.tmp 54) (.tmp 60) 44 rfl w.heap.size 9 i0 (.string ⟨#[]⟩) 1 16 I7 af ag ah ai rfl (by decide) (.slice y a.length z) a.length (a.map F2) (by simp[Act.eval]) a2.out ⟨wr.heap.size,0,none⟩ 1 1 [.string (s.extract (j+1) k)] (by simp[Act.eval]) rfl a4.out (by intro ar hu;rw[A1.1 hu];rfl) (by decide) (by unfold IU;omega) (by omega) (by simp;omega) _ rfl ?_;intro g h f ho t au av;have u:f.heap[br]?=some (.cells #[.string (s.extract 0 i),.slice y a.length z] 51 (0,0)):=(t.block br (by simp;omega) a5.out).trans (aF b.out.cell _);have a8:=aH u;obtain⟨q0,q1,q2,q3⟩:=a8;have a9:f.heap[w.heap.size]?=some (.cells #[.string ⟨#[]⟩,.slice none 0 0] 51 (0,0)):=(t.block w.heap.size (by simp;omega) a6.out).trans (aF b.out.slot _);have aa:Below w.heap.size w f:=(b.out.blw.alloc a3 (.cells #[.string (s.extract (j+1) k)] 9)).drew.grown t (by simp;omega) (fun ab hx=>(b.out.own.lt ab hx).1))
          all_goals
           go_wp2;go_roundw
           case rel=>
            refine⟨k,_,_,rfl,HI.out _ g h ?_ (gP ho (by decide) u) ?_ (aa.setCell (p:=⟨br,1,none⟩) (JA Y) _)⟩
            ·rw[aI u 1];rfl
            ·rw[Below.heap_setCell _ _ _ _ (by show w.heap.size≠br;omega)];exact a9
           case measure=>simp[intOf];omega
         ·have al:((s[k].toNat:Int) != 32)=true:=by simp[T]
          have m:Hid (stop s 32 (j+1)=stop s 32 (k+1)):=a0.out.trans (CU a1 T);go_wp2;go_round
          case rel=>exact⟨k+1,by go_num,by omega,a1,m.out⟩
          case measure=>simp[intOf];omega
        ·have aw:k=s.size:=by omega
         subst aw;have m:Hid (stop s 32 (j+1)=s.size):=a0.out.trans (zZ (by omega));have HI:Hid (∀(f:vF) (g h:Nat),f.heap[br]?=some (.cells #[.string (s.extract 0 i),.slice (some ⟨g,0,none⟩) (a.length+1) h] 51 (0,0))→f.ownsRow w.heap.size 9 1 (.slice (some ⟨g,0,none⟩) (a.length+1) h) (a.length+1) (a.map F2++[.string (s.extract (j+1) s.size)])→f.heap[w.heap.size]?=some (.cells #[.string ⟨#[]⟩,.slice none 0 0] 51 (0,0))→Below w.heap.size w f→RwInv w f s (s.extract 0 i) br (i+1) s.size (a++[s.extract (j+1) s.size]) (.slice (some ⟨g,0,none⟩) (a.length+1) h)):=by
          intro f g h q H h3 h4;have d:=b.out;refine⟨hk,?_,?_,.inr ⟨?_,?_⟩,q,?_,h3,h4⟩
          ·rw[d.eqn,lS o,m.out];simp
          ·have:=d.len;rw[A4];show a.length+1≤s.size;omega
          ·rcases d.alt with⟨l,_⟩|⟨l,_⟩
           ·rw[← l,bL o];exact A
           ·exact l
          ·intro l;rw[← m.out];exact oH (by omega) (by rw[m.out];exact l)
          ·rw[A4,Jp];exact H
         obtain⟨d0,d1,e0,e1⟩:=aH b.out.cell;have am:=b.out.len;have a2:=aA (b.out.own.alloc (.cells #[.string (s.extract (j+1) s.size)] 9));have a3:=b.out.blw.size;have J:=bU wr #[.string (s.extract (j+1) s.size)] 9 [.string (s.extract (j+1) s.size)] rfl;have a4:=aA J;have an:=aB b.out.cell;have a5:=aA (cM b.out.own b.out.cell (by decide));have a6:=aA (cM b.out.own b.out.slot (by decide));clear J;have ao:KE.wrap ((j:Int)+1)=(j:Int)+1:=by rw[wrap_i64 _ (by omega) (by omega)]
         have a7:(j:Int)+1≤(s.size:Int):=by omega
         have ap:(0:Int)≤(j:Int)+1:=by omega
         have aq:((j:Int)+1).toNat=j+1:=by omega
         go_wp2_with fail
         go_region_law (refine step_append_lies _ rfl (.tmp 54) (.tmp 60) 44 rfl w.heap.size 9 i0 (.string ⟨#[]⟩) 1 16 I7 af ag ah ai rfl (by decide) (.slice y a.length z) a.length (a.map F2) (by simp[Act.eval]) a2.out ⟨wr.heap.size,0,none⟩ 1 1 [.string (s.extract (j+1) s.size)] (by simp[Act.eval]) rfl a4.out (by intro ar hu;rw[A1.1 hu];rfl) (by decide) (by unfold IU;omega) (by omega) (by simp;omega) _ rfl ?_;intro g h f ho t au av;have u:f.heap[br]?=some (.cells #[.string (s.extract 0 i),.slice y a.length z] 51 (0,0)):=(t.block br (by simp;omega) a5.out).trans (aF b.out.cell _);have a8:=aH u;obtain⟨q0,q1,q2,q3⟩:=a8;have a9:f.heap[w.heap.size]?=some (.cells #[.string ⟨#[]⟩,.slice none 0 0] 51 (0,0)):=(t.block w.heap.size (by simp;omega) a6.out).trans (aF b.out.slot _);have aa:Below w.heap.size w f:=(b.out.blw.alloc a3 (.cells #[.string (s.extract (j+1) s.size)] 9)).drew.grown t (by simp;omega) (fun ab hx=>(b.out.own.lt ab hx).1))
         all_goals
          go_wp2;go_roundw
          case rel=>
           refine⟨s.size,_,_,rfl,HI.out _ g h ?_ (gP ho (by decide) u) ?_ (aa.setCell (p:=⟨br,1,none⟩) (JA Y) _)⟩
           ·rw[aI u 1];rfl
           ·rw[Below.heap_setCell _ _ _ _ (by show w.heap.size≠br;omega)];exact a9
          case measure=>simp[intOf];omega
      ·have R:((s[j].toNat:Int) != 32)=true:=by simp[A]
       have HN:Hid (gM s=none):=by
        unfold Hid gM;rw[x.out,if_neg (by omega)];rcases d.alt with⟨q,_⟩|⟨_,H⟩
        ·rw[if_neg];rw[← q];rintro(ad|ad)
         ·omega
         ·rw[bL o]at ad;exact A ad
        ·have:=H o;rw[bL o]at this;exact absurd this A
       obtain⟨K,N,f0,f1⟩:=aH d.slot;have ae:=d.blw;clear d;go_wp2_with fail
       refine IG (v:=.tuple #[.agg #[.string ⟨#[]⟩,.slice none 0 0],.bool false]) (by simp[results,M7,go_sem,K,N]) rfl (.inl ⟨HN.out,rfl,?_⟩);exact(ae.setCell (p:=⟨w.heap.size,0,none⟩) (gO _) _).setCell (p:=⟨w.heap.size,1,none⟩) (gO _) _
     ·have ax:j=s.size:=by have:=d.le;omega
      subst ax;have HN:Hid (gM s=some ⟨s.extract 0 i,a⟩):=by
       unfold Hid gM;rw[x.out,if_neg (by omega)];have e:=d.eqn;rw[qJ (gO _),List.append_nil]at e;rw[if_pos,e];rcases d.alt with⟨q,_⟩|⟨q,_⟩
       ·exact .inl (by omega)
       ·exact .inr q
      obtain⟨K,N,f0,f1⟩:=aH d.slot;obtain⟨d0,d1,e0,e1⟩:=aH d.cell;have ae:=d.blw;have ay:=aA d.own;have az:=aA d.slot;clear d;go_wp2_with fail
      refine IG (v:=.tuple #[.agg #[.string (s.extract 0 i),.slice y a.length z],.bool true]) (by simp[results,M7,go_sem,K,N]) rfl (.inr ⟨⟨s.extract 0 i,a⟩,.slice y a.length z,HN.out,rfl,?_,?_⟩)
      ·exact qK ay.out (by decide) az.out
      ·exact(ae.setCell (p:=⟨w.heap.size,0,none⟩) (gO _) _).setCell (p:=⟨w.heap.size,1,none⟩) (gO _) _
   ·have x:Hid (stop s 58 0=stop s 58 (i+1)):=U.out.trans (CU O Q);have R:((s[i].toNat:Int) != 58)=true:=by simp[Q]
    go_wp2;go_round
    case rel=>exact⟨i+1,by go_num,O,x.out⟩
    case measure=>simp[intOf];omega
  ·have a7:i=s.size:=by omega
   subst a7;have hq:((s.size:Int) == (s.size:Int))=true:=by simp
   have x:Hid (gM s=none):=Af (U.out.trans (zZ (gO _)));obtain⟨K,N,f0,f1⟩:=aH C;go_wp2_with fail
   refine IG (v:=.tuple #[.agg #[.string ⟨#[]⟩,.slice none 0 0],.bool false]) (by simp[results,M7,go_sem,K,N]) rfl (.inl ⟨x.out,rfl,?_⟩);exact(D.setCell (p:=⟨w.heap.size,0,none⟩) (gO _) _).setCell (p:=⟨w.heap.size,1,none⟩) (gO _) _
theorem EZ:(hE.info? 44).map (fun i=>(i.zero,i.size,i.bytes))=some (some (.slice none 0 0),1,24):=by kernel_rfl
theorem E0:(hE.info? 40).map (fun i=>(i.zero,i.size,i.bytes))=some (some (.slice none 0 0),1,24):=by kernel_rfl
theorem sZ:(hE.info? 51).map (fun i=>(i.zero,i.size,i.bytes))=some (some (.agg #[.string ⟨#[]⟩,.slice none 0 0]),2,40):=by kernel_rfl
def uF(i:Nat):List sA:=[.string (bJ (i / 4*4))]
def uG(i:Nat):List sA:=[.string (bJ (i / 4*4)),.slice none 0 0]
structure KInvT(B:Nat)(w1 wr:World)(l:Value)(xs:List ByteArray)(m:ByteArray)(i:Nat):Prop where
 le:i≤xs.length
 own:wr.ownsRow B 9 1 l xs.length ((List.replicate i m++xs.drop i).map Value.string)
 kb:Kb l.ownBlock.toList w1 wr
def cZ(ps:List (RowD × sA)):List sA:=ps.flatMap fun x=>[.string x.1.name,x.2]
theorem oT(ps:List (RowD × sA)):(cZ ps).length=ps.length*2:=by
 induction ps with
 |nil=>rfl
 |cons f r a=>
  have:cZ (f::r)=.string f.1.name::f.2::cZ r:=by simp[cZ]
  rw[this,Jn,Jn,a,Jn];omega
theorem pC(ps:List (RowD × sA))(i:Nat)(r:RowD)(tv:sA)(h:ps[i]?=some (r,tv)):(cZ ps)[i*2]?=some (.string r.name)∧(cZ ps)[i*2+1]?=some tv:=by
 induction ps generalizing i with
 |nil=>simp at h
 |cons f q a=>
  have e:cZ (f::q)=.string f.1.name::f.2::cZ q:=by simp[cZ]
  rw[e];cases i with
  |zero=>simp at h;subst h;exact⟨rfl,rfl⟩
  |succ i=>rw[List.getElem?_cons_succ]at h;have:=a i h;rw[show(i+1)*2=i*2+1+1 by omega,show i*2+1+1+1=(i*2+1)+1+1 by omega];simpa using this
structure OwnR(w:World)(lo hi:Nat)(v:Value)(ps:List (RowD × Value)):Prop where
 row:w.ownsRow lo 51 2 v ps.length (cZ ps)
 top:∀g,v.ownBlock=some g→g<hi
 tos:∀(i:Nat) r tv,ps[i]?=some (r,tv)→w.ownsRow lo 9 1 tv r.to.length (r.to.map Value.string)
 ttop:∀(i:Nat) r tv,ps[i]?=some (r,tv)→∀g,tv.ownBlock=some g→g<hi
 sep:∀(i j:Nat) x y,i<j→ps[i]?=some x→ps[j]?=some y→x.2.ownBlock=none∨x.2.ownBlock≠y.2.ownBlock
def FT(b d:Nat)(w w':vF):Prop:=∀(k:Nat) (c:Array sA) (e:I1) (a:Nat × Nat),w.heap[k]?=some (.cells c e a)→e≠44→e≠40→e≠75→(k<b∨d≤k)→w'.heap[k]?=some (.cells c e a)
theorem FT.refl(a b:Nat)(w:vF):FT a b w w:=fun _ _ _ _ h _ _ _ _=>h
theorem FT.trans{d f:Nat}{a b c:vF}(h:FT d f a b)(g:FT d f b c):FT d f a c:=fun k i e j q l m o p=>g k i e j (h k i e j q l m o p) l m o p
theorem FT.below{b d:Nat}{w w':vF}(h:Below w.heap.size w w'):FT b d w w':=fun _ _ _ _ a _ _ _ _=>Below.fj h a (aB a)
theorem FT.own{a b:Nat}{w w':vF}(h:FT a b w w'){B:Nat}{e:I1}{JS n:Nat}{v:sA}{xs:List sA}(d:w.ownsRow B e JS v n xs)(h1:e≠44)(h2:e≠40)(h3:e≠75)
  (f:∀g,v.ownBlock=some g→g<a∨b≤g):w'.ownsRow B e JS v n xs:=by
 refine⟨d.1,?_⟩;rcases d.2 with q|⟨g,i,j,rfl,k,l,m⟩
 ·exact .inl q
 ·exact .inr ⟨g,i,j,rfl,k,h g _ _ _ l h1 h2 h3 (f g rfl),m⟩
structure KInvR(lo:Nat)(w1 wr:World)(l:Value)(ps:List (RowD × Value))(m:RowD × Value)(i:Nat):Prop where
 le:i≤ps.length
 own:wr.ownsRow lo 51 2 l ps.length (cZ (List.replicate i m++ps.drop i))
 kb:Kb l.ownBlock.toList w1 wr
theorem Ie(d:List sA)(x y a b:sA)(r:List sA):((d++x::y::r).set d.length a).set (d.length+1) b=d++a::b::r:=by simp
theorem Ig(A C:List (RowD × sA))(f:RowD × sA)(n:ByteArray)(tv:sA)(t:List ByteArray):((cZ (A++f::C)).set (A.length*2) (.string n)).set (A.length*2+1) tv=cZ (A++(⟨n,t⟩,tv)::C):=by
 have e:∀f:RowD × sA,cZ (A++f::C)=cZ A ++ .string f.1.name::f.2::cZ C:=fun f=>by simp[cZ]
 have h:=Ie (cZ A) (.string f.1.name) f.2 (.string n) tv (cZ C);rw[oT]at h;rw[e,e];exact h
theorem Bv(n:Nat)(m:ByteArray)(tv:sA)(t:List ByteArray):cZ (A3 n (⟨m,t⟩,tv))=dJ n [.string m,tv]:=by
 induction n with
 |zero=>rfl
 |succ n a=>rw[Mh,jJ,← a];simp[cZ]
theorem jF{w:vF}{B:Nat}{v:sA}{ss:List ByteArray}(h:w.ownsRow B 9 1 v ss.length (ss.map F2)):cY v ss w:=by
 rcases h.2 with⟨rfl,a⟩|⟨g,f,m,rfl,_,b,j,_,o,k⟩
 ·exact⟨none,0,by rw[a],by omega,fun _=>rfl,fun l=>absurd (LJ.1 a) l⟩
 ·refine⟨some ⟨g,0,none⟩,f,rfl,j,(fun h=>by cases h),fun _=>⟨g,0,rfl,aB b,?_⟩⟩;intro i s d;have p:=bV d;have e:(ss.map F2)[i]?=some (.string s):=by rw[Jx,d];rfl
  rw[JR,aC b];rw[← k,Jr,if_pos (by omega)]at e;simpa using e
theorem OwnR.rows{w:vF}{o a:Nat}{v:sA}{ps:List (RowD × sA)}(h:OwnR w o a v ps):dP v (ps.map Ml) w:=by
 have d:(ps.map Ml).length=ps.length:=List.length_map _;rcases h.row.2 with⟨rfl,f⟩|⟨g,p,E,rfl,_,k,q,_,H,t⟩
 ·refine⟨none,0,by rw[d,f],by rw[d];omega,fun _=>rfl,fun y=>?_⟩;have:ps=[]:=LJ.1 f;subst this;exact absurd rfl y
 ·refine⟨some ⟨g,0,none⟩,p,by rw[d],by rw[d];exact q,(fun h=>by cases h),fun _=>⟨g,0,rfl,aB k,?_⟩⟩;intro i n z a;rw[Jx]at a;cases b:ps[i]? with
  |none=>rw[b]at a;cases a
  |some x=>
   obtain⟨r,e⟩:=x;rw[b]at a;have hr:r=⟨n,z⟩:=by simpa using a
   subst hr;have J:=bV b;obtain⟨A,C⟩:=pC ps i _ e b;have l:∀j u,j<ps.length*2→(cZ ps)[j]?=some u→w.cell? ⟨g,0+j,none⟩=some u:=by intro j u D m;rw[JR,aC k];rw[← t,Jr,if_pos D]at m;simpa using m
   exact⟨l _ _ (by omega) A,e,l _ _ (by omega) C,jF (h.tos i _ e b)⟩
theorem OwnR.below{w w':vF}{a b:Nat}{v:sA}{ps:List (RowD × sA)}(h:OwnR w a b v ps)(d:Below w.heap.size w w'):OwnR w' a b v ps:=
 ⟨aM h.row d,h.top,fun i r e f=>aM (h.tos i r e f) d,h.ttop,h.sep⟩
theorem OwnR.nil(w:vF)(a b:Nat):OwnR w a b (.slice none 0 0) []:=
 ⟨JW _ _ _ _,(fun g h=>nomatch h),(fun i r d h=>by simp at h),(fun i r d h=>by simp at h),(fun i j x y _ h=>by simp at h)⟩
theorem OwnR.low{w:vF}{a b d:Nat}{v:sA}{ps:List (RowD × sA)}(h:OwnR w a d v ps)(e:b≤a):OwnR w b d v ps:=
 ⟨eY h.row e,h.top,fun i r f g=>eY (h.tos i r f g) e,h.ttop,h.sep⟩
theorem OwnR.high{w:vF}{b d e:Nat}{v:sA}{ps:List (RowD × sA)}(h:OwnR w b d v ps)(f:d≤e):OwnR w b e v ps:=
 ⟨h.row,fun g a=>A2 (h.top g a) f,h.tos,fun i r j k g a=>A2 (h.ttop i r j k g a) f,h.sep⟩
theorem OwnR.store{w:vF}{d e b j:Nat}{x:sA}{v:sA}{ps:List (RowD × sA)}(h:OwnR w d e v ps)(f:b<d):OwnR (w.setCell ⟨b,j,none⟩ x) d e v ps:=
 ⟨Lg h.row (a:=⟨b,j,none⟩) f _,h.top,fun i r g k=>Lg (h.tos i r g k) (a:=⟨b,j,none⟩) f _,h.ttop,h.sep⟩
theorem Ag(ps:List (RowD × sA))(r:RowD)(tv:sA):cZ (ps++[(r,tv)])=cZ ps++[.string r.name,tv]:=by simp[cZ]
theorem OwnR.push{p f:vF}{l hs:Nat}{v v':sA}{ps:List (RowD × sA)}{r:RowD}{tv:sA}{o:Obj}(h:OwnR p l hs v ps)(D:l≤hs)(q:p.ownsRow hs 9 1 tv r.to.length (r.to.map F2))
  (u:f.ownsRow l 51 2 v' (ps.length+1) (cZ ps++[.string r.name,tv])) (z:(p.alloc o).grownBy f v.ownBlock):OwnR f l f.heap.size v' (ps++[(r,tv)]):=by
 have E:∀(i:Nat) a b,ps[i]?=some (a,b)→f.ownsRow l 9 1 b a.to.length (a.to.map F2):=fun i a b d=>((h.tos i a b d).alloc o).kept z (gL (h.tos i a b d) h.row (by decide))
 have H:f.ownsRow hs 9 1 tv r.to.length (r.to.map F2):=(q.alloc o).kept z (gL q h.row (by decide));have A:∀(i:Nat) a b,(ps++[(r,tv)])[i]?=some (a,b)→f.ownsRow l 9 1 b a.to.length (a.to.map F2):=by
  intro i a b d;by_cases J:i<ps.length
  ·rw[IL J]at d;exact E i a b d
  ·rw[IZ (by omega)]at d;have:i-ps.length=0:=by have:=bV d;simp at this;omega
   rw[this]at d;simp at d;obtain⟨rfl,rfl⟩:=d;exact eY H D
 refine⟨by rw[A4,Ag];exact u,fun g t=>(u.lt g t).2,A,fun i a b d g t=>((A i a b d).lt g t).2,?_⟩;intro i j x y K m k;by_cases N:j<ps.length
 ·rw[IL N]at k;rw[IL (by omega)]at m;exact h.sep i j x y K m k
 ·have C:=bV k;rw[A4]at C;have Q:j<ps.length+1:=C;rw[IL (by omega)]at m;rw[IZ (by omega)]at k;have:j-ps.length=0:=by omega
  rw[this]at k;simp at k;subst k;obtain⟨a,b⟩:=x;cases O:b.ownBlock with
  |none=>exact .inl rfl
  |some g=>refine .inr (fun e=>?_);have R:=h.ttop i a b m g O;have S:=(q.lt g e.symm).1;omega
theorem E3(s:ByteArray):∀(d i:Nat),s.size-i=d→∀x∈rG s i,x.size≤s.size:=by
 intro d;induction d using Kn with
 |_ d b=>
  intro i hd x a;by_cases h:i<s.size
  ·rw[lS h]at a;have e:=kQ s 32 (i+1);rcases sT.1 a with rfl|a
   ·rw[Jw];omega
   ·exact b (s.size-stop s 32 (i+1)) (by omega) _ rfl x a
  ·rw[qJ (by omega)]at a;simp at a
theorem nQ{s:ByteArray}{r:RowD}(h:gM s=some r):r.name.size≤s.size∧r.to.length≤s.size∧∀x∈r.to,x.size≤s.size:=by
 unfold gM at h;split at h
 ·cases h
 ·split at h
  ·injection h with h;subst h;refine⟨by rw[Jw];omega,?_,E3 s _ _ rfl⟩;have:=EX s _ (stop s 58 0+1) rfl;show(rG s _).length≤_;omega
  ·cases h
theorem sH{s:ByteArray}{r:RowD}(h:bW s=some r):gM s=some r∧dC r=true:=by
 unfold bW at h;split at h
 ·rename_i a hr;split at h
  ·injection h with h;subst h;exact⟨hr,by assumption⟩
  ·cases h
 ·cases h
theorem Dw{s:ByteArray}{r:RowD}(h:gM s=some r)(a:ByteArray):(bW s=some r∧cE r a=chk true r a)∨(bW s=none∧cE r a=4):=by
 unfold bW;rw[h];cases b:dC r
 ·right;simp[b,cE]
 ·left;simp[b,cE,chk]
theorem E4{s:ByteArray}(h:gM s=none):bW s=none:=by unfold bW;rw[h]
theorem nR{pre:List RowD}{a:ByteArray}{n:Nat}{l:ByteArray}:eQ pre a n [l]=if l.size=0 then(pre,0,0)else([],4,(n:Int)+1):=rfl
theorem kR{pre:List RowD}{a:ByteArray}{n:Nat}{l l':ByteArray}{r:List ByteArray}(h:bW l=none):eQ pre a n (l::l'::r)=([],4,(n:Int)+1):=by simp[eQ,h]
theorem pD{pre:List RowD}{a:ByteArray}{n:Nat}{l l':ByteArray}{r:List ByteArray}{x:RowD}(h:bW l=some x)(b:chk true x a=0):eQ pre a n (l::l'::r)=eQ (pre++[x]) x.name (n+1) (l'::r):=by simp[eQ,h,b]
theorem pE{pre:List RowD}{a:ByteArray}{n:Nat}{l l':ByteArray}{r:List ByteArray}{x:RowD}(h:bW l=some x)(b:chk true x a≠0):eQ pre a n (l::l'::r)=([],chk true x a,(n:Int)+1):=by simp[eQ,h,b]
def kE(w w':vF)(s:ByteArray)(e:Ending):Prop:=
 ∃v ps,e=.returned (.tuple #[v,.agg #[.int .i64 (fA s).2.1,.int .i64 (fA s).2.2]])∧ps.map Ml=(fA s).1∧OwnR w' w.heap.size w'.heap.size v ps∧Below w.heap.size w w'
theorem kE.bad{w w':vF}{s:ByteArray}{k n:Int}(h:fA s=([],k,n))(a:Below w.heap.size w w'):kE w w' s (.returned (.tuple #[.slice none 0 0,.agg #[.int .i64 k,.int .i64 n]])):=
 ⟨.slice none 0 0,[],by rw[h],by rw[h];rfl,OwnR.nil _ _ _,a⟩
structure RdInv(w1 wr:World)(ls:List ByteArray)(i:Nat)(v:Value)(last:ByteArray)(ps:List (RowD × Value)):Prop where
 lt:i<ls.length
 eqn:eQ [] noB 0 ls=eQ (ps.map Prod.fst) last i (ls.drop i)
 cnt:ps.length≤i
 own:OwnR wr w1.heap.size wr.heap.size v ps
 blw:Below w1.heap.size w1 wr
end
section
open Go.RowKit
variable {B:Nat} {c:Way} {n:Nat} {s:St}
theorem GM.types{w:vF}{G:GV}(h:GM w B c n G s){b:Nat}(g:b∈G.foot):∃a T,w.heap[b]?=some (.cells a T (0,0))∧T≠9∧T≠51∧T≠44:=by
 rcases aG.1 g with rfl|rfl|rfl|⟨v,i,e⟩|e|e|e|e|e
 ·exact⟨_,_,h.hbg,by decide,by decide,by decide⟩
 ·exact⟨_,_,h.hbn,by decide,by decide,by decide⟩
 ·exact⟨_,_,h.hbl,by decide,by decide,by decide⟩
 ·obtain⟨k,f⟩:=List.mem_iff_getElem?.1 i;have j:=(List.getElem?_eq_some_iff.1 f).1;obtain⟨t,l⟩:∃t,s.ss[k]?=some t:=⟨_,List.getElem?_eq_getElem (by rw[h.lss,← h.lnv];exact j)⟩;obtain⟨a,d⟩:=(h.sN k v t f l).block e;exact⟨a,_,d,by decide,by decide,by decide⟩
 ·obtain⟨a,d⟩:=h.sS.block e;exact⟨a,_,d,by decide,by decide,by decide⟩
 ·obtain⟨a,d⟩:=h.sI.block e;exact⟨a,_,d,by decide,by decide,by decide⟩
 ·obtain⟨a,d⟩:=h.oA.block e;exact⟨a,_,d,by decide,by decide,by decide⟩
 ·obtain⟨a,d⟩:=h.oN.block e;exact⟨a,_,d,by decide,by decide,by decide⟩
 ·obtain⟨a,d⟩:=h.oC.block e;exact⟨a,_,d,by decide,by decide,by decide⟩
theorem qL{w w':vF}{a:Nat}{e:I1}{JS m:Nat}{v:sA}{xs:List sA}(h:w.ownsRow a e JS v m xs){L:List Nat}(b:Kb L w w')(d:∀g,v.ownBlock=some g→g ∉ L):w'.ownsRow a e JS v m xs:=by
 refine⟨h.1,?_⟩;rcases h.2 with f|⟨g,i,j,rfl,k,l,o⟩
 ·exact .inl f
 ·exact .inr ⟨g,i,j,rfl,k,b.heap l (d g rfl),o⟩
theorem iF{w:vF}{b:Nat}{e:I1}{JS m:Nat}{v:sA}{xs:List sA}(h:w.ownsRow b e JS v m xs){g:Nat}(a:v.ownBlock=some g):∃d,w.heap[g]?=some (.cells d e (0,0)):=by
 rcases h.2 with⟨rfl,_⟩|⟨i,j,k,rfl,_,f,_⟩
 ·cases a
 ·cases a;exact⟨_,f⟩
def Off(w:vF)(a b:Nat):Prop:=a≤b∨∀d T e,w.heap[b]?=some (.cells d T e)→T≠9∧T≠51
theorem OwnR.kb{w w':vF}{m e:Nat}{v:sA}{ps:List (RowD × sA)}(h:OwnR w m e v ps){L:List Nat}(o:Kb L w w')(p:∀b∈L,Off w e b):OwnR w' m e v ps:=by
 refine⟨qL h.row o (fun g a f=>?_),h.top,fun i r j k=>qL (h.tos i r j k) o (fun g a f=>?_),h.ttop,h.sep⟩
 ·rcases p g f with d|d
  ·have:=h.top g a;omega
  ·obtain⟨q,l⟩:=iF h.row a;exact(d _ _ _ l).2 rfl
 ·rcases p g f with d|d
  ·have:=h.ttop i r j k g a;omega
  ·obtain⟨q,l⟩:=iF (h.tos i r j k) a;exact(d _ _ _ l).1 rfl
structure RI(w:World)(B:Nat)(c:Way)(n:Nat)(G:GV)(s:St)(vn:Value)(L:List Nat)(W:World)(G':GV)(vl:Value)(ps:List (RowD × Value))(hs:Nat)(ds:List Nat):Prop where
 li:LI w B c n G L [(w.heap.size,#[vn],44)] [] W s G'
 row:OwnR W w.heap.size hs vl ps
 hs1:w.heap.size≤hs
 hs2:hs≤W.heap.size
 dd:∀D∈ds,W.heap[D]?=some (.deferred (some []))
 nd:ds.Nodup
 lo:∀D∈ds,w.heap.size≤D
variable {w:World} {G:GV} {vn:Value} {L:List Nat} {W W':World} {G' G1:GV} {vl:Value} {ps:List (RowD × Value)} {hs:Nat} {ds:List Nat}
theorem RI.call(h:RI w B c n G s vn L W G' vl ps hs ds)(h1:GM W' B c n G1 s)(c1:GCh W W' G' G1):RI w B c n G s vn L W' G1 vl ps hs ds∧(∀D,Ju D W W')∧KpB L W W':=by obtain⟨d,a,f⟩:=h.li.call h1 c1;refine⟨⟨d,h.row.kb c1.kb (fun b g=>.inr (fun m T o i=>?_)),h.hs1,IH h.hs2 c1.kb.size,fun D j=>(a D).same D _ (gO _) (h.dd D j) rfl,h.nd,h.lo⟩,a,f⟩;obtain⟨p,q,e,k,l,_⟩:=h.li.gm.types g;rw[i]at e;injection e with e;injection e with _ e _;rw[e];exact⟨k,l⟩
theorem RI.fresh(h:RI w B c n G s vn L W G' vl ps hs ds)(a:Kb [] W W'):RI w B c n G s vn L W' G' vl ps hs ds∧(∀D,Ju D W W')∧KpB L W W':=
 h.call (h.li.gm.fresh a) ⟨a.mono (by simp),fun _ b=>.inl b,rfl,rfl,rfl⟩
theorem RI.own(h:RI w B c n G s vn L W G' vl ps hs ds){D:Nat}(k:w.heap.size≤D)(l:∀x∈ds,x<D){d:Option Nat}(f:W.grownBy W' d)(hr:∀r,d=some r→D≤r∧∃o:Obj,W.heap[r]?=some o∧o.isCells=false):RI w B c n G s vn L W' G' vl ps hs ds:=by
 have a:=aS f;refine⟨h.li.own k f hr,h.row.kb a (fun b m=>.inr (fun t T u p=>?_)),h.hs1,IH h.hs2 a.size,fun x g=>?_,h.nd,h.lo⟩
 ·obtain⟨_,o,i,e⟩:=hr b (by simpa using m);rw[p]at i;cases i;cases e
 ·have j:=h.dd x g;rw[← j];refine a.block x (aB j) (fun q=>?_);have:=(hr x (by simpa using q)).1;have:=l x g;omega
theorem RI.side(h:RI w B c n G s vn L W G' vl ps hs ds){M:List Nat}(a:Kb M W W')(e:∀b∈M,hs≤b∧b≠w.heap.size∧b ∉ G'.foot∧b ∉ L∧∃j T,W.heap[b]?=some (.cells j T (0,0))):RI w B c n G s vn L W' G' vl ps hs ds∧(∀D,Ju D W W')∧KpB L W W':=by
 have l:∀D,Ju D W W':=fun D=>bO a (fun b d o m=>by
  obtain⟨_,_,_,_,j,T,t⟩:=e b d;rw[t]at m;cases m;rfl) D
 refine⟨⟨⟨h.li.gm.beside a (fun b d=>(e b d).2.2.1),h.li.ch.beside a (fun b d=>IH h.hs1 (e b d).1),fun q g=>?_,(by intro q g;cases g),fun k f=>⟨(h.li.lb k f).1,A2 (h.li.lb k f).2 a.size⟩⟩,h.row.kb a (fun b d=>.inl (e b d).1),h.hs1,IH h.hs2 a.size,fun D u=>(l D).same D _ (gO _) (h.dd D u) rfl,h.nd,h.lo⟩,l,fun k f=>a.block k (h.li.lb k f).2 (fun i=>(e k i).2.2.2.1 f)⟩;obtain⟨p,r⟩:=h.li.bx q g;rw[A1.1 g]at p r ⊢;exact⟨a.heap p (fun i=>(e _ i).2.1 rfl),r⟩
theorem RI.il(h:RI w B c n G s vn L W G' vl ps hs ds){L':List Nat}(a:∀k∈L',k ∉ G'.foot∧k<W.heap.size):RI w B c n G s vn L' W G' vl ps hs ds:=⟨⟨h.li.gm,h.li.ch,h.li.bx,h.li.vt,a⟩,h.row,h.hs1,h.hs2,h.dd,h.nd,h.lo⟩
def uH(D:Nat):Deferred:={ target:=.collected D,args:=#[] }
theorem nS{F:Fence}{k:Nat}{P:Program}{a:Func}{tmps:Array sA}{R:Ending→vF→Prop}:∀(ds:List Nat) (W:vF),ds.Nodup→(∀D∈ds,W.heap[D]?=some (.deferred (some []))) →
  LeavesInM F k P a tmps R [] .returning (ds.foldl (fun W D=>W.putObj D (.deferred none)) W)→LeavesInM F k P a tmps R (ds.map uH) .returning W:=by
 intro ds;induction ds with
 |nil=>exact fun _ _ _ h=>h
 |cons D r f=>intro W g hd h;obtain⟨i,j⟩:=OE.1 g;have l:=hd D List.mem_cons_self;refine⟨by simp,.inl ⟨_,_,rfl,run_takeDeferred l,?_⟩⟩;refine f _ j (fun x b=>?_) h;have d:=hd x (List.mem_cons_of_mem _ b);rw[← d];exact(aS (grownBy_putObj' W D (.deferred none))).block x (aB d) (by simp;intro e;exact i (e ▸ b))
theorem xZ:∀(ds:List Nat) (W:vF),Kb ds W (ds.foldl (fun W D=>W.putObj D (.deferred none)) W):=by
 intro ds;induction ds with
 |nil=>exact fun W=>Kb.refl _ W
 |cons D r b=>intro W;have d:=aS (grownBy_putObj' W D (.deferred none));exact(d.mono (by intro k _ a;simp at a;simp[a])).trans ((b _).mono (by intro k _ a;simp[a]))
end
section
open Go.RowKit Go.Shelf
abbrev aL:I1:=112
abbrev TNs:I1:=106
structure NxI(M:Nat)(I:World→List Nat→Prop):Prop where
 lt:∀W F b,I W F→b∈F→b<W.heap.size∧(b<M∨∃cs T,W.heap[b]?=some (.cells cs T (0,0)))
 kb:∀W W' F L,I W F→Kb L W W'→(∀b∈L,b ∉ F)→I W' F
 uniq:∀W F F',I W F→I W F'→F=F'
def E5(I:vF→List Nat→Prop)(f:Nat)(d h:Array sA)(N:Nat)(i:Nat→List Nat):Prop:=
 ∀(W:vF) (F:List Nat) (m:Nat),I W F→bN W→m<N→Calls hE f (d.push (.int .u64 ((m:Nat):Int))++h) W fun e W'=>∃v a,e=.returned (.agg #[v])∧aO W' 0 v (i m)∧(∀g,v.ownBlock=some g→g∈F∨W.heap.size≤g)∧I W' a∧Kb F W W'∧∀b∈a,b∈F∨W.heap.size≤b
def uI(z bf br:Nat)(vf vr:sA)(b:Nat):Prop:=b=z∨b=bf∨b=br∨vf.ownBlock=some b∨vr.ownBlock=some b
structure RS(M:Nat)(I:World→List Nat→Prop)(w:World)(F0 L found rest:List Nat)(bf br:Nat)(vf vr:Value)(F ds:List Nat)(W:World):Prop where
 nx:NxI M I
 hM:M≤w.heap.size
 inv:I W F
 kb:Kb F0 w W
 ft:∀b∈F,b∈F0∨w.heap.size≤b
 cz:W.heap[w.heap.size]?=some (.cells #[.slice none 0 0] aL (0,0))
 cf:W.heap[bf]?=some (.cells #[vf] aL (0,0))
 sf:aO W w.heap.size vf found
 cr:W.heap[br]?=some (.cells #[vr] TNs (0,0))
 sr:cI W w.heap.size vr rest
 lo:w.heap.size<bf∧w.heap.size<br
 out:∀b,uI w.heap.size bf br vf vr b→b ∉ F
 lb:∀k∈L,k ∉ F∧k<W.heap.size∧¬uI w.heap.size bf br vf vr k
 dd:∀D∈ds,W.heap[D]?=some (.deferred (some []))
 nd:ds.Nodup
 dl:∀D∈ds,w.heap.size≤D
variable {M:Nat} {I:World→List Nat→Prop} {w:World} {F0 L found rest:List Nat} {bf br:Nat} {vf vr:Value} {F ds:List Nat} {W W':World}
theorem RS.cells(h:RS M I w F0 L found rest bf br vf vr F ds W){b:Nat}(f:uI w.heap.size bf br vf vr b):w.heap.size≤b∧∃a T,W.heap[b]?=some (.cells a T (0,0)):=by
 rcases f with rfl|rfl|rfl|e|e
 ·exact⟨gO _,_,_,h.cz⟩
 ·exact⟨JA h.lo.1,_,_,h.cf⟩
 ·exact⟨JA h.lo.2,_,_,h.cr⟩
 ·obtain⟨a,d⟩:=h.sf.block e;exact⟨(h.sf.lt e).1,a,_,d⟩
 ·obtain⟨a,d⟩:=h.sr.block e;exact⟨(h.sr.lt e).1,a,_,d⟩
theorem RS.dF(h:RS M I w F0 L found rest bf br vf vr F ds W){D:Nat}{o:Obj}(b:W.heap[D]?=some o)(d:o.isCells=false)(f:w.heap.size≤D):D ∉ F:=by
 intro e;rcases(h.nx.lt W F D h.inv e).2 with a|⟨g,T,a⟩
 ·have:=h.hM;omega
 ·rw[b]at a;cases a;cases d
theorem RS.side(h:RS M I w F0 L found rest bf br vf vr F ds W){X:List Nat}(a:Kb X W W')(i:∀b∈X,w.heap.size≤b∧b ∉ F∧¬uI w.heap.size bf br vf vr b)(q:∀b∈X,b ∉ ds):RS M I w F0 L found rest bf br vf vr F ds W':=by
 have d:∀ {b},uI w.heap.size bf br vf vr b→b ∉ X:=fun r f=>(i _ f).2.2 r
 refine⟨h.nx,h.hM,h.nx.kb W W' F X h.inv a (fun b t=>(i b t).2.1),⟨a.os.trans h.kb.os,a.tape.trans h.kb.tape,a.output.trans h.kb.output,IH h.kb.size a.size,fun j o u=>?_⟩,h.ft,a.heap h.cz (d (.inl rfl)),a.heap h.cf (d (.inr (.inl rfl))),h.sf.kb a (fun g l e=>d (.inr (.inr (.inr (.inl e)))) l),a.heap h.cr (d (.inr (.inr (.inl rfl)))),h.sr.kb a (fun g l e=>d (.inr (.inr (.inr (.inr e)))) l),h.lo,h.out,fun k m=>⟨(h.lb k m).1,A2 (h.lb k m).2.1 a.size,(h.lb k m).2.2⟩,fun D p=>a.heap (h.dd D p) (fun f=>q D f p),h.nd,h.dl⟩;refine(a.block j (A2 o h.kb.size) (fun f=>?_)).trans (h.kb.block j o u);have:=(i j f).1;omega
theorem RS.fresh(h:RS M I w F0 L found rest bf br vf vr F ds W)(a:Kb [] W W'):RS M I w F0 L found rest bf br vf vr F ds W':=h.side a (by simp) (by simp)
theorem RS.own(h:RS M I w F0 L found rest bf br vf vr F ds W){D:Nat}(m:w.heap.size≤D)(i:∀x∈ds,x<D){d:Option Nat}(j:W.grownBy W' d)(hr:∀r,d=some r→D≤r∧∃o:Obj,W.heap[r]?=some o∧o.isCells=false):RS M I w F0 L found rest bf br vf vr F ds W':=by
 refine h.side (aS j) (fun b a=>?_) (fun b a k=>?_)
 ·obtain⟨p,o,e,f⟩:=hr b (by simpa using a);refine⟨by omega,h.dF e f (by omega),fun l=>?_⟩;obtain⟨_,q,T,g⟩:=h.cells l;rw[e]at g;cases g;cases f
 ·have:=(hr b (by simpa using a)).1;have:=i b k;omega
theorem RS.call(h:RS M I w F0 L found rest bf br vf vr F ds W){i:List Nat}(x:I W' i)(a:Kb F W W')(q:∀b∈i,b∈F∨W.heap.size≤b):RS M I w F0 L found rest bf br vf vr i ds W':=by
 have r:∀b,b<W.heap.size→b ∉ F→b ∉ i:=fun b f y m=>by
  rcases q b m with d|d
  ·exact y d
  ·omega
 have z:∀ {b},uI w.heap.size bf br vf vr b→b<W.heap.size:=fun A=>by
  obtain⟨_,E,T,C⟩:=h.cells A;exact aB C
 refine⟨h.nx,h.hM,x,⟨a.os.trans h.kb.os,a.tape.trans h.kb.tape,a.output.trans h.kb.output,IH h.kb.size a.size,fun j t u=>?_⟩,fun b f=>?_,a.heap h.cz (h.out _ (.inl rfl)),a.heap h.cf (h.out _ (.inr (.inl rfl))),h.sf.kb a (fun g o e=>h.out g (.inr (.inr (.inr (.inl e)))) o),a.heap h.cr (h.out _ (.inr (.inr (.inl rfl)))),h.sr.kb a (fun g o e=>h.out g (.inr (.inr (.inr (.inr e)))) o),h.lo,fun b f=>r b (z f) (h.out b f),fun k l=>⟨r k (h.lb k l).2.1 (h.lb k l).1,A2 (h.lb k l).2.1 a.size,(h.lb k l).2.2⟩,fun D p=>a.heap (h.dd D p) (h.dF (h.dd D p) rfl (h.dl D p)),h.nd,h.dl⟩
 ·refine(a.block j (A2 t h.kb.size) (fun m=>?_)).trans (h.kb.block j t u);rcases h.ft j m with d|d
  ·exact u d
  ·omega
 ·rcases q b f with d|d
  ·exact h.ft b d
  ·exact .inr (IH h.kb.size d)
theorem RS.put(h:RS M I w F0 L found rest bf br vf vr F ds W){X:List Nat}(a:Kb X W W')(l:∀b∈X,uI w.heap.size bf br vf vr b){y z:List Nat}{i:Nat}{p q:sA}(A:W'.heap[w.heap.size]?=some (.cells #[.slice none 0 0] aL (0,0)))(J:W'.heap[bf]?=some (.cells #[p] aL (0,0)))(K:aO W' w.heap.size p y)(d:W'.heap[i]?=some (.cells #[q] TNs (0,0)))(N:cI W' w.heap.size q z)
  (u:∀b,uI w.heap.size bf i p q b→uI w.heap.size bf br vf vr b∨W.heap.size≤b):RS M I w F0 L y z bf i p q F ds W'∧(∀D,Ju D W W')∧KpB L W W':=by
 have O:w.heap.size<i:=by
  rcases u i (.inr (.inr (.inl rfl)))with f|f
  ·have x:=(h.cells f).1;by_cases e:i=w.heap.size
   ·rw[e]at d;rw[A]at d;injection d with d;injection d with _ d _;exact absurd d (by decide)
   ·omega
  ·have:=aB h.cz;omega
 refine⟨⟨h.nx,h.hM,h.nx.kb W W' F X h.inv a (fun b m=>h.out b (l b m)),⟨a.os.trans h.kb.os,a.tape.trans h.kb.tape,a.output.trans h.kb.output,IH h.kb.size a.size,fun j C Q=>?_⟩,h.ft,A,J,K,d,N,⟨h.lo.1,O⟩,fun b m=>?_,fun k r=>?_,fun D E=>a.heap (h.dd D E) (fun g=>?_),h.nd,h.dl⟩,fun D=>bO a (fun b m o H=>?_) D,fun k r=>a.block k (h.lb k r).2.1 (fun g=>(h.lb k r).2.2 (l k g))⟩
 ·refine(a.block j (A2 C h.kb.size) (fun g=>?_)).trans (h.kb.block j C Q);have:=(h.cells (l j g)).1;omega
 ·rcases u b m with f|f
  ·exact h.out b f
  ·intro g;have:=(h.nx.lt W F b h.inv g).1;omega
 ·obtain⟨R,S,U⟩:=h.lb k r;refine⟨R,A2 S a.size,fun f=>?_⟩;rcases u k f with x|x
  ·exact U x
  ·omega
 ·obtain⟨_,V,T,t⟩:=h.cells (l D g);rw[h.dd D E]at t;cases t
 ·obtain⟨_,V,T,t⟩:=h.cells (l b m);rw[t]at H;cases H;rfl
theorem RS.ne1(h:RS M I w F0 L found rest bf br vf vr F ds W):bf≠br:=aP h.cf h.cr (by decide)
theorem RS.l9(h:RS M I w F0 L found rest bf br vf vr F ds W){j:sA}{m:List Nat}(q:aO W' w.heap.size j m)(a:SetCh W W' bf 0 #[vf] aL vf j):RS M I w F0 L m rest bf br j vr F ds W'∧(∀D,Ju D W W')∧KpB L W W':=by
 have o:∀ {b k T},W.heap[b]?=some (.cells k T (0,0))→b≠bf→T≠T64→b ∉ bf::vf.ownBlock.toList:=by
  intro b k T d r t i;rcases sT.1 i with e|i
  ·exact r e
  ·simp at i;exact h.sf.ne d t i
 refine h.put a.kb ?_ (a.kb.heap h.cz (o h.cz (by have:=h.lo.1;omega) (by decide))) ?_ q (a.kb.heap h.cr (o h.cr h.ne1.symm (by decide))) ?_ ?_
 ·intro b d;rcases sT.1 d with rfl|d
  ·exact .inr (.inl rfl)
  ·simp at d;exact .inr (.inr (.inr (.inl d)))
 ·rw[a.blk];rfl
 ·refine h.sr.kb a.kb (fun g f e=>?_);obtain⟨k,p⟩:=h.sr.block e;rcases sT.1 f with rfl|f
  ·exact aP h.cf p (by decide) rfl
  ·simp at f;obtain⟨x,u⟩:=h.sf.block f;exact aP u p (by decide) rfl
 ·rintro b (e|e|e|e|e)
  ·exact .inl (.inl e)
  ·exact .inl (.inr (.inl e))
  ·exact .inl (.inr (.inr (.inl e)))
  ·rcases a.lies with l|⟨g,l,f⟩
   ·exact .inl (.inr (.inr (.inr (.inl (by rw[← l];exact e)))))
   ·rw[l]at e;cases e;exact .inr f
  ·exact .inl (.inr (.inr (.inr (.inr e))))
theorem RS.rows(h:RS M I w F0 L found rest bf br vf vr F ds W){W1:vF}{a:sA}{u:List Nat}(x:Kb vr.ownBlock.toList W W1)(y:cI W1 w.heap.size a u)(E:a.ownBlock=vr.ownBlock∨∀g,a.ownBlock=some g→W.heap.size≤g) :
  RS M I w F0 L found u bf br vf a F ds (W1.setCell ⟨br,0,none⟩ a)∧(∀D,Ju D W (W1.setCell ⟨br,0,none⟩ a))∧KpB L W (W1.setCell ⟨br,0,none⟩ a):=by
 have z:∀ {b f T},W.heap[b]?=some (.cells f T (0,0))→T≠TN→b ∉ vr.ownBlock.toList:=by intro b f T d o i;simp at i;exact h.sr.ne d o i
 have A:=x.heap h.cr (z h.cr (by decide));have C:Kb [br] W1 (W1.setCell ⟨br,0,none⟩ a):=(Kb.refl _ _).setCell (p:=⟨br,0,none⟩) (.inl (by simp)) _;have l:Kb (br::vr.ownBlock.toList) W (W1.setCell ⟨br,0,none⟩ a):=(x.mono (by intro k _ j;simp at j;simp[j])).trans (C.mono (by intro k _ j;simp at j;simp[j]));have q:∀ {b f T},W.heap[b]?=some (.cells f T (0,0))→b≠br→T≠TN→b ∉ br::vr.ownBlock.toList:=by
  intro b f T d H o i;rcases sT.1 i with e|i
  ·exact H e
  ·exact z d o i
 refine h.put l ?_ (l.heap h.cz (q h.cz (by have:=h.lo.2;omega) (by decide))) (l.heap h.cf (q h.cf h.ne1 (by decide))) ?_ (by rw[aI A];rfl) ?_ ?_
 ·intro b d;rcases sT.1 d with rfl|d
  ·exact .inr (.inr (.inl rfl))
  ·simp at d;exact .inr (.inr (.inr (.inr d)))
 ·refine h.sf.kb l (fun g r e=>?_);obtain⟨f,m⟩:=h.sf.block e;exact q m (aP m h.cr (by decide)) (by decide) r
 ·refine y.kb C (fun g r e=>?_);rw[A1.1 r]at e;obtain⟨f,m⟩:=y.block e;exact aP m A (by decide) rfl
 ·rintro b (e|e|e|e|e)
  ·exact .inl (.inl e)
  ·exact .inl (.inr (.inl e))
  ·exact .inl (.inr (.inr (.inl e)))
  ·exact .inl (.inr (.inr (.inr (.inl e))))
  ·rcases E with t|t
   ·exact .inl (.inr (.inr (.inr (.inr (by rw[← t];exact e)))))
   ·exact .inr (t b e)
theorem RS.box(h:RS M I w F0 L found rest bf br vf vr F ds W):RS M I w F0 L found rest bf W.heap.size vf vr F ds (W.alloc (.cells #[vr] TNs)):=by
 have a:Kb [] W (W.alloc (.cells #[vr] TNs)):=(Kb.refl [] W).alloc _;refine(h.put a (by simp) (a.heap h.cz (by simp)) (a.heap h.cf (by simp)) (h.sf.kb a (by simp)) (aD _ _) (h.sr.kb a (by simp)) ?_).1;rintro b (e|e|e|e|e)
 ·exact .inl (.inl e)
 ·exact .inl (.inr (.inl e))
 ·exact .inr (by omega)
 ·exact .inl (.inr (.inr (.inr (.inl e))))
 ·exact .inl (.inr (.inr (.inr (.inr e))))
theorem RS.il(h:RS M I w F0 L found rest bf br vf vr F ds W){L':List Nat}(a:∀k∈L',k ∉ F∧k<W.heap.size∧¬uI w.heap.size bf br vf vr k):RS M I w F0 L' found rest bf br vf vr F ds W:=⟨h.nx,h.hM,h.inv,h.kb,h.ft,h.cz,h.cf,h.sf,h.cr,h.sr,h.lo,h.out,a,h.dd,h.nd,h.dl⟩
theorem RS.ke(h:RS M I w F0 L found rest bf br vf vr F ds W){D:Nat}(b:W.heap[D]?=some (.deferred (some [])))(d:∀x∈ds,x<D)(e:w.heap.size≤D):RS M I w F0 L found rest bf br vf vr F (D::ds) W:=by
 refine⟨h.nx,h.hM,h.inv,h.kb,h.ft,h.cz,h.cf,h.sf,h.cr,h.sr,h.lo,h.out,h.lb,fun x a=>?_,OE.2 ⟨fun f=>Nat.lt_irrefl _ (d D f),h.nd⟩,fun x a=>?_⟩
 ·rcases sT.1 a with rfl|a
  ·exact b
  ·exact h.dd x a
 ·rcases sT.1 a with rfl|a
  ·exact e
  ·exact h.dl x a
theorem cI.pop{w:vF}{B:Nat}{ao:Option Addr}{cap:Nat}{xs:List Nat}(h:cI w B (.slice ao xs.length cap) xs)(b:xs≠[]):cI w B (.slice ao (xs.length-1) cap) xs.dropLast:=by
 have q:=List.length_pos_iff.2 b;rcases h.1.2 with⟨e,r⟩|⟨g,d,f,e,i,j,t,k,l,a⟩
 ·omega
 ·refine⟨⟨by rw[fY,Nat.mul_one],.inr ⟨g,d,f,?_,i,j,by rw[K3];omega,k,l,?_⟩⟩,fun x m=>h.2 x ((List.dropLast_sublist xs).subset m)⟩
  ·rw[K3];injection e with o u p;rw[o,p]
  ·rw[Nat.mul_one]at a ⊢;rw[K3,List.dropLast_eq_take];unfold dO at a ⊢;rw[List.map_take,← a,List.take_take];congr 1
   omega
end
end Go.Proofs.YtiamlbhkiehilaaGreatDoor
