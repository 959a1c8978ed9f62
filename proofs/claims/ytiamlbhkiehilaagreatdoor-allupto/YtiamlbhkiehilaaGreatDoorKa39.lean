import Derived.Test.YtiamlbhkiehilaaGreatDoorKa12
open Array renaming toList_extract→Mc
open Bool renaming and_eq_true→Js
open ByteArray renaming size→Jz,data_extract→Lf
open Go renaming World→vF,Calls→I5,bodyPost_ret→IG,results→Jl,Value→sA,maxLen→IU
open Go.Extern.AbiNoEscape renaming same→Oo
open Go.Lib renaming IsBuilderF→J4,OthersKept→Ni,strCells→Lo,cell_of_heap→Lw,byteCells→Jj,byteCells_length→Ky
open Go.Lib.OthersKept renaming refl→MI
open Go.Oper renaming upon_value→MQ
open Go.Proofs.Tryz renaming prog→hE,results134→KI,results98→LW,results69→M8,results37→LX,underlying36→JN,func95→NO,ntmps95→Nt,underlying115→K9,underlying188→N9,underlying116→Ku,underlying9→Kj
open Go.Result renaming andThen→MP
open Go.RowKit renaming Hid→I3,ownsRow_setCell_below→Lg
open Go.Value renaming string→F2
open List renaming extract_eq_take_drop→Lr,getElem?_eq_getElem→hZ,map_append→Jp,map_cons→JX,mem_iff_getElem?→J0,getElem?_eq_some_iff→II,length_drop→MD,getElem?_drop→Kd,take_of_length_le→I6,mem_of_getElem?→IJ,length_append→A4
open Nat renaming le_refl→gO,zero_le→IM,le_of_lt→JA
open Option renaming map_eq_some_iff→Nk
namespace Go.Proofs.YtiamlbhkiehilaaGreatDoor
set_option maxRecDepth 100000
set_option maxHeartbeats 2000000
section
open Go.RowKit Go.Maps
theorem oJ(x:ByteArray):mN noB x=gX x:=by simp[mN,noB,Jz,gX]
theorem oK(c:UInt8)(x:ByteArray):mN ⟨#[c]⟩ x=decide (x=⟨#[c]⟩):=by simp[mN,Jz]
theorem BS(a b c d:ByteArray):dG [a,b,c,d] 0=(gX a && decide (b=⟨#[61]⟩) && decide (c=⟨#[38]⟩) && gX d):=by simp[dG,pat,jA,oJ,oK]
theorem BT(a b c:ByteArray):dG [a,b,c] 1=(gX a && decide (b=⟨#[61]⟩) && gX c):=by simp[dG,pat,jA,oJ,oK]
theorem BU(a b c d:ByteArray):dG [a,b,c,d] 2=(gX a && decide (b=⟨#[61]⟩) && decide (c=⟨#[42]⟩) && gX d):=by simp[dG,pat,jA,oJ,oK]
theorem BV(a b c d:ByteArray):dG [a,b,c,d] 3=(decide (a=⟨#[42]⟩) && gX b && decide (c=⟨#[61]⟩) && gX d):=by simp[dG,pat,jA,oJ,oK]
theorem nV{ws:List ByteArray}{k:Nat}(h:(pat k).length≠ws.length):dG ws k=false:=by simp[dG,h]
def qS(ws:List ByteArray):Fct × Int:=
 if(eM (aT ws)).2=true then(if(eM (aT ws)).1=0 then noF else⟨(eM (aT ws)).1,(eX ws).getD 0 noB,(eX ws).getD 1 noB⟩,0)else(noF,4)
theorem BW(a b c d:ByteArray)(r:iY a)(s:iY b)(t:iY c)(hd:iY d):iS [a,b,c,d]=qS [a,b,c,d]∧((eM (aT [a,b,c,d])).1≠0→(eX [a,b,c,d]).length=2):=by
 obtain⟨o,I,J,u⟩:=jY r;obtain⟨w,p,K,L⟩:=jY s;obtain⟨M,x,y,z⟩:=jY t;obtain⟨i,N,O,P⟩:=jY hd;have A:(aT [a,b,c,d]=[110,61,38,110])↔dG [a,b,c,d] 0=true:=by rw[BS];simp[aT,o,p,y,i,gX,and_assoc]
 have B:dG [a,b,c,d] 1=false:=nV (by simp[pat]);have C:(aT [a,b,c,d]=[110,61,42,110])↔dG [a,b,c,d] 2=true:=by rw[BU];simp[aT,o,p,z,i,gX,and_assoc]
 have D:(aT [a,b,c,d]=[42,110,61,110])↔dG [a,b,c,d] 3=true:=by rw[BV];simp[aT,u,w,x,i,gX,and_assoc]
 have E:aT [a,b,c,d]≠[]:=by simp[aT]
 have F:aT [a,b,c,d]≠[110,61,110]:=by simp[aT]
 have j:gX ⟨#[61]⟩=false:=by decide
 have G:gX ⟨#[38]⟩=false:=by decide
 have q:gX ⟨#[42]⟩=false:=by decide
 unfold qS eM iS;rw[if_neg (show ¬([a,b,c,d]:List ByteArray).length=0 by simp)];simp only[E,F,if_false,B,A,C,D];by_cases k:dG [a,b,c,d] 0=true
 ·have g:=k;rw[BS]at g;simp only[Js,decide_eq_true_eq]at g;obtain⟨⟨⟨l,rfl⟩,rfl⟩,e⟩:=g;have f:eX [a,⟨#[61]⟩,⟨#[38]⟩,d]=[a,d]:=by simp[eX,l,e,j,G]
  have h:fC [a,⟨#[61]⟩,⟨#[38]⟩,d] 0=⟨1,a,d⟩:=by simp[fC,gV,pat,noB,Jz]
  rw[f];simp[k,h]
 ·simp only[k];by_cases m:dG [a,b,c,d] 2=true
  ·have g:=m;rw[BU]at g;simp only[Js,decide_eq_true_eq]at g;obtain⟨⟨⟨l,rfl⟩,rfl⟩,e⟩:=g;have f:eX [a,⟨#[61]⟩,⟨#[42]⟩,d]=[a,d]:=by simp[eX,l,e,j,q]
   have h:fC [a,⟨#[61]⟩,⟨#[42]⟩,d] 2=⟨3,a,d⟩:=by simp[fC,gV,pat,noB,Jz]
   rw[f];simp[m,h]
  ·simp only[m];by_cases n:dG [a,b,c,d] 3=true
   ·have g:=n;rw[BV]at g;simp only[Js,decide_eq_true_eq]at g;obtain⟨⟨⟨rfl,H⟩,rfl⟩,e⟩:=g;have f:eX [⟨#[42]⟩,b,⟨#[61]⟩,d]=[b,d]:=by simp[eX,H,e,j,q]
    have h:fC [⟨#[42]⟩,b,⟨#[61]⟩,d] 3=⟨4,b,d⟩:=by simp[fC,gV,pat,noB,Jz]
    rw[f];simp[n,h]
   ·simp[n]
theorem BX(a b c:ByteArray)(e:iY a)(f:iY b)(h:iY c):iS [a,b,c]=qS [a,b,c]∧((eM (aT [a,b,c])).1≠0→(eX [a,b,c]).length=2):=by
 obtain⟨i,z,A,B⟩:=jY e;obtain⟨C,j,D,E⟩:=jY f;obtain⟨k,F,G,H⟩:=jY h;have l:(aT [a,b,c]=[110,61,110])↔dG [a,b,c] 1=true:=by rw[BT];simp[aT,i,j,k,gX,and_assoc]
 have m:dG [a,b,c] 0=false:=nV (by simp[pat]);have n:dG [a,b,c] 2=false:=nV (by simp[pat]);have o:dG [a,b,c] 3=false:=nV (by simp[pat]);have p:aT [a,b,c]≠[]:=by simp[aT]
 have q:aT [a,b,c]≠[110,61,38,110]:=by simp[aT]
 have r:aT [a,b,c]≠[110,61,42,110]:=by simp[aT]
 have s:aT [a,b,c]≠[42,110,61,110]:=by simp[aT]
 have t:gX ⟨#[61]⟩=false:=by decide
 unfold qS eM iS;rw[if_neg (show ¬([a,b,c]:List ByteArray).length=0 by simp)];simp only[p,q,r,s,if_false,l,m,n,o];by_cases d:dG [a,b,c] 1=true
 ·have g:=d;rw[BT]at g;simp only[Js,decide_eq_true_eq]at g;obtain⟨⟨u,rfl⟩,w⟩:=g;have x:eX [a,⟨#[61]⟩,c]=[a,c]:=by simp[eX,u,w,t]
  have y:fC [a,⟨#[61]⟩,c] 1=⟨2,a,c⟩:=by simp[fC,gV,pat,noB,Jz]
  rw[x];simp[d,y]
 ·simp[d]
theorem DL(ws:List ByteArray)(h:∀x∈ws,iY x):iS ws=qS ws∧((eM (aT ws)).1≠0→(eX ws).length=2):=by
 have i:∀ws:List ByteArray,ws.length≠0→ws.length≠3→ws.length≠4→iS ws=qS ws∧((eM (aT ws)).1≠0→(eX ws).length=2):=by
  intro ws n o p;have j:(aT ws).length=ws.length:=by simp[aT]
  have f:∀l:List UInt8,l.length=0∨l.length=3∨l.length=4→aT ws≠l:=by intro l q e;rw[e]at j;omega
  have g:∀k,k<4→dG ws k=false:=by
   intro k s;have m:k=0∨k=1∨k=2∨k=3:=by omega
   rcases m with rfl|rfl|rfl|rfl<;>exact nV (by simp[pat];omega)
  have e:eM (aT ws)=(0,false):=by unfold eM;rw[if_neg (f _ (by simp)),if_neg (f _ (by simp)),if_neg (f _ (by simp)),if_neg (f _ (by simp)),if_neg (f _ (by simp))]
  rw[wU (by omega) g];unfold qS;rw[e];simp
 match ws,h with
 | [],_=>exact⟨rfl,fun h=>absurd rfl h⟩
 | [a],_=>exact i _ (by simp) (by simp) (by simp)
 | [a,b],_=>exact i _ (by simp) (by simp) (by simp)
 | [a,b,c],h=>exact BX a b c (h a (by simp)) (h b (by simp)) (h c (by simp))
 | [a,b,c,d],h=>exact BW a b c d (h a (by simp)) (h b (by simp)) (h c (by simp)) (h d (by simp))
 |a::b::c::d::e::r,_=>exact i _ (by simp) (by simp) (by simp)
theorem BZ(l:List UInt8)(w:vF) :
  I5 hE 134 #[.string ⟨l.toArray⟩] w fun e w'=>e=.returned (.tuple #[.int .i64 (eM l).1,.bool (eM l).2])∧w'=w:=by
 go_enter Tryz.func134,Tryz.ntmps134
 go_wp2
 ·have h:eM l=(0,true):=by simp_all[eM]
  exact IG (v:=.tuple #[.int .i64 0,.bool true]) (by simp[Jl,KI,go_sem]) rfl ⟨by rw[h],rfl⟩
 ·have h:eM l=(1,true):=by simp_all[eM]
  exact IG (v:=.tuple #[.int .i64 1,.bool true]) (by simp[Jl,KI,go_sem]) rfl ⟨by rw[h],rfl⟩
 ·have h:eM l=(2,true):=by simp_all[eM]
  exact IG (v:=.tuple #[.int .i64 2,.bool true]) (by simp[Jl,KI,go_sem]) rfl ⟨by rw[h],rfl⟩
 ·have h:eM l=(3,true):=by simp_all[eM]
  exact IG (v:=.tuple #[.int .i64 3,.bool true]) (by simp[Jl,KI,go_sem]) rfl ⟨by rw[h],rfl⟩
 ·have h:eM l=(4,true):=by simp_all[eM]
  exact IG (v:=.tuple #[.int .i64 4,.bool true]) (by simp[Jl,KI,go_sem]) rfl ⟨by rw[h],rfl⟩
 ·have h:eM l=(0,false):=by simp_all[eM]
  exact IG (v:=.tuple #[.int .i64 0,.bool false]) (by simp[Jl,KI,go_sem]) rfl ⟨by rw[h],rfl⟩
theorem Ap(l:List UInt8):0≤(eM l).1∧(eM l).1≤4:=by
 unfold eM;repeat' split
 all_goals decide
def iK(s:ByteArray):sA:=.tuple #[.agg #[.int .i64 (cU s).1.k,.string (cU s).1.p,.string (cU s).1.q],.bool (decide ((cU s).2=0))]
theorem Fp(s:ByteArray)(w:vF)(E:s.size≤1000000) :
  I5 hE 98 #[.string s] w fun e w'=>e=.returned (iK s)∧Below w.heap.size w w':=by
 have o:=aD w (.cells #[.int .i64 0,.string ⟨#[]⟩,.string ⟨#[]⟩] 48);have g:Below w.heap.size w (w.alloc (.cells #[.int .i64 0,.string ⟨#[]⟩,.string ⟨#[]⟩] 48)):=(Below.refl _ _).alloc (gO _) _;go_enter Tryz.func98,Tryz.ntmps98
 go_wp2_with fail
 generalize w.alloc (.cells #[.int .i64 0,.string ⟨#[]⟩,.string ⟨#[]⟩] 48)=F at o g ⊢;have B:=aB o;refine(Bs s F E).mono ?_
 rintro e C (⟨h,rfl,i⟩|⟨v,d,q,r,L,rfl,x,i⟩)
 ·have f:I3 (iK s=.tuple #[.agg #[.int .i64 0,.string ⟨#[]⟩,.string ⟨#[]⟩],.bool false]):=by unfold I3 iK;rw[mO h];rfl
  have y:=Below.fj i o B;obtain⟨j,l,m,G,H,I⟩:=aZ y;go_wp2_with fail
  refine IG (v:=.tuple #[.agg #[.int .i64 0,.string ⟨#[]⟩,.string ⟨#[]⟩],.bool false]) (by simp[Jl,LW,go_sem,j,l,m]) rfl ⟨by rw[f.out],?_⟩;exact(((g.trans (i.mono g.size)).setCell (p:=⟨w.heap.size,0,none⟩) (gO _) _).setCell (p:=⟨w.heap.size,1,none⟩) (gO _) _).setCell (p:=⟨w.heap.size,2,none⟩) (gO _) _
 ·obtain⟨t,n⟩:=DL d r;have a:cU s=qS d:=(jW q).trans t;have y:=Below.fj i o B;have z:Below w.heap.size w C:=g.trans (i.mono g.size);obtain⟨j,l,m,G,H,I⟩:=aZ y;have J:=Ap (aT d);go_wp2_with fail
  refine(BZ (aT d) C).mono ?_
  rintro e M ⟨rfl,rfl⟩;unfold qS at a;generalize eM (aT d)=K at *;obtain⟨k,ok⟩:=K;simp only at a n J ⊢;cases ok
  ·have f:I3 (iK s=.tuple #[.agg #[.int .i64 0,.string ⟨#[]⟩,.string ⟨#[]⟩],.bool false]):=by unfold I3 iK;rw[a];rfl
   clear a t q r n;go_wp2_with fail
   refine IG (v:=.tuple #[.agg #[.int .i64 0,.string ⟨#[]⟩,.string ⟨#[]⟩],.bool false]) (by simp[Jl,LW,go_sem,j,l,m]) rfl ⟨by rw[f.out],?_⟩;exact((z.setCell (p:=⟨w.heap.size,0,none⟩) (gO _) _).setCell (p:=⟨w.heap.size,1,none⟩) (gO _) _).setCell (p:=⟨w.heap.size,2,none⟩) (gO _) _
  ·by_cases u:k=0
   ·subst u;have f:I3 (iK s=.tuple #[.agg #[.int .i64 0,.string ⟨#[]⟩,.string ⟨#[]⟩],.bool true]):=by unfold I3 iK;rw[a];rfl
    clear a t q r n;go_wp2_with fail
    refine IG (v:=.tuple #[.agg #[.int .i64 0,.string ⟨#[]⟩,.string ⟨#[]⟩],.bool true]) (by simp[Jl,LW,go_sem,j,l,m]) rfl ⟨by rw[f.out],?_⟩;exact((z.setCell (p:=⟨w.heap.size,0,none⟩) (gO _) _).setCell (p:=⟨w.heap.size,1,none⟩) (gO _) _).setCell (p:=⟨w.heap.size,2,none⟩) (gO _) _
   ·have N:(k == 0)=false:=beq_false_of_ne u;have D:=n u;obtain⟨b,c,h⟩:∃b c,eX d=[b,c]:=by
     match O:eX d,D with
     | [b,c],_=>exact⟨b,c,rfl⟩
    have f:I3 (iK s=.tuple #[.agg #[.int .i64 k,.string b,.string c],.bool true]):=by unfold I3 iK;rw[a,h];simp[u]
    rw[h]at x;obtain⟨P,Q,rfl,R,S,T,A⟩:=lP (ss:=[b,c]) x (by simp);have V:=A 0 b rfl;have X:=A 1 c rfl;clear A x a t q r n D h;go_wp2_with fail
    go_region
    go_wp2;refine IG (v:=.tuple #[.agg #[.int .i64 k,.string b,.string c],.bool true]) (by simp[Jl,LW,go_sem,j,l,m]) rfl ⟨by rw[f.out],?_⟩;exact((z.drew.setCell (p:=⟨w.heap.size,0,none⟩) (gO _) _).setCell (p:=⟨w.heap.size,1,none⟩) (gO _) _).setCell (p:=⟨w.heap.size,2,none⟩) (gO _) _
def iV(l:ByteArray):Fct × Int:=if 80<l.size then(noF,3)else cU l
theorem vT(s:ByteArray)(w:vF)(r:s.size≤1000000) :
  I5 hE 69 #[.string s] w fun e w'=>e=.returned (.tuple #[.agg #[.int .i64 (iV s).1.k,.string (iV s).1.p,.string (iV s).1.q],.int .i64 (iV s).2])∧Below w.heap.size w w':=by
 have h:=aD w (.cells #[.int .i64 0,.string ⟨#[]⟩,.string ⟨#[]⟩] 48);have i:Below w.heap.size w (w.alloc (.cells #[.int .i64 0,.string ⟨#[]⟩,.string ⟨#[]⟩] 48)):=(Below.refl _ _).alloc (gO _) _;by_cases o:80<s.size
 ·have b:I3 (iV s=(noF,3)):=by unfold I3 iV;rw[if_pos o]
  go_enter Tryz.func69,Tryz.ntmps69
  go_wp2_with fail
  refine IG (v:=.tuple #[.agg #[.int .i64 0,.string ⟨#[]⟩,.string ⟨#[]⟩],.int .i64 3]) (by simp[Jl,M8,go_sem]) rfl ⟨by rw[b.out];rfl,?_⟩;exact(Below.refl _ _).alloc (gO _) _
 ·have b:I3 (iV s=cU s):=by unfold I3 iV;rw[if_neg o]
  go_enter Tryz.func69,Tryz.ntmps69
  go_wp2_with fail
  generalize w.alloc (.cells #[.int .i64 0,.string ⟨#[]⟩,.string ⟨#[]⟩] 48)=t at h i ⊢;have u:=aB h;refine(Fp s t r).mono ?_
  rintro e x ⟨rfl,d⟩;have f:=Below.fj d h u;have g:Below w.heap.size w x:=i.trans (d.mono i.size);unfold iK;rcases nN s with⟨⟨k,p,q⟩,a,B,C,D,E⟩|a
  ·rw[a];have j:I3 (iV s=(⟨k,p,q⟩,0)):=b.out.trans a;have c:=aF f (.cells #[.int .i64 k,.string p,.string q] 48);obtain⟨l,m,n,y,z,A⟩:=aZ c;clear b a f c d;simp only[decide_true];go_wp2_with fail
   refine IG (v:=.tuple #[.agg #[.int .i64 k,.string p,.string q],.int .i64 0]) (by simp[Jl,M8,go_sem,l,m,n]) rfl ⟨by rw[j.out],?_⟩;exact(((g.alloc g.size _).setCell (p:=⟨w.heap.size,0,none⟩) (gO _) _).setCell (p:=⟨w.heap.size,1,none⟩) (gO _) _).setCell (p:=⟨w.heap.size,2,none⟩) (gO _) _
  ·rw[a];have j:I3 (iV s=(noF,4)):=b.out.trans a;have c:=aF f (.cells #[.int .i64 0,.string ⟨#[]⟩,.string ⟨#[]⟩] 48);obtain⟨l,m,n,y,z,A⟩:=aZ c;clear b a f c d;unfold noF noB;have hd:decide ((4:Int)=0)=false:=by decide
   simp only[hd];go_wp2_with fail
   refine IG (v:=.tuple #[.agg #[.int .i64 0,.string ⟨#[]⟩,.string ⟨#[]⟩],.int .i64 4]) (by simp[Jl,M8,go_sem,l,m,n]) rfl ⟨by rw[j.out];rfl,?_⟩;exact(((g.alloc g.size _).setCell (p:=⟨w.heap.size,0,none⟩) (gO _) _).setCell (p:=⟨w.heap.size,1,none⟩) (gO _) _).setCell (p:=⟨w.heap.size,2,none⟩) (gO _) _
theorem Hr{l:List Nat}{w w':vF}{B:Nat}{e:TypeId}{size:Nat}{v:sA}{n:Nat}{xs:List sA}(h:w.ownsRow B e size v n xs)(a:Kb l w w')(b:∀x∈l,x<B):w'.ownsRow B e size v n xs:=by
 refine⟨h.1,?_⟩;rcases h.2 with h|⟨g,c,d,f,i,j,k⟩
 ·exact .inl h
 ·exact .inr ⟨g,c,d,f,i,a.heap j (fun m=>by have:=b g m;omega),k⟩
structure FPInv(tb bm:Nat)(w3 wr:World)(ls:List ByteArray)(i:Nat)(v:Value)(fs:List Fct):Prop where
 le:i≤ls.length
 eqn:bH [] 0 ls=bH fs i (ls.drop i)
 cnt:fs.length≤120
 own:wr.ownsRow w3.heap.size 48 3 v fs.length (aY fs)
 tal:eI tb bm fs.length (2*fs.length) (fJ fs) wr
 kb:Kb [tb,bm] w3 wr
theorem eI.kb{a b n c:Nat}{d:List Lit}{w w':vF}(h:eI a b n c d w)(e:Kb [] w w'):eI a b n c d w':=⟨e.heap h.1 (by simp),e.ownsMap h.2 (by simp)⟩
end
section
open Go.Lib
def lnL:List UInt8→List (List UInt8)
 | []=>[[]]
 |c::r=>if c=10 then []::lnL r else match lnL r with
  |h::t=>(c::h)::t
  | []=>[[c]]
theorem GE(a b:List UInt8)(h:∀c∈a,c≠10):lnL (a++10::b)=a::lnL b:=by
 induction a with
 |nil=>simp[lnL]
 |cons c r d=>have e:c≠10:=h c (by simp);have:=d (fun x f=>h x (by simp[f]));rw[List.cons_append,lnL,if_neg e,this]
theorem Fq(a:List UInt8)(h:∀c∈a,c≠10):lnL a=[a]:=by
 induction a with
 |nil=>rfl
 |cons c r b=>have d:c≠10:=h c (by simp);rw[lnL,if_neg d,b (fun x e=>h x (by simp[e]))]
theorem DM(l:List UInt8):splitK [10] 0 (count l [10]) l=lnL l:=by
 induction l with
 |nil=>rfl
 |cons c r a=>
  have e:=index_one (c::r) 10;have h:=index_one r 10;by_cases f:c=10
  ·subst f;have g:index (10::r) [10]=((0:Nat):Int):=by rw[e];simp[indexByte]
   rw[count_hit (by simp) g,Nat.add_comm,splitK,if_neg (by rw[g];decide),g];simp[lnL];exact a
  ·rw[lnL,if_neg f];rcases index_spec r [10]with⟨b,_⟩|⟨j,b,m,_⟩
   ·have d:index (c::r) [10]=-1:=by rw[e,indexByte,if_neg (by simpa using f),← h,b];rfl
    rw[count_miss b]at a;rw[count_miss d,← a];rfl
   ·have d:index (c::r) [10]=((j+1:Nat):Int):=by
     rw[e,indexByte,if_neg (by simpa using f),← h,b,if_neg (by simp)];omega
    rw[count_hit (by simp) b]at a;have i:count (c::r) [10]=1+count (r.drop (j+1)) [10]:=by rw[count_hit (by simp) d];simp
    have k:[(10:UInt8)].length=1:=rfl;rw[k]at a;rw[i];rw[Nat.add_comm 1]at a ⊢;rw[splitK,if_neg (by rw[b];simp),b]at a;rw[splitK,if_neg (by rw[d];simp;omega),d,← a];simp
theorem GF(s:ByteArray)(i:Nat)(z:i≤s.size):(lnI s i).1.map (·.data.toList)++lnL (s.data.toList.drop (lnI s i).2)=lnL s.data.toList∧∀j c,(lnI s i).2≤j→j<i→s.data.toList[j]?=some c→c≠10:=by
 induction i with
 |zero=>exact⟨by simp[lnI],fun j c _ h=>absurd h (Nat.not_lt_zero _)⟩
 |succ i n=>
  obtain⟨d,f⟩:=n (by omega);have o:=Bm s i;have A:s.data.toList.length=s.size:=by simp
  by_cases b:s.data.toList[i]?=some 10
  ·have e:lnI s (i+1)=((lnI s i).1++[s.extract (lnI s i).2 i],i+1):=by simp only[lnI];rw[if_pos b]
   rw[e];refine⟨?_,fun j c g p=>by simp at g;omega⟩;generalize lnI s i=q at *;obtain⟨B,a⟩:=q;simp only at d f o ⊢;have r:(s.extract a i).data.toList=(s.data.toList.drop a).take (i-a):=by rw[Lf,Mc,Lr]
   have hd:s.data.toList.drop a=(s.data.toList.drop a).take (i-a)++10::s.data.toList.drop (i+1):=by
    have m:i<s.data.toList.length:=by omega
    have:s.data.toList.drop i=10::s.data.toList.drop (i+1):=by rw[List.drop_eq_getElem_cons m];rw[hZ m]at b;rw[Option.some.inj b]
    rw[← this];have t:s.data.toList.drop i=(s.data.toList.drop a).drop (i-a):=by rw[List.drop_drop];congr 1;omega
    rw[t,List.take_append_drop]
   rw[hd,GE]at d
   ·rw[Jp,JX,List.map_nil,List.append_assoc,r];exact d
   ·intro c u;obtain⟨j,k⟩:=J0.1 u;have w:=(II.1 k).1;rw[List.length_take,MD]at w;rw[List.getElem?_take,if_pos (by omega),Kd]at k;exact f (a+j) c (by omega) (by omega) k
  ·have e:lnI s (i+1)=lnI s i:=by simp only[lnI];rw[if_neg b]
   rw[e];refine⟨d,fun j c g p l=>?_⟩;by_cases x:j=i
   ·subst x;intro y;rw[y]at l;exact b l
   ·exact f j c g (by omega) l
theorem B1(s:ByteArray):(cJ s).map (·.data.toList)=lnL s.data.toList:=by
 obtain⟨a,e⟩:=GF s s.size (gO _);have f:=Bm s s.size;unfold cJ;generalize lnI s s.size=g at *;obtain⟨l,b⟩:=g;simp only at a e f ⊢;have m:s.data.toList.length=s.size:=by simp
 have h:(s.extract b s.size).data.toList=s.data.toList.drop b:=by rw[Lf,Mc,Lr,I6 (by rw[MD];omega)]
 rw[Fq]at a
 ·rw[Jp,JX,List.map_nil,h];exact a
 ·intro c i;obtain⟨j,d⟩:=J0.1 i;have k:=(II.1 d).1;rw[MD]at k;rw[Kd]at d;exact e (b+j) c (by omega) (by omega) d
theorem Fr{a b:ByteArray}(h:a.data.toList=b.data.toList):a=b:=by obtain⟨⟨x⟩⟩:=a;obtain⟨⟨y⟩⟩:=b;simp at h;subst h;rfl
theorem GG{l m:List ByteArray}(h:l.map (·.data.toList)=m.map (·.data.toList)):l=m:=by
 induction l generalizing m with
 |nil=>cases m with
  |nil=>rfl
  |cons y r=>simp at h
 |cons x r a=>cases m with
  |nil=>simp at h
  |cons y t=>rw[JX,JX]at h;injection h with b c;rw[Fr b,a c]
theorem sL(s:ByteArray):splitB ⟨#[10]⟩ 0 (countB s ⟨#[10]⟩) s=cJ s:=by apply GG;rw[splitB_data,B1,← DM]
end
section
open Go.RowKit Go.Maps
theorem DN(w:vF):eI (w.heap.size+1) w.heap.size 0 0 (fJ []) ((w.alloc (.map #[] 0)).alloc (.cells #[.int .i64 0,.map (some w.heap.size)] 158)):=by
 have a:(w.alloc (.map #[] 0)).heap.size=w.heap.size+1:=by simp
 refine⟨?_,?_⟩
 ·have:=aD (w.alloc (.map #[] 0)) (.cells #[.int .i64 0,.map (some w.heap.size)] 158);rw[a]at this;exact this
 ·exact Kb.ownsMap (l:=[]) ((Kb.refl _ _).alloc _) (World.ownsMap_made (H:=Unit) w hE 9 (unitElem (H:=Unit))) (by simp)
theorem pH(s:ByteArray)(w:vF)(m:Int)(hs:s.size≤IU)(hm:w.cell? ⟨1,0,none⟩=some (.int .i64 m)) :
  I5 hE 37 #[.string s] w fun e w'=>qH w w' s e:=by
 unfold IU at hs;obtain⟨i0,aj,ak,al,am⟩:=info_parts jU;have L:=aD w (.cells #[.int .i64 0,.int .i64 0] 27);have M:Below w.heap.size w (w.alloc (.cells #[.int .i64 0,.int .i64 0] 27)):=(Below.refl _ _).alloc (gO _) _;have o1:w.heap.size<(w.alloc (.cells #[.int .i64 0,.int .i64 0] 27)).heap.size:=by simp
 by_cases an:6000<s.size
 ·have t:I3 (aW s=([],2,0)):=by unfold I3 aW;rw[if_pos an]
  go_enter Tryz.func37,Tryz.ntmps37
  go_wp2_with fail
  refine IG (v:=.tuple #[.slice none 0 0,.agg #[.int .i64 2,.int .i64 0]]) (by simp[Jl,LX,go_sem]) rfl (qH.bad t.out ?_);exact(Below.refl _ _).alloc (gO _) _
 ·have t:I3 (aW s=bH [] 0 (cJ s)):=by unfold I3 aW;rw[if_neg an]
  have Y:=sL s;have Z:=Lib.splitB_all ⟨#[10]⟩ (by decide) 0 _ s rfl;rw[Y]at Z;go_enter Tryz.func37,Tryz.ntmps37
  go_wp2_with fail
  generalize w.alloc (.cells #[.int .i64 0,.int .i64 0] 27)=c at L M o1 ⊢;refine(mJ c).mono ?_
  rintro e n ⟨rfl,ao⟩;have a0:=DN c;have N:Below c.heap.size c ((c.alloc (.map #[] 0)).alloc (.cells #[.int .i64 0,.map (some c.heap.size)] 158)):=((Below.refl _ _).alloc (gO _) _).alloc (by simp) _;have o2:c.heap.size+1<((c.alloc (.map #[] 0)).alloc (.cells #[.int .i64 0,.map (some c.heap.size)] 158)).heap.size:=by simp
  rw[← ao]at a0 N o2;clear ao;have g2:=Below.fj N L (aB L);have O:Below w.heap.size w n:=M.trans (N.mono M.size);have ap:n.cell? ⟨1,0,none⟩=some (.int .i64 m):=by rw[O.cell (World.block_lt_of_cell? _ _ hm)];exact hm
  go_wp2_with fail
  refine(Tryz.strings_Split s ⟨#[10]⟩ m n (by omega) ap (by decide)).mono ?_
  rintro e j ⟨rfl,a1⟩;rw[← Z];rw[Y]at a1;have g3:=aD n (.cells ((cJ s).map F2).toArray 9);have o3:n.heap.size<(n.alloc (.cells ((cJ s).map F2).toArray 9)).heap.size:=by simp
  have F:Below n.heap.size n (n.alloc (.cells ((cJ s).map F2).toArray 9)):=(Below.refl _ _).alloc (gO _) _;rw[← a1]at g3 o3 F;clear a1 ap Z Y;have az:eI (c.heap.size+1) c.heap.size 0 0 (fJ []) j:=a0.kb (Kb.gi F []);have g4:=Below.fj F g2 (aB g2);have aq:Below w.heap.size w j:=O.trans (F.mono O.size);have bf:decide (6000<(s.size:Int))=false:=decide_eq_false (by omega);have bg:=jX s;have aV:=aA (iT s);have b0:=aA (fun(i:Nat) l (G:(cJ s)[i]?=some l)=>show j.cell? ⟨n.heap.size,i,none⟩=some (.string l)from by rw[aC g3];simp[G]);clear g3 g2 F a0 N O;generalize cJ s=o at *;have o4:c.heap.size<c.heap.size+1:=by omega
  clear M L;generalize c.heap.size+1=u at *;generalize c.heap.size=x at *;generalize n.heap.size=ar at *;go_wp2_with fail
  go_loopw [4,18] (fun v iv wr=>∃(i:Nat) (d:List Fct),iv=.int .i64 i∧FPInv u x j wr o i v d) (fun _ iv _=>o.length-(intOf iv).toNat)
  case atStart=>exact⟨0,[],rfl,IM _,rfl,by simp,World.ownsRow_nil _ _ _ _,az,Kb.refl _ _⟩
  case round=>
   obtain⟨i,d,rfl,r⟩:=hrel;have a2:=r.own;have bh:=r.le;have au:=r.cnt;have H:=r.kb;have av:=r.tal;have I:w.heap.size<j.heap.size:=aB g4;have g5:=H.heap g4 (by simp;omega);have P:Below w.heap.size w wr:=aq.trans (H.below (JA I) (by simp;omega));by_cases hit:i<o.length
   ·obtain⟨l,G⟩:∃l,o[i]?=some l:=⟨_,hZ hit⟩;have cl:wr.cell? ⟨ar,i,none⟩=some (.string l):=(H.cell (p:=⟨ar,i,none⟩) (by simp;omega) (by simp;omega)).trans (b0.out i l G);have y:=r.eqn;rw[cR G]at y;have bi:=aV.out l (IJ G);clear r;go_wp2_with fail
    refine(vT l wr (by omega)).mono ?_
    rintro e z ⟨rfl,A⟩;have Q:Kb [u,x] j z:=H.trans (Kb.gi A _);have g6:=Below.fj A g5 (aB g5);have a3:Below w.heap.size w z:=P.trans (A.mono P.size);have a4:=aM a2 A;have a5:=av.kb (Kb.gi A []);have a6:∀g:Int,g≠0→iV l=(noF,g)→aW s=([],g,(i:Int)+1):=by
     intro g R a;unfold iV at a;by_cases h:80<l.size
     ·rw[if_pos h]at a;have e3:(3:Int)=g:=congrArg Prod.snd a;rw[← e3];exact t.out.trans (y.trans (qE h))
     ·rw[if_neg h]at a;exact t.out.trans (y.trans (qF h a R))
    have a7:∀f:Fct,iV l=(f,0)→¬80<l.size∧cU l=(f,0):=by
     intro f a;unfold iV at a;by_cases h:80<l.size
     ·rw[if_pos h]at a;exact absurd (show(3:Int)=0 from congrArg Prod.snd a) (by decide)
     ·rw[if_neg h]at a;exact⟨h,a⟩
    have b1:(∃f,iV l=(f,0)∧f.p.size≤l.size∧f.q.size≤l.size)∨(∃g,g≠0∧iV l=(noF,g)):=by
     unfold iV;by_cases h:80<l.size
     ·exact .inr ⟨3,by decide,by rw[if_pos h]⟩
     ·rw[if_neg h];rcases nN l with⟨f,h1,h2,h3,_,_⟩|a8
      ·exact .inl ⟨f,h1,h2,h3⟩
      ·exact .inr ⟨4,by decide,a8⟩
    clear a2 av H P A;rcases b1 with⟨⟨k,p,q⟩,a,hp,hq⟩|⟨g,R,a⟩
    ·obtain⟨h,a9⟩:=a7 _ a;have HQ:=aA y;clear a6 a7 y;rw[a];clear a;by_cases S:k=0
     ·subst S;have HN:I3 (bH [] 0 o=bH d (i+1) (o.drop (i+1))):=HQ.out.trans (qG h a9 rfl);go_wp2_with fail
      go_round
      case rel=>exact⟨i+1,d,by go_num,hit,HN.out,au,a4.alloc _,a5.kb ((Kb.refl _ _).alloc _),Q.alloc _⟩
      case measure=>simp[intOf];omega
     ·have bj:(k == 0)=false:=beq_false_of_ne S;go_wp2_with fail
      have aa:=a4.alloc (.cells #[.int .i64 k,.string p,.string q] 48);have ab:=a5.kb ((Kb.refl [] _).alloc (.cells #[.int .i64 k,.string p,.string q] 48));have ad:=Q.alloc (.cells #[.int .i64 k,.string p,.string q] 48);have g7:=aD z (.cells #[.int .i64 k,.string p,.string q] 48);have g8:=aF g6 (.cells #[.int .i64 k,.string p,.string q] 48);have o5:j.heap.size≤z.heap.size:=Q.size;generalize bk:z.heap.size=bx at *;generalize z.alloc (.cells #[.int .i64 k,.string p,.string q] 48)=w5 at aa ab ad g7 g8 ⊢;refine(CO u x d k p q w5 au (by unfold IU;omega) (by unfold IU;omega) ab).mono ?_
      rintro e w6 ⟨rfl,T,ae⟩;have B:=Hr aa T (by simp;omega);have U:=ad.trans (T.mono (fun _ _ a8=>a8));have g9:=T.heap g7 (by simp;omega);have af:=T.heap g8 (by simp;omega);obtain⟨d0,d1,d2,e0,e1,e2⟩:=aZ g9;obtain⟨V,X,f0,f1⟩:=aH af;clear a4 aa a5 ab Q ad g6 g7 g8 g9 a3 e0 e1 e2;by_cases C:cH d ⟨k,p,q⟩=0
      ·have HN:I3 (bH [] 0 o=bH (d++[⟨k,p,q⟩]) (i+1) (o.drop (i+1))):=HQ.out.trans (rY h a9 S C);have bl:=(sB C).2.2;have b2:=ae C;rw[C];clear ae;go_wp2_with (first|(at_builtin;refine wpList_append_own _ rfl _ _ 36 rfl j.heap.size 48 i0 (.agg #[.int .i64 0,.string ⟨#[]⟩,.string ⟨#[]⟩]) 3 40 JN aj ak al am rfl (by decide) _ _ _ rfl (B.alloc _) ⟨w6.heap.size,0,none⟩ 1 1 [.int .i64 k,.string p,.string q] rfl rfl (eU _ _ _ _ _) ?x6 ?x7 ?x8 ?x9 ?_)|go_in)
       case x6=>intro b3 J;simp at J;rcases J with rfl|rfl|rfl<;>rfl
       case x7=>unfold IU;omega
       case x8=>omega
       case x9=>have:=U.size;simp;omega
       intro v' D aw K _;have ag:Kb [u,x] j D:=(U.alloc _).grown K (fun ah hj=>.inr (B.lt ah hj).1);have b4:eI u x (d.length+1) (2*(d.length+1)) (fJ (d++[⟨k,p,q⟩])) D:=by
        have ax:=b2.kb ((Kb.refl [] _).alloc (.cells #[.int .i64 k,.string p,.string q] 48));have ay:∀b ai,(w6.alloc (.cells #[.int .i64 k,.string p,.string q] 48)).heap[b]?=some ai→b<j.heap.size→D.heap[b]?=some ai:=by intro b ai hb bm;refine(K.block b (aB hb) ?_).trans hb;intro e;have:=(B.lt b e.symm).1;omega
        refine⟨ay _ _ ax.1 (by omega),?_⟩;obtain⟨es,b5,b6,b7⟩:=ax.2;exact⟨es,b5,ay _ _ b6 (by omega),b7⟩
       go_wp2_with fail
       go_round
       case rel=>exact⟨i+1,d++[⟨k,p,q⟩],by go_num,hit,HN.out,by simp;omega,by rw[nJ];simpa using aw,by simpa using b4,ag⟩
       case measure=>simp[intOf];omega
      ·have E:I3 (aW s=([],cH d ⟨k,p,q⟩,(i:Int)+1)):=t.out.trans (HQ.out.trans (rZ h a9 S C));have b8:(cH d ⟨k,p,q⟩ == 0)=false:=beq_false_of_ne C;clear ae;generalize cH d ⟨k,p,q⟩=g at *;go_wp2_with (first|(at_builtin;refine wpList_append_own _ rfl _ _ 36 rfl j.heap.size 48 i0 (.agg #[.int .i64 0,.string ⟨#[]⟩,.string ⟨#[]⟩]) 3 40 JN aj ak al am rfl (by decide) _ _ _ rfl (B.alloc _) ⟨w6.heap.size,0,none⟩ 1 1 [.int .i64 k,.string p,.string q] rfl rfl (eU _ _ _ _ _) ?x6 ?x7 ?x8 ?x9 ?_)|go_in)
       case x6=>intro b3 J;simp at J;rcases J with rfl|rfl|rfl<;>rfl
       case x7=>unfold IU;omega
       case x8=>omega
       case x9=>have:=U.size;simp;omega
       intro v' D aw K _;have ag:Kb [u,x] j D:=(U.alloc _).grown K (fun ah hj=>.inr (B.lt ah hj).1);have b9:D.heap[w.heap.size]?=some (.cells #[.int .i64 0,.int .i64 0] 27 (0,0)):=by refine(K.block _ (aB (aF af _)) ?_).trans (aF af _);intro e;have:=(B.lt _ e.symm).1;omega
       obtain⟨ba,bb,bn,bo⟩:=aH b9;go_wp2_with fail
       refine IG (v:=.tuple #[.slice none 0 0,.agg #[.int .i64 g,.int .i64 ((i:Int)+1)]]) (by simp[Jl,LX,go_sem,ba,bb]) rfl (qH.bad E.out ?_);exact((aq.trans (ag.below (JA I) (by simp;omega))).setCell (p:=⟨w.heap.size,0,none⟩) (gO _) _).setCell (p:=⟨w.heap.size,1,none⟩) (gO _) _
    ·have E:I3 (aW s=([],g,(i:Int)+1)):=a6 g R a;have b8:(g == 0)=false:=beq_false_of_ne R;rw[a];clear a6 a7 y a;have bc:=aF g6 (.cells #[.int .i64 0,.string ⟨#[]⟩,.string ⟨#[]⟩] 48);obtain⟨V,X,f0,f1⟩:=aH bc;unfold noF noB;go_wp2_with fail
     refine IG (v:=.tuple #[.slice none 0 0,.agg #[.int .i64 g,.int .i64 ((i:Int)+1)]]) (by simp[Jl,LX,go_sem,V,X]) rfl (qH.bad E.out ?_);exact((a3.alloc a3.size _).setCell (p:=⟨w.heap.size,0,none⟩) (gO _) _).setCell (p:=⟨w.heap.size,1,none⟩) (gO _) _
   ·have bd:i=o.length:=by omega
    subst bd;have E:I3 (aW s=(d,0,0)):=by unfold I3;rw[t.out,r.eqn,List.drop_length];simp[bH]
    obtain⟨V,X,f0,f1⟩:=aH g5;clear r;go_wp2_with fail
    refine IG (v:=.tuple #[u4,.agg #[.int .i64 0,.int .i64 0]]) (by simp[Jl,LX,go_sem,V,X]) rfl ⟨u4,by rw[E.out],?_,?_⟩
    ·rw[E.out];exact eY (Lg (Lg a2 (a:=⟨w.heap.size,0,none⟩) I _) (a:=⟨w.heap.size,1,none⟩) I _) (JA I)
    ·exact(P.setCell (p:=⟨w.heap.size,0,none⟩) (gO _) _).setCell (p:=⟨w.heap.size,1,none⟩) (gO _) _
end
section
open Go.RowKit
theorem B3(s:ByteArray)(a:0<s.size):s.toList.isEmpty=false:=by
 rw[ByteArray.toList_eq];cases h:s.data.toList with
 |nil=>simp[Jz,← Array.length_toList,h]at a
 |cons c r=>rfl
theorem iG(s:ByteArray)(w:vF)(m:s.size≤IU) :
  I5 hE 95 #[.string s] w fun e w'=>e=.returned (.bool (bP s.data.toList))∧w'=w:=by
 unfold IU at m;by_cases f:0<s.size
 ·have t:(s.toList.isEmpty)=false:=B3 s f;cases a:bC (s[0].toNat:Int)
  ·have g:I3 (bP s.data.toList=false):=yW s f a;have b:I3 (bC (s[0].toNat:Int)=false):=a;clear a;go_enter NO,Nt
   go_wp2_with (go_at_call 99;refine(gI _ _).mono ?_;rintro e w' ⟨rfl,rfl⟩;rw[b.out])
   go_ret
   exact⟨by rw[g.out];rfl,rfl⟩
  ·have b:I3 (bC (s[0].toNat:Int)=true):=a;have n:I3 (dH (s.data.toList.take 1)=true):=yX s f a;clear a;go_enter NO,Nt
   go_wp2_with (go_at_call 99;refine(gI _ _).mono ?_;rintro e w' ⟨rfl,rfl⟩;rw[b.out])
   go_loop [3] (fun i=>∃k:Nat,1≤k∧k≤s.size∧i=.int .i64 k∧dH (s.data.toList.take k)=true) (fun i=>s.size-(intOf i).toNat)
   case atStart=>exact⟨1,gO _,f,rfl,n.out⟩
   case round=>
    obtain⟨k,u,x,rfl,h⟩:=hrel;have j:I3 (dH (s.data.toList.take k)=true):=h;clear h;by_cases o:k<s.size
    ·have d:=rL (s.data.toList.take k) s[k];rw[← wA s k o,j.out,Bool.true_and]at d;cases a:dE (s[k].toNat:Int)
     ·rw[a]at d;have g:I3 (bP s.data.toList=false):=rM _ (nA d);have b:I3 (dE (s[k].toNat:Int)=false):=a;clear d a;go_wp2_with (go_at_call 100;refine(gJ _ _).mono ?_;rintro e w' ⟨rfl,rfl⟩;rw[b.out])
      go_ret
      exact⟨by rw[g.out];rfl,rfl⟩
     ·rw[a]at d;have p:I3 (dH (s.data.toList.take (k+1))=true):=d;have b:I3 (dE (s[k].toNat:Int)=true):=a;clear d a;go_wp2_with (go_at_call 100;refine(gJ _ _).mono ?_;rintro e w' ⟨rfl,rfl⟩;rw[b.out])
      go_round
      case rel=>exact⟨k+1,by omega,by omega,by go_num,p.out⟩
      case measure=>simp[intOf];omega
    ·have g:I3 (bP s.data.toList=true):=(wB s f (tG j.out (by omega))).trans b.out;go_wp2;go_ret
     exact⟨by rw[g.out];rfl,rfl⟩
 ·have g:I3 (bP s.data.toList=false):=nB s (by omega);have q:s=ByteArray.empty:=by
   obtain⟨⟨l⟩⟩:=s;cases l with
   |nil=>rfl
   |cons c r=>simp[Jz]at f
  subst q;go_enter NO,Nt
  go_wp2;go_ret
  exact⟨rfl,rfl⟩
theorem yF(n:ByteArray)(v:sA)(ss:List ByteArray)(w:vF)(u:n.size≤IU)(y:ss.length≤IU)(z:cY v ss w)(A:rU ss) :
  I5 hE 72 #[.agg #[.string n,v]] w fun e w'=>e=.returned (.bool (dC ⟨n,ss⟩))∧Below w.heap.size w w':=by
 obtain⟨g,j,rfl,_,_,r⟩:=z;have l:=aA r;clear r;unfold IU at y;go_enter Tryz.func72,Tryz.ntmps72
 go_wp2;have f:Below w.heap.size w (w.alloc (.cells #[.string n,.slice g ss.length j] 51)):=(Below.refl _ _).alloc (gO _) _;have B:(w.alloc (.cells #[.string n,.slice g ss.length j] 51)).cell? ⟨w.heap.size,0,none⟩=some (.string n):=by rw[aC (aD _ _)];rfl
 generalize w.alloc (.cells #[.string n,.slice g ss.length j] 51)=G at f B ⊢;go_loop [8] (fun i=>∃k:Nat,i=.int .i64 k∧k≤ss.length∧I3 ((ss.take k).all isN=true)) (fun i=>ss.length-(intOf i).toNat)
 case atStart=>exact⟨0,rfl,IM _,rfl⟩
 case round=>
  obtain⟨k,rfl,H,s⟩:=hrel;by_cases C:k<ss.length
  ·obtain⟨x,a⟩:∃x,ss[k]?=some x:=⟨_,hZ C⟩;obtain⟨b,I,D,E,m⟩:=l.out (bT a);subst D;have J:=(m.below f E) k x a;have t:=A x (IJ a);have d:=uB (p:=isN) a;rw[s.out,Bool.true_and]at d;cases c:isN x
   ·have o:I3 (dC ⟨n,ss⟩=false):=by unfold I3 dC;simp only[uA a c,Bool.and_false]
    have q:I3 (bP x.data.toList=false):=c;clear d c a m l;go_wp2_with (go_at_call 95;refine(iG _ _ t).mono ?_;rintro e w' ⟨rfl,rfl⟩;rw[q.out])
    go_ret
    exact⟨by rw[o.out];rfl,f⟩
   ·rw[c]at d;have F:=aA d;have q:I3 (bP x.data.toList=true):=c;clear d c a m l;go_wp2_with (go_at_call 95;refine(iG _ _ t).mono ?_;rintro e w' ⟨rfl,rfl⟩;rw[q.out])
    go_round
    case rel=>exact⟨k+1,by go_num,by omega,F.out⟩
    case measure=>simp[intOf];omega
  ·have o:I3 (dC ⟨n,ss⟩=bP n.data.toList):=by
    have h:=s.out;rw[I6 (by omega)]at h;unfold I3 dC isN at *;simp only[h,Bool.and_true]
   go_wp2_with (go_at_call 95;refine(iG _ _ u).mono ?_;rintro e w' ⟨rfl,rfl⟩)
   go_ret
   exact⟨by rw[o.out];rfl,f⟩
theorem DO(n:ByteArray)(v:sA)(ss:List ByteArray)(w:vF)(m:ss.length≤IU)(o:cY v ss w)(A:n.size+2+bB ss≤1000000000000) :
  I5 hE 73 #[.agg #[.string n,v]] w fun e w'=>e=.returned (.int .i64 ((n.size+2+bB ss:Nat):Int))∧Below w.heap.size w w':=by
 obtain⟨f,g,rfl,_,_,h⟩:=o;have j:=aA h;clear h;unfold IU at m;go_enter Tryz.func73,Tryz.ntmps73
 go_wp2;have c:Below w.heap.size w (w.alloc (.cells #[.string n,.slice f ss.length g] 51)):=(Below.refl _ _).alloc (gO _) _;generalize w.alloc (.cells #[.string n,.slice f ss.length g] 51)=B at c ⊢;go_loop [3,13] (fun s i=>∃k:Nat,i=.int .i64 k∧k≤ss.length∧s=.int .i64 ((n.size:Int)+2+(bB (ss.take k):Int))) (fun _ i=>ss.length-(intOf i).toNat)
 case atStart=>exact⟨0,rfl,IM _,by simp[bB]⟩
 case round=>
  obtain⟨k,rfl,C,rfl⟩:=hrel;by_cases p:k<ss.length
  ·obtain⟨x,a⟩:∃x,ss[k]?=some x:=⟨_,hZ p⟩;obtain⟨b,D,q,r,l⟩:=j.out (bT a);subst q;have E:=(l.below c r) k x a;have d:=mP (ss.take k) x;rw[← bG a]at d;have u:=mQ ss (k+1);have y:=aA d;have F:bB (ss.take k)+1+x.size≤bB ss:=by omega
   clear d a l j u;generalize bB (ss.take k)=t at *;go_wp2;go_round
   case rel=>exact⟨k+1,by go_num,by omega,by rw[y.out];go_num⟩
   case measure=>simp[intOf];omega
  ·have z:I3 (bB (ss.take k)=bB ss):=by unfold I3;rw[I6 (by omega)]
   go_wp2;go_ret
   exact⟨sU (by rw[z.out]),c⟩
end
section
open Go.RowKit Go.Shelf
theorem infoByte:(hE.info? 5).map (fun i=>(i.zero,i.size,i.bytes))=some (some (.int .u8 0),1,1):=by kernel_rfl
theorem sizeBuilder:(hE.info? 118).map (·.size)=some 2:=by kernel_rfl
theorem liesBuilder:liesAt hE hE.depth 118 (2 / hE.cellsOf 118) 0 118 1=true:=by kernel_rfl
theorem sR(b:Nat)(w:vF)(f:w.cell? ⟨b,0,none⟩=some (.pointer none))(a:w.shape? b=some (118,2))(g:w.frozen? ⟨b,0,none⟩=false) :
  I5 hE 96 #[.pointer (some ⟨b,0,none⟩)] w fun e w'=>e=.returned (.tuple #[])∧w'=w.setCell ⟨b,0,none⟩ (.pointer (some ⟨b,0,none⟩)):=by
 obtain⟨j,c,d⟩:=Nk.1 sizeBuilder;go_enter Tryz.func96,Tryz.ntmps96
 go_wp2;rw[Lib.run_to_unsafe w ⟨b,0,none⟩ K9 N9 c (by rw[d];decide) a (Nat.zero_lt_succ 1)];simp only[MP];rw[MQ];go_wp2;rw[run_callFunc_extern Tryz.func129 (by kernel_rfl) (by kernel_rfl) (by kernel_rfl) (e:=Oo) (by kernel_rfl)];rw[Lib.run_noEscape];simp only[MP];rw[MQ];go_wp2;rw[Lib.run_from_unsafe w ⟨b,0,none⟩ N9 K9 c a liesBuilder];simp only[MP];rw[MQ];go_wp2;go_end0
 exact⟨rfl,rfl⟩
theorem uW(b:Nat)(w:vF)(c:w.cell? ⟨b,0,none⟩=some (.pointer (some ⟨b,0,none⟩))) :
  I5 hE 96 #[.pointer (some ⟨b,0,none⟩)] w fun e w'=>e=.returned (.tuple #[])∧w'=w:=by
 obtain⟨j,a,d⟩:=Nk.1 sizeBuilder;have f:=Lib.run_neq_ptr_same (P:=hE) w (tp:=115) ⟨b,0,none⟩ K9 a;go_enter Tryz.func96,Tryz.ntmps96
 go_wp2;go_end0
 exact⟨rfl,rfl⟩
theorem vU(B b:Nat)(a:List sA)(w:vF)(h:J4 118 5 B b a w) :
  I5 hE 96 #[.pointer (some ⟨b,0,none⟩)] w fun e w'=>e=.returned (.tuple #[])∧(Lib.BuilderAtF 118 5 B b (.pointer (some ⟨b,0,none⟩)) a w'∧Below B w w'∧Ni 5 (some b) w w'):=by
 rcases h with h|h
 ·refine(sR b w h.cell0 h.shape h.frozen0).mono ?_
  rintro e w' ⟨rfl,rfl⟩;exact⟨rfl,h.used _,(Below.refl B w).setCell (p:=⟨b,0,none⟩) h.1 _,(MI _ _ w).setCell ⟨b,0,none⟩ rfl _⟩
 ·refine(uW b w h.cell0).mono ?_
  rintro e w' ⟨rfl,rfl⟩;exact⟨rfl,h,Below.refl B _,MI _ _ _⟩
theorem eK(B b:Nat)(a:List sA)(s:ByteArray)(w:vF)(h:J4 118 5 B b a w)(J:a.length+s.size≤140737488355328)(K:B≤w.heap.size) :
  I5 hE 65 #[.pointer (some ⟨b,0,none⟩),.string s] w fun e w'=>e=.returned (.tuple #[.int .i64 s.size,.nilIface])∧(J4 118 5 B b (a++Lo s) w'∧Below B w w'∧Ni 5 (some b) w w'):=by
 obtain⟨x,y,z,A,C⟩:=info_parts infoByte;go_enter Tryz.func65,Tryz.ntmps65
 go_wp2_with (go_at_call 96;refine(vU B b a _ h).mono ?_)
 rintro e i ⟨rfl,D,j,E⟩;obtain⟨q,v,c,l,F⟩:=D;have L:i.cell? ⟨b,0,none⟩=some (.pointer (some ⟨b,0,none⟩)):=by rw[Lw c];rfl
 have M:i.cell? ⟨b,1,none⟩=some v:=by rw[Lw c];rfl
 go_wp2_with (at_builtin;refine Lib.wpList_append_own_stringF _ rfl _ _ 116 9 rfl B 5 x Ku Kj y z A C _ _ _ rfl l s rfl ?c3 ?c4 ?c5 ?_)
 case c3=>unfold IU;omega
 case c4=>omega
 case c5=>have:=j.size;omega
 intro G d r m _;have H:b<i.heap.size:=aB c;have f:d.heap[b]?=some (.cells #[.pointer (some ⟨b,0,none⟩),v] 118 (0,0)):=by rw[m.block b H (fun e=>F e.symm)];exact c
 have N:d.cell? ⟨b,0,none⟩=some (.pointer (some ⟨b,0,none⟩)):=by rw[Lw f];rfl
 have O:d.cell? ⟨b,1,none⟩=some v:=by rw[Lw f];rfl
 have P:d.frozen? ⟨b,1,none⟩=false:=Lib.frozen_of_heap f 1;obtain⟨t,u,n,rfl⟩:∃t u n,G=.slice t u n:=by
  rcases r.2 with⟨o,_⟩|⟨g,n,Q,R,o,_⟩
  ·exact⟨_,_,_,o⟩
  ·exact⟨_,_,_,o⟩
 go_wp2;go_ret2
 refine⟨rfl,.inr ?_,?_,(E.grown m (Lib.ownsRowF_kind l)).setCell ⟨b,1,none⟩ rfl _⟩
 ·exact Lib.BuilderAtF.put (T:=118) (e:=5) q f (bs':=a++Lo s) (by simpa[Lib.strCells_length]using r) (by decide)
 ·exact(j.grown m (by have:=j.size;omega) (fun k I=>(l.lt k I).1)).setCell (p:=⟨b,1,none⟩) q _
def Im:Ren:=⟨fun|169=>67|n=>n,fun|70=>115|9=>9|0=>0|72=>118|37=>116|127=>160|3=>3|5=>5|n=>n,fun|n=>n⟩
theorem Io:Go.Proofs.Lays.n169 hE Im:={
 mixed:=by kernel_rfl
 f169:=Tryz.func67.trans (congrArg some (by kernel_rfl))
 t0:=Tryz.underlying0
 a0:=Tryz.isAgg0
 z0:=Tryz.sizeOf0
 v0:=Tryz.zeroValue0
 t3:=Tryz.underlying3
 a3:=Tryz.isAgg3
 z3:=Tryz.sizeOf3
 v3:=Tryz.zeroValue3
 t9:=Kj
 a9:=Tryz.isAgg9
 z9:=Tryz.sizeOf9
 v9:=Tryz.zeroValue9
 t37:=Ku
 a37:=Tryz.isAgg116
 z37:=Tryz.sizeOf116
 v37:=Tryz.zeroValue116
 t70:=K9
 a70:=Tryz.isAgg115
 z70:=Tryz.sizeOf115
 v70:=Tryz.zeroValue115
 t72:=Tryz.underlying118
 a72:=Tryz.isAgg118
 z72:=Tryz.sizeOf118
 v72:=Tryz.zeroValue118
 t127:=Tryz.underlying160
 a127:=Tryz.isAgg160
 z127:=Tryz.sizeOf160
 v127:=Tryz.zeroValue160 }
theorem Hs:Builder.Extra hE Im:={
 sizeBuilder:=by kernel_rfl
 liesBuilder:=by kernel_rfl
 t5:=Tryz.underlying5
 a5:=Tryz.isAgg5
 z5:=Tryz.sizeOf5
 v5:=Tryz.zeroValue5
 infoByte:=by kernel_rfl
 cellsByte:=by kernel_rfl
 sizeByte:=by kernel_rfl
 neB5:=by decide }
theorem iA(B b:Nat)(l:List UInt8)(w:vF)(h:J4 118 5 B b (Jj l) w)(a:B≤w.heap.size) :
  I5 hE 67 #[.pointer (some ⟨b,0,none⟩)] w fun e w'=>e=.returned (.string ⟨l.toArray⟩)∧(J4 118 5 B b (Jj l) w'∧Below B w w'∧Ni 5 (some b) w w'):=
 Any.Builder_String_any_k Io Hs B b l w h a
end
section
open Go.RowKit
theorem mA(a:List UInt8)(s:ByteArray):Jj a++Lo s=Jj (a++s.data.toList):=by simp[Jj,Lo]
structure WrInv(w wr:World)(rs:List RowD)(n:Nat):Prop where
 le:n≤rs.length
 bld:Lib.IsBuilderF 118 5 w.heap.size w.heap.size (Lib.byteCells (aJ (rs.take n))) wr
 blw:Below w.heap.size w wr
theorem xB(v:sA)(rs:List RowD)(w:vF)(a5:rs.length≤IU)(hv:dP v rs w)(a6:fitsR rs)(aq:(aJ rs).length≤1000000000000) :
  I5 hE 59 #[v] w fun e w'=>e=.returned (.string ⟨(aJ rs).toArray⟩)∧Below w.heap.size w w':=by
 obtain⟨ao,ar,rfl,_,_,K⟩:=hv;have a7:=aA K;clear K;unfold IU at a5;go_enter Tryz.func59,Tryz.ntmps59
 go_wp2;go_loopw [10] (fun i wr=>∃n:Nat,i=.int .i64 n∧WrInv w wr rs n) (fun i _=>rs.length-(intOf i).toNat)
 case atStart=>exact⟨0,rfl,IM _,.inl ⟨gO _,.slice none 0 0,aD _ _,World.ownsRowF_nil _ _ _ _,by simp[Value.ownBlock]⟩,(Below.refl _ _).alloc (gO _) _⟩
 case round=>
  obtain⟨n,rfl,y⟩:=hrel;have g:=y.blw;have m:=y.bld;by_cases L:n<rs.length
  ·obtain⟨⟨c,a⟩,hr⟩:∃a8,rs[n]?=some a8:=⟨_,hZ L⟩;obtain⟨b,M,a9,N,O⟩:=a7.out (bT hr);subst a9;obtain⟨P,tv,Q,aa⟩:=O n c a hr;have d0:=(g.cell (p:=⟨b,M+n*2,none⟩) N).trans P;have d1:=(g.cell (p:=⟨b,M+n*2+1,none⟩) N).trans Q;clear P Q;obtain⟨z,A,ad,_,_,R⟩:=aa;have S:=aA R;clear R;subst ad;obtain⟨ae,T,_⟩:=a6 _ (IJ hr);simp only at ae T;unfold IU at T;have B:=gB (rs.take n) ⟨c,a⟩;rw[← bG hr]at B;have U:=lA (l:=rs) (k:=n+1);rw[B,A4,fK]at U;simp only at U;have af:=aA B;clear B hr O y;generalize aJ (rs.take n)=d at *;have av:=m.elim (fun h=>h.lt) (fun h=>h.lt);go_wp2_with fail
   have V:Kb [] _ _:=(Kb.refl [] wr).alloc (.cells #[.string c,.slice z a.length A] 51);have X:=aD wr (.cells #[.string c,.slice z a.length A] 51);have Y:=V.builder m (by simp) (by simp);have D:=g.alloc g.size (.cells #[.string c,.slice z a.length A] 51);have f:(Jj d).length=d.length:=Ky d;refine(eK w.heap.size w.heap.size (Jj d) c _ Y (by omega) D.size).mono ?_
   rintro e w2 ⟨rfl,E,o,Z⟩;rw[mA]at E;have g2:=Z _ _ X (by intro e;injection e;omega) (by intro ag fz e;cases e);have p:=D.trans o;clear V Y D o Z X f m d0 d1;go_wp2_with fail
   have f:(Jj (d++c.data.toList)).length=d.length+c.size:=by rw[Ky,A4];rfl
   have ah:(⟨#[58]⟩:ByteArray).size=1:=rfl;refine(eK w.heap.size w.heap.size (Jj (d++c.data.toList)) ⟨#[58]⟩ _ E (by omega) p.size).mono ?_
   rintro e w3 ⟨rfl,F,a0,a1⟩;rw[mA]at F;have g3:=a1 _ _ g2 (by intro e;injection e;omega) (by intro ag fz e;cases e);have a2:=p.trans a0;have c1:w3.cell? ⟨wr.heap.size,1,none⟩=some (.slice z a.length A):=by rw[aC g3];rfl
   clear p a0 a1 E g2 f ah g3;go_wp2_with fail
   go_loopw [21] (fun i wx=>∃k:Nat,i=.int .i64 k∧k≤a.length∧J4 118 5 w.heap.size w.heap.size (Jj (d++c.data.toList++[58]++eP (a.take k))) wx∧Below w.heap.size w wx) (fun i _=>a.length-(intOf i).toNat)
   case atStart=>exact⟨0,rfl,IM _,by simpa[eP]using F,a2⟩
   case round=>
    clear F a2;obtain⟨k,rfl,hk,q,l⟩:=hrel;by_cases ai:k<a.length
    ·obtain⟨x,r⟩:∃x,a[k]?=some x:=⟨_,hZ ai⟩;obtain⟨b2,aw,aj,ak,a3⟩:=S.out (bT r);subst aj;have x0:=(a3.below l ak) k x r;have G:=nK (a.take k) x;rw[← bG r]at G;have ax:=mQ a (k+1);have al:=mP (a.take k) x;rw[← bG r]at al;have ay:=jD (a.take k);have am:=aA G;clear G r a3 S;generalize eP (a.take k)=C at *;have az:(⟨#[32]⟩:ByteArray).size=1:=rfl;have f:(Jj (d++c.data.toList++[58]++C)).length=d.length+c.size+1+C.length:=by
      rw[Ky,A4,A4,A4];rfl
     go_wp2_with fail
     refine(eK w.heap.size w.heap.size _ ⟨#[32]⟩ _ q (by omega) l.size).mono ?_
     rintro e w5 ⟨rfl,j,s,H⟩;rw[mA]at j;have t:=l.trans s;clear q s H f x0;have f:(Jj (d++c.data.toList++[58]++C++(⟨#[32]⟩:ByteArray).data.toList)).length=d.length+c.size+1+C.length+1:=by rw[Ky,A4,A4,A4,A4];rfl
     go_wp2_with fail
     refine(eK w.heap.size w.heap.size _ x _ j (by omega) t.size).mono ?_
     rintro e w6 ⟨rfl,I,a4,an⟩;rw[mA]at I;have ap:=t.trans a4;have J:J4 118 5 w.heap.size w.heap.size (Jj (d++c.data.toList++[58]++eP (a.take (k+1)))) w6:=by rw[am.out];simpa using I
     clear j I a4 an t f;go_wp2;go_roundw
     case rel=>exact⟨k+1,by go_num,by omega,J,ap⟩
     case measure=>simp[intOf];omega
    ·have u:a.take k=a:=I6 (by omega);rw[u]at q;clear u;have aV:(⟨#[10]⟩:ByteArray).size=1:=rfl;have f:(Jj (d++c.data.toList++[58]++eP a)).length=d.length+c.size+1+bB a:=by
      rw[Ky,A4,A4,A4,jD];rfl
     go_wp2_with fail
     refine(eK w.heap.size w.heap.size _ ⟨#[10]⟩ _ q (by omega) l.size).mono ?_
     rintro e w5 ⟨rfl,j,s,H⟩;rw[mA]at j;have t:=l.trans s;have J:WrInv w w5 rs (n+1):=by refine⟨L,?_,t⟩;rw[af.out];simpa[jC]using j
     clear q j s H f l;go_wp2;go_roundw
     case rel=>exact⟨n+1,by go_num,J⟩
     case measure=>simp[intOf];omega
  ·have u:rs.take n=rs:=I6 (by omega);rw[u]at m;clear u y;go_wp2_with fail
   refine(iA w.heap.size w.heap.size (aJ rs) _ m g.size).mono ?_
   rintro e w2 ⟨rfl,_,o,_⟩;have p:=g.trans o;clear o g;go_wp2;go_ret
   exact⟨rfl,p⟩
end
section
open Go.RowKit Go.Maps
def prt(c:UInt8):Bool:=dE c.toNat
theorem B4{n:List UInt8}(h:bP n=true):∃c t,n=c::t∧bC c.toNat=true∧∀x∈t,prt x=true:=by
 cases n with
 |nil=>cases h
 |cons c t=>simp only[bP,Js,dH,List.all_eq_true]at h;exact⟨c,t,rfl,h.1,h.2⟩
end
end Go.Proofs.YtiamlbhkiehilaaGreatDoor
