import Derived.Test.YtiamlbhkiehilaaGreatDoorKa10
import Derived.Test.YtiamlbhkiehilaaGreatDoorKaSh
open Go renaming World→vF,wpList_append_own→Jg,maxLen→IU,bodyPost_ret→IG,results→Jl
open Go.Proofs.Tryz renaming prog→hE,underlying44→I7,results30→K8
open Go.RowKit renaming ownsRow_setCell_below→Lg
open Go.World renaming ownsRow_nil→JW
open List renaming mem_singleton→A1
open Nat renaming le_trans→IH,le_refl→gO,le_of_lt→JA
namespace Go.Proofs.YtiamlbhkiehilaaGreatDoor
set_option maxRecDepth 100000
set_option maxHeartbeats 2000000
section
open Go.RowKit Go.Maps
structure LInv(w wr:World)(s:ByteArray)(i:Nat)(v:Value)(out:List ByteArray)(fr:Nat):Prop where
 le:i≤s.size
 eqn:lnI s i=(out,fr)
 own:wr.ownsRow w.heap.size 9 1 v out.length (out.map Value.string)
 blw:Below w.heap.size w wr
theorem wW(s:ByteArray)(w:vF)(F:s.size≤1000000) :
  Calls hE 50 #[.string s] w fun e w'=>∃v,e=.returned v∧w'.ownsRow w.heap.size 9 1 v (cJ s).length ((cJ s).map Value.string)∧Below w.heap.size w w':=by
 obtain⟨x,y,z,A,B⟩:=info_parts iJ;go_enter Tryz.func50,Tryz.ntmps50
 go_wp2;go_loopw [3,4,5] (fun v f i wr=>∃m a c,i=.int .i64 (m:Nat)∧f=.int .i64 (a:Nat)∧LInv w wr s m v c a) (fun _ _ i _=>s.size-(intOf i).toNat)
 case atStart=>exact⟨0,0,[],rfl,rfl,Nat.zero_le _,rfl,JW _ _ _ _,Below.refl _ _⟩
 case round=>
  obtain⟨m,a,c,rfl,rfl,d⟩:=hrel;have b:=d.blw;have g:=d.own;have G:a≤m:=by have:=Bm s m;rw[d.eqn]at this;exact this
  have H:c.length≤m:=by have:=CR s m;rw[d.eqn]at this;exact this
  have I:=d.le;by_cases k:m<s.size
  ·by_cases l:s[m].toNat=10
   ·have h:Hid (lnI s (m+1)=(c++[s.extract a m],m+1)):=by have:=Gp k l;rw[d.eqn]at this;exact this
    have C:((s[m].toNat:Int) == 10)=true:=by rw[l];rfl
    go_wp2_with (first|(at_builtin;refine Jg _ rfl _ _ 44 rfl w.heap.size 9 x (.string ⟨#[]⟩) 1 16 I7 y z A B rfl (by decide) _ _ _ rfl (g.alloc _) ⟨wr.heap.size,0,none⟩ 1 1 [.string (s.extract a m)] rfl rfl (cell_one_new _ _ _) ?c2 ?c3 ?c4 ?c5 ?_)|go_in)
    case c2=>first|rfl|(intro u n;rw[A1.1 n];rfl)
    case c3=>unfold IU;omega
    case c4=>omega
    case c5=>have:=b.size;simp;omega
    intro D o p q _;have r:Below w.heap.size w o:=(b.alloc b.size _).grown q (by have:=b.size;simp;omega) (fun j t=>(g.lt j t).1);go_wp2;go_round
    case rel=>exact⟨m+1,m+1,c++[s.extract a m],by go_num,by go_num,k,h.out,by simpa using p,r⟩
    case measure=>simp[intOf];omega
   ·have h:Hid (lnI s (m+1)=(c,a)):=by have:=He k l;rw[d.eqn]at this;exact this
    have C:((s[m].toNat:Int) == 10)=false:=by simp;omega
    go_wp2;go_round
    case rel=>exact⟨m+1,a,c,by go_num,rfl,k,h.out,g,b⟩
    case measure=>simp[intOf];omega
  ·have E:m=s.size:=by omega
   subst E;have h:Hid (cJ s=c++[s.extract a s.size]):=by show cJ s=_;unfold cJ;rw[d.eqn]
   go_wp2_with (first|(at_builtin;refine Jg _ rfl _ _ 44 rfl w.heap.size 9 x (.string ⟨#[]⟩) 1 16 I7 y z A B rfl (by decide) _ _ _ rfl (g.alloc _) ⟨wr.heap.size,0,none⟩ 1 1 [.string (s.extract a s.size)] rfl rfl (cell_one_new _ _ _) ?c2 ?c3 ?c4 ?c5 ?_)|go_in)
   case c2=>first|rfl|(intro u n;rw[A1.1 n];rfl)
   case c3=>unfold IU;omega
   case c4=>omega
   case c5=>have:=b.size;simp;omega
   intro D o p q _;have r:Below w.heap.size w o:=(b.alloc b.size _).grown q (by have:=b.size;simp;omega) (fun j t=>(g.lt j t).1);go_wp2;go_ret
   refine⟨_,rfl,?_,r⟩;rw[h.out];simpa using p
theorem eY{w:vF}{B B':Nat}{e:TypeId}{size:Nat}{v:Value}{n:Nat}{xs:List Value}(h:w.ownsRow B e size v n xs)(a:B'≤B):w.ownsRow B' e size v n xs:=by
 refine⟨h.1,?_⟩;rcases h.2 with h|⟨g,b,c,d,f,i⟩
 ·exact .inl h
 ·exact .inr ⟨g,b,c,d,IH a f,i⟩
theorem aM{w w':vF}{B:Nat}{e:TypeId}{size:Nat}{v:Value}{n:Nat}{xs:List Value}(h:w.ownsRow B e size v n xs)(b:Below w.heap.size w w'):w'.ownsRow B e size v n xs:=by
 refine⟨h.1,?_⟩;rcases h.2 with h|⟨g,c,d,f,i,a,j⟩
 ·exact .inl h
 ·exact .inr ⟨g,c,d,f,i,Below.fj b a (aB a),j⟩
structure RPInv(w1 wr:World)(ls:List ByteArray)(i:Nat)(v:Value)(fs:List Fct):Prop where
 le:i≤ls.length
 eqn:bH [] 0 ls=bH fs i (ls.drop i)
 cnt:fs.length≤120
 own:wr.ownsRow w1.heap.size 48 3 v fs.length (aY fs)
 blw:Below w1.heap.size w1 wr
def qH(w w':vF)(s:ByteArray)(e:Ending):Prop:=
 ∃v,e=.returned (.tuple #[v,.agg #[.int .i64 (aW s).2.1,.int .i64 (aW s).2.2]])∧w'.ownsRow w.heap.size 48 3 v (aW s).1.length (aY (aW s).1)∧Below w.heap.size w w'
theorem aH{w:vF}{b:Nat}{x y:Value}{T:TypeId}(h:w.heap[b]?=some (.cells #[x,y] T (0,0))) :
  w.cell? ⟨b,0,none⟩=some x∧w.cell? ⟨b,1,none⟩=some y∧w.frozen? ⟨b,0,none⟩=false∧w.frozen? ⟨b,1,none⟩=false:=
 ⟨by rw[aC h];rfl,by rw[aC h];rfl,aE h _,aE h _⟩
theorem qH.bad{w w':vF}{s:ByteArray}{k n:Int}(h:aW s=([],k,n))(a:Below w.heap.size w w'):qH w w' s (.returned (.tuple #[.slice none 0 0,.agg #[.int .i64 k,.int .i64 n]])):=by refine⟨.slice none 0 0,by rw[h],?_,a⟩;rw[h];exact JW _ _ _ _
theorem uC(s:ByteArray)(w:vF)(hs:s.size≤IU) :
  Calls hE 30 #[.string s] w fun e w'=>qH w w' s e:=by
 unfold IU at hs;obtain⟨i0,a2,a3,a4,a5⟩:=info_parts jU;have F:=aD w (.cells #[.int .i64 0,.int .i64 0] 27);have G:Below w.heap.size w (w.alloc (.cells #[.int .i64 0,.int .i64 0] 27)):=(Below.refl _ _).alloc (gO _) _;by_cases V:6000<s.size
 ·have u:Hid (aW s=([],2,0)):=by unfold Hid aW;rw[if_pos V]
  go_enter Tryz.func30,Tryz.ntmps30
  go_wp2_with fail
  refine IG (v:=.tuple #[.slice none 0 0,.agg #[.int .i64 2,.int .i64 0]]) (by simp[Jl,K8,go_sem]) rfl (qH.bad u.out ?_);exact(Below.refl _ _).alloc (gO _) _
 ·have u:Hid (aW s=bH [] 0 (cJ s)):=by unfold Hid aW;rw[if_neg V]
  go_enter Tryz.func30,Tryz.ntmps30
  go_wp2_with fail
  generalize w.alloc (.cells #[.int .i64 0,.int .i64 0] 27)=w0 at F G ⊢;have a6:=aB F;refine(wW s w0 (by omega)).mono ?_
  rintro e a ⟨v,rfl,m,N⟩;have X:=Below.fj N F a6;have O:Below w.heap.size w a:=G.trans (N.mono G.size);have ai:=jX s;have a7:=aA (iT s);have a8:0<(cJ s).length:=by simp[cJ]
  obtain⟨g,aj,rfl,ak,a9,al,Y⟩:=lP m a8;have aa:=aA Y;clear Y m N F G;generalize cJ s=f at *;go_wp2_with fail
  go_loopw [4,6] (fun v P wr=>∃(i:Nat) (b:List Fct),P=.int .i64 i∧RPInv a wr f i v b) (fun _ P _=>f.length-(intOf P).toNat)
  case atStart=>exact⟨0,[],rfl,Nat.zero_le _,rfl,by simp,JW _ _ _ _,Below.refl _ _⟩
  case round=>
   obtain⟨i,b,rfl,h⟩:=hrel;have c:=h.blw;have m:=h.own;have am:=h.le;have ab:=h.cnt;have n:w.heap.size<a.heap.size:=aB X;have x:=Below.fj c X n;have Z:Below w.heap.size w wr:=O.trans (c.mono (JA n));by_cases Q:i<f.length
   ·obtain⟨l,H⟩:∃l,f[i]?=some l:=⟨_,List.getElem?_eq_getElem Q⟩;have cl:wr.cell? ⟨g,i,none⟩=some (.string l):=(World.cell?_of_block (w:=a) (a:=⟨g,i,none⟩) (c.block g a9)).trans (aa.out i l H);have A:=h.eqn;rw[cR H]at A;have an:=a7.out l (List.mem_of_getElem? H);by_cases B:80<l.size
    ·have j:Hid (aW s=([],3,(i:Int)+1)):=u.out.trans (A.trans (qE B));obtain⟨o,r,R,S⟩:=aH x;clear h A H x;go_wp2_with fail
     refine IG (v:=.tuple #[.slice none 0 0,.agg #[.int .i64 3,.int .i64 ((i:Int)+1)]]) (by simp[Jl,K8,go_sem,o,r]) rfl (qH.bad j.out ?_);exact(Z.setCell (p:=⟨w.heap.size,0,none⟩) (gO _) _).setCell (p:=⟨w.heap.size,1,none⟩) (gO _) _
    ·have I:=aA A;clear A h;go_wp2_with fail
     refine(ER l wr (by omega)).mono ?_
     rintro e J ⟨rfl,d⟩;have T:=Below.fj d x (aB x);rcases nN l with⟨⟨k,p,q⟩,t,hp,hq,ao,ap⟩|t
     ·rw[t];by_cases K:k=0
      ·subst K;have U:Hid (bH [] 0 f=bH b (i+1) (f.drop (i+1))):=I.out.trans (qG B t rfl);go_wp2_with fail
       go_round
       case rel=>exact⟨i+1,b,by go_num,Q,U.out,ab,(aM m d).alloc _,(c.trans (d.mono c.size)).alloc (IH c.size d.size) _⟩
       case measure=>simp[intOf];omega
      ·have aq:(k == 0)=false:=beq_false_of_ne K;go_wp2_with fail
       have L:=(aM m d).alloc (.cells #[.int .i64 k,.string p,.string q] 48);have y:Below a.heap.size a (J.alloc (.cells #[.int .i64 k,.string p,.string q] 48)):=(c.trans (d.mono c.size)).alloc (IH c.size d.size) _;have M:=aD J (.cells #[.int .i64 k,.string p,.string q] 48);have z:=aF T (.cells #[.int .i64 k,.string p,.string q] 48);generalize J.alloc (.cells #[.int .i64 k,.string p,.string q] 48)=w3 at L y M z ⊢;refine(wS u4 b k p q w3 (by unfold IU;omega) (dY L) (by unfold IU;omega) (by unfold IU;omega)).mono ?_
       rintro e w4 ⟨rfl,C⟩;have g6:=Below.fj C M (aB M);have g7:=Below.fj C z (aB z);have a1:=aM L C;have D:Below a.heap.size a w4:=y.trans (C.mono y.size);obtain⟨d0,d1,d2,e0,e1,e2⟩:=aZ g6;obtain⟨o,r,R,S⟩:=aH g7;clear m L d y C x T M z g6 g7 e0 e1 e2;by_cases E:cH b ⟨k,p,q⟩=0
       ·have U:Hid (bH [] 0 f=bH (b++[⟨k,p,q⟩]) (i+1) (f.drop (i+1))):=I.out.trans (rY B t K E);have ar:=(sB E).2.2;rw[E];go_wp2_with (first|(at_builtin;refine Jg _ rfl _ _ 36 rfl a.heap.size 48 i0 (.agg #[.int .i64 0,.string ⟨#[]⟩,.string ⟨#[]⟩]) 3 40 Tryz.underlying36 a2 a3 a4 a5 rfl (by decide) _ _ _ rfl (a1.alloc _) ⟨w4.heap.size,0,none⟩ 1 1 [.int .i64 k,.string p,.string q] rfl rfl (eU _ _ _ _ _) ?x6 ?x7 ?x8 ?x9 ?_)|go_in)
        case x6=>intro au hu;simp at hu;rcases hu with rfl|rfl|rfl<;>rfl
        case x7=>unfold IU;omega
        case x8=>omega
        case x9=>have:=D.size;simp;omega
        intro v' w5 ad ae _;have af:Below a.heap.size a w5:=(D.alloc D.size _).grown ae (by have:=D.size;simp;omega) (fun ag hj=>(a1.lt ag hj).1);go_wp2_with fail
        go_round
        case rel=>exact⟨i+1,b++[⟨k,p,q⟩],by go_num,Q,U.out,by simp;omega,by rw[nJ];simpa using ad,af⟩
        case measure=>simp[intOf];omega
       ·have j:Hid (aW s=([],cH b ⟨k,p,q⟩,(i:Int)+1)):=u.out.trans (I.out.trans (rZ B t K E));have av:(cH b ⟨k,p,q⟩ == 0)=false:=beq_false_of_ne E;generalize cH b ⟨k,p,q⟩=er at *;go_wp2_with fail
        refine IG (v:=.tuple #[.slice none 0 0,.agg #[.int .i64 er,.int .i64 ((i:Int)+1)]]) (by simp[Jl,K8,go_sem,o,r]) rfl (qH.bad j.out ?_);exact((O.trans (D.mono (JA n))).setCell (p:=⟨w.heap.size,0,none⟩) (gO _) _).setCell (p:=⟨w.heap.size,1,none⟩) (gO _) _
     ·rw[t];have j:Hid (aW s=([],4,(i:Int)+1)):=u.out.trans (I.out.trans (qF B t (by decide)));have z:=aF T (.cells #[.int .i64 0,.string ⟨#[]⟩,.string ⟨#[]⟩] 48);obtain⟨o,r,R,S⟩:=aH z;have y:Below a.heap.size a (J.alloc (.cells #[.int .i64 0,.string ⟨#[]⟩,.string ⟨#[]⟩] 48)):=(c.trans (d.mono c.size)).alloc (IH c.size d.size) _;unfold noF noB;go_wp2_with fail
      refine IG (v:=.tuple #[.slice none 0 0,.agg #[.int .i64 4,.int .i64 ((i:Int)+1)]]) (by simp[Jl,K8,go_sem,o,r]) rfl (qH.bad j.out ?_);exact((O.trans (y.mono (JA n))).setCell (p:=⟨w.heap.size,0,none⟩) (gO _) _).setCell (p:=⟨w.heap.size,1,none⟩) (gO _) _
   ·have ah:i=f.length:=by omega
    subst ah;have j:Hid (aW s=(b,0,0)):=by unfold Hid;rw[u.out,h.eqn,List.drop_length];simp[bH]
    obtain⟨o,r,R,S⟩:=aH x;clear h;go_wp2_with fail
    refine IG (v:=.tuple #[u4,.agg #[.int .i64 0,.int .i64 0]]) (by simp[Jl,K8,go_sem,o,r]) rfl ⟨u4,by rw[j.out],?_,?_⟩
    ·rw[j.out];exact eY (Lg (Lg m (a:=⟨w.heap.size,0,none⟩) n _) (a:=⟨w.heap.size,1,none⟩) n _) (JA n)
    ·exact(Z.setCell (p:=⟨w.heap.size,0,none⟩) (gO _) _).setCell (p:=⟨w.heap.size,1,none⟩) (gO _) _
theorem lQ(s:ByteArray)(w:vF)(b:s.size≤1000000) :
  Calls hE 101 #[.string s] w fun e w'=>e=.returned (.string s)∧Below w.heap.size w w':=by
 go_enter Tryz.func101,Tryz.ntmps101
 go_wp2_with fail
 refine(Tryz.stringslite_Clone s w (by omega)).mono ?_
 rintro e w' ⟨rfl,a⟩;go_wp2;go_ret
 exact⟨rfl,a⟩
end
end Go.Proofs.YtiamlbhkiehilaaGreatDoor
