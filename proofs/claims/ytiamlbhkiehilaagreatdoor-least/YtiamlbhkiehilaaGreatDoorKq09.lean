import Derived.Test.YtiamlbhkiehilaaGreatDoorKq08
import Derived.BigQuiet
import Derived.Test.YtiamlbhkiehilaaGreatDoorKqSh
namespace Go.Proofs.YtiamlbhkiehilaaGreatDoor
section
open Go.RowKit Go.Maps
def noB:ByteArray:=⟨#[]⟩
def pat:Nat→List ByteArray
 |0=>[noB,⟨#[61]⟩,⟨#[38]⟩,noB]
 |1=>[noB,⟨#[61]⟩,noB]
 |2=>[noB,⟨#[61]⟩,⟨#[42]⟩,noB]
 |3=>[⟨#[42]⟩,noB,⟨#[61]⟩,noB]
 |_=>[]
def fitsOne(p x:ByteArray):Bool:=if p.size=0 then nameB x.data.toList else decide (x=p)
def fitsI(ps ws:List ByteArray):Nat→Bool
 |0=>true
 |i+1=>fitsI ps ws i && fitsOne (ps.getD i noB) (ws.getD i noB)
def nmsI(ps ws:List ByteArray):Nat→List ByteArray
 |0=>[]
 |i+1=>if(ps.getD i noB).size=0 then nmsI ps ws i++[ws.getD i noB]else nmsI ps ws i
def goodW(ws:List ByteArray)(k:Nat):Bool:=decide ((pat k).length=ws.length) && fitsI (pat k) ws ws.length
def fctW(ws:List ByteArray)(k:Nat):Fct:=⟨(k:Int)+1,(nmsI (pat k) ws ws.length).getD 0 noB,(nmsI (pat k) ws ws.length).getD 1 noB⟩
def noF:Fct:=⟨0,noB,noB⟩
def saidW(ws:List ByteArray):Fct × Int:=
 if ws.length=0 then(noF,0)
 else if goodW ws 0=true then(fctW ws 0,0)
 else if goodW ws 1=true then(fctW ws 1,0)
 else if goodW ws 2=true then(fctW ws 2,0)
 else if goodW ws 3=true then(fctW ws 3,0)
 else(noF,4)
def saidB(s:ByteArray):Fct × Int:=
 match wordsR s 0 []with
 |none=>(noF,4)
 |some ws=>saidW ws
theorem saidB_none{s:ByteArray}(h:wordsR s 0 []=none):saidB s=(noF,4):=by simp[saidB,h]
theorem saidB_some{s:ByteArray}{ws:List ByteArray}(h:wordsR s 0 []=some ws):saidB s=saidW ws:=by simp[saidB,h]
theorem saidW_nil{ws:List ByteArray}(h:ws.length=0):saidW ws=(noF,0):=by simp[saidW,h]
theorem saidW_bad{ws:List ByteArray}(h:0<ws.length)(hb:∀j,j<4→goodW ws j=false):saidW ws=(noF,4):=by
 simp only[saidW,hb 0 (by decide),hb 1 (by decide),hb 2 (by decide),hb 3 (by decide)];rw[if_neg (by omega)];simp
end
section
open Go.RowKit Go.Maps
def parseGo:List Fct→Nat→List ByteArray→List Fct × Int × Int
 |pre,_,[]=>(pre,0,0)
 |pre,n,l::r=>
  if 80<l.size then([],3,(n:Int)+1)
  else if(saidB l).2≠0 then([],(saidB l).2,(n:Int)+1)
  else if(saidB l).1.k=0 then parseGo pre (n+1) r
  else if errOf pre (saidB l).1=0 then parseGo (pre++[(saidB l).1]) (n+1) r
  else([],errOf pre (saidB l).1,(n:Int)+1)
def parseB(s:ByteArray):List Fct × Int × Int:=if 6000<s.size then([],2,0)else parseGo [] 0 (linesB s)
theorem parseGo_wide{pre:List Fct}{n:Nat}{l:ByteArray}{r:List ByteArray}(h:80<l.size):parseGo pre n (l::r)=([],3,(n:Int)+1):=by simp[parseGo,h]
theorem parseGo_form{pre:List Fct}{n:Nat}{l:ByteArray}{r:List ByteArray}(h:¬80<l.size){f:Fct}{e:Int}(hs:saidB l=(f,e))(he:e≠0):parseGo pre n (l::r)=([],e,(n:Int)+1):=by simp[parseGo,h,hs,he]
theorem parseGo_skip{pre:List Fct}{n:Nat}{l:ByteArray}{r:List ByteArray}(h:¬80<l.size){f:Fct}(hs:saidB l=(f,0))(hk:f.k=0):parseGo pre n (l::r)=parseGo pre (n+1) r:=by simp[parseGo,h,hs,hk]
theorem parseGo_add{pre:List Fct}{n:Nat}{l:ByteArray}{r:List ByteArray}(h:¬80<l.size){f:Fct}(hs:saidB l=(f,0))(hk:f.k≠0)(he:errOf pre f=0):parseGo pre n (l::r)=parseGo (pre++[f]) (n+1) r:=by simp[parseGo,h,hs,hk,he]
theorem parseGo_bad{pre:List Fct}{n:Nat}{l:ByteArray}{r:List ByteArray}(h:¬80<l.size){f:Fct}(hs:saidB l=(f,0))(hk:f.k≠0)(he:errOf pre f≠0):parseGo pre n (l::r)=([],errOf pre f,(n:Int)+1):=by simp[parseGo,h,hs,hk,he]
theorem nmsI_mem(ps ws:List ByteArray)(M:Nat)(h:∀x∈ws,x.size≤M)(i:Nat):∀x∈nmsI ps ws i,x.size≤M:=by
 induction i with
 |zero=>simp[nmsI]
 |succ i ih=>
  unfold nmsI;split
  ·intro x hx;rcases List.mem_append.1 hx with hx|hx
   ·exact ih x hx
   ·rw[List.mem_singleton.1 hx];cases hg:ws[i]? with
    |none=>simp[hg,noB,ByteArray.size]
    |some y=>simp[hg];exact h y (List.mem_of_getElem? hg)
  ·exact ih
theorem getD_size(l:List ByteArray)(M i:Nat)(h:∀x∈l,x.size≤M):(l.getD i noB).size≤M:=by
 cases hg:l[i]? with
 |none=>simp[hg,noB,ByteArray.size]
 |some y=>simp[hg];exact h y (List.mem_of_getElem? hg)
theorem saidB_cases(l:ByteArray):(∃f,saidB l=(f,0)∧f.p.size≤l.size∧f.q.size≤l.size∧0≤f.k∧f.k≤4)∨saidB l=(noF,4):=by
 cases hw:wordsR l 0 []with
 |none=>exact .inr (saidB_none hw)
 |some ws=>
  rw[saidB_some hw];have hz:=wordsR_size hw;have hf:∀k,(fctW ws k).p.size≤l.size∧(fctW ws k).q.size≤l.size:=fun k=>⟨getD_size _ _ _ (nmsI_mem _ _ _ hz _),getD_size _ _ _ (nmsI_mem _ _ _ hz _)⟩
  unfold saidW;split
  ·exact .inl ⟨noF,rfl,Nat.zero_le _,Nat.zero_le _,Int.le_refl _,by decide⟩
  ·split
   ·exact .inl ⟨_,rfl,(hf 0).1,(hf 0).2,by simp[fctW],by simp[fctW]⟩
   ·split
    ·exact .inl ⟨_,rfl,(hf 1).1,(hf 1).2,by simp[fctW],by simp[fctW]⟩
    ·split
     ·exact .inl ⟨_,rfl,(hf 2).1,(hf 2).2,by simp[fctW],by simp[fctW]⟩
     ·split
      ·exact .inl ⟨_,rfl,(hf 3).1,(hf 3).2,by simp[fctW],by simp[fctW]⟩
      ·exact .inr rfl
theorem linesB_size(s:ByteArray):∀l∈linesB s,l.size≤s.size:=by
 have h:∀i,∀l∈(lnI s i).1,l.size≤s.size:=by
  intro i;induction i with
  |zero=>simp[lnI]
  |succ i ih=>
   unfold lnI;split
   ·intro l hl;rcases List.mem_append.1 hl with hl|hl
    ·exact ih l hl
    ·rw[List.mem_singleton.1 hl,ByteArray.size_extract];omega
   ·exact ih
 intro l hl;rcases List.mem_append.1 hl with hl|hl
 ·exact h _ l hl
 ·rw[List.mem_singleton.1 hl,ByteArray.size_extract];omega
theorem linesB_len(s:ByteArray):(linesB s).length≤s.size+1:=by
 have:=lnI_len s s.size;simp[linesB];omega
theorem errOf_zero'{pre:List Fct}{f:Fct}(h:errOf pre f=0):f.p.size≤12∧f.q.size≤12∧pre.length<120:=by
 unfold errOf at h;by_cases h1:12<f.p.size∨12<f.q.size
 ·rw[if_pos h1]at h;exact absurd h (by decide)
 ·rw[if_neg h1]at h;by_cases h2:120≤pre.length
  ·rw[if_pos h2]at h;exact absurd h (by decide)
  ·omega
end
section
open Go.RowKit Go.Maps
def shape1(x:ByteArray):UInt8:=if nameB x.data.toList=true then 110 else x.data.toList.headD 0
def shapeL(ws:List ByteArray):List UInt8:=ws.map shape1
def isNm(x:ByteArray):Bool:=nameB x.data.toList
def nmsL(ws:List ByteArray):List ByteArray:=ws.filter isNm
def isWord(x:ByteArray):Prop:=nameB x.data.toList=true∨x=⟨#[61]⟩∨x=⟨#[38]⟩∨x=⟨#[42]⟩
theorem ext_one(s:ByteArray)(i:Nat)(h:i<s.size):s.extract i (i+1)=⟨#[s[i]]⟩:=by
 apply ByteArray.ext;rw[ByteArray.data_extract];apply Array.toList_inj.1;rw[Array.toList_extract,List.extract_eq_take_drop];rw[List.drop_eq_getElem_cons (by simpa using h)];simp;rfl
theorem sign_word{s:ByteArray}{i:Nat}(h:i<s.size)(hc:(s[i].toNat:Int)=61∨(s[i].toNat:Int)=38∨(s[i].toNat:Int)=42) :
  isWord (s.extract i (i+1))∧isNm (s.extract i (i+1))=false∧shape1 (s.extract i (i+1))=s[i]:=by
 rw[ext_one s i h];have hc':s[i]=61∨s[i]=38∨s[i]=42:=by
  rcases hc with hc|hc|hc
  ·exact .inl (UInt8.toNat_inj.1 (by simp;omega))
  ·exact .inr (.inl (UInt8.toNat_inj.1 (by simp;omega)))
  ·exact .inr (.inr (UInt8.toNat_inj.1 (by simp;omega)))
 rcases hc' with e|e|e<;>rw[e]
 ·exact⟨.inr (.inl rfl),by decide,by decide⟩
 ·exact⟨.inr (.inr (.inl rfl)),by decide,by decide⟩
 ·exact⟨.inr (.inr (.inr rfl)),by decide,by decide⟩
theorem nEnd_parts(s:ByteArray)(f k:Nat)(hf:k+f=s.size):∀j,k≤j→j<nEndN s f k→partB (byteAt s j)=true:=by
 induction f generalizing k with
 |zero=>intro j h1 h2;simp only[nEndN]at h2;omega
 |succ f ih=>
  intro j h1 h2;unfold nEndN at h2;by_cases hp:partB (byteAt s k)=true
  ·rw[if_pos hp]at h2;by_cases e:j=k
   ·subst e;exact hp
   ·exact ih (k+1) (by omega) j (by omega) h2
  ·rw[if_neg hp]at h2;omega
theorem name_word{s:ByteArray}{i:Nat}(h:i<s.size)(hc:startB (s[i].toNat:Int)=true) :
  isNm (s.extract i (nEnd s (i+1)))=true:=by
 have hge:=nEnd_ge s (i+1);have hle:=nEnd_le (s:=s) (k:=i+1) h;have hp:=nEnd_parts s (s.size-(i+1)) (i+1) (by omega);have hp':∀j,i+1≤j→j<nEnd s (i+1)→partB (byteAt s j)=true:=hp;generalize nEnd s (i+1)=k at *;have e:(s.extract i k).data.toList=s[i]::(s.data.toList.drop (i+1)).take (k-(i+1)):=by
  rw[ByteArray.data_extract,Array.toList_extract,List.extract_eq_take_drop,List.drop_eq_getElem_cons (by simpa using h)];have e2:k-i=(k-(i+1))+1:=by omega
  rw[e2,List.take_succ_cons];rfl
 unfold isNm;rw[e];simp only[nameB,hc,Bool.true_and,partsB,List.all_eq_true];intro c hcm;obtain⟨j,hj,hje⟩:=List.mem_iff_getElem.1 hcm;simp at hj;have hlt:i+1+j<s.size:=by omega
 have:=hp' (i+1+j) (by omega) (by omega);rw[byteAt_lt hlt]at this;have e3:c=s[i+1+j]:=by
  rw[← hje];simp;rfl
 rw[e3];exact this
def kindS(sh:List UInt8):Int × Bool:=
 if sh=[]then(0,true)else if sh=[110,61,38,110]then(1,true)else if sh=[110,61,110]then(2,true)else if sh=[110,61,42,110]then(3,true)else if sh=[42,110,61,110]then(4,true)else(0,false)
theorem shape_eq{x:ByteArray}(hx:isWord x):(shape1 x=110↔nameB x.data.toList=true)∧(shape1 x=61↔x=⟨#[61]⟩)∧(shape1 x=38↔x=⟨#[38]⟩)∧(shape1 x=42↔x=⟨#[42]⟩):=by
 rcases hx with h|rfl|rfl|rfl
 ·have hs:shape1 x=110:=by unfold shape1;rw[if_pos h]
  rw[hs];refine⟨by simp[h],?_,?_,?_⟩
  ·constructor
   ·intro h;exact absurd h (by decide)
   ·rintro rfl;exact absurd h (by decide)
  ·constructor
   ·intro h;exact absurd h (by decide)
   ·rintro rfl;exact absurd h (by decide)
  ·constructor
   ·intro h;exact absurd h (by decide)
   ·rintro rfl;exact absurd h (by decide)
 ·decide
 ·decide
 ·decide
end
section
open Go.RowKit Go.Maps
end
section
open Go.RowKit
theorem all_take_false{l:List ByteArray}{p:ByteArray→Bool}{k:Nat}{x:ByteArray}(h:l[k]?=some x)(hx:p x=false):l.all p=false:=by
 rw[List.all_eq_false];exact⟨x,List.mem_of_getElem? h,by simp[hx]⟩
theorem any_take_true{l:List ByteArray}{p:ByteArray→Bool}{k:Nat}{x:ByteArray}(h:l[k]?=some x)(hx:p x=true):l.any p=true:=by
 rw[List.any_eq_true];exact⟨x,List.mem_of_getElem? h,hx⟩
theorem all_step{l:List ByteArray}{p:ByteArray→Bool}{k:Nat}{x:ByteArray}(h:l[k]?=some x):(l.take (k+1)).all p=((l.take k).all p && p x):=by
 rw[take_next h,List.all_append];simp
theorem any_step{l:List ByteArray}{p:ByteArray→Bool}{k:Nat}{x:ByteArray}(h:l[k]?=some x):(l.take (k+1)).any p=((l.take k).any p || p x):=by
 rw[take_next h,List.any_append];simp
set_option maxHeartbeats 400000 in
theorem tooLong_any(n:ByteArray)(v:Value)(ss:List ByteArray)(w:World)(hn:n.size≤maxLen)(hlen:ss.length≤maxLen)(hv:IsStrs v ss w)(hfit:fitsS ss) :
  Calls Tryz.prog 103 #[.agg #[.string n,v]] w fun e w'=>e=.returned (.bool (rowLong ⟨n,ss⟩))∧Below w.heap.size w w':=by
 obtain⟨ao,cap,rfl,_,_,hne0⟩:=hv;have hne:=hide hne0;clear hne0;unfold maxLen at hlen hn;go_enter Tryz.func103,Tryz.ntmps103
 go_wp2;have hb:Below w.heap.size w (w.alloc (.cells #[.string n,.slice ao ss.length cap] 51)):=(Below.refl _ _).alloc (Nat.le_refl _) _;have g0:(w.alloc (.cells #[.string n,.slice ao ss.length cap] 51)).cell? ⟨w.heap.size,0,none⟩=some (.string n):=by rw[cell_at (heap_new _ _)];rfl
 generalize w.alloc (.cells #[.string n,.slice ao ss.length cap] 51)=w1 at hb g0 ⊢;go_loop [8] (fun i=>∃k:Nat,i=.int .i64 k∧k≤ss.length∧Hid ((ss.take k).any longS=false)) (fun i=>ss.length-(intOf i).toNat)
 case atStart=>exact⟨0,rfl,Nat.zero_le _,rfl⟩
 case round=>
  obtain⟨k,rfl,hk,HA⟩:=hrel;by_cases hlt:k<ss.length
  ·obtain⟨x,hx⟩:∃x,ss[k]?=some x:=⟨_,List.getElem?_eq_getElem hlt⟩;obtain⟨b,off,hao,hbw,hs⟩:=hne.out (ne_nil_of_get hx);subst hao;have d0:=(hs.below hb hbw) k x hx;have hxs:=hfit x (List.mem_of_getElem? hx);unfold maxLen at hxs;have hst:=any_step (p:=longS) hx;rw[HA.out,Bool.false_or]at hst;by_cases hp:12<x.size
   ·have HF:Hid (rowLong ⟨n,ss⟩=true):=by
     unfold Hid rowLong;simp only[any_take_true hx (show longS x=true by simp[longS,hp]),Bool.or_true]
    clear hst hx hs hne;go_wp2;go_ret
    exact⟨by rw[HF.out];rfl,hb⟩
   ·have HS:Hid ((ss.take (k+1)).any longS=false):=by unfold Hid;rw[hst];simp[longS,hp]
    clear hst hx hs hne;go_wp2;go_round
    case rel=>exact⟨k+1,by go_num,by omega,HS.out⟩
    case measure=>simp[intOf];omega
  ·have HF:Hid (rowLong ⟨n,ss⟩=decide (12<n.size)):=by
    have h:=HA.out;rw[List.take_of_length_le (by omega)]at h;unfold Hid rowLong longS at *;simp only[h,Bool.or_false]
   go_wp2;go_ret
   refine⟨ret_bool ?_,hb⟩;rw[HF.out,Bool.eq_iff_iff];simp only[decide_eq_true_eq];omega
def toWidth:List ByteArray→Nat
 | []=>0
 |s::r=>1+s.size+toWidth r
theorem toWidth_text(l:List ByteArray):(toText l).length=toWidth l:=by
 induction l with
 |nil=>rfl
 |cons s r ih=>
  have:s.data.toList.length=s.size:=Array.length_toList;simp only[toText,toWidth,List.cons_append,List.length_cons,List.length_append,ih,this];omega
theorem toWidth_snoc(l:List ByteArray)(s:ByteArray):toWidth (l++[s])=toWidth l+1+s.size:=by
 induction l with
 |nil=>simp[toWidth]
 |cons x r ih=>simp[toWidth,ih];omega
theorem toWidth_take(l:List ByteArray)(k:Nat):toWidth (l.take k)≤toWidth l:=by
 induction l generalizing k with
 |nil=>simp
 |cons x r ih=>
  cases k with
  |zero=>simp[toWidth]
  |succ k=>simp only[List.take_succ_cons,toWidth];have:=ih k;omega
theorem rowText_length(r:RowD):(rowText r).length=r.name.size+2+toWidth r.to:=by
 have:r.name.data.toList.length=r.name.size:=Array.length_toList;simp only[rowText,List.length_append,List.length_cons,List.length_nil,toWidth_text,this];omega
end
section
open Go.RowKit
def chk(formed:Bool)(r:RowD)(ahead:ByteArray):Int:=if formed && ascB r.to then(if rowLong r then 5 else if leqS r.name ahead then 4 else 0)else 4
theorem rowErr_chk(r:RowD)(ahead:ByteArray):rowErr r ahead=chk (rowNames r) r ahead:=rfl
set_option maxHeartbeats 400000 in
theorem check_any(n:ByteArray)(v:Value)(ss:List ByteArray)(formed:Bool)(ahead:ByteArray)(w:World)(hn:n.size≤maxLen)(hlen:ss.length≤maxLen)(hv:IsStrs v ss w)(hfit:fitsS ss) :
  Calls Tryz.prog 71 #[.agg #[.string n,v],.bool formed,.string ahead] w fun e w'=>e=.returned (.int .i64 (chk formed ⟨n,ss⟩ ahead))∧Below w.heap.size w w':=by
 have hv0:=hide hv;obtain⟨ao,cap,hve,_⟩:=hv;subst hve;have hb:Below w.heap.size w (w.alloc (.cells #[.string n,.slice ao ss.length cap] 51)):=(Below.refl _ _).alloc (Nat.le_refl _) _;cases formed
 ·have HF:Hid (chk false ⟨n,ss⟩ ahead=4):=by simp[chk,Hid]
  go_enter Tryz.func71,Tryz.ntmps71
  go_wp2;go_ret
  exact⟨by rw[HF.out];rfl,hb⟩
 ·have HV1:=hide (hv0.out.below hb);cases ho:ascB ss
  ·have HF:Hid (chk true ⟨n,ss⟩ ahead=4):=by simp[chk,Hid,ho]
   have HO:=hide ho;clear ho;go_enter Tryz.func71,Tryz.ntmps71
   go_wp2_with fail
   refine(inOrder_any _ ss _ hlen HV1.out).mono ?_
   rintro e w2 ⟨rfl,hb2⟩;rw[HO.out];have hbl:=hb.trans (hb2.mono hb.size);clear hb2;go_wp2;go_ret
   exact⟨by rw[HF.out];rfl,hbl⟩
  ·have HO:=hide ho;cases hl:rowLong ⟨n,ss⟩
   ·have HF:Hid (chk true ⟨n,ss⟩ ahead=if leqS n ahead then 4 else 0):=by simp[chk,Hid,ho,hl]
    have HL:=hide hl;clear ho hl;go_enter Tryz.func71,Tryz.ntmps71
    go_wp2_with fail
    refine(inOrder_any _ ss _ hlen HV1.out).mono ?_
    rintro e w2 ⟨rfl,hb2⟩;rw[HO.out];have g0:=Below.heapAt hb2 (heap_new w (.cells #[.string n,.slice ao ss.length cap] 51)) (by simp);have c0:w2.cell? ⟨w.heap.size,0,none⟩=some (.string n):=by rw[cell_at g0];rfl
    have c1:w2.cell? ⟨w.heap.size,1,none⟩=some (.slice ao ss.length cap):=by rw[cell_at g0];rfl
    have HV2:=hide (HV1.out.below hb2);have hbl:=hb.trans (hb2.mono hb.size);clear hb2;go_wp2_with fail
    refine(tooLong_any n _ ss _ hn hlen HV2.out hfit).mono ?_
    rintro e w3 ⟨rfl,hb3⟩;rw[HL.out];have g1:=Below.heapAt hb3 g0 (lt_of_heap g0);have e0:w3.cell? ⟨w.heap.size,0,none⟩=some (.string n):=by rw[cell_at g1];rfl
    have hbl3:=hbl.trans (hb3.mono hbl.size);clear hb3 g0 g1 c0 c1;cases hq:leqS n ahead
    ·have hq':(Op.bytesLess n.toList ahead.toList || n.toList == ahead.toList)=false:=hq;have HQ:=hide hq;clear hq;go_wp2;go_ret
     exact⟨by rw[HF.out,HQ.out];rfl,hbl3⟩
    ·have hq':(Op.bytesLess n.toList ahead.toList || n.toList == ahead.toList)=true:=hq;have HQ:=hide hq;clear hq;go_wp2;go_ret
     exact⟨by rw[HF.out,HQ.out];rfl,hbl3⟩
   ·have HF:Hid (chk true ⟨n,ss⟩ ahead=5):=by simp[chk,Hid,ho,hl]
    have HL:=hide hl;clear ho hl;go_enter Tryz.func71,Tryz.ntmps71
    go_wp2_with fail
    refine(inOrder_any _ ss _ hlen HV1.out).mono ?_
    rintro e w2 ⟨rfl,hb2⟩;rw[HO.out];have g0:=Below.heapAt hb2 (heap_new w (.cells #[.string n,.slice ao ss.length cap] 51)) (by simp);have c0:w2.cell? ⟨w.heap.size,0,none⟩=some (.string n):=by rw[cell_at g0];rfl
    have c1:w2.cell? ⟨w.heap.size,1,none⟩=some (.slice ao ss.length cap):=by rw[cell_at g0];rfl
    have HV2:=hide (HV1.out.below hb2);have hbl:=hb.trans (hb2.mono hb.size);clear hb2;go_wp2_with fail
    refine(tooLong_any n _ ss _ hn hlen HV2.out hfit).mono ?_
    rintro e w3 ⟨rfl,hb3⟩;rw[HL.out];have hbl3:=hbl.trans (hb3.mono hbl.size);clear hb3 g0 c0 c1;go_wp2;go_ret
    exact⟨by rw[HF.out];rfl,hbl3⟩
def RowsAt(b off:Nat)(rs:List RowD)(w:World):Prop:=
 ∀i n tt,rs[i]?=some ⟨n,tt⟩→w.cell? ⟨b,off+i*2,none⟩=some (.string n)∧∃tv,w.cell? ⟨b,off+i*2+1,none⟩=some tv∧IsStrs tv tt w
theorem RowsAt.below{b off:Nat}{rs:List RowD}{w w':World}(h:RowsAt b off rs w)(hb:Below w.heap.size w w')(hlt:b<w.heap.size):RowsAt b off rs w':=by
 intro i n tt hi;obtain⟨h1,tv,h2,h3⟩:=h i n tt hi;exact⟨(hb.cell (p:=⟨b,_,none⟩) hlt).trans h1,tv,(hb.cell (p:=⟨b,_,none⟩) hlt).trans h2,h3.below hb⟩
def IsRows(v:Value)(rs:List RowD)(w:World):Prop:=
 ∃ao cap,v=.slice ao rs.length cap∧rs.length≤cap∧(ao=none→cap=0)∧(rs≠[]→∃b off,ao=some ⟨b,off,none⟩∧b<w.heap.size∧RowsAt b off rs w)
theorem IsRows.below{v:Value}{rs:List RowD}{w w':World}(h:IsRows v rs w)(hb:Below w.heap.size w w'):IsRows v rs w':=by
 obtain⟨ao,cap,rfl,hc,hn,h⟩:=h;refine⟨ao,cap,rfl,hc,hn,fun hne=>?_⟩;obtain⟨b,off,rfl,hlt,hf⟩:=h hne;exact⟨b,off,rfl,Nat.lt_of_lt_of_le hlt hb.size,hf.below hb hlt⟩
def fitsR(rs:List RowD):Prop:=∀r∈rs,r.name.size≤maxLen∧r.to.length≤maxLen∧fitsS r.to
end
section
open Go.RowKit Go.Maps
theorem row_reads{w:World}{B:Nat}{v:Value}{ss:List ByteArray}(h:w.ownsRow B 9 1 v ss.length (ss.map Value.string))(hne:0<ss.length) :
  ∃g cap,v=.slice (some ⟨g,0,none⟩) ss.length cap∧ss.length≤cap∧g<w.heap.size∧B≤g∧∀(i:Nat) x,ss[i]?=some x→w.cell? ⟨g,i,none⟩=some (.string x):=by
 rcases h.2 with⟨_,h0⟩|⟨g,cap,cur,rfl,hB,hg,hnc,_,_,htk⟩
 ·omega
 ·refine⟨g,cap,rfl,hnc,lt_of_heap hg,hB,fun i x hx=>?_⟩;have hl:=lt_of_getElem? hx;rw[cell_at hg];have:(ss.map Value.string)[i]?=some (.string x):=by simp[hx]
  rw[← htk,List.getElem?_take,if_pos (by omega)]at this;simpa using this
theorem res_cells{w:World}{b:Nat}{x y z:Value}{T:TypeId}(h:w.heap[b]?=some (.cells #[x,y,z] T (0,0))) :
  w.cell? ⟨b,0,none⟩=some x∧w.cell? ⟨b,1,none⟩=some y∧w.cell? ⟨b,2,none⟩=some z∧w.frozen? ⟨b,0,none⟩=false∧w.frozen? ⟨b,1,none⟩=false∧w.frozen? ⟨b,2,none⟩=false:=
 ⟨by rw[cell_at h];rfl,by rw[cell_at h];rfl,by rw[cell_at h];rfl,frozen_at h _,frozen_at h _,frozen_at h _⟩
end
section
open Go.RowKit Go.Maps
end
section
open Go.RowKit Go.Maps
theorem own_mono{w:World}{B B':Nat}{e:TypeId}{size:Nat}{v:Value}{n:Nat}{xs:List Value}(h:w.ownsRow B e size v n xs)(hb:B'≤B):w.ownsRow B' e size v n xs:=by
 refine⟨h.1,?_⟩;rcases h.2 with h|⟨g,cap,cur,h1,h2,h3⟩
 ·exact .inl h
 ·exact .inr ⟨g,cap,cur,h1,Nat.le_trans hb h2,h3⟩
theorem own_below{w w':World}{B:Nat}{e:TypeId}{size:Nat}{v:Value}{n:Nat}{xs:List Value}(h:w.ownsRow B e size v n xs)(hb:Below w.heap.size w w'):w'.ownsRow B e size v n xs:=by
 refine⟨h.1,?_⟩;rcases h.2 with h|⟨g,cap,cur,h1,h2,h3,h4⟩
 ·exact .inl h
 ·exact .inr ⟨g,cap,cur,h1,h2,Below.heapAt hb h3 (lt_of_heap h3),h4⟩
def PRes(w w':World)(s:ByteArray)(e:Ending):Prop:=
 ∃v,e=.returned (.tuple #[v,.agg #[.int .i64 (parseB s).2.1,.int .i64 (parseB s).2.2]])∧w'.ownsRow w.heap.size 48 3 v (parseB s).1.length (cellsF (parseB s).1)∧Below w.heap.size w w'
theorem err_cells{w:World}{b:Nat}{x y:Value}{T:TypeId}(h:w.heap[b]?=some (.cells #[x,y] T (0,0))) :
  w.cell? ⟨b,0,none⟩=some x∧w.cell? ⟨b,1,none⟩=some y∧w.frozen? ⟨b,0,none⟩=false∧w.frozen? ⟨b,1,none⟩=false:=
 ⟨by rw[cell_at h];rfl,by rw[cell_at h];rfl,frozen_at h _,frozen_at h _⟩
theorem PRes.bad{w w':World}{s:ByteArray}{k n:Int}(h:parseB s=([],k,n))(hb:Below w.heap.size w w'):PRes w w' s (.returned (.tuple #[.slice none 0 0,.agg #[.int .i64 k,.int .i64 n]])):=by
 refine⟨.slice none 0 0,by rw[h],?_,hb⟩;rw[h];exact World.ownsRow_nil _ _ _ _
end
section
open Go.RowKit Go.Maps
set_option maxRecDepth 100000 in
theorem clone_any(s:ByteArray)(w:World)(hs:s.size≤1000000) :
  Calls Tryz.prog 101 #[.string s] w fun e w'=>e=.returned (.string s)∧Below w.heap.size w w':=by
 go_enter Tryz.func101,Tryz.ntmps101
 go_wp2_with fail
 refine(Tryz.stringslite_Clone s w (by omega)).mono ?_
 rintro e w' ⟨rfl,hb⟩;go_wp2;go_ret
 exact⟨rfl,hb⟩
end
end Go.Proofs.YtiamlbhkiehilaaGreatDoor
