import Derived.Test.YtiamlbhkiehilaaGreatDoorKq37
namespace Go.Proofs.YtiamlbhkiehilaaGreatDoor
section
open Go.RowKit Go.Maps
def prt(c:UInt8):Bool:=partB c.toNat
theorem drop_takeWhile{α:Type}(p:α→Bool)(l:List α):l.drop (l.takeWhile p).length=l.dropWhile p:=by
 induction l with
 |nil=>rfl
 |cons a r ih=>
  by_cases h:p a=true
  ·simp[List.takeWhile,List.dropWhile,h,ih]
  ·simp[List.takeWhile,List.dropWhile,h]
theorem take_takeWhile{α:Type}(p:α→Bool)(l:List α):l.take (l.takeWhile p).length=l.takeWhile p:=by
 induction l with
 |nil=>rfl
 |cons a r ih=>
  by_cases h:p a=true
  ·simp[List.takeWhile,h,ih]
  ·simp[List.takeWhile,h]
def wlN:Nat→List UInt8→List ByteArray→Option (List ByteArray)
 |0,_,out=>some out
 |_+1,[],out=>some out
 |f+1,c::r,out=>
  if kindB c.toNat=0 then some out
  else if kindB c.toNat=1 then wlN f r out
  else if kindB c.toNat=2 then wlN f r (out++[⟨#[c]⟩])
  else if kindB c.toNat=3 then wlN f (r.dropWhile prt) (out++[⟨(c::r.takeWhile prt).toArray⟩])
  else none
theorem drop_cons{s:ByteArray}{i:Nat}(h:i<s.size):s.data.toList.drop i=s[i]::s.data.toList.drop (i+1):=by
 rw[List.drop_eq_getElem_cons (by simpa using h)];rfl
theorem nEnd_take(s:ByteArray):∀(d k:Nat),s.size-k=d→k≤s.size→nEnd s k=k+((s.data.toList.drop k).takeWhile prt).length:=by
 intro d;induction d with
 |zero=>
  intro k hd hk;have:k=s.size:=by omega
  subst this;rw[nEnd_end (Nat.le_refl _),List.drop_eq_nil_of_le (by simp)];rfl
 |succ d ih=>
  intro k hd hk;have hlt:k<s.size:=by omega
  rw[drop_cons hlt];cases hp:partB (s[k].toNat:Int)
  ·rw[nEnd_no hlt hp];simp[List.takeWhile,prt,hp]
  ·rw[nEnd_yes hlt hp,ih (k+1) (by omega) hlt];simp[List.takeWhile,prt,hp];omega
theorem words_list(s:ByteArray):∀(f i:Nat) (out:List ByteArray),i≤s.size→wordsN s f i out=wlN f (s.data.toList.drop i) out:=by
 intro f;induction f with
 |zero=>intro i out _;rfl
 |succ f ih=>
  intro i out hi;by_cases hlt:i<s.size
  ·rw[drop_cons hlt];have hn:=nEnd_take s _ (i+1) rfl hlt;have hle:=nEnd_le (s:=s) (k:=i+1) hlt;have hext:s.extract i (nEnd s (i+1))=⟨(s[i]::(s.data.toList.drop (i+1)).takeWhile prt).toArray⟩:=by
    apply data_inj;rw[ByteArray.data_extract,Array.toList_extract,List.extract_eq_take_drop,drop_cons hlt,hn,show i+1+((s.data.toList.drop (i+1)).takeWhile prt).length-i=((s.data.toList.drop (i+1)).takeWhile prt).length+1 by omega,List.take_succ_cons,take_takeWhile]
   have hdr:s.data.toList.drop (nEnd s (i+1))=(s.data.toList.drop (i+1)).dropWhile prt:=by
    rw[hn,← List.drop_drop,drop_takeWhile]
   simp only[wordsN,wlN,byteAt_lt hlt];rw[if_neg (by omega),ih (i+1) out hlt,ih (i+1) _ hlt,ih (nEnd s (i+1)) _ hle,hdr,hext,ext_one s i hlt]
  ·have:s.size≤i:=by omega
   rw[wordsN_end s _ i out this,List.drop_eq_nil_of_le (by simpa using this)];rfl
theorem wlN_fuel:∀(n:Nat) (l:List UInt8) (f g:Nat) (out:List ByteArray),l.length≤n→l.length≤f→l.length≤g→wlN f l out=wlN g l out:=by
 intro n;induction n with
 |zero=>
  intro l f g out hl hf hg;have:l=[]:=List.length_eq_zero_iff.1 (by omega);subst this;cases f<;>cases g<;>rfl
 |succ n ih=>
  intro l f g out hl hf hg;cases l with
  |nil=>cases f<;>cases g<;>rfl
  |cons c r=>
   simp only[List.length_cons]at hl hf hg;obtain⟨f,rfl⟩:∃f',f=f'+1:=⟨f-1,by omega⟩;obtain⟨g,rfl⟩:∃g',g=g'+1:=⟨g-1,by omega⟩;have hd:(r.dropWhile prt).length≤r.length:=by
    rw[← drop_takeWhile,List.length_drop];omega
   simp only[wlN];rw[ih r f g out (by omega) (by omega) (by omega),ih r f g _ (by omega) (by omega) (by omega),ih (r.dropWhile prt) f g _ (by omega) (by omega) (by omega)]
def wl(l:List UInt8)(out:List ByteArray):Option (List ByteArray):=wlN l.length l out
theorem words_wl(s:ByteArray):wordsR s 0 []=wl s.data.toList []:=by
 unfold wordsR wl;rw[words_list s _ 0 [] (Nat.zero_le _)];simp
theorem wl_nil(out:List ByteArray):wl [] out=some out:=rfl
theorem wl_1{c:UInt8}{r:List UInt8}{out:List ByteArray}(h:kindB c.toNat=1):wl (c::r) out=wl r out:=by simp[wl,wlN,h]
theorem wl_2{c:UInt8}{r:List UInt8}{out:List ByteArray}(h:kindB c.toNat=2):wl (c::r) out=wl r (out++[⟨#[c]⟩]):=by simp[wl,wlN,h]
theorem wl_3{c:UInt8}{r:List UInt8}{out:List ByteArray}(h:kindB c.toNat=3):wl (c::r) out=wl (r.dropWhile prt) (out++[⟨(c::r.takeWhile prt).toArray⟩]):=by
 have hd:(r.dropWhile prt).length≤r.length:=by
  rw[← drop_takeWhile,List.length_drop];omega
 unfold wl;simp only[List.length_cons,wlN,h];simp;exact wlN_fuel r.length _ _ _ _ hd hd (Nat.le_refl _)
theorem kind_start{c:Int}(h:startB c=true):kindB c=3:=by
 rcases kindB_cases c with⟨h1,_⟩|⟨_,h2,_⟩|⟨_,_,h3,_⟩|⟨_,_,_,_,hk⟩|⟨_,_,_,h4,_⟩
 ·subst h1;exact absurd h (by decide)
 ·rcases h2 with rfl|rfl<;>exact absurd h (by decide)
 ·rcases h3 with rfl|rfl|rfl<;>exact absurd h (by decide)
 ·exact hk
 ·rw[h]at h4;cases h4
theorem name_parts{n:List UInt8}(h:nameB n=true):∃c t,n=c::t∧startB c.toNat=true∧∀x∈t,prt x=true:=by
 cases n with
 |nil=>cases h
 |cons c t=>
  simp only[nameB,Bool.and_eq_true,partsB,List.all_eq_true]at h;exact⟨c,t,rfl,h.1,h.2⟩
theorem takeWhile_all{α:Type}{p:α→Bool}{t:List α}(h:∀x∈t,p x=true)(d:α)(r:List α)(hd:p d=false):(t++d::r).takeWhile p=t∧(t++d::r).dropWhile p=d::r:=by
 induction t with
 |nil=>simp[hd]
 |cons a t ih=>
  have ha:=h a (by simp);obtain⟨h1,h2⟩:=ih (fun x hx=>h x (by simp[hx]));simp[ha,h1,h2]
theorem takeWhile_end{α:Type}{p:α→Bool}{t:List α}(h:∀x∈t,p x=true):t.takeWhile p=t∧t.dropWhile p=[]:=by
 induction t with
 |nil=>simp
 |cons a t ih=>
  have ha:=h a (by simp);obtain⟨h1,h2⟩:=ih (fun x hx=>h x (by simp[hx]));simp[List.takeWhile,List.dropWhile,ha,h1,h2]
theorem wl_name{n:ByteArray}(h:nameB n.data.toList=true)(d:UInt8)(r:List UInt8)(hd:prt d=false)(out:List ByteArray):wl (n.data.toList++d::r) out=wl (d::r) (out++[n]):=by
 obtain⟨c,t,he,hc,ht⟩:=name_parts h;obtain⟨h1,h2⟩:=takeWhile_all ht d r hd;rw[he,List.cons_append,wl_3 (kind_start hc),h1,h2];have:(⟨(c::t).toArray⟩:ByteArray)=n:=by apply data_inj;simp[he]
 rw[this]
theorem wl_last{n:ByteArray}(h:nameB n.data.toList=true)(out:List ByteArray):wl n.data.toList out=some (out++[n]):=by
 obtain⟨c,t,he,hc,ht⟩:=name_parts h;obtain⟨h1,h2⟩:=takeWhile_end ht;rw[he,wl_3 (kind_start hc),h1,h2,wl_nil];have:(⟨(c::t).toArray⟩:ByteArray)=n:=by apply data_inj;simp[he]
 rw[this]
def lineL(f:Fct):List UInt8:=
 if f.k=1 then f.p.data.toList++32::61::32::38::f.q.data.toList
 else if f.k=3 then f.p.data.toList++32::61::32::42::f.q.data.toList
 else if f.k=4 then 42::(f.p.data.toList++32::61::32::f.q.data.toList)
 else f.p.data.toList++32::61::32::f.q.data.toList
theorem lineL_eq(f:Fct):(lineB f.k f.p f.q).data.toList=lineL f++[10]:=by
 unfold lineB lineL;split
 ·simp[ByteArray.data_append]
 ·split
  ·simp[ByteArray.data_append]
  ·split
   ·simp[ByteArray.data_append]
   ·simp[ByteArray.data_append]
theorem said_line{f:Fct}(h:factB f.k f.p f.q=true):saidB ⟨(lineL f).toArray⟩=(f,0):=by
 obtain⟨k,p,q⟩:=f;simp only[factB,Bool.and_eq_true,decide_eq_true_eq]at h;obtain⟨⟨hk1,hk4⟩,hp,hq⟩:=h;have s61:kindB ((61:UInt8).toNat:Int)=2:=by decide
 have s38:kindB ((38:UInt8).toNat:Int)=2:=by decide
 have s42:kindB ((42:UInt8).toNat:Int)=2:=by decide
 have s32:kindB ((32:UInt8).toNat:Int)=1:=by decide
 have n61:isNm ⟨#[61]⟩=false:=by decide
 have n38:isNm ⟨#[38]⟩=false:=by decide
 have n42:isNm ⟨#[42]⟩=false:=by decide
 have ip:isNm p=true:=hp;have iq:isNm q=true:=hq;have hcase:k=1∨k=2∨k=3∨k=4:=by omega
 rcases hcase with rfl|rfl|rfl|rfl
 ·have hw:wordsR ⟨(lineL ⟨1,p,q⟩).toArray⟩ 0 []=some [p,⟨#[61]⟩,⟨#[38]⟩,q]:=by
   rw[words_wl];show wl (lineL ⟨1,p,q⟩) []=_;unfold lineL;rw[if_pos rfl,wl_name hp _ _ (by decide),wl_1 s32,wl_2 s61,wl_1 s32,wl_2 s38,wl_last hq];rfl
  rw[saidB_some hw];have g0:goodW [p,⟨#[61]⟩,⟨#[38]⟩,q] 0=true:=by rw[good_0];simp[ip,iq]
  have ef:fctW [p,⟨#[61]⟩,⟨#[38]⟩,q] 0=⟨1,p,q⟩:=by simp[fctW,nmsI,pat,noB,ByteArray.size]
  simp[saidW,g0,ef]
 ·have hw:wordsR ⟨(lineL ⟨2,p,q⟩).toArray⟩ 0 []=some [p,⟨#[61]⟩,q]:=by
   rw[words_wl];show wl (lineL ⟨2,p,q⟩) []=_;unfold lineL;rw[if_neg (show ¬(2:Int)=1 by decide),if_neg (show ¬(2:Int)=3 by decide),if_neg (show ¬(2:Int)=4 by decide),wl_name hp _ _ (by decide),wl_1 s32,wl_2 s61,wl_1 s32,wl_last hq];rfl
  rw[saidB_some hw];have g0:goodW [p,⟨#[61]⟩,q] 0=false:=good_len (by simp[pat]);have g1:goodW [p,⟨#[61]⟩,q] 1=true:=by rw[good_1];simp[ip,iq]
  have ef:fctW [p,⟨#[61]⟩,q] 1=⟨2,p,q⟩:=by simp[fctW,nmsI,pat,noB,ByteArray.size]
  simp[saidW,g0,g1,ef]
 ·have hw:wordsR ⟨(lineL ⟨3,p,q⟩).toArray⟩ 0 []=some [p,⟨#[61]⟩,⟨#[42]⟩,q]:=by
   rw[words_wl];show wl (lineL ⟨3,p,q⟩) []=_;unfold lineL;rw[if_neg (show ¬(3:Int)=1 by decide),if_pos rfl,wl_name hp _ _ (by decide),wl_1 s32,wl_2 s61,wl_1 s32,wl_2 s42,wl_last hq];rfl
  rw[saidB_some hw];have g0:goodW [p,⟨#[61]⟩,⟨#[42]⟩,q] 0=false:=by
   rw[good_0];simp
  have g1:goodW [p,⟨#[61]⟩,⟨#[42]⟩,q] 1=false:=good_len (by simp[pat]);have g2:goodW [p,⟨#[61]⟩,⟨#[42]⟩,q] 2=true:=by rw[good_2];simp[ip,iq]
  have ef:fctW [p,⟨#[61]⟩,⟨#[42]⟩,q] 2=⟨3,p,q⟩:=by simp[fctW,nmsI,pat,noB,ByteArray.size]
  simp[saidW,g0,g1,g2,ef]
 ·have hw:wordsR ⟨(lineL ⟨4,p,q⟩).toArray⟩ 0 []=some [⟨#[42]⟩,p,⟨#[61]⟩,q]:=by
   rw[words_wl];show wl (lineL ⟨4,p,q⟩) []=_;unfold lineL;rw[if_neg (show ¬(4:Int)=1 by decide),if_neg (show ¬(4:Int)=3 by decide),if_pos rfl,wl_2 s42,wl_name hp _ _ (by decide),wl_1 s32,wl_2 s61,wl_1 s32,wl_last hq];rfl
  rw[saidB_some hw];have g0:goodW [⟨#[42]⟩,p,⟨#[61]⟩,q] 0=false:=by rw[good_0];simp[n42]
  have g1:goodW [⟨#[42]⟩,p,⟨#[61]⟩,q] 1=false:=good_len (by simp[pat]);have g2:goodW [⟨#[42]⟩,p,⟨#[61]⟩,q] 2=false:=by rw[good_2];simp[n42]
  have g3:goodW [⟨#[42]⟩,p,⟨#[61]⟩,q] 3=true:=by rw[good_3];simp[ip,iq]
  have ef:fctW [⟨#[42]⟩,p,⟨#[61]⟩,q] 3=⟨4,p,q⟩:=by simp[fctW,nmsI,pat,noB,ByteArray.size]
  simp[saidW,g0,g1,g2,g3,ef]
end
section
open Go.RowKit Go.Maps
theorem name_nonl{n:List UInt8}(h:nameB n=true):∀c∈n,c≠10:=by
 obtain⟨c,t,rfl,hc,ht⟩:=name_parts h;intro x hx he;subst he;rcases List.mem_cons.1 hx with h1|h1
 ·rw[← h1]at hc;exact absurd hc (by decide)
 ·exact absurd (ht _ h1) (by decide)
theorem lineL_nonl{f:Fct}(h:factB f.k f.p f.q=true):∀c∈lineL f,c≠10:=by
 simp only[factB,Bool.and_eq_true]at h;obtain⟨_,hp,hq⟩:=h;have np:=name_nonl hp;have nq:=name_nonl hq;intro c hc;unfold lineL at hc;split at hc
 ·simp only[List.mem_append,List.mem_cons]at hc;rcases hc with h|rfl|rfl|rfl|rfl|h
  ·exact np c h
  ·decide
  ·decide
  ·decide
  ·decide
  ·exact nq c h
 ·split at hc
  ·simp only[List.mem_append,List.mem_cons]at hc;rcases hc with h|rfl|rfl|rfl|rfl|h
   ·exact np c h
   ·decide
   ·decide
   ·decide
   ·decide
   ·exact nq c h
  ·split at hc
   ·simp only[List.mem_append,List.mem_cons]at hc;rcases hc with rfl|h|rfl|rfl|rfl|h
    ·decide
    ·exact np c h
    ·decide
    ·decide
    ·decide
    ·exact nq c h
   ·simp only[List.mem_append,List.mem_cons]at hc;rcases hc with h|rfl|rfl|rfl|h
    ·exact np c h
    ·decide
    ·decide
    ·decide
    ·exact nq c h
def textL(fs:List Fct):List UInt8:=fs.flatMap fun f=>lineL f++[10]
theorem textL_cons(f:Fct)(r:List Fct):textL (f::r)=lineL f++10::textL r:=by simp[textL]
def okGo:List Fct→List Fct→Prop
 |_,[]=>True
 |pre,f::r=>factB f.k f.p f.q=true∧errOf pre f=0∧okGo (pre++[f]) r
theorem okGo_fact{pre fs:List Fct}(h:okGo pre fs):∀f∈fs,factB f.k f.p f.q=true:=by
 induction fs generalizing pre with
 |nil=>simp
 |cons f r ih=>
  intro x hx;rcases List.mem_cons.1 hx with rfl|hx
  ·exact h.1
  ·exact ih h.2.2 x hx
theorem errOf_small{pre:List Fct}{f:Fct}(h:errOf pre f=0):f.p.size≤12∧f.q.size≤12∧pre.length<120:=by
 by_cases h1:12<f.p.size∨12<f.q.size
 ·rw[errOf_name h1]at h;cases h
 ·by_cases h2:120≤pre.length
  ·rw[errOf_many h1 h2]at h;cases h
  ·exact⟨by omega,by omega,by omega⟩
theorem okGo_small{pre fs:List Fct}(h:okGo pre fs):(∀f∈fs,f.p.size≤12∧f.q.size≤12)∧(fs=[]∨pre.length+fs.length≤120):=by
 induction fs generalizing pre with
 |nil=>exact⟨by simp,.inl rfl⟩
 |cons f r ih=>
  obtain⟨a,b,c⟩:=errOf_small h.2.1;obtain⟨h1,h2⟩:=ih h.2.2;refine⟨fun x hx=>?_,.inr ?_⟩
  ·rcases List.mem_cons.1 hx with rfl|hx
   ·exact⟨a,b⟩
   ·exact h1 x hx
  ·rcases h2 with rfl|h2
   ·simp;omega
   ·rw[List.length_append]at h2;simp only[List.length_cons,List.length_nil]at h2 ⊢;omega
theorem print_ok{pre fs:List Fct}(h:okGo pre fs)(acc:List UInt8):printGo pre fs acc=(acc++textL fs,0,0):=by
 induction fs generalizing pre acc with
 |nil=>simp[printGo,textL]
 |cons f r ih=>rw[printGo_ok h.1 h.2.1,ih h.2.2,lineL_eq,textL_cons];simp
theorem lnL_text{fs:List Fct}(h:∀f∈fs,factB f.k f.p f.q=true):lnL (textL fs)=fs.map lineL++[[]]:=by
 induction fs with
 |nil=>rfl
 |cons f r ih=>rw[textL_cons,lnL_pre _ _ (lineL_nonl (h f (by simp))),ih (fun x hx=>h x (by simp[hx]))];rfl
theorem lineL_len(f:Fct):(lineL f).length≤f.p.size+f.q.size+4:=by
 have e1:f.p.data.toList.length=f.p.size:=Array.length_toList;have e2:f.q.data.toList.length=f.q.size:=Array.length_toList;unfold lineL;split
 ·simp only[List.length_append,List.length_cons,e1,e2];omega
 ·split
  ·simp only[List.length_append,List.length_cons,e1,e2];omega
  ·split
   ·simp only[List.length_append,List.length_cons,e1,e2];omega
   ·simp only[List.length_append,List.length_cons,e1,e2];omega
theorem textL_len{fs:List Fct}(h:∀f∈fs,f.p.size≤12∧f.q.size≤12):(textL fs).length≤29*fs.length:=by
 induction fs with
 |nil=>simp[textL]
 |cons f r ih=>
  have h1:=lineL_len f;have h2:=h f (by simp);have h3:=ih (fun x hx=>h x (by simp[hx]));rw[textL_cons,List.length_append,List.length_cons,List.length_cons];omega
theorem said_empty:saidB ⟨#[]⟩=(noF,0):=by
 have:wordsR ⟨#[]⟩ 0 []=some []:=by rw[words_wl];rfl
 rw[saidB_some this,saidW_nil rfl]
theorem arr_size(l:List UInt8):(⟨l.toArray⟩:ByteArray).size=l.length:=by
 show l.toArray.size=_;simp
theorem parse_lines{pre fs:List Fct}(h:okGo pre fs)(n:Nat):parseGo pre n (fs.map (fun f=>⟨(lineL f).toArray⟩)++[⟨#[]⟩])=(pre++fs,0,0):=by
 induction fs generalizing pre n with
 |nil=>
  rw[List.map_nil,List.nil_append,parseGo_skip (by decide) said_empty rfl];simp[parseGo]
 |cons f r ih=>
  obtain⟨a,b,_⟩:=errOf_small h.2.1;have hl:=lineL_len f;have hk:f.k≠0:=by
   have h1:=h.1;simp only[factB,Bool.and_eq_true,decide_eq_true_eq]at h1;omega
  rw[List.map_cons,List.cons_append,parseGo_add (by rw[arr_size];omega) (said_line h.1) hk h.2.1,ih h.2.2];simp
theorem print_parse{fs:List Fct}(h:okGo [] fs):parseB ⟨(textL fs).toArray⟩=(fs,0,0):=by
 obtain⟨h1,h2⟩:=okGo_small h;have h3:=textL_len h1;have hl:linesB ⟨(textL fs).toArray⟩=fs.map (fun f=>⟨(lineL f).toArray⟩)++[⟨#[]⟩]:=by
  apply map_inj;rw[linesB_lnL];show lnL (textL fs).toArray.toList=_;rw[List.toList_toArray,lnL_text (okGo_fact h),List.map_append,List.map_map];congr 1
 unfold parseB;rw[if_neg,hl,parse_lines h]
 ·rfl
 ·rw[arr_size];rcases h2 with rfl|h2
  ·simp[textL]
  ·simp only[List.length_nil]at h2;omega
theorem good_names{ws:List ByteArray}{k:Nat}(hk:k<4)(h:goodW ws k=true):factB (fctW ws k).k (fctW ws k).p (fctW ws k).q=true:=by
 have hl:(pat k).length=ws.length:=by
  simp only[goodW,Bool.and_eq_true,decide_eq_true_eq]at h;exact h.1
 match k,hk with
 |0,_=>
  match ws,hl with
  | [a,b,c,d],_=>
   rw[good_0]at h;simp only[Bool.and_eq_true,decide_eq_true_eq,isNm]at h;have ef:fctW [a,b,c,d] 0=⟨1,a,d⟩:=by simp[fctW,nmsI,pat,noB,ByteArray.size]
   rw[ef];simp[factB,h.1.1.1,h.2]
 |1,_=>
  match ws,hl with
  | [a,b,c],_=>
   rw[good_1]at h;simp only[Bool.and_eq_true,decide_eq_true_eq,isNm]at h;have ef:fctW [a,b,c] 1=⟨2,a,c⟩:=by simp[fctW,nmsI,pat,noB,ByteArray.size]
   rw[ef];simp[factB,h.1.1,h.2]
 |2,_=>
  match ws,hl with
  | [a,b,c,d],_=>
   rw[good_2]at h;simp only[Bool.and_eq_true,decide_eq_true_eq,isNm]at h;have ef:fctW [a,b,c,d] 2=⟨3,a,d⟩:=by simp[fctW,nmsI,pat,noB,ByteArray.size]
   rw[ef];simp[factB,h.1.1.1,h.2]
 |3,_=>
  match ws,hl with
  | [a,b,c,d],_=>
   rw[good_3]at h;simp only[Bool.and_eq_true,decide_eq_true_eq,isNm]at h;have ef:fctW [a,b,c,d] 3=⟨4,b,d⟩:=by simp[fctW,nmsI,pat,noB,ByteArray.size]
   rw[ef];simp[factB,h.1.1.2,h.2]
theorem said_fact{l:ByteArray}{f:Fct}(h:saidB l=(f,0))(hk:f.k≠0):factB f.k f.p f.q=true:=by
 cases hw:wordsR l 0 []with
 |none=>rw[saidB_none hw]at h;injection h with _ h;cases h
 |some ws=>
  rw[saidB_some hw]at h;unfold saidW at h;split at h
  ·injection h with h _;rw[← h]at hk;exact absurd rfl hk
  ·split at h
   ·rename_i g;injection h with h _;rw[← h];exact good_names (by decide) g
   ·split at h
    ·rename_i g;injection h with h _;rw[← h];exact good_names (by decide) g
    ·split at h
     ·rename_i g;injection h with h _;rw[← h];exact good_names (by decide) g
     ·split at h
      ·rename_i g;injection h with h _;rw[← h];exact good_names (by decide) g
      ·injection h with _ h;cases h
theorem parse_okGo{ls:List ByteArray}:∀ {pre fs:List Fct} {n:Nat} {m:Int},parseGo pre n ls=(fs,0,m)→∃r,fs=pre++r∧okGo pre r:=by
 induction ls with
 |nil=>
  intro pre fs n m h;simp only[parseGo,Prod.mk.injEq]at h;exact⟨[],by rw[← h.1];simp,trivial⟩
 |cons l q ih=>
  intro pre fs n m h;unfold parseGo at h;split at h
  ·injection h with _ h;injection h with h _;cases h
  ·split at h
   ·rename_i he;injection h with _ h;injection h with h _;exact absurd h he
   ·rename_i he;split at h
    ·exact ih h
    ·rename_i hk;split at h
     ·rename_i hz;obtain⟨r,hr,ho⟩:=ih h;refine⟨(saidB l).1::r,by rw[hr];simp,said_fact (l:=l) ?_ hk,hz,ho⟩;have:(saidB l).2=0:=by
       cases hd:decide ((saidB l).2=0)
       ·exact absurd (of_decide_eq_false hd) he
       ·exact of_decide_eq_true hd
      rw[← this]
     ·rename_i hz;injection h with _ h;injection h with h _;exact absurd h hz
theorem parse_ok{s:ByteArray}{fs:List Fct}{m:Int}(h:parseB s=(fs,0,m)):okGo [] fs:=by
 unfold parseB at h;split at h
 ·injection h with _ h;injection h with h _;cases h
 ·obtain⟨r,hr,ho⟩:=parse_okGo h;rw[hr];exact ho
end
section
open Go.RowKit Go.Maps
theorem okGo_kinds{pre fs:List Fct}(h:okGo pre fs):∀f∈fs,1≤f.k∧f.k≤4:=by
 intro f hf;have:=okGo_fact h f hf;simp only[factB,Bool.and_eq_true,decide_eq_true_eq]at this;exact this.1
theorem okGo_dcount:∀ {fs pre:List Fct},okGo pre fs→fs=[]∨dcount (namesL (pre++fs))≤40:=by
 intro fs;induction fs with
 |nil=>intro pre _;exact .inl rfl
 |cons f r ih=>
  intro pre h;right;rcases ih h.2.2 with h1|h1
  ·subst h1;have h2:=h.2.1;obtain⟨a,b,c⟩:=errOf_small h2;by_cases h3:40<dcount (namesL (pre++[f]))
   ·rw[errOf_full (by omega) (by omega) h3]at h2;cases h2
   ·omega
  ·rw[List.append_assoc,List.singleton_append]at h1;exact h1
end
end Go.Proofs.YtiamlbhkiehilaaGreatDoor
