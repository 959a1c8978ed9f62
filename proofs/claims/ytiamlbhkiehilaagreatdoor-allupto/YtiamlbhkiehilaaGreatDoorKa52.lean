import Derived.Test.YtiamlbhkiehilaaGreatDoorKa51
import Derived.Test.YtiamlbhkiehilaaGreatDoorCards
import Derived.Test.YtiamlbhkiehilaaGreatDoorTie
open Go.DataW renaming TrodAll→Nq
open Go.Proofs.Tryz renaming prog→hE,checked→Nx,func10→NR
open Go.Proofs.YtiamlbhkiehilaaGreatDoor.Rows renaming allSpec→LH,allUptoRow→MS,uptoBulkAll→Jd
open Go.World renaming holding→OX
open List renaming append_nil→JK
open Option.some renaming inj→KY
namespace Go.Proofs.YtiamlbhkiehilaaGreatDoor
set_option maxRecDepth 100000
section
open Go.ChangeShapes Go.WideShapes Go.ChangeAt Go.RowKit Go.Deep Go.ChangeMaps
set_option maxHeartbeats 4000000 in
theorem yV(H:Type)(enc:TypeId × Value→H)(W:World)(u:Nat)(args:Array Value)(a f:List (DataW H))(w:List MemPlace)
  (g:∀(j:Nat) t v,Tryz.f10.params[j]?=some t→args[j]?=some v→Value.okWide hE W .any u t v)
  (h:DataW.Whole enc hE Tryz.f10.params.toList LH.vars false W args.toList a f w) (i:Rows.uptoSmall H (a++f)=true) (y:laidMet hE MS.laid W) (z:W.ShapedOpen hE) :
  Calls hE 10 args W fun e W'=>∃v,e=.returned v∧LH.post enc hE Tryz.f10 false true false false W args v W':=by
 have c:=h;obtain⟨p,a2,k,A,rfl,_,_⟩:=h;have d:Nq enc hE W 0 (fun _=>true) true Tryz.f10.params.toList args.toList a p:=k;obtain⟨rfl,rfl⟩:=trodVars_none A;simp only[JK]at c;have B:∀x∈p,x.block<W.heap.size:=fun x C=>by simpa using c.lt x C
 have D:∀(W':World),Below W.heap.size W W'→Nq enc hE W' 0 (fun b=>decide (b<W.heap.size)) true Tryz.f10.params.toList args.toList a p:=
  fun W' E=>vZ (of_decide_eq_true (by kernel_rfl)) d E B
 rw[Tryz.params10]at d g;obtain⟨F,l,rfl,rfl,G⟩:=trodAll_one d;simp only[JK]at i;have I:Jd [l]≤1048576:=of_decide_eq_true i;have J:Rows.uptoBulk l≤1048576:=by simp only[Jd]at I;omega
 obtain⟨n,K,o,rfl⟩:=okWide_slice Tryz.underlying70 (g 0 70 F rfl rfl);obtain⟨a3,L⟩:=G;obtain⟨M,N,q,O,P,Q,R⟩:=CC L J;have S:Value.slice n K o=.slice M q.length N:=by simpa[Value.cells]using O
 injection S with T U V;subst T U V;clear k;obtain⟨m,r⟩:=AL W z;obtain⟨X,Y⟩:=AM y;have Z:=World.block_lt_of_cell? _ _ r;haveI:DP:=fun fs a0 b=>Classical.propDecidable (Pts fs a0 b)
 refine(F9 n o q W m r Z X Y P Q R).mono fun e W' ⟨he,s⟩=>?_
 subst he;exact⟨_,rfl,_,_,_,[],_,[],c,trodAll_mk1 (shut_bool Tryz.underlying4 true),D _ s,rfl,s.frame _,fun a1=>by cases a1⟩
theorem CD(a:Os)(b:a.Started)(H:Type)(enc:TypeId × Value→H)(F:Stop.Interp) :
  ReturnsInHanded {} Nx a 10 .any ((Rows.OpenSpec.upto LH).preRow enc hE Tryz.f10 MS.domain false MS.laid) (((Rows.OpenSpec.upto LH).at F).post enc hE Tryz.f10 false true false false):=by
 refine returnsInHanded_of_row (C:=Nx) (s:=Rows.OpenSpec.upto LH) IC b (by kernel_rfl) NR
  (witness_row_at (enc:=enc) (C:=Nx) false { OX hE a ⟨#[],#[],[]⟩with heap:=(((OX hE a ⟨#[],#[],[]⟩).heap.modify 2 ID).modify 3 IE).modify 0 IF } #[.slice none 0 0] rfl (by kernel_rfl) (by kernel_rfl) (by kernel_rfl)
   (OpenSpec.preRow_of_cond 8 (x:=([.nil],[],[])) (by kernel_rfl) (by kernel_rfl) (fun k c=>by cases c;kernel_rfl) (by kernel_rfl) (laidMet_of_run' 8 (by kernel_rfl) (by kernel_rfl)))) ?_
 intro W d args e f g h i _ j _ l m _;exact yV H enc W d args e f g h i (j _ rfl) l m
theorem Ev:Rows.AllUptoSaid:=
 OpenClaim.holds_of_cond 10 Tryz.f10 rfl rfl rfl rfl rfl rfl rfl ⟨rfl,rfl,rfl,rfl,rfl⟩ rfl rfl rfl rfl rfl (by kernel_rfl) NR (by kernel_rfl)
  (of_decide_eq_true (by kernel_rfl)) (by unfold Func.isWrapper;first|(rw[if_pos (by decide +kernel)];kernel_rfl)|(rw[if_neg (by decide +kernel)];exact⟨rfl,rfl⟩))
  (fun a b H c _ F=>by rw[OpenClaim.pre_eq_preRow];exact CD a b H c F)
theorem Ew (f : FuncId) (a : Func) (c : Tryz.pinned.checked.prog.funcNamed "quern/quernlaw.All" = some f) (d : Tryz.pinned.checked.prog.funcs[f]? = some a) :
  false=Tryz.pinned.checked.prog.looks []∧∀(j:Nat) t,a.params[j]?=some t→Tryz.pinned.checked.prog.wantsStandIn t=false:=by
 obtain rfl : f = 10 := KY ((show hE.funcNamed "quern/quernlaw.All" = some 10 by kernel_rfl).symm.trans c) |>.symm
 obtain rfl:a=Tryz.f10:=(KY (NR.symm.trans d)).symm;refine⟨by kernel_rfl,fun j t b=>?_⟩;rw[Tryz.params10]at b;obtain rfl:t=70:=by simpa using Array.mem_of_getElem? b
 exact(show hE.wantsStandIn 70=false by kernel_rfl)
theorem all_card:Rows.AllUptoCardSaid:=
 Claim7.holds_tied_plain_at .later [] _ _ _ _ Ev (fun _ h=>by cases h) (by kernel_rfl) (fun _ h=>by cases h) allUpto_row_tie rfl ⟨rfl,rfl⟩ (by kernel_rfl) rfl Ew (by kernel_rfl)
end
end Go.Proofs.YtiamlbhkiehilaaGreatDoor
