import Derived.Test.YtiamlbhkiehilaaGreatDoorKp39
import Derived.Test.YtiamlbhkiehilaaGreatDoorKp41
namespace Go.Proofs.YtiamlbhkiehilaaGreatDoor
section
open Go.RowKit Go.Shelf Go.Maps
attribute [local go_sem] Oper.semAt_some
structure Tab (w:World):Prop where
 ml:∃ m,w.cell? ⟨1,0,none⟩=some (.int .i64 m)
 mlt:1 < w.heap.size
 tab:TabAt w
 tlt:0 < w.heap.size
theorem Tab.below {w w':World} (h:Tab w) (hb:Below w.heap.size w w'):Tab w':=by
 obtain ⟨m,hm⟩:=h.ml
 exact ⟨⟨m,(hb.cell (p:=⟨1,0,none⟩) h.mlt).trans hm⟩,Nat.lt_of_lt_of_le h.mlt hb.size,h.tab.kb (Kb.of_below hb []) (by simp),Nat.lt_of_lt_of_le h.tlt hb.size⟩
def cfgW (k:Nat):Way:=⟨(k:Int) % 3,(k:Int) / 3 % 2 == 1,(k:Int) / 6 % 2 == 1,(k:Int) / 12 % 2 == 1,(k:Int) / 24 % 2 == 1⟩
theorem cfgV_way (k:Nat):cfgV k=wayV (cfgW k):=rfl
theorem cfgW_ord (k:Nat):0≤(cfgW k).order∧(cfgW k).order≤2:=by
 show 0≤(k:Int) % 3∧(k:Int) % 3≤2
 omega
def txF (fs:List Fct):ByteArray:=⟨(textL fs).toArray⟩
def txS [DP] (fs:List Fct):ByteArray:=⟨(rowsText (solR fs)).toArray⟩
theorem txF_size {fs:List Fct} (h:okGo [] fs):(txF fs).size≤maxLen:=by
 obtain ⟨hsm,hcn⟩:=okGo_small h
 have hlen:fs.length≤120:=by
  rcases hcn with h | h
  ·rw [h]; simp
  ·simpa using h
 have htl:=textL_len hsm
 unfold txF
 rw [arr_size]
 unfold maxLen
 omega
theorem txS_size [DP] {fs:List Fct} (h:okGo [] fs):(txS fs).size≤maxLen:=by
 have:=(sol_ok h).2
 unfold txS
 rw [arr_size]
 unfold maxLen
 omega
theorem kprint_any {fs:List Fct} (h:okGo [] fs) (v:Value) (w:World) (hv:IsFacts v fs w) :
  Calls Tryz.prog 14 #[v] w fun e w'=>e=.returned (.tuple #[.string (txF fs),.agg #[.int .i64 0,.int .i64 0]])∧Below w.heap.size w w':=by
 obtain ⟨hsm,hcn⟩:=okGo_small h
 have hlen:fs.length≤120:=by
  rcases hcn with h | h
  ·rw [h]; simp
  ·simpa using h
 have hqp:=qprint_any v fs w (by unfold maxLen; omega) hv (fun f hf=>by have:=hsm f hf; unfold maxLen; omega)
 rw [print_ok h []] at hqp
 exact hqp
theorem kanalyze_any [DP] {fs:List Fct} (h:okGo [] fs) (c:Way) (hc:0≤c.order∧c.order≤2) (w:World) (hT:Tab w) :
  Calls Tryz.prog 12 #[.string (txF fs),wayV c] w fun e w'=>e=.returned (.tuple #[.agg #[.string (txS fs),.int .i64 (unS fs c:Int)],.agg #[.int .i64 0,.int .i64 0]])∧Below w.heap.size w w':=by
 obtain ⟨m,hm⟩:=hT.ml
 refine qanalyze_of (txF fs) c _ _ _ _ w (fun W hb=>?_)
 have hT':=hT.below hb
 obtain ⟨m,hm⟩:=hT'.ml
 exact panalyze_sol (txF fs) c fs W m (txF_size h) hm hT'.mlt hT'.tab hT'.tlt hc (print_parse h)
theorem kread_any [DP] {fs:List Fct} (h:okGo [] fs) (w:World) (hT:Tab w) :
  Calls Tryz.prog 25 #[.string (txS fs)] w fun e w'=>∃ v ps,e=.returned (.tuple #[v,.agg #[.int .i64 0,.int .i64 0]])∧ps.map Prod.fst=solR fs∧OwnR w' w.heap.size w'.heap.size v ps∧Below w.heap.size w w':=by
 obtain ⟨m,hm⟩:=hT.ml
 have h1:=qread_any (txS fs) w m (txS_size h) hm
 have h2:readB (txS fs)=(solR fs,0,0):=tell_read (sol_ok h).1 (sol_ok h).2
 unfold RdRes at h1
 rw [h2] at h1
 exact h1
theorem sol_len [DP] (fs:List Fct):(solR fs).length=(nsOf fs).length:=by unfold solR; rw [List.length_map]
theorem un_le [DP] {fs:List Fct} (h:okGo [] fs) (c:Way):unS fs c≤(nsOf fs).length * (nsOf fs).length * (nsOf fs).length+4 * ((nsOf fs).length * (nsOf fs).length)+(nsOf fs).length:=by
 obtain ⟨sA,sF,_,_,hu,hub,_⟩:=run_sol h c
 rw [← hu]
 exact hub
theorem kraw_ok (rs:List RawD) {m:Nat} (hm:m≤120):okGo [] ((rs.take m).map RawD.fct):=raw_ok (by simp) (by rw [List.length_take]; simp; omega)
end
end Go.Proofs.YtiamlbhkiehilaaGreatDoor
