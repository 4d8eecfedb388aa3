/-
  How the arguments of layer 18's statements are read (descriptors, Slices, Places, Targets); the conditions of their rows: the tables of widths lie where the program's text lays them. Of all values.
-/
import Derived.Test.YtlghkdkaifcliaaDoorRows
import Derived.ProofKit
import Derived.LaidMore
import Derived.OpenShut
import Derived.Stop.Joined
import Derived.Test.YtlghkdkaifcliaaDoorDsE
import Derived.Test.YtlghkdkaifcliaaDoorRowArgs
namespace Go.Proofs.YtlghkdkaifcliaaDoor
open Go.RowKit Gf Go.Deep Go.ChangeShapes Go.WideShapes Go.ChangeAt Go.WideMaps Go.WideElems Ds
set_option maxRecDepth 100000
set_option linter.unusedVariables false
theorem inI_wf {n : Int} (h : (Lit.int .i64 n).wf = true) : inI n := by
  unfold inI
  have h1 : IntKind.i64.min = -9223372036854775808 := by decide
  have h2 : IntKind.i64.max = 9223372036854775807 := by decide
  simp [Lit.wf] at h
  omega
theorem ds_of2 {α : Type} : ∀ {l : List α}, l.length = 2 → ∃ v0 v1, l = [v0, v1]
  | [v0, v1], _ => ⟨v0, v1, rfl⟩
theorem ds_of4 {α : Type} : ∀ {l : List α}, l.length = 4 → ∃ v0 v1 v2 v3, l = [v0, v1, v2, v3]
  | [v0, v1, v2, v3], _ => ⟨v0, v1, v2, v3, rfl⟩
theorem ds_of5 {α : Type} : ∀ {l : List α}, l.length = 5 → ∃ v0 v1 v2 v3 v4, l = [v0, v1, v2, v3, v4]
  | [v0, v1, v2, v3, v4], _ => ⟨v0, v1, v2, v3, v4, rfl⟩
theorem ds_of7 {α : Type} : ∀ {l : List α}, l.length = 7 → ∃ v0 v1 v2 v3 v4 v5 v6, l = [v0, v1, v2, v3, v4, v5, v6]
  | [v0, v1, v2, v3, v4, v5, v6], _ => ⟨v0, v1, v2, v3, v4, v5, v6, rfl⟩
theorem dsc_cells {H : Type} {enc : TypeId × Value → H} {W : World} {base fuel : Nat} {spare : Nat → Bool} {held : Bool} {cs : List Value} {d : DataW H} {p : List MemPlace}
    (hf : DataW.trod enc Tryd.prog W base spare held fuel 37 cs = some (d, p)) : ∃ s : Dsc, cs = dsC s := by
  obtain ⟨xs, m, _, _, hl, hx, hi⟩ := DataW.trod_struct Tryd.underlying37 hf
  have cc : Tryd.prog.cellsOf 37 = 2 := by kernel_rfl
  have ci : Tryd.prog.cellsOf 3 = 1 := by kernel_rfl
  have cb : Tryd.prog.cellsOf 4 = 1 := by kernel_rfl
  have cst : Tryd.prog.cellsOf 9 = 1 := by kernel_rfl
  rw [cc] at hl
  obtain ⟨v0, v1, rfl⟩ := ds_of2 hl
  obtain ⟨y0, y1, rfl⟩ := ds_of2 (show xs.length = 2 from hx)
  have h0 := hi 0 _ rfl
  have h1 := hi 1 _ rfl
  simp [ci, cst] at h0 h1
  obtain ⟨x0, e0, _, wf0⟩ := DataW.trod_int Tryd.underlying3 h0
  obtain ⟨x1, e1, _⟩ := DataW.trod_string Tryd.underlying9 h1
  simp at e0 e1
  exact ⟨⟨x0, x1⟩, by rw [e0, e1]⟩
theorem slc_cells {H : Type} {enc : TypeId × Value → H} {W : World} {base fuel : Nat} {spare : Nat → Bool} {held : Bool} {cs : List Value} {d : DataW H} {p : List MemPlace}
    (hf : DataW.trod enc Tryd.prog W base spare held fuel 42 cs = some (d, p)) : ∃ s : Slc, cs = slC s ∧ inI s.rows := by
  obtain ⟨xs, m, _, _, hl, hx, hi⟩ := DataW.trod_struct Tryd.underlying42 hf
  have cc : Tryd.prog.cellsOf 42 = 7 := by kernel_rfl
  have ci : Tryd.prog.cellsOf 3 = 1 := by kernel_rfl
  have cb : Tryd.prog.cellsOf 4 = 1 := by kernel_rfl
  have cst : Tryd.prog.cellsOf 9 = 1 := by kernel_rfl
  rw [cc] at hl
  obtain ⟨v0, v1, v2, v3, v4, v5, v6, rfl⟩ := ds_of7 hl
  obtain ⟨y0, y1, y2, y3, y4, y5, y6, rfl⟩ := ds_of7 (show xs.length = 7 from hx)
  have h0 := hi 0 _ rfl
  have h1 := hi 1 _ rfl
  have h2 := hi 2 _ rfl
  have h3 := hi 3 _ rfl
  have h4 := hi 4 _ rfl
  have h5 := hi 5 _ rfl
  have h6 := hi 6 _ rfl
  simp [ci, cb, cst] at h0 h1 h2 h3 h4 h5 h6
  obtain ⟨x0, e0, _⟩ := DataW.trod_bool Tryd.underlying4 h0
  obtain ⟨x1, e1, _⟩ := DataW.trod_bool Tryd.underlying4 h1
  obtain ⟨x2, e2, _, wf2⟩ := DataW.trod_int Tryd.underlying3 h2
  obtain ⟨x3, e3, _, wf3⟩ := DataW.trod_int Tryd.underlying3 h3
  obtain ⟨x4, e4, _, wf4⟩ := DataW.trod_int Tryd.underlying3 h4
  obtain ⟨x5, e5, _, wf5⟩ := DataW.trod_int Tryd.underlying3 h5
  obtain ⟨x6, e6, _⟩ := DataW.trod_string Tryd.underlying9 h6
  simp at e0 e1 e2 e3 e4 e5 e6
  exact ⟨⟨x0, x1, x2, x3, x4, x5, x6⟩, by rw [e0, e1, e2, e3, e4, e5, e6], inI_wf wf2⟩
theorem plc_cells {H : Type} {enc : TypeId × Value → H} {W : World} {base fuel : Nat} {spare : Nat → Bool} {held : Bool} {cs : List Value} {d : DataW H} {p : List MemPlace}
    (hf : DataW.trod enc Tryd.prog W base spare held fuel 55 cs = some (d, p)) : ∃ s : Plc, cs = plC s := by
  obtain ⟨xs, m, _, _, hl, hx, hi⟩ := DataW.trod_struct Tryd.underlying55 hf
  have cc : Tryd.prog.cellsOf 55 = 5 := by kernel_rfl
  have ci : Tryd.prog.cellsOf 3 = 1 := by kernel_rfl
  have cb : Tryd.prog.cellsOf 4 = 1 := by kernel_rfl
  have cst : Tryd.prog.cellsOf 9 = 1 := by kernel_rfl
  rw [cc] at hl
  obtain ⟨v0, v1, v2, v3, v4, rfl⟩ := ds_of5 hl
  obtain ⟨y0, y1, y2, y3, y4, rfl⟩ := ds_of5 (show xs.length = 5 from hx)
  have h0 := hi 0 _ rfl
  have h1 := hi 1 _ rfl
  have h2 := hi 2 _ rfl
  have h3 := hi 3 _ rfl
  have h4 := hi 4 _ rfl
  simp [ci] at h0 h1 h2 h3 h4
  obtain ⟨x0, e0, _, wf0⟩ := DataW.trod_int Tryd.underlying3 h0
  obtain ⟨x1, e1, _, wf1⟩ := DataW.trod_int Tryd.underlying3 h1
  obtain ⟨x2, e2, _, wf2⟩ := DataW.trod_int Tryd.underlying3 h2
  obtain ⟨x3, e3, _, wf3⟩ := DataW.trod_int Tryd.underlying3 h3
  obtain ⟨x4, e4, _, wf4⟩ := DataW.trod_int Tryd.underlying3 h4
  simp at e0 e1 e2 e3 e4
  exact ⟨⟨x0, x1, x2, x3, x4⟩, by rw [e0, e1, e2, e3, e4]⟩
theorem open_dsc {H : Type} {enc : TypeId × Value → H} {W : World} {r : Reach} {b0 base : Nat} {spare : Nat → Bool} {held : Bool} {v : Value} {d : DataW H} {p : List MemPlace}
    (hv : Value.okWide Tryd.prog W r b0 37 v) (h : DataW.Trod enc Tryd.prog W base spare held 37 v d p) : ∃ s : Dsc, v = dsV s := by
  obtain ⟨cs, rfl, hsz, _⟩ : ∃ cs, v = .agg cs ∧ cs.size = Tryd.prog.cellsOf 37 ∧ Row.okWide Tryd.prog W r b0 37 cs := by
    simpa [Value.okWide, Tryd.underlying37] using hv
  obtain ⟨l⟩ := cs
  obtain ⟨fuel, hf⟩ := h
  obtain ⟨s, hs⟩ := dsc_cells hf
  exact ⟨s, by rw [show l = dsC s from hs]⟩
theorem open_slc {H : Type} {enc : TypeId × Value → H} {W : World} {r : Reach} {b0 base : Nat} {spare : Nat → Bool} {held : Bool} {v : Value} {d : DataW H} {p : List MemPlace}
    (hv : Value.okWide Tryd.prog W r b0 42 v) (h : DataW.Trod enc Tryd.prog W base spare held 42 v d p) : ∃ s : Slc, inI s.rows ∧ v = slV s := by
  obtain ⟨cs, rfl, hsz, _⟩ : ∃ cs, v = .agg cs ∧ cs.size = Tryd.prog.cellsOf 42 ∧ Row.okWide Tryd.prog W r b0 42 cs := by
    simpa [Value.okWide, Tryd.underlying42] using hv
  obtain ⟨l⟩ := cs
  obtain ⟨fuel, hf⟩ := h
  obtain ⟨s, hs, hr⟩ := slc_cells hf
  exact ⟨s, hr, by rw [show l = slC s from hs]⟩
theorem open_plc {H : Type} {enc : TypeId × Value → H} {W : World} {r : Reach} {b0 base : Nat} {spare : Nat → Bool} {held : Bool} {v : Value} {d : DataW H} {p : List MemPlace}
    (hv : Value.okWide Tryd.prog W r b0 55 v) (h : DataW.Trod enc Tryd.prog W base spare held 55 v d p) : ∃ s : Plc, v = plV s := by
  obtain ⟨cs, rfl, hsz, _⟩ : ∃ cs, v = .agg cs ∧ cs.size = Tryd.prog.cellsOf 55 ∧ Row.okWide Tryd.prog W r b0 55 cs := by
    simpa [Value.okWide, Tryd.underlying55] using hv
  obtain ⟨l⟩ := cs
  obtain ⟨fuel, hf⟩ := h
  obtain ⟨s, hs⟩ := plc_cells hf
  exact ⟨s, by rw [show l = plC s from hs]⟩
/-- A row of descriptors. -/
theorem open_dscrow {H : Type} {enc : TypeId × Value → H} {W : World} {base : Nat} {held : Bool} {a : Option Addr} {len cap : Nat} {d : DataW H} {p : List MemPlace}
    (h : DataW.Trod enc Tryd.prog W base (fun _ => true) held 22 (.slice a len cap) d p) : ∃ l, IsE rowD W a len l ∧ len ≤ maxLen :=
  open_rowE rowD (by kernel_rfl) (fun _ _ _ _ hf => dsc_cells hf) h
theorem open_slc2 {H : Type} {enc : TypeId × Value → H} {W : World} {r : Reach} {b0 base : Nat} {spare : Nat → Bool} {held : Bool} {v : Value} {d : DataW H} {p : List MemPlace}
    (hv : Value.okWide Tryd.prog W r b0 92 v) (h : DataW.Trod enc Tryd.prog W base spare held 92 v d p) : ∃ s t : Slc, inI s.rows ∧ inI t.rows ∧ v = .agg (slC s ++ slC t).toArray := by
  obtain ⟨cs, rfl, hsz, _⟩ : ∃ cs, v = .agg cs ∧ cs.size = Tryd.prog.cellsOf 92 ∧ Row.okWide Tryd.prog W r b0 92 cs := by
    simpa [Value.okWide, Tryd.underlying92] using hv
  have c2 : Tryd.prog.cellsOf 92 = 14 := by kernel_rfl
  have c1 : Tryd.prog.cellsOf 42 = 7 := by kernel_rfl
  rw [c2] at hsz
  obtain ⟨l⟩ := cs
  have hl : l.length = 14 := hsz
  obtain ⟨fuel, hf⟩ := h
  obtain ⟨xs, m, _, _, _, hn, hxs⟩ := DataW.trod_array Tryd.underlying92 hf
  have h0 := hxs 0 (by omega)
  have h1 := hxs 1 (by omega)
  rw [c1] at h0 h1
  obtain ⟨y0, y1, rfl⟩ := ds_of2 hn
  simp [Value.cells] at h0 h1
  obtain ⟨s, hs, hr⟩ := slc_cells h0
  obtain ⟨t, ht, hr2⟩ := slc_cells h1
  rw [List.take_of_length_le (by rw [List.length_drop, hl]; decide)] at ht
  exact ⟨s, t, hr, hr2, by rw [← hs, ← ht, List.take_append_drop]⟩
theorem open_plc2 {H : Type} {enc : TypeId × Value → H} {W : World} {r : Reach} {b0 base : Nat} {spare : Nat → Bool} {held : Bool} {v : Value} {d : DataW H} {p : List MemPlace}
    (hv : Value.okWide Tryd.prog W r b0 93 v) (h : DataW.Trod enc Tryd.prog W base spare held 93 v d p) : ∃ s t : Plc, v = .agg (plC s ++ plC t).toArray := by
  obtain ⟨cs, rfl, hsz, _⟩ : ∃ cs, v = .agg cs ∧ cs.size = Tryd.prog.cellsOf 93 ∧ Row.okWide Tryd.prog W r b0 93 cs := by
    simpa [Value.okWide, Tryd.underlying93] using hv
  have c2 : Tryd.prog.cellsOf 93 = 10 := by kernel_rfl
  have c1 : Tryd.prog.cellsOf 55 = 5 := by kernel_rfl
  rw [c2] at hsz
  obtain ⟨l⟩ := cs
  have hl : l.length = 10 := hsz
  obtain ⟨fuel, hf⟩ := h
  obtain ⟨xs, m, _, _, _, hn, hxs⟩ := DataW.trod_array Tryd.underlying93 hf
  have h0 := hxs 0 (by omega)
  have h1 := hxs 1 (by omega)
  rw [c1] at h0 h1
  obtain ⟨y0, y1, rfl⟩ := ds_of2 hn
  simp [Value.cells] at h0 h1
  obtain ⟨s, hs⟩ := plc_cells h0
  obtain ⟨t, ht⟩ := plc_cells h1
  rw [List.take_of_length_le (by rw [List.length_drop, hl]; decide)] at ht
  exact ⟨s, t, by rw [← hs, ← ht, List.take_append_drop]⟩
theorem laid_entry {P : Program} {w : World} : ∀ {laid : List (String × DataW Unit)} {ps : List MemPlace}, DataW.LaidVars P w laid ps → ∀ {n : String} {d : DataW Unit}, (n, d) ∈ laid →
    ∃ g t cs fuel p, P.globalNamed n = some g ∧ (P.globals[g]?).map (·.type) = some t ∧ w.var? P n = some cs ∧ DataW.trod (fun _ => ()) P w 0 (fun _ => true) false fuel t cs.toList = some (d, p)
  | [], _, _, _, _, hm => by cases hm
  | (m, e) :: r, _, h, n, d, hm => by
    obtain ⟨g, t, cs, fuel, p, q, h1, h2, h3, h4, h5, _⟩ := h
    rcases List.mem_cons.1 hm with k | k
    · obtain ⟨rfl, rfl⟩ := Prod.mk.inj k
      exact ⟨g, t, cs, fuel, p, h1, h2, h3, h4⟩
    · exact laid_entry h5 k
theorem laid_in {W : World} {laid : List (String × DataW Unit)} (h : laidMetH Tryd.prog laid W) (hp : (laid.all fun x => x.2.handleName?.isNone) = true) {n : String} {d : DataW Unit} (hm : (n, d) ∈ laid) :
    ∃ g t cs fuel p, Tryd.prog.globalNamed n = some g ∧ (Tryd.prog.globals[g]?).map (·.type) = some t ∧ W.var? Tryd.prog n = some cs ∧ DataW.trod (fun _ => ()) Tryd.prog W 0 (fun _ => true) false fuel t cs.toList = some (d, p) := by
  rw [MakeChecks.laidMetH_plain _ _ _ hp] at h
  obtain ⟨ps, h1, _⟩ := h
  exact laid_entry h1 hm
/-- One table: nine numbers, as the row lists them. -/
theorem tab_of {W : World} {name : String} {g : Nat} {ws : List Nat} {d : DataW Unit} (hg : Tryd.prog.globalNamed name = some g) (ht : (Tryd.prog.globals[g]?).map (·.type) = some 113) (hw : ws.length = 9) (hd : d = .agg (ws.map fun n : Nat => DataW.lit (.int .i64 (n : Int))))
    (h : ∃ g t cs fuel p, Tryd.prog.globalNamed name = some g ∧ (Tryd.prog.globals[g]?).map (·.type) = some t ∧ W.var? Tryd.prog name = some cs ∧ DataW.trod (fun _ => ()) Tryd.prog W 0 (fun _ => true) false fuel t cs.toList = some (d, p)) : Tab g ws W := by
  obtain ⟨g0, t0, cs0, f0, p0, hg0, ht0, hv0, hd0⟩ := h
  obtain rfl := Option.some.inj (hg.symm.trans hg0)
  obtain rfl := Option.some.inj (ht.symm.trans ht0)
  obtain ⟨xs, m1, rfl, hx1, hlen, hn3, hel⟩ := DataW.trod_array Tryd.underlying113 hd0
  have c3 : Tryd.prog.cellsOf 3 = 1 := by kernel_rfl
  refine ⟨hw, fun j v hj => ?_⟩
  have hj9 : j < 9 := by have := (List.getElem?_eq_some_iff.1 hj).1; rw [List.length_map, il_length, hw] at this; exact this
  have h0 := hel j hj9
  obtain ⟨x, hx⟩ : ∃ x, xs[j]? = some x := ⟨_, List.getElem?_eq_getElem (by omega)⟩
  rw [hx] at h0
  obtain ⟨k, e1, e2, _⟩ := DataW.trod_int Tryd.underlying3 h0
  rw [c3, Nat.mul_one] at e1
  have hc : cs0[j]? = some (.int .i64 k) := by
    have : (List.take 1 (List.drop j cs0.toList))[0]? = some (.int .i64 k) := by rw [e1]; rfl
    rw [List.getElem?_take_of_lt (by decide), List.getElem?_drop, Nat.add_zero, Array.getElem?_toList] at this
    exact this
  rw [Nat.zero_add, World.var?_cell hg0 hv0 j, hc]
  have hm : (xs.map (·.1))[j]? = some (DataW.lit (.int .i64 k)) := by rw [List.getElem?_map, hx, e2]; rfl
  have hx2 : (DataW.agg (xs.map (·.1)) : DataW Unit) = .agg (ws.map fun n : Nat => DataW.lit (.int .i64 (n : Int))) := ((Prod.mk.inj hx1).1).symm.trans hd
  have hx3 := DataW.agg.inj hx2
  rw [hx3, List.getElem?_map] at hm
  have hj2 := nC_get (l := il ws) (k := j) (by rw [il_length, hw]; exact hj9)
  rw [hj2, gi_il] at hj
  obtain ⟨n, hn, hn2⟩ := Option.map_eq_some_iff.1 hm
  have hkn : (n : Int) = k := by injection hn2 with hn2; injection hn2
  have hgn : gn ws j = n := by unfold gn; rw [List.getD_eq_getElem?_getD, hn]; rfl
  rw [← hj, hgn, hkn]
theorem gSX : Tryd.prog.globalNamed "clarion/descr.ofSlice" = some 0 := by kernel_rfl
theorem tSX : (Tryd.prog.globals[0]?).map (·.type) = some 113 := by kernel_rfl
theorem gPX : Tryd.prog.globalNamed "clarion/descr.ofPlace" = some 1 := by kernel_rfl
theorem tPX : (Tryd.prog.globals[1]?).map (·.type) = some 113 := by kernel_rfl
theorem gTX : Tryd.prog.globalNamed "clarion/descr.ofTarget" = some 2 := by kernel_rfl
theorem tTX : (Tryd.prog.globals[2]?).map (·.type) = some 113 := by kernel_rfl
theorem gIX : Tryd.prog.globalNamed "clarion/descr.ofInt" = some 4 := by kernel_rfl
theorem tIX : (Tryd.prog.globals[4]?).map (·.type) = some 113 := by kernel_rfl
theorem gHX : Tryd.prog.globalNamed "clarion/descr.ofHead" = some 3 := by kernel_rfl
theorem tHX : (Tryd.prog.globals[3]?).map (·.type) = some 113 := by kernel_rfl
theorem gLX : Tryd.prog.globalNamed "clarion/descr.ofLong" = some 5 := by kernel_rfl
theorem tLX : (Tryd.prog.globals[5]?).map (·.type) = some 113 := by kernel_rfl
abbrev TSX (w : World) : Prop := Tab 0 wsS w
theorem tS_of {W : World} {laid : List (String × DataW Unit)} (h : laidMetH Tryd.prog laid W) (hp : (laid.all fun x => x.2.handleName?.isNone) = true) (hm : ("clarion/descr.ofSlice", Rows.laid_clarion_descr_ofSlice) ∈ laid) : TSX W :=
  tab_of gSX tSX rfl rfl (laid_in h hp hm)
abbrev TPX (w : World) : Prop := Tab 1 wsP w
theorem tP_of {W : World} {laid : List (String × DataW Unit)} (h : laidMetH Tryd.prog laid W) (hp : (laid.all fun x => x.2.handleName?.isNone) = true) (hm : ("clarion/descr.ofPlace", Rows.laid_clarion_descr_ofPlace) ∈ laid) : TPX W :=
  tab_of gPX tPX rfl rfl (laid_in h hp hm)
abbrev TTX (w : World) : Prop := Tab 2 wsT w
theorem tT_of {W : World} {laid : List (String × DataW Unit)} (h : laidMetH Tryd.prog laid W) (hp : (laid.all fun x => x.2.handleName?.isNone) = true) (hm : ("clarion/descr.ofTarget", Rows.laid_clarion_descr_ofTarget) ∈ laid) : TTX W :=
  tab_of gTX tTX rfl rfl (laid_in h hp hm)
abbrev TIX (w : World) : Prop := Tab 4 wsI w
theorem tI_of {W : World} {laid : List (String × DataW Unit)} (h : laidMetH Tryd.prog laid W) (hp : (laid.all fun x => x.2.handleName?.isNone) = true) (hm : ("clarion/descr.ofInt", Rows.laid_clarion_descr_ofInt) ∈ laid) : TIX W :=
  tab_of gIX tIX rfl rfl (laid_in h hp hm)
abbrev THX (w : World) : Prop := Tab 3 wsH w
theorem tH_of {W : World} {laid : List (String × DataW Unit)} (h : laidMetH Tryd.prog laid W) (hp : (laid.all fun x => x.2.handleName?.isNone) = true) (hm : ("clarion/descr.ofHead", Rows.laid_clarion_descr_ofHead) ∈ laid) : THX W :=
  tab_of gHX tHX rfl rfl (laid_in h hp hm)
abbrev TLX (w : World) : Prop := Tab 5 wsL w
theorem tL_of {W : World} {laid : List (String × DataW Unit)} (h : laidMetH Tryd.prog laid W) (hp : (laid.all fun x => x.2.handleName?.isNone) = true) (hm : ("clarion/descr.ofLong", Rows.laid_clarion_descr_ofLong) ∈ laid) : TLX W :=
  tab_of gLX tLX rfl rfl (laid_in h hp hm)
end Go.Proofs.YtlghkdkaifcliaaDoor
