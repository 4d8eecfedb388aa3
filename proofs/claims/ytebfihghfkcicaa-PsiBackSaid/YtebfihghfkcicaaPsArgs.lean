/-
  How the arguments of layer 17's statements are read: a Pat, a Pmt. Of all values.
-/
import Derived.Test.YtebfihghfkcicaaPsV
import Derived.Test.YtebfihghfkcicaaRowArgs
namespace Go.Proofs.Ytebfihghfkcicaa
open Go.RowKit Gf Go.Deep Go.ChangeShapes Go.WideShapes Go.ChangeAt Ps
set_option maxRecDepth 100000
/-- A row of elements of some cells each that stands in a struct. -/
theorem open_rowC {α : Type} (T : RowT α) {H : Type} {enc : TypeId × Value → H} {W : World} {base fuel : Nat} {held : Bool} {cs : List Value} {d : DataW H} {p : List MemPlace}
    (hc : Try.prog.cellsOf T.E = T.sz) (hcl : ∀ (fuel : Nat) (cs : List Value) (d : DataW H) (p : List MemPlace), DataW.trod enc Try.prog W base (fun _ => true) held fuel T.E cs = some (d, p) → ∃ s, cs = T.enc s)
    (hf : DataW.trod enc Try.prog W base (fun _ => true) held fuel T.S cs = some (d, p)) : ∃ a cap l, cs = [.slice a l.length cap] ∧ IsE T W a l.length l ∧ l.length ≤ cap ∧ cap ≤ maxLen := by
  have hpos := T.pos
  have hf0 := hf
  rcases DataW.trod_slice T.und hf with ⟨hcs, _⟩ | ⟨x, ln, cp, elems, rest, m, _, hcs, _, _, hlc, hlm, hel, hcx, _⟩
  · exact ⟨none, 0, [], hcs, IsE.nil _ _, Nat.le_refl _, Nat.zero_le _⟩
  · subst hcs
    have hT : DataW.Trod enc Try.prog W base (fun _ => true) held T.S (.slice (some x) ln cp) d p := ⟨fuel, by simpa [Value.cells] using hf0⟩
    obtain ⟨l, hi, _⟩ := open_rowE T hc hcl hT
    obtain rfl := hi.1
    exact ⟨some x, cp, l, rfl, hi, hlc, hlm⟩
theorem three_ofP {α : Type} : ∀ {l : List α}, l.length = 3 → ∃ a b c, l = [a, b, c]
  | [a, b, c], _ => ⟨a, b, c, rfl⟩
theorem five_ofM {α : Type} : ∀ {l : List α}, l.length = 5 → ∃ a b c d e, l = [a, b, c, d, e]
  | [a, b, c, d, e], _ => ⟨a, b, c, d, e, rfl⟩
theorem two_ofP {α : Type} : ∀ {l : List α}, l.length = 2 → ∃ a b, l = [a, b]
  | [a, b], _ => ⟨a, b, rfl⟩
section
variable {H : Type} {enc : TypeId × Value → H} {W : World} {base fuel : Nat} {held : Bool} {cs : List Value} {d : DataW H} {p : List MemPlace}
theorem prog_cells (hf : DataW.trod enc Try.prog W base (fun _ => true) held fuel 52 cs = some (d, p)) : ∃ s : Int × Int, cs = rowPr.enc s := by
  obtain ⟨xs, m, _, _, hl, hx, hi⟩ := DataW.trod_struct Try.underlying52 hf
  have c5 : Try.prog.cellsOf 52 = 2 := by kernel_rfl
  have ci : Try.prog.cellsOf 3 = 1 := by kernel_rfl
  rw [c5] at hl
  obtain ⟨v0, v1, rfl⟩ := two_ofP hl
  obtain ⟨y0, y1, rfl⟩ := two_ofP (show xs.length = 2 from hx)
  have h0 := hi 0 _ rfl
  have h1 := hi 1 _ rfl
  simp [ci] at h0 h1
  obtain ⟨x0, e0, _⟩ := DataW.trod_int Try.underlying3 h0
  obtain ⟨x1, e1, _⟩ := DataW.trod_int Try.underlying3 h1
  simp at e0 e1
  exact ⟨(x0, x1), by rw [e0, e1]; rfl⟩
theorem strm_cells (hf : DataW.trod enc Try.prog W base (fun _ => true) held fuel 50 cs = some (d, p)) : ∃ s : Strm, cs = rowSt.enc s := by
  obtain ⟨xs, m, _, _, hl, hx, hi⟩ := DataW.trod_struct Try.underlying50 hf
  have c5 : Try.prog.cellsOf 50 = 3 := by kernel_rfl
  have ci : Try.prog.cellsOf 3 = 1 := by kernel_rfl
  have cst : Try.prog.cellsOf 9 = 1 := by kernel_rfl
  rw [c5] at hl
  obtain ⟨v0, v1, v2, rfl⟩ := three_ofP hl
  obtain ⟨y0, y1, y2, rfl⟩ := three_ofP (show xs.length = 3 from hx)
  have h0 := hi 0 _ rfl
  have h1 := hi 1 _ rfl
  have h2 := hi 2 _ rfl
  simp [ci, cst] at h0 h1 h2
  obtain ⟨x0, e0, _⟩ := DataW.trod_int Try.underlying3 h0
  obtain ⟨x1, e1, _⟩ := DataW.trod_int Try.underlying3 h1
  obtain ⟨x2, e2, _⟩ := DataW.trod_string Try.underlying9 h2
  simp at e0 e1 e2
  exact ⟨⟨x0, x1, x2⟩, by rw [e0, e1, e2]; rfl⟩
end
/-- A Pat by value. -/
theorem open_pat {H : Type} {enc : TypeId × Value → H} {W : World} {r : Reach} {b0 base : Nat} {held : Bool} {v : Value} {d : DataW H} {p : List MemPlace}
    (hv : Value.okWide Try.prog W r b0 24 v) (h : DataW.Trod enc Try.prog W base (fun _ => true) held 24 v d p) :
    ∃ (x : Pat) (a : Option Addr) (cap : Nat), (IsE rowPr W a x.l.length x.l ∧ x.l.length ≤ cap ∧ cap ≤ maxLen) ∧ v = patV x a cap := by
  obtain ⟨cs, rfl, hsz, _⟩ : ∃ cs, v = .agg cs ∧ cs.size = Try.prog.cellsOf 24 ∧ Row.okWide Try.prog W r b0 24 cs := by
    simpa [Value.okWide, Try.underlying24] using hv
  obtain ⟨l⟩ := cs
  obtain ⟨fuel, hf⟩ := h
  obtain ⟨xs, m, _, _, hl, hx, hi⟩ := DataW.trod_struct Try.underlying24 hf
  have c5 : Try.prog.cellsOf 24 = 3 := by kernel_rfl
  have ci : Try.prog.cellsOf 3 = 1 := by kernel_rfl
  have cr : Try.prog.cellsOf 22 = 1 := by kernel_rfl
  rw [c5] at hl
  obtain ⟨v0, v1, v2, hv3⟩ := three_ofP hl
  obtain ⟨y0, y1, y2, rfl⟩ := three_ofP (show xs.length = 3 from hx)
  have h0 := hi 0 _ rfl
  have h1 := hi 1 _ rfl
  have h2 := hi 2 _ rfl
  simp only [Value.cells] at hv3
  subst hv3
  simp [ci, cr, Value.cells] at h0 h1 h2
  obtain ⟨x0, e0, _⟩ := DataW.trod_int Try.underlying3 h0
  obtain ⟨x1, e1, _⟩ := DataW.trod_int Try.underlying3 h1
  obtain ⟨a, cap, q, e2, hq, hc1, hc2⟩ := open_rowC rowPr (by kernel_rfl) (fun _ _ _ _ g => prog_cells g) h2
  simp at e0 e1 e2
  exact ⟨⟨x0, x1, q⟩, a, cap, ⟨hq, hc1, hc2⟩, by rw [e0, e1, e2]⟩
/-- A Pmt by value. -/
theorem open_pmt {H : Type} {enc : TypeId × Value → H} {W : World} {r : Reach} {b0 base : Nat} {held : Bool} {v : Value} {d : DataW H} {p : List MemPlace}
    (hv : Value.okWide Try.prog W r b0 27 v) (h : DataW.Trod enc Try.prog W base (fun _ => true) held 27 v d p) :
    ∃ (x : Pmt) (a : Option Addr) (cap : Nat), (IsE rowSt W a x.l.length x.l ∧ x.l.length ≤ cap ∧ cap ≤ maxLen) ∧ v = pmtV x a cap := by
  obtain ⟨cs, rfl, hsz, _⟩ : ∃ cs, v = .agg cs ∧ cs.size = Try.prog.cellsOf 27 ∧ Row.okWide Try.prog W r b0 27 cs := by
    simpa [Value.okWide, Try.underlying27] using hv
  obtain ⟨l⟩ := cs
  obtain ⟨fuel, hf⟩ := h
  obtain ⟨xs, m, _, _, hl, hx, hi⟩ := DataW.trod_struct Try.underlying27 hf
  have c5 : Try.prog.cellsOf 27 = 5 := by kernel_rfl
  have ci : Try.prog.cellsOf 3 = 1 := by kernel_rfl
  have cst : Try.prog.cellsOf 9 = 1 := by kernel_rfl
  have cr : Try.prog.cellsOf 25 = 1 := by kernel_rfl
  rw [c5] at hl
  obtain ⟨v0, v1, v2, v3, v4, hv3⟩ := five_ofM hl
  obtain ⟨y0, y1, y2, y3, y4, rfl⟩ := five_ofM (show xs.length = 5 from hx)
  have h0 := hi 0 _ rfl
  have h1 := hi 1 _ rfl
  have h2 := hi 2 _ rfl
  have h3 := hi 3 _ rfl
  have h4 := hi 4 _ rfl
  simp only [Value.cells] at hv3
  subst hv3
  simp [ci, cst, cr, Value.cells] at h0 h1 h2 h3 h4
  obtain ⟨x0, e0, _⟩ := DataW.trod_int Try.underlying3 h0
  obtain ⟨x1, e1, _⟩ := DataW.trod_int Try.underlying3 h1
  obtain ⟨x2, e2, _⟩ := DataW.trod_int Try.underlying3 h2
  obtain ⟨x3, e3, _⟩ := DataW.trod_string Try.underlying9 h3
  obtain ⟨a, cap, q, e4, hq, hc1, hc2⟩ := open_rowC rowSt (by kernel_rfl) (fun _ _ _ _ g => strm_cells g) h4
  simp at e0 e1 e2 e3 e4
  exact ⟨⟨x0, x1, x2, x3, q⟩, a, cap, ⟨hq, hc1, hc2⟩, by rw [e0, e1, e2, e3, e4]⟩
end Go.Proofs.Ytebfihghfkcicaa
