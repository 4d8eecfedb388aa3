/-
  How the calls of layer 13's statements are read: a call by value, and rows of them. Of all values.
-/
import Derived.Test.YtpkidopnkofccaaRowArgs
namespace Go.Proofs.Ytpkidopnkofccaa
open Go.RowKit Gf Go.Deep Go.ChangeShapes Go.WideShapes Go.ChangeAt
set_option maxRecDepth 100000
/-- A call. -/
structure Opt where
  ask : Int
  a : Int
  n : Int
  b : UInt8
  t : ByteArray
abbrev optC (p : Opt) : List Value := [.int .i64 p.ask, .int .i64 p.a, .int .i64 p.n, .int .u8 (p.b.toNat : Int), .string p.t]
abbrev optV (p : Opt) : Value := .agg #[.int .i64 p.ask, .int .i64 p.a, .int .i64 p.n, .int .u8 (p.b.toNat : Int), .string p.t]
theorem optC_one (s : Opt) : ∀ u ∈ optC s, u.oneCell' = true := by
  intro u hu
  simp only [optC, List.mem_cons, List.not_mem_nil, or_false] at hu
  rcases hu with rfl | rfl | rfl | rfl | rfl <;> rfl
def optT : RowT Opt where
  E := 35
  S := 22
  sz := 5
  bs := 48
  z := .agg #[.int .i64 0, .int .i64 0, .int .i64 0, .int .u8 0, .string ⟨#[]⟩]
  enc := optC
  und := Try.underlying22
  info := by kernel_rfl
  zs := rfl
  pos := by decide
  small := by decide
  len := fun _ => rfl
  one := optC_one
theorem five_ofT {α : Type} : ∀ {l : List α}, l.length = 5 → ∃ a b c d e, l = [a, b, c, d, e]
  | [a, b, c, d, e], _ => ⟨a, b, c, d, e, rfl⟩
theorem opt_cells {H : Type} {enc : TypeId × Value → H} {W : World} {base fuel : Nat} {spare : Nat → Bool} {held : Bool} {cs : List Value} {d : DataW H} {p : List MemPlace}
    (hf : DataW.trod enc Try.prog W base spare held fuel 35 cs = some (d, p)) : ∃ s : Opt, cs = optC s := by
  obtain ⟨xs, m, _, _, hl, hx, hi⟩ := DataW.trod_struct Try.underlying35 hf
  have c5 : Try.prog.cellsOf 35 = 5 := by kernel_rfl
  have ci : Try.prog.cellsOf 3 = 1 := by kernel_rfl
  have cu : Try.prog.cellsOf 5 = 1 := by kernel_rfl
  have cst : Try.prog.cellsOf 9 = 1 := by kernel_rfl
  rw [c5] at hl
  obtain ⟨v0, v1, v2, v3, v4, rfl⟩ := five_ofT hl
  obtain ⟨y0, y1, y2, y3, y4, rfl⟩ := five_ofT (show xs.length = 5 from hx)
  have h0 := hi 0 _ rfl
  have h1 := hi 1 _ rfl
  have h2 := hi 2 _ rfl
  have h3 := hi 3 _ rfl
  have h4 := hi 4 _ rfl
  simp [ci, cu, cst] at h0 h1 h2 h3 h4
  obtain ⟨x0, e0, _⟩ := DataW.trod_int Try.underlying3 h0
  obtain ⟨x1, e1, _⟩ := DataW.trod_int Try.underlying3 h1
  obtain ⟨x2, e2, _⟩ := DataW.trod_int Try.underlying3 h2
  obtain ⟨x3, e3, _, w3⟩ := DataW.trod_int Try.underlying5 h3
  obtain ⟨x4, e4, _⟩ := DataW.trod_string Try.underlying9 h4
  simp at e0 e1 e2 e3 e4
  obtain ⟨b, rfl⟩ := u8_of (bounds_u8 w3)
  exact ⟨⟨x0, x1, x2, b, x4⟩, by rw [e0, e1, e2, e3, e4]⟩
/-- A call by value. -/
theorem open_opt {H : Type} {enc : TypeId × Value → H} {W : World} {r : Reach} {b0 base : Nat} {spare : Nat → Bool} {held : Bool} {v : Value} {d : DataW H} {p : List MemPlace}
    (hv : Value.okWide Try.prog W r b0 35 v) (h : DataW.Trod enc Try.prog W base spare held 35 v d p) : ∃ s : Opt, v = optV s := by
  obtain ⟨cs, rfl, hsz, _⟩ : ∃ cs, v = .agg cs ∧ cs.size = Try.prog.cellsOf 35 ∧ Row.okWide Try.prog W r b0 35 cs := by
    simpa [Value.okWide, Try.underlying35] using hv
  obtain ⟨l⟩ := cs
  obtain ⟨fuel, hf⟩ := h
  obtain ⟨s, hs⟩ := opt_cells hf
  exact ⟨s, by rw [show l = optC s from hs]⟩
/-- A row of calls. -/
theorem open_optrow {H : Type} {enc : TypeId × Value → H} {W : World} {base : Nat} {held : Bool} {a : Option Addr} {len cap : Nat} {d : DataW H} {p : List MemPlace}
    (h : DataW.Trod enc Try.prog W base (fun _ => true) held 22 (.slice a len cap) d p) : ∃ l, IsE optT W a len l ∧ len ≤ maxLen :=
  open_rowE optT (by kernel_rfl) (fun _ _ _ _ hf => opt_cells hf) h
end Go.Proofs.Ytpkidopnkofccaa
