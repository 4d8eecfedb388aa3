/-
  How the arguments of layer 14's statements are read: a packet, a row of packets. Of all values.
-/
import Derived.Test.YtifbomppgflkfaaDoorPkV
import Derived.Test.YtifbomppgflkfaaDoorRowArgs
namespace Go.Proofs.YtifbomppgflkfaaDoor
open Go.RowKit Gf Go.Deep Go.ChangeShapes Go.WideShapes Go.ChangeAt Pk
set_option maxRecDepth 100000
def pktT : RowT Pkt where
  E := 32
  S := 22
  sz := 5
  bs := 48
  z := .agg #[.int .i64 0, .bool false, .int .i64 0, .bool false, .string ⟨#[]⟩]
  enc := pkC
  und := Tryd.underlying22
  info := by kernel_rfl
  zs := rfl
  pos := by decide
  small := by decide
  len := fun _ => rfl
  one := pkC_one
theorem five_ofP {α : Type} : ∀ {l : List α}, l.length = 5 → ∃ a b c d e, l = [a, b, c, d, e]
  | [a, b, c, d, e], _ => ⟨a, b, c, d, e, rfl⟩
theorem pkt_cells {H : Type} {enc : TypeId × Value → H} {W : World} {base fuel : Nat} {spare : Nat → Bool} {held : Bool} {cs : List Value} {d : DataW H} {p : List MemPlace}
    (hf : DataW.trod enc Tryd.prog W base spare held fuel 32 cs = some (d, p)) : ∃ s : Pkt, cs = pkC s := by
  obtain ⟨xs, m, _, _, hl, hx, hi⟩ := DataW.trod_struct Tryd.underlying32 hf
  have c5 : Tryd.prog.cellsOf 32 = 5 := by kernel_rfl
  have ci : Tryd.prog.cellsOf 3 = 1 := by kernel_rfl
  have cb : Tryd.prog.cellsOf 4 = 1 := by kernel_rfl
  have cst : Tryd.prog.cellsOf 9 = 1 := by kernel_rfl
  rw [c5] at hl
  obtain ⟨v0, v1, v2, v3, v4, rfl⟩ := five_ofP hl
  obtain ⟨y0, y1, y2, y3, y4, rfl⟩ := five_ofP (show xs.length = 5 from hx)
  have h0 := hi 0 _ rfl
  have h1 := hi 1 _ rfl
  have h2 := hi 2 _ rfl
  have h3 := hi 3 _ rfl
  have h4 := hi 4 _ rfl
  simp [ci, cb, cst] at h0 h1 h2 h3 h4
  obtain ⟨x0, e0, _⟩ := DataW.trod_int Tryd.underlying3 h0
  obtain ⟨x1, e1, _⟩ := DataW.trod_bool Tryd.underlying4 h1
  obtain ⟨x2, e2, _⟩ := DataW.trod_int Tryd.underlying3 h2
  obtain ⟨x3, e3, _⟩ := DataW.trod_bool Tryd.underlying4 h3
  obtain ⟨x4, e4, _⟩ := DataW.trod_string Tryd.underlying9 h4
  simp at e0 e1 e2 e3 e4
  exact ⟨⟨x0, x1, x2, x3, x4⟩, by rw [e0, e1, e2, e3, e4]⟩
/-- A packet by value. -/
theorem open_pkt {H : Type} {enc : TypeId × Value → H} {W : World} {r : Reach} {b0 base : Nat} {spare : Nat → Bool} {held : Bool} {v : Value} {d : DataW H} {p : List MemPlace}
    (hv : Value.okWide Tryd.prog W r b0 32 v) (h : DataW.Trod enc Tryd.prog W base spare held 32 v d p) : ∃ s : Pkt, v = pkV s := by
  obtain ⟨cs, rfl, hsz, _⟩ : ∃ cs, v = .agg cs ∧ cs.size = Tryd.prog.cellsOf 32 ∧ Row.okWide Tryd.prog W r b0 32 cs := by
    simpa [Value.okWide, Tryd.underlying32] using hv
  obtain ⟨l⟩ := cs
  obtain ⟨fuel, hf⟩ := h
  obtain ⟨s, hs⟩ := pkt_cells hf
  exact ⟨s, by rw [show l = pkC s from hs]⟩
/-- A row of packets. -/
theorem open_pktrow {H : Type} {enc : TypeId × Value → H} {W : World} {base : Nat} {held : Bool} {a : Option Addr} {len cap : Nat} {d : DataW H} {p : List MemPlace}
    (h : DataW.Trod enc Tryd.prog W base (fun _ => true) held 22 (.slice a len cap) d p) : ∃ l, IsE pktT W a len l ∧ len ≤ maxLen :=
  open_rowE pktT (by kernel_rfl) (fun _ _ _ _ hf => pkt_cells hf) h
end Go.Proofs.YtifbomppgflkfaaDoor
