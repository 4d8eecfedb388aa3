/-
  How a law's arguments are read: arrays of numbers by value, rows of texts. Of all values.
-/
import Derived.Test.YtofnokikjfmfgaaBas
import Derived.ChangeSlices
import Derived.OpenShut
import Derived.ShutString
import Derived.ChangeOld
import Derived.Carry
import Derived.Deep.Strs
import Derived.WalkLawsBesides
namespace Go.Proofs.Ytofnokikjfmfgaa
open Go.RowKit Gf Go.Deep
set_option maxRecDepth 100000
theorem cell_there {W : World} {p : Addr} {v : Value} (h : W.cell? p = some v) : p.block < W.heap.size := by
  obtain ⟨o, ho, _⟩ := cells_of_cell h
  exact (Array.getElem?_eq_some_iff.1 ho).1
theorem cells_ints {k : IntKind} : ∀ (l : List Value), (∀ i, i < l.length → ∃ n, (l.drop i).take 1 = [.int k n] ∧ (Lit.int k n).wf = true) → ∃ xs : List Int, l = xs.map (.int k) ∧ ∀ x ∈ xs, (Lit.int k x).wf = true
  | [], _ => ⟨[], rfl, by simp⟩
  | v :: l, h => by
    obtain ⟨n, hn, hw⟩ := h 0 (by simp)
    simp at hn
    obtain ⟨xs, hx, hxw⟩ := cells_ints l (fun i hi => by simpa using h (i + 1) (by simpa using hi))
    refine ⟨n :: xs, by rw [hx, hn]; rfl, ?_⟩
    intro x hx2
    rcases List.mem_cons.1 hx2 with rfl | hx2
    · exact hw
    · exact hxw x hx2
/-- An array of numbers, by value. -/
theorem open_arr {H : Type} {enc : TypeId × Value → H} {W : World} {r : Reach} {b0 base : Nat} {spare : Nat → Bool} {held : Bool} {v : Value} {d : DataW H} {p : List MemPlace} {T E : TypeId} {k : IntKind} {n : Nat}
    (hT : Try.prog.underlying T = some (.array n E)) (hE : Try.prog.underlying E = some (.int k)) (cT : Try.prog.cellsOf T = n) (cE : Try.prog.cellsOf E = 1)
    (hv : Value.okWide Try.prog W r b0 T v) (h : DataW.Trod enc Try.prog W base spare held T v d p) :
    ∃ xs : List Int, xs.length = n ∧ v = .agg (xs.map (.int k)).toArray ∧ ∀ x ∈ xs, (Lit.int k x).wf = true := by
  obtain ⟨cs, rfl, hsz, _⟩ : ∃ cs, v = .agg cs ∧ cs.size = Try.prog.cellsOf T ∧ Row.okWide Try.prog W r b0 T cs := by
    simpa [Value.okWide, hT] using hv
  rw [cT] at hsz
  obtain ⟨l⟩ := cs
  obtain ⟨fuel, hf⟩ := h
  obtain ⟨xs, m, _, _, _, hn, hxs⟩ := DataW.trod_array hT hf
  have hl : l.length = n := hsz
  obtain ⟨ys, hy, hyw⟩ := cells_ints (k := k) l (fun i hi => by
    have h0 := hxs i (by omega)
    rw [cE, Nat.mul_one] at h0
    have hi2 : i < xs.length := by omega
    rw [List.getElem?_eq_getElem hi2] at h0
    obtain ⟨x, e0, _, wx⟩ := DataW.trod_int hE h0
    exact ⟨x, by simpa [Value.cells] using e0, wx⟩)
  exact ⟨ys, by rw [← hl, hy, List.length_map], by rw [hy], hyw⟩
/-- A row of texts. -/
theorem open_trow {H : Type} {enc : TypeId × Value → H} {W : World} {base : Nat} {held : Bool} {a : Option Addr} {len cap : Nat} {d : DataW H} {p : List MemPlace}
    (h : DataW.Trod enc Try.prog W base (fun _ => true) held 111 (.slice a len cap) d p) : ∃ l, IsT W a len l ∧ len ≤ cap := by
  obtain ⟨fuel, hf⟩ := h
  rcases open_strs Try.underlying111 Try.underlying9 (by kernel_rfl) hf with ⟨hcs, _⟩ | ⟨x, l, c, m, Sx, hcs, _, hl, hm, hmm, _, hcell⟩
  · simp [Value.cells] at hcs
    obtain ⟨rfl, rfl, rfl⟩ := hcs
    exact ⟨[], IsT.nil _ _, Nat.le_refl _⟩
  · simp [Value.cells] at hcs
    obtain ⟨rfl, rfl, rfl⟩ := hcs
    simp at hmm
    subst hmm
    refine ⟨(List.range len).map fun i => ls (Sx i), ⟨by simp, fun h0 => ?_⟩, hl⟩
    simp at h0
    obtain ⟨b, off, spot⟩ := x
    have hspot : spot = none := by simpa [Addr.add] using World.cell?_spot (hcell 0 (by omega)).1
    subst hspot
    have hc : ∀ i, i < len → W.cell? ⟨b, off + i, none⟩ = some (.string (Sx i)) := fun i hi => by rw [← Go.WideShapes.add_plain]; exact (hcell i (by omega)).1
    refine ⟨b, off, rfl, cell_there (hc 0 (by omega)), fun i hi => ?_⟩
    simp at hi
    rw [hc i hi, List.getD_eq_getElem?_getD, List.getElem?_map, List.getElem?_range hi]
    simp [st_ls]
end Go.Proofs.Ytofnokikjfmfgaa
