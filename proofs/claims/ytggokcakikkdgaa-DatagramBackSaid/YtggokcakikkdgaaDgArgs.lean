/-
  How the arguments of layer 7's statements are read: a Body, two texts, rows of texts that memory may hold. Of all values.
-/
import Derived.Test.YtggokcakikkdgaaDgLaw
import Derived.DataReads
import Derived.SizedLaws
namespace Go.Proofs.Ytggokcakikkdgaa
open Go.RowKit Gf Go.Deep Go.ChangeShapes Go.WideShapes Go.ChangeAt
set_option maxRecDepth 100000
theorem two_of {α : Type} : ∀ {l : List α}, l.length = 2 → ∃ a b, l = [a, b]
  | [a, b], _ => ⟨a, b, rfl⟩
/-- A Body by value. -/
theorem open_body {H : Type} {enc : TypeId × Value → H} {W : World} {r : Reach} {b0 base : Nat} {spare : Nat → Bool} {held : Bool} {v : Value} {d : DataW H} {p : List MemPlace}
    (hv : Value.okWide Try.prog W r b0 40 v) (h : DataW.Trod enc Try.prog W base spare held 40 v d p) : ∃ (s : ByteArray) (b : Bool), v = .agg #[.string s, .bool b] := by
  obtain ⟨cs, rfl, hsz, _⟩ : ∃ cs, v = .agg cs ∧ cs.size = Try.prog.cellsOf 40 ∧ Row.okWide Try.prog W r b0 40 cs := by
    simpa [Value.okWide, Try.underlying40] using hv
  obtain ⟨l⟩ := cs
  obtain ⟨fuel, hf⟩ := h
  obtain ⟨xs, m, _, _, hl, hx, hi⟩ := DataW.trod_struct Try.underlying40 hf
  have c2 : Try.prog.cellsOf 40 = 2 := by kernel_rfl
  have cb : Try.prog.cellsOf 4 = 1 := by kernel_rfl
  have cst : Try.prog.cellsOf 9 = 1 := by kernel_rfl
  rw [c2] at hl
  obtain ⟨v0, v1, hl2⟩ := two_of (show l.length = 2 from hl)
  subst hl2
  obtain ⟨y0, y1, rfl⟩ := two_of (show xs.length = 2 from hx)
  have h0 := hi 0 _ rfl
  have h1 := hi 1 _ rfl
  simp [cb, cst, Value.cells] at h0 h1
  obtain ⟨s, e0, _⟩ := DataW.trod_string Try.underlying9 h0
  obtain ⟨b, e1, _⟩ := DataW.trod_bool Try.underlying4 h1
  simp at e0 e1
  exact ⟨s, b, by rw [e0, e1]⟩
/-- Two texts by value. -/
theorem open_texts2 {H : Type} {enc : TypeId × Value → H} {W : World} {r : Reach} {b0 base : Nat} {spare : Nat → Bool} {held : Bool} {v : Value} {d : DataW H} {p : List MemPlace}
    (hv : Value.okWide Try.prog W r b0 38 v) (h : DataW.Trod enc Try.prog W base spare held 38 v d p) : ∃ s t : ByteArray, v = .agg #[.string s, .string t] := by
  obtain ⟨cs, rfl, hsz, _⟩ : ∃ cs, v = .agg cs ∧ cs.size = Try.prog.cellsOf 38 ∧ Row.okWide Try.prog W r b0 38 cs := by
    simpa [Value.okWide, Try.underlying38] using hv
  obtain ⟨l⟩ := cs
  obtain ⟨fuel, hf⟩ := h
  obtain ⟨xs, m, _, _, hl, hn, hxs⟩ := DataW.trod_array Try.underlying38 hf
  have c2 : Try.prog.cellsOf 38 = 2 := by kernel_rfl
  have cst : Try.prog.cellsOf 9 = 1 := by kernel_rfl
  rw [c2] at hl
  obtain ⟨v0, v1, hl2⟩ := two_of (show l.length = 2 from hl)
  subst hl2
  obtain ⟨y0, y1, rfl⟩ := two_of (show xs.length = 2 from hn)
  have h0 := hxs 0 (by omega)
  have h1 := hxs 1 (by omega)
  simp [cst, Value.cells] at h0 h1
  obtain ⟨s, e0, _⟩ := DataW.trod_string Try.underlying9 h0
  obtain ⟨t, e1, _⟩ := DataW.trod_string Try.underlying9 h1
  simp at e0 e1
  exact ⟨s, t, by rw [e0, e1]⟩
/-- A row of texts, none of which has more bytes than memory may hold. -/
theorem open_trow_big {H : Type} {enc : TypeId × Value → H} {W : World} {base : Nat} {held : Bool} {a : Option Addr} {len cap : Nat} {d : DataW H} {p : List MemPlace}
    (h : DataW.Trod enc Try.prog W base (fun _ => true) held 33 (.slice a len cap) d p) (hz : ∀ n ∈ d.weights Try.prog 33, n ≤ reachBytes) : ∃ l, IsT W a len l ∧ len ≤ cap ∧ ∀ t ∈ l, t.length ≤ big := by
  obtain ⟨fuel, hf⟩ := h
  rcases open_strs Try.underlying33 Try.underlying9 (by kernel_rfl) hf with ⟨hcs, _⟩ | ⟨x, l, c, m, Sx, hcs, _, hl, hm, hmm, hd, hcell⟩
  · simp [Value.cells] at hcs
    obtain ⟨rfl, rfl, rfl⟩ := hcs
    exact ⟨[], IsT.nil _ _, Nat.le_refl _, by simp⟩
  · simp [Value.cells] at hcs
    obtain ⟨rfl, rfl, rfl⟩ := hcs
    simp at hmm
    subst hmm
    simp only [Prod.mk.injEq] at hd
    obtain ⟨rfl, _⟩ := hd
    have hall : ∀ i, i < len → (Sx i).size ≤ reachBytes := by
      intro i hi
      have hw : ∀ (l : List (DataW H)) (d : DataW H), d ∈ l → ∀ n ∈ d.weights Try.prog 9, n ∈ DataW.weightsAll Try.prog 9 l := by
        intro l
        induction l with
        | nil => intro d hd; cases hd
        | cons a r ih =>
          intro d hd n hn
          simp only [DataW.weightsAll, List.mem_append]
          rcases List.mem_cons.1 hd with rfl | hd
          · exact .inl hn
          · exact .inr (ih d hd n hn)
      have h1 := hw ((List.range len).map fun i => .lit (.string (Sx i).data.toList)) (.lit (.string (Sx i).data.toList)) (List.mem_map.2 ⟨i, List.mem_range.2 hi, rfl⟩) (Sx i).data.toList.length (by simp [DataW.weights])
      have h2 := hz (Sx i).data.toList.length (by
        simp only [DataW.weights, Try.underlying33]
        exact List.mem_cons.2 (.inr (List.mem_append.2 (.inl h1))))
      rw [ls_size]; exact h2
    refine ⟨(List.range len).map fun i => ls (Sx i), ⟨by simp, fun h0 => ?_⟩, hl, fun t ht => ?_⟩
    · simp at h0
      obtain ⟨b, off, spot⟩ := x
      have hspot : spot = none := by simpa [Addr.add] using World.cell?_spot (hcell 0 (by omega)).1
      subst hspot
      have hc : ∀ i, i < len → W.cell? ⟨b, off + i, none⟩ = some (.string (Sx i)) := fun i hi => by rw [← Go.WideShapes.add_plain]; exact (hcell i (by omega)).1
      refine ⟨b, off, rfl, cell_there (hc 0 (by omega)), fun i hi => ?_⟩
      simp at hi
      rw [hc i hi, List.getD_eq_getElem?_getD, List.getElem?_map, List.getElem?_range hi]
      simp [st_ls]
    · obtain ⟨i, hi, rfl⟩ := List.mem_map.1 ht
      rw [← ls_size]
      exact hall i (List.mem_range.1 hi)
end Go.Proofs.Ytggokcakikkdgaa
