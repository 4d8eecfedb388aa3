/-
  How rows of elements of some cells each are read, whatever the element is. No function of the program.
-/
import Derived.DataReads
import Derived.Test.YtlghkdkaifcliaaDoorBase
namespace Go.Proofs.YtlghkdkaifcliaaDoor
open Go.RowKit Gf Go.Deep Go.ChangeShapes Go.WideShapes Go.ChangeAt
set_option maxRecDepth 100000
theorem row_list {α : Type} (T : RowT α) {W : World} {b off : Nat} : ∀ (n : Nat), (∀ i, i < n → ∃ s : α, ∀ j v, (T.enc s)[j]? = some v → W.cell? ⟨b, off + i * T.sz + j, none⟩ = some v) →
    ∃ l : List α, l.length = n ∧ ∀ (i : Nat) (s : α), l[i]? = some s → ∀ j v, (T.enc s)[j]? = some v → W.cell? ⟨b, off + i * T.sz + j, none⟩ = some v
  | 0, _ => ⟨[], rfl, by simp⟩
  | n + 1, h => by
    obtain ⟨l, h1, h3⟩ := row_list T n fun i hi => h i (by omega)
    obtain ⟨s, h5⟩ := h n (by omega)
    refine ⟨l ++ [s], by simp [h1], ?_⟩
    intro i q hi
    by_cases e : i < l.length
    · rw [List.getElem?_append_left e] at hi; exact h3 i q hi
    · rw [List.getElem?_append_right (by omega)] at hi
      have : i = l.length := by
        have := (List.getElem?_eq_some_iff.1 hi).1
        simp at this; omega
      subst this
      rw [Nat.sub_self] at hi
      simp at hi
      subst hi
      rw [h1]; exact h5
/-- A row of elements of some cells each is read, whatever the element is. -/
theorem open_rowE {α : Type} (T : RowT α) {H : Type} {enc : TypeId × Value → H} {W : World} {base : Nat} {held : Bool} {a : Option Addr} {len cap : Nat} {d : DataW H} {p : List MemPlace}
    (hc : Tryd.prog.cellsOf T.E = T.sz) (hcl : ∀ (fuel : Nat) (cs : List Value) (d : DataW H) (p : List MemPlace), DataW.trod enc Tryd.prog W base (fun _ => true) held fuel T.E cs = some (d, p) → ∃ s, cs = T.enc s)
    (h : DataW.Trod enc Tryd.prog W base (fun _ => true) held T.S (.slice a len cap) d p) : ∃ l, IsE T W a len l ∧ len ≤ maxLen := by
  obtain ⟨fuel, hf⟩ := h
  have hpos := T.pos
  rcases DataW.trod_slice T.und hf with ⟨hcs, _⟩ | ⟨x, ln, cp, elems, rest, m, _, hcs, _, _, hlc, hlm, hel, hcx, _⟩
  · simp [Value.cells] at hcs
    obtain ⟨rfl, rfl, rfl⟩ := hcs
    exact ⟨[], IsE.nil _ _, Nat.zero_le _⟩
  · simp [Value.cells] at hcs
    obtain ⟨rfl, rfl, rfl⟩ := hcs
    obtain ⟨b, off, spot⟩ := x
    by_cases h0 : len = 0
    · subst h0; exact ⟨[], IsE.nil _ _, Nat.zero_le _⟩
    have one : ∀ i, i < len → ∃ s : α, ∀ j v, (T.enc s)[j]? = some v → W.cell? ((⟨b, off, spot⟩ : Addr).add (i * T.sz) |>.add j) = some v := fun i hi => by
      have h1 := hcx i hi
      rw [hc, List.getElem?_eq_getElem (by omega)] at h1
      obtain ⟨cs, h2, h3⟩ := Option.bind_eq_some_iff.1 h1
      obtain ⟨s, ho⟩ := hcl _ _ _ _ h3
      subst ho
      obtain ⟨_, _, h4⟩ := World.cells?_some h2
      exact ⟨s, fun j v hj => (h4 j (by have := (List.getElem?_eq_some_iff.1 hj).1; rw [T.len] at this; exact this)).trans hj⟩
    obtain ⟨s0, q0⟩ := one 0 (by omega)
    obtain ⟨u0, hu0⟩ : ∃ u, (T.enc s0)[0]? = some u := ⟨_, List.getElem?_eq_getElem (by rw [T.len]; exact hpos)⟩
    have hq := q0 0 _ hu0
    have hspot : spot = none := by
      have := World.cell?_spot hq
      simpa [Addr.add] using this
    subst hspot
    have hb : b < W.heap.size := by
      have := cell_there hq
      simpa [Addr.add] using this
    obtain ⟨l, h1, h3⟩ := row_list T (W := W) (b := b) (off := off) len fun i hi => by
      obtain ⟨s, q⟩ := one i hi
      refine ⟨s, fun j v hj => ?_⟩
      have := q j v hj
      rwa [Go.WideShapes.add_plain, Go.WideShapes.add_plain] at this
    refine ⟨l, ⟨h1.symm, fun _ => ⟨b, off, rfl, hb, fun i u hu => ?_⟩⟩, Nat.le_trans hlc hlm⟩
    have hi : i < l.length * T.sz := by have := (List.getElem?_eq_some_iff.1 hu).1; rwa [T.cells_length] at this
    have hq2 : i / T.sz < l.length := (Nat.div_lt_iff_lt_mul hpos).2 hi
    have e : i = i / T.sz * T.sz + i % T.sz := by rw [Nat.mul_comm]; exact (Nat.div_add_mod i T.sz).symm
    rw [e] at hu
    have hu2 := (T.cells_get l (i / T.sz) hq2 (i % T.sz) (Nat.mod_lt _ hpos)).symm.trans hu
    have := h3 (i / T.sz) l[i / T.sz] (List.getElem?_eq_getElem hq2) (i % T.sz) u hu2
    rw [show off + i = off + i / T.sz * T.sz + i % T.sz by omega]; exact this
end Go.Proofs.YtlghkdkaifcliaaDoor
