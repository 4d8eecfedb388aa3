/-
  How the arguments of layer 8's statements are read: a section by value, rows of sections. And the chapter's example. Of all values.
-/
import Derived.Test.YtofnokikjfmfgaaScE
import Derived.Test.YtofnokikjfmfgaaArgs
import Derived.DataReads
namespace Go.Proofs.Ytofnokikjfmfgaa
open Go.RowKit Gf Go.Deep Go.ChangeShapes Go.WideShapes Go.ChangeAt Sct
set_option maxRecDepth 100000
theorem eight_of {α : Type} : ∀ {l : List α}, l.length = 8 → ∃ a b c d e f g h, l = [a, b, c, d, e, f, g, h]
  | [a, b, c, d, e, f, g, h], _ => ⟨a, b, c, d, e, f, g, h, rfl⟩
theorem sec_cells {H : Type} {enc : TypeId × Value → H} {W : World} {base fuel : Nat} {spare : Nat → Bool} {held : Bool} {cs : List Value} {d : DataW H} {p : List MemPlace}
    (hf : DataW.trod enc Try.prog W base spare held fuel 29 cs = some (d, p)) : ∃ s : Sec, cs = secC s := by
  obtain ⟨xs, m, _, _, hl, hx, hi⟩ := DataW.trod_struct Try.underlying29 hf
  have c8 : Try.prog.cellsOf 29 = 8 := by kernel_rfl
  have ci : Try.prog.cellsOf 3 = 1 := by kernel_rfl
  have cb : Try.prog.cellsOf 4 = 1 := by kernel_rfl
  have cst : Try.prog.cellsOf 9 = 1 := by kernel_rfl
  rw [c8] at hl
  obtain ⟨v0, v1, v2, v3, v4, v5, v6, v7, hl2⟩ := eight_of hl
  subst hl2
  obtain ⟨y0, y1, y2, y3, y4, y5, y6, y7, rfl⟩ := eight_of (show xs.length = 8 from hx)
  have h0 := hi 0 _ rfl
  have h1 := hi 1 _ rfl
  have h2 := hi 2 _ rfl
  have h3 := hi 3 _ rfl
  have h4 := hi 4 _ rfl
  have h5 := hi 5 _ rfl
  have h6 := hi 6 _ rfl
  have h7 := hi 7 _ rfl
  simp [ci, cb, cst] at h0 h1 h2 h3 h4 h5 h6 h7
  obtain ⟨x0, e0, _⟩ := DataW.trod_int Try.underlying3 h0
  obtain ⟨x1, e1, _⟩ := DataW.trod_bool Try.underlying4 h1
  obtain ⟨x2, e2, _⟩ := DataW.trod_int Try.underlying3 h2
  obtain ⟨x3, e3, _⟩ := DataW.trod_int Try.underlying3 h3
  obtain ⟨x4, e4, _⟩ := DataW.trod_bool Try.underlying4 h4
  obtain ⟨x5, e5, _⟩ := DataW.trod_int Try.underlying3 h5
  obtain ⟨x6, e6, _⟩ := DataW.trod_int Try.underlying3 h6
  obtain ⟨x7, e7, _⟩ := DataW.trod_string Try.underlying9 h7
  simp at e0 e1 e2 e3 e4 e5 e6 e7
  exact ⟨⟨x0, x1, x2, x3, x4, x5, x6, x7⟩, by rw [e0, e1, e2, e3, e4, e5, e6, e7]⟩
/-- A section by value. -/
theorem open_sec {H : Type} {enc : TypeId × Value → H} {W : World} {r : Reach} {b0 base : Nat} {spare : Nat → Bool} {held : Bool} {v : Value} {d : DataW H} {p : List MemPlace}
    (hv : Value.okWide Try.prog W r b0 29 v) (h : DataW.Trod enc Try.prog W base spare held 29 v d p) : ∃ s : Sec, v = secV s := by
  obtain ⟨cs, rfl, hsz, _⟩ : ∃ cs, v = .agg cs ∧ cs.size = Try.prog.cellsOf 29 ∧ Row.okWide Try.prog W r b0 29 cs := by
    simpa [Value.okWide, Try.underlying29] using hv
  obtain ⟨l⟩ := cs
  obtain ⟨fuel, hf⟩ := h
  obtain ⟨s, hs⟩ := sec_cells hf
  exact ⟨s, by rw [show l = secC s from hs]⟩
theorem sec_list {W : World} {b off : Nat} : ∀ (n : Nat), (∀ i, i < n → ∃ s : Sec, ∀ j v, (secC s)[j]? = some v → W.cell? ⟨b, off + i * 8 + j, none⟩ = some v) →
    ∃ l : List Sec, l.length = n ∧ ∀ (i : Nat) (s : Sec), l[i]? = some s → ∀ j v, (secC s)[j]? = some v → W.cell? ⟨b, off + i * 8 + j, none⟩ = some v
  | 0, _ => ⟨[], rfl, by simp⟩
  | n + 1, h => by
    obtain ⟨l, h1, h3⟩ := sec_list n fun i hi => h i (by omega)
    obtain ⟨s, h5⟩ := h n (by omega)
    refine ⟨l ++ [s], by simp [h1], ?_⟩
    intro i q hi
    by_cases e : i < l.length
    · rw [List.getElem?_append_left e] at hi; exact h3 i q hi
    · rw [List.getElem?_append_right (by omega)] at hi
      have : i = l.length := by
        have := (List.getElem?_eq_some_iff.1 hi).1
        simp at this; omega
      subst this
      rw [Nat.sub_self] at hi
      simp at hi
      subst hi
      rw [h1]; exact h5
/-- A row of sections. -/
theorem open_secrow {H : Type} {enc : TypeId × Value → H} {W : World} {base : Nat} {held : Bool} {a : Option Addr} {len cap : Nat} {d : DataW H} {p : List MemPlace}
    (h : DataW.Trod enc Try.prog W base (fun _ => true) held 24 (.slice a len cap) d p) : ∃ l, IsE secT W a len l ∧ len ≤ cap := by
  obtain ⟨fuel, hf⟩ := h
  have c8 : Try.prog.cellsOf 29 = 8 := by kernel_rfl
  rcases DataW.trod_slice Try.underlying24 hf with ⟨hcs, _⟩ | ⟨x, ln, cp, elems, rest, m, _, hcs, _, _, hlc, hlm, hel, hc, _⟩
  · simp [Value.cells] at hcs
    obtain ⟨rfl, rfl, rfl⟩ := hcs
    exact ⟨[], IsE.nil _ _, Nat.le_refl _⟩
  · simp [Value.cells] at hcs
    obtain ⟨rfl, rfl, rfl⟩ := hcs
    obtain ⟨b, off, spot⟩ := x
    by_cases h0 : len = 0
    · subst h0; exact ⟨[], IsE.nil _ _, Nat.zero_le _⟩
    have one : ∀ i, i < len → ∃ s : Sec, ∀ j v, (secC s)[j]? = some v → W.cell? ((⟨b, off, spot⟩ : Addr).add (i * 8) |>.add j) = some v := fun i hi => by
      have h1 := hc i hi
      rw [c8, List.getElem?_eq_getElem (by omega)] at h1
      obtain ⟨cs, h2, h3⟩ := Option.bind_eq_some_iff.1 h1
      obtain ⟨s, ho⟩ := sec_cells h3
      subst ho
      obtain ⟨_, _, h4⟩ := World.cells?_some h2
      exact ⟨s, fun j v hj => (h4 j (by have := (List.getElem?_eq_some_iff.1 hj).1; simpa [secC] using this)).trans hj⟩
    obtain ⟨s0, q0⟩ := one 0 (by omega)
    have hq := q0 0 _ rfl
    have hspot : spot = none := by
      have := World.cell?_spot hq
      simpa [Addr.add] using this
    subst hspot
    have hb : b < W.heap.size := by
      have := cell_there hq
      simpa [Addr.add] using this
    obtain ⟨l, h1, h3⟩ := sec_list (W := W) (b := b) (off := off) len fun i hi => by
      obtain ⟨s, q⟩ := one i hi
      refine ⟨s, fun j v hj => ?_⟩
      have := q j v hj
      rwa [Go.WideShapes.add_plain, Go.WideShapes.add_plain] at this
    refine ⟨l, ⟨h1.symm, fun _ => ⟨b, off, rfl, hb, fun i u hu => ?_⟩⟩, hlc⟩
    have hi : i < l.length * 8 := by have := (List.getElem?_eq_some_iff.1 hu).1; rwa [secT.cells_length] at this
    have hq2 : i / 8 < l.length := by omega
    have e : i = i / 8 * 8 + i % 8 := by omega
    rw [e] at hu
    have hu2 := (secT.cells_get l (i / 8) hq2 (i % 8) (Nat.mod_lt _ (by decide))).symm.trans hu
    have := h3 (i / 8) l[i / 8] (List.getElem?_eq_getElem hq2) (i % 8) u hu2
    rw [show off + i = off + i / 8 * 8 + i % 8 by omega]; exact this
/-- The chapter's example. -/
def exS : Sec := ⟨66, false, 0, 0, true, 0, 0, ⟨#[104, 105]⟩⟩
theorem exS_enc : ecd exS = (sld [66, 176, 11, 0, 0, 193, 0, 0, 104, 105], 0) := by
  rw [ecd_ok (by decide)]; rfl
set_option maxHeartbeats 1600000 in
theorem awake8_any (w0 w : World) (hk : Keeps w0 w) : Calls Try.prog 11 #[] w fun e w' => e = .returned (.bool true) ∧ Keeps w0 w' := by
  obtain ⟨X, hX⟩ : ∃ X, st (sld [66, 176, 11, 0, 0, 193, 0, 0, 104, 105]) = X := ⟨_, rfl⟩
  have HE := Lib.hid (fun W => scenc_any W exS W (Keeps.refl W))
  unfold EncPost at HE
  simp only [exS_enc, hX] at HE
  have HS := Lib.hid (fun W => rseal_any W ⟨#[66, 176, 11, 0, 0, 193, 0, 0, 104, 105]⟩ W (by decide) (Keeps.refl W))
  rw [show st (sld (ls ⟨#[66, 176, 11, 0, 0, 193, 0, 0, 104, 105]⟩)) = X from hX] at HS
  clear hX
  go_enter Try.func11, Try.ntmps11
  go_wp2_with (first | (go_at_call 30; refine (HE.out _).mono ?_; rintro _ w1 ⟨rfl, k1⟩) | (go_at_call 31; refine (HS.out _).mono ?_; rintro _ w2 ⟨rfl, k2⟩))
  go_ret
  exact ⟨rfl, (hk.trans k1).trans k2⟩
end Go.Proofs.Ytofnokikjfmfgaa
