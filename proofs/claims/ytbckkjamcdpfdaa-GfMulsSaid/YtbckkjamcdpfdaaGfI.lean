/-
  Powers and logarithms of bytes, as Go's numbers; and an array of two ints that came in.
-/
import Derived.Test.YtbckkjamcdpfdaaGfH
import Derived.OpenShut
import Derived.WideShapes
namespace Go.Proofs.Ytbckkjamcdpfdaa
open Go.RowKit Gf Go.WideShapes
theorem ge_congr {x y : Int} (h : x % 255 = y % 255) : ge x = ge y := by unfold ge; rw [h]
theorem ge_nat' (n : Nat) : ge (n : Int) = ((expN (n % 255) : Nat) : Int) := by unfold ge; congr 2
theorem gl_ge (n : Int) : gl (ge n) = n % 255 := by
  unfold gl ge; rw [Int.toNat_natCast, log_exp (by omega)]; omega
theorem ge_gl {a : Int} (h0 : 1 ≤ a) (h1 : a ≤ 255) : ge (gl a) = a := by
  have e := exp_log (a := a.toNat) (by omega) (by omega)
  unfold gl; rw [ge_nat', Nat.mod_eq_of_lt e.2, e.1]; omega
theorem gl_gm {a b : Int} (h0 : 1 ≤ a) (h2 : 1 ≤ b) : gl (gm a b) = (gl a + gl b) % 255 := by
  unfold gl gm; rw [Int.toNat_natCast, log_mul (by omega) (by omega)]; omega
theorem gm_ge (x y : Int) : gm (ge x) (ge y) = ge (x + y) := by
  have hx := ge_bd x
  have hy := ge_bd y
  have hb := gm_bd (ge x) (ge y)
  have hp := gm_pos hx.1 hy.1
  rw [← ge_gl hp hb.2, gl_gm hx.1 hy.1, gl_ge, gl_ge]
  exact ge_congr (by omega)
theorem gp_ge (a n : Int) : gp a n = ge (gl a * n) := by
  unfold gp; exact ge_congr (by rw [Int.mul_emod, Int.emod_emod_of_dvd _ (Int.dvd_refl 255), ← Int.mul_emod])
theorem gp_bd (a n : Int) : 1 ≤ gp a n ∧ gp a n ≤ 255 := ge_bd _
theorem gp_add (a n m : Int) : gm (gp a n) (gp a m) = gp a (n + m) := by
  rw [gp_ge, gp_ge, gp_ge, gm_ge, Int.mul_add]
theorem gp_mul (a n m : Int) : gp (gp a n) m = gp a (n * m) := by
  rw [gp_ge (gp a n), gp_ge a n, gl_ge, gp_ge]
  exact ge_congr (by rw [Int.mul_emod, Int.emod_emod_of_dvd _ (Int.dvd_refl 255), ← Int.mul_emod, Int.mul_assoc])
theorem ge_255 (n : Int) : ge (n + 255) = ge n := ge_congr (by omega)
theorem ge_inj {n m : Int} (h0 : 0 ≤ n) (h1 : n ≤ 254) (h2 : 0 ≤ m) (h3 : m ≤ 254) : (ge n == ge m) = (n == m) := by
  rw [Bool.eq_iff_iff]
  simp only [beq_iff_eq]
  constructor
  · intro h
    have := congrArg gl h
    rw [gl_ge, gl_ge] at this; omega
  · intro h; rw [h]
theorem ge_nz (n : Int) : (ge n == 0) = false := by have := ge_bd n; simp; omega
theorem gm_sq {a b : Int} (ha : Byte a) (hb : Byte b) : gm (xr a b) (xr a b) = xr (gm a a) (gm b b) := by
  rw [gm_xr (ha.xr hb) ha hb, xr_gm ha ha hb, xr_gm hb ha hb, gm_comm b a]
  rw [xr_assoc, ← xr_assoc (gm a b), xr_self, xr_zero (.gm _ _)]
theorem xr_eq_zero {a b : Int} (ha : Byte a) (hb : Byte b) (h : xr a b = 0) : a = b := by
  have h1 : xr (xr a b) a = b := xr_back hb
  rw [h, xr_zero ha] at h1; exact h1
theorem gm_root {a b : Int} (ha : Byte a) (hb : Byte b) : (gm a a == gm b b) = (a == b) := by
  rw [Bool.eq_iff_iff]
  simp only [beq_iff_eq]
  constructor
  · intro h
    have h1 := gm_sq ha hb
    rw [h, xr_self] at h1
    have h2 := ha.xr hb
    by_cases hz : xr a b = 0
    · exact xr_eq_zero ha hb hz
    · have h3 := h2.1
      have := gm_pos (a := xr a b) (b := xr a b) (by omega) (by omega)
      omega
  · intro h; rw [h]

theorem two_cells {α : Type} (l : List α) (h : l.length = 2) : ∃ a b, l = [a, b] := by
  match l, h with
  | [a, b], _ => exact ⟨a, b, rfl⟩
theorem open_arr2 {H : Type} {enc : TypeId × Value → H} {W : World} {r : Reach} {b0 base : Nat} {spare : Nat → Bool} {held : Bool} {v : Value} {d : DataW H} {p : List MemPlace}
    (hv : Value.okWide Try.prog W r b0 44 v) (h : DataW.Trod enc Try.prog W base spare held 44 v d p) :
    ∃ x y, v = .agg #[.int .i64 x, .int .i64 y] ∧ (Lit.int .i64 x).wf = true ∧ (Lit.int .i64 y).wf = true := by
  obtain ⟨cs, rfl, hsz, _⟩ : ∃ cs, v = .agg cs ∧ cs.size = Try.prog.cellsOf 44 ∧ Row.okWide Try.prog W r b0 44 cs := by
    simpa [Value.okWide, Try.underlying44] using hv
  have c2 : Try.prog.cellsOf 44 = 2 := by kernel_rfl
  have c1 : Try.prog.cellsOf 3 = 1 := by kernel_rfl
  rw [c2] at hsz
  obtain ⟨l⟩ := cs
  obtain ⟨c, c', rfl⟩ := two_cells l hsz
  obtain ⟨fuel, hf⟩ := h
  obtain ⟨xs, m, _, _, _, hn, hxs⟩ := DataW.trod_array Try.underlying44 hf
  have h0 := hxs 0 (by omega)
  have h1 := hxs 1 (by omega)
  rw [c1] at h0 h1
  obtain ⟨y0, y1, rfl⟩ := two_cells xs hn
  simp [Value.cells] at h0 h1
  obtain ⟨x, e0, _, wx⟩ := DataW.trod_int Try.underlying3 h0
  obtain ⟨y, e1, _, wy⟩ := DataW.trod_int Try.underlying3 h1
  simp at e0 e1
  exact ⟨x, y, by rw [e0, e1], wx, wy⟩
end Go.Proofs.Ytbckkjamcdpfdaa
