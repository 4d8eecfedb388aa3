/-
  The laws of the field, for bytes as Go's numbers.
-/
import Derived.Test.YtdlcloenihkkgaaGfE
namespace Go.Proofs.Ytdlcloenihkkgaa
open Gf
set_option maxRecDepth 100000
theorem xr_comm (a b : Int) : xr a b = xr b a := by unfold xr; rw [Nat.xor_comm]
theorem xr_self (a : Int) : xr a a = 0 := by unfold xr; rw [Nat.xor_self]; rfl
theorem xr_zero' {a : Int} (h : Byte a) : xr a 0 = a := by rw [xr_comm]; exact xr_zero h
theorem xr_assoc (a b c : Int) : xr (xr a b) c = xr a (xr b c) := by unfold xr; rw [Int.toNat_natCast, Int.toNat_natCast, Nat.xor_assoc]
theorem xr_back {a b : Int} (hb : Byte b) : xr (xr a b) a = b := by rw [xr_comm a b, xr_assoc, xr_self, xr_zero' hb]
theorem gm_comm (a b : Int) : gm a b = gm b a := by unfold gm; rw [mul_comm]
theorem gm_zero (a : Int) : gm a 0 = 0 := by unfold gm; rw [show (0 : Int).toNat = 0 from rfl, mul_zero]; rfl
theorem gm_one' {a : Int} (h : Byte a) : gm a 1 = a := by rw [gm_comm]; exact gm_one h
theorem gm_assoc (a b c : Int) : gm (gm a b) c = gm a (gm b c) := by unfold gm; rw [Int.toNat_natCast, Int.toNat_natCast, mul_assoc]
theorem Byte.nat {a : Int} (h : Byte a) : a.toNat < 256 := by have h1 := h.1; have h2 := h.2; omega
theorem gm_xr {a b c : Int} (ha : Byte a) (hb : Byte b) (hc : Byte c) : gm a (xr b c) = xr (gm a b) (gm a c) := by
  unfold gm xr; rw [Int.toNat_natCast, Int.toNat_natCast, Int.toNat_natCast, mul_add ha.nat hb.nat hc.nat]
theorem xr_gm {a b c : Int} (ha : Byte a) (hb : Byte b) (hc : Byte c) : gm (xr b c) a = xr (gm b a) (gm c a) := by
  rw [gm_comm, gm_xr ha hb hc, gm_comm a b, gm_comm a c]
theorem gm_inv {a : Int} (h0 : 1 ≤ a) (h1 : a ≤ 255) : gm a (gi a) = 1 := by
  unfold gm gi; rw [Int.toNat_natCast, (mul_inv (by omega) (by omega)).1]; rfl
theorem gm_div {a b : Int} (h0 : 1 ≤ a) (h1 : a ≤ 255) (hb : Byte b) : gm (gm b (gi a)) a = b := by
  rw [gm_assoc, gm_comm (gi a) a, gm_inv h0 h1, gm_one' hb]
theorem gm_pos {a b : Int} (h0 : 1 ≤ a) (h2 : 1 ≤ b) : 1 ≤ gm a b := by
  have := mul_ne0 (a := a.toNat) (b := b.toNat) (by omega) (by omega)
  unfold gm; omega
theorem gm_nil {a b : Int} (h0 : 1 ≤ a) (hb : Byte b) : (gm a b == 0) = (b == 0) := by
  by_cases h : b = 0
  · subst h; rw [gm_zero]
  · have h2 := hb.1
    have := gm_pos h0 (show 1 ≤ b by omega)
    rw [Bool.eq_iff_iff]; simp; omega
end Go.Proofs.Ytdlcloenihkkgaa
