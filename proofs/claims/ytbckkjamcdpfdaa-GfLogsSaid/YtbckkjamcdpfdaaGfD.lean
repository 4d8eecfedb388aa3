/-
  What the functions of package gf answer that ask a new field (Inv, Div, Exp, Log, Pow), for all bytes and numbers; and the document's Inv, Pow, Log.
-/
import Derived.Test.YtbckkjamcdpfdaaGfC
namespace Go.Proofs.Ytbckkjamcdpfdaa
open Go.RowKit Gf

set_option maxHeartbeats 800000 in
theorem inv_any (w0 w : World) (a : Int) (h0 : 1 ≤ a) (h1 : a ≤ 255) (hk : Keeps w0 w) :
    Calls Try.prog 16 #[.int .u8 a] w fun e w' => e = .returned (.tuple #[.int .u8 (gi a), .int .i64 0]) ∧ Keeps w0 w' := by
  have hz : (a == 0) = false := by simp; omega
  go_enter Try.func16, Try.ntmps16
  go_wp2_with fail
  refine (new_any _).mono ?_
  rintro e w1 ⟨rfl, hf, hb⟩
  have hk1 := hk.trans hb
  clear hb hk
  go_wp2_with fail
  refine (finv_any _ _ _ hf h0 h1).mono ?_
  rintro e w2 ⟨rfl, hb⟩
  have hk2 := hk1.trans hb
  clear hb hk1 hf
  go_wp2
  go_ret2
  exact ⟨rfl, hk2⟩
set_option maxHeartbeats 800000 in
theorem inv_zero (w : World) :
    Calls Try.prog 16 #[.int .u8 0] w fun e w' => e = .returned (.tuple #[.int .u8 0, .int .i64 16]) ∧ w = w' := by
  go_enter Try.func16, Try.ntmps16
  go_wp2
  go_ret2
  exact ⟨rfl, rfl⟩
set_option maxHeartbeats 800000 in
theorem div_any (w0 w : World) (x a : Int) (hx : Byte x) (h0 : 1 ≤ a) (h1 : a ≤ 255) (hk : Keeps w0 w) :
    Calls Try.prog 17 #[.int .u8 x, .int .u8 a] w fun e w' => e = .returned (.tuple #[.int .u8 (gm x (gi a)), .int .i64 0]) ∧ Keeps w0 w' := by
  have hz : (a == 0) = false := by simp; omega
  go_enter Try.func17, Try.ntmps17
  go_wp2_with fail
  refine (new_any _).mono ?_
  rintro e w1 ⟨rfl, hf, hb⟩
  have hk1 := hk.trans hb
  clear hb hk
  go_wp2_with fail
  refine (finv_any _ _ _ hf h0 h1).mono ?_
  rintro e w2 ⟨rfl, hb⟩
  have hk2 := hk1.trans hb
  clear hb hk1 hf
  go_wp2_with fail
  refine (product_any _ _ _ hx.1 hx.2 (gi_bd a).1 (gi_bd a).2).mono ?_
  rintro e w3 ⟨rfl, rfl⟩
  go_wp2
  go_ret2
  exact ⟨rfl, hk2⟩
set_option maxHeartbeats 800000 in
theorem div_zero (w : World) (x : Int) :
    Calls Try.prog 17 #[.int .u8 x, .int .u8 0] w fun e w' => e = .returned (.tuple #[.int .u8 0, .int .i64 16]) ∧ w = w' := by
  go_enter Try.func17, Try.ntmps17
  go_wp2
  go_ret2
  exact ⟨rfl, rfl⟩
set_option maxHeartbeats 800000 in
theorem exp_any (w0 w : World) (n : Int) (hk : Keeps w0 w) :
    Calls Try.prog 21 #[.int .i64 n] w fun e w' => e = .returned (.int .u8 (ge n)) ∧ Keeps w0 w' := by
  go_enter Try.func21, Try.ntmps21
  go_wp2_with fail
  refine (new_any _).mono ?_
  rintro e w1 ⟨rfl, hf, hb⟩
  have hk1 := hk.trans hb
  clear hb hk
  go_wp2_with fail
  refine (fexp_any _ _ _ hf).mono ?_
  rintro e w2 ⟨rfl, hb⟩
  have hk2 := hk1.trans hb
  clear hb hk1 hf
  go_wp2
  go_ret
  exact ⟨rfl, hk2⟩
set_option maxHeartbeats 800000 in
theorem log_any (w0 w : World) (a : Int) (h0 : 1 ≤ a) (h1 : a ≤ 255) (hk : Keeps w0 w) :
    Calls Try.prog 20 #[.int .u8 a] w fun e w' => e = .returned (.tuple #[.int .i64 (gl a), .int .i64 0]) ∧ Keeps w0 w' := by
  have hz : (a == 0) = false := by simp; omega
  go_enter Try.func20, Try.ntmps20
  go_wp2_with fail
  refine (new_any _).mono ?_
  rintro e w1 ⟨rfl, hf, hb⟩
  have hk1 := hk.trans hb
  clear hb hk
  go_wp2_with fail
  refine (flog_any _ _ _ hf h0 h1).mono ?_
  rintro e w2 ⟨rfl, rfl⟩
  go_wp2
  go_ret2
  exact ⟨rfl, hk1⟩
set_option maxHeartbeats 800000 in
theorem log_zero (w : World) :
    Calls Try.prog 20 #[.int .u8 0] w fun e w' => e = .returned (.tuple #[.int .i64 0, .int .i64 16]) ∧ w = w' := by
  go_enter Try.func20, Try.ntmps20
  go_wp2
  go_ret2
  exact ⟨rfl, rfl⟩
/-- A byte that is not 0, n times by itself. -/
def gp (a n : Int) : Int := ge (gl a * (n % 255))
set_option maxHeartbeats 800000 in
theorem pow_any (w0 w : World) (a n : Int) (h0 : 1 ≤ a) (h1 : a ≤ 255) (hk : Keeps w0 w) :
    Calls Try.prog 19 #[.int .u8 a, .int .i64 n] w fun e w' => e = .returned (.tuple #[.int .u8 (gp a n), .int .i64 0]) ∧ Keeps w0 w' := by
  have hz : (a == 0) = false := by simp; omega
  have HP := Lib.hid (show gp a n = ge (gl a * (n % 255)) from rfl)
  obtain ⟨l0, l1⟩ := gl_bd h0 h1
  have n0 : 0 ≤ n % 255 := by omega
  have n1 : n % 255 ≤ 254 := by omega
  generalize hm : n % 255 = m at *
  have HM := Lib.hid hm
  clear hm
  have p0 : 0 ≤ gl a * m := Int.mul_nonneg l0 n0
  have p1 : gl a * m ≤ 100000 := by have := Int.mul_le_mul l1 n1 n0 (by omega); omega
  go_enter Try.func19, Try.ntmps19
  go_wp2_with fail
  refine (new_any _).mono ?_
  rintro e w1 ⟨rfl, hf, hb⟩
  have hk1 := hk.trans hb
  clear hb hk
  go_wp2_with fail
  refine (flog_any _ _ _ hf h0 h1).mono ?_
  rintro e w2 ⟨rfl, rfl⟩
  go_wp2_with fail
  refine (round_any _ _).mono ?_
  rintro e w2 ⟨rfl, rfl⟩
  rw [HM.out]
  go_wp2_with fail
  refine (fexp_any _ _ _ hf).mono ?_
  rintro e w2 ⟨rfl, hb⟩
  have hk2 := hk1.trans hb
  clear hb hk1 hf
  rw [← HP.out]
  go_wp2
  go_ret2
  exact ⟨rfl, hk2⟩
set_option maxHeartbeats 800000 in
theorem pow_zero (w : World) (n : Int) :
    Calls Try.prog 19 #[.int .u8 0, .int .i64 n] w fun e w' => e = .returned (.tuple #[.int .u8 (pzV n), .int .i64 (pzE n)]) ∧ w = w' := by
  go_enter Try.func19, Try.ntmps19
  go_wp2_with fail
  refine (powZero_any _ _).mono ?_
  rintro e w1 ⟨rfl, rfl⟩
  go_wp2
  go_ret2
  exact ⟨rfl, rfl⟩
end Go.Proofs.Ytbckkjamcdpfdaa
