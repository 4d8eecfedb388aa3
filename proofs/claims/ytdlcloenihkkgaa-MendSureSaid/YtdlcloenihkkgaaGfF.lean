/-
  The document's Inv, Pow and Log: they are the program's numbers, for all bytes (Inv, Log: but 0) and all numbers.
-/
import Derived.Test.YtdlcloenihkkgaaGfD
namespace Go.Proofs.Ytdlcloenihkkgaa
open Go.RowKit Gf
set_option maxRecDepth 100000

theorem toNat_gm (a b : Int) : (gm a b).toNat = mulN a.toNat b.toNat := by unfold gm; rw [Int.toNat_natCast]
def riRel (a : Nat) (out p i : Value) : Prop := ∃ (k : Nat) (x y : Int), k ≤ 7 ∧ x = ((rinv a k).1 : Nat) ∧ y = ((rinv a k).2 : Nat) ∧ p = .int .u8 x ∧ out = .int .u8 y ∧ i = .int .i64 k
theorem rinv_lt {a : Nat} (ha : a < 256) (k : Nat) : (rinv a k).1 < 256 ∧ (rinv a k).2 < 256 := by
  cases k with
  | zero => exact ⟨ha, by simp [rinv]⟩
  | succ k => exact ⟨mulN_lt _ _, mulN_lt _ _⟩
theorem ge_nat (n : Nat) : ge (n : Int) = ((expN (n % 255) : Nat) : Int) := by
  unfold ge; congr 2
theorem gp_pow {a n : Int} (h0 : 1 ≤ a) : gp a n = ((powN a.toNat (n % 255).toNat : Nat) : Int) := by
  rw [powN_eq (by omega), gp]
  have : gl a * (n % 255) = ((logN a.toNat * (n % 255).toNat : Nat) : Int) := by
    unfold gl; rw [Int.natCast_mul, Int.toNat_of_nonneg (by omega)]
  rw [this, ge_nat]
theorem powN_lt {a k : Nat} : powN a k < 256 := by
  cases k with
  | zero => simp [powN]
  | succ k => exact mulN_lt _ _
def rpRel (a : Nat) (m : Int) (out i : Value) : Prop := ∃ (k : Nat) (y : Int), (k : Int) ≤ m ∧ y = (powN a k : Nat) ∧ out = .int .u8 y ∧ i = .int .i64 k
theorem rp_step {a : Int} {m : Int} {k : Nat} {y : Int} (h : (k : Int) < m) (hy : y = (powN a.toNat k : Nat)) : rpRel a.toNat m (.int .u8 (gm y a)) (.int .i64 ((k : Int) + 1)) := by
  refine ⟨k + 1, _, by omega, ?_, rfl, by go_num⟩
  rw [hy]; unfold gm; rw [Int.toNat_natCast]; rfl
set_option maxHeartbeats 800000 in
theorem refpow_any (a n : Int) (w : World) (h0 : 1 ≤ a) (h1 : a ≤ 255) :
    Calls Try.prog 29 #[.int .u8 a, .int .i64 n] w fun e w' => e = .returned (.int .u8 (gp a n)) ∧ w = w' := by
  have hz : (a == 0) = false := by simp; omega
  have HP := Lib.hid (gp_pow (a := a) (n := n) h0)
  have n0 : 0 ≤ n % 255 := by omega
  have n1 : n % 255 ≤ 254 := by omega
  have HR1 := Lib.hid (fun h : n.tmod 255 < 0 => round_neg h)
  have HR2 := Lib.hid (fun h : 0 ≤ n.tmod 255 => round_pos h)
  generalize n % 255 = m at *
  by_cases hs : n.tmod 255 < 0
  all_goals
    go_enter Try.func29, Try.ntmps29
    go_wp2
    first
      | rw [HR1.out hs]
      | rw [HR2.out (by omega)]
    go_loop [6, 7] (fun out i => rpRel a.toNat m out i) (fun _ i => m.toNat - (intOf i).toNat)
    case atStart => exact ⟨0, 1, by omega, rfl, rfl, rfl⟩
    case round =>
      obtain ⟨k, y, hk, hy, rfl, rfl⟩ := hrel
      have hy0 : Byte y := by rw [hy]; have := powN_lt (a := a.toNat) (k := k); exact ⟨by omega, by omega⟩
      have HY := Lib.hid hy
      clear hy
      by_cases hlt : (k : Int) < m
      · go_wp2_with (go_at_call 42; refine (refmul_any _ _ _ hy0.1 hy0.2 (by omega) h1).mono ?_; rintro e w' ⟨rfl, rfl⟩)
        go_round
        case rel => exact rp_step hlt HY.out
        case measure => simp [intOf]; omega
      · go_wp2
        go_ret
        exact ⟨ret_int (by rw [HY.out, HP.out, show m.toNat = k by omega]), rfl⟩
set_option maxHeartbeats 800000 in
theorem refpow_zero (n : Int) (w : World) :
    Calls Try.prog 29 #[.int .u8 0, .int .i64 n] w fun e w' => e = .returned (.int .u8 (pzV n)) ∧ w = w' := by
  by_cases h : n = 0
  · subst h
    go_enter Try.func29, Try.ntmps29
    go_wp2
    go_ret
    exact ⟨rfl, rfl⟩
  · have hz : (n == 0) = false := by simp [h]
    have HV := Lib.hid (show pzV n = 0 from if_neg h)
    clear h
    go_enter Try.func29, Try.ntmps29
    go_wp2
    go_ret
    exact ⟨ret_int HV.out.symm, rfl⟩

def rlRel (a : Nat) (x n : Value) : Prop := ∃ (k : Nat) (y : Int), k ≤ logN a ∧ y = (expN k : Nat) ∧ x = .int .u8 y ∧ n = .int .i64 k
theorem rl_step {a k : Nat} {y : Int} (ha : logN a < 255) (h : k < logN a) (hy : y = (expN k : Nat)) : rlRel a (.int .u8 (gm y 2)) (.int .i64 ((k : Int) + 1)) := by
  refine ⟨k + 1, _, by omega, ?_, rfl, by go_num⟩
  rw [hy]; unfold gm
  rw [Int.toNat_natCast, show (2 : Int).toNat = 2 from rfl, mul_two (expN_lt k), dbl_exp (by omega), Nat.mod_eq_of_lt (by omega)]
end Go.Proofs.Ytdlcloenihkkgaa
