/-
  Whole numbers below 2 to the 53rd as floats of 64 bits: their sums are exact, and they are read again as they were. No program.
-/
import Derived.Laws.FloatArith
import Derived.Laws.ComplexArith
import Derived.KernelRfl
namespace Go.Proofs.Ytofnokikjfmfgaa.Fl
open Go
set_option maxRecDepth 100000
/-- A number as a float's bits. -/
def fl (n : Nat) : Nat := FloatKind.f64.nearest (n : Int)
theorem cut_exact (neg : Bool) (m d : Nat) (hd : d ≤ (m * 2 ^ d).log2 + 2) : Ieee.Toward.even.cut neg (m * 2 ^ d) d = m := by
  unfold Ieee.Toward.cut
  have e : min d ((m * 2 ^ d).log2 + 2) = d := Nat.min_eq_left hd
  have p : 0 < 2 ^ d := Nat.two_pow_pos _
  simp only [e, Nat.one_shiftLeft, Nat.mul_div_cancel m p, Nat.mul_mod_left]
  have h1 : decide (2 ^ d < 2 * 0) = false := by simp
  have h2 : (2 ^ d == 2 * 0) = false := by simp
  simp [h2]
theorem log2_mul_pow (n k : Nat) (h : n ≠ 0) : (n * 2 ^ k).log2 = n.log2 + k := by
  have h1 := Nat.log2_self_le h
  have h2 : n < 2 ^ (n.log2 + 1) := Nat.lt_log2_self
  have hp := Nat.two_pow_pos k
  have hne : n * 2 ^ k ≠ 0 := Nat.mul_ne_zero h (by omega)
  rw [Nat.log2_eq_iff hne]
  refine ⟨by rw [Nat.pow_add]; exact Nat.mul_le_mul_right _ h1, ?_⟩
  rw [show n.log2 + k + 1 = n.log2 + 1 + k by omega, Nat.pow_add]
  exact Nat.mul_lt_mul_of_pos_right h2 hp
theorem log2_lt (n : Nat) (h : n ≠ 0) (hn : n < 9007199254740992) : n.log2 ≤ 52 := by
  have := (Nat.log2_lt h (k := 53)).2 hn
  omega
/-- The rung of a number. -/
def rung (n : Nat) : Nat := (n.log2 + 1022) * 4503599627370496 + n * 2 ^ (52 - n.log2)
/-- Where a number is written with some more zeros at its end, it is the same. -/
theorem nearest_pow (n k : Nat) (h : n ≠ 0) (hn : n < 9007199254740992) : Ieee.double.nearest false (n * 2 ^ k) (-(k : Int)) = rung n := by
  have hl := log2_lt n h hn
  have hne : n * 2 ^ k ≠ 0 := Nat.mul_ne_zero h (by have := Nat.two_pow_pos k; omega)
  have hlast : max (-(k : Int) + ((n * 2 ^ k).log2 : Int) - (Ieee.double.fractionBits : Int)) Ieee.double.leastPlace = (n.log2 : Int) - 52 := by
    rw [log2_mul_pow n k h]
    show max (-(k : Int) + ((n.log2 + k : Nat) : Int) - (52 : Nat)) (2 - 2 ^ 10 - (52 : Nat)) = _
    omega
  unfold Ieee.Format.nearest
  rw [if_neg hne]
  simp only [hlast]
  have hb : Ieee.double.binade = 4503599627370496 := rfl
  have hi : Ieee.double.infRung = 9218868437227405312 := by decide
  have hL : ((n.log2 : Int) - 52 - Ieee.double.leastPlace).toNat = n.log2 + 1022 := by
    show ((n.log2 : Int) - 52 - (2 - 2 ^ 10 - (52 : Nat))).toNat = _
    omega
  have hkept : Ieee.Toward.even.cut false ((n * 2 ^ k) <<< (-(k : Int) - ((n.log2 : Int) - 52)).toNat) ((n.log2 : Int) - 52 - -(k : Int)).toNat = n * 2 ^ (52 - n.log2) := by
    by_cases hc : n.log2 + k ≤ 52
    · have e1 : (-(k : Int) - ((n.log2 : Int) - 52)).toNat = 52 - n.log2 - k := by omega
      have e2 : ((n.log2 : Int) - 52 - -(k : Int)).toNat = 0 := by omega
      rw [e1, e2, Nat.shiftLeft_eq, Nat.mul_assoc, ← Nat.pow_add, show k + (52 - n.log2 - k) = 52 - n.log2 by omega]
      have := cut_exact false (n * 2 ^ (52 - n.log2)) 0 (Nat.zero_le _)
      rwa [Nat.pow_zero, Nat.mul_one] at this
    · have e1 : (-(k : Int) - ((n.log2 : Int) - 52)).toNat = 0 := by omega
      have e2 : ((n.log2 : Int) - 52 - -(k : Int)).toNat = n.log2 + k - 52 := by omega
      rw [e1, e2, Nat.shiftLeft_zero]
      have e3 : n * 2 ^ k = n * 2 ^ (52 - n.log2) * 2 ^ (n.log2 + k - 52) := by
        rw [Nat.mul_assoc, ← Nat.pow_add, show 52 - n.log2 + (n.log2 + k - 52) = k by omega]
      rw [e3]
      refine cut_exact false _ _ ?_
      rw [← e3, log2_mul_pow n k h]
      omega
  rw [hL, hkept, hb, hi]
  have hlt : n * 2 ^ (52 - n.log2) < 9007199254740992 := by
    have h2 : n < 2 ^ (n.log2 + 1) := Nat.lt_log2_self
    have : n * 2 ^ (52 - n.log2) < 2 ^ (n.log2 + 1) * 2 ^ (52 - n.log2) := Nat.mul_lt_mul_of_pos_right h2 (Nat.two_pow_pos _)
    rw [← Nat.pow_add, show n.log2 + 1 + (52 - n.log2) = 53 by omega] at this
    exact this
  show (if false = true then _ else _) = _
  simp only [Bool.false_eq_true, if_false]
  unfold rung
  exact Nat.min_eq_left (by omega)
theorem sig_bd (n : Nat) (h : n ≠ 0) (hn : n < 9007199254740992) : 4503599627370496 ≤ n * 2 ^ (52 - n.log2) ∧ n * 2 ^ (52 - n.log2) < 9007199254740992 := by
  have hl := log2_lt n h hn
  have h1 := Nat.log2_self_le h
  have h2 : n < 2 ^ (n.log2 + 1) := Nat.lt_log2_self
  constructor
  · have : 2 ^ n.log2 * 2 ^ (52 - n.log2) ≤ n * 2 ^ (52 - n.log2) := Nat.mul_le_mul_right _ h1
    rwa [← Nat.pow_add, show n.log2 + (52 - n.log2) = 52 by omega] at this
  · have : n * 2 ^ (52 - n.log2) < 2 ^ (n.log2 + 1) * 2 ^ (52 - n.log2) := Nat.mul_lt_mul_of_pos_right h2 (Nat.two_pow_pos _)
    rwa [← Nat.pow_add, show n.log2 + 1 + (52 - n.log2) = 53 by omega] at this
theorem fl_rung (n : Nat) (h : n ≠ 0) (hn : n < 9007199254740992) : fl n = rung n := by
  have := nearest_pow n 0 h hn
  rw [Nat.pow_zero, Nat.mul_one] at this
  rw [← this]
  unfold fl FloatKind.nearest FloatKind.encode
  have : decide ((n : Int) < 0) = false := by simp
  rw [this, Int.natAbs_natCast]
  rfl
theorem read_rung (n : Nat) (h : n ≠ 0) (hn : n < 9007199254740992) : Ieee.double.read (rung n) = .number false (n * 2 ^ (52 - n.log2)) ((n.log2 : Int) - 52) := by
  have hl := log2_lt n h hn
  obtain ⟨s1, s2⟩ := sig_bd n h hn
  have hr : rung n = (n.log2 + 1022) * 4503599627370496 + n * 2 ^ (52 - n.log2) := rfl
  generalize n * 2 ^ (52 - n.log2) = m at *
  generalize rung n = r at *
  generalize n.log2 = g at *
  unfold Ieee.Format.read
  have hw : Ieee.double.signWeight = 9223372036854775808 := by decide
  have hb : Ieee.double.binade = 4503599627370496 := rfl
  have hi : Ieee.double.infRung = 9218868437227405312 := by decide
  have hp : Ieee.double.leastPlace = -1074 := by decide
  rw [hw, hb, hi, hp]
  have e1 : r / 9223372036854775808 % 2 = 0 := by omega
  have e2 : r % 9223372036854775808 = r := by omega
  have e3 : r / 4503599627370496 = g + 1023 := by omega
  have e4 : r % 4503599627370496 = m - 4503599627370496 := by omega
  simp only [e1, e2, e3, e4]
  rw [if_neg (by omega), if_pos (by omega)]
  have e5 : 4503599627370496 + (m - 4503599627370496) = m := by omega
  have e6 : (-1074 : Int) + ((g + 1023 - 1 : Nat) : Int) = (g : Int) - 52 := by omega
  rw [e5, e6]
  rfl
theorem fl_zero : fl 0 = 0 := by decide
theorem read_zero : Ieee.double.read 0 = .number false 0 (-1074) := by decide
theorem read_fl (n : Nat) (h : n ≠ 0) (hn : n < 9007199254740992) : Ieee.double.read (fl n) = .number false (n * 2 ^ (52 - n.log2)) ((n.log2 : Int) - 52) := by rw [fl_rung n h hn]; exact read_rung n h hn
theorem signed_false (m k : Nat) : Ieee.signed false m k = ((m * 2 ^ k : Nat) : Int) := by unfold Ieee.signed; simp [Nat.shiftLeft_eq]
/-- What a number is read as. -/
theorem read_any (n : Nat) (hn : n < 9007199254740992) : ∃ j : Nat, Ieee.double.read (fl n) = .number false (n * 2 ^ j) (-(j : Int)) := by
  by_cases h : n = 0
  · obtain ⟨j, hj⟩ : ∃ j : Nat, j = 1074 := ⟨_, rfl⟩
    refine ⟨j, ?_⟩
    subst h
    rw [fl_zero, read_zero, Nat.zero_mul]
    congr 1
    omega
  · have hl := log2_lt n h hn
    refine ⟨52 - n.log2, ?_⟩
    rw [read_fl n h hn]
    congr 1
    omega
/-- A sum of two numbers that are below 2 to the 53rd together. -/
theorem fl_add (a b : Nat) (h : a + b < 9007199254740992) : floatBits .add .f64 (fl a) (fl b) = some (fl (a + b)) := by
  have e9 : floatBits .add .f64 (fl a) (fl b) = Ieee.double.add (fl a) (fl b) := by unfold floatBits FloatKind.format; rfl
  rw [e9]
  obtain ⟨i, hi⟩ := read_any a (by omega)
  obtain ⟨j, hj⟩ := read_any b (by omega)
  unfold Ieee.Format.add
  rw [hi, hj]
  simp only [Ieee.Datum.sum, signed_false]
  obtain ⟨k, hk⟩ : ∃ k : Nat, max i j = k := ⟨_, rfl⟩
  have e0 : min (-(i : Int)) (-(j : Int)) = -(k : Int) := by omega
  have e1 : (-(i : Int) - -(k : Int)).toNat = k - i := by omega
  have e2 : (-(j : Int) - -(k : Int)).toNat = k - j := by omega
  have hik : i + (k - i) = k := by omega
  have hjk : j + (k - j) = k := by omega
  rw [e0, e1, e2, Nat.mul_assoc, Nat.mul_assoc, ← Nat.pow_add, ← Nat.pow_add, hik, hjk, ← Int.natCast_add, ← Nat.add_mul]
  by_cases hz : a + b = 0
  · rw [hz, Nat.zero_mul]
    rw [if_pos (by rfl)]
    show some (Ieee.double.nearest (false && false) (Int.natAbs ((0 : Nat) : Int)) _) = _
    rw [show Int.natAbs ((0 : Nat) : Int) = 0 from rfl]
    unfold Ieee.Format.nearest
    rw [if_pos rfl, fl_zero]; rfl
  · have hp : (a + b) * 2 ^ k ≠ 0 := Nat.mul_ne_zero hz (by have := Nat.two_pow_pos k; omega)
    have e5 : ¬ (((a + b) * 2 ^ k : Nat) : Int) = 0 := by intro e; exact hp (Int.ofNat.inj e)
    have e6 : decide ((((a + b) * 2 ^ k : Nat) : Int) < 0) = false := by rw [decide_eq_false_iff_not]; exact Int.not_lt.2 (Int.natCast_nonneg _)
    rw [if_neg e5, e6, Int.natAbs_natCast]
    show some (Ieee.double.nearest false _ _) = _
    rw [nearest_pow _ k hz h, fl_rung _ hz h]
theorem cut_zero (neg : Bool) (m d : Nat) : Ieee.Toward.zero.cut neg (m * 2 ^ d) d = m := by
  unfold Ieee.Toward.cut
  have p : 0 < 2 ^ d := Nat.two_pow_pos _
  by_cases h : m = 0
  · subst h; simp
  · have e : min d ((m * 2 ^ d).log2 + 2) = d := Nat.min_eq_left (by rw [log2_mul_pow m d h]; omega)
    simp only [e, Nat.one_shiftLeft, Nat.mul_div_cancel m p]
    simp
/-- A float that is a whole number, read again. -/
theorem fl_int (n : Nat) (hn : n < 9007199254740992) (k : IntKind) (hk : k.min ≤ (n : Int) ∧ (n : Int) ≤ k.max) : floatToIntVal .f64 (fl n) k = some (n : Int) := by
  unfold floatToIntVal
  obtain ⟨j, hj⟩ := read_any n hn
  have e : (FloatKind.f64.decode (fl n)).toInt .zero = some (n : Int) := by
    show (Ieee.double.read (fl n)).toInt .zero = _
    rw [hj]
    unfold Ieee.Datum.toInt Ieee.Datum.integral
    simp only
    have e1 : (-(j : Int)).toNat = 0 := by omega
    have e2 : (- -(j : Int)).toNat = j := by omega
    rw [e1, e2, Nat.shiftLeft_zero, cut_zero, signed_false, Nat.pow_zero, Nat.mul_one]
  rw [e]
  simp only
  rw [if_pos hk]
theorem fl_c (a b c d : Nat) (h : a + c < 9007199254740992) (k : b + d < 9007199254740992) : cSumBits .add .f64 (fl a) (fl b) (fl c) (fl d) = some (fl (a + c), fl (b + d)) := by
  unfold cSumBits
  rw [fl_add a c h, fl_add b d k]; rfl
end Go.Proofs.Ytofnokikjfmfgaa.Fl
