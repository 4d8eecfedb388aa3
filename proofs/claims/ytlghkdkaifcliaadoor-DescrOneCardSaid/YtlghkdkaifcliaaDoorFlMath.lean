/-
  Whole numbers below 2 to the 53rd as floats of 64 bits, and which whole number a float is. No program.
-/
import Derived.Laws.FloatArith
import Derived.Laws.ComplexArith
import Derived.KernelRfl
namespace Go.Proofs.YtlghkdkaifcliaaDoor.Fl
open Go
set_option maxRecDepth 100000
/-- A number as a float's bits. -/
def fl (n : Nat) : Nat := FloatKind.f64.nearest (n : Int)
theorem cut_exact (neg : Bool) (m d : Nat) (hd : d ≤ (m * 2 ^ d).log2 + 2) : Ieee.Toward.even.cut neg (m * 2 ^ d) d = m := by
  unfold Ieee.Toward.cut
  have e : min d ((m * 2 ^ d).log2 + 2) = d := Nat.min_eq_left hd
  have p : 0 < 2 ^ d := Nat.two_pow_pos _
  simp only [e, Nat.one_shiftLeft, Nat.mul_div_cancel m p, Nat.mul_mod_left]
  have h1 : decide (2 ^ d < 2 * 0) = false := by simp
  have h2 : (2 ^ d == 2 * 0) = false := by simp
  simp [h2]
theorem log2_mul_pow (n k : Nat) (h : n ≠ 0) : (n * 2 ^ k).log2 = n.log2 + k := by
  have h1 := Nat.log2_self_le h
  have h2 : n < 2 ^ (n.log2 + 1) := Nat.lt_log2_self
  have hp := Nat.two_pow_pos k
  have hne : n * 2 ^ k ≠ 0 := Nat.mul_ne_zero h (by omega)
  rw [Nat.log2_eq_iff hne]
  refine ⟨by rw [Nat.pow_add]; exact Nat.mul_le_mul_right _ h1, ?_⟩
  rw [show n.log2 + k + 1 = n.log2 + 1 + k by omega, Nat.pow_add]
  exact Nat.mul_lt_mul_of_pos_right h2 hp
theorem log2_lt (n : Nat) (h : n ≠ 0) (hn : n < 9007199254740992) : n.log2 ≤ 52 := by
  have := (Nat.log2_lt h (k := 53)).2 hn
  omega
/-- The rung of a number. -/
def rung (n : Nat) : Nat := (n.log2 + 1022) * 4503599627370496 + n * 2 ^ (52 - n.log2)
/-- Where a number is written with some more zeros at its end, it is the same. -/
theorem nearest_pow (n k : Nat) (h : n ≠ 0) (hn : n < 9007199254740992) : Ieee.double.nearest false (n * 2 ^ k) (-(k : Int)) = rung n := by
  have hl := log2_lt n h hn
  have hne : n * 2 ^ k ≠ 0 := Nat.mul_ne_zero h (by have := Nat.two_pow_pos k; omega)
  have hlast : max (-(k : Int) + ((n * 2 ^ k).log2 : Int) - (Ieee.double.fractionBits : Int)) Ieee.double.leastPlace = (n.log2 : Int) - 52 := by
    rw [log2_mul_pow n k h]
    show max (-(k : Int) + ((n.log2 + k : Nat) : Int) - (52 : Nat)) (2 - 2 ^ 10 - (52 : Nat)) = _
    omega
  unfold Ieee.Format.nearest
  rw [if_neg hne]
  simp only [hlast]
  have hb : Ieee.double.binade = 4503599627370496 := rfl
  have hi : Ieee.double.infRung = 9218868437227405312 := by decide
  have hL : ((n.log2 : Int) - 52 - Ieee.double.leastPlace).toNat = n.log2 + 1022 := by
    show ((n.log2 : Int) - 52 - (2 - 2 ^ 10 - (52 : Nat))).toNat = _
    omega
  have hkept : Ieee.Toward.even.cut false ((n * 2 ^ k) <<< (-(k : Int) - ((n.log2 : Int) - 52)).toNat) ((n.log2 : Int) - 52 - -(k : Int)).toNat = n * 2 ^ (52 - n.log2) := by
    by_cases hc : n.log2 + k ≤ 52
    · have e1 : (-(k : Int) - ((n.log2 : Int) - 52)).toNat = 52 - n.log2 - k := by omega
      have e2 : ((n.log2 : Int) - 52 - -(k : Int)).toNat = 0 := by omega
      rw [e1, e2, Nat.shiftLeft_eq, Nat.mul_assoc, ← Nat.pow_add, show k + (52 - n.log2 - k) = 52 - n.log2 by omega]
      have := cut_exact false (n * 2 ^ (52 - n.log2)) 0 (Nat.zero_le _)
      rwa [Nat.pow_zero, Nat.mul_one] at this
    · have e1 : (-(k : Int) - ((n.log2 : Int) - 52)).toNat = 0 := by omega
      have e2 : ((n.log2 : Int) - 52 - -(k : Int)).toNat = n.log2 + k - 52 := by omega
      rw [e1, e2, Nat.shiftLeft_zero]
      have e3 : n * 2 ^ k = n * 2 ^ (52 - n.log2) * 2 ^ (n.log2 + k - 52) := by
        rw [Nat.mul_assoc, ← Nat.pow_add, show 52 - n.log2 + (n.log2 + k - 52) = k by omega]
      rw [e3]
      refine cut_exact false _ _ ?_
      rw [← e3, log2_mul_pow n k h]
      omega
  rw [hL, hkept, hb, hi]
  have hlt : n * 2 ^ (52 - n.log2) < 9007199254740992 := by
    have h2 : n < 2 ^ (n.log2 + 1) := Nat.lt_log2_self
    have : n * 2 ^ (52 - n.log2) < 2 ^ (n.log2 + 1) * 2 ^ (52 - n.log2) := Nat.mul_lt_mul_of_pos_right h2 (Nat.two_pow_pos _)
    rw [← Nat.pow_add, show n.log2 + 1 + (52 - n.log2) = 53 by omega] at this
    exact this
  show (if false = true then _ else _) = _
  simp only [Bool.false_eq_true, if_false]
  unfold rung
  exact Nat.min_eq_left (by omega)
theorem sig_bd (n : Nat) (h : n ≠ 0) (hn : n < 9007199254740992) : 4503599627370496 ≤ n * 2 ^ (52 - n.log2) ∧ n * 2 ^ (52 - n.log2) < 9007199254740992 := by
  have hl := log2_lt n h hn
  have h1 := Nat.log2_self_le h
  have h2 : n < 2 ^ (n.log2 + 1) := Nat.lt_log2_self
  constructor
  · have : 2 ^ n.log2 * 2 ^ (52 - n.log2) ≤ n * 2 ^ (52 - n.log2) := Nat.mul_le_mul_right _ h1
    rwa [← Nat.pow_add, show n.log2 + (52 - n.log2) = 52 by omega] at this
  · have : n * 2 ^ (52 - n.log2) < 2 ^ (n.log2 + 1) * 2 ^ (52 - n.log2) := Nat.mul_lt_mul_of_pos_right h2 (Nat.two_pow_pos _)
    rwa [← Nat.pow_add, show n.log2 + 1 + (52 - n.log2) = 53 by omega] at this
theorem fl_rung (n : Nat) (h : n ≠ 0) (hn : n < 9007199254740992) : fl n = rung n := by
  have := nearest_pow n 0 h hn
  rw [Nat.pow_zero, Nat.mul_one] at this
  rw [← this]
  unfold fl FloatKind.nearest FloatKind.encode
  have : decide ((n : Int) < 0) = false := by simp
  rw [this, Int.natAbs_natCast]
  rfl
theorem read_rung (n : Nat) (h : n ≠ 0) (hn : n < 9007199254740992) : Ieee.double.read (rung n) = .number false (n * 2 ^ (52 - n.log2)) ((n.log2 : Int) - 52) := by
  have hl := log2_lt n h hn
  obtain ⟨s1, s2⟩ := sig_bd n h hn
  have hr : rung n = (n.log2 + 1022) * 4503599627370496 + n * 2 ^ (52 - n.log2) := rfl
  generalize n * 2 ^ (52 - n.log2) = m at *
  generalize rung n = r at *
  generalize n.log2 = g at *
  unfold Ieee.Format.read
  have hw : Ieee.double.signWeight = 9223372036854775808 := by decide
  have hb : Ieee.double.binade = 4503599627370496 := rfl
  have hi : Ieee.double.infRung = 9218868437227405312 := by decide
  have hp : Ieee.double.leastPlace = -1074 := by decide
  rw [hw, hb, hi, hp]
  have e1 : r / 9223372036854775808 % 2 = 0 := by omega
  have e2 : r % 9223372036854775808 = r := by omega
  have e3 : r / 4503599627370496 = g + 1023 := by omega
  have e4 : r % 4503599627370496 = m - 4503599627370496 := by omega
  simp only [e1, e2, e3, e4]
  rw [if_neg (by omega), if_pos (by omega)]
  have e5 : 4503599627370496 + (m - 4503599627370496) = m := by omega
  have e6 : (-1074 : Int) + ((g + 1023 - 1 : Nat) : Int) = (g : Int) - 52 := by omega
  rw [e5, e6]
  rfl
theorem fl_zero : fl 0 = 0 := by decide
theorem read_zero : Ieee.double.read 0 = .number false 0 (-1074) := by decide
theorem read_fl (n : Nat) (h : n ≠ 0) (hn : n < 9007199254740992) : Ieee.double.read (fl n) = .number false (n * 2 ^ (52 - n.log2)) ((n.log2 : Int) - 52) := by rw [fl_rung n h hn]; exact read_rung n h hn
theorem signed_false (m k : Nat) : Ieee.signed false m k = ((m * 2 ^ k : Nat) : Int) := by unfold Ieee.signed; simp [Nat.shiftLeft_eq]
/-- What a number is read as. -/
theorem read_any (n : Nat) (hn : n < 9007199254740992) : ∃ j : Nat, Ieee.double.read (fl n) = .number false (n * 2 ^ j) (-(j : Int)) := by
  by_cases h : n = 0
  · obtain ⟨j, hj⟩ : ∃ j : Nat, j = 1074 := ⟨_, rfl⟩
    refine ⟨j, ?_⟩
    subst h
    rw [fl_zero, read_zero, Nat.zero_mul]
    congr 1
    omega
  · have hl := log2_lt n h hn
    refine ⟨52 - n.log2, ?_⟩
    rw [read_fl n h hn]
    congr 1
    omega
/-- A sum of two numbers that are below 2 to the 53rd together. -/
theorem fl_add (a b : Nat) (h : a + b < 9007199254740992) : floatBits .add .f64 (fl a) (fl b) = some (fl (a + b)) := by
  have e9 : floatBits .add .f64 (fl a) (fl b) = Ieee.double.add (fl a) (fl b) := by unfold floatBits FloatKind.format; rfl
  rw [e9]
  obtain ⟨i, hi⟩ := read_any a (by omega)
  obtain ⟨j, hj⟩ := read_any b (by omega)
  unfold Ieee.Format.add
  rw [hi, hj]
  simp only [Ieee.Datum.sum, signed_false]
  obtain ⟨k, hk⟩ : ∃ k : Nat, max i j = k := ⟨_, rfl⟩
  have e0 : min (-(i : Int)) (-(j : Int)) = -(k : Int) := by omega
  have e1 : (-(i : Int) - -(k : Int)).toNat = k - i := by omega
  have e2 : (-(j : Int) - -(k : Int)).toNat = k - j := by omega
  have hik : i + (k - i) = k := by omega
  have hjk : j + (k - j) = k := by omega
  rw [e0, e1, e2, Nat.mul_assoc, Nat.mul_assoc, ← Nat.pow_add, ← Nat.pow_add, hik, hjk, ← Int.natCast_add, ← Nat.add_mul]
  by_cases hz : a + b = 0
  · rw [hz, Nat.zero_mul]
    rw [if_pos (by rfl)]
    show some (Ieee.double.nearest (false && false) (Int.natAbs ((0 : Nat) : Int)) _) = _
    rw [show Int.natAbs ((0 : Nat) : Int) = 0 from rfl]
    unfold Ieee.Format.nearest
    rw [if_pos rfl, fl_zero]; rfl
  · have hp : (a + b) * 2 ^ k ≠ 0 := Nat.mul_ne_zero hz (by have := Nat.two_pow_pos k; omega)
    have e5 : ¬ (((a + b) * 2 ^ k : Nat) : Int) = 0 := by intro e; exact hp (Int.ofNat.inj e)
    have e6 : decide ((((a + b) * 2 ^ k : Nat) : Int) < 0) = false := by rw [decide_eq_false_iff_not]; exact Int.not_lt.2 (Int.natCast_nonneg _)
    rw [if_neg e5, e6, Int.natAbs_natCast]
    show some (Ieee.double.nearest false _ _) = _
    rw [nearest_pow _ k hz h, fl_rung _ hz h]
theorem cut_zero (neg : Bool) (m d : Nat) : Ieee.Toward.zero.cut neg (m * 2 ^ d) d = m := by
  unfold Ieee.Toward.cut
  have p : 0 < 2 ^ d := Nat.two_pow_pos _
  by_cases h : m = 0
  · subst h; simp
  · have e : min d ((m * 2 ^ d).log2 + 2) = d := Nat.min_eq_left (by rw [log2_mul_pow m d h]; omega)
    simp only [e, Nat.one_shiftLeft, Nat.mul_div_cancel m p]
    simp
/-- A float that is a whole number, read again. -/
theorem fl_int (n : Nat) (hn : n < 9007199254740992) (k : IntKind) (hk : k.min ≤ (n : Int) ∧ (n : Int) ≤ k.max) : floatToIntVal .f64 (fl n) k = some (n : Int) := by
  unfold floatToIntVal
  obtain ⟨j, hj⟩ := read_any n hn
  have e : (FloatKind.f64.decode (fl n)).toInt .zero = some (n : Int) := by
    show (Ieee.double.read (fl n)).toInt .zero = _
    rw [hj]
    unfold Ieee.Datum.toInt Ieee.Datum.integral
    simp only
    have e1 : (-(j : Int)).toNat = 0 := by omega
    have e2 : (- -(j : Int)).toNat = j := by omega
    rw [e1, e2, Nat.shiftLeft_zero, cut_zero, signed_false, Nat.pow_zero, Nat.mul_one]
  rw [e]
  simp only
  rw [if_pos hk]
theorem fl_c (a b c d : Nat) (h : a + c < 9007199254740992) (k : b + d < 9007199254740992) : cSumBits .add .f64 (fl a) (fl b) (fl c) (fl d) = some (fl (a + c), fl (b + d)) := by
  unfold cSumBits
  rw [fl_add a c h, fl_add b d k]; rfl
end Go.Proofs.YtlghkdkaifcliaaDoor.Fl
namespace Go.Proofs.YtlghkdkaifcliaaDoor.Fl
open Go
set_option maxRecDepth 100000
theorem cmp_scale (a b : Int) (k : Nat) : compare (a * ((2 ^ k : Nat) : Int)) (b * ((2 ^ k : Nat) : Int)) = compare a b := by
  have hp : (0 : Int) < ((2 ^ k : Nat) : Int) := by exact_mod_cast Nat.two_pow_pos k
  rw [show compare (a * ((2 ^ k : Nat) : Int)) (b * ((2 ^ k : Nat) : Int)) = compareOfLessAndEq (a * ((2 ^ k : Nat) : Int)) (b * ((2 ^ k : Nat) : Int)) from rfl, show compare a b = compareOfLessAndEq a b from rfl]
  unfold compareOfLessAndEq
  by_cases h : a < b
  · rw [if_pos h, if_pos (Int.mul_lt_mul_of_pos_right h hp)]
  · rw [if_neg h, if_neg (fun x => h (Int.lt_of_mul_lt_mul_right x (Int.le_of_lt hp)))]
    by_cases h2 : a = b
    · rw [if_pos h2, if_pos (by rw [h2])]
    · rw [if_neg h2, if_neg (fun x => h2 (Int.eq_of_mul_eq_mul_right (by omega) x))]
theorem signed_mul (s : Bool) (m k j : Nat) : Ieee.signed s m (k + j) = Ieee.signed s m k * ((2 ^ j : Nat) : Int) := by
  unfold Ieee.signed
  cases s
  · simp only [Bool.false_eq_true, if_false, Nat.shiftLeft_eq, Nat.pow_add]
    rw [← Int.natCast_mul, Nat.mul_assoc]
  · simp only [if_true, Nat.shiftLeft_eq, Nat.pow_add]
    rw [Int.neg_mul, ← Int.natCast_mul, Nat.mul_assoc]
/-- How a number stands to a small whole one. -/
theorem order_fl (s : Bool) (m : Nat) (p : Int) (n : Nat) (hn : n < 9007199254740992) :
    (Ieee.Datum.number s m p).order (Ieee.double.read (fl n)) = some (compare (Ieee.signed s m p.toNat) (((n * 2 ^ (-p).toNat : Nat)) : Int)) := by
  obtain ⟨j, hj⟩ := read_any n hn
  rw [hj]
  simp only [Ieee.Datum.order, signed_false]
  congr 1
  obtain ⟨Q, hQ⟩ : ∃ Q : Nat, (-p).toNat = Q := ⟨_, rfl⟩
  obtain ⟨P, hP⟩ : ∃ P : Nat, p.toNat = P := ⟨_, rfl⟩
  rw [hQ, hP]
  obtain ⟨c, hc⟩ : ∃ c : Nat, max Q j = Q + c := ⟨max Q j - Q, by omega⟩
  have e1 : (p - min p (-(j : Int))).toNat = P + c := by omega
  have e2 : (-(j : Int) - min p (-(j : Int))).toNat + j = Q + c := by omega
  rw [e1, signed_mul, Nat.mul_assoc, ← Nat.pow_add, Nat.add_comm j, e2, Nat.pow_add, ← Nat.mul_assoc, Int.natCast_mul, cmp_scale]
theorem cut_floor (s : Bool) (n d : Nat) : Ieee.Toward.zero.cut s n d = n / 2 ^ d := by
  unfold Ieee.Toward.cut
  simp only [Nat.one_shiftLeft, Bool.toNat_false, Nat.add_zero]
  by_cases h : d ≤ n.log2 + 2
  · rw [Nat.min_eq_left h]
  · rw [Nat.min_eq_right (by omega)]
    have h1 : n < 2 ^ (n.log2 + 1) := Nat.lt_log2_self
    have h2 : 2 ^ (n.log2 + 1) ≤ 2 ^ (n.log2 + 2) := Nat.pow_le_pow_right (by omega) (by omega)
    have h3 : 2 ^ (n.log2 + 2) ≤ 2 ^ d := Nat.pow_le_pow_right (by omega) (by omega)
    rw [Nat.div_eq_of_lt (by omega), Nat.div_eq_of_lt (by omega)]
/-- Is the float x the number n? -/
def isN (x n : Nat) : Bool := FloatKind.f64.format.order x (fl n) == some .eq
theorem isN_num {x n : Nat} {s : Bool} {m : Nat} {p : Int} (h : Ieee.double.read x = .number s m p) (hn : n < 9007199254740992) : isN x n = true ↔ Ieee.signed s m p.toNat = ((n * 2 ^ (-p).toNat : Nat) : Int) := by
  unfold isN Ieee.Format.order
  show ((Ieee.double.read x).order (Ieee.double.read (fl n)) == some .eq) = true ↔ _
  rw [h, order_fl _ _ _ _ hn]
  rw [beq_iff_eq, Option.some.injEq]
  exact Int.compare_eq_eq
theorem isN_inf {x n : Nat} {s : Bool} (h : Ieee.double.read x = .infinity s) (hn : n < 9007199254740992) : isN x n = false := by
  unfold isN Ieee.Format.order
  show ((Ieee.double.read x).order (Ieee.double.read (fl n)) == some .eq) = false
  obtain ⟨j, hj⟩ := read_any n hn
  rw [h, hj]
  cases s <;> rfl
theorem isN_nan {x n : Nat} {s : Bool} {t : Nat} (h : Ieee.double.read x = .nan s t) : isN x n = false := by
  unfold isN Ieee.Format.order
  show ((Ieee.double.read x).order (Ieee.double.read (fl n)) == some .eq) = false
  rw [h]; rfl
/-- It is no two numbers. -/
theorem isN_one {x n k : Nat} (hn : n < 9007199254740992) (hk : k < 9007199254740992) (h1 : isN x n = true) (h2 : isN x k = true) : n = k := by
  cases h : Ieee.double.read x with
  | number s m p =>
    rw [isN_num h hn] at h1
    rw [isN_num h hk] at h2
    rw [h1] at h2
    exact Nat.eq_of_mul_eq_mul_right (Nat.two_pow_pos _) (Int.ofNat.inj h2)
  | infinity s => rw [isN_inf h hn] at h1; cases h1
  | nan s t => rw [isN_nan h] at h1; cases h1
/-- Which number below n it is. -/
def wh (x n : Nat) : Option Nat := (List.range n).find? fun k => isN x k
theorem wh_some {x n k : Nat} (h : wh x n = some k) : k < n ∧ isN x k = true := by
  unfold wh at h
  exact ⟨List.mem_range.1 (List.mem_of_find?_eq_some h), by simpa using List.find?_some h⟩
theorem wh_none {x n : Nat} (h : wh x n = none) : ∀ k, k < n → isN x k = false := fun k hk => by
  unfold wh at h
  rw [List.find?_eq_none] at h
  have := h k (List.mem_range.2 hk)
  simpa using this
theorem wh_at {x n k : Nat} (hn : n < 9007199254740992) (hk : k < n) (h : isN x k = true) : wh x n = some k := by
  cases e : wh x n with
  | none => rw [wh_none e k hk] at h; cases h
  | some k' =>
    obtain ⟨a, b⟩ := wh_some e
    rw [isN_one (by omega) (by omega) h b]
/-- What is left when a float is cut. -/
def trn (x : Nat) : Nat := FloatKind.f64.encode ((FloatKind.f64.decode x).integral .zero)
theorem int_num {s : Bool} {m : Nat} {p : Int} : (Ieee.Datum.number s m p).integral .zero = .number s (m * 2 ^ p.toNat / 2 ^ (-p).toNat) 0 := by
  unfold Ieee.Datum.integral
  simp only
  rw [cut_floor, Nat.shiftLeft_eq]
theorem signed_val (s : Bool) (m k : Nat) : Ieee.signed s m k = if s then -((m * 2 ^ k : Nat) : Int) else ((m * 2 ^ k : Nat) : Int) := by
  unfold Ieee.signed; rw [Nat.shiftLeft_eq]
theorem write_fl (k : Nat) : Ieee.double.write (.number false k 0) = fl k := by
  unfold fl FloatKind.nearest FloatKind.encode
  have : decide ((k : Int) < 0) = false := by simp
  rw [this, Int.natAbs_natCast]; rfl
theorem read_negz : Ieee.double.read (Ieee.double.write (.number true 0 0)) = .number true 0 (-1074) := by decide
/-- What the three tests of 'whole' tell. -/
theorem whole_num {x n : Nat} {s : Bool} {m : Nat} {p : Int} (h : Ieee.double.read x = .number s m p) (hn : n < 9007199254740992)
    (h0 : (FloatKind.f64.format.order x 0 == some .gt || FloatKind.f64.format.order x 0 == some .eq) = true) (h1 : (FloatKind.f64.format.order x (fl n) == some .lt) = true) :
    (FloatKind.f64.format.order x (trn x) == some .eq) = (wh x n).isSome := by
  have a0 : (0 : Int) ≤ Ieee.signed s m p.toNat := by
    have e : FloatKind.f64.format.order x 0 = some (compare (Ieee.signed s m p.toNat) (((0 * 2 ^ (-p).toNat : Nat)) : Int)) := by
      rw [← order_fl s m p 0 (by omega), ← h]
      show (Ieee.double.read x).order (Ieee.double.read 0) = _
      rw [fl_zero]
    rw [e] at h0
    simp only [Nat.zero_mul] at h0
    rcases Int.lt_trichotomy (Ieee.signed s m p.toNat) ((0 : Nat) : Int) with hl | he | hg
    · rw [Int.compare_eq_lt.2 hl] at h0; cases h0
    · omega
    · omega
  have a1 : Ieee.signed s m p.toNat < ((n * 2 ^ (-p).toNat : Nat) : Int) := by
    have e : FloatKind.f64.format.order x (fl n) = some (compare (Ieee.signed s m p.toNat) (((n * 2 ^ (-p).toNat : Nat)) : Int)) := by
      rw [← order_fl s m p n hn, ← h]; rfl
    rw [e, beq_iff_eq, Option.some.injEq] at h1
    exact Int.compare_eq_lt.1 h1
  obtain ⟨T, hT⟩ : ∃ T, 2 ^ (-p).toNat = T := ⟨_, rfl⟩
  have hTp : 0 < T := hT ▸ Nat.two_pow_pos _
  obtain ⟨V, hV⟩ : ∃ V, m * 2 ^ p.toNat = V := ⟨_, rfl⟩
  rw [hT] at a1
  have hdec : FloatKind.f64.decode x = .number s m p := h
  have htr : trn x = Ieee.double.write (.number s (V / T) 0) := by
    unfold trn
    rw [hdec, int_num, hT, hV]; rfl
  cases s with
  | true =>
    have hm : V = 0 := by rw [signed_val, hV] at a0; simp at a0; omega
    have hm0 : m = 0 := by
      have hp := Nat.two_pow_pos p.toNat
      rcases Nat.eq_zero_or_pos m with e | e
      · exact e
      · have := Nat.mul_pos e hp; omega
    have hw : isN x 0 = true := by
      rw [isN_num h (by omega), signed_val, hV, hm]; simp
    have hn0 : 0 < n := by
      rcases Nat.eq_zero_or_pos n with e | e
      · subst e; rw [signed_val, hV, hm] at a1; simp at a1
      · exact e
    rw [wh_at hn hn0 hw]
    rw [htr, hm, Nat.zero_div]
    show ((Ieee.double.read x).order (Ieee.double.read (Ieee.double.write (.number true 0 0))) == some .eq) = true
    rw [h, read_negz, hm0]
    simp only [Ieee.Datum.order, Ieee.signed, Nat.zero_shiftLeft]
    rfl
  | false =>
    have sv : Ieee.signed false m p.toNat = (V : Int) := by rw [signed_val, hV]; rfl
    rw [sv] at a0 a1
    have hVn : V < n * T := by exact_mod_cast a1
    have hk : V / T < n := (Nat.div_lt_iff_lt_mul hTp).2 hVn
    rw [htr, write_fl]
    have e : (FloatKind.f64.format.order x (fl (V / T)) == some .eq) = isN x (V / T) := rfl
    rw [e]
    cases hx : isN x (V / T) with
    | true => rw [wh_at hn hk hx]; rfl
    | false =>
      cases hw : wh x n with
      | none => rfl
      | some k' =>
        exfalso
        obtain ⟨b1, b2⟩ := wh_some hw
        rw [isN_num h (by omega), sv, hT] at b2
        have b3 : V = k' * T := by exact_mod_cast b2
        rw [b3, Nat.mul_div_cancel _ hTp] at hx
        rw [b3, Nat.mul_div_cancel _ hTp] at hk
        have : isN x k' = true := by rw [isN_num h (by omega), sv, hT, b3]
        rw [this] at hx; cases hx
/-- Which floats are whole numbers below n: those alone that pass the tests. -/
theorem whole_no {x n : Nat} (hn : n < 9007199254740992) (h : (FloatKind.f64.format.order x 0 == some .gt || FloatKind.f64.format.order x 0 == some .eq) = false ∨ (FloatKind.f64.format.order x (fl n) == some .lt) = false) : wh x n = none := by
  cases hw : wh x n with
  | none => rfl
  | some k =>
    exfalso
    obtain ⟨b1, b2⟩ := wh_some hw
    cases hr : Ieee.double.read x with
    | number s m p =>
      have hT := Nat.two_pow_pos (-p).toNat
      have b3 := (isN_num hr (by omega)).1 b2
      have e0 : FloatKind.f64.format.order x 0 = some (compare (Ieee.signed s m p.toNat) (((0 * 2 ^ (-p).toNat : Nat)) : Int)) := by
        rw [← order_fl s m p 0 (by omega), ← hr]
        show (Ieee.double.read x).order (Ieee.double.read 0) = _
        rw [fl_zero]
      have e1 : FloatKind.f64.format.order x (fl n) = some (compare (Ieee.signed s m p.toNat) (((n * 2 ^ (-p).toNat : Nat)) : Int)) := by
        rw [← order_fl s m p n hn, ← hr]; rfl
      rcases h with h | h
      · rw [e0, b3] at h
        rcases Nat.eq_zero_or_pos (k * 2 ^ (-p).toNat) with g | g
        · rw [g] at h; simp at h
        · rw [Int.compare_eq_gt.2 (show (((0 * 2 ^ (-p).toNat : Nat)) : Int) < ((k * 2 ^ (-p).toNat : Nat) : Int) by omega)] at h
          simp at h
      · rw [e1, b3] at h
        have : k * 2 ^ (-p).toNat < n * 2 ^ (-p).toNat := Nat.mul_lt_mul_of_pos_right b1 hT
        rw [Int.compare_eq_lt.2 (by omega)] at h
        simp at h
    | infinity s => rw [isN_inf hr (by omega)] at b2; cases b2
    | nan s t => rw [isN_nan hr] at b2; cases b2
/-- Who passes the first two tests is a number. -/
theorem pass_num {x n : Nat} (hn : n < 9007199254740992) (h0 : (FloatKind.f64.format.order x 0 == some .gt || FloatKind.f64.format.order x 0 == some .eq) = true) (h1 : (FloatKind.f64.format.order x (fl n) == some .lt) = true) : ∃ s m p, Ieee.double.read x = .number s m p := by
  obtain ⟨j, hj⟩ := read_any n hn
  have e0 : FloatKind.f64.format.order x 0 = (Ieee.double.read x).order (.number false 0 (-1074)) := by rw [← read_zero]; rfl
  have e1 : FloatKind.f64.format.order x (fl n) = (Ieee.double.read x).order (.number false (n * 2 ^ j) (-(j : Int))) := by rw [← hj]; rfl
  rw [e0] at h0
  rw [e1] at h1
  cases hr : Ieee.double.read x with
  | number s m p => exact ⟨s, m, p, rfl⟩
  | infinity s =>
    rw [hr] at h0 h1
    cases s
    · simp [Ieee.Datum.order] at h1
    · simp [Ieee.Datum.order] at h0
  | nan s t => rw [hr] at h0; simp [Ieee.Datum.order] at h0
/-- Which number is read of it. -/
theorem wh_int {x n k : Nat} (hn : n < 9007199254740992) (h : wh x n = some k) : floatToIntVal .f64 x .i64 = some (k : Int) := by
  obtain ⟨b1, b2⟩ := wh_some h
  cases hr : Ieee.double.read x with
  | number s m p =>
    have hT := Nat.two_pow_pos (-p).toNat
    have b3 := (isN_num hr (by omega)).1 b2
    unfold floatToIntVal
    have e : (FloatKind.f64.decode x).toInt .zero = some (k : Int) := by
      show (Ieee.double.read x).toInt .zero = _
      rw [hr]
      unfold Ieee.Datum.toInt
      rw [int_num]
      simp only
      rw [signed_val] at b3 ⊢
      cases s with
      | false =>
        have b4 : m * 2 ^ p.toNat = k * 2 ^ (-p).toNat := by simp only [Bool.false_eq_true, if_false] at b3; exact Int.ofNat.inj b3
        rw [b4, Nat.mul_div_cancel _ hT]; simp
      | true =>
        have b4 : m * 2 ^ p.toNat = 0 ∧ k * 2 ^ (-p).toNat = 0 := by
          simp only [if_true] at b3; omega
        have b5 : k = 0 := by
          rcases Nat.eq_zero_or_pos k with g | g
          · exact g
          · have := Nat.mul_pos g hT; omega
        rw [b4.1, b5]; simp
    rw [e]
    simp only
    rw [if_pos ⟨by show (-9223372036854775808 : Int) ≤ _; omega, by show _ ≤ (9223372036854775807 : Int); omega⟩]
  | infinity s => rw [isN_inf hr (by omega)] at b2; cases b2
  | nan s t => rw [isN_nan hr] at b2; cases b2
theorem isN_fl {a b : Nat} (ha : a < 9007199254740992) (hb : b < 9007199254740992) : isN (fl a) b = decide (a = b) := by
  obtain ⟨j, hj⟩ := read_any a ha
  have h := isN_num hj hb
  rw [signed_false] at h
  have e : (-(j : Int)).toNat = 0 := by omega
  have e2 : (- -(j : Int)).toNat = j := by omega
  rw [e, e2, Nat.pow_zero, Nat.mul_one] at h
  by_cases hab : a = b
  · rw [decide_eq_true hab]; exact h.2 (by rw [hab])
  · rw [decide_eq_false hab]
    cases hx : isN (fl a) b with
    | false => rfl
    | true =>
      have := h.1 hx
      exact absurd (Nat.eq_of_mul_eq_mul_right (Nat.two_pow_pos j) (Int.ofNat.inj this)) hab
theorem wh_fl {a n : Nat} (hn : n < 9007199254740992) (ha : a < n) : wh (fl a) n = some a := wh_at hn ha (by rw [isN_fl (by omega) (by omega)]; exact decide_eq_true rfl)
end Go.Proofs.YtlghkdkaifcliaaDoor.Fl
