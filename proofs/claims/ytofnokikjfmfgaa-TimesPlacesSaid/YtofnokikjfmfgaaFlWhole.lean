/-
  Which whole number a float of 64 bits is, if it is one: how it stands to small numbers, what is left of it when it is cut, and which number is read of it. No program.
-/
import Derived.Test.YtofnokikjfmfgaaFlMath
namespace Go.Proofs.Ytofnokikjfmfgaa.Fl
open Go
set_option maxRecDepth 100000
theorem cmp_scale (a b : Int) (k : Nat) : compare (a * ((2 ^ k : Nat) : Int)) (b * ((2 ^ k : Nat) : Int)) = compare a b := by
  have hp : (0 : Int) < ((2 ^ k : Nat) : Int) := by exact_mod_cast Nat.two_pow_pos k
  rw [show compare (a * ((2 ^ k : Nat) : Int)) (b * ((2 ^ k : Nat) : Int)) = compareOfLessAndEq (a * ((2 ^ k : Nat) : Int)) (b * ((2 ^ k : Nat) : Int)) from rfl, show compare a b = compareOfLessAndEq a b from rfl]
  unfold compareOfLessAndEq
  by_cases h : a < b
  · rw [if_pos h, if_pos (Int.mul_lt_mul_of_pos_right h hp)]
  · rw [if_neg h, if_neg (fun x => h (Int.lt_of_mul_lt_mul_right x (Int.le_of_lt hp)))]
    by_cases h2 : a = b
    · rw [if_pos h2, if_pos (by rw [h2])]
    · rw [if_neg h2, if_neg (fun x => h2 (Int.eq_of_mul_eq_mul_right (by omega) x))]
theorem signed_mul (s : Bool) (m k j : Nat) : Ieee.signed s m (k + j) = Ieee.signed s m k * ((2 ^ j : Nat) : Int) := by
  unfold Ieee.signed
  cases s
  · simp only [Bool.false_eq_true, if_false, Nat.shiftLeft_eq, Nat.pow_add]
    rw [← Int.natCast_mul, Nat.mul_assoc]
  · simp only [if_true, Nat.shiftLeft_eq, Nat.pow_add]
    rw [Int.neg_mul, ← Int.natCast_mul, Nat.mul_assoc]
/-- How a number stands to a small whole one. -/
theorem order_fl (s : Bool) (m : Nat) (p : Int) (n : Nat) (hn : n < 9007199254740992) :
    (Ieee.Datum.number s m p).order (Ieee.double.read (fl n)) = some (compare (Ieee.signed s m p.toNat) (((n * 2 ^ (-p).toNat : Nat)) : Int)) := by
  obtain ⟨j, hj⟩ := read_any n hn
  rw [hj]
  simp only [Ieee.Datum.order, signed_false]
  congr 1
  obtain ⟨Q, hQ⟩ : ∃ Q : Nat, (-p).toNat = Q := ⟨_, rfl⟩
  obtain ⟨P, hP⟩ : ∃ P : Nat, p.toNat = P := ⟨_, rfl⟩
  rw [hQ, hP]
  obtain ⟨c, hc⟩ : ∃ c : Nat, max Q j = Q + c := ⟨max Q j - Q, by omega⟩
  have e1 : (p - min p (-(j : Int))).toNat = P + c := by omega
  have e2 : (-(j : Int) - min p (-(j : Int))).toNat + j = Q + c := by omega
  rw [e1, signed_mul, Nat.mul_assoc, ← Nat.pow_add, Nat.add_comm j, e2, Nat.pow_add, ← Nat.mul_assoc, Int.natCast_mul, cmp_scale]
theorem cut_floor (s : Bool) (n d : Nat) : Ieee.Toward.zero.cut s n d = n / 2 ^ d := by
  unfold Ieee.Toward.cut
  simp only [Nat.one_shiftLeft, Bool.toNat_false, Nat.add_zero]
  by_cases h : d ≤ n.log2 + 2
  · rw [Nat.min_eq_left h]
  · rw [Nat.min_eq_right (by omega)]
    have h1 : n < 2 ^ (n.log2 + 1) := Nat.lt_log2_self
    have h2 : 2 ^ (n.log2 + 1) ≤ 2 ^ (n.log2 + 2) := Nat.pow_le_pow_right (by omega) (by omega)
    have h3 : 2 ^ (n.log2 + 2) ≤ 2 ^ d := Nat.pow_le_pow_right (by omega) (by omega)
    rw [Nat.div_eq_of_lt (by omega), Nat.div_eq_of_lt (by omega)]
/-- Is the float x the number n? -/
def isN (x n : Nat) : Bool := FloatKind.f64.format.order x (fl n) == some .eq
theorem isN_num {x n : Nat} {s : Bool} {m : Nat} {p : Int} (h : Ieee.double.read x = .number s m p) (hn : n < 9007199254740992) : isN x n = true ↔ Ieee.signed s m p.toNat = ((n * 2 ^ (-p).toNat : Nat) : Int) := by
  unfold isN Ieee.Format.order
  show ((Ieee.double.read x).order (Ieee.double.read (fl n)) == some .eq) = true ↔ _
  rw [h, order_fl _ _ _ _ hn]
  rw [beq_iff_eq, Option.some.injEq]
  exact Int.compare_eq_eq
theorem isN_inf {x n : Nat} {s : Bool} (h : Ieee.double.read x = .infinity s) (hn : n < 9007199254740992) : isN x n = false := by
  unfold isN Ieee.Format.order
  show ((Ieee.double.read x).order (Ieee.double.read (fl n)) == some .eq) = false
  obtain ⟨j, hj⟩ := read_any n hn
  rw [h, hj]
  cases s <;> rfl
theorem isN_nan {x n : Nat} {s : Bool} {t : Nat} (h : Ieee.double.read x = .nan s t) : isN x n = false := by
  unfold isN Ieee.Format.order
  show ((Ieee.double.read x).order (Ieee.double.read (fl n)) == some .eq) = false
  rw [h]; rfl
/-- It is no two numbers. -/
theorem isN_one {x n k : Nat} (hn : n < 9007199254740992) (hk : k < 9007199254740992) (h1 : isN x n = true) (h2 : isN x k = true) : n = k := by
  cases h : Ieee.double.read x with
  | number s m p =>
    rw [isN_num h hn] at h1
    rw [isN_num h hk] at h2
    rw [h1] at h2
    exact Nat.eq_of_mul_eq_mul_right (Nat.two_pow_pos _) (Int.ofNat.inj h2)
  | infinity s => rw [isN_inf h hn] at h1; cases h1
  | nan s t => rw [isN_nan h] at h1; cases h1
/-- Which number below n it is. -/
def wh (x n : Nat) : Option Nat := (List.range n).find? fun k => isN x k
theorem wh_some {x n k : Nat} (h : wh x n = some k) : k < n ∧ isN x k = true := by
  unfold wh at h
  exact ⟨List.mem_range.1 (List.mem_of_find?_eq_some h), by simpa using List.find?_some h⟩
theorem wh_none {x n : Nat} (h : wh x n = none) : ∀ k, k < n → isN x k = false := fun k hk => by
  unfold wh at h
  rw [List.find?_eq_none] at h
  have := h k (List.mem_range.2 hk)
  simpa using this
theorem wh_at {x n k : Nat} (hn : n < 9007199254740992) (hk : k < n) (h : isN x k = true) : wh x n = some k := by
  cases e : wh x n with
  | none => rw [wh_none e k hk] at h; cases h
  | some k' =>
    obtain ⟨a, b⟩ := wh_some e
    rw [isN_one (by omega) (by omega) h b]
/-- What is left when a float is cut. -/
def trn (x : Nat) : Nat := FloatKind.f64.encode ((FloatKind.f64.decode x).integral .zero)
theorem int_num {s : Bool} {m : Nat} {p : Int} : (Ieee.Datum.number s m p).integral .zero = .number s (m * 2 ^ p.toNat / 2 ^ (-p).toNat) 0 := by
  unfold Ieee.Datum.integral
  simp only
  rw [cut_floor, Nat.shiftLeft_eq]
theorem signed_val (s : Bool) (m k : Nat) : Ieee.signed s m k = if s then -((m * 2 ^ k : Nat) : Int) else ((m * 2 ^ k : Nat) : Int) := by
  unfold Ieee.signed; rw [Nat.shiftLeft_eq]
theorem write_fl (k : Nat) : Ieee.double.write (.number false k 0) = fl k := by
  unfold fl FloatKind.nearest FloatKind.encode
  have : decide ((k : Int) < 0) = false := by simp
  rw [this, Int.natAbs_natCast]; rfl
theorem read_negz : Ieee.double.read (Ieee.double.write (.number true 0 0)) = .number true 0 (-1074) := by decide
/-- What the three tests of 'whole' tell. -/
theorem whole_num {x n : Nat} {s : Bool} {m : Nat} {p : Int} (h : Ieee.double.read x = .number s m p) (hn : n < 9007199254740992)
    (h0 : (FloatKind.f64.format.order x 0 == some .gt || FloatKind.f64.format.order x 0 == some .eq) = true) (h1 : (FloatKind.f64.format.order x (fl n) == some .lt) = true) :
    (FloatKind.f64.format.order x (trn x) == some .eq) = (wh x n).isSome := by
  have a0 : (0 : Int) ≤ Ieee.signed s m p.toNat := by
    have e : FloatKind.f64.format.order x 0 = some (compare (Ieee.signed s m p.toNat) (((0 * 2 ^ (-p).toNat : Nat)) : Int)) := by
      rw [← order_fl s m p 0 (by omega), ← h]
      show (Ieee.double.read x).order (Ieee.double.read 0) = _
      rw [fl_zero]
    rw [e] at h0
    simp only [Nat.zero_mul] at h0
    rcases Int.lt_trichotomy (Ieee.signed s m p.toNat) ((0 : Nat) : Int) with hl | he | hg
    · rw [Int.compare_eq_lt.2 hl] at h0; cases h0
    · omega
    · omega
  have a1 : Ieee.signed s m p.toNat < ((n * 2 ^ (-p).toNat : Nat) : Int) := by
    have e : FloatKind.f64.format.order x (fl n) = some (compare (Ieee.signed s m p.toNat) (((n * 2 ^ (-p).toNat : Nat)) : Int)) := by
      rw [← order_fl s m p n hn, ← h]; rfl
    rw [e, beq_iff_eq, Option.some.injEq] at h1
    exact Int.compare_eq_lt.1 h1
  obtain ⟨T, hT⟩ : ∃ T, 2 ^ (-p).toNat = T := ⟨_, rfl⟩
  have hTp : 0 < T := hT ▸ Nat.two_pow_pos _
  obtain ⟨V, hV⟩ : ∃ V, m * 2 ^ p.toNat = V := ⟨_, rfl⟩
  rw [hT] at a1
  have hdec : FloatKind.f64.decode x = .number s m p := h
  have htr : trn x = Ieee.double.write (.number s (V / T) 0) := by
    unfold trn
    rw [hdec, int_num, hT, hV]; rfl
  cases s with
  | true =>
    have hm : V = 0 := by rw [signed_val, hV] at a0; simp at a0; omega
    have hm0 : m = 0 := by
      have hp := Nat.two_pow_pos p.toNat
      rcases Nat.eq_zero_or_pos m with e | e
      · exact e
      · have := Nat.mul_pos e hp; omega
    have hw : isN x 0 = true := by
      rw [isN_num h (by omega), signed_val, hV, hm]; simp
    have hn0 : 0 < n := by
      rcases Nat.eq_zero_or_pos n with e | e
      · subst e; rw [signed_val, hV, hm] at a1; simp at a1
      · exact e
    rw [wh_at hn hn0 hw]
    rw [htr, hm, Nat.zero_div]
    show ((Ieee.double.read x).order (Ieee.double.read (Ieee.double.write (.number true 0 0))) == some .eq) = true
    rw [h, read_negz, hm0]
    simp only [Ieee.Datum.order, Ieee.signed, Nat.zero_shiftLeft]
    rfl
  | false =>
    have sv : Ieee.signed false m p.toNat = (V : Int) := by rw [signed_val, hV]; rfl
    rw [sv] at a0 a1
    have hVn : V < n * T := by exact_mod_cast a1
    have hk : V / T < n := (Nat.div_lt_iff_lt_mul hTp).2 hVn
    rw [htr, write_fl]
    have e : (FloatKind.f64.format.order x (fl (V / T)) == some .eq) = isN x (V / T) := rfl
    rw [e]
    cases hx : isN x (V / T) with
    | true => rw [wh_at hn hk hx]; rfl
    | false =>
      cases hw : wh x n with
      | none => rfl
      | some k' =>
        exfalso
        obtain ⟨b1, b2⟩ := wh_some hw
        rw [isN_num h (by omega), sv, hT] at b2
        have b3 : V = k' * T := by exact_mod_cast b2
        rw [b3, Nat.mul_div_cancel _ hTp] at hx
        rw [b3, Nat.mul_div_cancel _ hTp] at hk
        have : isN x k' = true := by rw [isN_num h (by omega), sv, hT, b3]
        rw [this] at hx; cases hx
/-- Which floats are whole numbers below n: those alone that pass the tests. -/
theorem whole_no {x n : Nat} (hn : n < 9007199254740992) (h : (FloatKind.f64.format.order x 0 == some .gt || FloatKind.f64.format.order x 0 == some .eq) = false ∨ (FloatKind.f64.format.order x (fl n) == some .lt) = false) : wh x n = none := by
  cases hw : wh x n with
  | none => rfl
  | some k =>
    exfalso
    obtain ⟨b1, b2⟩ := wh_some hw
    cases hr : Ieee.double.read x with
    | number s m p =>
      have hT := Nat.two_pow_pos (-p).toNat
      have b3 := (isN_num hr (by omega)).1 b2
      have e0 : FloatKind.f64.format.order x 0 = some (compare (Ieee.signed s m p.toNat) (((0 * 2 ^ (-p).toNat : Nat)) : Int)) := by
        rw [← order_fl s m p 0 (by omega), ← hr]
        show (Ieee.double.read x).order (Ieee.double.read 0) = _
        rw [fl_zero]
      have e1 : FloatKind.f64.format.order x (fl n) = some (compare (Ieee.signed s m p.toNat) (((n * 2 ^ (-p).toNat : Nat)) : Int)) := by
        rw [← order_fl s m p n hn, ← hr]; rfl
      rcases h with h | h
      · rw [e0, b3] at h
        rcases Nat.eq_zero_or_pos (k * 2 ^ (-p).toNat) with g | g
        · rw [g] at h; simp at h
        · rw [Int.compare_eq_gt.2 (show (((0 * 2 ^ (-p).toNat : Nat)) : Int) < ((k * 2 ^ (-p).toNat : Nat) : Int) by omega)] at h
          simp at h
      · rw [e1, b3] at h
        have : k * 2 ^ (-p).toNat < n * 2 ^ (-p).toNat := Nat.mul_lt_mul_of_pos_right b1 hT
        rw [Int.compare_eq_lt.2 (by omega)] at h
        simp at h
    | infinity s => rw [isN_inf hr (by omega)] at b2; cases b2
    | nan s t => rw [isN_nan hr] at b2; cases b2
/-- Who passes the first two tests is a number. -/
theorem pass_num {x n : Nat} (hn : n < 9007199254740992) (h0 : (FloatKind.f64.format.order x 0 == some .gt || FloatKind.f64.format.order x 0 == some .eq) = true) (h1 : (FloatKind.f64.format.order x (fl n) == some .lt) = true) : ∃ s m p, Ieee.double.read x = .number s m p := by
  obtain ⟨j, hj⟩ := read_any n hn
  have e0 : FloatKind.f64.format.order x 0 = (Ieee.double.read x).order (.number false 0 (-1074)) := by rw [← read_zero]; rfl
  have e1 : FloatKind.f64.format.order x (fl n) = (Ieee.double.read x).order (.number false (n * 2 ^ j) (-(j : Int))) := by rw [← hj]; rfl
  rw [e0] at h0
  rw [e1] at h1
  cases hr : Ieee.double.read x with
  | number s m p => exact ⟨s, m, p, rfl⟩
  | infinity s =>
    rw [hr] at h0 h1
    cases s
    · simp [Ieee.Datum.order] at h1
    · simp [Ieee.Datum.order] at h0
  | nan s t => rw [hr] at h0; simp [Ieee.Datum.order] at h0
/-- Which number is read of it. -/
theorem wh_int {x n k : Nat} (hn : n < 9007199254740992) (h : wh x n = some k) : floatToIntVal .f64 x .i64 = some (k : Int) := by
  obtain ⟨b1, b2⟩ := wh_some h
  cases hr : Ieee.double.read x with
  | number s m p =>
    have hT := Nat.two_pow_pos (-p).toNat
    have b3 := (isN_num hr (by omega)).1 b2
    unfold floatToIntVal
    have e : (FloatKind.f64.decode x).toInt .zero = some (k : Int) := by
      show (Ieee.double.read x).toInt .zero = _
      rw [hr]
      unfold Ieee.Datum.toInt
      rw [int_num]
      simp only
      rw [signed_val] at b3 ⊢
      cases s with
      | false =>
        have b4 : m * 2 ^ p.toNat = k * 2 ^ (-p).toNat := by simp only [Bool.false_eq_true, if_false] at b3; exact Int.ofNat.inj b3
        rw [b4, Nat.mul_div_cancel _ hT]; simp
      | true =>
        have b4 : m * 2 ^ p.toNat = 0 ∧ k * 2 ^ (-p).toNat = 0 := by
          simp only [if_true] at b3; omega
        have b5 : k = 0 := by
          rcases Nat.eq_zero_or_pos k with g | g
          · exact g
          · have := Nat.mul_pos g hT; omega
        rw [b4.1, b5]; simp
    rw [e]
    simp only
    rw [if_pos ⟨by show (-9223372036854775808 : Int) ≤ _; omega, by show _ ≤ (9223372036854775807 : Int); omega⟩]
  | infinity s => rw [isN_inf hr (by omega)] at b2; cases b2
  | nan s t => rw [isN_nan hr] at b2; cases b2
theorem isN_fl {a b : Nat} (ha : a < 9007199254740992) (hb : b < 9007199254740992) : isN (fl a) b = decide (a = b) := by
  obtain ⟨j, hj⟩ := read_any a ha
  have h := isN_num hj hb
  rw [signed_false] at h
  have e : (-(j : Int)).toNat = 0 := by omega
  have e2 : (- -(j : Int)).toNat = j := by omega
  rw [e, e2, Nat.pow_zero, Nat.mul_one] at h
  by_cases hab : a = b
  · rw [decide_eq_true hab]; exact h.2 (by rw [hab])
  · rw [decide_eq_false hab]
    cases hx : isN (fl a) b with
    | false => rfl
    | true =>
      have := h.1 hx
      exact absurd (Nat.eq_of_mul_eq_mul_right (Nat.two_pow_pos j) (Int.ofNat.inj this)) hab
theorem wh_fl {a n : Nat} (hn : n < 9007199254740992) (ha : a < n) : wh (fl a) n = some a := wh_at hn ha (by rw [isN_fl (by omega) (by omega)]; exact decide_eq_true rfl)
end Go.Proofs.Ytofnokikjfmfgaa.Fl
