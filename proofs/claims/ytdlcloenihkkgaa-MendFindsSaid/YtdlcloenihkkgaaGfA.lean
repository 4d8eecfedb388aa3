/-
  What the functions of package gf that touch no memory answer, and those of the document's answer for it: double, product, round, powZero; Bit, Xor, Add, Mul. For all bytes (Xor: numbers below 65536).
-/
import Derived.Test.YtdlcloenihkkgaaChecked
import Derived.Test.YtdlcloenihkkgaaGfMath
import Derived.WalkKit
import Derived.ProofKit
import Derived.Below
import Derived.Lib.Hide
import Derived.Laws.BitsAllLaws
namespace Go.Proofs.Ytdlcloenihkkgaa
open Go.RowKit Gf
set_option maxRecDepth 100000

def xr (a b : Int) : Int := ((a.toNat ^^^ b.toNat : Nat) : Int)
def gm (a b : Int) : Int := ((mulN a.toNat b.toNat : Nat) : Int)
def gd (a : Int) : Int := ((dbl a.toNat : Nat) : Int)
theorem xr_bd {a b : Int} (ha : a ≤ 255) (hb : b ≤ 255) : 0 ≤ xr a b ∧ xr a b ≤ 255 := by
  have : a.toNat ^^^ b.toNat < 2 ^ 8 := Nat.xor_lt_two_pow (by omega) (by omega)
  unfold xr; omega
theorem gm_bd (a b : Int) : 0 ≤ gm a b ∧ gm a b ≤ 255 := by
  have := mulN_lt a.toNat b.toNat
  unfold gm; omega
theorem gd_bd {a : Int} (ha : a ≤ 255) : 0 ≤ gd a ∧ gd a ≤ 255 := by
  have := dbl_lt (a := a.toNat) (by omega)
  unfold gd; omega
theorem ret_int {k : IntKind} {a b : Int} (h : a = b) : Ending.returned (.int k a) = .returned (.int k b) := by rw [h]

theorem chkDbl : allB 256 (fun a => (Nat.beq (a &&& 128) 0 && Nat.beq (a * 2 % 256) (dbl a)) || (!Nat.beq (a &&& 128) 0 && Nat.beq ((a * 2 % 256) ^^^ 29) (dbl a))) = true := by kernel_rfl
theorem dbl_yes {a : Int} (h0 : 0 ≤ a) (h1 : a ≤ 255) (h : (bits BinOp.and IntKind.u8 a 128 != 0) = true) : bits BinOp.xor IntKind.u8 (a * 2 % 256) 29 = gd a := by
  obtain ⟨n, rfl⟩ := Int.eq_ofNat_of_zero_le h0
  have hn : n < 256 := by omega
  rw [show (128 : Int) = ((128 : Nat) : Int) from rfl, u8_and_nat n 128 hn (by omega)] at h
  rw [show ((n : Int) * 2 % 256) = ((n * 2 % 256 : Nat) : Int) by omega, show (29 : Int) = ((29 : Nat) : Int) from rfl, u8_xor_nat _ 29 (Nat.mod_lt _ (by omega)) (by omega)]
  have c := allB_at chkDbl hn
  simp only [Bool.or_eq_true, Bool.and_eq_true, Nat.beq_eq, Bool.not_eq_true', bne_iff_ne, ne_eq] at c h
  unfold gd; rw [Int.toNat_natCast]
  rcases c with c | c
  · exact absurd (by rw [c.1]; rfl) h
  · rw [c.2]
theorem dbl_no {a : Int} (h0 : 0 ≤ a) (h1 : a ≤ 255) (h : (bits BinOp.and IntKind.u8 a 128 != 0) = false) : a * 2 % 256 = gd a := by
  obtain ⟨n, rfl⟩ := Int.eq_ofNat_of_zero_le h0
  have hn : n < 256 := by omega
  rw [show (128 : Int) = ((128 : Nat) : Int) from rfl, u8_and_nat n 128 hn (by omega)] at h
  have c := allB_at chkDbl hn
  simp only [bne_eq_false_iff_eq] at h
  have h' : n &&& 128 = 0 := by exact_mod_cast h
  simp only [h', Bool.or_eq_true, Bool.and_eq_true, Nat.beq_eq] at c
  unfold gd; rw [Int.toNat_natCast]
  simp at c
  omega
set_option maxHeartbeats 400000 in
theorem double_any (a : Int) (w : World) (h0 : 0 ≤ a) (h1 : a ≤ 255) :
    Calls Try.prog 38 #[.int .u8 a] w fun e w' => e = .returned (.int .u8 (gd a)) ∧ w = w' := by
  go_enter Try.func38, Try.ntmps38
  go_wp2
  all_goals go_ret
  · rename_i h; exact ⟨ret_int (dbl_yes h0 h1 h), rfl⟩
  · rename_i h; exact ⟨ret_int (dbl_no h0 h1 h), rfl⟩

theorem tmod_255 (n : Int) : n.tmod 255 = n % 255 ∧ 0 ≤ n.tmod 255 ∨ n.tmod 255 = n % 255 - 255 := by
  have h := Int.tmod_eq_emod (a := n) (b := 255)
  split at h
  · left; omega
  · right; simpa using h
theorem round_neg {n : Int} (h : n.tmod 255 < 0) : wrap64 (n.tmod 255 + 255) = n % 255 := by
  have h1 : n.tmod 255 + 255 = n % 255 := by have := tmod_255 n; omega
  rw [h1, wrap64]
  omega
theorem round_pos {n : Int} (h : 0 ≤ n.tmod 255) : n.tmod 255 = n % 255 := by have := tmod_255 n; omega
set_option maxHeartbeats 400000 in
theorem round_any (n : Int) (w : World) :
    Calls Try.prog 39 #[.int .i64 n] w fun e w' => e = .returned (.int .i64 (n % 255)) ∧ w = w' := by
  go_enter Try.func39, Try.ntmps39
  go_wp2
  all_goals go_ret
  · rename_i h; exact ⟨ret_int (round_neg h), rfl⟩
  · rename_i h; exact ⟨ret_int (round_pos h), rfl⟩

theorem bit0_yes {b : Nat} (hb : b < 256) (h : b % 2 = 1) : (bits BinOp.and IntKind.u8 (b : Int) 1 != 0) = true := by
  rw [show (1 : Int) = ((1 : Nat) : Int) from rfl, u8_and_nat b 1 hb (by omega), Nat.and_one_is_mod, h]; rfl
theorem bit0_no {b : Nat} (hb : b < 256) (h : b % 2 = 0) : (bits BinOp.and IntKind.u8 (b : Int) 1 != 0) = false := by
  rw [show (1 : Int) = ((1 : Nat) : Int) from rfl, u8_and_nat b 1 hb (by omega), Nat.and_one_is_mod, h]; rfl
def pRel (a b : Int) (x y s : Value) : Prop := ∃ a' b' s' : Nat, a' < 256 ∧ b' < 256 ∧ s' < 256 ∧ (s' ^^^ mulN a' b' : Nat) = gm a b ∧ x = .int .u8 a' ∧ y = .int .u8 b' ∧ s = .int .u8 s'
theorem pRel_yes {a b : Int} {a' b' s' : Nat} (ha : a' < 256) (hb : b' < 256) (hs : s' < 256) (h : b' % 2 = 1) (he : ((s' ^^^ mulN a' b' : Nat) : Int) = gm a b) :
    pRel a b (.int .u8 (gd a')) (.int .u8 ((b' : Int) / 2)) (.int .u8 (bits BinOp.xor IntKind.u8 (s' : Int) (a' : Int))) := by
  refine ⟨dbl a', b' / 2, s' ^^^ a', dbl_lt ha, by omega, Nat.xor_lt_two_pow (n := 8) hs ha, ?_, ?_, ?_, ?_⟩
  · rw [← he, mul_step ha hb, h, Nat.one_mul, Nat.xor_assoc, Nat.xor_comm a']
  · unfold gd; rw [Int.toNat_natCast]
  · rw [show ((b' / 2 : Nat) : Int) = (b' : Int) / 2 by omega]
  · rw [u8_xor_nat s' a' hs ha]
theorem pRel_no {a b : Int} {a' b' s' : Nat} (ha : a' < 256) (hb : b' < 256) (hs : s' < 256) (h : b' % 2 = 0) (he : ((s' ^^^ mulN a' b' : Nat) : Int) = gm a b) :
    pRel a b (.int .u8 (gd a')) (.int .u8 ((b' : Int) / 2)) (.int .u8 (s' : Int)) := by
  refine ⟨dbl a', b' / 2, s', dbl_lt ha, by omega, hs, ?_, ?_, ?_, rfl⟩
  · rw [← he, mul_step ha hb, h]; simp
  · unfold gd; rw [Int.toNat_natCast]
  · rw [show ((b' / 2 : Nat) : Int) = (b' : Int) / 2 by omega]
def pzV (n : Int) : Int := if n = 0 then 1 else 0
def pzE (n : Int) : Int := if n < 0 then 16 else 0
/-- Has a number a bit (1, 2, 4, ..)? -/
def bt (a b : Int) : Bool := a / b % 2 == 1
theorem bt_nat (n i : Nat) : bt (n : Int) ((2 ^ i : Nat) : Int) = n.testBit i := by
  rw [Nat.testBit_eq_decide_div_mod_eq, bt, Bool.eq_iff_iff]
  simp only [beq_iff_eq, decide_eq_true_eq]
  rw [← Int.natCast_ediv]
  omega
set_option maxHeartbeats 400000 in
theorem bit_any (a b : Int) (w : World) (h0 : 0 ≤ a) (h1 : 1 ≤ b) (h2 : a ≤ 4294967296) (h3 : b ≤ 65536) :
    Calls Try.prog 64 #[.int .i64 a, .int .i64 b] w fun e w' => e = .returned (.bool (bt a b)) ∧ w = w' := by
  have h4 : (b == 0) = false := by simp; omega
  have h5 : 0 ≤ a / b := Int.ediv_nonneg h0 (by omega)
  have h6 : a / b ≤ a := Int.ediv_le_self _ h0
  go_enter Try.func64, Try.ntmps64
  go_wp2
  go_ret
  exact ⟨rfl, rfl⟩

/-- The number q is 2 to the i. -/
def Pw (q : Int) (i : Nat) : Prop := q = ((2 ^ i : Nat) : Int)
theorem Pw.pos {q : Int} {i : Nat} (h : Pw q i) : 1 ≤ q := by
  have := Nat.one_le_two_pow (n := i); rw [h]; omega
theorem Pw.le {q : Int} {i j : Nat} (h : Pw q i) (hi : i ≤ j) : q ≤ ((2 ^ j : Nat) : Int) := by
  have := Nat.pow_le_pow_right (n := 2) (by omega) hi; rw [h]; omega
theorem Pw.ge {q : Int} {i j : Nat} (h : Pw q i) (hi : j ≤ i) : ((2 ^ j : Nat) : Int) ≤ q := by
  have := Nat.pow_le_pow_right (n := 2) (by omega) hi; rw [h]; omega
theorem Pw.succ {q : Int} {i : Nat} (h : Pw q i) : Pw (2 * q) (i + 1) := by
  unfold Pw at *; rw [h, Nat.pow_succ]; omega
theorem Pw.half {q : Int} {i : Nat} (h : Pw q (i + 1)) : Pw (q / 2) i := by
  unfold Pw at *; rw [h, Nat.pow_succ]; omega
theorem Pw.bt {q : Int} {i : Nat} (h : Pw q i) {a : Int} (ha : 0 ≤ a) : bt a q = a.toNat.testBit i := by
  obtain ⟨n, rfl⟩ := Int.eq_ofNat_of_zero_le ha
  rw [show q = ((2 ^ i : Nat) : Int) from h]; exact bt_nat n i
theorem mod_succ (x i : Nat) : x % 2 ^ (i + 1) = x % 2 ^ i + 2 ^ i * (x.testBit i).toNat := by
  rw [Nat.mod_pow_succ, Nat.testBit_eq_decide_div_mod_eq]
  rcases Nat.mod_two_eq_zero_or_one (x / 2 ^ i) with h | h <;> simp [h]
def xMeas (bit : Value) : Nat := 65536 - (intOf bit).toNat
/-- m is the first i bits of x. -/
def Lo (x i : Nat) (m : Int) : Prop := m = ((x % 2 ^ i : Nat) : Int)
theorem Lo.bd {x i : Nat} {m q : Int} (h : Lo x i m) (hq : Pw q i) : 0 ≤ m ∧ m < q := by
  have := Nat.mod_lt x (Nat.two_pow_pos i)
  rw [h, hq]; omega
def xRel (x : Nat) (n bit : Value) : Prop := ∃ (i : Nat) (q m : Int), i ≤ 16 ∧ Pw q i ∧ Lo x i m ∧ bit = .int .i64 q ∧ n = .int .i64 m
theorem xRel_yes {x i : Nat} {q m : Int} (hi : i < 16) (hp : Pw q i) (hm : Lo x i m) (h : x.testBit i = true) : xRel x (.int .i64 (m + q)) (.int .i64 (2 * q)) := by
  refine ⟨i + 1, _, _, by omega, hp.succ, ?_, rfl, rfl⟩
  unfold Lo; rw [mod_succ, h, hm, hp]; simp
theorem xRel_no {x i : Nat} {q m : Int} (hi : i < 16) (hp : Pw q i) (hm : Lo x i m) (h : x.testBit i = false) : xRel x (.int .i64 m) (.int .i64 (2 * q)) := by
  refine ⟨i + 1, _, _, by omega, hp.succ, ?_, rfl, rfl⟩
  unfold Lo; rw [mod_succ, h, hm]; simp
set_option maxHeartbeats 800000 in
theorem xor_any (a b : Int) (w : World) (h0 : 0 ≤ a) (h1 : a ≤ 65535) (h2 : 0 ≤ b) (h3 : b ≤ 65535) :
    Calls Try.prog 63 #[.int .i64 a, .int .i64 b] w fun e w' => e = .returned (.int .i64 (xr a b)) ∧ w = w' := by
  have HX := Lib.hid (show a.toNat ^^^ b.toNat < 2 ^ 16 from Nat.xor_lt_two_pow (by omega) (by omega))
  generalize hx : a.toNat ^^^ b.toNat = x at HX
  have HE := Lib.hid (show xr a b = (x : Int) by rw [xr, hx])
  have HT := Lib.hid (show ∀ i, x.testBit i = (a.toNat.testBit i != b.toNat.testBit i) from fun i => by rw [← hx, Nat.testBit_xor])
  clear hx
  go_enter Try.func63, Try.ntmps63
  go_wp2
  go_loop [5, 6] (fun n bit => xRel x n bit) (fun _ bit => xMeas bit)
  case atStart => exact ⟨0, 1, 0, by omega, rfl, by simp [Lo, Nat.mod_one], rfl, rfl⟩
  case round =>
    obtain ⟨i, q, m, hi, hp, hm, rfl, rfl⟩ := hrel
    have hp0 := hp.pos
    obtain ⟨hm0, hm1⟩ := hm.bd hp
    by_cases hlt : i < 16
    · have hp1 : q ≤ 32768 := hp.le (j := 15) (by omega)
      have HI := Lib.hid hlt
      clear hi hlt
      have HB := Lib.hid (show (!bt a q == bt b q) = x.testBit i by rw [hp.bt h0, hp.bt h2, HT.out]; rfl)
      cases hb : x.testBit i
      · have HB2 := Lib.hid hb
        have hc : (!bt a q == bt b q) = false := by rw [HB.out, hb]
        clear hb
        go_wp2_with (go_at_call 64; refine (bit_any _ _ _ (by omega) (by omega) (by omega) (by omega)).mono ?_; rintro e w' ⟨rfl, rfl⟩)
        go_round
        case rel => exact xRel_no HI.out hp hm HB2.out
        case measure => simp [xMeas, intOf]; omega
      · have HB2 := Lib.hid hb
        have hc : (!bt a q == bt b q) = true := by rw [HB.out, hb]
        clear hb
        go_wp2_with (go_at_call 64; refine (bit_any _ _ _ (by omega) (by omega) (by omega) (by omega)).mono ?_; rintro e w' ⟨rfl, rfl⟩)
        go_round
        case rel => exact xRel_yes HI.out hp hm HB2.out
        case measure => simp [xMeas, intOf]; omega
    · have hp1 : 65536 ≤ q := hp.ge (j := 16) (by omega)
      have HI := Lib.hid (show i = 16 by omega)
      clear hi hlt
      go_wp2
      go_ret
      refine ⟨ret_int ?_, rfl⟩
      have h16 := HI.out
      subst h16
      rw [hm, Nat.mod_eq_of_lt HX.out, HE.out]

set_option maxHeartbeats 400000 in
theorem refadd_any (a b : Int) (w : World) (h0 : 0 ≤ a) (h1 : a ≤ 255) (h2 : 0 ≤ b) (h3 : b ≤ 255) :
    Calls Try.prog 41 #[.int .u8 a, .int .u8 b] w fun e w' => e = .returned (.int .u8 (xr a b)) ∧ w = w' := by
  obtain ⟨x0, x1⟩ := xr_bd h1 h3
  go_enter Try.func41, Try.ntmps41
  go_wp2_with (go_at_call 63; refine (xor_any _ _ _ (by omega) (by omega) (by omega) (by omega)).mono ?_; rintro e w' ⟨rfl, rfl⟩)
  go_ret
  exact ⟨ret_int (by omega), rfl⟩

theorem cl_lt {a b i : Nat} (ha : a < 256) (hi : i ≤ 8) : cl a b i < 2 ^ 16 := by
  induction i with
  | zero => exact Nat.two_pow_pos 16
  | succ i ih =>
    have h1 : 2 ^ i ≤ 2 ^ 7 := Nat.pow_le_pow_right (by omega) (by omega)
    have h2 : a * 2 ^ i ≤ 255 * 2 ^ 7 := Nat.mul_le_mul (by omega) h1
    have h3 : a * 2 ^ i < 2 ^ 16 := by omega
    rw [cl]; split
    · exact Nat.xor_lt_two_pow (ih (by omega)) h3
    · exact ih (by omega)
theorem rd_lt {n i : Nat} (hn : n < 2 ^ 16) (hi : i ≤ 8) : rd n i < 2 ^ 16 := by
  induction i with
  | zero => exact hn
  | succ i ih =>
    have h1 : 2 ^ (7 - i) ≤ 2 ^ 7 := Nat.pow_le_pow_right (by omega) (by omega)
    rw [rd]; split
    · exact Nat.xor_lt_two_pow (ih (by omega)) (by omega)
    · exact ih (by omega)
/-- m is the number n, behind a name. -/
def Is (m : Int) (n : Nat) : Prop := m = (n : Int)
def m1Rel (a b : Nat) (n bit : Value) : Prop := ∃ (i : Nat) (q m : Int), i ≤ 8 ∧ Pw q i ∧ Is m (cl a b i) ∧ bit = .int .i64 q ∧ n = .int .i64 m
theorem m1Rel_yes {a b i : Nat} {q m : Int} (hi : i < 8) (hp : Pw q i) (hm : Is m (cl a b i)) (h : b.testBit i = true) : m1Rel a b (.int .i64 (xr m ((a : Int) * q))) (.int .i64 (2 * q)) := by
  refine ⟨i + 1, _, _, by omega, hp.succ, ?_, rfl, rfl⟩
  unfold Is; rw [cl, h, hm, hp, xr, if_pos rfl, ← Int.natCast_mul, Int.toNat_natCast, Int.toNat_natCast]
theorem m1Rel_no {a b i : Nat} {q m : Int} (hi : i < 8) (hp : Pw q i) (hm : Is m (cl a b i)) (h : b.testBit i = false) : m1Rel a b (.int .i64 m) (.int .i64 (2 * q)) := by
  refine ⟨i + 1, _, _, by omega, hp.succ, ?_, rfl, rfl⟩
  unfold Is; rw [cl, h, hm]; simp
def m2Rel (n0 : Nat) (n bit : Value) : Prop := ∃ (i : Nat) (q m : Int), i ≤ 8 ∧ Pw q (15 - i) ∧ Is m (rd n0 i) ∧ bit = .int .i64 q ∧ n = .int .i64 m
theorem Pw.div256 {q : Int} {i : Nat} (hi : i ≤ 7) (h : Pw q (15 - i)) : Pw (q / 256) (7 - i) := by
  unfold Pw at *
  rw [h, show 15 - i = (7 - i) + 8 by omega, Nat.pow_add, show (256 : Int) = ((2 ^ 8 : Nat) : Int) from rfl, Int.natCast_mul, Int.mul_ediv_cancel _ (by decide)]
theorem m2Rel_yes {n0 i : Nat} {q m : Int} (hi : i < 8) (hp : Pw q (15 - i)) (hm : Is m (rd n0 i)) (h : (rd n0 i).testBit (15 - i) = true) : m2Rel n0 (.int .i64 (xr m (285 * (q / 256)))) (.int .i64 (q / 2)) := by
  refine ⟨i + 1, _, _, by omega, Pw.half (by rw [show 15 - (i + 1) + 1 = 15 - i by omega]; exact hp), ?_, rfl, rfl⟩
  have h2 := hp.div256 (by omega)
  unfold Is; rw [rd, h, hm, h2, xr, if_pos rfl, show (285 : Int) = ((285 : Nat) : Int) from rfl, ← Int.natCast_mul, Int.toNat_natCast, Int.toNat_natCast]
theorem m2Rel_no {n0 i : Nat} {q m : Int} (hi : i < 8) (hp : Pw q (15 - i)) (hm : Is m (rd n0 i)) (h : (rd n0 i).testBit (15 - i) = false) : m2Rel n0 (.int .i64 m) (.int .i64 (q / 2)) := by
  refine ⟨i + 1, _, _, by omega, Pw.half (by rw [show 15 - (i + 1) + 1 = 15 - i by omega]; exact hp), ?_, rfl, rfl⟩
  unfold Is; rw [rd, h, hm]; simp
def m1Meas (bit : Value) : Nat := 256 - (intOf bit).toNat
set_option maxHeartbeats 1600000 in
theorem refmul_any (a b : Int) (w : World) (h0 : 0 ≤ a) (h1 : a ≤ 255) (h2 : 0 ≤ b) (h3 : b ≤ 255) :
    Calls Try.prog 42 #[.int .u8 a, .int .u8 b] w fun e w' => e = .returned (.int .u8 (gm a b)) ∧ w = w' := by
  have HA := Lib.hid (show ((a.toNat : Nat) : Int) = a by omega)
  go_enter Try.func42, Try.ntmps42
  go_wp2
  go_loop [5, 6] (fun n bit => m1Rel a.toNat b.toNat n bit) (fun _ bit => m1Meas bit)
  case atStart => exact ⟨0, 1, 0, by omega, rfl, rfl, rfl, rfl⟩
  case round =>
    obtain ⟨i, q, m, hi, hp, hm, rfl, rfl⟩ := hrel
    have hp0 := hp.pos
    have hm0 : 0 ≤ m ∧ m ≤ 65535 := by
      have := cl_lt (a := a.toNat) (b := b.toNat) (by omega) hi
      rw [show m = _ from hm]; omega
    obtain ⟨hm0, hm1⟩ := hm0
    by_cases hlt : i < 8
    · have hp1 : q ≤ 128 := hp.le (j := 7) (by omega)
      have HI := Lib.hid hlt
      clear hi hlt
      have h5 : 0 ≤ a * q := Int.mul_nonneg h0 (by omega)
      have h6 : a * q ≤ 65535 := by have := Int.mul_le_mul h1 hp1 (by omega) (by omega); omega
      have HB := Lib.hid (show bt b q = b.toNat.testBit i from hp.bt h2)
      cases hb : b.toNat.testBit i
      · have HB2 := Lib.hid hb
        have hc : bt b q = false := by rw [HB.out, hb]
        clear hb
        go_wp2_with (go_at_call 64; refine (bit_any _ _ _ (by omega) (by omega) (by omega) (by omega)).mono ?_; rintro e w' ⟨rfl, rfl⟩)
        go_round
        case rel => exact m1Rel_no HI.out hp hm HB2.out
        case measure => simp [m1Meas, intOf]; omega
      · have HB2 := Lib.hid hb
        have hc : bt b q = true := by rw [HB.out, hb]
        clear hb
        go_wp2_with (first | (go_at_call 64; refine (bit_any _ _ _ (by omega) (by omega) (by omega) (by omega)).mono ?_; rintro e w' ⟨rfl, rfl⟩) | (go_at_call 63; refine (xor_any _ _ _ (by omega) (by omega) (by omega) (by omega)).mono ?_; rintro e w' ⟨rfl, rfl⟩))
        go_round
        case rel => have h := m1Rel_yes HI.out hp hm HB2.out; rw [HA.out] at h; exact h
        case measure => simp [m1Meas, intOf]; omega
    · have hp1 : 256 ≤ q := hp.ge (j := 8) (by omega)
      obtain rfl : i = 8 := by omega
      clear hi hlt
      go_wp2
      go_loop [5, 7] (fun n bit => m2Rel (cl a.toNat b.toNat 8) n bit) (fun _ bit => (intOf bit).toNat)
      case atStart => exact ⟨0, _, _, by omega, rfl, hm, rfl, rfl⟩
      case round =>
        clear hp hp0 hm0 hm1 hp1 hm
        obtain ⟨i, q, m, hi, hp, hm, rfl, rfl⟩ := hrel
        have hp0 := hp.pos
        have hm0 : 0 ≤ m ∧ m ≤ 65535 := by
          have := rd_lt (i := i) (cl_lt (a := a.toNat) (b := b.toNat) (by omega) (Nat.le_refl 8)) hi
          rw [show m = _ from hm]; omega
        obtain ⟨hm0, hm1⟩ := hm0
        by_cases hlt : i < 8
        · have hp1 : q ≤ 32768 := hp.le (j := 15) (by omega)
          have hp2 : 256 ≤ q := hp.ge (j := 8) (by omega)
          have HI := Lib.hid hlt
          clear hi hlt
          have HB := Lib.hid (show bt m q = (rd (cl a.toNat b.toNat 8) i).testBit (15 - i) by rw [hp.bt hm0]; rw [show m = _ from hm, Int.toNat_natCast])
          cases hb : (rd (cl a.toNat b.toNat 8) i).testBit (15 - i)
          · have HB2 := Lib.hid hb
            have hc : bt m q = false := by rw [HB.out, hb]
            clear hb
            go_wp2_with (go_at_call 64; refine (bit_any _ _ _ (by omega) (by omega) (by omega) (by omega)).mono ?_; rintro e w' ⟨rfl, rfl⟩)
            go_round
            case rel => exact m2Rel_no HI.out hp hm HB2.out
            case measure => simp [intOf]; omega
          · have HB2 := Lib.hid hb
            have hc : bt m q = true := by rw [HB.out, hb]
            clear hb
            go_wp2_with (first | (go_at_call 64; refine (bit_any _ _ _ (by omega) (by omega) (by omega) (by omega)).mono ?_; rintro e w' ⟨rfl, rfl⟩) | (go_at_call 63; refine (xor_any _ _ _ (by omega) (by omega) (by omega) (by omega)).mono ?_; rintro e w' ⟨rfl, rfl⟩))
            go_round
            case rel => exact m2Rel_yes HI.out hp hm HB2.out
            case measure => simp [intOf]; omega
        · have hp1 : q ≤ 128 := hp.le (j := 7) (by omega)
          obtain rfl : i = 8 := by omega
          clear hi hlt
          have HM := Lib.hid (show m = gm a b by
            rw [show m = _ from hm, gm, ← refM_eq (by omega) (by omega)]; rfl)
          have hg : 0 ≤ m ∧ m ≤ 255 := by rw [HM.out]; exact gm_bd a b
          obtain ⟨hg0, hg1⟩ := hg
          clear hm hm1
          go_wp2
          go_ret
          exact ⟨ret_int (by rw [← HM.out]), rfl⟩
end Go.Proofs.Ytdlcloenihkkgaa
