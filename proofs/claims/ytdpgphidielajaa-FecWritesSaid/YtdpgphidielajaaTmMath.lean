/-
  Slots, units, times and their four bytes, as mathematics. No program.
-/
import Derived.Test.YtdpgphidielajaaBase
import Derived.Test.YtdpgphidielajaaCf
namespace Go.Proofs.Ytdpgphidielajaa.Tm
open Go
def slot (n : Int) : Prop := 0 ≤ n ∧ n < 1099511627776
def unit (u : Int) : Prop := 1 ≤ u ∧ u ≤ 1048576
instance (n : Int) : Decidable (slot n) := by unfold slot; infer_instance
instance (n : Int) : Decidable (unit n) := by unfold unit; infer_instance
/-- The least number of units that is no less than d slots. -/
def cl (d u : Int) : Int := (d + u - 1) / u
theorem cl_spec (d : Int) {u : Int} (hu : 1 ≤ u) : cl d u * u - u < d ∧ d ≤ cl d u * u := by
  have h1 := Int.mul_ediv_add_emod (d + u - 1) u
  have h2 := Int.emod_nonneg (d + u - 1) (show u ≠ 0 by omega)
  have h3 := Int.emod_lt_of_pos (d + u - 1) (show 0 < u by omega)
  have e : cl d u * u = u * ((d + u - 1) / u) := by unfold cl; rw [Int.mul_comm]
  rw [e]; omega
/-- Which number it is. -/
theorem cl_eq {d u n : Int} (hu : 1 ≤ u) (h1 : n * u - u < d) (h2 : d ≤ n * u) : cl d u = n := by
  obtain ⟨g1, g2⟩ := cl_spec d hu
  have a1 : (n - 1) * u < cl d u * u := by rw [Int.sub_mul]; omega
  have a2 : (cl d u - 1) * u < n * u := by rw [Int.sub_mul]; omega
  have b1 := Int.lt_of_mul_lt_mul_right a1 (by omega)
  have b2 := Int.lt_of_mul_lt_mul_right a2 (by omega)
  omega
theorem cl_nonneg {d u : Int} (hd : 0 ≤ d) (hu : 1 ≤ u) : 0 ≤ cl d u := by
  obtain ⟨g1, g2⟩ := cl_spec d hu
  have a1 : (-1) * u < cl d u * u := by omega
  have := Int.lt_of_mul_lt_mul_right a1 (by omega)
  omega
theorem cl_mono {d d' u : Int} (h : d ≤ d') (hu : 1 ≤ u) : cl d u ≤ cl d' u := by
  obtain ⟨g1, _⟩ := cl_spec d hu
  obtain ⟨_, g2⟩ := cl_spec d' hu
  have a1 : (cl d u - 1) * u < cl d' u * u := by rw [Int.sub_mul]; omega
  have := Int.lt_of_mul_lt_mul_right a1 (by omega)
  omega
theorem cl_add (d e : Int) {u : Int} (hu : 1 ≤ u) : cl (d + e) u ≤ cl d u + cl e u ∧ cl d u + cl e u ≤ cl (d + e) u + 1 := by
  obtain ⟨a1, a2⟩ := cl_spec d hu
  obtain ⟨b1, b2⟩ := cl_spec e hu
  obtain ⟨c1, c2⟩ := cl_spec (d + e) hu
  have p1 : (cl (d + e) u - 1) * u < (cl d u + cl e u) * u := by rw [Int.sub_mul, Int.add_mul]; omega
  have p2 : (cl d u + cl e u - 2) * u < cl (d + e) u * u := by rw [Int.sub_mul, Int.add_mul]; omega
  have q1 := Int.lt_of_mul_lt_mul_right p1 (by omega)
  have q2 := Int.lt_of_mul_lt_mul_right p2 (by omega)
  omega
theorem cl_zero {d u : Int} (hd : 0 ≤ d) (hu : 1 ≤ u) : cl d u = 0 ↔ d = 0 := by
  obtain ⟨g1, g2⟩ := cl_spec d hu
  constructor
  · intro h; rw [h] at g2; omega
  · intro h; exact cl_eq hu (by omega) (by omega)
/-- Of units laid down whole: how many there are, and one more where some slots are left. -/
theorem cl_div {d u : Int} (hu : 1 ≤ u) : d / u * u ≤ d ∧ d < d / u * u + u ∧ cl d u = if d / u * u < d then d / u + 1 else d / u := by
  have h1 := Int.mul_ediv_add_emod d u
  have h2 := Int.emod_nonneg d (show u ≠ 0 by omega)
  have h3 := Int.emod_lt_of_pos d (show 0 < u by omega)
  have e : d / u * u = u * (d / u) := Int.mul_comm _ _
  rw [e]
  refine ⟨by omega, by omega, ?_⟩
  by_cases h : u * (d / u) < d
  · rw [if_pos h]; exact cl_eq hu (by rw [Int.add_mul, e]; omega) (by rw [Int.add_mul, e]; omega)
  · rw [if_neg h]; exact cl_eq hu (by rw [e]; omega) (by rw [e]; omega)
theorem div_big {d u : Int} (hu : 1 ≤ u) (h : ¬ cl d u ≤ 4095) : 4095 ≤ d / u := by
  obtain ⟨g1, g2⟩ := cl_spec d hu
  rw [Int.le_ediv_iff_mul_le (by omega)]
  have : 4096 * u ≤ cl d u * u := Int.mul_le_mul_of_nonneg_right (by omega) (by omega)
  omega
/-- What Delta answers: the units, and what is wrong. -/
def dl (f t u : Int) : Int × Int := if slot f ∧ slot t ∧ unit u then if t < f ∨ 4095 < cl (t - f) u then (0, 15) else (cl (t - f) u, 0) else (0, 1)
theorem dl_arg {f t u : Int} (h : ¬ (slot f ∧ slot t ∧ unit u)) : dl f t u = (0, 1) := by unfold dl; rw [if_neg h]
theorem dl_range {f t u : Int} (h : slot f ∧ slot t ∧ unit u) (k : t < f ∨ 4095 < cl (t - f) u) : dl f t u = (0, 15) := by unfold dl; rw [if_pos h, if_pos k]
theorem dl_ok {f t u : Int} (h : slot f ∧ slot t ∧ unit u) (k : ¬ (t < f ∨ 4095 < cl (t - f) u)) : dl f t u = (cl (t - f) u, 0) := by unfold dl; rw [if_pos h, if_neg k]
/-- What Window answers: the first slot, the last one, and what is wrong. -/
def wd (at' d u : Int) : Int × Int × Int := if slot at' ∧ (0 ≤ d ∧ d ≤ 4095) ∧ unit u then if d = 0 then (at', at', 0) else (at' + (d * u - u) + 1, at' + d * u, 0) else (0, 0, 1)
theorem wd_arg {a d u : Int} (h : ¬ (slot a ∧ (0 ≤ d ∧ d ≤ 4095) ∧ unit u)) : wd a d u = (0, 0, 1) := by unfold wd; rw [if_neg h]
theorem wd_zero {a d u : Int} (h : slot a ∧ (0 ≤ d ∧ d ≤ 4095) ∧ unit u) (k : d = 0) : wd a d u = (a, a, 0) := by unfold wd; rw [if_pos h, if_pos k]
theorem wd_ok {a d u : Int} (h : slot a ∧ (0 ≤ d ∧ d ≤ 4095) ∧ unit u) (k : ¬ d = 0) : wd a d u = (a + (d * u - u) + 1, a + d * u, 0) := by unfold wd; rw [if_pos h, if_neg k]
/-- What Wake answers. -/
def wk (a d u g : Int) : Int × Int := if (wd a d u).2.2 = 0 then if 0 ≤ g ∧ g ≤ 1048576 then (max ((wd a d u).1 - g) a, 0) else (0, 1) else (0, 1)
theorem mul_bd {d u : Int} (hd : 0 ≤ d ∧ d ≤ 4095) (hu : unit u) : 0 ≤ d * u ∧ d * u ≤ 4293918720 ∧ (d ≠ 0 → u ≤ d * u) := by
  obtain ⟨u1, u2⟩ := hu
  refine ⟨Int.mul_nonneg hd.1 (by omega), ?_, ?_⟩
  · have h1 : d * u ≤ 4095 * u := Int.mul_le_mul_of_nonneg_right hd.2 (by omega)
    omega
  · intro h0
    have h1 : 1 * u ≤ d * u := Int.mul_le_mul_of_nonneg_right (by omega) (by omega)
    omega
end Go.Proofs.Ytdpgphidielajaa.Tm
namespace Go.Proofs.Ytdpgphidielajaa.Tm
open Go Gf Bit
structure Tms where
  dt : Int
  tb : Bool
  fr : Bool
  ad : Int
theorem tms_ext {a b : Tms} (h1 : a.dt = b.dt) (h2 : a.tb = b.tb) (h3 : a.fr = b.fr) (h4 : a.ad = b.ad) : a = b := by cases a; cases b; simp_all
def zt : Tms := ⟨0, false, false, 0⟩
/-- May times be? -/
def okT (t : Tms) : Prop := (0 ≤ t.dt ∧ t.dt ≤ 4095) ∧ (0 ≤ t.ad ∧ t.ad ≤ 262143)
instance (t : Tms) : Decidable (okT t) := by unfold okT; infer_instance
def ckT (t : Tms) : Int := if okT t then 0 else 15
theorem ckT_ok {t : Tms} (h : okT t) : ckT t = 0 := by unfold ckT; rw [if_pos h]
theorem ckT_no {t : Tms} (h : ¬ okT t) : ckT t = 15 := by unfold ckT; rw [if_neg h]
/-- What would be read of them. -/
def kpT (t : Tms) : Tms := ⟨t.dt % 4096, t.tb, t.fr, t.ad % 262144⟩
theorem kpT_iff {t : Tms} : kpT t = t ↔ okT t := by
  constructor
  · intro h
    have h1 : t.dt % 4096 = t.dt := congrArg Tms.dt h
    have h2 : t.ad % 262144 = t.ad := congrArg Tms.ad h
    unfold okT; omega
  · rintro ⟨h1, h2⟩
    exact tms_ext (by show t.dt % 4096 = t.dt; omega) rfl rfl (by show t.ad % 262144 = t.ad; omega)
/-- The last i bits of any number. -/
theorem mask_any (i : Nat) (hi : i < 63) (a : Int) {m : Int} (hm : m = ((2 ^ i - 1 : Nat) : Int)) : bits .and .i64 a m = a % ((2 ^ i : Nat) : Int) := by
  have hp : 2 ^ i < 2 ^ 63 := Nat.pow_lt_pow_right (by omega) hi
  have hpos := Nat.two_pow_pos i
  subst hm
  show IntKind.i64.wrap ((BitVec.ofInt 64 a &&& BitVec.ofInt 64 ((2 ^ i - 1 : Nat) : Int)).toNat : Int) = _
  rw [BitVec.toNat_and, ofInt_u64 (2 ^ i - 1) (by omega), Nat.and_two_pow_sub_one_eq_mod]
  have hlt : (BitVec.ofInt 64 a).toNat % 2 ^ i < 2 ^ i := Nat.mod_lt _ hpos
  rw [wrap_small _ (by omega), BitVec.toNat_ofInt]
  have hd : ((2 ^ i : Nat) : Int) ∣ (2 ^ 64 : Nat) := by
    have : (2 : Nat) ^ i ∣ 2 ^ 64 := Nat.pow_dvd_pow 2 (by omega)
    exact Int.natCast_dvd_natCast.2 this
  have h0 : 0 ≤ a % ((2 ^ 64 : Nat) : Int) := Int.emod_nonneg _ (by decide)
  rw [Int.natCast_emod, Int.toNat_of_nonneg h0, Int.emod_emod_of_dvd _ hd]
def bv (b : Bool) : Nat := if b then 1 else 0
theorem bv_le (b : Bool) : bv b ≤ 1 := by cases b <;> decide
/-- The number that times are. -/
def nbr (t : Tms) : Nat := t.dt.toNat * 1048576 + bv t.tb * 524288 + bv t.fr * 262144 + t.ad.toNat
theorem nbr_lt {t : Tms} (h : okT t) : nbr t < 4294967296 := by
  have := bv_le t.tb
  have := bv_le t.fr
  unfold okT at h; unfold nbr; omega
def w8 (n : Nat) : UInt8 := UInt8.ofNat n
theorem w8_nat {n : Nat} (h : n < 256) : (w8 n).toNat = n := UInt8.toNat_ofNat_of_lt' h
/-- The four bytes of a number. -/
def by4 (n : Nat) : List UInt8 := [w8 (n / 16777216), w8 (n / 65536 % 256), w8 (n / 256 % 256), w8 (n % 256)]
theorem by4_length (n : Nat) : (by4 n).length = 4 := rfl
/-- The number of four bytes. -/
def n4 (l : List UInt8) : Nat := (((cf l 0).toNat * 256 + (cf l 1).toNat) * 256 + (cf l 2).toNat) * 256 + (cf l 3).toNat
theorem n4_lt (l : List UInt8) : n4 l < 4294967296 := by
  have := (cf l 0).toNat_lt
  have := (cf l 1).toNat_lt
  have := (cf l 2).toNat_lt
  have := (cf l 3).toNat_lt
  unfold n4; omega
theorem n4_by4 {n : Nat} (h : n < 4294967296) : n4 (by4 n) = n := by
  unfold n4 by4
  rw [cf_zero, cf_succ, cf_zero, cf_succ, cf_succ, cf_zero, cf_succ, cf_succ, cf_succ, cf_zero, w8_nat (by omega), w8_nat (by omega), w8_nat (by omega), w8_nat (by omega)]
  omega
theorem w8_toNat (a : UInt8) : w8 a.toNat = a := by unfold w8; simp
theorem by4_n4 {l : List UInt8} (h : l.length = 4) : by4 (n4 l) = l := by
  match l, h with
  | [a, b, c, d], _ =>
    have ha := a.toNat_lt
    have hb := b.toNat_lt
    have hc := c.toNat_lt
    have hd := d.toNat_lt
    have e : n4 [a, b, c, d] = ((a.toNat * 256 + b.toNat) * 256 + c.toNat) * 256 + d.toNat := rfl
    unfold by4
    rw [show n4 [a, b, c, d] / 16777216 = a.toNat by omega, show n4 [a, b, c, d] / 65536 % 256 = b.toNat by omega, show n4 [a, b, c, d] / 256 % 256 = c.toNat by omega, show n4 [a, b, c, d] % 256 = d.toNat by omega, w8_toNat, w8_toNat, w8_toNat, w8_toNat]
/-- The times of a number. -/
def ofN (n : Nat) : Tms := ⟨((n / 1048576 : Nat) : Int), decide (n / 524288 % 2 = 1), decide (n / 262144 % 2 = 1), ((n % 262144 : Nat) : Int)⟩
theorem ofN_nbr {t : Tms} (h : okT t) : ofN (nbr t) = t := by
  obtain ⟨dt, tb, fr, ad⟩ := t
  obtain ⟨⟨h1, h2⟩, h3, h4⟩ := h
  simp only at h1 h2 h3 h4
  have e : nbr ⟨dt, tb, fr, ad⟩ = dt.toNat * 1048576 + bv tb * 524288 + bv fr * 262144 + ad.toNat := rfl
  have b1 := bv_le tb
  have b2 := bv_le fr
  refine tms_ext ?_ ?_ ?_ ?_
  · show ((nbr ⟨dt, tb, fr, ad⟩ / 1048576 : Nat) : Int) = dt
    omega
  · show decide (nbr ⟨dt, tb, fr, ad⟩ / 524288 % 2 = 1) = tb
    have : nbr ⟨dt, tb, fr, ad⟩ / 524288 % 2 = bv tb := by omega
    rw [this]; cases tb <;> rfl
  · show decide (nbr ⟨dt, tb, fr, ad⟩ / 262144 % 2 = 1) = fr
    have : nbr ⟨dt, tb, fr, ad⟩ / 262144 % 2 = bv fr := by omega
    rw [this]; cases fr <;> rfl
  · show ((nbr ⟨dt, tb, fr, ad⟩ % 262144 : Nat) : Int) = ad
    omega
theorem okT_ofN {n : Nat} (h : n < 4294967296) : okT (ofN n) := ⟨⟨by show (0 : Int) ≤ ((n / 1048576 : Nat) : Int); omega, by show ((n / 1048576 : Nat) : Int) ≤ 4095; omega⟩, by show (0 : Int) ≤ ((n % 262144 : Nat) : Int); omega, by show ((n % 262144 : Nat) : Int) ≤ 262143; omega⟩
theorem bv_dec (n : Nat) : bv (decide (n % 2 = 1)) = n % 2 := by
  rcases Nat.mod_two_eq_zero_or_one n with e | e
  · rw [e]; rfl
  · rw [e]; rfl
theorem nbr_ofN {n : Nat} : nbr (ofN n) = n := by
  show (((n / 1048576 : Nat) : Int)).toNat * 1048576 + bv (decide (n / 524288 % 2 = 1)) * 524288 + bv (decide (n / 262144 % 2 = 1)) * 262144 + (((n % 262144 : Nat) : Int)).toNat = n
  rw [bv_dec, bv_dec, Int.toNat_natCast, Int.toNat_natCast]
  omega
theorem lb_modT (x n : Nat) : lb (x % 2 ^ n) n = lb x n := by
  refine list_ext_bt (by rw [lb_length, lb_length]) fun i hi => ?_
  rw [lb_length] at hi
  rw [bt_lb _ hi, bt_lb _ hi, Nat.testBit_mod_two_pow]
  simp; omega
theorem lb_joinT (x y a b : Nat) (h : y < 2 ^ b) : lb (x * 2 ^ b + y) (a + b) = lb x a ++ lb y b := by
  rw [lb_split, show (x * 2 ^ b + y) / 2 ^ b = x by rw [Nat.mul_comm, Nat.mul_add_div (Nat.two_pow_pos b), Nat.div_eq_of_lt h, Nat.add_zero], ← lb_modT (x * 2 ^ b + y) b, show (x * 2 ^ b + y) % 2 ^ b = y by rw [Nat.mul_comm, Nat.mul_add_mod, Nat.mod_eq_of_lt h]]
/-- The bits of four bytes. -/
theorem ob_by4 {n : Nat} (h : n < 4294967296) : ob (by4 n) = lb n 32 := by
  have e : ob (by4 n) = lb (w8 (n / 16777216)).toNat 8 ++ (lb (w8 (n / 65536 % 256)).toNat 8 ++ (lb (w8 (n / 256 % 256)).toNat 8 ++ (lb (w8 (n % 256)).toNat 8 ++ []))) := rfl
  rw [e, w8_nat (by omega), w8_nat (by omega), w8_nat (by omega), w8_nat (by omega), List.append_nil]
  rw [show (32 : Nat) = 8 + 24 from rfl, lb_split n 8 24, show (24 : Nat) = 8 + 16 from rfl, lb_split n 8 16, show (16 : Nat) = 8 + 8 from rfl, lb_split n 8 8]
  have m1 : lb (n / 65536 % 256) 8 = lb (n / 65536) 8 := lb_modT (n / 65536) 8
  have m2 : lb (n / 256 % 256) 8 = lb (n / 256) 8 := lb_modT (n / 256) 8
  have m3 : lb (n % 256) 8 = lb n 8 := lb_modT n 8
  rw [m1, m2, m3]
/-- The bits that are written. -/
def tbits (t : Tms) : List Bool := lb t.dt.toNat 12 ++ lb (bv t.tb) 1 ++ lb (bv t.fr) 1 ++ lb t.ad.toNat 18
theorem tbits_eq {t : Tms} (h : okT t) : tbits t = lb (nbr t) 32 := by
  have b1 := bv_le t.tb
  have b2 := bv_le t.fr
  unfold okT at h
  have e : nbr t = ((t.dt.toNat * 2 ^ 1 + bv t.tb) * 2 ^ 1 + bv t.fr) * 2 ^ 18 + t.ad.toNat := by unfold nbr; omega
  rw [e, show (32 : Nat) = 14 + 18 from rfl, lb_joinT _ _ 14 18 (by omega), show (14 : Nat) = 13 + 1 from rfl, lb_joinT _ _ 13 1 (by omega), show (13 : Nat) = 12 + 1 from rfl, lb_joinT _ _ 12 1 (by omega)]
  rfl
theorem pack_tbits {t : Tms} (h : okT t) : pack (tbits t) = by4 (nbr t) := by rw [tbits_eq h, ← ob_by4 (nbr_lt h), pack_ob]
/-- Some bits in the middle of a number. -/
theorem num_mid (n p k r : Nat) : num (((lb n (p + (k + r))).drop p).take k) = n / 2 ^ r % 2 ^ k := by
  rw [lb_split n p (k + r), List.drop_left' (lb_length _ _), lb_split n k r, List.take_left' (lb_length _ _), num_lb]
/-- What is read of four bytes. -/
theorem gets4 {l : List UInt8} (h : l.length = 4) : num (((ob l).drop 0).take 12) = n4 l / 1048576 ∧ num (((ob l).drop 12).take 1) = n4 l / 524288 % 2 ∧ num (((ob l).drop 13).take 1) = n4 l / 262144 % 2 ∧ num (((ob l).drop 14).take 18) = n4 l % 262144 := by
  have e : ob l = lb (n4 l) 32 := by rw [← ob_by4 (n4_lt l), by4_n4 h]
  have hn := n4_lt l
  rw [e]
  have a1 := num_mid (n4 l) 0 12 20
  have a2 := num_mid (n4 l) 12 1 19
  have a3 := num_mid (n4 l) 13 1 18
  have a4 := num_mid (n4 l) 14 18 0
  simp only [Nat.reduceAdd] at a1 a2 a3 a4
  refine ⟨a1.trans ?_, a2, a3, a4.trans ?_⟩
  · show n4 l / 1048576 % 4096 = _
    omega
  · show n4 l / 1 % 262144 = _
    rw [Nat.div_one]
/-- What Encode answers, and what Decode does. -/
def ecT (t : Tms) : List UInt8 × Int := if okT t then (by4 (nbr t), 0) else ([], 15)
theorem ecT_ok {t : Tms} (h : okT t) : ecT t = (by4 (nbr t), 0) := by unfold ecT; rw [if_pos h]
theorem ecT_no {t : Tms} (h : ¬ okT t) : ecT t = ([], 15) := by unfold ecT; rw [if_neg h]
def dcT (l : List UInt8) : Tms × Int := if l.length < 4 then (zt, 10) else if 4 < l.length then (zt, 11) else (ofN (n4 l), 0)
theorem dcT_short {l : List UInt8} (h : l.length < 4) : dcT l = (zt, 10) := by unfold dcT; rw [if_pos h]
theorem dcT_long {l : List UInt8} (h : 4 < l.length) : dcT l = (zt, 11) := by unfold dcT; rw [if_neg (by omega), if_pos h]
theorem dcT_ok {l : List UInt8} (h : l.length = 4) : dcT l = (ofN (n4 l), 0) := by unfold dcT; rw [if_neg (by omega), if_neg (by omega)]
theorem dcT_ecT {t : Tms} (h : okT t) : dcT (by4 (nbr t)) = (t, 0) := by rw [dcT_ok (by4_length _), n4_by4 (nbr_lt h), ofN_nbr h]
theorem ecT_dcT {l : List UInt8} (h : l.length = 4) : ecT (ofN (n4 l)) = (l, 0) := by rw [ecT_ok (okT_ofN (n4_lt l)), nbr_ofN, by4_n4 h]
end Go.Proofs.Ytdpgphidielajaa.Tm
