/-
  Slots, units and the units between two slots, as mathematics. No program.
-/
import Derived.Test.YtofnokikjfmfgaaWord
namespace Go.Proofs.Ytofnokikjfmfgaa.Tm
open Go
def slot (n : Int) : Prop := 0 ≤ n ∧ n < 1099511627776
def unit (u : Int) : Prop := 1 ≤ u ∧ u ≤ 1048576
instance (n : Int) : Decidable (slot n) := by unfold slot; infer_instance
instance (n : Int) : Decidable (unit n) := by unfold unit; infer_instance
/-- The least number of units that is no less than d slots. -/
def cl (d u : Int) : Int := (d + u - 1) / u
theorem cl_spec (d : Int) {u : Int} (hu : 1 ≤ u) : cl d u * u - u < d ∧ d ≤ cl d u * u := by
  have h1 := Int.mul_ediv_add_emod (d + u - 1) u
  have h2 := Int.emod_nonneg (d + u - 1) (show u ≠ 0 by omega)
  have h3 := Int.emod_lt_of_pos (d + u - 1) (show 0 < u by omega)
  have e : cl d u * u = u * ((d + u - 1) / u) := by unfold cl; rw [Int.mul_comm]
  rw [e]; omega
/-- Which number it is. -/
theorem cl_eq {d u n : Int} (hu : 1 ≤ u) (h1 : n * u - u < d) (h2 : d ≤ n * u) : cl d u = n := by
  obtain ⟨g1, g2⟩ := cl_spec d hu
  have a1 : (n - 1) * u < cl d u * u := by rw [Int.sub_mul]; omega
  have a2 : (cl d u - 1) * u < n * u := by rw [Int.sub_mul]; omega
  have b1 := Int.lt_of_mul_lt_mul_right a1 (by omega)
  have b2 := Int.lt_of_mul_lt_mul_right a2 (by omega)
  omega
theorem cl_nonneg {d u : Int} (hd : 0 ≤ d) (hu : 1 ≤ u) : 0 ≤ cl d u := by
  obtain ⟨g1, g2⟩ := cl_spec d hu
  have a1 : (-1) * u < cl d u * u := by omega
  have := Int.lt_of_mul_lt_mul_right a1 (by omega)
  omega
theorem cl_mono {d d' u : Int} (h : d ≤ d') (hu : 1 ≤ u) : cl d u ≤ cl d' u := by
  obtain ⟨g1, _⟩ := cl_spec d hu
  obtain ⟨_, g2⟩ := cl_spec d' hu
  have a1 : (cl d u - 1) * u < cl d' u * u := by rw [Int.sub_mul]; omega
  have := Int.lt_of_mul_lt_mul_right a1 (by omega)
  omega
theorem cl_add (d e : Int) {u : Int} (hu : 1 ≤ u) : cl (d + e) u ≤ cl d u + cl e u ∧ cl d u + cl e u ≤ cl (d + e) u + 1 := by
  obtain ⟨a1, a2⟩ := cl_spec d hu
  obtain ⟨b1, b2⟩ := cl_spec e hu
  obtain ⟨c1, c2⟩ := cl_spec (d + e) hu
  have p1 : (cl (d + e) u - 1) * u < (cl d u + cl e u) * u := by rw [Int.sub_mul, Int.add_mul]; omega
  have p2 : (cl d u + cl e u - 2) * u < cl (d + e) u * u := by rw [Int.sub_mul, Int.add_mul]; omega
  have q1 := Int.lt_of_mul_lt_mul_right p1 (by omega)
  have q2 := Int.lt_of_mul_lt_mul_right p2 (by omega)
  omega
theorem cl_zero {d u : Int} (hd : 0 ≤ d) (hu : 1 ≤ u) : cl d u = 0 ↔ d = 0 := by
  obtain ⟨g1, g2⟩ := cl_spec d hu
  constructor
  · intro h; rw [h] at g2; omega
  · intro h; exact cl_eq hu (by omega) (by omega)
/-- Of units laid down whole: how many there are, and one more where some slots are left. -/
theorem cl_div {d u : Int} (hu : 1 ≤ u) : d / u * u ≤ d ∧ d < d / u * u + u ∧ cl d u = if d / u * u < d then d / u + 1 else d / u := by
  have h1 := Int.mul_ediv_add_emod d u
  have h2 := Int.emod_nonneg d (show u ≠ 0 by omega)
  have h3 := Int.emod_lt_of_pos d (show 0 < u by omega)
  have e : d / u * u = u * (d / u) := Int.mul_comm _ _
  rw [e]
  refine ⟨by omega, by omega, ?_⟩
  by_cases h : u * (d / u) < d
  · rw [if_pos h]; exact cl_eq hu (by rw [Int.add_mul, e]; omega) (by rw [Int.add_mul, e]; omega)
  · rw [if_neg h]; exact cl_eq hu (by rw [e]; omega) (by rw [e]; omega)
theorem div_big {d u : Int} (hu : 1 ≤ u) (h : ¬ cl d u ≤ 4095) : 4095 ≤ d / u := by
  obtain ⟨g1, g2⟩ := cl_spec d hu
  rw [Int.le_ediv_iff_mul_le (by omega)]
  have : 4096 * u ≤ cl d u * u := Int.mul_le_mul_of_nonneg_right (by omega) (by omega)
  omega
/-- What Delta answers: the units, and what is wrong. -/
def dl (f t u : Int) : Int × Int := if slot f ∧ slot t ∧ unit u then if t < f ∨ 4095 < cl (t - f) u then (0, 15) else (cl (t - f) u, 0) else (0, 1)
theorem dl_arg {f t u : Int} (h : ¬ (slot f ∧ slot t ∧ unit u)) : dl f t u = (0, 1) := by unfold dl; rw [if_neg h]
theorem dl_range {f t u : Int} (h : slot f ∧ slot t ∧ unit u) (k : t < f ∨ 4095 < cl (t - f) u) : dl f t u = (0, 15) := by unfold dl; rw [if_pos h, if_pos k]
theorem dl_ok {f t u : Int} (h : slot f ∧ slot t ∧ unit u) (k : ¬ (t < f ∨ 4095 < cl (t - f) u)) : dl f t u = (cl (t - f) u, 0) := by unfold dl; rw [if_pos h, if_neg k]
/-- What Window answers: the first slot, the last one, and what is wrong. -/
def wd (at' d u : Int) : Int × Int × Int := if slot at' ∧ (0 ≤ d ∧ d ≤ 4095) ∧ unit u then if d = 0 then (at', at', 0) else (at' + (d * u - u) + 1, at' + d * u, 0) else (0, 0, 1)
theorem wd_arg {a d u : Int} (h : ¬ (slot a ∧ (0 ≤ d ∧ d ≤ 4095) ∧ unit u)) : wd a d u = (0, 0, 1) := by unfold wd; rw [if_neg h]
theorem wd_zero {a d u : Int} (h : slot a ∧ (0 ≤ d ∧ d ≤ 4095) ∧ unit u) (k : d = 0) : wd a d u = (a, a, 0) := by unfold wd; rw [if_pos h, if_pos k]
theorem wd_ok {a d u : Int} (h : slot a ∧ (0 ≤ d ∧ d ≤ 4095) ∧ unit u) (k : ¬ d = 0) : wd a d u = (a + (d * u - u) + 1, a + d * u, 0) := by unfold wd; rw [if_pos h, if_neg k]
/-- What Wake answers. -/
def wk (a d u g : Int) : Int × Int := if (wd a d u).2.2 = 0 then if 0 ≤ g ∧ g ≤ 1048576 then (max ((wd a d u).1 - g) a, 0) else (0, 1) else (0, 1)
theorem mul_bd {d u : Int} (hd : 0 ≤ d ∧ d ≤ 4095) (hu : unit u) : 0 ≤ d * u ∧ d * u ≤ 4293918720 ∧ (d ≠ 0 → u ≤ d * u) := by
  obtain ⟨u1, u2⟩ := hu
  refine ⟨Int.mul_nonneg hd.1 (by omega), ?_, ?_⟩
  · have h1 : d * u ≤ 4095 * u := Int.mul_le_mul_of_nonneg_right hd.2 (by omega)
    omega
  · intro h0
    have h1 : 1 * u ≤ d * u := Int.mul_le_mul_of_nonneg_right (by omega) (by omega)
    omega
end Go.Proofs.Ytofnokikjfmfgaa.Tm
