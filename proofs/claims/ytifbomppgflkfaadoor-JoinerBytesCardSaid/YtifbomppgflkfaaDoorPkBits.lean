/-
  A packet's fields as bits, in their order, and as they are read of bytes. No function of the program.
-/
import Derived.Test.YtifbomppgflkfaaDoorPkMath
namespace Go.Proofs.YtifbomppgflkfaaDoor.Pk
open Gf Bit
set_option maxRecDepth 100000
theorem plb_mod (x n : Nat) : lb (x % 2 ^ n) n = lb x n := by
  refine list_ext_bt (by rw [lb_length, lb_length]) fun i hi => ?_
  rw [lb_length] at hi
  rw [bt_lb _ hi, bt_lb _ hi, Nat.testBit_mod_two_pow, decide_eq_true (by omega), Bool.true_and]
theorem plb_join (x y a b : Nat) (h : y < 2 ^ b) : lb (x * 2 ^ b + y) (a + b) = lb x a ++ lb y b := by
  rw [lb_split, show (x * 2 ^ b + y) / 2 ^ b = x by rw [Nat.mul_comm, Nat.mul_add_div (Nat.two_pow_pos b), Nat.div_eq_of_lt h, Nat.add_zero], ← plb_mod (x * 2 ^ b + y) b, show (x * 2 ^ b + y) % 2 ^ b = y by rw [Nat.mul_comm, Nat.mul_add_mod, Nat.mod_eq_of_lt h]]
theorem pob_byte (l : List UInt8) (j a b : Nat) (h : a + b ≤ 8) (hj : j < l.length) : ((ob l).drop (8 * j + a)).take b = lb ((cf l j).toNat / 2 ^ (8 - a - b)) b := by
  have hl := ob_length l
  refine list_ext_bt (by rw [List.length_take, List.length_drop, lb_length, hl]; omega) fun i hi => ?_
  rw [List.length_take] at hi
  rw [bt_take (by omega), bt_drop, bt_ob, bt_lb _ (by omega), ← Nat.shiftRight_eq_div_pow, Nat.testBit_shiftRight, show (8 * j + a + i) / 8 = j by omega]
  congr 1; omega
theorem pnum_byte (l : List UInt8) (p a b : Nat) {j : Nat} (h : a + b ≤ 8) (hj : j < l.length) (hp : p = 8 * j + a) : num (((ob l).drop p).take b) = (cf l j).toNat / 2 ^ (8 - a - b) % 2 ^ b := by
  rw [hp, pob_byte l j a b h hj, num_lb]
theorem pnum_two (l : List UInt8) (p a n : Nat) {j : Nat} (ha : a ≤ 8) (hj : j + 1 < l.length) (hp : p = 8 * j + a) (hn : n = 8 - a + 8) : num (((ob l).drop p).take n) = (cf l j).toNat % 2 ^ (8 - a) * 256 + (cf l (j + 1)).toNat := by
  have hl := ob_length l
  have e : ((ob l).drop p).take n = ((ob l).drop (8 * j + a)).take (8 - a) ++ ((ob l).drop (8 * (j + 1) + 0)).take 8 := by
    rw [hp, hn, List.take_add, List.drop_drop]
    congr 3; omega
  have l2 : (((ob l).drop (8 * (j + 1) + 0)).take 8).length = 8 := by rw [List.length_take, List.length_drop, hl]; omega
  rw [e, num_append, l2, pnum_byte l _ a (8 - a) (j := j) (by omega) (by omega) rfl, pnum_byte l _ 0 8 (j := j + 1) (by omega) hj rfl]
  have := (cf l (j + 1)).toNat_lt
  rw [show 8 - a - (8 - a) = 0 by omega, show 8 - 0 - 8 = 0 from rfl, Nat.pow_zero, Nat.div_one, Nat.div_one, Nat.mod_eq_of_lt (by omega : (cf l (j + 1)).toNat < 2 ^ 8)]
  omega
/-- How many bits each field has. -/
def wds : List Nat := [8, 1, 1, 1, 13, 2, 2, 4]
/-- A packet's fields, as numbers. -/
def vls8 (p : Pkt) : List Nat := [71, bn p.bad, bn p.start, 0, p.pid.toNat, 0, how p.body.size, p.count.toNat]
/-- The bits of the first k fields. -/
def fbs (p : Pkt) (k : Nat) : List Bool := ((List.range k).map fun i => lb ((vls8 p).getD i 0) (wds.getD i 0)).flatten
theorem fbs_zero (p : Pkt) : fbs p 0 = [] := rfl
theorem fbs_next (p : Pkt) (k : Nat) : fbs p k ++ lb ((vls8 p).getD k 0) (wds.getD k 0) = fbs p (k + 1) := by
  unfold fbs
  rw [List.range_succ, List.map_append, List.flatten_append]; simp
theorem fbs_length (p : Pkt) {k : Nat} (h : k ≤ 8) : (fbs p k).length ≤ 32 := by
  have hk : k = 0 ∨ k = 1 ∨ k = 2 ∨ k = 3 ∨ k = 4 ∨ k = 5 ∨ k = 6 ∨ k = 7 ∨ k = 8 := by omega
  rcases hk with rfl | rfl | rfl | rfl | rfl | rfl | rfl | rfl | rfl
  all_goals (unfold fbs; simp only [List.length_flatten, List.map_map]; simp [lb_length, List.range_succ, wds])
theorem fbs_all {p : Pkt} (h : okP p) : fbs p 8 = ob (hd p) := by
  have hb := bn_le p.bad
  have hs := bn_le p.start
  have hh := how_le p.body.size
  obtain ⟨⟨k1, k2⟩, k3, k4⟩ := h
  have e1 : (UInt8.ofNat (p.pid.toNat / 256 + 128 * bn p.bad + 64 * bn p.start)).toNat = (4 * bn p.bad + 2 * bn p.start) * 2 ^ 5 + p.pid.toNat / 2 ^ 8 := by rw [toNat_of (by omega)]; omega
  have e2 : (UInt8.ofNat (p.pid.toNat % 256)).toNat = p.pid.toNat % 2 ^ 8 := toNat_of (by omega)
  have e3 : (UInt8.ofNat (16 * how p.body.size + p.count.toNat)).toNat = how p.body.size * 2 ^ 4 + p.count.toNat := by rw [toNat_of (by omega)]; omega
  have f1 : lb ((4 * bn p.bad + 2 * bn p.start) * 2 ^ 5 + p.pid.toNat / 2 ^ 8) 8 = lb (bn p.bad) 1 ++ (lb (bn p.start) 1 ++ (lb 0 1 ++ lb (p.pid.toNat / 2 ^ 8) 5)) := by
    rw [plb_join _ _ 3 5 (by omega), show lb (4 * bn p.bad + 2 * bn p.start) 3 = lb (bn p.bad) 1 ++ (lb (bn p.start) 1 ++ lb 0 1) by cases p.bad <;> cases p.start <;> decide]
    simp only [List.append_assoc]
  have f3 : lb (how p.body.size * 2 ^ 4 + p.count.toNat) 8 = lb 0 2 ++ (lb (how p.body.size) 2 ++ lb p.count.toNat 4) := by
    rw [plb_join _ _ 4 4 (by omega), show lb (how p.body.size) 4 = lb 0 2 ++ lb (how p.body.size) 2 by
      obtain ⟨x, hx⟩ : ∃ x, how p.body.size = x := ⟨_, rfl⟩
      rw [hx] at hh ⊢
      have : x = 1 ∨ x = 2 ∨ x = 3 := by omega
      rcases this with rfl | rfl | rfl <;> decide]
    simp only [List.append_assoc]
  have f2 : lb p.pid.toNat 13 = lb (p.pid.toNat / 2 ^ 8) 5 ++ lb p.pid.toNat 8 := lb_split _ 5 8
  unfold hd
  simp only [ob]
  rw [e1, e2, e3, plb_mod, f1, f3, show (71 : UInt8).toNat = 71 from rfl]
  show lb 71 8 ++ (lb (bn p.bad) 1 ++ (lb (bn p.start) 1 ++ (lb 0 1 ++ (lb p.pid.toNat 13 ++ (lb 0 2 ++ (lb (how p.body.size) 2 ++ (lb p.count.toNat 4 ++ []))))))) = _
  rw [f2]
  simp only [List.append_assoc, List.append_nil]
theorem fbs_pack {p : Pkt} (h : okP p) : pack (fbs p 8 ++ ob (adp p.body.size ++ ls p.body)) = bts p := by
  rw [fbs_all h, ← ob_append, pack_ob]; rfl
/-- Where field k begins. -/
def offs : List Nat := [0, 8, 9, 10, 11, 24, 26, 28, 32]
/-- The fields of bytes, as numbers. -/
def rvs (l : List UInt8) : List Nat := [(cf l 0).toNat, (cf l 1).toNat / 128, (cf l 1).toNat / 64 % 2, (cf l 1).toNat / 32 % 2, (cf l 1).toNat % 32 * 256 + (cf l 2).toNat, (cf l 3).toNat / 64, hw l, (cf l 3).toNat % 16]
theorem rvs_get {l : List UInt8} (hl : l.length = 188) {k : Nat} (hk : k < 8) :
    ∃ n x p, wds[k]? = some n ∧ (rvs l)[k]? = some x ∧ offs[k]? = some p ∧ offs[k + 1]? = some (p + n) ∧ num (((ob l).drop p).take n) = x ∧ n ≤ 13 ∧ x < 65536 ∧ p + n ≤ 32 := by
  have h0 := (cf l 0).toNat_lt
  have h1 := (cf l 1).toNat_lt
  have h2 := (cf l 2).toNat_lt
  have h3 := (cf l 3).toNat_lt
  have h4 := hw_lt l
  have v0 : num (((ob l).drop 0).take 8) = (cf l 0).toNat := by rw [pnum_byte l 0 0 8 (j := 0) (by omega) (by omega) rfl]; omega
  have v1 : num (((ob l).drop 8).take 1) = (cf l 1).toNat / 128 := by rw [pnum_byte l 8 0 1 (j := 1) (by omega) (by omega) rfl]; omega
  have v2 : num (((ob l).drop 9).take 1) = (cf l 1).toNat / 64 % 2 := by rw [pnum_byte l 9 1 1 (j := 1) (by omega) (by omega) rfl]
  have v3 : num (((ob l).drop 10).take 1) = (cf l 1).toNat / 32 % 2 := by rw [pnum_byte l 10 2 1 (j := 1) (by omega) (by omega) rfl]
  have v4 : num (((ob l).drop 11).take 13) = (cf l 1).toNat % 32 * 256 + (cf l 2).toNat := pnum_two l 11 3 13 (j := 1) (by omega) (by omega) rfl rfl
  have v5 : num (((ob l).drop 24).take 2) = (cf l 3).toNat / 64 := by rw [pnum_byte l 24 0 2 (j := 3) (by omega) (by omega) rfl]; omega
  have v6 : num (((ob l).drop 26).take 2) = hw l := by rw [pnum_byte l 26 2 2 (j := 3) (by omega) (by omega) rfl]; rfl
  have v7 : num (((ob l).drop 28).take 4) = (cf l 3).toNat % 16 := by rw [pnum_byte l 28 4 4 (j := 3) (by omega) (by omega) rfl]; omega
  have hk' : k = 0 ∨ k = 1 ∨ k = 2 ∨ k = 3 ∨ k = 4 ∨ k = 5 ∨ k = 6 ∨ k = 7 := by omega
  rcases hk' with rfl | rfl | rfl | rfl | rfl | rfl | rfl | rfl
  · exact ⟨_, _, _, rfl, rfl, rfl, rfl, v0, by decide, by omega, by decide⟩
  · exact ⟨_, _, _, rfl, rfl, rfl, rfl, v1, by decide, by omega, by decide⟩
  · exact ⟨_, _, _, rfl, rfl, rfl, rfl, v2, by decide, by omega, by decide⟩
  · exact ⟨_, _, _, rfl, rfl, rfl, rfl, v3, by decide, by omega, by decide⟩
  · exact ⟨_, _, _, rfl, rfl, rfl, rfl, v4, by decide, by omega, by decide⟩
  · exact ⟨_, _, _, rfl, rfl, rfl, rfl, v5, by decide, by omega, by decide⟩
  · exact ⟨_, _, _, rfl, rfl, rfl, rfl, v6, by decide, by omega, by decide⟩
  · exact ⟨_, _, _, rfl, rfl, rfl, rfl, v7, by decide, by omega, by decide⟩
end Go.Proofs.YtifbomppgflkfaaDoor.Pk
