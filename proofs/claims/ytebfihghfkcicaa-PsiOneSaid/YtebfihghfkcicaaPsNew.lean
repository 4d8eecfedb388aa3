/-
  Versions: which one follows another one (mathematics), and what 'a & 31' is for any number.
-/
import Derived.Test.YtebfihghfkcicaaPsV
namespace Go.Proofs.Ytebfihghfkcicaa
open Go.RowKit Gf
set_option maxRecDepth 100000
namespace Ps
/-- Does version b follow version a? -/
def nwI (a b : Int) : Bool := decide (1 ≤ (b - a) % 32 ∧ (b - a) % 32 ≤ 15)
theorem nwI_mod (a b : Int) : nwI (a % 32) (b % 32) = nwI a b := by
  unfold nwI
  rw [show (b % 32 - a % 32) % 32 = (b - a) % 32 by omega]
theorem nwI_same {x y : Int} (h : x = y ∨ (x + 16) % 32 = y) : nwI x y = false ∧ nwI y x = false := by
  constructor <;> (unfold nwI; exact decide_eq_false (by omega))
theorem nwI_other {x y : Int} (hx : 0 ≤ x ∧ x < 32) (hy : 0 ≤ y ∧ y < 32) (h1 : ¬ x = y) (h2 : ¬ (x + 16) % 32 = y) : nwI y x = !nwI x y := by
  unfold nwI
  by_cases h : 1 ≤ (y - x) % 32 ∧ (y - x) % 32 ≤ 15
  · rw [decide_eq_true h, decide_eq_false (by omega)]; rfl
  · rw [decide_eq_false h, decide_eq_true (by omega)]; rfl
theorem nwI_back {x i : Int} (h : nwI x i = true) : nwI i x = false ∧ (i - x + 32) % 32 ≤ 15 := by
  unfold nwI at h ⊢
  have h := of_decide_eq_true h
  exact ⟨decide_eq_false (by omega), by omega⟩
theorem nwI_next (x : Int) : nwI x ((x + 1) % 32) = true := by
  unfold nwI
  exact decide_eq_true (by omega)
/-- How many of the first k versions follow x. -/
def cnN (x : Nat) : Nat → Nat
  | 0 => 0
  | k + 1 => cnN x k + (if nwI (x : Int) (k : Int) then 1 else 0)
theorem cnN_le (x : Nat) : ∀ k, cnN x k ≤ k
  | 0 => Nat.le_refl _
  | k + 1 => by
    have := cnN_le x k
    unfold cnN
    split <;> omega
theorem cnN_all : ∀ x, x < 32 → cnN x 32 = 15 := by decide
theorem and31 (a : Int) : bits .and .i64 a 31 = a % 32 := by
  have h : (bits .and .i64 a 31) = IntKind.i64.wrap (((BitVec.ofInt 64 a &&& BitVec.ofInt 64 31).toNat : Nat) : Int) := rfl
  rw [h, BitVec.toNat_and, show (BitVec.ofInt 64 31).toNat = 2 ^ 5 - 1 from rfl, Nat.and_two_pow_sub_one_eq_mod, BitVec.toNat_ofInt]
  have e : ((((a % ((2 ^ 64 : Nat) : Int)).toNat % 2 ^ 5 : Nat)) : Int) = a % 32 := by
    have h0 : 0 ≤ a % ((2 ^ 64 : Nat) : Int) := Int.emod_nonneg _ (by decide)
    rw [Int.natCast_emod, Int.toNat_of_nonneg h0]
    show a % 18446744073709551616 % 32 = a % 32
    omega
  rw [e]
  exact wrapI (by omega) (by omega)
end Ps
end Go.Proofs.Ytebfihghfkcicaa
