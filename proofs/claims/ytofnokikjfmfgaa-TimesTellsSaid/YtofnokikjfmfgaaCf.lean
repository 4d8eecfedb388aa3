/-
  The bytes of a list, and 0 behind them. No program, no condition.
-/
import Derived.KernelRfl
namespace Go.Proofs.Ytofnokikjfmfgaa.Gf
/-- The coefficient of a power. -/
def cf (p : List UInt8) (n : Nat) : UInt8 := p.getD n 0
theorem cf_nil (n : Nat) : cf [] n = 0 := rfl
theorem cf_zero (a : UInt8) (p : List UInt8) : cf (a :: p) 0 = a := rfl
theorem cf_succ (a : UInt8) (p : List UInt8) (n : Nat) : cf (a :: p) (n + 1) = cf p n := by simp [cf]
theorem cf_big {p : List UInt8} {n : Nat} (h : p.length ≤ n) : cf p n = 0 := by
  unfold cf; rw [List.getD_eq_getElem?_getD, List.getElem?_eq_none h]; rfl
theorem cf_lt {p : List UInt8} {n : Nat} (h : n < p.length) : cf p n = p[n] := by
  unfold cf; rw [List.getD_eq_getElem?_getD, List.getElem?_eq_getElem h]; rfl
end Go.Proofs.Ytofnokikjfmfgaa.Gf
