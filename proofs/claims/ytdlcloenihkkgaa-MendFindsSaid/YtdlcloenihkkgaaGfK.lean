/-
  What New makes and what Mul, Inv of a field and Add of two bytes answer there where much is written in between. For all bytes.
-/
import Derived.Test.YtdlcloenihkkgaaMem
import Derived.Test.YtdlcloenihkkgaaGfG
namespace Go.Proofs.Ytdlcloenihkkgaa
open Go.RowKit Gf
set_option maxRecDepth 100000
theorem eqv_drewN (w : World) (n : Nat) : Eqv w (w.drewN n) := ⟨rfl, rfl, rfl, rfl⟩
set_option maxHeartbeats 800000 in
theorem fmulE (b : Nat) (x y : Int) (w : World) (hf : FieldAt b w) (hx : Byte x) (hy : Byte y) :
    Calls Try.prog 59 #[.pointer (some ⟨b, 0, none⟩), .int .u8 x, .int .u8 y] w fun e w' => e = .returned (.int .u8 (gm x y)) ∧ Eqv w w' := by
  by_cases h : x = 0
  · have HG := Lib.hid (show (0 : Int) = gm x y by rw [h, gm_comm, gm_zero])
    subst h
    go_enter Try.func59, Try.ntmps59
    go_wp2
    go_ret
    exact ⟨ret_int HG.out, Eqv.refl _⟩
  · by_cases h2 : y = 0
    · have HG := Lib.hid (show (0 : Int) = gm x y by rw [h2, gm_zero])
      subst h2
      have hz : (x == 0) = false := by simp [h]
      go_enter Try.func59, Try.ntmps59
      go_wp2
      go_ret
      exact ⟨ret_int HG.out, Eqv.refl _⟩
    · have h0 : 1 ≤ x := by have := hx.1; omega
      have h1 := hx.2
      have h2' : 1 ≤ y := by have := hy.1; omega
      have h3 := hy.2
      have hc := hf.log h0 h1
      have he := hf.log h2' h3
      have hd := hf.mul h0 h1 h2' h3
      obtain ⟨l0, l1⟩ := gl_bd h0 h1
      obtain ⟨l2, l3⟩ := gl_bd h2' h3
      clear hf
      have hz : (x == 0) = false := by simp; omega
      have hz : (y == 0) = false := by simp; omega
      have hs0 : 0 ≤ gl x + gl y := by omega
      have hs1 : gl x + gl y < 510 := by omega
      go_enter Try.func59, Try.ntmps59
      go_wp2
      go_quiet (fail)
      go_wp2
      go_ret
      exact ⟨rfl, eqv_drewN _ _⟩
theorem byte8 (x : UInt8) : Byte (x.toNat : Int) := u8_bd x
theorem fmul8 (b : Nat) (x y : UInt8) (w : World) (hf : FieldAt b w) :
    Calls Try.prog 59 #[.pointer (some ⟨b, 0, none⟩), .int .u8 (x.toNat : Int), .int .u8 (y.toNat : Int)] w fun e w' => e = .returned (.int .u8 ((fm x y).toNat : Int)) ∧ Eqv w w' := by
  have h := fmulE b _ _ w hf (byte8 x) (byte8 y)
  rw [gm8] at h; exact h
theorem xsum2 (a b : UInt8) : xsum [(a.toNat : Int), (b.toNat : Int)] = ((a ^^^ b).toNat : Int) := by
  show xr (xr 0 _) _ = _
  rw [xr_zero (byte8 a), xr8]
theorem add8 (g : Nat) (a b : UInt8) (w : World) (h0 : w.cell? ⟨g, 0, none⟩ = some (.int .u8 (a.toNat : Int))) (h1 : w.cell? ⟨g, 1, none⟩ = some (.int .u8 (b.toNat : Int))) :
    Calls Try.prog 56 #[.slice (some ⟨g, 0, none⟩) 2 2] w fun e w' => e = .returned (.int .u8 ((a ^^^ b).toNat : Int)) ∧ w = w' := by
  have h := add_row g 0 2 2 [(a.toNat : Int), (b.toNat : Int)] w rfl (by simp) (fun x hx => by
    simp only [List.mem_cons, List.not_mem_nil, or_false] at hx
    rcases hx with rfl | rfl <;> exact byte8 _) (fun i hi => by
    match i, hi with
    | 0, _ => exact h0
    | 1, _ => exact h1)
  rw [xsum2] at h; exact h

theorem finv8 (b : Nat) (a : UInt8) (w : World) (hf : FieldAt b w) (h : a ≠ 0) :
    Calls Try.prog 58 #[.pointer (some ⟨b, 0, none⟩), .int .u8 (a.toNat : Int)] w fun e w' => e = .returned (.int .u8 ((fi a).toNat : Int)) ∧ Below w.heap.size w w' := by
  have h0 : 1 ≤ (a.toNat : Int) := by have := toNat_ne h; omega
  have k := finv_any b (a.toNat : Int) w hf h0 (u8_bd a).2
  have e : gi (a.toNat : Int) = ((fi a).toNat : Int) := by unfold gi; rw [Int.toNat_natCast, fi_toNat]
  rw [e] at k; exact k
end Go.Proofs.Ytdlcloenihkkgaa
