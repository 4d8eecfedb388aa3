/-
  What a nil field answers, and a field of 0: for all bytes and numbers.
-/
import Derived.Test.YtbckkjamcdpfdaaGfG
namespace Go.Proofs.Ytbckkjamcdpfdaa
open Go.RowKit Gf
set_option maxHeartbeats 400000 in
theorem nmul_any (x y : Int) (w : World) : Calls Try.prog 27 #[.pointer none, .int .u8 x, .int .u8 y] w fun e w' => e = .returned (.int .u8 0) ∧ w = w' := by
  go_enter Try.func27, Try.ntmps27
  go_wp2
  go_ret
  exact ⟨rfl, rfl⟩
set_option maxHeartbeats 400000 in
theorem ninv_any (x : Int) (w : World) : Calls Try.prog 28 #[.pointer none, .int .u8 x] w fun e w' => e = .returned (.int .u8 0) ∧ w = w' := by
  go_enter Try.func28, Try.ntmps28
  go_wp2
  go_ret
  exact ⟨rfl, rfl⟩
set_option maxHeartbeats 400000 in
theorem nexp_any (n : Int) (w : World) : Calls Try.prog 29 #[.pointer none, .int .i64 n] w fun e w' => e = .returned (.int .u8 0) ∧ w = w' := by
  go_enter Try.func29, Try.ntmps29
  go_wp2
  go_ret
  exact ⟨rfl, rfl⟩
set_option maxHeartbeats 400000 in
theorem nlog_any (x : Int) (w : World) : Calls Try.prog 30 #[.pointer none, .int .u8 x] w fun e w' => e = .returned (.int .i64 0) ∧ w = w' := by
  go_enter Try.func30, Try.ntmps30
  go_wp2
  go_ret
  exact ⟨rfl, rfl⟩
set_option maxHeartbeats 400000 in
theorem finv_zero (b : Nat) (w : World) : Calls Try.prog 28 #[.pointer (some ⟨b, 0, none⟩), .int .u8 0] w fun e w' => e = .returned (.int .u8 0) ∧ w = w' := by
  go_enter Try.func28, Try.ntmps28
  go_wp2
  go_ret
  exact ⟨rfl, rfl⟩
set_option maxHeartbeats 400000 in
theorem flog_zero (b : Nat) (w : World) : Calls Try.prog 30 #[.pointer (some ⟨b, 0, none⟩), .int .u8 0] w fun e w' => e = .returned (.int .i64 (-1)) ∧ w = w' := by
  go_enter Try.func30, Try.ntmps30
  go_wp2
  go_ret
  exact ⟨rfl, rfl⟩
set_option maxHeartbeats 400000 in
theorem fmul_all (w0 : World) (b : Nat) (x y : Int) (w : World) (hf : FieldAt b w) (hx : Byte x) (hy : Byte y) (hk : Keeps w0 w) :
    Calls Try.prog 27 #[.pointer (some ⟨b, 0, none⟩), .int .u8 x, .int .u8 y] w fun e w' => e = .returned (.int .u8 (gm x y)) ∧ Keeps w0 w' := by
  by_cases h : x = 0
  · have HG := Lib.hid (show (0 : Int) = gm x y by rw [h, gm_comm, gm_zero])
    subst h
    go_enter Try.func27, Try.ntmps27
    go_wp2
    go_ret
    exact ⟨ret_int HG.out, hk⟩
  · by_cases h2 : y = 0
    · have HG := Lib.hid (show (0 : Int) = gm x y by rw [h2, gm_zero])
      subst h2
      have hz : (x == 0) = false := by simp [h]
      go_enter Try.func27, Try.ntmps27
      go_wp2
      go_ret
      exact ⟨ret_int HG.out, hk⟩
    · have h3 := hx.1
      have h4 := hy.1
      exact (fmul_any b x y w hf (by omega) hx.2 (by omega) hy.2).mono fun _ _ h => ⟨h.1, hk.trans h.2⟩
theorem fexp_all (w0 : World) (b : Nat) (n : Int) (w : World) (hf : FieldAt b w) (hk : Keeps w0 w) :
    Calls Try.prog 29 #[.pointer (some ⟨b, 0, none⟩), .int .i64 n] w fun e w' => e = .returned (.int .u8 (ge n)) ∧ Keeps w0 w' :=
  (fexp_any b n w hf).mono fun _ _ h => ⟨h.1, hk.trans h.2⟩
theorem finv_all (w0 : World) (b : Nat) (a : Int) (w : World) (hf : FieldAt b w) (h0 : 1 ≤ a) (h1 : a ≤ 255) (hk : Keeps w0 w) :
    Calls Try.prog 28 #[.pointer (some ⟨b, 0, none⟩), .int .u8 a] w fun e w' => e = .returned (.int .u8 (gi a)) ∧ Keeps w0 w' :=
  (finv_any b a w hf h0 h1).mono fun _ _ h => ⟨h.1, hk.trans h.2⟩
theorem FieldAt.kept {b : Nat} {w1 w : World} (h : FieldAt b w1) (hk : Keeps w1 w) : FieldAt b w := h.below h.old hk
end Go.Proofs.Ytbckkjamcdpfdaa
