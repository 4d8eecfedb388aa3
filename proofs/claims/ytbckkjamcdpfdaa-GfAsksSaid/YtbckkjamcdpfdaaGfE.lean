/-
  The chapter's examples, by the program; sums and products of two and three bytes.
-/
import Derived.Test.YtbckkjamcdpfdaaGfD
namespace Go.Proofs.Ytbckkjamcdpfdaa
open Go.RowKit Gf

theorem row2 (w : World) (a b : Int) (t : TypeId) : Row (w.alloc (.cells #[.int .u8 a, .int .u8 b] t)) w.heap.size 0 [a, b] := by
  intro i hi
  rw [World.cell?_alloc_new, Nat.zero_add]
  have : i = 0 ∨ i = 1 := by simp at hi; omega
  rcases this with rfl | rfl <;> rfl
theorem row3 (w : World) (a b c : Int) (t : TypeId) : Row (w.alloc (.cells #[.int .u8 a, .int .u8 b, .int .u8 c] t)) w.heap.size 0 [a, b, c] := by
  intro i hi
  rw [World.cell?_alloc_new, Nat.zero_add]
  have : i = 0 ∨ i = 1 ∨ i = 2 := by simp at hi; omega
  rcases this with rfl | rfl | rfl <;> rfl
theorem xr_zero {a : Int} (h : Byte a) : xr 0 a = a := by unfold xr; have := h.1; simp; omega
theorem gm_one {a : Int} (h : Byte a) : gm 1 a = a := by
  have h0 := h.1
  have h1 := h.2
  unfold gm
  rw [show (1 : Int).toNat = 1 from rfl, one_mul (by omega)]; omega
theorem add2 (w0 w : World) (a b : Int) (t : TypeId) (ha : Byte a) (hb : Byte b) (hk : Keeps w0 w) :
    Calls Try.prog 14 #[.slice (some ⟨w.heap.size, 0, none⟩) 2 2] (w.alloc (.cells #[.int .u8 a, .int .u8 b] t)) fun e w' => e = .returned (.int .u8 (xr a b)) ∧ Keeps w0 w' := by
  refine (add_row _ 0 2 2 [a, b] _ rfl (by simp) (by simp [ha, hb]) (row2 w a b t)).mono ?_
  rintro e w' ⟨rfl, rfl⟩
  exact ⟨ret_int (show xr (xr 0 a) b = xr a b by rw [xr_zero ha]), hk.alloc _⟩
theorem add3 (w0 w : World) (a b c : Int) (t : TypeId) (ha : Byte a) (hb : Byte b) (hc : Byte c) (hk : Keeps w0 w) :
    Calls Try.prog 14 #[.slice (some ⟨w.heap.size, 0, none⟩) 3 3] (w.alloc (.cells #[.int .u8 a, .int .u8 b, .int .u8 c] t)) fun e w' => e = .returned (.int .u8 (xr (xr a b) c)) ∧ Keeps w0 w' := by
  refine (add_row _ 0 3 3 [a, b, c] _ rfl (by simp) (by simp [ha, hb, hc]) (row3 w a b c t)).mono ?_
  rintro e w' ⟨rfl, rfl⟩
  exact ⟨ret_int (show xr (xr (xr 0 a) b) c = xr (xr a b) c by rw [xr_zero ha]), hk.alloc _⟩
theorem mul2 (w0 w : World) (a b : Int) (t : TypeId) (ha : Byte a) (hb : Byte b) (hk : Keeps w0 w) :
    Calls Try.prog 15 #[.slice (some ⟨w.heap.size, 0, none⟩) 2 2] (w.alloc (.cells #[.int .u8 a, .int .u8 b] t)) fun e w' => e = .returned (.int .u8 (gm a b)) ∧ Keeps w0 w' := by
  refine (mul_row _ 0 2 2 [a, b] _ rfl (by simp) (by simp [ha, hb]) (row2 w a b t)).mono ?_
  rintro e w' ⟨rfl, rfl⟩
  exact ⟨ret_int (show gm (gm 1 a) b = gm a b by rw [gm_one ha]), hk.alloc _⟩
theorem mul3 (w0 w : World) (a b c : Int) (t : TypeId) (ha : Byte a) (hb : Byte b) (hc : Byte c) (hk : Keeps w0 w) :
    Calls Try.prog 15 #[.slice (some ⟨w.heap.size, 0, none⟩) 3 3] (w.alloc (.cells #[.int .u8 a, .int .u8 b, .int .u8 c] t)) fun e w' => e = .returned (.int .u8 (gm (gm a b) c)) ∧ Keeps w0 w' := by
  refine (mul_row _ 0 3 3 [a, b, c] _ rfl (by simp) (by simp [ha, hb, hc]) (row3 w a b c t)).mono ?_
  rintro e w' ⟨rfl, rfl⟩
  exact ⟨ret_int (show gm (gm (gm 1 a) b) c = gm (gm a b) c by rw [gm_one ha]), hk.alloc _⟩

theorem c1 : gi 2 = 142 := by kernel_rfl
theorem c2 : gl 3 = 25 := by kernel_rfl
theorem c3 : gm 2 128 = 29 := by kernel_rfl
theorem c4 : gm 3 7 = 9 := by kernel_rfl
theorem c5 : ge 255 = 1 := by kernel_rfl
theorem c6 : xr 5 3 = 6 := by kernel_rfl
set_option maxHeartbeats 800000 in
theorem awake_any (w0 w : World) (hk : Keeps w0 w) :
    Calls Try.prog 11 #[] w fun e w' => e = .returned (.bool true) ∧ Keeps w0 w' := by
  go_enter Try.func11, Try.ntmps11
  go_wp2_with fail
  refine (inv_any w0 _ _ (by omega) (by omega) hk).mono ?_
  rintro e w1 ⟨rfl, hk1⟩
  rw [c1]
  clear hk
  go_wp2_with fail
  refine (log_any w0 _ _ (by omega) (by omega) hk1).mono ?_
  rintro e w2 ⟨rfl, hk2⟩
  rw [c2]
  clear hk1
  go_wp2_with fail
  refine (mul2 w0 _ _ _ _ (.num (by omega) (by omega)) (.num (by omega) (by omega)) hk2).mono ?_
  rintro e w3 ⟨rfl, hk3⟩
  rw [c3]
  clear hk2
  go_wp2_with fail
  refine (mul2 w0 _ _ _ _ (.num (by omega) (by omega)) (.num (by omega) (by omega)) hk3).mono ?_
  rintro e w4 ⟨rfl, hk4⟩
  rw [c4]
  clear hk3
  go_wp2_with fail
  refine (exp_any w0 _ _ hk4).mono ?_
  rintro e w5 ⟨rfl, hk5⟩
  rw [c5]
  clear hk4
  go_wp2_with fail
  refine (add2 w0 _ _ _ _ (.num (by omega) (by omega)) (.num (by omega) (by omega)) hk5).mono ?_
  rintro e w6 ⟨rfl, hk6⟩
  rw [c6]
  clear hk5
  go_wp2
  go_ret
  exact ⟨rfl, hk6⟩
end Go.Proofs.Ytbckkjamcdpfdaa
