/-
  The chapter's examples, by the program; sums and products of two and three bytes.
-/
import Derived.Test.YtdlcloenihkkgaaGfD
namespace Go.Proofs.Ytdlcloenihkkgaa
open Go.RowKit Gf
set_option maxRecDepth 100000

theorem row2 (w : World) (a b : Int) (t : TypeId) : Row (w.alloc (.cells #[.int .u8 a, .int .u8 b] t)) w.heap.size 0 [a, b] := by
  intro i hi
  rw [World.cell?_alloc_new, Nat.zero_add]
  have : i = 0 ∨ i = 1 := by simp at hi; omega
  rcases this with rfl | rfl <;> rfl
theorem row3 (w : World) (a b c : Int) (t : TypeId) : Row (w.alloc (.cells #[.int .u8 a, .int .u8 b, .int .u8 c] t)) w.heap.size 0 [a, b, c] := by
  intro i hi
  rw [World.cell?_alloc_new, Nat.zero_add]
  have : i = 0 ∨ i = 1 ∨ i = 2 := by simp at hi; omega
  rcases this with rfl | rfl | rfl <;> rfl
theorem xr_zero {a : Int} (h : Byte a) : xr 0 a = a := by unfold xr; have := h.1; simp; omega
theorem gm_one {a : Int} (h : Byte a) : gm 1 a = a := by
  have h0 := h.1
  have h1 := h.2
  unfold gm
  rw [show (1 : Int).toNat = 1 from rfl, one_mul (by omega)]; omega
theorem add2 (w0 w : World) (a b : Int) (t : TypeId) (ha : Byte a) (hb : Byte b) (hk : Keeps w0 w) :
    Calls Try.prog 56 #[.slice (some ⟨w.heap.size, 0, none⟩) 2 2] (w.alloc (.cells #[.int .u8 a, .int .u8 b] t)) fun e w' => e = .returned (.int .u8 (xr a b)) ∧ Keeps w0 w' := by
  refine (add_row _ 0 2 2 [a, b] _ rfl (by simp) (by simp [ha, hb]) (row2 w a b t)).mono ?_
  rintro e w' ⟨rfl, rfl⟩
  exact ⟨ret_int (show xr (xr 0 a) b = xr a b by rw [xr_zero ha]), hk.alloc _⟩
theorem add3 (w0 w : World) (a b c : Int) (t : TypeId) (ha : Byte a) (hb : Byte b) (hc : Byte c) (hk : Keeps w0 w) :
    Calls Try.prog 56 #[.slice (some ⟨w.heap.size, 0, none⟩) 3 3] (w.alloc (.cells #[.int .u8 a, .int .u8 b, .int .u8 c] t)) fun e w' => e = .returned (.int .u8 (xr (xr a b) c)) ∧ Keeps w0 w' := by
  refine (add_row _ 0 3 3 [a, b, c] _ rfl (by simp) (by simp [ha, hb, hc]) (row3 w a b c t)).mono ?_
  rintro e w' ⟨rfl, rfl⟩
  exact ⟨ret_int (show xr (xr (xr 0 a) b) c = xr (xr a b) c by rw [xr_zero ha]), hk.alloc _⟩
theorem c1 : gi 2 = 142 := by kernel_rfl
theorem c2 : gl 3 = 25 := by kernel_rfl
theorem c3 : gm 2 128 = 29 := by kernel_rfl
theorem c4 : gm 3 7 = 9 := by kernel_rfl
theorem c5 : ge 255 = 1 := by kernel_rfl
theorem c6 : xr 5 3 = 6 := by kernel_rfl
end Go.Proofs.Ytdlcloenihkkgaa
