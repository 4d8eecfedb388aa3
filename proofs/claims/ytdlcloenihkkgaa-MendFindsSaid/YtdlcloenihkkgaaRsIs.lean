/-
  The document's Is and Generator, and Full of the laws. The memory that was there stays.
-/
import Derived.Test.YtdlcloenihkkgaaRsRef
import Derived.Deep.RegionWith
import Derived.Test.YtdlcloenihkkgaaMem
namespace Go.Proofs.Ytdlcloenihkkgaa
open Go.RowKit Gf
set_option maxRecDepth 100000
theorem text_kept {W w1 : World} (k : Keeps (W.alloc (.cells (zr 64) 5)) w1) :
    (convert 34 9 (.slice (some ⟨W.heap.size, 0, none⟩) 64 64)).run Try.prog w1 = .ok (.string (st (z8 64))) w1 :=
  ((own_zr W 64 (by omega)).kept (w0 := W) ((Keeps.refl W).alloc _) k).text
theorem text_keptD {W w1 : World} (k : Keeps (W.alloc (.cells (zr 64) 5)).drew w1) :
    (convert 34 9 (.slice (some ⟨W.heap.size, 0, none⟩) 64 64)).run Try.prog w1 = .ok (.string (st (z8 64))) w1 :=
  text_kept (W := W) (w1 := w1) ((show Keeps (W.alloc (.cells (zr 64) 5)) (W.alloc (.cells (zr 64) 5)).drew from (Below.refl _ _).drew).over k)
def isB (l : List UInt8) : Bool := decide (l.length = 255) && (synd l == z8 64)
theorem synd_zero (l : List UInt8) : (synd l == z8 64) = true ↔ ∀ n, n < 64 → hv l (pw n) = 0 := by
  simp only [beq_iff_eq]
  constructor
  · intro h n hn
    have := cf_row 64 (fun n => hv l (pw n)) n
    rw [if_pos hn] at this
    rw [← this, show row 64 (fun n => hv l (pw n)) = synd l from rfl, h, z8, cf_lt (by rw [List.length_replicate]; exact hn), List.getElem_replicate]
  · intro h
    unfold z8
    apply List.ext_getElem
    · rw [synd, row_length, List.length_replicate]
    · intro i h1 h2
      have hi : i < 64 := by rw [List.length_replicate] at h2; exact h2
      have := cf_row 64 (fun n => hv l (pw n)) i
      rw [if_pos hi, h i hi, cf_lt (by rw [row_length]; exact hi)] at this
      rw [List.getElem_replicate]; exact this
theorem isB_iff (l : List UInt8) : isB l = true ↔ IsWord l := by
  unfold isB IsWord; rw [Bool.and_eq_true, synd_zero]; simp
set_option maxRecDepth 100000 in
set_option maxHeartbeats 1600000 in
theorem ris_other (w0 : World) (p : ByteArray) (w : World) (hp : ¬ p.size = 255) (hk : Keeps w0 w) :
    Calls Try.prog 21 #[.string p] w fun e w' => e = .returned (.bool (isB (ls p))) ∧ Keeps w0 w' := by
  have HB := Lib.hid (show isB (ls p) = false by simp [isB, ← ls_size, hp])
  have hb : (((p.size : Nat) : Int) == 255) = false := by rw [beq_eq_false_iff_ne]; omega
  go_enter Try.func21, Try.ntmps21
  go_wp2
  go_quiet (fail)
  go_wp2
  go_ret
  rw [HB.out]
  exact ⟨rfl, hk.trans (below_drewN (Below.refl _ _) _)⟩
set_option maxRecDepth 100000 in
set_option maxHeartbeats 1600000 in
theorem ris_some (w0 : World) (p : ByteArray) (w : World) (hp : p.size = 255) (hk : Keeps w0 w) :
    Calls Try.prog 21 #[.string p] w fun e w' => e = .returned (.bool (isB (ls p))) ∧ Keeps w0 w' := by
  have HB := Lib.hid (show isB (ls p) = (synd (ls p) == z8 64) by simp [isB, ← ls_size, hp])
  have hb : (((p.size : Nat) : Int) == 255) = true := by rw [beq_iff_eq]; omega
  have hs : p.size ≤ 1000000000 := by omega
  have HP := Lib.hid hs
  have HK := Lib.hid hk
  clear hp hs hk
  have hmk : ∀ W : World, (Instr.makeSlice 34 (.int .i64 64) (.int .i64 64)).run Try.prog W = .ok (.slice (some ⟨W.heap.size, 0, none⟩) 64 64) (W.alloc (.cells (zr 64) 5)) := fun W => make8 64 (by omega) W
  have htx : ∀ W : World, (convert 34 9 (.slice (some ⟨W.heap.size, 0, none⟩) 64 64)).run Try.prog (W.alloc (.cells (zr 64) 5)) = .ok (.string (st (z8 64))) (W.alloc (.cells (zr 64) 5)) := fun W => text_zr W 64 (by omega)
  have hst := st_toList
  have htd : ∀ W : World, (convert 34 9 (.slice (some ⟨W.heap.size, 0, none⟩) 64 64)).run Try.prog (W.alloc (.cells (zr 64) 5)).drew = .ok (.string (st (z8 64))) (W.alloc (.cells (zr 64) 5)).drew := fun W => text_keptD (Keeps.refl _)
  go_enter Try.func21, Try.ntmps21
  go_wp2
  go_region_with ((go_at_call 37; refine (rsynd_any _ _ _ HP.out (Keeps.refl _)).mono ?_; rintro e w1 ⟨rfl, hk1⟩; try (first | (have hcv := text_kept hk1) | (have hcv := text_keptD hk1))))
  all_goals
    go_wp2
    go_ret
    rw [HB.out]
    refine ⟨rfl, HK.out.trans ?_⟩
    first
      | exact Below.alloc (((Below.refl _ w).drew).trans (Below.mono hk1 (Nat.le_refl _))) (Below.size hk1) _
      | exact (((Below.refl _ w).alloc (Nat.le_refl _) _).drew).trans (Below.mono hk1 (by simp))
theorem cat_st (a : ByteArray) (l : List UInt8) : a ++ st l = st (ls a ++ l) := by
  apply ByteArray.ext
  rw [ByteArray.data_append]; simp [st, ls]
def gRel (w : World) (v i : Value) (wr : World) : Prop := ∃ (k : Nat) (q : ByteArray), k ≤ 64 ∧ v = .string q ∧ ls q = row k pw ∧ i = .int .i64 k ∧ Keeps w wr
def gen : List UInt8 := proots (row 64 pw)
set_option maxRecDepth 100000 in
set_option maxHeartbeats 1600000 in
theorem full_any (w0 : World) (s : ByteArray) (n : Nat) (w : World) (hs : s.size ≤ n) (hn : n ≤ 1000) (hk : Keeps w0 w) :
    Calls Try.prog 16 #[.string s, .int .i64 (n : Int)] w fun e w' => e = .returned (.string (st (ls s ++ z8 (n - s.size)))) ∧ Keeps w0 w' := by
  have hsub : ((n : Int) - (s.size : Int)) = ((n - s.size : Nat) : Int) := by omega
  have hmk := make8 (n - s.size) (by omega) w
  have htx := text_zr w (n - s.size) (by omega)
  rw [← hsub] at hmk
  have h1 : (s.size : Int) ≤ (n : Int) := by omega
  have HC := Lib.hid (cat_st s (z8 (n - s.size)))
  have hzs : (st (z8 (n - s.size))).size ≤ 1000 := by rw [st_size]; unfold z8; rw [List.length_replicate]; omega
  clear hsub
  generalize n - s.size = m at *
  go_enter Try.func16, Try.ntmps16
  go_wp2
  go_ret
  rw [← HC.out]
  exact ⟨rfl, hk.alloc _⟩
end Go.Proofs.Ytdlcloenihkkgaa
