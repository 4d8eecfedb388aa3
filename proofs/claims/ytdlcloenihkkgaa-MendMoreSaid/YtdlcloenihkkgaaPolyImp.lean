/-
  What the calls of package poly answer, in the forms that the laws of layer 2 use: for texts of up to a hundred thousand bytes; the memory that was there stays.
-/
import Derived.Test.YtdlcloenihkkgaaPolyImpH
namespace Go.Proofs.Ytdlcloenihkkgaa
open Go.RowKit Gf
set_option maxRecDepth 100000

theorem ptrim_any (w0 : World) (p : ByteArray) (w : World) (hp : p.size ≤ 100000) (hk : Keeps w0 w) :
    Calls Try.prog 74 #[.string p] w fun e w' => e = .returned (.string (st (trim (ls p)))) ∧ Keeps w0 w' := ptrim_big w0 p w (by omega) hk
theorem pdeg_any (w0 : World) (p : ByteArray) (w : World) (hp : p.size ≤ 100000) (hk : Keeps w0 w) :
    Calls Try.prog 49 #[.string p] w fun e w' => e = .returned (.int .i64 (((trim (ls p)).length : Int) - 1)) ∧ Keeps w0 w' := pdeg_big w0 p w (by omega) hk
set_option maxRecDepth 100000 in
set_option maxHeartbeats 1600000 in
theorem longest_nil (w : World) : Calls Try.prog 75 #[.slice none 0 0] w fun e w' => e = .returned (.int .i64 0) ∧ w = w' := by
  go_enter Try.func75, Try.ntmps75
  go_wp2
  go_loop [3, 8] (fun m i => m = .int .i64 0 ∧ i = .int .i64 0) (fun _ _ => 0)
  case atStart => exact ⟨rfl, rfl⟩
  case round =>
    obtain ⟨rfl, rfl⟩ := hrel
    go_wp2
    go_ret
    exact ⟨rfl, rfl⟩
set_option maxRecDepth 100000 in
set_option maxHeartbeats 1600000 in
theorem padd_none (w0 : World) (w : World) (hk : Keeps w0 w) :
    Calls Try.prog 55 #[.slice none 0 0] w fun e w' => e = .returned (.string (st [])) ∧ Keeps w0 w' := by
  have HK := Lib.hid (hk.alloc (.cells (zr 0) 5))
  have hmk : (Instr.makeSlice 34 (.int .i64 0) (.int .i64 0)).run Try.prog w = .ok (.slice (some ⟨w.heap.size, 0, none⟩) 0 0) (w.alloc (.cells (zr 0) 5)) := make8 0 (by omega) w
  have hcv := text_zr w 0 (by omega)
  clear hk
  go_enter Try.func55, Try.ntmps55
  go_wp2_with fail
  refine (longest_nil w).mono ?_
  rintro e wz ⟨rfl, rfl⟩
  go_wp2
  go_loopw [12] (fun i wr => i = .int .i64 0 ∧ wr = w.alloc (.cells (zr 0) 5)) (fun _ _ => 0)
  case atStart => exact ⟨rfl, rfl⟩
  case round =>
    obtain ⟨rfl, rfl⟩ := hrel
    go_wp2_with fail
    refine (ptrim_big w0 _ _ (by rw [st_size]; simp [z8]) HK.out).mono ?_
    rintro e wz ⟨rfl, hkz⟩
    go_wp2
    go_ret
    exact ⟨rfl, hkz⟩
theorem addAll_cf {l : List UInt8} {p : ByteArray} {i : Nat} (hi : i < l.length) : cf (atRow l 0 1 (ls p) p.size) i = cf l i ^^^ cf (ls p) i := cf_whole (ls_size p) hi
theorem cf_beyond {L : List ByteArray} {p : ByteArray} (h : p ∈ L) {i : Nat} (hi : ¬ i < top L) : cf (ls p) i = 0 := cf_big (by rw [← ls_size]; have := le_top h; omega)
theorem z8_len (n : Nat) : (z8 n).length = n := List.length_replicate
theorem sum_two (a b : ByteArray) : trim (addAll (z8 (top [a, b])) [a, b]) = padd (ls a) (ls b) := by
  refine (trim_ext (q := padd (ls a) (ls b)) fun i => ?_).trans (padd_trim _ _)
  rw [cf_padd]
  simp only [addAll, List.foldl_cons, List.foldl_nil]
  by_cases hi : i < top [a, b]
  · rw [addAll_cf (by rw [atRow_length, z8_len]; exact hi), addAll_cf (by rw [z8_len]; exact hi), cf_z8, z_xor]
  · rw [cf_big (by rw [atRow_length, atRow_length, z8_len]; omega), cf_beyond (L := [a, b]) (by simp) hi, cf_beyond (L := [a, b]) (by simp) hi]; rfl
theorem sum_three (a b c : ByteArray) : trim (addAll (z8 (top [a, b, c])) [a, b, c]) = padd (padd (ls a) (ls b)) (ls c) := by
  refine (trim_ext (q := padd (padd (ls a) (ls b)) (ls c)) fun i => ?_).trans (padd_trim _ _)
  rw [cf_padd, cf_padd]
  simp only [addAll, List.foldl_cons, List.foldl_nil]
  by_cases hi : i < top [a, b, c]
  · rw [addAll_cf (by rw [atRow_length, atRow_length, z8_len]; exact hi), addAll_cf (by rw [atRow_length, z8_len]; exact hi), addAll_cf (by rw [z8_len]; exact hi), cf_z8, z_xor]
  · rw [cf_big (by rw [atRow_length, atRow_length, atRow_length, z8_len]; omega), cf_beyond (L := [a, b, c]) (by simp) hi, cf_beyond (L := [a, b, c]) (by simp) hi, cf_beyond (L := [a, b, c]) (by simp) hi]; rfl
theorem padd_two (w0 : World) (a b : ByteArray) (t : TypeId) (w : World) (ha : a.size ≤ 100000) (hb : b.size ≤ 100000) (hk : Keeps w0 w) :
    Calls Try.prog 55 #[.slice (some ⟨w.heap.size, 0, none⟩) 2 2] (w.alloc (.cells #[.string a, .string b] t)) fun e w' => e = .returned (.string (st (padd (ls a) (ls b)))) ∧ Keeps w0 w' := by
  rw [← sum_two]
  refine padd_list w0 w.heap.size 2 2 [a, b] _ rfl (by simp) (fun p hp => ?_) (by simp) (fun i hi => ?_) (hk.alloc _)
  · simp only [List.mem_cons, List.not_mem_nil, or_false] at hp
    rcases hp with rfl | rfl <;> omega
  · rw [World.cell?_alloc_new]
    match i, hi with
    | 0, _ => rfl
    | 1, _ => rfl
theorem padd_three (w0 : World) (a b c : ByteArray) (t : TypeId) (w : World) (ha : a.size ≤ 100000) (hb : b.size ≤ 100000) (hc : c.size ≤ 100000) (hk : Keeps w0 w) :
    Calls Try.prog 55 #[.slice (some ⟨w.heap.size, 0, none⟩) 3 3] (w.alloc (.cells #[.string a, .string b, .string c] t)) fun e w' => e = .returned (.string (st (padd (padd (ls a) (ls b)) (ls c)))) ∧ Keeps w0 w' := by
  rw [← sum_three]
  refine padd_list w0 w.heap.size 3 3 [a, b, c] _ rfl (by simp) (fun p hp => ?_) (by simp) (fun i hi => ?_) (hk.alloc _)
  · simp only [List.mem_cons, List.not_mem_nil, or_false] at hp
    rcases hp with rfl | rfl | rfl <;> omega
  · rw [World.cell?_alloc_new]
    match i, hi with
    | 0, _ => rfl
    | 1, _ => rfl
    | 2, _ => rfl
theorem pmul_any (w0 : World) (a b : ByteArray) (w : World) (ha : a.size ≤ 100000) (hb : b.size ≤ 100000) (hk : Keeps w0 w) :
    Calls Try.prog 53 #[.string a, .string b] w fun e w' => e = .returned (.string (st (pmul (ls a) (ls b)))) ∧ Keeps w0 w' := pmul_big w0 a b w (by omega) (by omega) hk
theorem pdiv_any (w0 : World) (a b : ByteArray) (w : World) (ha : a.size ≤ 100000) (hb : b.size ≤ 100000) (hz : trim (ls b) ≠ []) (hk : Keeps w0 w) :
    Calls Try.prog 54 #[.string a, .string b] w (DivPost w0 (ls a) (ls b)) := pdiv_big w0 a b w (by omega) (by omega) hz hk
theorem pdiv_zero (w0 : World) (a b : ByteArray) (w : World) (_ha : a.size ≤ 100000) (hb : b.size ≤ 100000) (hz : trim (ls b) = []) (hk : Keeps w0 w) :
    Calls Try.prog 54 #[.string a, .string b] w fun e w' => e = .returned (.tuple #[.string (st []), .string (st []), .int .i64 16]) ∧ Keeps w0 w' := pdivz_big w0 a b w (by omega) hz hk
theorem pat_any (w0 : World) (p : ByteArray) (x : UInt8) (w : World) (hp : p.size ≤ 100000) (hk : Keeps w0 w) :
    Calls Try.prog 48 #[.string p, .int .u8 (x.toNat : Int)] w fun e w' => e = .returned (.int .u8 ((pat (ls p) x).toNat : Int)) ∧ Keeps w0 w' := pat_big w0 p x w (by omega) hk
theorem pslope_any (w0 : World) (p : ByteArray) (w : World) (hp : p.size ≤ 100000) (hk : Keeps w0 w) :
    Calls Try.prog 57 #[.string p] w fun e w' => e = .returned (.string (st (pslope (ls p)))) ∧ Keeps w0 w' := pslope_big w0 p w (by omega) hk
theorem proots_any (w0 : World) (l : ByteArray) (w : World) (hl : l.size ≤ 10000) (hk : Keeps w0 w) :
    Calls Try.prog 26 #[.string l] w fun e w' => e = .returned (.string (st (proots (ls l)))) ∧ Keeps w0 w' := proots_big w0 l w (by omega) hk
end Go.Proofs.Ytdlcloenihkkgaa
