/-
  What the calls of package poly answer, in the forms that the laws of layer 2 use: for texts of up to a hundred thousand bytes; the memory that was there stays.
-/
import Derived.Test.YtachbccoehlcjaaPolyImpH
namespace Go.Proofs.Ytachbccoehlcjaa
open Go.RowKit Gf

theorem addAll_cf {l : List UInt8} {p : ByteArray} {i : Nat} (hi : i < l.length) : cf (atRow l 0 1 (ls p) p.size) i = cf l i ^^^ cf (ls p) i := cf_whole (ls_size p) hi
theorem cf_beyond {L : List ByteArray} {p : ByteArray} (h : p ∈ L) {i : Nat} (hi : ¬ i < top L) : cf (ls p) i = 0 := cf_big (by rw [← ls_size]; have := le_top h; omega)
theorem z8_len (n : Nat) : (z8 n).length = n := List.length_replicate
theorem sum_two (a b : ByteArray) : trim (addAll (z8 (top [a, b])) [a, b]) = padd (ls a) (ls b) := by
  refine (trim_ext (q := padd (ls a) (ls b)) fun i => ?_).trans (padd_trim _ _)
  rw [cf_padd]
  simp only [addAll, List.foldl_cons, List.foldl_nil]
  by_cases hi : i < top [a, b]
  · rw [addAll_cf (by rw [atRow_length, z8_len]; exact hi), addAll_cf (by rw [z8_len]; exact hi), cf_z8, z_xor]
  · rw [cf_big (by rw [atRow_length, atRow_length, z8_len]; omega), cf_beyond (L := [a, b]) (by simp) hi, cf_beyond (L := [a, b]) (by simp) hi]; rfl
theorem sum_three (a b c : ByteArray) : trim (addAll (z8 (top [a, b, c])) [a, b, c]) = padd (padd (ls a) (ls b)) (ls c) := by
  refine (trim_ext (q := padd (padd (ls a) (ls b)) (ls c)) fun i => ?_).trans (padd_trim _ _)
  rw [cf_padd, cf_padd]
  simp only [addAll, List.foldl_cons, List.foldl_nil]
  by_cases hi : i < top [a, b, c]
  · rw [addAll_cf (by rw [atRow_length, atRow_length, z8_len]; exact hi), addAll_cf (by rw [atRow_length, z8_len]; exact hi), addAll_cf (by rw [z8_len]; exact hi), cf_z8, z_xor]
  · rw [cf_big (by rw [atRow_length, atRow_length, atRow_length, z8_len]; omega), cf_beyond (L := [a, b, c]) (by simp) hi, cf_beyond (L := [a, b, c]) (by simp) hi, cf_beyond (L := [a, b, c]) (by simp) hi]; rfl
theorem pat_any (w0 : World) (p : ByteArray) (x : UInt8) (w : World) (hp : p.size ≤ 100000) (hk : Keeps w0 w) :
    Calls Try.prog 27 #[.string p, .int .u8 (x.toNat : Int)] w fun e w' => e = .returned (.int .u8 ((pat (ls p) x).toNat : Int)) ∧ Keeps w0 w' := pat_big w0 p x w (by omega) hk
theorem proots_any (w0 : World) (l : ByteArray) (w : World) (hl : l.size ≤ 10000) (hk : Keeps w0 w) :
    Calls Try.prog 22 #[.string l] w fun e w' => e = .returned (.string (st (proots (ls l)))) ∧ Keeps w0 w' := proots_big w0 l w (by omega) hk
end Go.Proofs.Ytachbccoehlcjaa
