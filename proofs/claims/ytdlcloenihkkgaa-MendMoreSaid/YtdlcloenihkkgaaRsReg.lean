/-
  The register that makes a parity, in plain mathematics: shifted by one byte at a time, with the generator's lower coefficients added, it is what is left of the bytes that went in. No program, no condition.
-/
import Derived.Test.YtdlcloenihkkgaaPolyImp
import Derived.Test.YtdlcloenihkkgaaRsIs
namespace Go.Proofs.Ytdlcloenihkkgaa
open Gf
set_option maxRecDepth 100000
theorem rs_top (l : List UInt8) : ∀ p : List UInt8, trim p = p → p ≠ [] → cf p (p.length - 1) = 1 → cf (l.foldl (fun p a => pmul p [a, 1]) p) (p.length + l.length - 1) = 1 := by
  induction l with
  | nil => intro p _ _ h; exact h
  | cons a l ih =>
    intro p hp hn h1
    have hl := pmul_length (a := p) (b := [a, 1]) (by rw [hp]; exact hn) (by rw [trim_x]; simp)
    rw [hp, trim_x] at hl
    simp only [List.length_cons, List.length_nil] at hl
    have hlen : 0 < p.length := List.length_pos_iff.2 hn
    have := ih (pmul p [a, 1]) (pmul_trim _ _) (fun e => by rw [e] at hl; simp at hl) (by
      have e : (pmul p [a, 1]).length - 1 = (p.length - 1) + 1 := by omega
      rw [e, cf_pmul, conv_top (n := p.length - 1) (m := 1) (fun i hi => cf_big (by omega)) (fun i hi => cf_big (by simpa using hi)), h1, one_fm]
      rfl)
    rw [List.foldl_cons, List.length_cons]
    have e2 : (pmul p [a, 1]).length + l.length - 1 = p.length + (l.length + 1) - 1 := by omega
    rw [e2] at this; exact this
theorem rs_gen_length : gen.length = 65 := by rw [gen, proots_length, row_length]
theorem rs_gen_top : cf gen 64 = 1 := by
  have h := rs_top (row 64 pw) [1] (trim_self fun _ => by decide) (by simp) rfl
  rw [row_length] at h; exact h
theorem rs_gen_zero (n : Nat) (hn : n < 64) : pat gen (pw n) = 0 := (proots_zero _ _).2 (List.mem_map.2 ⟨n, List.mem_range.2 hn, rfl⟩)
/-- The generator without its highest coefficient. -/
def taps : List UInt8 := gen.take 64
theorem taps_length : taps.length = 64 := by rw [taps, List.length_take, rs_gen_length]; rfl
theorem pat_snoc (l : List UInt8) (c x : UInt8) : pat (l ++ [c]) x = fm c (fpow x l.length) ^^^ pat l x := by
  rw [← hv_rev, List.reverse_append, List.reverse_cons, List.reverse_nil, List.nil_append, List.singleton_append, hv_cons, List.length_reverse, hv_rev]
theorem split63 {l : List UInt8} (h : l.length = 64) : l = l.take 63 ++ [cf l 63] := by
  have e := (List.take_append_drop 63 l).symm
  rw [show l.drop 63 = [cf l 63] by rw [List.drop_eq_getElem_cons (by omega), cf_lt (by omega), List.drop_eq_nil_of_le (by omega)]] at e
  exact e
theorem pat_taps (n : Nat) (hn : n < 64) : pat taps (pw n) = fpow (pw n) 64 := by
  have e : gen = taps ++ [1] := by
    have h := (List.take_append_drop 64 gen).symm
    rw [show gen.drop 64 = [1] by rw [List.drop_eq_getElem_cons (by rw [rs_gen_length]; omega), ← cf_lt, rs_gen_top, List.drop_eq_nil_of_le (by rw [rs_gen_length]; omega)]] at h
    exact h
  have h := rs_gen_zero n hn
  rw [e, pat_snoc, taps_length, one_fm] at h
  exact (xor_eq_zero h).symm
/-- The register, one byte further on. -/
def shl (R : List UInt8) : List UInt8 := 0 :: R.take 63
theorem shl_length {R : List UInt8} (h : R.length = 64) : (shl R).length = 64 := by rw [shl, List.length_cons, List.length_take, h]; rfl
theorem pat_shl {R : List UInt8} (h : R.length = 64) (x : UInt8) : pat (shl R) x = fm x (pat R x) ^^^ fm (cf R 63) (fpow x 64) := by
  have e : pat R x = fm (cf R 63) (fpow x 63) ^^^ pat (R.take 63) x := by
    have h2 := pat_snoc (R.take 63) (cf R 63) x
    rw [← split63 h, List.length_take, h] at h2; exact h2
  rw [shl, pat_cons, z_xor, e, fm_add, show fpow x 64 = fm (fpow x 63) x from rfl]
  have e2 : fm x (fm (cf R 63) (fpow x 63)) = fm (cf R 63) (fm (fpow x 63) x) := by rw [fm_comm, fm_assoc]
  rw [e2, xor_c (fm (cf R 63) _), xor_a, xor_s, xor_z]
theorem pat_atRow {L T : List UInt8} (c : UInt8) (h : T.length ≤ L.length) (x : UInt8) : pat (atRow L 0 c T T.length) x = pat L x ^^^ fm c (pat T x) := by
  have e : ∀ i, cf (atRow L 0 c T T.length) i = cf (padd L (pmul [c] T)) i := fun i => by
    have hc : conv (cf [c]) (cf T) i = fm c (cf T i) := by
      have h1 := conv_single 0 c (cf T) i
      rw [if_pos (Nat.zero_le _), Nat.sub_zero] at h1
      rw [← h1]
      refine conv_congr (fun k _ => ?_) (fun _ _ => rfl)
      cases k with
      | zero => rfl
      | succ k => rw [if_neg (by omega)]; exact cf_big (by simp)
    rw [cf_padd, cf_pmul, hc]
    by_cases hi : i < L.length
    · rw [cf_atRow hi]
      by_cases h2 : i < T.length
      · rw [if_pos (by omega), Nat.sub_zero]
      · rw [if_neg (by omega), cf_big (p := T) (by omega), fm_zero]
    · rw [cf_big (by rw [atRow_length]; omega), cf_big (p := L) (by omega), cf_big (p := T) (by omega), fm_zero]; rfl
  rw [pat_cf e, pat_padd, pat_pmul, pat_one]
/-- What the register holds behind the bytes d. -/
def RegAt (d R : List UInt8) : Prop := R.length = 64 ∧ ∀ n, n < 64 → pat R (pw n) = fm (hv d (pw n)) (fpow (pw n) 64)
theorem hv_snoc (d : List UInt8) (c x : UInt8) : hv (d ++ [c]) x = fm (hv d x) x ^^^ c := by
  rw [hv_append, hv_cons, hv_nil]
  show fm (hv d x) (fpow x 1) ^^^ (fm c 1 ^^^ 0) = _
  rw [fm_one, xor_z, show fpow x 1 = x from one_fm x]
theorem reg_zero : RegAt [] (z8 64) := ⟨z8_len 64, fun n _ => by
  rw [hv_nil, zero_fm, ← hv_rev, show (z8 64).reverse = z8 64 from List.reverse_replicate ..]; exact hv_zeros 64 _⟩
theorem reg_shift {d R : List UInt8} (h : RegAt d R) : RegAt (d ++ [cf R 63]) (shl R) := ⟨shl_length h.1, fun n hn => by
  rw [pat_shl h.1, h.2 n hn, hv_snoc, add_fm]
  congr 1
  rw [fm_comm, fm_assoc, fm_comm (fpow _ _), ← fm_assoc]⟩
theorem reg_next {d R : List UInt8} {c o : UInt8} (h : RegAt d R) (ho : o = c ^^^ cf R 63) : RegAt (d ++ [c]) (atRow (shl R) 0 o taps 64) := ⟨by rw [atRow_length]; exact shl_length h.1, fun n hn => by
  have e := pat_atRow o (L := shl R) (T := taps) (by rw [taps_length, shl_length h.1]; exact Nat.le_refl _) (pw n)
  rw [taps_length] at e
  rw [e, pat_taps n hn, (reg_shift h).2 n hn, hv_snoc, hv_snoc, add_fm, add_fm, ho, add_fm, xor_a]
  congr 1
  rw [xor_c (fm c _), ← xor_a, xor_s, z_xor]⟩
theorem reg_still {d R : List UInt8} {c : UInt8} (h : RegAt d R) (ho : c ^^^ cf R 63 = 0) : RegAt (d ++ [c]) (shl R) := by
  rw [xor_eq_zero ho]; exact reg_shift h
theorem reg_word {d R : List UInt8} (hd : d.length = 191) (h : RegAt d R) : IsWord (d ++ R.reverse) := ⟨by rw [List.length_append, List.length_reverse, hd, h.1], fun n hn => by
  rw [hv_append, hv_rev, List.length_reverse, h.1, h.2 n hn, xor_s]⟩
end Go.Proofs.Ytdlcloenihkkgaa
