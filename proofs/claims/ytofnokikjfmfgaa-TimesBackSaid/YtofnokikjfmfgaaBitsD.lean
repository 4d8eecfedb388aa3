/-
  What Text of package bits' reader answers: for texts of up to a million bytes. Nothing that was there turns but the reader.
-/
import Derived.Test.YtofnokikjfmfgaaBitsC
import Derived.Test.YtofnokikjfmfgaaClone
namespace Go.Proofs.Ytofnokikjfmfgaa
open Go.RowKit Go.Shelf Gf Bit
set_option maxRecDepth 100000
theorem ob_take : ∀ (l : List UInt8) (n : Nat), (ob l).take (8 * n) = ob (l.take n)
  | [], n => by simp [ob]
  | a :: l, 0 => by simp [ob]
  | a :: l, n + 1 => by
    rw [ob, List.take_succ_cons, ob, List.take_append, List.take_of_length_le (by rw [lb_length]; omega), lb_length, show 8 * (n + 1) - 8 = 8 * n by omega, ob_take l n]
theorem ob_drop : ∀ (l : List UInt8) (n : Nat), (ob l).drop (8 * n) = ob (l.drop n)
  | [], n => by simp [ob]
  | a :: l, 0 => by simp
  | a :: l, n + 1 => by
    rw [ob, List.drop_succ_cons, List.drop_append, List.drop_of_length_le (by rw [lb_length]; omega), lb_length, show 8 * (n + 1) - 8 = 8 * n by omega, List.nil_append, ob_drop l n]
/-- The next N bytes, from bit p on. -/
def nx (s : ByteArray) (p N : Nat) : List UInt8 := pack (((ob (ls s)).drop p).take (8 * N))
theorem nx_length {s : ByteArray} {p N : Nat} (h : p + 8 * N ≤ 8 * s.size) : (nx s p N).length = N := by
  unfold nx; rw [pack_length, List.length_take, List.length_drop, ob_length, ← ls_size]; omega
theorem nx_whole {s : ByteArray} {p N : Nat} (h8 : p % 8 = 0) : nx s p N = ((ls s).drop (p / 8)).take N := by
  unfold nx
  rw [show p = 8 * (p / 8) by omega, ob_drop, ob_take, pack_ob, show 8 * (p / 8) / 8 = p / 8 by omega]
theorem nx_get {s : ByteArray} {p N k : Nat} (h : p + 8 * N ≤ 8 * s.size) (hk : k < N) : un (num (((ob (ls s)).drop (p + 8 * k)).take 8)) = ((cf (nx s p N) k).toNat : Int) := by
  unfold nx un
  rw [cf_pack, byt_nat]
  have e : ((ob (ls s)).drop (p + 8 * k)).take 8 = (List.range 8).map fun i => bt (((ob (ls s)).drop p).take (8 * N)) (8 * k + i) := by
    refine list_ext_bt (by rw [List.length_take, List.length_drop, ob_length, ← ls_size, List.length_map, List.length_range]; omega) fun i hi => ?_
    rw [List.length_take] at hi
    have hi8 : i < 8 := by omega
    rw [bt_take hi8, bt_drop, bt_lt (L := (List.range 8).map _) (by rw [List.length_map, List.length_range]; exact hi8), List.getElem_map, List.getElem_range, bt_take (by omega), bt_drop, Nat.add_assoc]
  rw [e]
/-- The first k bytes, and bytes 0 behind them. -/
def mix (R : List UInt8) (k : Nat) : List UInt8 := R.take k ++ z8 (R.length - k)
theorem mix_zero (R : List UInt8) : mix R 0 = z8 R.length := rfl
theorem mix_all (R : List UInt8) : mix R R.length = R := by unfold mix; rw [List.take_length, Nat.sub_self]; exact List.append_nil _
theorem mix_length {R : List UInt8} {k : Nat} (h : k ≤ R.length) : (mix R k).length = R.length := by
  unfold mix z8; rw [List.length_append, List.length_take, List.length_replicate]; omega
theorem cf_mix {R : List UInt8} {k : Nat} (h : k ≤ R.length) (i : Nat) : cf (mix R k) i = if i < k then cf R i else 0 := by
  unfold mix cf z8
  rw [List.getD_eq_getElem?_getD, List.getElem?_append, List.length_take, Nat.min_eq_left h]
  by_cases hi : i < k
  · rw [if_pos hi, if_pos hi, List.getElem?_take_of_lt hi, List.getD_eq_getElem?_getD]
  · rw [if_neg hi, if_neg hi, List.getElem?_replicate]
    by_cases h2 : i - k < R.length - k <;> simp [h2]
theorem mix_set {R : List UInt8} {k : Nat} (h : k < R.length) : (mix R k).set k (cf R k) = mix R (k + 1) := by
  refine list_ext_cf (by rw [List.length_set, mix_length (by omega), mix_length (by omega)]) fun i _ => ?_
  rw [cf_set _ _ _ (by rw [mix_length (by omega)]; exact h), cf_mix (by omega), cf_mix (by omega)]
  by_cases e : i = k
  · subst e; rw [if_pos rfl, if_pos (by omega)]
  · rw [if_neg e]
    by_cases h2 : i < k
    · rw [if_pos h2, if_pos (by omega)]
    · rw [if_neg h2, if_neg (by omega)]
def txRel (w : World) (b g : Nat) (s : ByteArray) (p N : Nat) (R : List UInt8) (i : Value) (wr : World) : Prop := ∃ k : Nat, k ≤ N ∧ i = .int .i64 (k : Int) ∧ InAt b 0 s (p + 8 * k) wr ∧ Blk g (mix R k) wr ∧ Only b w wr
end Go.Proofs.Ytofnokikjfmfgaa
