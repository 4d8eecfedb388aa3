/-
  What Mul and Slope of package poly answer: for texts of up to a hundred thousand bytes; the memory that was there stays.
-/
import Derived.Test.YtachbccoehlcjaaPolyImpD
namespace Go.Proofs.Ytachbccoehlcjaa
open Go.RowKit Go.Shelf Gf

/-- What lies there behind n rounds of Mul. -/
def mulRow (N : Nat) (a b : List UInt8) (n : Nat) : List UInt8 := row N (fun i => sm n (fun m => if m ≤ i then fm (cf a m) (cf b (i - m)) else 0))
theorem mulRow_length (N : Nat) (a b : List UInt8) (n : Nat) : (mulRow N a b n).length = N := row_length _ _
theorem mulRow_zero (N : Nat) (a b : List UInt8) : mulRow N a b 0 = z8 N := by
  have hz : (z8 N).length = N := List.length_replicate
  refine list_ext_cf (by rw [mulRow_length, hz]) fun i hi => ?_
  rw [mulRow_length] at hi
  rw [mulRow, cf_row, if_pos hi, cf_lt (by rw [hz]; exact hi)]
  unfold z8; rw [List.getElem_replicate]; rfl
theorem mulRow_succ {N : Nat} {a b : List UInt8} {n k : Nat} (hk : k = b.length) : atRow (mulRow N a b n) n (cf a n) b k = mulRow N a b (n + 1) := by
  refine list_ext_cf (by rw [atRow_length, mulRow_length, mulRow_length]) fun i hi => ?_
  rw [atRow_length, mulRow_length] at hi
  rw [cf_atRow (by rw [mulRow_length]; exact hi), mulRow, cf_row, if_pos hi, mulRow, cf_row, if_pos hi]
  show _ = sm n _ ^^^ (if n ≤ i then fm (cf a n) (cf b (i - n)) else 0)
  congr 1
  by_cases h : n ≤ i
  · rw [if_pos h]
    by_cases h2 : i < n + k
    · rw [if_pos ⟨h, h2⟩]
    · rw [if_neg (by omega), cf_big (p := b) (by omega), fm_zero]
  · rw [if_neg (by omega), if_neg h]
theorem mulRow_full (a b : List UInt8) : trim (mulRow (a.length + b.length) a b a.length) = pmul a b := by
  have : mulRow (a.length + b.length) a b a.length = row (a.length + b.length) (conv (cf a) (cf b)) := by
    refine list_ext_cf (by rw [mulRow_length, row_length]) fun i hi => ?_
    rw [mulRow_length] at hi
    rw [mulRow, cf_row, if_pos hi, cf_row, if_pos hi]
    generalize hM : max a.length (i + 1) = M
    rw [← sm_more (n := a.length) (m := M) (by omega) (fun m h _ => by by_cases e : m ≤ i <;> simp [e, cf_big h, zero_fm]), conv]
    rw [sm_congr (f := fun m => fm (cf a m) (cf b (i - m))) (g := fun m => if m ≤ i then fm (cf a m) (cf b (i - m)) else 0) (fun m hm => by rw [if_pos (by omega)])]
    exact sm_more (n := i + 1) (m := M) (by omega) (fun m h _ => by rw [if_neg (by omega)])
  rw [this]; rfl
def mulRel (b : Nat) (N : Nat) (x y : List UInt8) (w : World) (i : Value) (wr : World) : Prop :=
  ∃ k : Nat, k ≤ x.length ∧ i = .int .i64 (k : Int) ∧ Blk b (mulRow N x y k) wr ∧ Only b w wr
/-- What lies there behind m rounds of Slope. -/
def slRow (p : List UInt8) (m : Nat) : List UInt8 := row p.length (fun i => if i < 2 * m then slope (cf p) i else 0)
theorem slRow_length (p : List UInt8) (m : Nat) : (slRow p m).length = p.length := row_length _ _
theorem slRow_zero (p : List UInt8) : slRow p 0 = z8 p.length := by
  have hz : (z8 p.length).length = p.length := List.length_replicate
  refine list_ext_cf (by rw [slRow_length, hz]) fun i hi => ?_
  rw [slRow_length] at hi
  rw [slRow, cf_row, if_pos hi, if_neg (by omega), cf_lt (by rw [hz]; exact hi)]
  unfold z8; rw [List.getElem_replicate]
theorem slRow_succ {p : List UInt8} {m : Nat} (h : 1 + 2 * m < p.length) : (slRow p m).set (2 * m) (cf p (1 + 2 * m)) = slRow p (m + 1) := by
  refine list_ext_cf (by rw [List.length_set, slRow_length, slRow_length]) fun i hi => ?_
  rw [List.length_set, slRow_length] at hi
  rw [cf_set _ _ _ (by rw [slRow_length]; omega), slRow, cf_row, if_pos hi, slRow, cf_row, if_pos hi]
  by_cases e : i = 2 * m
  · subst e
    rw [if_pos rfl, if_pos (by omega), slope, sc, if_pos (by omega), Nat.add_comm]
  · rw [if_neg e]
    by_cases e2 : i < 2 * m
    · rw [if_pos e2, if_pos (by omega)]
    · rw [if_neg e2]
      by_cases e3 : i < 2 * (m + 1)
      · rw [if_pos e3, slope, sc, if_neg (by omega)]
      · rw [if_neg e3]
theorem slRow_full {p : List UInt8} {m : Nat} (h : p.length ≤ 1 + 2 * m) : trim (slRow p m) = pslope p := by
  refine (trim_ext fun i => ?_).trans (pslope_trim p)
  rw [cf_pslope, slRow, cf_row]
  by_cases e : i < p.length
  · rw [if_pos e]
    by_cases e2 : i < 2 * m
    · rw [if_pos e2]
    · rw [if_neg e2, slope, cf_big (by omega)]; unfold sc; split <;> rfl
  · rw [if_neg e, slope, cf_big (by omega)]; unfold sc; split <;> rfl
def slRel (b : Nat) (p : List UInt8) (w : World) (i : Value) (wr : World) : Prop :=
  ∃ m : Nat, 2 * m ≤ p.length ∧ i = .int .i64 (1 + 2 * (m : Int)) ∧ Blk b (slRow p m) wr ∧ Only b w wr
end Go.Proofs.Ytachbccoehlcjaa
