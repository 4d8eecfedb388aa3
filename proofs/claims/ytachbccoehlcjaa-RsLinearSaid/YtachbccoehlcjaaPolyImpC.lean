/-
  addTimes: what is added to a row of bytes. For all bytes; nothing turns but the row.
-/
import Derived.Test.YtachbccoehlcjaaGfK
import Derived.Test.YtachbccoehlcjaaPolyImpB
namespace Go.Proofs.Ytachbccoehlcjaa
open Go.RowKit Go.Shelf Gf
/-- What lies there behind k rounds of addTimes. -/
def atRow (l : List UInt8) (off : Nat) (c : UInt8) (p : List UInt8) (k : Nat) : List UInt8 := row l.length (fun i => cf l i ^^^ (if off ≤ i ∧ i < off + k then fm c (cf p (i - off)) else 0))
theorem atRow_length (l : List UInt8) (off : Nat) (c : UInt8) (p : List UInt8) (k : Nat) : (atRow l off c p k).length = l.length := row_length _ _
theorem cf_atRow {l : List UInt8} {off : Nat} {c : UInt8} {p : List UInt8} {k i : Nat} (hi : i < l.length) : cf (atRow l off c p k) i = cf l i ^^^ (if off ≤ i ∧ i < off + k then fm c (cf p (i - off)) else 0) := by
  unfold atRow; rw [cf_row, if_pos hi]
theorem atRow_zero (l : List UInt8) (off : Nat) (c : UInt8) (p : List UInt8) : atRow l off c p 0 = l :=
  list_ext_cf (atRow_length ..) fun i hi => by rw [atRow_length] at hi; rw [cf_atRow hi, if_neg (by omega), xor_z]
theorem atRow_succ {l : List UInt8} {off : Nat} {c : UInt8} {p : List UInt8} {k : Nat} (h : off + k < l.length) :
    (atRow l off c p k).set (off + k) (cf (atRow l off c p k) (off + k) ^^^ fm c (cf p k)) = atRow l off c p (k + 1) := by
  refine list_ext_cf (by rw [List.length_set, atRow_length, atRow_length]) fun i hi => ?_
  rw [List.length_set, atRow_length] at hi
  rw [cf_set _ _ _ (by rw [atRow_length]; exact h), cf_atRow hi]
  by_cases e : i = off + k
  · subst e
    rw [if_pos rfl, cf_atRow h, if_neg (by omega), cf_atRow h, if_pos (by omega), xor_z, show off + k - off = k by omega]
  · rw [if_neg e, cf_atRow hi]
    by_cases e2 : off ≤ i ∧ i < off + k
    · rw [if_pos e2, if_pos (by omega)]
    · rw [if_neg e2, if_neg (by omega)]
def tiRel (b : Nat) (l : List UInt8) (off : Nat) (c : UInt8) (p : List UInt8) (w : World) (i : Value) (wr : World) : Prop :=
  ∃ k : Nat, k ≤ p.length ∧ i = .int .i64 (k : Int) ∧ Blk b (atRow l off c p k) wr ∧ Only b w wr
end Go.Proofs.Ytachbccoehlcjaa
