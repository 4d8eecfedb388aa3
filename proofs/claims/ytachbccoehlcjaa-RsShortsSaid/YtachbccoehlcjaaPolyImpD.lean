/-
  What Add and Mul of package poly answer: for texts of up to a hundred thousand bytes; the memory that was there stays.
-/
import Derived.Test.YtachbccoehlcjaaPolyImpC
namespace Go.Proofs.Ytachbccoehlcjaa
open Go.RowKit Go.Shelf Gf

def top (L : List ByteArray) : Nat := L.foldl (fun m p => max m p.size) 0
def sizeAt (L : List ByteArray) (i : Nat) : Nat := (L.getD i ⟨#[]⟩).size
theorem top_next {L : List ByteArray} {k : Nat} (h : k < L.length) : top (L.take (k + 1)) = max (top (L.take k)) (sizeAt L k) := by
  rw [List.take_succ_eq_append_getElem h, top, List.foldl_append]
  simp only [sizeAt, List.getD_eq_getElem?_getD, List.getElem?_eq_getElem h]; rfl
theorem top_le (L : List ByteArray) (M : Nat) (h : ∀ p ∈ L, p.size ≤ M) : top L ≤ M := by
  have : ∀ (L : List ByteArray) (m : Nat), m ≤ M → (∀ p ∈ L, p.size ≤ M) → L.foldl (fun m p => max m p.size) m ≤ M := by
    intro L
    induction L with
    | nil => intro m hm _; exact hm
    | cons p L ih => intro m hm h; exact ih _ (by have := h p (by simp); show max m p.size ≤ M; omega) fun q hq => h q (by simp [hq])
  exact this L 0 (by omega) h
theorem le_top {L : List ByteArray} {p : ByteArray} (h : p ∈ L) : p.size ≤ top L := by
  have mono : ∀ (L : List ByteArray) (m : Nat), m ≤ L.foldl (fun m p => max m p.size) m := by
    intro L
    induction L with
    | nil => intro m; exact Nat.le_refl _
    | cons p L ih => intro m; exact Nat.le_trans (by omega) (ih (max m p.size))
  have : ∀ (L : List ByteArray) (m : Nat), p ∈ L → p.size ≤ L.foldl (fun m p => max m p.size) m := by
    intro L
    induction L with
    | nil => intro m h; cases h
    | cons q L ih =>
      intro m h
      rcases List.mem_cons.1 h with rfl | h
      · exact Nat.le_trans (by omega) (mono L (max m p.size))
      · exact ih _ h
  exact this L 0 h
/-- A row of texts in memory. -/
def Txt (w : World) (g : Nat) (L : List ByteArray) : Prop := ∀ i, i < L.length → w.cell? ⟨g, i, none⟩ = some (.string (L.getD i ⟨#[]⟩))
def loRel (L : List ByteArray) (m i : Value) : Prop := ∃ k : Nat, k ≤ L.length ∧ m = .int .i64 (top (L.take k) : Int) ∧ i = .int .i64 (k : Int)
/-- The rows that Add goes through. -/
def addAll (l : List UInt8) (L : List ByteArray) : List UInt8 := L.foldl (fun l p => atRow l 0 1 (ls p) p.size) l
theorem addAll_length (L : List ByteArray) : ∀ l : List UInt8, (addAll l L).length = l.length := by
  induction L with
  | nil => intro l; rfl
  | cons p L ih => intro l; show (addAll _ L).length = _; rw [ih, atRow_length]
theorem addAll_next {l : List UInt8} {L : List ByteArray} {k : Nat} (h : k < L.length) : addAll l (L.take (k + 1)) = atRow (addAll l (L.take k)) 0 1 (ls (L.getD k ⟨#[]⟩)) (sizeAt L k) := by
  rw [List.take_succ_eq_append_getElem h, addAll, List.foldl_append]
  simp only [sizeAt, List.getD_eq_getElem?_getD, List.getElem?_eq_getElem h]; rfl
theorem cf_whole {l p : List UInt8} {n i : Nat} (hn : n = p.length) (hi : i < l.length) : cf (atRow l 0 1 p n) i = cf l i ^^^ cf p i := by
  rw [cf_atRow hi]
  by_cases h : i < n
  · rw [if_pos (by omega), one_fm, Nat.sub_zero]
  · rw [if_neg (by omega), cf_big (p := p) (by omega)]
def sumRel (b : Nat) (l : List UInt8) (L : List ByteArray) (w : World) (i : Value) (wr : World) : Prop :=
  ∃ k : Nat, k ≤ L.length ∧ i = .int .i64 (k : Int) ∧ Blk b (addAll l (L.take k)) wr ∧ Only b w wr
theorem Txt.only {w w' : World} {g b : Nat} {L : List ByteArray} (h : Txt w g L) (hg : g < w.heap.size) (hn : g ≠ b) (k : Only b w w') : Txt w' g L := fun i hi => (k.cell (p := ⟨g, i, none⟩) hg hn).trans (h i hi)
end Go.Proofs.Ytachbccoehlcjaa
