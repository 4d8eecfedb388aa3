/-
  What the document's At, Slope and Roots answer, for texts of up to a billion bytes; the memory that was there stays.
-/
import Derived.Test.YtdlcloenihkkgaaPolyRef
namespace Go.Proofs.Ytdlcloenihkkgaa
open Go.RowKit Gf
set_option maxRecDepth 100000

def aRel (p : List UInt8) (x : UInt8) (out power i : Value) : Prop := ∃ k : Nat, k ≤ p.length ∧ out = .int .u8 ((ev k (cf p) x).toNat : Int) ∧ power = .int .u8 ((fpow x k).toNat : Int) ∧ i = .int .i64 k
/-- A loop that counts from 1 on. -/
def b1Rel (w : World) (n : Nat) (f : Nat → UInt8) (v i : Value) (wr : World) : Prop := ∃ k : Nat, k ≤ n ∧ i = .int .i64 ((k : Int) + 1) ∧ Own wr w.heap.size v (row k f) ∧ Keeps w wr
theorem b1Rel.next {w w2 : World} {n k : Nat} {f : Nat → UInt8} {v' : Value} {x : UInt8} (hk : k < n) (hx : f k = x) (ho : Own w2 w.heap.size v' (row k f ++ [x])) (hkp : Keeps w w2) :
    b1Rel w n f v' (.int .i64 ((k : Int) + 1 + 1)) w2 := by
  refine ⟨k + 1, by omega, by go_num, ?_, hkp⟩
  rw [row_succ, hx]; exact ho
def sRel8 (c : UInt8) (n : Nat) (x i : Value) : Prop := ∃ j : Nat, j ≤ n ∧ x = .int .u8 ((sc j c).toNat : Int) ∧ i = .int .i64 j
theorem sc_succ (j : Nat) (c : UInt8) : sc j c ^^^ c = sc (j + 1) c := by rw [sc_add]; rfl
/-- string([]byte{c, 1}), in new memory. -/
theorem text2 (w : World) (c d : UInt8) :
    (convert 34 9 (.slice (some ⟨w.heap.size, 0, none⟩) 2 2)).run Try.prog (w.alloc (.cells #[.int .u8 (c.toNat : Int), .int .u8 (d.toNat : Int)] 5)) =
      .ok (.string (st [c, d])) (w.alloc (.cells #[.int .u8 (c.toNat : Int), .int .u8 (d.toNat : Int)] 5)) := by
  have e := run_convert_bytes_arg (P := Try.prog) (w.alloc (.cells #[.int .u8 (c.toNat : Int), .int .u8 (d.toNat : Int)] 5)) 34 5 Try.underlying34 Try.underlying5 w.heap.size 0 2 2 [(c.toNat : Int), (d.toNat : Int)] rfl (fun i hi => by
    rw [World.cell?_alloc_new, Nat.zero_add]
    have : i = 0 ∨ i = 1 := by omega
    rcases this with rfl | rfl <;> rfl) 9 Try.underlying9
  rw [e]
  congr 2
  simp [strOfNums, st]
theorem text1 (w : World) (c : UInt8) :
    (convert 34 9 (.slice (some ⟨w.heap.size, 0, none⟩) 1 1)).run Try.prog (w.alloc (.cells #[.int .u8 (c.toNat : Int)] 5)) =
      .ok (.string (st [c])) (w.alloc (.cells #[.int .u8 (c.toNat : Int)] 5)) := by
  have e := run_convert_bytes_arg (P := Try.prog) (w.alloc (.cells #[.int .u8 (c.toNat : Int)] 5)) 34 5 Try.underlying34 Try.underlying5 w.heap.size 0 1 1 [(c.toNat : Int)] rfl (fun i hi => by
    rw [World.cell?_alloc_new, Nat.zero_add]
    have : i = 0 := by omega
    subst this; rfl) 9 Try.underlying9
  rw [e]
  congr 2
  simp [strOfNums, st]
def oRel (w : World) (l : List UInt8) (p i : Value) (wr : World) : Prop := ∃ (k : Nat) (q : ByteArray), k ≤ l.length ∧ i = .int .i64 k ∧ p = .string q ∧ ls q = proots (l.take k) ∧ Keeps w wr
theorem proots_next {l : List UInt8} {k : Nat} (h : k < l.length) : proots (l.take (k + 1)) = pmul (proots (l.take k)) [cf l k, 1] := by
  rw [List.take_succ_eq_append_getElem h, proots, List.foldl_append, cf_lt h]; rfl
end Go.Proofs.Ytdlcloenihkkgaa
