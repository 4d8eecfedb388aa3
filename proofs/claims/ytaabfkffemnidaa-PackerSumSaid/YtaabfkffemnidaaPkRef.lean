/-
  What the document's Check, Bytes, Decode and Find of packets answer, and the law's own bytes. The memory that was there stays.
-/
import Derived.Test.YtaabfkffemnidaaPkV
namespace Go.Proofs.Ytaabfkffemnidaa
open Go.RowKit Gf Pk
set_option maxRecDepth 100000
/-- n bytes of one. -/
def byN (n : Nat) (b : UInt8) : List UInt8 := List.replicate n b
theorem byN_length (n : Nat) (b : UInt8) : (byN n b).length = n := List.length_replicate
theorem cf_byN {n i : Nat} (b : UInt8) (h : i < n) : cf (byN n b) i = b := by
  rw [cf_lt (by rw [byN_length]; exact h)]; simp [byN]
def byRel (wA : World) (rb n : Nat) (b : UInt8) (i : Value) (wr : World) : Prop := ∃ (k : Nat) (l : List UInt8), k ≤ n ∧ i = .int .i64 (k : Int) ∧ l.length = n ∧ (∀ j, j < k → cf l j = b) ∧ Blk rb l wr ∧ Only rb wA wr
/-- The document's Check. -/
def PkkPost (w0 : World) (p : Pkt) (e : Ending) (w' : World) : Prop := e = .returned (.int .i64 (ckP p)) ∧ Keeps w0 w'
theorem PkkPost.of {w0 W : World} {p : Pkt} {n : Int} (e : ckP p = n) (k : Keeps w0 W) : PkkPost w0 p (.returned (.int .i64 n)) W := ⟨by rw [e], k⟩
theorem own_lit8 (w : World) (base : Nat) (l : List UInt8) (cs : Array Value) (hc : (l.map B).toArray = cs) {n : Nat} (hn : l.length = n) (h : n ≤ 1000000) (hb : base ≤ w.heap.size) {H : Nat} (hH : w.heap.size = H) : Own (w.alloc (.cells cs 5)) base (.slice (some ⟨H, 0, none⟩) n n) l := by
  subst hH; subst hc; subst hn
  unfold Own
  have e : l.map B = (l.map B).toArray.toList := rfl
  rw [e]
  exact World.ownsRow_lit w _ l.length hb (by unfold maxLen; omega) (by simp)
/-- 'v = append(v, y)', y a constant or a byte. -/
theorem wp_push8v {ops : Array Oper} {rest : List Oper} {o : Oper} {a : Act} {Q : Exit → Act → World → Prop} {wr : World} (hgd : o.guard = none) (s x : Operand)
    (ho : o.op = .call { callee := .builtin .append, args := #[s, x], argTypes := #[53, 53] }) {w0 : World} {v : Value} {l : List UInt8} (y : UInt8) {yv : Value} (hyv : yv = B y) (H : Nat) (hH : wr.heap.size = H) (hown : Own wr w0.heap.size v l)
    (hs : a.eval s = v) (hx : a.eval x = .slice (some ⟨H, 0, none⟩) 1 1) (hl : l.length ≤ 1000000000) (hk : Keeps w0 wr)
    (h : ∀ v' w', Own w' w0.heap.size v' (l ++ [y]) → Keeps w0 w' → wpList Try.prog ops Q rest (a.put o.dst v') w') :
    wpList Try.prog ops Q (o :: rest) a (wr.alloc (.cells #[yv] 5)) := by
  subst hyv
  subst hH
  exact wp_push8 hgd s x ho y hown hs hx hl hk h
theorem fil_next (n k : Nat) (h : k < n) : (fil n).take k ++ [if k = 0 then 0 else 255] = (fil n).take (k + 1) := by
  unfold fil
  rw [List.take_add_one, List.getElem?_map, List.getElem?_range h]; rfl
def pkbRel (w0 : World) (L : List UInt8) (n : Nat) (v i : Value) (wr : World) : Prop := ∃ k : Nat, k ≤ n ∧ i = .int .i64 (k : Int) ∧ Own wr w0.heap.size v (L ++ (fil n).take k) ∧ Keeps w0 wr
def PkdPost (w0 : World) (r : Pkt × Int) (e : Ending) (w' : World) : Prop := e = .returned (.tuple #[pkV r.1, .int .i64 r.2]) ∧ Keeps w0 w'
theorem PkdPost.of {w0 W : World} {r : Pkt × Int} {p : Pkt} {n : Int} (e : r = (p, n)) (k : Keeps w0 W) : PkdPost w0 r (.returned (.tuple #[pkV p, .int .i64 n])) W := by rw [e]; exact ⟨rfl, k⟩
theorem pk_nums {l : List UInt8} {x1 x2 x3 : UInt8} {b : ByteArray} (e1 : cf l 1 = x1) (e2 : cf l 2 = x2) (e3 : cf l 3 = x3) (eB : st (l.drop (frm l)) = b) : dcP l = ⟨(x1.toNat : Int) % 32 * 256 + (x2.toNat : Int), (x1.toNat : Int) / 64 % 2 == 1, (x3.toNat : Int) % 16, (x1.toNat : Int) / 128 == 1, b⟩ := by
  unfold dcP
  rw [e1, e2, e3, eB]
  have b1 : decide (x1.toNat / 64 % 2 = 1) = ((x1.toNat : Int) / 64 % 2 == 1) := by
    by_cases h : x1.toNat / 64 % 2 = 1
    · rw [decide_eq_true h]; symm; rw [beq_iff_eq]; omega
    · rw [decide_eq_false h]; symm; rw [beq_eq_false_iff_ne]; omega
  have b2 : decide (x1.toNat / 128 = 1) = ((x1.toNat : Int) / 128 == 1) := by
    by_cases h : x1.toNat / 128 = 1
    · rw [decide_eq_true h]; symm; rw [beq_iff_eq]; omega
    · rw [decide_eq_false h]; symm; rw [beq_eq_false_iff_ne]; omega
  rw [b1, b2]
  congr 1
theorem fdR_some {l : List UInt8} {a : Nat} (h : isFind l (some a)) : fdR l = (a : Int) := by unfold fdR; rw [fnd_eq h]
theorem fdR_none {l : List UInt8} (h : isFind l none) : fdR l = -1 := by unfold fdR; rw [fnd_eq h]
def fdOut (l : List UInt8) (a : Value) : Prop := ∃ k : Nat, k ≤ 188 ∧ k ≤ l.length ∧ a = .int .i64 (k : Int) ∧ noneB l k
def fdIn (l : List UInt8) (k : Nat) (r i : Value) : Prop := ∃ (n : Nat) (t : Bool), k + 188 * n ≤ l.length + 187 ∧ i = .int .i64 ((k + 188 * n : Nat) : Int) ∧ r = .bool t ∧ (t = true ↔ upto l k n)
end Go.Proofs.Ytaabfkffemnidaa
