/-
  Bytes 0 in new memory; rows of bytes that a call writes in place: what they hold, and that nothing else turns. For all bytes.
-/
import Derived.Test.YthaiamagdifhjaaDraw
import Derived.Test.YthaiamagdifhjaaStr
namespace Go.Proofs.Ythaiamagdifhjaa
open Go.RowKit Gf
/-- n bytes 0. -/
def z8 (n : Nat) : List UInt8 := List.replicate n 0
/-- n zero bytes in new memory. -/
def zr (n : Nat) : Array Value := madeCells #[.int .u8 0] n
theorem zr_toList (n : Nat) : (zr n).toList = (z8 n).map B := by
  unfold zr z8; rw [toList_madeCells_one, List.map_replicate]; rfl
theorem make8 (n : Nat) (h : n ≤ 1000000) (w : World) :
    (Instr.makeSlice 35 (.int .i64 (n : Int)) (.int .i64 (n : Int))).run Try.prog w = .ok (.slice (some ⟨w.heap.size, 0, none⟩) n n) (w.alloc (.cells (zr n) 5)) := by
  obtain ⟨i0, hi, hz0, hz1, hz2⟩ := info_parts info8
  have hr := run_make (P := Try.prog) w 35 5 i0 (.int .u8 0) Try.underlying35 hi hz0 .i64 .i64 n n (by omega) (Int.le_refl _) (by rw [hz2]; omega) (by omega)
  simp only [Int.toNat_natCast, hz1, Nat.mul_one] at hr
  exact hr
theorem own_zr (w : World) (n : Nat) (h : n ≤ 1000000) : Own (w.alloc (.cells (zr n) 5)) w.heap.size (.slice (some ⟨w.heap.size, 0, none⟩) n n) (z8 n) := by
  unfold Own
  rw [show (z8 n).length = n from List.length_replicate, ← zr_toList]
  exact World.ownsRow_lit w _ n (Nat.le_refl _) (by unfold maxLen; omega) (by unfold zr; rw [size_madeCells, Nat.mul_one])
theorem text_zr (w : World) (n : Nat) (h : n ≤ 1000000) :
    (convert 35 9 (.slice (some ⟨w.heap.size, 0, none⟩) n n)).run Try.prog (w.alloc (.cells (zr n) 5)) = .ok (.string (st (z8 n))) (w.alloc (.cells (zr n) 5)) := (own_zr w n h).text
/-- Nothing that was there in w has turned but block b. -/
structure Only (b : Nat) (w w' : World) : Prop where
  os : w'.os = w.os
  tape : w'.tape = w.tape
  output : w'.output = w.output
  size : w.heap.size ≤ w'.heap.size
  block : ∀ k, k < w.heap.size → k ≠ b → w'.heap[k]? = w.heap[k]?
theorem Only.refl (b : Nat) (w : World) : Only b w w := ⟨rfl, rfl, rfl, Nat.le_refl _, fun _ _ _ => rfl⟩
theorem Only.trans {b : Nat} {w w' w'' : World} (h : Only b w w') (k : Only b w' w'') : Only b w w'' :=
  ⟨k.os.trans h.os, k.tape.trans h.tape, k.output.trans h.output, Nat.le_trans h.size k.size, fun i hi hn => (k.block i (Nat.lt_of_lt_of_le hi h.size) hn).trans (h.block i hi hn)⟩
theorem Only.eqv {b : Nat} {w w' : World} (h : Eqv w w') : Only b w w' := ⟨h.os, h.tape, h.output, by rw [h.heap]; exact Nat.le_refl _, fun _ _ _ => by rw [h.heap]⟩
theorem Only.alloc (b : Nat) (w : World) (o : Obj) : Only b w (w.alloc o) := ⟨rfl, rfl, rfl, by simp, fun k hk _ => Below.heap_alloc w o k hk⟩
theorem Only.setCell (w : World) (p : Addr) (v : Value) : Only p.block w (w.setCell p v) :=
  ⟨rfl, rfl, rfl, by simp [World.setCell], fun k _ hn => Below.heap_setCell w p v k hn⟩
theorem Only.below {b : Nat} {w w' : World} (h : Below w.heap.size w w') : Only b w w' := ⟨h.os, h.tape, h.output, h.size, fun k hk _ => h.block k hk⟩
theorem Only.keeps {b : Nat} {w0 w w' : World} (h : Only b w w') (hk : Keeps w0 w) (hb : w0.heap.size ≤ b) : Keeps w0 w' :=
  Below.trans hk ⟨h.os, h.tape, h.output, h.size, fun k hlt => h.block k (Nat.lt_of_lt_of_le hlt (Below.size hk)) (by omega)⟩
theorem Only.cell {b : Nat} {w w' : World} (h : Only b w w') {p : Addr} (hp : p.block < w.heap.size) (hn : p.block ≠ b) : w'.cell? p = w.cell? p := World.cell?_of_block (w := w) (h.block p.block hp hn)
theorem Only.frozen {b : Nat} {w w' : World} (h : Only b w w') {p : Addr} (hp : p.block < w.heap.size) (hn : p.block ≠ b) : w'.frozen? p = w.frozen? p := World.frozen?_of_block (w := w) (h.block p.block hp hn)
/-- Block b begins with the bytes l, and they may be written. -/
structure Blk (b : Nat) (l : List UInt8) (w : World) : Prop where
  old : b < w.heap.size
  cell : ∀ i, i < l.length → w.cell? ⟨b, i, none⟩ = some (.int .u8 ((cf l i).toNat : Int))
  free : ∀ i, i < l.length → w.frozen? ⟨b, i, none⟩ = false
theorem Blk.only {b c : Nat} {l : List UInt8} {w w' : World} (h : Blk b l w) (hn : b ≠ c) (k : Only c w w') : Blk b l w' :=
  ⟨Nat.lt_of_lt_of_le h.old k.size, fun i hi => (k.cell (p := ⟨b, i, none⟩) h.old hn).trans (h.cell i hi), fun i hi => (k.frozen (p := ⟨b, i, none⟩) h.old hn).trans (h.free i hi)⟩
theorem Blk.eqv {b : Nat} {l : List UInt8} {w w' : World} (h : Blk b l w) (k : Eqv w w') : Blk b l w' :=
  ⟨by rw [k.size]; exact h.old, fun i hi => (k.cell _).trans (h.cell i hi), fun i hi => (k.frozen _).trans (h.free i hi)⟩
theorem Blk.below {b : Nat} {l : List UInt8} {w w' : World} (h : Blk b l w) (k : Below w.heap.size w w') : Blk b l w' :=
  ⟨Nat.lt_of_lt_of_le h.old k.size, fun i hi => (k.cell (p := ⟨b, i, none⟩) h.old).trans (h.cell i hi), fun i hi => (k.frozen (p := ⟨b, i, none⟩) h.old).trans (h.free i hi)⟩
theorem cf_set (l : List UInt8) (k : Nat) (y : UInt8) (hk : k < l.length) (i : Nat) : cf (l.set k y) i = if i = k then y else cf l i := by
  unfold cf
  rw [List.getD_eq_getElem?_getD, List.getD_eq_getElem?_getD, List.getElem?_set]
  by_cases h : k = i
  · subst h; simp [hk]
  · have : ¬ i = k := fun e => h e.symm
    simp [h, this]
theorem Blk.set {b : Nat} {l : List UInt8} {w : World} (h : Blk b l w) {k : Nat} (hk : k < l.length) (y : UInt8) : Blk b (l.set k y) (w.setCell ⟨b, k, none⟩ (.int .u8 (y.toNat : Int))) := by
  refine ⟨by simpa [World.setCell] using h.old, fun i hi => ?_, fun i hi => ?_⟩
  · rw [List.length_set] at hi
    rw [cf_set l k y hk]
    by_cases e : i = k
    · subst e; rw [if_pos rfl]; exact World.cell?_setCell_same _ _ _ (h.cell i hi)
    · rw [if_neg e, World.cell?_setCell_other _ _ _ _ (by intro x; exact e (congrArg Addr.off x).symm)]; exact h.cell i hi
  · rw [List.length_set] at hi
    simp [h.free i hi]
theorem list_ext_cf {p q : List UInt8} (hl : p.length = q.length) (h : ∀ i, i < p.length → cf p i = cf q i) : p = q :=
  List.ext_getElem hl fun i h1 h2 => by rw [← cf_lt h1, ← cf_lt h2]; exact h i h1
theorem FieldAt.only {fb b : Nat} {w w' : World} (h : FieldAt fb w) (hn : fb ≠ b) (k : Only b w w') : FieldAt fb w' :=
  ⟨Nat.lt_of_lt_of_le h.old k.size, fun i hi => by rw [k.cell (p := ⟨fb, i, none⟩) h.old hn]; exact h.ex i hi, fun a h1 h2 => by rw [k.cell (p := ⟨fb, 510 + a, none⟩) h.old hn]; exact h.lg a h1 h2⟩
theorem Blk.make (w : World) (n : Nat) : Blk w.heap.size (z8 n) (w.alloc (.cells (zr n) 5)) := by
  have hz : (z8 n).length = n := List.length_replicate
  refine ⟨by simp, fun i hi => ?_, fun i _ => World.frozen?_alloc_new _ _ _ _⟩
  rw [World.cell?_alloc_new]
  have h1 : (zr n).toList[i]? = ((z8 n).map B)[i]? := by rw [zr_toList]
  rw [Array.getElem?_toList] at h1
  rw [h1, List.getElem?_map, List.getElem?_eq_getElem hi, cf_lt hi]; rfl
theorem Blk.text {b : Nat} {l : List UInt8} {w : World} (h : Blk b l w) (len cap : Nat) (hl : len ≤ l.length) :
    (convert 35 9 (.slice (some ⟨b, 0, none⟩) len cap)).run Try.prog w = .ok (.string (st (l.take len))) w := by
  have e := run_convert_bytes_arg (P := Try.prog) w 35 5 Try.underlying35 Try.underlying5 b 0 len cap ((l.take len).map fun x => (x.toNat : Int)) (by simp; omega) (fun i hi => by
      show w.cell? ⟨b, 0 + i, none⟩ = _
      rw [Nat.zero_add, h.cell i (by omega), List.getD_eq_getElem?_getD, List.getElem?_map, List.getElem?_take_of_lt hi, List.getElem?_eq_getElem (by omega), cf_lt (by omega)]; rfl) 9 Try.underlying9
  rw [e]
  have hs : strOfNums ((l.take len).map fun x => (x.toNat : Int)) = st (l.take len) := by
    simp only [strOfNums, st, List.map_map]
    congr 2
    have : ((fun n : Int => UInt8.ofNat n.toNat) ∘ fun x : UInt8 => (x.toNat : Int)) = id := by
      funext x; simp
    rw [this, List.map_id]
  rw [hs]
theorem Blk.whole {b : Nat} {l : List UInt8} {w : World} (h : Blk b l w) (cap : Nat) {n : Nat} (hn : n = l.length) :
    (convert 35 9 (.slice (some ⟨b, 0, none⟩) n cap)).run Try.prog w = .ok (.string (st l)) w := by
  subst hn
  have := h.text l.length cap (Nat.le_refl _)
  rwa [List.take_length] at this
end Go.Proofs.Ythaiamagdifhjaa
