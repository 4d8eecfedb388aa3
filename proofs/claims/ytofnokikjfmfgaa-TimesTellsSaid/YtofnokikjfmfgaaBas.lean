/-
  Texts and rows of bytes in memory, as lists of bytes; rows that a call makes and writes in place: what they hold, and that nothing else turns. For all bytes.
-/
import Derived.Test.YtofnokikjfmfgaaChecked
import Derived.Test.YtofnokikjfmfgaaCf
import Derived.WalkKit
import Derived.ProofKit
import Derived.Below
import Derived.Lib.Hide
import Derived.Laws.BitsAllLaws
import Derived.RegionTactic
import Derived.ChangeAlike
import Derived.Deep.Draws
import Derived.Deep.QuietTactic
import Derived.BigQuiet
import Derived.WalkSmall
import Derived.Laws.BytesArg
import Derived.OwnWalk
import Derived.WalkSpells
import Derived.Maps.AppendAt
import Derived.Lib.AtoiErrMem
import Derived.RangeFuncOwn
import Derived.Deep.MidRow
import Derived.Test.YtofnokikjfmfgaaDraw
namespace Go.Proofs.Ytofnokikjfmfgaa
open Go.RowKit Gf
set_option maxRecDepth 100000
theorem ret_int {k : IntKind} {a b : Int} (h : a = b) : Ending.returned (.int k a) = .returned (.int k b) := by rw [h]

theorem set_same {W : World} {a : Addr} {v u : Value} (h : W.cell? a = some u) : (W.setCell a v).cell? a = some v := World.cell?_setCell_same _ _ _ h
theorem set_other {W : World} {b i j : Nat} {v : Value} (h : i ≠ j) : (W.setCell ⟨b, i, none⟩ v).cell? ⟨b, j, none⟩ = W.cell? ⟨b, j, none⟩ :=
  World.cell?_setCell_other _ _ _ _ (by intro e; exact h (congrArg Addr.off e))
theorem bcell {W w1 : World} (hb : Below W.heap.size W w1) : ∀ b o, b < W.heap.size → w1.cell? ⟨b, o, none⟩ = W.cell? ⟨b, o, none⟩ :=
  fun b o h => hb.cell (p := ⟨b, o, none⟩) h
theorem quiet_eq {P : Program} {f : FuncId} {args : Array Value} {w : World} {n : Nat} {v u : Value} (hv : v = u)
    (h : Calls P f args (w.drewN n) fun e w' => e = .returned v ∧ w.drewN n = w') : Calls P f args (w.drewN n) fun e w' => e = .returned u ∧ ∃ m, w' = w.drewN m :=
  h.mono fun _ _ h => ⟨by rw [h.1, hv], n, h.2.symm⟩
theorem vint {k : IntKind} {a b : Int} (h : a = b) : Value.int k a = .int k b := by rw [h]
/-- Nothing that was there in w0 has turned. -/
def Keeps (w0 w : World) : Prop := Below w0.heap.size w0 w
theorem Keeps.refl (w : World) : Keeps w w := Below.refl _ _
theorem Keeps.alloc {w0 w : World} (h : Keeps w0 w) (o : Obj) : Keeps w0 (w.alloc o) := Below.alloc h (Below.size h) o
theorem Keeps.trans {w0 w w' : World} (h : Keeps w0 w) (k : Below w.heap.size w w') : Keeps w0 w' := Below.trans h (k.mono (Below.size h))
/-- A text's bytes; and the text of bytes. -/
def ls (s : ByteArray) : List UInt8 := s.data.toList
def st (l : List UInt8) : ByteArray := ⟨l.toArray⟩
theorem ls_st (l : List UInt8) : ls (st l) = l := rfl
theorem st_ls (s : ByteArray) : st (ls s) = s := by cases s; simp [st, ls]
theorem ls_size (s : ByteArray) : s.size = (ls s).length := Array.length_toList.symm
theorem st_size (l : List UInt8) : (st l).size = l.length := by simp [st, ByteArray.size]
theorem st_toList (l : List UInt8) : (st l).toList = l := ByteArray.toList_mk l
theorem ls_toList (s : ByteArray) : s.toList = ls s := by rw [← st_ls s, st_toList, ls_st]
theorem ls_get (s : ByteArray) (k : Nat) (h : k < s.size) : s[k] = cf (ls s) k := by
  rw [cf_lt (by rw [← ls_size]; exact h)]; rfl
/-- A byte as Go's number. -/
def B (x : UInt8) : Value := .int .u8 (x.toNat : Int)
theorem u8_bd (a : UInt8) : 0 ≤ (a.toNat : Int) ∧ (a.toNat : Int) ≤ 255 := by have := a.toNat_lt; omega
/-- The slice v is a row of the call's own (from block 'base' on) that holds the bytes l. -/
def Own (w : World) (base : Nat) (v : Value) (l : List UInt8) : Prop := w.ownsRow base 5 1 v l.length (l.map B)
theorem Own.nil (w : World) (base : Nat) : Own w base (.slice none 0 0) [] := World.ownsRow_nil _ _ _ _
theorem info8 : (Try.prog.info? 5).map (fun i => (i.zero, i.size, i.bytes)) = some (some (.int .u8 0), 1, 1) := by kernel_rfl
/-- string(v), v such a row. -/
theorem Own.text {w : World} {base : Nat} {v : Value} {l : List UInt8} (h : Own w base v l) :
    (convert 44 9 v).run Try.prog w = .ok (.string (st l)) w := by
  obtain ⟨hl, h⟩ := h
  rcases h with ⟨rfl, h0⟩ | ⟨g, cap, cur, rfl, hb, hh, hn, hc, hsz, htake⟩
  · have : l = [] := List.length_eq_zero_iff.1 h0
    subst this
    rw [run_convert_bytes_string w _ _ _ _ _ _ Try.underlying44 Try.underlying5 Try.underlying9]
    rfl
  · have e := run_convert_bytes_arg (P := Try.prog) w 44 5 Try.underlying44 Try.underlying5 g 0 l.length cap (l.map fun x => (x.toNat : Int)) (by simp) (fun i hi => by
      have h1 : cur.toList[i]? = some (B (cf l i)) := by
        have h2 : (cur.toList.take (l.length * 1))[i]? = (l.map B)[i]? := by rw [htake]
        rw [List.getElem?_take_of_lt (by omega)] at h2
        rw [h2, List.getElem?_map, List.getElem?_eq_getElem hi, cf_lt hi]; rfl
      have h3 : cur[i]? = some (B (cf l i)) := by rw [← Array.getElem?_toList]; exact h1
      show w.cell? ⟨g, 0 + i, none⟩ = _
      rw [Nat.zero_add]
      have h4 : w.cell? ⟨g, i, none⟩ = cur[i]? := by simp [World.cell?, hh]
      rw [h4, h3, List.getD_eq_getElem?_getD, List.getElem?_map, List.getElem?_eq_getElem hi, cf_lt hi]; rfl) 9 Try.underlying9
    rw [e]
    have hs : strOfNums (l.map fun x => (x.toNat : Int)) = st l := by
      simp only [strOfNums, st, List.map_map]
      congr 2
      have : ((fun n : Int => UInt8.ofNat n.toNat) ∘ fun x : UInt8 => (x.toNat : Int)) = id := by
        funext x; simp
      rw [this, List.map_id]
    rw [hs]
theorem Own.block {w : World} {base : Nat} {v : Value} {l : List UInt8} (h : Own w base v l) : ∀ k, v.ownBlock = some k → base ≤ k := by
  intro k hk
  obtain ⟨_, h⟩ := h
  rcases h with ⟨rfl, _⟩ | ⟨g, cap, cur, rfl, hb, _⟩
  · simp [Value.ownBlock] at hk
  · simp [Value.ownBlock] at hk; omega
/-- What is owned stays owned where everything that was there stays. -/
theorem Own.kept {w0 wr w1 : World} {v : Value} {l : List UInt8} (h : Own wr w0.heap.size v l) (_hk : Keeps w0 wr) (k : Keeps wr w1) : Own w1 w0.heap.size v l := by
  obtain ⟨hl, h⟩ := h
  refine ⟨hl, ?_⟩
  rcases h with h | ⟨g, cap, cur, hv, hb, hh, hn, hc, hsz, ht⟩
  · exact Or.inl h
  · have hg : g < wr.heap.size := (Array.getElem?_eq_some_iff.1 hh).1
    exact Or.inr ⟨g, cap, cur, hv, hb, (Below.block k g hg).trans hh, hn, hc, hsz, ht⟩
/-- 'v = append(v, y)', v a row of the call's own (of what was made since w0). -/
theorem wp_push8 {ops : Array Oper} {rest : List Oper} {o : Oper} {a : Act} {Q : Exit → Act → World → Prop} {wr : World} (hgd : o.guard = none) (s x : Operand)
    (ho : o.op = .call { callee := .builtin .append, args := #[s, x], argTypes := #[44, 44] }) {w0 : World} {v : Value} {l : List UInt8} (y : UInt8) (hown : Own wr w0.heap.size v l)
    (hs : a.eval s = v) (hx : a.eval x = .slice (some ⟨wr.heap.size, 0, none⟩) 1 1) (hl : l.length ≤ 1000000000) (hk : Keeps w0 wr)
    (h : ∀ v' w', Own w' w0.heap.size v' (l ++ [y]) → Keeps w0 w' → wpList Try.prog ops Q rest (a.put o.dst v') w') :
    wpList Try.prog ops Q (o :: rest) a (wr.alloc (.cells #[.int .u8 (y.toNat : Int)] 5)) := by
  obtain ⟨i0, hi, hz0, hz1, hz2⟩ := info_parts info8
  have hsz := Below.size hk
  have hown0 : wr.ownsRow w0.heap.size 5 1 v l.length (l.map B) := hown
  refine wpList_append_own _ hgd s x 44 ho w0.heap.size 5 i0 (.int .u8 0) 1 1 Try.underlying44 hi hz0 hz1 hz2 rfl (by decide) v l.length (l.map B) hs (hown0.alloc _)
    ⟨wr.heap.size, 0, none⟩ 1 1 [B y] hx rfl ?_ ?_ ?_ ?_ ?_ ?_
  · intro j u hj
    match j, hj with
    | 0, hj => simp at hj; subst hj; simp [Addr.add, B]
  · intro u hu; simp at hu; subst hu; rfl
  · unfold maxLen; omega
  · omega
  · simp; omega
  · intro v' w' h1 h2 _
    refine h v' w' ?_ ?_
    · unfold Own; rw [List.length_append, List.map_append]; exact h1
    · exact Below.grown (Below.alloc hk hsz _) h2 (by simp; omega) hown.block
/-- n bytes 0. -/
def z8 (n : Nat) : List UInt8 := List.replicate n 0
/-- n zero bytes in new memory. -/
def zr (n : Nat) : Array Value := madeCells #[.int .u8 0] n
theorem zr_toList (n : Nat) : (zr n).toList = (z8 n).map B := by
  unfold zr z8; rw [toList_madeCells_one, List.map_replicate]; rfl
theorem make8 (n : Nat) (h : n ≤ 1000000) (w : World) :
    (Instr.makeSlice 44 (.int .i64 (n : Int)) (.int .i64 (n : Int))).run Try.prog w = .ok (.slice (some ⟨w.heap.size, 0, none⟩) n n) (w.alloc (.cells (zr n) 5)) := by
  obtain ⟨i0, hi, hz0, hz1, hz2⟩ := info_parts info8
  have hr := run_make (P := Try.prog) w 44 5 i0 (.int .u8 0) Try.underlying44 hi hz0 .i64 .i64 n n (by omega) (Int.le_refl _) (by rw [hz2]; omega) (by omega)
  simp only [Int.toNat_natCast, hz1, Nat.mul_one] at hr
  exact hr
theorem own_zr (w : World) (n : Nat) (h : n ≤ 1000000) : Own (w.alloc (.cells (zr n) 5)) w.heap.size (.slice (some ⟨w.heap.size, 0, none⟩) n n) (z8 n) := by
  unfold Own
  rw [show (z8 n).length = n from List.length_replicate, ← zr_toList]
  exact World.ownsRow_lit w _ n (Nat.le_refl _) (by unfold maxLen; omega) (by unfold zr; rw [size_madeCells, Nat.mul_one])
theorem text_zr (w : World) (n : Nat) (h : n ≤ 1000000) :
    (convert 44 9 (.slice (some ⟨w.heap.size, 0, none⟩) n n)).run Try.prog (w.alloc (.cells (zr n) 5)) = .ok (.string (st (z8 n))) (w.alloc (.cells (zr n) 5)) := (own_zr w n h).text
/-- Nothing that was there in w has turned but block b. -/
structure Only (b : Nat) (w w' : World) : Prop where
  os : w'.os = w.os
  tape : w'.tape = w.tape
  output : w'.output = w.output
  size : w.heap.size ≤ w'.heap.size
  block : ∀ k, k < w.heap.size → k ≠ b → w'.heap[k]? = w.heap[k]?
theorem Only.refl (b : Nat) (w : World) : Only b w w := ⟨rfl, rfl, rfl, Nat.le_refl _, fun _ _ _ => rfl⟩
theorem Only.trans {b : Nat} {w w' w'' : World} (h : Only b w w') (k : Only b w' w'') : Only b w w'' :=
  ⟨k.os.trans h.os, k.tape.trans h.tape, k.output.trans h.output, Nat.le_trans h.size k.size, fun i hi hn => (k.block i (Nat.lt_of_lt_of_le hi h.size) hn).trans (h.block i hi hn)⟩
theorem Only.eqv {b : Nat} {w w' : World} (h : Eqv w w') : Only b w w' := ⟨h.os, h.tape, h.output, by rw [h.heap]; exact Nat.le_refl _, fun _ _ _ => by rw [h.heap]⟩
theorem Only.alloc (b : Nat) (w : World) (o : Obj) : Only b w (w.alloc o) := ⟨rfl, rfl, rfl, by simp, fun k hk _ => Below.heap_alloc w o k hk⟩
theorem Only.setCell (w : World) (p : Addr) (v : Value) : Only p.block w (w.setCell p v) :=
  ⟨rfl, rfl, rfl, by simp [World.setCell], fun k _ hn => Below.heap_setCell w p v k hn⟩
theorem Only.below {b : Nat} {w w' : World} (h : Below w.heap.size w w') : Only b w w' := ⟨h.os, h.tape, h.output, h.size, fun k hk _ => h.block k hk⟩
theorem Only.keeps {b : Nat} {w0 w w' : World} (h : Only b w w') (hk : Keeps w0 w) (hb : w0.heap.size ≤ b) : Keeps w0 w' :=
  Below.trans hk ⟨h.os, h.tape, h.output, h.size, fun k hlt => h.block k (Nat.lt_of_lt_of_le hlt (Below.size hk)) (by omega)⟩
theorem Only.cell {b : Nat} {w w' : World} (h : Only b w w') {p : Addr} (hp : p.block < w.heap.size) (hn : p.block ≠ b) : w'.cell? p = w.cell? p := World.cell?_of_block (w := w) (h.block p.block hp hn)
theorem Only.frozen {b : Nat} {w w' : World} (h : Only b w w') {p : Addr} (hp : p.block < w.heap.size) (hn : p.block ≠ b) : w'.frozen? p = w.frozen? p := World.frozen?_of_block (w := w) (h.block p.block hp hn)
/-- Block b begins with the bytes l, and they may be written. -/
structure Blk (b : Nat) (l : List UInt8) (w : World) : Prop where
  old : b < w.heap.size
  cell : ∀ i, i < l.length → w.cell? ⟨b, i, none⟩ = some (.int .u8 ((cf l i).toNat : Int))
  free : ∀ i, i < l.length → w.frozen? ⟨b, i, none⟩ = false
theorem Blk.only {b c : Nat} {l : List UInt8} {w w' : World} (h : Blk b l w) (hn : b ≠ c) (k : Only c w w') : Blk b l w' :=
  ⟨Nat.lt_of_lt_of_le h.old k.size, fun i hi => (k.cell (p := ⟨b, i, none⟩) h.old hn).trans (h.cell i hi), fun i hi => (k.frozen (p := ⟨b, i, none⟩) h.old hn).trans (h.free i hi)⟩
theorem Blk.eqv {b : Nat} {l : List UInt8} {w w' : World} (h : Blk b l w) (k : Eqv w w') : Blk b l w' :=
  ⟨by rw [k.size]; exact h.old, fun i hi => (k.cell _).trans (h.cell i hi), fun i hi => (k.frozen _).trans (h.free i hi)⟩
theorem Blk.below {b : Nat} {l : List UInt8} {w w' : World} (h : Blk b l w) (k : Below w.heap.size w w') : Blk b l w' :=
  ⟨Nat.lt_of_lt_of_le h.old k.size, fun i hi => (k.cell (p := ⟨b, i, none⟩) h.old).trans (h.cell i hi), fun i hi => (k.frozen (p := ⟨b, i, none⟩) h.old).trans (h.free i hi)⟩
theorem cf_set (l : List UInt8) (k : Nat) (y : UInt8) (hk : k < l.length) (i : Nat) : cf (l.set k y) i = if i = k then y else cf l i := by
  unfold cf
  rw [List.getD_eq_getElem?_getD, List.getD_eq_getElem?_getD, List.getElem?_set]
  by_cases h : k = i
  · subst h; simp [hk]
  · have : ¬ i = k := fun e => h e.symm
    simp [h, this]
theorem Blk.set {b : Nat} {l : List UInt8} {w : World} (h : Blk b l w) {k : Nat} (hk : k < l.length) (y : UInt8) : Blk b (l.set k y) (w.setCell ⟨b, k, none⟩ (.int .u8 (y.toNat : Int))) := by
  refine ⟨by simpa [World.setCell] using h.old, fun i hi => ?_, fun i hi => ?_⟩
  · rw [List.length_set] at hi
    rw [cf_set l k y hk]
    by_cases e : i = k
    · subst e; rw [if_pos rfl]; exact World.cell?_setCell_same _ _ _ (h.cell i hi)
    · rw [if_neg e, World.cell?_setCell_other _ _ _ _ (by intro x; exact e (congrArg Addr.off x).symm)]; exact h.cell i hi
  · rw [List.length_set] at hi
    simp [h.free i hi]
theorem list_ext_cf {p q : List UInt8} (hl : p.length = q.length) (h : ∀ i, i < p.length → cf p i = cf q i) : p = q :=
  List.ext_getElem hl fun i h1 h2 => by rw [← cf_lt h1, ← cf_lt h2]; exact h i h1
theorem Blk.make (w : World) (n : Nat) : Blk w.heap.size (z8 n) (w.alloc (.cells (zr n) 5)) := by
  have hz : (z8 n).length = n := List.length_replicate
  refine ⟨by simp, fun i hi => ?_, fun i _ => World.frozen?_alloc_new _ _ _ _⟩
  rw [World.cell?_alloc_new]
  have h1 : (zr n).toList[i]? = ((z8 n).map B)[i]? := by rw [zr_toList]
  rw [Array.getElem?_toList] at h1
  rw [h1, List.getElem?_map, List.getElem?_eq_getElem hi, cf_lt hi]; rfl
theorem Blk.text {b : Nat} {l : List UInt8} {w : World} (h : Blk b l w) (len cap : Nat) (hl : len ≤ l.length) :
    (convert 44 9 (.slice (some ⟨b, 0, none⟩) len cap)).run Try.prog w = .ok (.string (st (l.take len))) w := by
  have e := run_convert_bytes_arg (P := Try.prog) w 44 5 Try.underlying44 Try.underlying5 b 0 len cap ((l.take len).map fun x => (x.toNat : Int)) (by simp; omega) (fun i hi => by
      show w.cell? ⟨b, 0 + i, none⟩ = _
      rw [Nat.zero_add, h.cell i (by omega), List.getD_eq_getElem?_getD, List.getElem?_map, List.getElem?_take_of_lt hi, List.getElem?_eq_getElem (by omega), cf_lt (by omega)]; rfl) 9 Try.underlying9
  rw [e]
  have hs : strOfNums ((l.take len).map fun x => (x.toNat : Int)) = st (l.take len) := by
    simp only [strOfNums, st, List.map_map]
    congr 2
    have : ((fun n : Int => UInt8.ofNat n.toNat) ∘ fun x : UInt8 => (x.toNat : Int)) = id := by
      funext x; simp
    rw [this, List.map_id]
  rw [hs]
theorem Blk.whole {b : Nat} {l : List UInt8} {w : World} (h : Blk b l w) (cap : Nat) {n : Nat} (hn : n = l.length) :
    (convert 44 9 (.slice (some ⟨b, 0, none⟩) n cap)).run Try.prog w = .ok (.string (st l)) w := by
  subst hn
  have := h.text l.length cap (Nat.le_refl _)
  rwa [List.take_length] at this
/-- A row of the call's own that lies in block g. -/
def Rw (w : World) (base g cap : Nat) (l : List UInt8) : Prop := base ≤ g ∧ l.length ≤ cap ∧ cap ≤ maxLen ∧ ∃ cur : Array Value, w.heap[g]? = some (.cells cur 5 (0, 0)) ∧ cur.size = cap ∧ cur.toList.take l.length = l.map B
theorem Rw.own {w : World} {base g cap : Nat} {l : List UInt8} (h : Rw w base g cap l) : Own w base (.slice (some ⟨g, 0, none⟩) l.length cap) l := by
  obtain ⟨h1, h2, h3, cur, h4, h5, h6⟩ := h
  exact ⟨by simp, .inr ⟨g, cap, cur, rfl, h1, h4, h2, h3, by rw [h5, Nat.mul_one], by rw [Nat.mul_one]; exact h6⟩⟩
theorem Rw.of {w : World} {base : Nat} {v : Value} {l : List UInt8} (h : Own w base v l) (hl : l ≠ []) : ∃ g cap, v = .slice (some ⟨g, 0, none⟩) l.length cap ∧ v.ownBlock = some g ∧ Rw w base g cap l := by
  obtain ⟨_, h⟩ := h
  rcases h with ⟨_, h0⟩ | ⟨g, cap, cur, rfl, h1, h4, h2, h3, h5, h6⟩
  · exact absurd (List.length_eq_zero_iff.1 h0) hl
  · exact ⟨g, cap, rfl, rfl, h1, h2, h3, cur, h4, by rw [h5, Nat.mul_one], by rw [Nat.mul_one] at h6; exact h6⟩
theorem Rw.blk {w : World} {base g cap : Nat} {l : List UInt8} (h : Rw w base g cap l) : Blk g l w := by
  obtain ⟨h1, h2, h3, cur, h4, h5, h6⟩ := h
  refine ⟨(Array.getElem?_eq_some_iff.1 h4).1, fun i hi => ?_, fun i hi => ?_⟩
  · have e : cur.toList[i]? = some (B (cf l i)) := by
      have e2 : (cur.toList.take l.length)[i]? = (l.map B)[i]? := by rw [h6]
      rw [List.getElem?_take_of_lt hi] at e2
      rw [e2, List.getElem?_map, List.getElem?_eq_getElem hi, cf_lt hi]; rfl
    have e3 : w.cell? ⟨g, i, none⟩ = cur[i]? := by simp [World.cell?, h4]
    rw [e3, ← Array.getElem?_toList, e]; rfl
  · simp [World.frozen?, h4]
theorem Rw.block {w w' : World} {base g cap : Nat} {l : List UInt8} (h : Rw w base g cap l) (e : w'.heap[g]? = w.heap[g]?) : Rw w' base g cap l := by
  obtain ⟨h1, h2, h3, cur, h4, h5, h6⟩ := h
  exact ⟨h1, h2, h3, cur, e.trans h4, h5, h6⟩
theorem Rw.only {w w' : World} {base g cap b : Nat} {l : List UInt8} (h : Rw w base g cap l) (hn : g ≠ b) (k : Only b w w') : Rw w' base g cap l := h.block (k.block g h.blk.old hn)
theorem Rw.eqv {w w' : World} {base g cap : Nat} {l : List UInt8} (h : Rw w base g cap l) (k : Eqv w w') : Rw w' base g cap l := h.block (by rw [k.heap])
theorem Rw.grown {w w' : World} {row : Option Nat} {base g cap : Nat} {l : List UInt8} (h : Rw w base g cap l) (hg : w.grownBy w' row) (hr : ∀ r, row = some r → ∃ o : Obj, w.heap[r]? = some o ∧ o.isCells = false) : Rw w' base g cap l := by
  refine h.block (hg.block g h.blk.old fun e => ?_)
  obtain ⟨o, ho, hc⟩ := hr g e.symm
  obtain ⟨_, _, _, cur, h4, _⟩ := h
  rw [h4] at ho; cases ho; cases hc
theorem Rw.set {w : World} {base g cap : Nat} {l : List UInt8} (h : Rw w base g cap l) {i : Nat} (_hi : i < l.length) (y : UInt8) : Rw (w.setCell ⟨g, i, none⟩ (.int .u8 (y.toNat : Int))) base g cap (l.set i y) := by
  obtain ⟨h1, h2, h3, cur, h4, h5, h6⟩ := h
  refine ⟨h1, by rw [List.length_set]; exact h2, h3, cur.setIfInBounds i (B y), ?_, by rw [Array.size_setIfInBounds]; exact h5, ?_⟩
  · have hg := (Array.getElem?_eq_some_iff.1 h4).1
    simp [World.setCell, Array.getElem?_modify, h4, B]
  · rw [List.length_set, Array.toList_setIfInBounds, List.take_set, h6, List.map_set]
/-- 'v = append(v, y)', v a row of the call's own: and nothing else turns. -/
theorem wp_push8g {ops : Array Oper} {rest : List Oper} {o : Oper} {a : Act} {Q : Exit → Act → World → Prop} {wr : World} (hgd : o.guard = none) (s x : Operand)
    (ho : o.op = .call { callee := .builtin .append, args := #[s, x], argTypes := #[44, 44] }) {base : Nat} {v : Value} {l : List UInt8} (y : UInt8) {yv : Value} (hyv : yv = B y) (H : Nat) (hH : wr.heap.size = H) (hown : Own wr base v l)
    (hs : a.eval s = v) (hx : a.eval x = .slice (some ⟨H, 0, none⟩) 1 1) (hl : l.length ≤ 1000000000) (hb : base ≤ wr.heap.size)
    (h : ∀ v' w', Own w' base v' (l ++ [y]) → (wr.alloc (.cells #[yv] 5)).grownBy w' v.ownBlock → (v'.ownBlock = v.ownBlock ∨ v'.ownBlock = some (H + 1)) → wpList Try.prog ops Q rest (a.put o.dst v') w') :
    wpList Try.prog ops Q (o :: rest) a (wr.alloc (.cells #[yv] 5)) := by
  subst hH
  subst hyv
  obtain ⟨i0, hi, hz0, hz1, hz2⟩ := info_parts info8
  have hown0 : wr.ownsRow base 5 1 v l.length (l.map B) := hown
  refine wpList_append_own_at _ hgd s x 44 ho base 5 i0 (.int .u8 0) 1 1 Try.underlying44 hi hz0 hz1 hz2 rfl (by decide) v l.length (l.map B) hs (hown0.alloc _)
    ⟨wr.heap.size, 0, none⟩ 1 1 [B y] hx rfl ?_ ?_ ?_ ?_ ?_ ?_
  · intro j u hj
    match j, hj with
    | 0, hj => simp at hj; subst hj; simp [Addr.add, B]
  · intro u hu; simp at hu; subst hu; rfl
  · unfold maxLen; omega
  · omega
  · simp; omega
  · intro v' w' h1 h2 _ h4
    refine h v' w' ?_ h2 ?_
    · unfold Own; rw [List.length_append, List.map_append]; exact h1
    · rwa [World.size_alloc] at h4
theorem Only.grown {g : Nat} {A B : World} {row : Option Nat} (h : A.grownBy B row) (hr : row = some g) : Only g A B :=
  ⟨h.os, h.tape, h.output, h.size, fun k hk hn => h.block k hk (by rw [hr]; intro e; exact hn (Option.some.inj e))⟩
/-- A row that is not the one that grows stays. -/
theorem Own.stays {A B : World} {row : Option Nat} {base : Nat} {v : Value} {l : List UInt8} (h : Own A base v l) (hg : A.grownBy B row) (hn : ∀ b, row = some b → v.ownBlock ≠ some b) : Own B base v l := by
  obtain ⟨hl, h⟩ := h
  refine ⟨hl, ?_⟩
  rcases h with h | ⟨g, cap, cur, hv, hb, hh, h5⟩
  · exact .inl h
  · refine .inr ⟨g, cap, cur, hv, hb, (hg.block g (Array.getElem?_eq_some_iff.1 hh).1 fun e => ?_).trans hh, h5⟩
    exact hn g e.symm (by rw [hv]; rfl)
theorem Own.alloc {w : World} {base : Nat} {v : Value} {l : List UInt8} (h : Own w base v l) (o : Obj) : Own (w.alloc o) base v l := World.ownsRow.alloc (w := w) h o
theorem Own.old {w : World} {base : Nat} {v : Value} {l : List UInt8} (h : Own w base v l) {b : Nat} (hb : v.ownBlock = some b) : b < w.heap.size := by
  obtain ⟨_, h⟩ := h
  rcases h with ⟨rfl, _⟩ | ⟨g, cap, cur, rfl, _, hh, _⟩
  · cases hb
  · cases hb; exact (Array.getElem?_eq_some_iff.1 hh).1
theorem Own.eqv {w w' : World} {base : Nat} {v : Value} {l : List UInt8} (h : Own w base v l) (e : Eqv w w') : Own w' base v l := by
  obtain ⟨hl, h⟩ := h
  refine ⟨hl, ?_⟩
  rcases h with h | ⟨g, cap, cur, hv, hb, hh, h5⟩
  · exact .inl h
  · exact .inr ⟨g, cap, cur, hv, hb, by rw [e.heap]; exact hh, h5⟩
/-- A world that is another one and a new block is made so. -/
theorem Eqv.split {w w' : World} {o : Obj} (h : Eqv (w.alloc o) w') : ∃ u, w' = u.alloc o ∧ Eqv w u := by
  refine ⟨{ w' with heap := w.heap }, ?_, ⟨h.os, h.tape, h.output, rfl⟩⟩
  have e : w'.heap = w.heap.push o := h.heap
  cases w'
  simp only at e
  subst e
  rfl
theorem Keeps.eqv {w0 w w' : World} (h : Keeps w0 w) (e : Eqv w w') : Keeps w0 w' := h.trans ⟨e.os, e.tape, e.output, by rw [e.heap]; exact Nat.le_refl _, fun _ _ => by rw [e.heap]⟩
theorem Keeps.grown {w0 w w' : World} {row : Option Nat} (h : Keeps w0 w) (hg : w.grownBy w' row) (hr : ∀ k, row = some k → w0.heap.size ≤ k) : Keeps w0 w' := Below.grown h hg (Below.size h) hr
theorem u8_of {n : Int} (h : 0 ≤ n ∧ n ≤ 255) : ∃ x : UInt8, n = (x.toNat : Int) :=
  ⟨UInt8.ofNat n.toNat, by rw [UInt8.toNat_ofNat_of_lt' (show n.toNat < 256 by omega)]; omega⟩
theorem Blk.bytes (w : World) (s : ByteArray) : Blk w.heap.size (ls s) (Lib.bytesWorld w 5 s) := by
  refine ⟨by rw [Lib.bytesWorld_size]; omega, fun i hi => ?_, fun i hi => ?_⟩
  · rw [← ls_size] at hi; exact Lib.bytesWorld_cell w _ s i hi
  · rw [← ls_size] at hi
    have hg := Lib.bytesWorld_at_new w 5 s
    have hs : s.size ≤ (Lib.bytesCells w 5 s).size := by
      unfold Lib.bytesCells; rw [Array.size_append, Array.size_map]; exact Nat.le_add_right _ _
    simp [World.frozen?, hg]
    omega
theorem only_setCells (b : Nat) : ∀ (vs : List Value) (o : Nat) (w : World), Only b w (w.setCells b o vs)
  | [], _, w => Only.refl b w
  | v :: r, o, w => (Only.setCell w ⟨b, o, none⟩ v).trans (only_setCells b r (o + 1) _)
theorem results_cell {fn : Func} {p : Tmp} {ty : TypeId} (h : fn.results = #[.cell p ty]) (tmps : Array Value) (P : Program) (w : World) :
    (results fn tmps).run P w = ((asAddr (tmps.getD p undef)).run P w).andThen fun a w₁ => (loadVar ty a).run P w₁ := by
  simp only [results, h]
  simp [Sem.run_bind, Result.andThen]
theorem Eqv.drewN (w : World) (n : Nat) : Eqv w (w.drewN n) := ⟨rfl, rfl, rfl, rfl⟩
theorem Blk.lit (w : World) (l : List UInt8) (t : TypeId) : Blk w.heap.size l (w.alloc (.cells (l.map B).toArray t)) := by
  refine ⟨by simp, fun i hi => ?_, fun i _ => World.frozen?_alloc_new _ _ _ _⟩
  rw [World.cell?_alloc_new, List.getElem?_toArray, List.getElem?_map, List.getElem?_eq_getElem hi, cf_lt hi]; rfl
theorem st_append (a b : List UInt8) : st a ++ st b = st (a ++ b) := by
  apply ByteArray.ext
  rw [ByteArray.data_append]
  simp [st]
theorem ls_append (a b : ByteArray) : ls (a ++ b) = ls a ++ ls b := by
  unfold ls; rw [ByteArray.data_append, Array.toList_append]
theorem ls_part (s : ByteArray) (i j : Nat) : ls (s.extract i j) = ((ls s).drop i).take (j - i) := by
  unfold ls
  rw [ByteArray.data_extract, Array.toList_extract, List.extract_eq_take_drop]
theorem cell_new1 (W : World) (v : Value) (t : TypeId) : (W.alloc (.cells #[v] t)).cell? ⟨W.heap.size, 0, none⟩ = some v ∧ (W.alloc (.cells #[v] t)).frozen? ⟨W.heap.size, 0, none⟩ = false :=
  ⟨by rw [World.cell?_alloc_new]; rfl, World.frozen?_alloc_new _ _ _ _⟩
theorem cell_alloc1 {W : World} {a : Addr} {v : Value} (o : Obj) (h : W.cell? a = some v) : (W.alloc o).cell? a = some v := cell_kept h (World.grownBy_alloc W o none) (fun r e => by cases e)
theorem frozen_alloc1 {W : World} {a : Addr} {v : Value} (o : Obj) (h : W.cell? a = some v) (hf : W.frozen? a = false) : (W.alloc o).frozen? a = false := (frozen_kept h (World.grownBy_alloc W o none) (fun r e => by cases e)).trans hf
/-- The slice (a, len) reads as the texts l. -/
def IsT (W : World) (a : Option Addr) (len : Nat) (l : List (List UInt8)) : Prop :=
  len = l.length ∧ (0 < l.length → ∃ b off, a = some ⟨b, off, none⟩ ∧ b < W.heap.size ∧ ∀ i, i < l.length → W.cell? ⟨b, off + i, none⟩ = some (.string (st (l.getD i []))))
theorem IsT.below {W W' : World} {a : Option Addr} {len : Nat} {l : List (List UInt8)} (h : IsT W a len l) (k : Below W.heap.size W W') : IsT W' a len l :=
  ⟨h.1, fun h0 => by obtain ⟨b, off, ha, hb, hc⟩ := h.2 h0; exact ⟨b, off, ha, Nat.lt_of_lt_of_le hb k.size, fun i hi => (k.cell (p := ⟨b, off + i, none⟩) hb).trans (hc i hi)⟩⟩
theorem IsT.keeps {w0 W' : World} {a : Option Addr} {len : Nat} {l : List (List UInt8)} (h : IsT w0 a len l) (k : Keeps w0 W') : IsT W' a len l := h.below k
theorem IsT.nil (W : World) (a : Option Addr) : IsT W a 0 [] := ⟨rfl, fun h => by simp at h⟩
theorem IsT.one (w : World) (s : ByteArray) (t : TypeId) : IsT (w.alloc (.cells #[.string s] t)) (some ⟨w.heap.size, 0, none⟩) 1 [ls s] :=
  ⟨rfl, fun _ => ⟨_, _, rfl, by simp, fun i hi => by
    have : i = 0 := by simpa using hi
    subst this; rw [World.cell?_alloc_new, List.getD_cons_zero, st_ls]; rfl⟩⟩
theorem IsT.two (w : World) (s t : ByteArray) (ty : TypeId) : IsT (w.alloc (.cells #[.string s, .string t] ty)) (some ⟨w.heap.size, 0, none⟩) 2 [ls s, ls t] :=
  ⟨rfl, fun _ => ⟨_, _, rfl, by simp, fun i hi => by
    have : i = 0 ∨ i = 1 := by simp at hi; omega
    rcases this with rfl | rfl
    · rw [World.cell?_alloc_new, List.getD_cons_zero, st_ls]; rfl
    · rw [World.cell?_alloc_new, List.getD_cons_succ, List.getD_cons_zero, st_ls]; rfl⟩⟩
theorem IsT.get {W : World} {a : Option Addr} {len : Nat} {l : List (List UInt8)} (h : IsT W a len l) {k : Nat} (hk : k < l.length) : ∃ b off, a = some ⟨b, off, none⟩ ∧ W.cell? ⟨b, off + k, none⟩ = some (.string (st (l.getD k []))) := by
  obtain ⟨b, off, ha, _, hc⟩ := h.2 (by omega)
  exact ⟨b, off, ha, hc k hk⟩
end Go.Proofs.Ytofnokikjfmfgaa
