/-
  The writer of fields of bits: Put, fill, Text, String and what they stand on; the chapter's example. For up to a million bits. The memory that was there stays.
-/
import Derived.Deep.MidRow
import Derived.Test.YtifbomppgflkfaaDoorBitsIn
import Derived.Test.YtifbomppgflkfaaDoorBase
namespace Go.Proofs.YtifbomppgflkfaaDoor
open Go.RowKit Go.Shelf Gf Bit
set_option maxRecDepth 100000
/-- Full blocks, m of them, from the last one on: byte j of all is f j; none of them is block b. -/
def Chain (w : World) (b : Nat) (f : Nat → UInt8) : Nat → Value → Prop
  | 0, v => v = .pointer none
  | m + 1, v => ∃ c u, v = .pointer (some ⟨c, 0, none⟩) ∧ c ≠ b ∧ w.cell? ⟨c, 0, none⟩ = some u ∧ (∀ k, k < 128 → w.cell? ⟨c, 1 + k, none⟩ = some (B (f (128 * m + k)))) ∧ Chain w b f m u
theorem Chain.only {w w' : World} {b : Nat} {f : Nat → UInt8} (k : Only b w w') : ∀ {m : Nat} {v : Value}, Chain w b f m v → Chain w' b f m v
  | 0, _, h => h
  | m + 1, _, h => by
    obtain ⟨c, u, e, hn, h0, hb, hr⟩ := h
    have hc := there_cell h0
    exact ⟨c, u, e, hn, (k.cell (p := ⟨c, 0, none⟩) hc hn).trans h0, fun i hi => (k.cell (p := ⟨c, 1 + i, none⟩) hc hn).trans (hb i hi), hr.only k⟩
theorem Chain.keeps {w w' : World} {b : Nat} {f : Nat → UInt8} (k : Keeps w w') {m : Nat} {v : Value} (h : Chain w b f m v) : Chain w' b f m v := h.only (Only.below k)
theorem Chain.congr {w : World} {b : Nat} {f g : Nat → UInt8} : ∀ {m : Nat} {v : Value}, Chain w b f m v → (∀ j, j < 128 * m → f j = g j) → Chain w b g m v
  | 0, _, h, _ => h
  | m + 1, _, h, hf => by
    obtain ⟨c, u, e, hn, h0, hb, hr⟩ := h
    exact ⟨c, u, e, hn, h0, fun i hi => by rw [hb i hi, hf _ (by omega)], hr.congr fun j hj => hf j (by omega)⟩
/-- A writer lies in block b: it has n bits, and byte j is f j. -/
structure OutR (b : Nat) (f : Nat → UInt8) (n : Nat) (w : World) : Prop where
  cnt : w.cell? ⟨b, 129, none⟩ = some (.int .i64 (n : Int))
  byte : ∀ k, k < 128 → w.cell? ⟨b, 1 + k, none⟩ = some (.int .u8 ((f (128 * (n / 1024) + k)).toNat : Int))
  free : ∀ k, k < 130 → w.frozen? ⟨b, k, none⟩ = false
  chain : ∃ v, w.cell? ⟨b, 0, none⟩ = some v ∧ Chain w b f (n / 1024) v
/-- A writer of the bits L. -/
def OutAt (b : Nat) (L : List Bool) (w : World) : Prop := OutR b (byt L) L.length w
theorem OutR.old {b : Nat} {f : Nat → UInt8} {n : Nat} {w : World} (h : OutR b f n w) : b < w.heap.size := there_cell h.cnt
theorem OutR.keeps {b : Nat} {f : Nat → UInt8} {n : Nat} {w w' : World} (h : OutR b f n w) (k : Keeps w w') : OutR b f n w' := by
  have ho := h.old
  obtain ⟨v, h1, h2⟩ := h.chain
  exact ⟨(Below.cell k (p := ⟨b, 129, none⟩) ho).trans h.cnt, fun i hi => (Below.cell k (p := ⟨b, 1 + i, none⟩) ho).trans (h.byte i hi), fun i hi => (Below.frozen k (p := ⟨b, i, none⟩) ho).trans (h.free i hi), v, (Below.cell k (p := ⟨b, 0, none⟩) ho).trans h1, h2.keeps k⟩
theorem OutR.eqv {b : Nat} {f : Nat → UInt8} {n : Nat} {w w' : World} (h : OutR b f n w) (k : Eqv w w') : OutR b f n w' := h.keeps ⟨k.os, k.tape, k.output, by rw [k.heap]; exact Nat.le_refl _, fun _ _ => by rw [k.heap]⟩
/-- A variable of a type whose zero is known. -/
theorem alloc_of {T : TypeId} {Z : Array Value} (hi : (Tryd.prog.info? T).map (·.zero) = some (some (.agg Z))) (w : World) : (Instr.alloc T true (.tuple #[])).run Tryd.prog w = .ok (.pointer (some ⟨w.heap.size, 0, none⟩)) (w.alloc (.cells Z T)) := by
  have hz : (zeroValue T).run Tryd.prog w = .ok (.agg Z) w := by
    cases hq : Tryd.prog.info? T with
    | none => rw [hq] at hi; cases hi
    | some i =>
      rw [hq] at hi
      simp at hi
      simp [zeroValue, typeInfo, hq, hi]
  simp only [Instr.alloc, Sem.run_bind, hz, Result.andThen_ok]
  rfl
theorem wpList_allocZ {ops : Array Oper} {rest : List Oper} {o : Oper} {a : Act} {w : World} {Q : Exit → Act → World → Prop} {T : TypeId} {Z : Array Value} (hi : (Tryd.prog.info? T).map (·.zero) = some (some (.agg Z))) (hg : o.guard = none) (ho : o.op = .alloc T)
    (h : wpList Tryd.prog ops Q rest (a.put o.dst (.pointer (some ⟨w.heap.size, 0, none⟩))) (w.alloc (.cells Z T))) : wpList Tryd.prog ops Q (o :: rest) a w := by
  refine wpList_plain hg fun _ hK => ?_
  have e : (execOp a.eval o).run Tryd.prog w = .ok (.value (.pointer (some ⟨w.heap.size, 0, none⟩))) (w.alloc (.cells Z T)) := by
    unfold execOp
    simp only [ho, Sem.run_bind, alloc_of hi, Result.andThen_ok]
    rfl
  unfold Oper.wp
  rw [e, Oper.upon_value]
  exact hK _ _ h
/-- A block's cells. -/
def bl (v : Value) (g : Nat → UInt8) : List Value := v :: (List.range 128).map fun k => B (g k)
theorem bl_length (v : Value) (g : Nat → UInt8) : (bl v g).length = 129 := by simp [bl]
theorem bl_zero (v : Value) (g : Nat → UInt8) : (bl v g)[0]? = some v := rfl
theorem bl_get (v : Value) (g : Nat → UInt8) {k : Nat} (h : k < 128) : (bl v g)[1 + k]? = some (B (g k)) := by
  rw [Nat.add_comm]; simp [bl, h]
theorem bl_one {v : Value} (hv : v.oneCell' = true) (g : Nat → UInt8) : ∀ u ∈ bl v g, u.oneCell' = true := by
  intro u hu
  rcases List.mem_cons.1 hu with rfl | hu
  · exact hv
  · obtain ⟨k, _, rfl⟩ := List.mem_map.1 hu; rfl
def zblk : Array Value := #[.pointer none] ++ Array.replicate 128 (.int .u8 0)
theorem zblk_size : zblk.size = 129 := by simp [zblk]
theorem Chain.one {w : World} {b : Nat} {f : Nat → UInt8} : ∀ {m : Nat} {v : Value}, Chain w b f m v → v.oneCell' = true
  | 0, _, h => by rw [show _ = _ from h]; rfl
  | _ + 1, _, h => by obtain ⟨c, u, e, _⟩ := h; rw [e]; rfl
end Go.Proofs.YtifbomppgflkfaaDoor
namespace Go.Proofs.YtifbomppgflkfaaDoor
open Go.RowKit Go.Shelf Gf Bit
set_option maxRecDepth 100000
attribute [local go_sem] Oper.semAt_some
theorem bit64 {x : Nat} (hx : x < 2 ^ 64) (t : Nat) : bits BinOp.and IntKind.u64 (un x / 2 ^ t) 1 = bI (x.testBit t) := by
  have h : x / 2 ^ t < 2 ^ 64 := Nat.lt_of_le_of_lt (Nat.div_le_self _ _) hx
  unfold un
  rw [show ((x : Int) / 2 ^ t) = ((x / 2 ^ t : Nat) : Int) by rw [Int.natCast_ediv, Int.natCast_pow]; rfl, show (1 : Int) = ((1 : Nat) : Int) from rfl, u64_and_nat _ _ h (by decide), Nat.and_one_is_mod, nat_bit]
  rfl
theorem Chain.grown {w w' : World} {row : Option Nat} {b : Nat} {f : Nat → UInt8} (hg : w.grownBy w' row) (hr : ∀ r, row = some r → ∃ o : Obj, w.heap[r]? = some o ∧ o.isCells = false) : ∀ {m : Nat} {v : Value}, Chain w b f m v → Chain w' b f m v
  | 0, _, h => h
  | m + 1, _, h => by
    obtain ⟨c, u, e, hn, h0, hb, hch⟩ := h
    exact ⟨c, u, e, hn, cell_kept h0 hg hr, fun i hi => cell_kept (hb i hi) hg hr, hch.grown hg hr⟩
theorem OutR.grown {w w' : World} {row : Option Nat} {b : Nat} {f : Nat → UInt8} {n : Nat} (h : OutR b f n w) (hg : w.grownBy w' row) (hr : ∀ r, row = some r → ∃ o : Obj, w.heap[r]? = some o ∧ o.isCells = false) : OutR b f n w' := by
  obtain ⟨v, h1, h2⟩ := h.chain
  refine ⟨cell_kept h.cnt hg hr, fun i hi => cell_kept (h.byte i hi) hg hr, fun i hi => ?_, v, cell_kept h1 hg hr, h2.grown hg hr⟩
  have hb := h.free i hi
  have e : w'.heap[b]? = w.heap[b]? := by
    refine hg.block b h.old fun e => ?_
    obtain ⟨o, ho, hc⟩ := hr b e.symm
    obtain ⟨o2, ho2, hc2⟩ := cells_of_cell h.cnt
    rw [show (⟨b, 129, none⟩ : Addr).block = b from rfl] at ho2
    rw [ho] at ho2; cases ho2; rw [hc] at hc2; cases hc2
  exact (World.frozen?_of_block (w := w) (a := ⟨b, i, none⟩) e).trans hb
/-- While bits are written: the writer's box is block X, the number's the next one. -/
structure WrJ (w : World) (b X x : Nat) (L : List Bool) (W : World) : Prop where
  out : OutAt b L W
  co : W.cell? ⟨X, 0, none⟩ = some (.pointer (some ⟨b, 0, none⟩))
  cx : W.cell? ⟨X + 1, 0, none⟩ = some (.int .u64 (un x))
  on : Only b w W
theorem WrJ.grown {w W W' : World} {row : Option Nat} {b X x : Nat} {L : List Bool} (h : WrJ w b X x L W) (hg : W.grownBy W' row) (hr : ∀ r, row = some r → w.heap.size ≤ r ∧ ∃ o : Obj, W.heap[r]? = some o ∧ o.isCells = false) : WrJ w b X x L W' := by
  have hr2 := fun r e => (hr r e).2
  refine ⟨h.out.grown hg hr2, cell_kept h.co hg hr2, cell_kept h.cx hg hr2, ?_⟩
  exact ⟨hg.os.trans h.on.os, hg.tape.trans h.on.tape, hg.output.trans h.on.output, Nat.le_trans h.on.size hg.size, fun k hk hn => (hg.block k (Nat.lt_of_lt_of_le hk h.on.size) fun e => by have := (hr k e.symm).1; omega).trans (h.on.block k hk hn)⟩
theorem WrJ.put {w W : World} {b X x l : Nat} {L : List Bool} {o : Obj} (h : WrJ w b X x L W) (o' : Obj) (hl : w.heap.size ≤ l) (ho : W.heap[l]? = some o) (hc : o.isCells = false) : WrJ w b X x L (W.putObj l o') :=
  h.grown (grownBy_putObj' W l o') fun r e => by cases e; exact ⟨hl, o, ho, hc⟩
theorem only_others {b : Nat} {W W' : World} {a : Addr} {v : Value} (hc : W.cell? a = some v) (hb : a.block = b) (k : Only b W W') : KeepsOthers W W' :=
  ⟨k.size, fun i o hi ho => by
    refine (k.block i (Array.getElem?_eq_some_iff.1 hi).1 fun e => ?_).trans hi
    obtain ⟨o2, ho2, hc2⟩ := cells_of_cell hc
    rw [hb, ← e, hi] at ho2; cases ho2; rw [ho] at hc2; cases hc2⟩
/-- One more bit, in its byte: the writer's bytes are those of one bit more, ahead of step. -/
theorem put_bit {b : Nat} {L : List Bool} {W : World} (h : OutAt b L W) (v : Bool) {z : UInt8} (hz : z.toNat = (byt L (L.length / 8)).toNat ||| (v.toNat * 2 ^ (7 - L.length % 8))) :
    OutR b (byt (L ++ [v])) L.length (W.setCell ⟨b, 1 + L.length / 8 % 128, none⟩ (.int .u8 (z.toNat : Int))) := by
  have hz2 : z = byt (L ++ [v]) (L.length / 8) := by
    apply UInt8.toNat_inj.1; rw [hz, byt_snoc]
  obtain ⟨u, h1, h2⟩ := h.chain
  have k := Only.setCell W ⟨b, 1 + L.length / 8 % 128, none⟩ (.int .u8 (z.toNat : Int))
  refine ⟨(set_other (by omega)).trans h.cnt, fun i hi => ?_, fun i hi => by simp [h.free i hi], u, (set_other (by omega)).trans h1, (h2.only k).congr fun j hj => ?_⟩
  · by_cases e : i = L.length / 8 % 128
    · subst e
      rw [set_same (h.byte _ hi), hz2, show 128 * (L.length / 1024) + L.length / 8 % 128 = L.length / 8 by omega]
    · rw [set_other (by omega), h.byte i hi, byt_other L v (by omega)]
  · exact (byt_left [v] (by omega)).symm
end Go.Proofs.YtifbomppgflkfaaDoor
namespace Go.Proofs.YtifbomppgflkfaaDoor
open Go.RowKit Go.Shelf Gf Bit
set_option maxRecDepth 100000
attribute [local go_sem] Oper.semAt_some
theorem wrap64 {n : Int} (h : -9223372036854775808 ≤ n ∧ n ≤ 9223372036854775807) : IntKind.i64.wrap n = n := by simp [IntKind.wrap, IntKind.bits, IntKind.signed]; omega
/-- A bit at its place in a byte, or-ed to it. -/
theorem or_bit {y : UInt8} {v : Bool} {t : Nat} (ht : t ≤ 7) : ∃ z : UInt8, z.toNat = y.toNat ||| (v.toNat * 2 ^ t) ∧ bits BinOp.or IntKind.u8 (y.toNat : Int) (IntKind.u8.wrap (bI v * 2 ^ t)) = (z.toNat : Int) := by
  have hb : v.toNat * 2 ^ t < 2 ^ 8 := by
    have : 2 ^ t ≤ 2 ^ 7 := Nat.pow_le_pow_right (by decide) ht
    cases v
    · show 0 * _ < _; omega
    · show 1 * _ < _; omega
  have hlt : y.toNat ||| (v.toNat * 2 ^ t) < 2 ^ 8 := Nat.or_lt_two_pow y.toNat_lt hb
  refine ⟨UInt8.ofNat (y.toNat ||| (v.toNat * 2 ^ t)), UInt8.toNat_ofNat_of_lt' hlt, ?_⟩
  rw [UInt8.toNat_ofNat_of_lt' hlt]
  unfold bI
  rw [show ((v.toNat : Int) * 2 ^ t) = ((v.toNat * 2 ^ t : Nat) : Int) by rw [Int.natCast_mul, Int.natCast_pow]; rfl, IntKind.wrap_u8']
  have hm : ((v.toNat * 2 ^ t : Nat) : Int) % 256 = ((v.toNat * 2 ^ t : Nat) : Int) := by omega
  rw [hm, u8_or_nat _ _ y.toNat_lt hb]
theorem byt_past {L : List Bool} {n : Nat} (h : L.length ≤ n) : ∀ j, n ≤ 8 * j → byt L j = 0 := fun _ hj => byt_big (by omega)
end Go.Proofs.YtifbomppgflkfaaDoor
namespace Go.Proofs.YtifbomppgflkfaaDoor
open Go.RowKit Go.Shelf Gf Bit
set_option maxRecDepth 100000
theorem cell_apart {b k : Nat} : ∀ (vs : List Value) (o : Nat) (w : World), k < o ∨ o + vs.length ≤ k → (w.setCells b o vs).cell? ⟨b, k, none⟩ = w.cell? ⟨b, k, none⟩
  | [], _, _, _ => rfl
  | v :: r, o, w, h => by
    show ((w.setCell ⟨b, o, none⟩ v).setCells b (o + 1) r).cell? _ = _
    rw [cell_apart r (o + 1) _ (by rw [List.length_cons] at h; omega)]
    exact set_other (by rw [List.length_cons] at h; omega)
theorem Eqv.setCells {w w' : World} (h : Eqv w w') (b : Nat) : ∀ (vs : List Value) (o : Nat), Eqv (w.setCells b o vs) (w'.setCells b o vs) := by
  intro vs
  induction vs generalizing w w' with
  | nil => intro _; exact h
  | cons v r ih => intro o; exact ih (h.setCell ⟨b, o, none⟩ v) (o + 1)
/-- Whole bytes, in their places: ahead of step. -/
theorem put_bytes {b : Nat} {M : List Bool} {W : World} (h : OutAt b M W) (h8 : M.length % 8 = 0) (vs : List UInt8) (hv : M.length / 8 % 128 + vs.length ≤ 128) :
    OutR b (byt (M ++ ob vs)) M.length (W.setCells b (1 + M.length / 8 % 128) (vs.map B)) ∧ W.there b (1 + M.length / 8 % 128) vs.length := by
  have ht : W.there b (1 + M.length / 8 % 128) vs.length := fun j hj => ⟨by rw [Nat.add_assoc, OutR.byte h (M.length / 8 % 128 + j) (by omega)]; rfl, OutR.free h _ (by omega)⟩
  obtain ⟨u, h1, h2⟩ := h.chain
  have k := only_setCells b (vs.map B) (1 + M.length / 8 % 128) W
  refine ⟨⟨(cell_apart _ _ _ (by rw [List.length_map]; omega)).trans h.cnt, fun i hi => ?_, fun i hi => by rw [World.frozen?_setCells]; exact h.free i hi, u, (cell_apart _ _ _ (by omega)).trans h1, (h2.only k).congr fun j hj => ?_⟩, ht⟩
  · by_cases e : M.length / 8 % 128 ≤ i ∧ i < M.length / 8 % 128 + vs.length
    · have hj : i - M.length / 8 % 128 < (vs.map B).length := by rw [List.length_map]; omega
      have h3 := World.cell?_setCells_in b (vs.map B) (1 + M.length / 8 % 128) W (fun j hj => by rw [List.length_map] at hj; exact (ht j hj).1) (i - M.length / 8 % 128) hj
      rw [show 1 + M.length / 8 % 128 + (i - M.length / 8 % 128) = 1 + i by omega, List.getElem_map] at h3
      rw [h3, show 128 * (M.length / 1024) + i = M.length / 8 + (i - M.length / 8 % 128) by omega, byt_ob h8, cf_lt (by omega)]; rfl
    · rw [cell_apart _ _ _ (by rw [List.length_map]; omega), h.byte i hi]
      by_cases e2 : i < M.length / 8 % 128
      · rw [byt_left (ob vs) (by omega)]
      · rw [byt_big (L := M) (by omega), byt_big (L := M ++ ob vs) (by rw [List.length_append, ob_length]; omega)]
  · exact (byt_left (ob vs) (by omega)).symm
theorem st_from (R : List UInt8) (c : Nat) : (st R).extract c (st R).size = st (R.drop c) := by
  have := congrArg st (ls_part (st R) c (st R).size)
  rw [st_ls] at this
  rw [this, ls_st, st_size, List.take_of_length_le (by rw [List.length_drop]; exact Nat.le_refl _)]
def fiRel (w : World) (b : Nat) (L : List Bool) (l : List UInt8) (v : Value) (wr : World) : Prop := ∃ j : Nat, j ≤ l.length ∧ v = .string (st (l.drop j)) ∧ OutAt b (L ++ ob (l.take j)) wr ∧ Only b w wr
def sizeOfV : Value → Nat
  | .string s => s.size
  | _ => 0
theorem ob_one (a : UInt8) : ob [a] = lb a.toNat 8 := by show lb a.toNat 8 ++ [] = _; rw [List.append_nil]
theorem ob_take_succ {s : List UInt8} {k : Nat} (h : k < s.length) : ob (s.take (k + 1)) = ob (s.take k) ++ lb (cf s k).toNat 8 := by
  rw [List.take_succ_eq_append_getElem h, ob_append, ob_one, cf_lt h]
theorem flat_take_succ {l : List (List UInt8)} {k : Nat} (h : k < l.length) : (l.take (k + 1)).flatten = (l.take k).flatten ++ l.getD k [] := by
  rw [List.take_succ_eq_append_getElem h, List.flatten_append, List.getD_eq_getElem?_getD, List.getElem?_eq_getElem h]; simp
theorem flat_take_le (l : List (List UInt8)) (k : Nat) : (l.take k).flatten.length ≤ l.flatten.length := by
  have : l.flatten = (l.take k).flatten ++ (l.drop k).flatten := by rw [← List.flatten_append, List.take_append_drop]
  rw [this, List.length_append]; omega
def otRel (w : World) (b : Nat) (L : List Bool) (l : List (List UInt8)) (i : Value) (wr : World) : Prop := ∃ k : Nat, k ≤ l.length ∧ i = .int .i64 (k : Int) ∧ OutAt b (L ++ ob (l.take k).flatten) wr ∧ Only b w wr
def oiRel (w : World) (b : Nat) (M : List Bool) (s : List UInt8) (i : Value) (wr : World) : Prop := ∃ k : Nat, k ≤ s.length ∧ i = .int .i64 (k : Int) ∧ OutAt b (M ++ ob (s.take k)) wr ∧ Only b w wr
end Go.Proofs.YtifbomppgflkfaaDoor
namespace Go.Proofs.YtifbomppgflkfaaDoor
open Go.RowKit Go.Shelf Gf Bit
set_option maxRecDepth 100000
/-- Blocks, one ahead of the other: as Chain, whichever they are. -/
def Chn (w : World) (f : Nat → UInt8) : Nat → Value → Prop
  | 0, v => v = .pointer none
  | m + 1, v => ∃ c u, v = .pointer (some ⟨c, 0, none⟩) ∧ w.cell? ⟨c, 0, none⟩ = some u ∧ (∀ k, k < 128 → w.cell? ⟨c, 1 + k, none⟩ = some (B (f (128 * m + k)))) ∧ Chn w f m u
theorem Chain.chn {w : World} {b : Nat} {f : Nat → UInt8} : ∀ {m : Nat} {v : Value}, Chain w b f m v → Chn w f m v
  | 0, _, h => h
  | m + 1, _, h => by
    obtain ⟨c, u, e, _, h0, hb, hr⟩ := h
    exact ⟨c, u, e, h0, hb, hr.chn⟩
theorem OutR.chn {w : World} {b : Nat} {f : Nat → UInt8} {n : Nat} (h : OutR b f n w) : Chn w f (n / 1024 + 1) (.pointer (some ⟨b, 0, none⟩)) := by
  obtain ⟨v, h1, h2⟩ := h.chain
  exact ⟨b, v, rfl, h1, h.byte, h2.chn⟩
/-- The bytes from k on, bytes 0 ahead of them. -/
def rmix (R : List UInt8) (k : Nat) : List UInt8 := (List.range R.length).map fun i => if i < k then 0 else cf R i
theorem rmix_length (R : List UInt8) (k : Nat) : (rmix R k).length = R.length := by unfold rmix; rw [List.length_map, List.length_range]
theorem cf_rmix {R : List UInt8} {k i : Nat} (h : i < R.length) : cf (rmix R k) i = if i < k then 0 else cf R i := by
  rw [cf_lt (by rw [rmix_length]; exact h)]; unfold rmix; rw [List.getElem_map, List.getElem_range]
theorem rmix_all (R : List UInt8) {k : Nat} (h : R.length ≤ k) : rmix R k = z8 R.length := by
  refine list_ext_cf (by rw [rmix_length]; exact List.length_replicate.symm) fun i hi => ?_
  rw [rmix_length] at hi
  rw [cf_rmix hi, if_pos (by omega), cf_lt (by unfold z8; rw [List.length_replicate]; exact hi)]; unfold z8; rw [List.getElem_replicate]
theorem rmix_none (R : List UInt8) : rmix R 0 = R := list_ext_cf (rmix_length R 0) fun i hi => by rw [rmix_length] at hi; rw [cf_rmix hi, if_neg (by omega)]
theorem cf_part (R : List UInt8) (t c j : Nat) (h : j < c) : cf ((R.drop t).take c) j = cf R (t + j) := by
  unfold cf
  rw [List.getD_eq_getElem?_getD, List.getElem?_take_of_lt h, List.getElem?_drop, List.getD_eq_getElem?_getD]
theorem min_or (a b : Nat) : Nat.min a b = a ∨ Nat.min a b = b := by
  rcases Nat.le_total a b with h | h
  · exact .inl (Nat.min_eq_left h)
  · exact .inr (Nat.min_eq_right h)
/-- The state ahead of block j - 1, of which j are left. -/
def stRel (w : World) (g : Nat) (L : List Bool) (a v : Value) (wr : World) : Prop := ∃ j : Nat, 128 * j ≤ (pack L).length + 128 ∧ a = .int .i64 (128 * (j : Int) - 128) ∧ Chn w (byt L) j v ∧ Blk g (rmix (pack L) (128 * j)) wr ∧ Keeps w wr
def chSize : Value → Int → Nat := fun _ a => (a + 128).toNat
end Go.Proofs.YtifbomppgflkfaaDoor
namespace Go.Proofs.YtifbomppgflkfaaDoor
open Go.RowKit Go.Shelf Gf Bit
set_option maxRecDepth 100000
def zout : Array Value := #[.pointer none] ++ Array.replicate 128 (.int .u8 0) ++ #[.int .i64 0]
theorem zout_get {i : Nat} (h : i < 128) : zout[1 + i]? = some (.int .u8 0) := by
  unfold zout
  rw [Array.getElem?_append_left (by simp; omega), Array.getElem?_append_right (by simp)]
  simp [h]
theorem Only.kept {c : Nat} {w0 w w' : World} (k : Only c w w') (h : Keeps w0 w) (hc : w0.heap.size ≤ c) : Keeps w0 w' := k.keeps h hc
theorem Keeps.size {w w' : World} (h : Keeps w w') : w.heap.size ≤ w'.heap.size := Below.size h
theorem Keeps.more {w0 w w' : World} (h : Keeps w0 w) (k : Keeps w w') : Keeps w0 w' := h.trans k
theorem un_of {x : Int} (h : 0 ≤ x ∧ x ≤ 18446744073709551615) : ∃ y : Nat, y < 2 ^ 64 ∧ x = un y := ⟨x.toNat, by omega, by unfold un; omega⟩
end Go.Proofs.YtifbomppgflkfaaDoor
