/-
  What write, Put, Len of package bits do: the lowest bits of a number behind the others. For up to a million bits. Nothing that was there turns but the writer.
-/
import Derived.Test.YtofnokikjfmfgaaBitsE
namespace Go.Proofs.Ytofnokikjfmfgaa
open Go.RowKit Go.Shelf Gf Bit
set_option maxRecDepth 100000
attribute [local go_sem] Oper.semAt_some
theorem bit64 {x : Nat} (hx : x < 2 ^ 64) (t : Nat) : bits BinOp.and IntKind.u64 (un x / 2 ^ t) 1 = bI (x.testBit t) := by
  have h : x / 2 ^ t < 2 ^ 64 := Nat.lt_of_le_of_lt (Nat.div_le_self _ _) hx
  unfold un
  rw [show ((x : Int) / 2 ^ t) = ((x / 2 ^ t : Nat) : Int) by rw [Int.natCast_ediv, Int.natCast_pow]; rfl, show (1 : Int) = ((1 : Nat) : Int) from rfl, u64_and_nat _ _ h (by decide), Nat.and_one_is_mod, nat_bit]
  rfl
/-- The iterator over the N lowest bits of x: J k holds ahead of bit k. -/
theorem low1_in (n : Nat) (hn : 1 ≤ n) (l Bn Bx : Nat) (x N : Nat) (hx : x < 2 ^ 64) (hN : N ≤ 64) (J : Nat → World → Prop)
    (hJ : ∀ k W, J k W → W.cell? ⟨Bx, 0, none⟩ = some (.int .u64 (un x)))
    (hY : ∀ k W, k < N → J k W → YieldAt Fence.wide (n - 1) Try.prog l #[.int .u8 (bI (bt (lb x N) k))] W fun x W' => x = .returned (.bool true) ∧ J (k + 1) W')
    (W : World) (hBn : W.cell? ⟨Bn, 0, none⟩ = some (.int .i64 (N : Int))) (h0 : J 0 W) :
    CallsIn Fence.wide n Try.prog 73 #[.func (.yield l) #[] #[], .pointer (some ⟨Bn, 0, none⟩), .pointer (some ⟨Bx, 0, none⟩)] W fun x W' => (∃ v, x = .returned v) ∧ J N W' := by
  have HX := Lib.hid hx
  clear hx
  refine callsIn_of_wp Try.func73 rfl trivial ?_ rfl
  simp only [Try.ntmps73, List.size_toArray, List.length_cons, List.length_nil, Nat.reduceAdd, Nat.reduceSub, Array.replicate_succ, Array.replicate_zero, List.push_toArray, List.append_toArray, List.nil_append, List.cons_append]
  gi_wp2
  gi_loopw [4] (fun i wr => ∃ k : Nat, i = .int .i64 ((N : Int) - 1 - (k : Int)) ∧ k ≤ N ∧ J k wr) (fun i _ => (intOf i + 1).toNat)
  case atStart => exact ⟨0, by congr 1; omega, by omega, h0⟩
  case round =>
    obtain ⟨k, rfl, hk, hj⟩ := hrel
    have hc := hJ k wr hj
    by_cases hlt : k < N
    · obtain ⟨m, hm⟩ : ∃ m, N - 1 - k = m := ⟨_, rfl⟩
      have e1 : (N : Int) - 1 - (k : Int) = (m : Int) := by omega
      have hm63 : m ≤ 63 := by omega
      rw [e1]
      have e3 := bit64 HX.out m
      have HB := Lib.hid (show bI (x.testBit m) = bI (bt (lb x N) k) by rw [bt_lb x hlt, hm])
      have HY := Lib.hid (hY k wr hlt hj)
      rw [← HB.out] at HY
      clear hY hJ
      have hb := bI_bd (x.testBit m)
      generalize bI (x.testBit m) = v at *
      have hv : IntKind.u8.wrap v = v := by rw [IntKind.wrap_u8']; omega
      obtain ⟨fn, tmps, assign, body, hy, hR⟩ := HY.out
      gi_wp2
      refine hR.mono ?_
      rintro x W3 ⟨rfl, hJ3⟩
      gi_wp2
      go_roundw
      case rel => exact ⟨k + 1, by congr 1; omega, by omega, hJ3⟩
      case measure => simp [intOf]
    · obtain rfl : N = k := by omega
      have e1 : (N : Int) - 1 - (N : Int) = -1 := by omega
      rw [e1]
      gi_wp2
      go_end0
      exact ⟨⟨_, rfl⟩, hj⟩
theorem low_in (n : Nat) (x : Int) (N : Int) (w : World) :
    CallsIn Fence.wide n Try.prog 66 #[.int .u64 x, .int .i64 N] w fun e w' => e = .returned (.func (.func 73) #[] #[.pointer (some ⟨w.heap.size + 1, 0, none⟩), .pointer (some ⟨w.heap.size, 0, none⟩)]) ∧ w' = (w.alloc (.cells #[.int .u64 x] 84)).alloc (.cells #[.int .i64 N] 3) := by
  refine callsIn_of_wp Try.func66 rfl trivial ?_ rfl
  simp only [Try.ntmps66, List.size_toArray, List.length_cons, List.length_nil, Nat.reduceAdd, Nat.reduceSub, Array.replicate_succ, Array.replicate_zero, List.push_toArray, List.append_toArray, List.nil_append, List.cons_append]
  gi_wp2
  go_ret
  exact ⟨rfl, rfl⟩
theorem Chain.grown {w w' : World} {row : Option Nat} {b : Nat} {f : Nat → UInt8} (hg : w.grownBy w' row) (hr : ∀ r, row = some r → ∃ o : Obj, w.heap[r]? = some o ∧ o.isCells = false) : ∀ {m : Nat} {v : Value}, Chain w b f m v → Chain w' b f m v
  | 0, _, h => h
  | m + 1, _, h => by
    obtain ⟨c, u, e, hn, h0, hb, hch⟩ := h
    exact ⟨c, u, e, hn, cell_kept h0 hg hr, fun i hi => cell_kept (hb i hi) hg hr, hch.grown hg hr⟩
theorem OutR.grown {w w' : World} {row : Option Nat} {b : Nat} {f : Nat → UInt8} {n : Nat} (h : OutR b f n w) (hg : w.grownBy w' row) (hr : ∀ r, row = some r → ∃ o : Obj, w.heap[r]? = some o ∧ o.isCells = false) : OutR b f n w' := by
  obtain ⟨v, h1, h2⟩ := h.chain
  refine ⟨cell_kept h.cnt hg hr, fun i hi => cell_kept (h.byte i hi) hg hr, fun i hi => ?_, v, cell_kept h1 hg hr, h2.grown hg hr⟩
  have hb := h.free i hi
  have e : w'.heap[b]? = w.heap[b]? := by
    refine hg.block b h.old fun e => ?_
    obtain ⟨o, ho, hc⟩ := hr b e.symm
    obtain ⟨o2, ho2, hc2⟩ := cells_of_cell h.cnt
    rw [show (⟨b, 129, none⟩ : Addr).block = b from rfl] at ho2
    rw [ho] at ho2; cases ho2; rw [hc] at hc2; cases hc2
  exact (World.frozen?_of_block (w := w) (a := ⟨b, i, none⟩) e).trans hb
/-- While bits are written: the writer's box is block X, the number's the next one. -/
structure WrJ (w : World) (b X x : Nat) (L : List Bool) (W : World) : Prop where
  out : OutAt b L W
  co : W.cell? ⟨X, 0, none⟩ = some (.pointer (some ⟨b, 0, none⟩))
  cx : W.cell? ⟨X + 1, 0, none⟩ = some (.int .u64 (un x))
  on : Only b w W
theorem WrJ.grown {w W W' : World} {row : Option Nat} {b X x : Nat} {L : List Bool} (h : WrJ w b X x L W) (hg : W.grownBy W' row) (hr : ∀ r, row = some r → w.heap.size ≤ r ∧ ∃ o : Obj, W.heap[r]? = some o ∧ o.isCells = false) : WrJ w b X x L W' := by
  have hr2 := fun r e => (hr r e).2
  refine ⟨h.out.grown hg hr2, cell_kept h.co hg hr2, cell_kept h.cx hg hr2, ?_⟩
  exact ⟨hg.os.trans h.on.os, hg.tape.trans h.on.tape, hg.output.trans h.on.output, Nat.le_trans h.on.size hg.size, fun k hk hn => (hg.block k (Nat.lt_of_lt_of_le hk h.on.size) fun e => by have := (hr k e.symm).1; omega).trans (h.on.block k hk hn)⟩
theorem WrJ.put {w W : World} {b X x l : Nat} {L : List Bool} {o : Obj} (h : WrJ w b X x L W) (o' : Obj) (hl : w.heap.size ≤ l) (ho : W.heap[l]? = some o) (hc : o.isCells = false) : WrJ w b X x L (W.putObj l o') :=
  h.grown (grownBy_putObj' W l o') fun r e => by cases e; exact ⟨hl, o, ho, hc⟩
theorem only_others {b : Nat} {W W' : World} {a : Addr} {v : Value} (hc : W.cell? a = some v) (hb : a.block = b) (k : Only b W W') : KeepsOthers W W' :=
  ⟨k.size, fun i o hi ho => by
    refine (k.block i (Array.getElem?_eq_some_iff.1 hi).1 fun e => ?_).trans hi
    obtain ⟨o2, ho2, hc2⟩ := cells_of_cell hc
    rw [hb, ← e, hi] at ho2; cases ho2; rw [ho] at hc2; cases hc2⟩
/-- One more bit, in its byte: the writer's bytes are those of one bit more, ahead of step. -/
theorem put_bit {b : Nat} {L : List Bool} {W : World} (h : OutAt b L W) (v : Bool) {z : UInt8} (hz : z.toNat = (byt L (L.length / 8)).toNat ||| (v.toNat * 2 ^ (7 - L.length % 8))) :
    OutR b (byt (L ++ [v])) L.length (W.setCell ⟨b, 1 + L.length / 8 % 128, none⟩ (.int .u8 (z.toNat : Int))) := by
  have hz2 : z = byt (L ++ [v]) (L.length / 8) := by
    apply UInt8.toNat_inj.1; rw [hz, byt_snoc]
  obtain ⟨u, h1, h2⟩ := h.chain
  have k := Only.setCell W ⟨b, 1 + L.length / 8 % 128, none⟩ (.int .u8 (z.toNat : Int))
  refine ⟨(set_other (by omega)).trans h.cnt, fun i hi => ?_, fun i hi => by simp [h.free i hi], u, (set_other (by omega)).trans h1, (h2.only k).congr fun j hj => ?_⟩
  · by_cases e : i = L.length / 8 % 128
    · subst e
      rw [set_same (h.byte _ hi), hz2, show 128 * (L.length / 1024) + L.length / 8 % 128 = L.length / 8 by omega]
    · rw [set_other (by omega), h.byte i hi, byt_other L v (by omega)]
  · exact (byt_left [v] (by omega)).symm
end Go.Proofs.Ytofnokikjfmfgaa
