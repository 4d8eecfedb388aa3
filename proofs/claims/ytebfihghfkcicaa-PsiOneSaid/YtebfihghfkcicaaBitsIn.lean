/-
  The reader of fields of bits: Read, Get, Text and what they stand on. For texts of up to a million bytes. The memory that was there stays.
-/
import Derived.RangeFuncNested
import Derived.RangeFuncBound
import Derived.Shelf.Abstract
import Derived.Shelf.RegionOpen
import Derived.OwnWalkIn
import Derived.TacticsInMore
import Derived.LoopNIn
import Derived.LoopIn
import Derived.Test.YtebfihghfkcicaaCf
import Derived.Test.YtebfihghfkcicaaBase
import Derived.Test.YtebfihghfkcicaaShelf
namespace Go.Proofs.Ytebfihghfkcicaa
open Go.RowKit Go.Shelf Gf Bit
set_option maxRecDepth 100000
attribute [local go_sem] Oper.semAt_some
/-- A number of up to 64 bits as Go's. -/
def un (x : Nat) : Int := (x : Int)
/-- A reader lies in block b: what was wrong, the text, and where it stands. -/
structure InAt (b : Nat) (e : Int) (s : ByteArray) (k : Nat) (w : World) : Prop where
  err : w.cell? ⟨b, 0, none⟩ = some (.int .i64 e)
  txt : w.cell? ⟨b, 1, none⟩ = some (.string s)
  pos : w.cell? ⟨b, 2, none⟩ = some (.int .i64 (k : Int))
  ef : w.frozen? ⟨b, 0, none⟩ = false
  pf : w.frozen? ⟨b, 2, none⟩ = false
theorem InAt.old {b : Nat} {e : Int} {s : ByteArray} {k : Nat} {w : World} (h : InAt b e s k w) : b < w.heap.size := by
  obtain ⟨o, ho, _⟩ := cells_of_cell h.err
  exact (Array.getElem?_eq_some_iff.1 ho).1
theorem InAt.block {b : Nat} {e : Int} {s : ByteArray} {k : Nat} {w w' : World} (h : InAt b e s k w) (hb : w'.heap[b]? = w.heap[b]?) : InAt b e s k w' :=
  ⟨(World.cell?_of_block (w := w) (a := ⟨b, 0, none⟩) hb).trans h.err, (World.cell?_of_block (w := w) (a := ⟨b, 1, none⟩) hb).trans h.txt, (World.cell?_of_block (w := w) (a := ⟨b, 2, none⟩) hb).trans h.pos,
    (World.frozen?_of_block (w := w) (a := ⟨b, 0, none⟩) hb).trans h.ef, (World.frozen?_of_block (w := w) (a := ⟨b, 2, none⟩) hb).trans h.pf⟩
theorem InAt.eqv {b : Nat} {e : Int} {s : ByteArray} {k : Nat} {w w' : World} (h : InAt b e s k w) (q : Eqv w w') : InAt b e s k w' := h.block (by rw [q.heap])
theorem InAt.only {b c : Nat} {e : Int} {s : ByteArray} {k : Nat} {w w' : World} (h : InAt b e s k w) (hn : b ≠ c) (q : Only c w w') : InAt b e s k w' := h.block (q.block b h.old hn)
theorem InAt.keeps {b : Nat} {e : Int} {s : ByteArray} {k : Nat} {w w' : World} (h : InAt b e s k w) (q : Keeps w w') : InAt b e s k w' := h.block (Below.block q b h.old)
theorem InAt.setE {b : Nat} {e : Int} {s : ByteArray} {k : Nat} {w : World} (h : InAt b e s k w) (e' : Int) : InAt b e' s k (w.setCell ⟨b, 0, none⟩ (.int .i64 e')) :=
  ⟨World.cell?_setCell_same _ _ _ h.err, (set_other (by decide)).trans h.txt, (set_other (by decide)).trans h.pos, by simp [h.ef], by simp [h.pf]⟩
theorem InAt.setK {b : Nat} {e : Int} {s : ByteArray} {k : Nat} {w : World} (h : InAt b e s k w) (k' : Nat) : InAt b e s k' (w.setCell ⟨b, 2, none⟩ (.int .i64 (k' : Int))) :=
  ⟨(set_other (by decide)).trans h.err, (set_other (by decide)).trans h.txt, World.cell?_setCell_same _ _ _ h.pos, by simp [h.ef], by simp [h.pf]⟩
theorem read_any (s : ByteArray) (w : World) : Calls Try.prog 44 #[.string s] w fun e w' => e = .returned (.pointer (some ⟨w.heap.size, 0, none⟩)) ∧ InAt w.heap.size 0 s 0 w' ∧ Keeps w w' := by
  go_enter Try.func44, Try.ntmps44
  go_wp2
  go_ret
  refine ⟨rfl, ⟨?_, ?_, ?_, ?_, ?_⟩, (Keeps.refl w).alloc _⟩
  · rw [World.cell?_alloc_new]; rfl
  · rw [World.cell?_alloc_new]; rfl
  · rw [World.cell?_alloc_new]; rfl
  · exact World.frozen?_alloc_new _ _ _ _
  · exact World.frozen?_alloc_new _ _ _ _
theorem left_any {b : Nat} {e : Int} {s : ByteArray} {k : Nat} {w : World} (h : InAt b e s k w) (hs : s.size ≤ 1000000) (hk : k ≤ 8 * s.size) : Calls Try.prog 47 #[.pointer (some ⟨b, 0, none⟩)] w fun x w' => x = .returned (.int .i64 (8 * (s.size : Int) - (k : Int))) ∧ Eqv w w' := by
  obtain ⟨h1, h2, h3, h4, h5⟩ := h
  go_enter Try.func47, Try.ntmps47
  go_wp2
  go_quiet (fail)
  go_wp2
  go_ret
  exact ⟨rfl, Eqv.drewN w _⟩
/-- What fails leaves. -/
def ferr (e : Int) (now : Bool) (x : Int) : Int := if e = 0 ∧ now = true then x else e
theorem fails_any {b : Nat} {e : Int} {s : ByteArray} {k : Nat} {w : World} (h : InAt b e s k w) (now : Bool) (x : Int) : Calls Try.prog 53 #[.pointer (some ⟨b, 0, none⟩), .bool now, .int .i64 x] w fun r w' =>
    r = .returned (.bool (decide (ferr e now x ≠ 0))) ∧ w' = if e = 0 ∧ now = true then w.setCell ⟨b, 0, none⟩ (.int .i64 x) else w := by
  have h1 := h.err
  have h2 := h.ef
  have h3 := (h.setE x).err
  clear h
  go_enter Try.func53, Try.ntmps53
  by_cases he : e = 0
  · subst he
    cases now
    · go_wp2
      go_ret
      exact ⟨rfl, rfl⟩
    · go_wp2
      go_ret
      refine ⟨?_, rfl⟩
      unfold ferr
      rw [if_pos ⟨rfl, rfl⟩]
      by_cases hx : x = 0 <;> simp [hx]
  · have hb : (e == 0) = false := by simpa using he
    have hb2 : (e != 0) = true := by simpa using he
    go_wp2
    go_ret
    unfold ferr
    rw [if_neg (fun k => he k.1)]
    exact ⟨by show Ending.returned (.bool true) = _; simp [he], rfl⟩
/-- Bit k of a text, as a number. -/
def bI (b : Bool) : Int := (b.toNat : Int)
theorem bI_bd (b : Bool) : 0 ≤ bI b ∧ bI b ≤ 1 := by cases b <;> decide
theorem nat_bit (x t : Nat) : x / 2 ^ t % 2 = (x.testBit t).toNat := by
  rw [Nat.testBit_eq_decide_div_mod_eq]
  by_cases h : x / 2 ^ t % 2 = 1
  · rw [h]; rfl
  · rw [show x / 2 ^ t % 2 = 0 by omega]; rfl
theorem bit8 (x : UInt8) (t : Nat) : bits BinOp.and IntKind.u8 ((x.toNat : Int) / 2 ^ t) 1 = bI (x.toNat.testBit t) := by
  have h : x.toNat / 2 ^ t < 2 ^ 8 := Nat.lt_of_le_of_lt (Nat.div_le_self _ _) x.toNat_lt
  rw [show ((x.toNat : Int) / 2 ^ t) = ((x.toNat / 2 ^ t : Nat) : Int) by rw [Int.natCast_ediv, Int.natCast_pow]; rfl, show (1 : Int) = ((1 : Nat) : Int) from rfl, u8_and_nat _ _ h (by decide), Nat.and_one_is_mod, nat_bit]
  rfl
/-- The iterator over the next N bits: J k holds ahead of bit k; the reader goes on ahead of each call of yield. -/
theorem next1_in (n : Nat) (hn : 1 ≤ n) (l b Bn Bi : Nat) (e : Int) (s : ByteArray) (p N : Nat) (hs : s.size ≤ 1000000) (hN : p + N ≤ 8 * s.size) (J : Nat → World → Prop)
    (hJ : ∀ k W, J k W → W.cell? ⟨Bi, 0, none⟩ = some (.pointer (some ⟨b, 0, none⟩)) ∧ InAt b e s (p + k) W)
    (hY : ∀ k W W2, k < N → J k W → Eqv (W.setCell ⟨b, 2, none⟩ (.int .i64 ((p + k + 1 : Nat) : Int))) W2 → YieldAt Fence.wide (n - 1) Try.prog l #[.int .u8 (bI (bt (ob (ls s)) (p + k)))] W2 fun x W' => x = .returned (.bool true) ∧ J (k + 1) W')
    (W : World) (hBn : W.cell? ⟨Bn, 0, none⟩ = some (.int .i64 (N : Int))) (h0 : J 0 W) :
    CallsIn Fence.wide n Try.prog 58 #[.func (.yield l) #[] #[], .pointer (some ⟨Bn, 0, none⟩), .pointer (some ⟨Bi, 0, none⟩)] W fun x W' => (∃ v, x = .returned v) ∧ J N W' := by
  refine callsIn_of_wp Try.func58 rfl trivial ?_ rfl
  simp only [Try.ntmps58, List.size_toArray, List.length_cons, List.length_nil, Nat.reduceAdd, Nat.reduceSub, Array.replicate_succ, Array.replicate_zero, List.push_toArray, List.append_toArray, List.nil_append, List.cons_append]
  gi_wp2
  gi_loopw [6] (fun i wr => ∃ k : Nat, i = .int .i64 (k : Int) ∧ k ≤ N ∧ J k wr) (fun i _ => N - (intOf i).toNat)
  case atStart => exact ⟨0, rfl, by omega, h0⟩
  case round =>
    obtain ⟨k, rfl, hk, hj⟩ := hrel
    obtain ⟨hc, hI⟩ := hJ k wr hj
    by_cases hlt : k < N
    · obtain ⟨q, hq⟩ : ∃ q, p + k = q := ⟨_, rfl⟩
      rw [hq] at hI
      have hq8 : q / 8 < s.size := by omega
      have HQ := Lib.hid hq
      obtain ⟨i1, i2, i3, i4, i5⟩ := hI
      obtain ⟨j, hj8⟩ : ∃ j, q / 8 = j := ⟨_, rfl⟩
      obtain ⟨t, ht8⟩ : ∃ t, 7 - q % 8 = t := ⟨_, rfl⟩
      rw [hj8] at hq8
      have e1 : (q : Int) / 8 = (j : Int) := by omega
      have e2 : 7 - (q : Int) % 8 = (t : Int) := by omega
      have ht : t ≤ 7 := by omega
      have HBT := Lib.hid (show bI (s[j].toNat.testBit t) = bI (bt (ob (ls s)) (p + k)) by rw [bt_ob, hq, hj8, ht8, ls_get])
      have e3 := bit8 s[j] t
      rw [HBT.out] at e3
      have e4 : ((p + k + 1 : Nat) : Int) = (q : Int) + 1 := by omega
      have hY2 := hY k wr
      rw [e4] at hY2
      have HY := Lib.hid hY2
      clear hY2 hY hJ
      generalize bI (bt (ob (ls s)) (p + k)) = v at *
      gi_wp2
      refine wpIn_wide.2 ?_
      go_quiet (fail)
      obtain ⟨fn, tmps, assign, body, hy, hR⟩ := HY.out ((wr.drewN nq).setCell ⟨b, 2, none⟩ (.int .i64 ((q : Int) + 1))) hlt hj ((Eqv.drewN wr nq).setCell _ _)
      gi_wp2
      refine hR.mono ?_
      rintro x W3 ⟨rfl, hJ3⟩
      gi_wp2
      go_roundw
      case rel => exact ⟨k + 1, by go_num, by omega, hJ3⟩
      case measure => simp [intOf]; omega
    · obtain rfl : k = N := by omega
      gi_wp2
      go_end0
      exact ⟨⟨_, rfl⟩, hj⟩
end Go.Proofs.Ytebfihghfkcicaa
namespace Go.Proofs.Ytebfihghfkcicaa
open Go.RowKit Go.Shelf Gf Bit
set_option maxRecDepth 100000
attribute [local go_sem] Oper.semAt_some
theorem next_in (n : Nat) (b : Nat) (N : Int) (w : World) :
    CallsIn Fence.wide n Try.prog 57 #[.pointer (some ⟨b, 0, none⟩), .int .i64 N] w fun e w' => e = .returned (.func (.func 58) #[] #[.pointer (some ⟨w.heap.size + 1, 0, none⟩), .pointer (some ⟨w.heap.size, 0, none⟩)]) ∧ w' = (w.alloc (.cells #[.pointer (some ⟨b, 0, none⟩)] 107)).alloc (.cells #[.int .i64 N] 3) := by
  refine callsIn_of_wp Try.func57 rfl trivial ?_ rfl
  simp only [Try.ntmps57, List.size_toArray, List.length_cons, List.length_nil, Nat.reduceAdd, Nat.reduceSub, Array.replicate_succ, Array.replicate_zero, List.push_toArray, List.append_toArray, List.nil_append, List.cons_append]
  gi_wp2
  go_ret
  exact ⟨rfl, rfl⟩
theorem num_more {l : List Bool} {p k : Nat} (h : p + k < l.length) : num ((l.drop p).take (k + 1)) = 2 * num ((l.drop p).take k) + (bt l (p + k)).toNat := by
  rw [List.take_succ_eq_append_getElem (by rw [List.length_drop]; omega), num_snoc, List.getElem_drop, bt_lt h]
theorem num_take_lt (l : List Bool) (p : Nat) {k : Nat} (h : k ≤ 63) : num ((l.drop p).take k) < 2 ^ 63 :=
  Nat.lt_of_lt_of_le (num_lt _) (Nat.pow_le_pow_right (by decide) (by rw [List.length_take]; omega))
/-- One more bit behind a number. -/
theorem un_more {q : Nat} (h : q < 2 ^ 63) (b : Bool) : bits BinOp.or IntKind.u64 (un q * 2) (bI b) = un (2 * q + b.toNat) := by
  unfold un bI
  rw [show (q : Int) * 2 = ((2 * q : Nat) : Int) by omega, u64_or_nat _ _ (by omega) (by cases b <;> decide)]
  congr 1
  have : b.toNat < 2 ^ 1 := by cases b <;> decide
  have e := Nat.two_pow_add_eq_or_of_lt this q
  rw [Nat.pow_one] at e
  exact e.symm
theorem Only.far {b l : Nat} {w W W' : World} (h : Only b w W) (k : Only l W W') (hl : w.heap.size ≤ l) : Only b w W' :=
  ⟨k.os.trans h.os, k.tape.trans h.tape, k.output.trans h.output, Nat.le_trans h.size k.size, fun i hi hn => (k.block i (Nat.lt_of_lt_of_le hi h.size) (by omega)).trans (h.block i hi hn)⟩
theorem KeepsOthers.eqv {W W' : World} (h : Eqv W W') : KeepsOthers W W' := ⟨by rw [h.heap]; exact Nat.le_refl _, fun k o hk _ => by rw [h.heap]; exact hk⟩
theorem cell_block {W W' : World} {a : Addr} {v : Value} (h : W.cell? a = some v) (hb : W'.heap[a.block]? = W.heap[a.block]?) : W'.cell? a = some v := (World.cell?_of_block (w := W) hb).trans h
theorem there_cell {W : World} {a : Addr} {v : Value} (h : W.cell? a = some v) : a.block < W.heap.size := by
  obtain ⟨o, ho, _⟩ := cells_of_cell h
  exact (Array.getElem?_eq_some_iff.1 ho).1
/-- While a number is read: its box is block X, the reader's the next one. -/
structure NumJ (w : World) (b : Nat) (e : Int) (s : ByteArray) (X q : Nat) (v : Nat) (W : World) : Prop where
  rd : InAt b e s q W
  cx : W.cell? ⟨X, 0, none⟩ = some (.int .u64 (un v))
  fx : W.frozen? ⟨X, 0, none⟩ = false
  ci : W.cell? ⟨X + 1, 0, none⟩ = some (.pointer (some ⟨b, 0, none⟩))
  on : Only b w W
theorem NumJ.far {w : World} {b : Nat} {e : Int} {s : ByteArray} {X q v l : Nat} {W W' : World} (h : NumJ w b e s X q v W) (k : Only l W W') (hl : w.heap.size ≤ l) (h1 : b ≠ l) (h2 : X ≠ l) (h3 : X + 1 ≠ l) : NumJ w b e s X q v W' :=
  ⟨h.rd.only h1 k, (k.cell (p := ⟨X, 0, none⟩) (there_cell h.cx) h2).trans h.cx, (k.frozen (p := ⟨X, 0, none⟩) (there_cell h.cx) h2).trans h.fx, (k.cell (p := ⟨X + 1, 0, none⟩) (there_cell h.ci) h3).trans h.ci, h.on.far k hl⟩
theorem NumJ.eqv {w : World} {b : Nat} {e : Int} {s : ByteArray} {X q v : Nat} {W W' : World} (h : NumJ w b e s X q v W) (k : Eqv W W') : NumJ w b e s X q v W' :=
  ⟨h.rd.eqv k, (k.cell _).trans h.cx, (k.frozen _).trans h.fx, (k.cell _).trans h.ci, h.on.trans (Only.eqv k)⟩
theorem NumJ.tick {w : World} {b : Nat} {e : Int} {s : ByteArray} {X q v : Nat} {W : World} (h : NumJ w b e s X q v W) (q' : Nat) (h1 : b ≠ X) (h2 : b ≠ X + 1) : NumJ w b e s X q' v (W.setCell ⟨b, 2, none⟩ (.int .i64 (q' : Int))) :=
  have k := Only.setCell W ⟨b, 2, none⟩ (.int .i64 (q' : Int))
  ⟨h.rd.setK q', (k.cell (p := ⟨X, 0, none⟩) (there_cell h.cx) h1.symm).trans h.cx, (k.frozen (p := ⟨X, 0, none⟩) (there_cell h.cx) h1.symm).trans h.fx, (k.cell (p := ⟨X + 1, 0, none⟩) (there_cell h.ci) h2.symm).trans h.ci, h.on.trans k⟩
theorem NumJ.set {w : World} {b : Nat} {e : Int} {s : ByteArray} {X q v : Nat} {W : World} (h : NumJ w b e s X q v W) (v' : Nat) (h1 : b ≠ X) (hX : w.heap.size ≤ X) : NumJ w b e s X q v' (W.setCell ⟨X, 0, none⟩ (.int .u64 (un v'))) :=
  have k := Only.setCell W ⟨X, 0, none⟩ (.int .u64 (un v'))
  ⟨h.rd.only h1 k, World.cell?_setCell_same _ _ _ h.cx, by simp [h.fx], (k.cell (p := ⟨X + 1, 0, none⟩) (there_cell h.ci) (by show X + 1 ≠ X; omega)).trans h.ci, h.on.far k hX⟩
theorem un_wrap2 {q : Nat} (h : q < 2 ^ 63) : IntKind.u64.wrap (un q * 2) = un q * 2 := by unfold un; rw [IntKind.wrap_u64]; omega
set_option maxHeartbeats 4000000 in
theorem number_in {b : Nat} {e : Int} {s : ByteArray} {p : Nat} {w : World} (h : InAt b e s p w) (N : Nat) (hs : s.size ≤ 1000000) (hN : p + N ≤ 8 * s.size) (hN6 : N ≤ 64) :
    CallsIn Fence.wide 5 Try.prog 54 #[.pointer (some ⟨b, 0, none⟩), .int .i64 (N : Int)] w fun x w' => x = .returned (.int .u64 (un (num (((ob (ls s)).drop p).take N)))) ∧ InAt b e s (p + N) w' ∧ Only b w w' := by
  refine callsIn_of_wp_marks Try.func54 rfl trivial ?_ rfl
  simp only [Try.ntmps54, List.size_toArray, List.length_cons, List.length_nil, Nat.reduceAdd, Nat.reduceSub, Array.replicate_succ, Array.replicate_zero, List.push_toArray, List.append_toArray, List.nil_append, List.cons_append]
  gi_wp2
  refine ⟨trivial, (next_in _ _ _ _).mono ?_⟩
  rintro x w' ⟨rfl, rfl⟩
  gi_wp2
  have hbo := h.old
  have c0 := cell_new1 w (.int .u64 0) 90
  have c1 := cell_new1 (w.alloc (.cells #[.int .u64 0] 90)) (.pointer (some ⟨b, 0, none⟩)) 107
  have c2 := cell_new1 ((w.alloc (.cells #[.int .u64 0] 90)).alloc (.cells #[.pointer (some ⟨b, 0, none⟩)] 107)) (.int .i64 (N : Int)) 3
  simp only [World.size_alloc] at c1 c2
  have k3 : Keeps w (((w.alloc (.cells #[.int .u64 0] 90)).alloc (.cells #[.pointer (some ⟨b, 0, none⟩)] 107)).alloc (.cells #[.int .i64 (N : Int)] 3)) := (((Keeps.refl w).alloc _).alloc _).alloc _
  have j0 : NumJ w b e s w.heap.size p (num (((ob (ls s)).drop p).take 0)) (((w.alloc (.cells #[.int .u64 0] 90)).alloc (.cells #[.pointer (some ⟨b, 0, none⟩)] 107)).alloc (.cells #[.int .i64 (N : Int)] 3)) :=
    ⟨h.keeps k3, cell_alloc1 _ (cell_alloc1 _ c0.1), frozen_alloc1 _ (cell_alloc1 _ c0.1) (frozen_alloc1 _ c0.1 c0.2), cell_alloc1 _ c1.1, Only.below k3⟩
  have d2 := c2.1
  have sz : (((w.alloc (.cells #[.int .u64 0] 90)).alloc (.cells #[.pointer (some ⟨b, 0, none⟩)] 107)).alloc (.cells #[.int .i64 (N : Int)] 3)).heap.size = w.heap.size + 3 := by simp
  obtain ⟨w3, hw3⟩ : ∃ w3, ((w.alloc (.cells #[.int .u64 0] 90)).alloc (.cells #[.pointer (some ⟨b, 0, none⟩)] 107)).alloc (.cells #[.int .i64 (N : Int)] 3) = w3 := ⟨_, rfl⟩
  rw [hw3] at j0 d2 sz
  rw [hw3]
  clear hw3 k3 c0 c1 c2 h
  obtain ⟨X, hX⟩ : ∃ X, w.heap.size = X := ⟨_, rfl⟩
  rw [hX] at j0 d2 sz hbo
  rw [hX]
  refine wpIn_range (gf := 58) rfl (enters_of Try.func58 (by kernel_rfl) rfl) (NumJ w b e s X (p + N) (num (((ob (ls s)).drop p).take N))) ?hit ?done
  case hit =>
    intro fn r hr hL
    rw [sz] at hL ⊢
    have far : ∀ {q v : Nat} {A A' : World}, NumJ w b e s X q v A → Only (X + 3 + 1) A A' → NumJ w b e s X q v A' := fun h k => h.far k (by omega) (by omega) (by omega) (by omega)
    have hW1 : Keeps w3 ((w3.alloc (.deferred (some []))).alloc (.loop r)) := ((Keeps.refl w3).alloc _).alloc _
    refine (next1_in (5 - 1) (by omega) (X + 3 + 1) b (X + 1 + 1) (X + 1) e s p N hs hN (fun k W => Lp (X + 3) (X + 3 + 1) r W ∧ NumJ w b e s X (p + k) (num (((ob (ls s)).drop p).take k)) W) (fun k W hJ => ⟨hJ.2.ci, hJ.2.rd⟩) ?hY _ ?_ ?_).mono fun x W' hh => ⟨hh.1, hh.2.1, hh.2.2⟩
    case hY =>
      rintro k W W2 hk ⟨hl, hj⟩ he
      have hj2 := (hj.tick (p + k + 1) (by omega) (by omega)).eqv he
      have hl2 := hl.others ((KeepsOthers.setCell W ⟨b, 2, none⟩ (.int .i64 ((p + k + 1 : Nat) : Int))).trans (KeepsOthers.eqv he))
      have HN := Lib.hid (num_more (l := ob (ls s)) (p := p) (k := k) (by rw [ob_length, ← ls_size]; omega))
      have HU := Lib.hid (un_more (num_take_lt (ob (ls s)) p (k := k) (by omega)) (bt (ob (ls s)) (p + k)))
      have HQ := Lib.hid (num_take_lt (ob (ls s)) p (k := k) (by omega))
      generalize num (((ob (ls s)).drop p).take k) = q at *
      generalize num (((ob (ls s)).drop p).take (k + 1)) = q' at *
      rw [← HN.out] at HU
      have hb1 := bI_bd (bt (ob (ls s)) (p + k))
      generalize bI (bt (ob (ls s)) (p + k)) = v at *
      refine YieldAt.mono (yield_round hl2 (by omega) (by rw [hr]) (by rw [hr]) (by rw [hr]; rfl) (a₁ := ?a1) (NumJ w b e s X (p + k + 1) q') ?_ ?_) ?_
      case a1 => exact { tmps := #[.pointer (some ⟨b, 0, none⟩), .int .i64 (N : Int), undef, undef, .int .u64 0, .pointer (some ⟨X, 0, none⟩), .int .u8 v, .pointer (some ⟨b, 0, none⟩), .int .i64 (N : Int), .func (.func 58) #[] #[.pointer (some ⟨X + 1 + 1, 0, none⟩), .pointer (some ⟨X + 1, 0, none⟩)], .int .u8 v, undef, undef, undef, undef, undef, undef], defers := [] }
      · intro K hK
        rw [hr]
        gi_wp2
        exact hK
      · have hj4 := far hj2 (put_only W2 (.loop { r with state := .busy }))
        generalize W2.putObj (X + 3 + 1) (.loop { r with state := .busy }) = W4 at *
        obtain ⟨r1, cx, fx, ci, on⟩ := hj4
        rw [hr]
        gi_wp2
        rw [un_wrap2 HQ.out, HU.out]
        exact ⟨KeepsOthers.setCell _ _ _, (NumJ.mk r1 cx fx ci on).set q' (by omega) (by omega)⟩
      · rintro x W'' ⟨rfl, h1, W', h2, rfl, h3⟩
        exact ⟨rfl, h1, far h2 (put_only _ _)⟩
    · exact (hW1.trans (Below.refl _ _)).cell (p := ⟨X + 1 + 1, 0, none⟩) (there_cell d2) |>.trans d2
    · exact ⟨hL, j0.far (Only.below hW1 (b := X + 3 + 1)) (by omega) (by omega) (by omega) (by omega)⟩
  case done =>
    intro W o hE hd
    have hE2 := hE.far (put_only (l := w3.heap.size + 1) W o) (by omega) (by omega) (by omega) (by omega)
    generalize W.putObj (w3.heap.size + 1) o = W5 at *
    clear hE
    obtain ⟨r1, cx, fx, ci, on⟩ := hE2
    gi_wp2
    have k := put_only (l := w3.heap.size) W5 (.deferred none)
    refine ⟨by simp, .inl ⟨_, _, rfl, run_takeDeferred hd, ?_⟩⟩
    refine ⟨_, ?_, rfl, r1.only (by omega) k, on.far k (by omega)⟩
    simp [results, Try.f54, go_sem]
theorem number_any {b : Nat} {e : Int} {s : ByteArray} {p : Nat} {w : World} (h : InAt b e s p w) (N : Nat) (hs : s.size ≤ 1000000) (hN : p + N ≤ 8 * s.size) (hN6 : N ≤ 64) :
    Calls Try.prog 54 #[.pointer (some ⟨b, 0, none⟩), .int .i64 (N : Int)] w fun x w' => x = .returned (.int .u64 (un (num (((ob (ls s)).drop p).take N)))) ∧ InAt b e s (p + N) w' ∧ Only b w w' :=
  (callsIn_wide (n := 5)).1 (number_in h N hs hN hN6)
end Go.Proofs.Ytebfihghfkcicaa
namespace Go.Proofs.Ytebfihghfkcicaa
open Go.RowKit Go.Shelf Gf Bit
set_option maxRecDepth 100000
/-- The world behind fails. -/
def fw (w : World) (b : Nat) (e : Int) (now : Bool) (x : Int) : World := if e = 0 ∧ now = true then w.setCell ⟨b, 0, none⟩ (.int .i64 x) else w
theorem fails_eqv {b : Nat} {e : Int} {s : ByteArray} {k : Nat} {w W : World} (h : InAt b e s k w) (q : Eqv w W) (now : Bool) (x : Int) : Calls Try.prog 53 #[.pointer (some ⟨b, 0, none⟩), .bool now, .int .i64 x] W fun r w' =>
    r = .returned (.bool (decide (ferr e now x ≠ 0))) ∧ Eqv (fw w b e now x) w' :=
  (fails_any (h.eqv q) now x).mono fun r w' hh => ⟨hh.1, by
    rw [hh.2]; unfold fw
    by_cases he : e = 0 ∧ now = true
    · rw [if_pos he, if_pos he]; exact q.setCell _ _
    · rw [if_neg he, if_neg he]; exact q⟩
theorem fw_in {b : Nat} {e : Int} {s : ByteArray} {k : Nat} {w : World} (h : InAt b e s k w) (now : Bool) (x : Int) : InAt b (ferr e now x) s k (fw w b e now x) := by
  unfold fw ferr
  by_cases he : e = 0 ∧ now = true
  · rw [if_pos he, if_pos he]; exact h.setE x
  · rw [if_neg he, if_neg he]; exact h
theorem fw_only (w : World) (b : Nat) (e : Int) (now : Bool) (x : Int) : Only b w (fw w b e now x) := by
  unfold fw
  by_cases he : e = 0 ∧ now = true
  · rw [if_pos he]; exact Only.setCell w ⟨b, 0, none⟩ _
  · rw [if_neg he]; exact Only.refl _ _
theorem ferr_ok (x : Int) : ferr 0 false x = 0 := rfl
set_option maxHeartbeats 4000000 in
/-- Something was wrong, or is now. -/
theorem get_first {b : Nat} {e : Int} {s : ByteArray} {p : Nat} {w : World} (h : InAt b e s p w) (n : Int) (now : Bool) (hnow : now = (decide (n < 0) || decide (n > 64))) (hf : ferr e now 1 ≠ 0) :
    Calls Try.prog 45 #[.pointer (some ⟨b, 0, none⟩), .int .i64 n] w fun x w' => x = .returned (.int .u64 0) ∧ InAt b (ferr e now 1) s p w' ∧ Only b w w' := by
  have HF := Lib.hid (show ∀ W, Eqv w W → Calls Try.prog 53 #[.pointer (some ⟨b, 0, none⟩), .bool now, .int .i64 1] W fun r w' => r = .returned (.bool true) ∧ Eqv (fw w b e now 1) w' from
    fun W q => (fails_eqv h q now 1).mono fun r w' hh => ⟨by rw [hh.1, decide_eq_true hf], hh.2⟩)
  have HI := Lib.hid (fw_in h now 1)
  have HO := Lib.hid (fw_only w b e now 1)
  generalize ferr e now 1 = e1 at *
  generalize fw w b e now 1 = w1 at *
  clear h hf
  by_cases h0 : n < 0
  · have hn : now = true := by rw [hnow, decide_eq_true h0]; rfl
    subst hn
    clear hnow
    go_enter Try.func45, Try.ntmps45
    go_wp2
    refine wp_draw (by kernel_rfl)
      [.pointer (some ⟨b, 0, none⟩), .bool false, .bool false, .pointer (some ⟨b, 0, none⟩), .pointer (some ⟨b, 0, none⟩), .pointer (some ⟨b, 0, none⟩), .int .i64 n, .bool true, .bool true, undef, undef, .bool true, .bool true, .bool true, .bool true, undef, undef, undef, undef, undef, undef, undef, undef, .bool true]
      (Once 12 (Eqv w) (Eqv w1)) rfl (by kernel_rfl) (fin := ?finA) ?hfinA (Once.start (Eqv.drew w)) ?eachA ?hendA
    case hfinA => simp [seqA, dstOf, Act.put]; rfl
    case eachA =>
      refine ⟨?_, ?_, ?_, ?_, ?_, ?_, ?_, ?_, ?_, ?_, ?_, ?_, ?_, ?_, ?_, ?_, ?_, ?_, ?_, ?_, ?_, ?_, ?_, ?_, trivial⟩
      all_goals intro L w7 h0 hd hs hw
      all_goals try simp only [Nat.zero_add, Nat.reduceAdd] at h0
      all_goals first | rw [if_pos (by rfl)] | rw [if_neg (by decide)] | skip
      all_goals first | exact ⟨fun _ => rfl, fun L' k => hw.same (by decide) k⟩ | skip
      all_goals unfold Does
      all_goals try (go_simp; exact fun L' k => hw.same (by decide) k)
      · have hA := hw.1 h0
        go_simp
        refine (HF.out w7 hA).mono ?_
        rintro r w6 ⟨rfl, he⟩
        exact ⟨_, rfl, rfl, fun L' k => Once.done k he⟩
    case hendA =>
      intro L w7 hL hw
      have hC := hw.2 (hL 12 (by simp))
      go_wp2
      go_ret
      exact ⟨rfl, HI.out.eqv hC, HO.out.trans (Only.eqv hC)⟩
  · have hn : decide (64 < n) = now := by rw [hnow, decide_eq_false h0]; rfl
    clear hnow
    go_enter Try.func45, Try.ntmps45
    go_wp2
    refine wp_draw (by kernel_rfl)
      [.pointer (some ⟨b, 0, none⟩), .bool false, .bool false, .pointer (some ⟨b, 0, none⟩), .pointer (some ⟨b, 0, none⟩), .pointer (some ⟨b, 0, none⟩), .int .i64 n, .bool false, .bool false, .int .i64 n, .bool now, .bool now, .bool true, .bool true, .bool true, undef, undef, undef, undef, undef, undef, undef, undef, .bool true]
      (Once 12 (Eqv w) (Eqv w1)) rfl (by kernel_rfl) (fin := ?finB) ?hfinB (Once.start (Eqv.drew w)) ?eachB ?hendB
    case hfinB => simp [seqA, dstOf, Act.put]; rfl
    case eachB =>
      refine ⟨?_, ?_, ?_, ?_, ?_, ?_, ?_, ?_, ?_, ?_, ?_, ?_, ?_, ?_, ?_, ?_, ?_, ?_, ?_, ?_, ?_, ?_, ?_, ?_, trivial⟩
      all_goals intro L w7 h0 hd hs hw
      all_goals try simp only [Nat.zero_add, Nat.reduceAdd] at h0
      all_goals first | rw [if_pos (by rfl)] | rw [if_neg (by decide)] | skip
      all_goals first | exact ⟨fun _ => rfl, fun L' k => hw.same (by decide) k⟩ | skip
      all_goals unfold Does
      all_goals try (go_simp; exact fun L' k => hw.same (by decide) k)
      · have hA := hw.1 h0
        go_simp
        refine (HF.out w7 hA).mono ?_
        rintro r w6 ⟨rfl, he⟩
        exact ⟨_, rfl, rfl, fun L' k => Once.done k he⟩
    case hendB =>
      intro L w7 hL hw
      have hC := hw.2 (hL 12 (by simp))
      go_wp2
      go_ret
      exact ⟨rfl, HI.out.eqv hC, HO.out.trans (Only.eqv hC)⟩
set_option maxHeartbeats 4000000 in
/-- Nothing is wrong with n: there are so many bits, or not. -/
theorem get_next {b : Nat} {s : ByteArray} {p : Nat} {w : World} (h : InAt b 0 s p w) (N : Nat) (hN : N ≤ 64) (hs : s.size ≤ 1000000) (hp : p ≤ 8 * s.size) (f : Bool) (hf : decide ((N : Int) > 8 * (s.size : Int) - (p : Int)) = f) :
    Calls Try.prog 45 #[.pointer (some ⟨b, 0, none⟩), .int .i64 (N : Int)] w fun x w' => x = .returned (.int .u64 (if f then 0 else un (num (((ob (ls s)).drop p).take N)))) ∧ InAt b (if f then 10 else 0) s (if f then p else p + N) w' ∧ Only b w w' := by
  have H1 := Lib.hid (show ∀ W, Eqv w W → Calls Try.prog 53 #[.pointer (some ⟨b, 0, none⟩), .bool false, .int .i64 1] W fun r w' => r = .returned (.bool false) ∧ Eqv w w' from
    fun W q => (fails_eqv h q false 1).mono fun r w' hh => ⟨hh.1, hh.2⟩)
  have H2 := Lib.hid (show ∀ W, Eqv w W → Calls Try.prog 53 #[.pointer (some ⟨b, 0, none⟩), .bool f, .int .i64 10] W fun r w' => r = .returned (.bool f) ∧ Eqv (fw w b 0 f 10) w' from
    fun W q => (fails_eqv h q f 10).mono fun r w' hh => ⟨by rw [hh.1]; cases f <;> rfl, hh.2⟩)
  have H3 := Lib.hid (show ∀ W, Eqv w W → Calls Try.prog 47 #[.pointer (some ⟨b, 0, none⟩)] W fun r w' => r = .returned (.int .i64 (8 * (s.size : Int) - (p : Int))) ∧ Eqv w w' from
    fun W q => (left_any (h.eqv q) hs hp).mono fun r w' hh => ⟨hh.1, q.trans hh.2⟩)
  have HI := Lib.hid (fw_in h f 10)
  have HO := Lib.hid (fw_only w b 0 f 10)
  generalize fw w b 0 f 10 = w1 at *
  clear h
  have hn0 : ¬ ((N : Int) < 0) := by omega
  have hn1 : ¬ ((64 : Int) < (N : Int)) := by omega
  have hfr : decide (8 * (s.size : Int) - (p : Int) < (N : Int)) = f := hf
  go_enter Try.func45, Try.ntmps45
  go_wp2
  refine wp_draw (by kernel_rfl)
    [.pointer (some ⟨b, 0, none⟩), .bool false, .bool false, .pointer (some ⟨b, 0, none⟩), .pointer (some ⟨b, 0, none⟩), .pointer (some ⟨b, 0, none⟩), .int .i64 (N : Int), .bool false, .bool false, .int .i64 (N : Int), .bool false, .bool false, .bool false, .bool false, .bool false, .pointer (some ⟨b, 0, none⟩), .pointer (some ⟨b, 0, none⟩), .pointer (some ⟨b, 0, none⟩), .int .i64 (N : Int), .pointer (some ⟨b, 0, none⟩), .int .i64 (8 * (s.size : Int) - (p : Int)), .bool f, .bool f, .bool f]
    (Once 22 (Eqv w) (Eqv w1)) rfl (by kernel_rfl) (fin := ?finC) ?hfinC (Once.start (Eqv.drew w)) ?eachC ?hendC
  case hfinC => simp [seqA, dstOf, Act.put]; rfl
  case eachC =>
    refine ⟨?_, ?_, ?_, ?_, ?_, ?_, ?_, ?_, ?_, ?_, ?_, ?_, ?_, ?_, ?_, ?_, ?_, ?_, ?_, ?_, ?_, ?_, ?_, ?_, trivial⟩
    all_goals intro L w7 h0 hd hs hw
    all_goals try simp only [Nat.zero_add, Nat.reduceAdd] at h0
    all_goals first | rw [if_pos (by rfl)] | rw [if_neg (by decide)] | skip
    all_goals first | exact ⟨fun _ => rfl, fun L' k => hw.same (by decide) k⟩ | skip
    all_goals unfold Does
    all_goals try (go_simp; exact fun L' k => hw.same (by decide) k)
    · have h22 := hs.no (j := 22) (by kernel_rfl) (hs.no (j := 14) (by kernel_rfl) (hs.no (j := 13) (by kernel_rfl) h0))
      go_simp
      refine (H1.out w7 (hw.1 h22)).mono ?_
      rintro r w6 ⟨rfl, he⟩
      exact ⟨_, rfl, rfl, fun L' k => ⟨fun _ => he, fun hx => by rw [same_at k (by decide), h22] at hx; cases hx⟩⟩
    · have h22 := hs.no (j := 22) (by kernel_rfl) (hs.no (j := 21) (by kernel_rfl) h0)
      go_simp
      refine (H3.out w7 (hw.1 h22)).mono ?_
      rintro r w6 ⟨rfl, he⟩
      exact ⟨_, rfl, rfl, fun L' k => ⟨fun _ => he, fun hx => by rw [same_at k (by decide), h22] at hx; cases hx⟩⟩
    · go_simp
      refine (H2.out w7 (hw.1 h0)).mono ?_
      rintro r w6 ⟨rfl, he⟩
      exact ⟨_, rfl, rfl, fun L' k => Once.done k he⟩
  case hendC =>
    intro L w7 hL hw
    have hC := hw.2 (hL 22 (by simp))
    have HW := Lib.hid (HI.out.eqv hC)
    have HP := Lib.hid (HO.out.trans (Only.eqv hC))
    have HFF := Lib.hid hf
    clear hfr hf hw hL
    cases f
    · have HM := Lib.hid (number_any HW.out N hs (by have := of_decide_eq_false HFF.out; omega) hN)
      go_wp2_with (go_at_call 54; refine HM.out.mono ?_; rintro x w9 ⟨rfl, h1, h2⟩)
      go_ret
      exact ⟨rfl, h1, HP.out.trans h2⟩
    · go_wp2
      go_ret
      exact ⟨rfl, HW.out, HP.out⟩
/-- The number of the next N bits. -/
theorem get_ok {b : Nat} {s : ByteArray} {p : Nat} {w : World} (h : InAt b 0 s p w) (N : Nat) (hN : N ≤ 64) (hs : s.size ≤ 1000000) (hp : p + N ≤ 8 * s.size) :
    Calls Try.prog 45 #[.pointer (some ⟨b, 0, none⟩), .int .i64 (N : Int)] w fun x w' => x = .returned (.int .u64 (un (num (((ob (ls s)).drop p).take N)))) ∧ InAt b 0 s (p + N) w' ∧ Only b w w' :=
  get_next h N hN hs (by omega) false (decide_eq_false (by omega))
theorem get_short {b : Nat} {s : ByteArray} {p : Nat} {w : World} (h : InAt b 0 s p w) (N : Nat) (hN : N ≤ 64) (hs : s.size ≤ 1000000) (hp : p ≤ 8 * s.size) (hx : 8 * s.size < p + N) :
    Calls Try.prog 45 #[.pointer (some ⟨b, 0, none⟩), .int .i64 (N : Int)] w fun x w' => x = .returned (.int .u64 0) ∧ InAt b 10 s p w' ∧ Only b w w' :=
  get_next h N hN hs hp true (decide_eq_true (by omega))
theorem get_arg {b : Nat} {s : ByteArray} {p : Nat} {w : World} (h : InAt b 0 s p w) (n : Int) (hn : n < 0 ∨ n > 64) :
    Calls Try.prog 45 #[.pointer (some ⟨b, 0, none⟩), .int .i64 n] w fun x w' => x = .returned (.int .u64 0) ∧ InAt b 1 s p w' ∧ Only b w w' :=
  get_first h n true (by rcases hn with hn | hn <;> simp [hn]) (by decide)
theorem get_bad {b : Nat} {e : Int} {s : ByteArray} {p : Nat} {w : World} (h : InAt b e s p w) (n : Int) (he : e ≠ 0) :
    Calls Try.prog 45 #[.pointer (some ⟨b, 0, none⟩), .int .i64 n] w fun x w' => x = .returned (.int .u64 0) ∧ InAt b e s p w' ∧ Only b w w' := by
  have e1 : ferr e (decide (n < 0) || decide (n > 64)) 1 = e := by unfold ferr; rw [if_neg fun k => he k.1]
  have := get_first h n _ rfl (by rw [e1]; exact he)
  rwa [e1] at this
end Go.Proofs.Ytebfihghfkcicaa
namespace Go.Proofs.Ytebfihghfkcicaa
open Go.RowKit Go.Shelf Gf Bit
set_option maxRecDepth 100000
theorem ob_take : ∀ (l : List UInt8) (n : Nat), (ob l).take (8 * n) = ob (l.take n)
  | [], n => by simp [ob]
  | a :: l, 0 => by simp [ob]
  | a :: l, n + 1 => by
    rw [ob, List.take_succ_cons, ob, List.take_append, List.take_of_length_le (by rw [lb_length]; omega), lb_length, show 8 * (n + 1) - 8 = 8 * n by omega, ob_take l n]
theorem ob_drop : ∀ (l : List UInt8) (n : Nat), (ob l).drop (8 * n) = ob (l.drop n)
  | [], n => by simp [ob]
  | a :: l, 0 => by simp
  | a :: l, n + 1 => by
    rw [ob, List.drop_succ_cons, List.drop_append, List.drop_of_length_le (by rw [lb_length]; omega), lb_length, show 8 * (n + 1) - 8 = 8 * n by omega, List.nil_append, ob_drop l n]
/-- The next N bytes, from bit p on. -/
def nx (s : ByteArray) (p N : Nat) : List UInt8 := pack (((ob (ls s)).drop p).take (8 * N))
theorem nx_length {s : ByteArray} {p N : Nat} (h : p + 8 * N ≤ 8 * s.size) : (nx s p N).length = N := by
  unfold nx; rw [pack_length, List.length_take, List.length_drop, ob_length, ← ls_size]; omega
theorem nx_whole {s : ByteArray} {p N : Nat} (h8 : p % 8 = 0) : nx s p N = ((ls s).drop (p / 8)).take N := by
  unfold nx
  rw [show p = 8 * (p / 8) by omega, ob_drop, ob_take, pack_ob, show 8 * (p / 8) / 8 = p / 8 by omega]
theorem nx_get {s : ByteArray} {p N k : Nat} (h : p + 8 * N ≤ 8 * s.size) (hk : k < N) : un (num (((ob (ls s)).drop (p + 8 * k)).take 8)) = ((cf (nx s p N) k).toNat : Int) := by
  unfold nx un
  rw [cf_pack, byt_nat]
  have e : ((ob (ls s)).drop (p + 8 * k)).take 8 = (List.range 8).map fun i => bt (((ob (ls s)).drop p).take (8 * N)) (8 * k + i) := by
    refine list_ext_bt (by rw [List.length_take, List.length_drop, ob_length, ← ls_size, List.length_map, List.length_range]; omega) fun i hi => ?_
    rw [List.length_take] at hi
    have hi8 : i < 8 := by omega
    rw [bt_take hi8, bt_drop, bt_lt (L := (List.range 8).map _) (by rw [List.length_map, List.length_range]; exact hi8), List.getElem_map, List.getElem_range, bt_take (by omega), bt_drop, Nat.add_assoc]
  rw [e]
/-- The first k bytes, and bytes 0 behind them. -/
def mix (R : List UInt8) (k : Nat) : List UInt8 := R.take k ++ z8 (R.length - k)
theorem mix_zero (R : List UInt8) : mix R 0 = z8 R.length := rfl
theorem mix_all (R : List UInt8) : mix R R.length = R := by unfold mix; rw [List.take_length, Nat.sub_self]; exact List.append_nil _
theorem mix_length {R : List UInt8} {k : Nat} (h : k ≤ R.length) : (mix R k).length = R.length := by
  unfold mix z8; rw [List.length_append, List.length_take, List.length_replicate]; omega
theorem cf_mix {R : List UInt8} {k : Nat} (h : k ≤ R.length) (i : Nat) : cf (mix R k) i = if i < k then cf R i else 0 := by
  unfold mix cf z8
  rw [List.getD_eq_getElem?_getD, List.getElem?_append, List.length_take, Nat.min_eq_left h]
  by_cases hi : i < k
  · rw [if_pos hi, if_pos hi, List.getElem?_take_of_lt hi, List.getD_eq_getElem?_getD]
  · rw [if_neg hi, if_neg hi, List.getElem?_replicate]
    by_cases h2 : i - k < R.length - k <;> simp [h2]
theorem mix_set {R : List UInt8} {k : Nat} (h : k < R.length) : (mix R k).set k (cf R k) = mix R (k + 1) := by
  refine list_ext_cf (by rw [List.length_set, mix_length (by omega), mix_length (by omega)]) fun i _ => ?_
  rw [cf_set _ _ _ (by rw [mix_length (by omega)]; exact h), cf_mix (by omega), cf_mix (by omega)]
  by_cases e : i = k
  · subst e; rw [if_pos rfl, if_pos (by omega)]
  · rw [if_neg e]
    by_cases h2 : i < k
    · rw [if_pos h2, if_pos (by omega)]
    · rw [if_neg h2, if_neg (by omega)]
set_option maxHeartbeats 4000000 in
/-- Something was wrong, or is now. -/
theorem text_first {b : Nat} {e : Int} {s : ByteArray} {p : Nat} {w : World} (h : InAt b e s p w) (n : Int) (now : Bool) (hnow : decide (n < 0) = now) (hf : ferr e now 1 ≠ 0) :
    Calls Try.prog 46 #[.pointer (some ⟨b, 0, none⟩), .int .i64 n] w fun x w' => x = .returned (.string (st [])) ∧ InAt b (ferr e now 1) s p w' ∧ Only b w w' := by
  have HF := Lib.hid (show ∀ W, Eqv w W → Calls Try.prog 53 #[.pointer (some ⟨b, 0, none⟩), .bool now, .int .i64 1] W fun r w' => r = .returned (.bool true) ∧ Eqv (fw w b e now 1) w' from
    fun W q => (fails_eqv h q now 1).mono fun r w' hh => ⟨by rw [hh.1, decide_eq_true hf], hh.2⟩)
  have HI := Lib.hid (fw_in h now 1)
  have HO := Lib.hid (fw_only w b e now 1)
  generalize ferr e now 1 = e1 at *
  generalize fw w b e now 1 = w1 at *
  clear h hf
  go_enter Try.func46, Try.ntmps46
  go_wp2
  refine wp_draw (by kernel_rfl)
    [.pointer (some ⟨b, 0, none⟩), .bool false, .bool false, .pointer (some ⟨b, 0, none⟩), .pointer (some ⟨b, 0, none⟩), .pointer (some ⟨b, 0, none⟩), .int .i64 n, .bool now, .bool true, .bool true, .bool true, undef, undef, undef, undef, undef, undef, undef, undef, undef, .bool true]
    (Once 8 (Eqv w) (Eqv w1)) rfl (by kernel_rfl) (fin := ?finA) ?hfinA (Once.start (Eqv.drew w)) ?eachA ?hendA
  case hfinA => simp [seqA, dstOf, Act.put]; rfl
  case eachA =>
    refine ⟨?_, ?_, ?_, ?_, ?_, ?_, ?_, ?_, ?_, ?_, ?_, ?_, ?_, ?_, ?_, ?_, ?_, ?_, ?_, ?_, ?_, trivial⟩
    all_goals intro L w7 h0 hd hs hw
    all_goals try simp only [Nat.zero_add, Nat.reduceAdd] at h0
    all_goals first | rw [if_pos (by rfl)] | rw [if_neg (by decide)] | skip
    all_goals first | exact ⟨fun _ => rfl, fun L' k => hw.same (by decide) k⟩ | skip
    all_goals unfold Does
    all_goals try (go_simp; exact fun L' k => hw.same (by decide) k)
    · go_simp
      refine (HF.out w7 (hw.1 h0)).mono ?_
      rintro r w6 ⟨rfl, he⟩
      exact ⟨_, rfl, rfl, fun L' k => Once.done k he⟩
  case hendA =>
    intro L w7 hL hw
    have hC := hw.2 (hL 8 (by simp))
    go_wp2
    go_ret
    exact ⟨rfl, HI.out.eqv hC, HO.out.trans (Only.eqv hC)⟩
def txRel (w : World) (b g : Nat) (s : ByteArray) (p N : Nat) (R : List UInt8) (i : Value) (wr : World) : Prop := ∃ k : Nat, k ≤ N ∧ i = .int .i64 (k : Int) ∧ InAt b 0 s (p + 8 * k) wr ∧ Blk g (mix R k) wr ∧ Only b w wr
set_option maxHeartbeats 4000000 in
/-- Nothing is wrong with n: there are so many bytes, or not. -/
theorem text_next {b : Nat} {s : ByteArray} {p : Nat} {w : World} (h : InAt b 0 s p w) (n : Int) (hn : 0 ≤ n ∧ n ≤ 9223372036854775807) (hs : s.size ≤ 1000000) (hp : p ≤ 8 * s.size) (f : Bool) (hf : decide (n > (8 * (s.size : Int) - (p : Int)) / 8) = f) :
    Calls Try.prog 46 #[.pointer (some ⟨b, 0, none⟩), .int .i64 n] w fun x w' => x = .returned (.string (st (if f then [] else nx s p n.toNat))) ∧ InAt b (if f then 10 else 0) s (if f then p else p + 8 * n.toNat) w' ∧ Only b w w' := by
  have H1 := Lib.hid (show ∀ W, Eqv w W → Calls Try.prog 53 #[.pointer (some ⟨b, 0, none⟩), .bool false, .int .i64 1] W fun r w' => r = .returned (.bool false) ∧ Eqv w w' from
    fun W q => (fails_eqv h q false 1).mono fun r w' hh => ⟨hh.1, hh.2⟩)
  have H2 := Lib.hid (show ∀ W, Eqv w W → Calls Try.prog 53 #[.pointer (some ⟨b, 0, none⟩), .bool f, .int .i64 10] W fun r w' => r = .returned (.bool f) ∧ Eqv (fw w b 0 f 10) w' from
    fun W q => (fails_eqv h q f 10).mono fun r w' hh => ⟨by rw [hh.1]; cases f <;> rfl, hh.2⟩)
  have H3 := Lib.hid (show ∀ W, Eqv w W → Calls Try.prog 47 #[.pointer (some ⟨b, 0, none⟩)] W fun r w' => r = .returned (.int .i64 (8 * (s.size : Int) - (p : Int))) ∧ Eqv w w' from
    fun W q => (left_any (h.eqv q) hs hp).mono fun r w' hh => ⟨hh.1, q.trans hh.2⟩)
  have HI := Lib.hid (fw_in h f 10)
  have HO := Lib.hid (fw_only w b 0 f 10)
  have hbo := h.old
  generalize fw w b 0 f 10 = w1 at *
  clear h
  have hn0 : ¬ (n < 0) := by omega
  obtain ⟨lt, hlt⟩ : ∃ lt, 8 * (s.size : Int) - (p : Int) = lt := ⟨_, rfl⟩
  rw [hlt] at hf H3
  have hltb : 0 ≤ lt ∧ lt ≤ 8000000 := by omega
  obtain ⟨lf, hlf⟩ : ∃ lf, lt / 8 = lf := ⟨_, rfl⟩
  rw [hlf] at hf
  have hlb : 0 ≤ lf ∧ lf ≤ 1000000 := by omega
  have hfr : decide (lf < n) = f := hf
  have hq8 : IntKind.i64.wrap (lt.tdiv 8) = lf := by
    rw [Int.tdiv_eq_ediv_of_nonneg hltb.1, hlf]; simp [IntKind.wrap, IntKind.bits, IntKind.signed]; omega
  go_enter Try.func46, Try.ntmps46
  go_wp2
  refine wp_draw (by kernel_rfl)
    [.pointer (some ⟨b, 0, none⟩), .bool false, .bool false, .pointer (some ⟨b, 0, none⟩), .pointer (some ⟨b, 0, none⟩), .pointer (some ⟨b, 0, none⟩), .int .i64 n, .bool false, .bool false, .bool false, .bool false, .pointer (some ⟨b, 0, none⟩), .pointer (some ⟨b, 0, none⟩), .pointer (some ⟨b, 0, none⟩), .int .i64 n, .pointer (some ⟨b, 0, none⟩), .int .i64 lt, .int .i64 lf, .bool f, .bool f, .bool f]
    (Once 19 (Eqv w) (Eqv w1)) rfl (by kernel_rfl) (fin := ?finC) ?hfinC (Once.start (Eqv.drew w)) ?eachC ?hendC
  case hfinC => simp [seqA, dstOf, Act.put]; rfl
  case eachC =>
    refine ⟨?_, ?_, ?_, ?_, ?_, ?_, ?_, ?_, ?_, ?_, ?_, ?_, ?_, ?_, ?_, ?_, ?_, ?_, ?_, ?_, ?_, trivial⟩
    all_goals intro L w7 h0 hd hs hw
    all_goals try simp only [Nat.zero_add, Nat.reduceAdd] at h0
    all_goals first | rw [if_pos (by rfl)] | rw [if_neg (by decide)] | skip
    all_goals first | exact ⟨fun _ => rfl, fun L' k => hw.same (by decide) k⟩ | skip
    all_goals unfold Does
    all_goals try (go_simp; exact fun L' k => hw.same (by decide) k)
    · have h22 := hs.no (j := 19) (by kernel_rfl) (hs.no (j := 10) (by kernel_rfl) (hs.no (j := 9) (by kernel_rfl) h0))
      go_simp
      refine (H1.out w7 (hw.1 h22)).mono ?_
      rintro r w6 ⟨rfl, he⟩
      exact ⟨_, rfl, rfl, fun L' k => ⟨fun _ => he, fun hx => by rw [same_at k (by decide), h22] at hx; cases hx⟩⟩
    · have h22 := hs.no (j := 19) (by kernel_rfl) (hs.no (j := 18) (by kernel_rfl) (hs.no (j := 17) (by kernel_rfl) h0))
      go_simp
      refine (H3.out w7 (hw.1 h22)).mono ?_
      rintro r w6 ⟨rfl, he⟩
      exact ⟨_, rfl, rfl, fun L' k => ⟨fun _ => he, fun hx => by rw [same_at k (by decide), h22] at hx; cases hx⟩⟩
    · go_simp
      refine (H2.out w7 (hw.1 h0)).mono ?_
      rintro r w6 ⟨rfl, he⟩
      exact ⟨_, rfl, rfl, fun L' k => Once.done k he⟩
  case hendC =>
    intro L w7 hL hw
    have hC := hw.2 (hL 19 (by simp))
    have HW := Lib.hid (HI.out.eqv hC)
    have HP := Lib.hid (HO.out.trans (Only.eqv hC))
    have HFF := Lib.hid hf
    clear hfr hf hw hL
    cases f
    · have hle := of_decide_eq_false HFF.out
      obtain ⟨N, hN⟩ : ∃ N : Nat, n = (N : Int) := ⟨n.toNat, by omega⟩
      subst hN
      have hN1 : p + 8 * N ≤ 8 * s.size := by omega
      obtain ⟨i1, i2, i3, i4, i5⟩ := HW.out
      have hle2 : ((p + 8 * N : Nat) : Int) = (p : Int) + 8 * (N : Int) := by omega
      have HS := Lib.hid (HW.out.setK (p + 8 * N))
      rw [hle2] at HS
      have hpI : (p : Int) ≤ 8000000 := by omega
      have hNI : (N : Int) ≤ 1000000 := by omega
      by_cases h8 : p % 8 = 0
      · obtain ⟨j, hj⟩ : ∃ j, p / 8 = j := ⟨_, rfl⟩
        have e1 : (p : Int) / 8 = (j : Int) := by omega
        have e2 : (p : Int) % 8 = 0 := by omega
        have hjN : (j : Int) + (N : Int) ≤ (s.size : Int) := by omega
        have j2 := HS.out.txt
        have HX := Lib.hid (show s.extract j (j + N) = st (nx s p N) by
          have := congrArg st (ls_part s j (j + N))
          rw [st_ls] at this
          rw [this, nx_whole h8, hj, Nat.add_sub_cancel_left])
        have hxs : (s.extract j (j + N)).size ≤ 1000000000 := by rw [HX.out, st_size, nx_length hN1]; omega
        have HC := Lib.hid fun W => clone_any (s.extract j (j + N)) W hxs
        go_wp2_with (go_at_call 39; refine (HC.out _).mono ?_; rintro x w9 ⟨rfl, hb⟩)
        go_ret
        exact ⟨by show Ending.returned (.string (s.extract j (j + N))) = _; rw [HX.out], HS.out.keeps hb, (HP.out.trans (Only.setCell w7 ⟨b, 2, none⟩ _)).trans (Only.below hb)⟩
      · have e2 : ¬ ((p : Int) % 8 = 0) := by omega
        have hlen := nx_length hN1
        have HG := Lib.hid fun k (hk : k < N) => nx_get (s := s) (p := p) hN1 hk
        clear HS
        obtain ⟨R, hR⟩ : ∃ R, nx s p N = R := ⟨_, rfl⟩
        have HR := Lib.hid hR
        rw [hR] at hlen HG
        clear hR
        have hmk := make8 N (by omega) w7
        have hB := Blk.make w7 N
        have hA := Keeps.alloc (Keeps.refl w7) (.cells (zr N) 5)
        have hI := HW.out.keeps hA
        have hO := HP.out.trans (Only.below hA)
        have hg : w7.heap.size = w7.heap.size := rfl
        rw [show z8 N = mix R 0 by rw [mix_zero, hlen]] at hB
        go_wp2
        have hbg : b < w7.heap.size := HW.out.old
        have hwg : w.heap.size ≤ w7.heap.size := HP.out.size
        clear hmk hA i1 i2 i3 i4 i5
        generalize w7.alloc (.cells (zr N) 5) = w8 at *
        generalize w7.heap.size = g at *
        have HB := Lib.hid hB
        have HII := Lib.hid hI
        have HOO := Lib.hid hO
        clear hB hI hO
        go_loopw [63] (fun i wr => txRel w b g s p N R i wr) (fun i _ => N - (intOf i).toNat)
        case atStart => exact ⟨0, by omega, rfl, HII.out, HB.out, HOO.out⟩
        case round =>
          obtain ⟨k, hk, rfl, hi, hbk, ho⟩ := hrel
          by_cases hlt : k < N
          · have HN := Lib.hid (number_any hi 8 hs (by omega) (by omega))
            rw [HG.out k hlt] at HN
            have HS := Lib.hid (mix_set (R := R) (k := k) (by omega))
            have HBK := Lib.hid hbk
            have HO2 := Lib.hid ho
            have hx := u8_bd (cf R k)
            have hml : (mix R k).length = N := by rw [mix_length (by omega)]; exact hlen
            generalize cf R k = y at *
            have HML := Lib.hid hml
            clear hi hbk ho hml
            have hkN : (k : Int) < (N : Int) := by omega
            go_wp2_with (go_at_call 54; refine HN.out.mono ?_; rintro x w9 ⟨rfl, hn1, hn2⟩; have hb9 := HBK.out.only (c := b) (by omega) hn2; have c9 := hb9.cell k (by have := HML.out; omega); have f9 := hb9.free k (by have := HML.out; omega); have HB9 := Lib.hid hb9; clear hb9; have HN1 := Lib.hid hn1; have HN2 := Lib.hid hn2; clear hn1 hn2)
            go_roundw
            case rel =>
              have h3 := HB9.out.set (k := k) (by have := HML.out; omega) y
              rw [HS.out] at h3
              have k9 : Only g w9 (w9.setCell ⟨g, k, none⟩ (.int .u8 (y.toNat : Int))) := Only.setCell w9 ⟨g, k, none⟩ _
              exact ⟨k + 1, by omega, by go_num, by rw [show p + 8 * (k + 1) = p + 8 * k + 8 by omega]; exact HN1.out.only (by omega) k9, h3, (HO2.out.trans HN2.out).far k9 (by omega)⟩
            case measure => simp [intOf]; omega
          · obtain rfl : N = k := by omega
            have HW2 := Lib.hid (hbk.whole N (n := N) (by rw [mix_length (by omega)]; exact hlen.symm))
            have hw2 := HW2.out
            rw [← hlen, mix_all] at hw2
            rw [hlen] at hw2
            go_wp2
            go_ret
            exact ⟨by rw [HR.out]; rfl, hi, ho⟩
    · go_wp2
      go_ret
      exact ⟨rfl, HW.out, HP.out⟩
theorem text_ok {b : Nat} {s : ByteArray} {p : Nat} {w : World} (h : InAt b 0 s p w) (N : Nat) (hs : s.size ≤ 1000000) (hp : p + 8 * N ≤ 8 * s.size) :
    Calls Try.prog 46 #[.pointer (some ⟨b, 0, none⟩), .int .i64 (N : Int)] w fun x w' => x = .returned (.string (st (nx s p N))) ∧ InAt b 0 s (p + 8 * N) w' ∧ Only b w w' :=
  text_next h (N : Int) (by omega) hs (by omega) false (decide_eq_false (by omega))
theorem text_short {b : Nat} {s : ByteArray} {p : Nat} {w : World} (h : InAt b 0 s p w) (n : Int) (hn : 0 ≤ n ∧ n ≤ 9223372036854775807) (hs : s.size ≤ 1000000) (hp : p ≤ 8 * s.size) (hx : 8 * (s.size : Int) < (p : Int) + 8 * n) :
    Calls Try.prog 46 #[.pointer (some ⟨b, 0, none⟩), .int .i64 n] w fun x w' => x = .returned (.string (st [])) ∧ InAt b 10 s p w' ∧ Only b w w' :=
  text_next h n hn hs hp true (decide_eq_true (by omega))
theorem text_arg {b : Nat} {s : ByteArray} {p : Nat} {w : World} (h : InAt b 0 s p w) (n : Int) (hn : n < 0) :
    Calls Try.prog 46 #[.pointer (some ⟨b, 0, none⟩), .int .i64 n] w fun x w' => x = .returned (.string (st [])) ∧ InAt b 1 s p w' ∧ Only b w w' :=
  text_first h n true (decide_eq_true hn) (by decide)
theorem text_bad {b : Nat} {e : Int} {s : ByteArray} {p : Nat} {w : World} (h : InAt b e s p w) (n : Int) (he : e ≠ 0) :
    Calls Try.prog 46 #[.pointer (some ⟨b, 0, none⟩), .int .i64 n] w fun x w' => x = .returned (.string (st [])) ∧ InAt b e s p w' ∧ Only b w w' := by
  have e1 : ferr e (decide (n < 0)) 1 = e := by unfold ferr; rw [if_neg fun k => he k.1]
  have := text_first h n _ rfl (by rw [e1]; exact he)
  rwa [e1] at this
end Go.Proofs.Ytebfihghfkcicaa
