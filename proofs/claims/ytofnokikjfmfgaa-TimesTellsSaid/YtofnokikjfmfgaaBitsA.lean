/-
  What the functions of package bits answer that read bits: Read, fails, Left, At, Err, next, number: for texts of up to a million bytes. Nothing that was there turns but the reader.
-/
import Derived.Test.YtofnokikjfmfgaaBitsMath
import Derived.Test.YtofnokikjfmfgaaTick
import Derived.RangeFuncNested
import Derived.RangeFuncBound
import Derived.Shelf.Abstract
import Derived.Shelf.RegionOpen
import Derived.OwnWalkIn
import Derived.TacticsInMore
import Derived.LoopNIn
import Derived.LoopIn
namespace Go.Proofs.Ytofnokikjfmfgaa
open Go.RowKit Go.Shelf Gf Bit
set_option maxRecDepth 100000
attribute [local go_sem] Oper.semAt_some
/-- A number of up to 64 bits as Go's. -/
def un (x : Nat) : Int := (x : Int)
/-- A reader lies in block b: what was wrong, the text, and where it stands. -/
structure InAt (b : Nat) (e : Int) (s : ByteArray) (k : Nat) (w : World) : Prop where
  err : w.cell? ⟨b, 0, none⟩ = some (.int .i64 e)
  txt : w.cell? ⟨b, 1, none⟩ = some (.string s)
  pos : w.cell? ⟨b, 2, none⟩ = some (.int .i64 (k : Int))
  ef : w.frozen? ⟨b, 0, none⟩ = false
  pf : w.frozen? ⟨b, 2, none⟩ = false
theorem InAt.old {b : Nat} {e : Int} {s : ByteArray} {k : Nat} {w : World} (h : InAt b e s k w) : b < w.heap.size := by
  obtain ⟨o, ho, _⟩ := cells_of_cell h.err
  exact (Array.getElem?_eq_some_iff.1 ho).1
theorem InAt.block {b : Nat} {e : Int} {s : ByteArray} {k : Nat} {w w' : World} (h : InAt b e s k w) (hb : w'.heap[b]? = w.heap[b]?) : InAt b e s k w' :=
  ⟨(World.cell?_of_block (w := w) (a := ⟨b, 0, none⟩) hb).trans h.err, (World.cell?_of_block (w := w) (a := ⟨b, 1, none⟩) hb).trans h.txt, (World.cell?_of_block (w := w) (a := ⟨b, 2, none⟩) hb).trans h.pos,
    (World.frozen?_of_block (w := w) (a := ⟨b, 0, none⟩) hb).trans h.ef, (World.frozen?_of_block (w := w) (a := ⟨b, 2, none⟩) hb).trans h.pf⟩
theorem InAt.eqv {b : Nat} {e : Int} {s : ByteArray} {k : Nat} {w w' : World} (h : InAt b e s k w) (q : Eqv w w') : InAt b e s k w' := h.block (by rw [q.heap])
theorem InAt.only {b c : Nat} {e : Int} {s : ByteArray} {k : Nat} {w w' : World} (h : InAt b e s k w) (hn : b ≠ c) (q : Only c w w') : InAt b e s k w' := h.block (q.block b h.old hn)
theorem InAt.keeps {b : Nat} {e : Int} {s : ByteArray} {k : Nat} {w w' : World} (h : InAt b e s k w) (q : Keeps w w') : InAt b e s k w' := h.block (Below.block q b h.old)
theorem InAt.setE {b : Nat} {e : Int} {s : ByteArray} {k : Nat} {w : World} (h : InAt b e s k w) (e' : Int) : InAt b e' s k (w.setCell ⟨b, 0, none⟩ (.int .i64 e')) :=
  ⟨World.cell?_setCell_same _ _ _ h.err, (set_other (by decide)).trans h.txt, (set_other (by decide)).trans h.pos, by simp [h.ef], by simp [h.pf]⟩
theorem InAt.setK {b : Nat} {e : Int} {s : ByteArray} {k : Nat} {w : World} (h : InAt b e s k w) (k' : Nat) : InAt b e s k' (w.setCell ⟨b, 2, none⟩ (.int .i64 (k' : Int))) :=
  ⟨(set_other (by decide)).trans h.err, (set_other (by decide)).trans h.txt, World.cell?_setCell_same _ _ _ h.pos, by simp [h.ef], by simp [h.pf]⟩
theorem read_any (s : ByteArray) (w : World) : Calls Try.prog 42 #[.string s] w fun e w' => e = .returned (.pointer (some ⟨w.heap.size, 0, none⟩)) ∧ InAt w.heap.size 0 s 0 w' ∧ Keeps w w' := by
  go_enter Try.func42, Try.ntmps42
  go_wp2
  go_ret
  refine ⟨rfl, ⟨?_, ?_, ?_, ?_, ?_⟩, (Keeps.refl w).alloc _⟩
  · rw [World.cell?_alloc_new]; rfl
  · rw [World.cell?_alloc_new]; rfl
  · rw [World.cell?_alloc_new]; rfl
  · exact World.frozen?_alloc_new _ _ _ _
  · exact World.frozen?_alloc_new _ _ _ _
theorem left_any {b : Nat} {e : Int} {s : ByteArray} {k : Nat} {w : World} (h : InAt b e s k w) (hs : s.size ≤ 1000000) (hk : k ≤ 8 * s.size) : Calls Try.prog 59 #[.pointer (some ⟨b, 0, none⟩)] w fun x w' => x = .returned (.int .i64 (8 * (s.size : Int) - (k : Int))) ∧ Eqv w w' := by
  obtain ⟨h1, h2, h3, h4, h5⟩ := h
  go_enter Try.func59, Try.ntmps59
  go_wp2
  go_quiet (fail)
  go_wp2
  go_ret
  exact ⟨rfl, Eqv.drewN w _⟩
/-- What fails leaves. -/
def ferr (e : Int) (now : Bool) (x : Int) : Int := if e = 0 ∧ now = true then x else e
theorem fails_any {b : Nat} {e : Int} {s : ByteArray} {k : Nat} {w : World} (h : InAt b e s k w) (now : Bool) (x : Int) : Calls Try.prog 58 #[.pointer (some ⟨b, 0, none⟩), .bool now, .int .i64 x] w fun r w' =>
    r = .returned (.bool (decide (ferr e now x ≠ 0))) ∧ w' = if e = 0 ∧ now = true then w.setCell ⟨b, 0, none⟩ (.int .i64 x) else w := by
  have h1 := h.err
  have h2 := h.ef
  have h3 := (h.setE x).err
  clear h
  go_enter Try.func58, Try.ntmps58
  by_cases he : e = 0
  · subst he
    cases now
    · go_wp2
      go_ret
      exact ⟨rfl, rfl⟩
    · go_wp2
      go_ret
      refine ⟨?_, rfl⟩
      unfold ferr
      rw [if_pos ⟨rfl, rfl⟩]
      by_cases hx : x = 0 <;> simp [hx]
  · have hb : (e == 0) = false := by simpa using he
    have hb2 : (e != 0) = true := by simpa using he
    go_wp2
    go_ret
    unfold ferr
    rw [if_neg (fun k => he k.1)]
    exact ⟨by show Ending.returned (.bool true) = _; simp [he], rfl⟩
/-- Bit k of a text, as a number. -/
def bI (b : Bool) : Int := (b.toNat : Int)
theorem bI_bd (b : Bool) : 0 ≤ bI b ∧ bI b ≤ 1 := by cases b <;> decide
theorem nat_bit (x t : Nat) : x / 2 ^ t % 2 = (x.testBit t).toNat := by
  rw [Nat.testBit_eq_decide_div_mod_eq]
  by_cases h : x / 2 ^ t % 2 = 1
  · rw [h]; rfl
  · rw [show x / 2 ^ t % 2 = 0 by omega]; rfl
theorem bit8 (x : UInt8) (t : Nat) : bits BinOp.and IntKind.u8 ((x.toNat : Int) / 2 ^ t) 1 = bI (x.toNat.testBit t) := by
  have h : x.toNat / 2 ^ t < 2 ^ 8 := Nat.lt_of_le_of_lt (Nat.div_le_self _ _) x.toNat_lt
  rw [show ((x.toNat : Int) / 2 ^ t) = ((x.toNat / 2 ^ t : Nat) : Int) by rw [Int.natCast_ediv, Int.natCast_pow]; rfl, show (1 : Int) = ((1 : Nat) : Int) from rfl, u8_and_nat _ _ h (by decide), Nat.and_one_is_mod, nat_bit]
  rfl
/-- The iterator over the next N bits: J k holds ahead of bit k; the reader goes on ahead of each call of yield. -/
theorem next1_in (n : Nat) (hn : 1 ≤ n) (l b Bn Bi : Nat) (e : Int) (s : ByteArray) (p N : Nat) (hs : s.size ≤ 1000000) (hN : p + N ≤ 8 * s.size) (J : Nat → World → Prop)
    (hJ : ∀ k W, J k W → W.cell? ⟨Bi, 0, none⟩ = some (.pointer (some ⟨b, 0, none⟩)) ∧ InAt b e s (p + k) W)
    (hY : ∀ k W W2, k < N → J k W → Eqv (W.setCell ⟨b, 2, none⟩ (.int .i64 ((p + k + 1 : Nat) : Int))) W2 → YieldAt Fence.wide (n - 1) Try.prog l #[.int .u8 (bI (bt (ob (ls s)) (p + k)))] W2 fun x W' => x = .returned (.bool true) ∧ J (k + 1) W')
    (W : World) (hBn : W.cell? ⟨Bn, 0, none⟩ = some (.int .i64 (N : Int))) (h0 : J 0 W) :
    CallsIn Fence.wide n Try.prog 74 #[.func (.yield l) #[] #[], .pointer (some ⟨Bn, 0, none⟩), .pointer (some ⟨Bi, 0, none⟩)] W fun x W' => (∃ v, x = .returned v) ∧ J N W' := by
  refine callsIn_of_wp Try.func74 rfl trivial ?_ rfl
  simp only [Try.ntmps74, List.size_toArray, List.length_cons, List.length_nil, Nat.reduceAdd, Nat.reduceSub, Array.replicate_succ, Array.replicate_zero, List.push_toArray, List.append_toArray, List.nil_append, List.cons_append]
  gi_wp2
  gi_loopw [6] (fun i wr => ∃ k : Nat, i = .int .i64 (k : Int) ∧ k ≤ N ∧ J k wr) (fun i _ => N - (intOf i).toNat)
  case atStart => exact ⟨0, rfl, by omega, h0⟩
  case round =>
    obtain ⟨k, rfl, hk, hj⟩ := hrel
    obtain ⟨hc, hI⟩ := hJ k wr hj
    by_cases hlt : k < N
    · obtain ⟨q, hq⟩ : ∃ q, p + k = q := ⟨_, rfl⟩
      rw [hq] at hI
      have hq8 : q / 8 < s.size := by omega
      have HQ := Lib.hid hq
      obtain ⟨i1, i2, i3, i4, i5⟩ := hI
      obtain ⟨j, hj8⟩ : ∃ j, q / 8 = j := ⟨_, rfl⟩
      obtain ⟨t, ht8⟩ : ∃ t, 7 - q % 8 = t := ⟨_, rfl⟩
      rw [hj8] at hq8
      have e1 : (q : Int) / 8 = (j : Int) := by omega
      have e2 : 7 - (q : Int) % 8 = (t : Int) := by omega
      have ht : t ≤ 7 := by omega
      have HBT := Lib.hid (show bI (s[j].toNat.testBit t) = bI (bt (ob (ls s)) (p + k)) by rw [bt_ob, hq, hj8, ht8, ls_get])
      have e3 := bit8 s[j] t
      rw [HBT.out] at e3
      have e4 : ((p + k + 1 : Nat) : Int) = (q : Int) + 1 := by omega
      have hY2 := hY k wr
      rw [e4] at hY2
      have HY := Lib.hid hY2
      clear hY2 hY hJ
      generalize bI (bt (ob (ls s)) (p + k)) = v at *
      gi_wp2
      refine wpIn_wide.2 ?_
      go_quiet (fail)
      obtain ⟨fn, tmps, assign, body, hy, hR⟩ := HY.out ((wr.drewN nq).setCell ⟨b, 2, none⟩ (.int .i64 ((q : Int) + 1))) hlt hj ((Eqv.drewN wr nq).setCell _ _)
      gi_wp2
      refine hR.mono ?_
      rintro x W3 ⟨rfl, hJ3⟩
      gi_wp2
      go_roundw
      case rel => exact ⟨k + 1, by go_num, by omega, hJ3⟩
      case measure => simp [intOf]; omega
    · obtain rfl : k = N := by omega
      gi_wp2
      go_end0
      exact ⟨⟨_, rfl⟩, hj⟩
end Go.Proofs.Ytofnokikjfmfgaa
