/-
  Check sums: the program's and the document's Sum, Seal, Open; the chapter's examples. For texts of up to a million bytes. The memory that was there stays.
-/
import Derived.Deep.MidRow
import Derived.Test.YtifbomppgflkfaaDoorCf
import Derived.Test.YtifbomppgflkfaaDoorBase
namespace Go.Proofs.YtifbomppgflkfaaDoor
open Go.RowKit Gf Crc
set_option maxRecDepth 100000

/-- A register as Go's number. -/
def ru (r : Reg) : Int := (r.toNat : Int)
theorem ru_bd (r : Reg) : 0 ≤ ru r ∧ ru r ≤ 4294967295 := by have := r.isLt; unfold ru; omega
theorem ru_of {n : Int} (h : 0 ≤ n ∧ n ≤ 4294967295) : ∃ r : Reg, n = ru r :=
  ⟨BitVec.ofNat 32 n.toNat, by unfold ru; rw [BitVec.toNat_ofNat, Nat.mod_eq_of_lt (by omega)]; omega⟩
theorem ru_xor (r s : Reg) : bits BinOp.xor IntKind.u32 (ru r) (ru s) = ru (r ^^^ s) := by
  unfold ru; rw [u32_xor_nat _ _ r.isLt s.isLt, BitVec.toNat_xor]
theorem ru_shl (r : Reg) (n : Nat) : ru r * 2 ^ n % 4294967296 = ru (r <<< n) := by
  unfold ru; rw [BitVec.toNat_shiftLeft, Nat.shiftLeft_eq]
  rw [Int.natCast_emod, Int.natCast_mul, Int.natCast_pow]; rfl
theorem ru_gen : ru gen = 79764919 := rfl
theorem ru_inj {r s : Reg} (h : ru r = ru s) : r = s := BitVec.eq_of_toNat_eq (by unfold ru at h; omega)
theorem and_pow (x i : Nat) : x &&& 2 ^ i = if x.testBit i then 2 ^ i else 0 := by
  apply Nat.eq_of_testBit_eq
  intro j
  rw [Nat.testBit_and, Nat.testBit_two_pow]
  by_cases e : i = j
  · subst e; cases h : x.testBit i <;> simp
  · have h2 : (2 ^ i).testBit j = false := by rw [Nat.testBit_two_pow]; simp [e]
    cases h : x.testBit i <;> simp [e, h2]
theorem msb_and (r : Reg) : (bits BinOp.and IntKind.u32 (ru r) 2147483648 != 0) = r.msb := by
  unfold ru
  rw [show (2147483648 : Int) = ((2 ^ 31 : Nat) : Int) from rfl, u32_and_nat _ _ r.isLt (by decide), and_pow, BitVec.msb_eq_getLsbD_last]
  show _ = r.toNat.testBit 31
  cases r.toNat.testBit 31 <;> rfl
theorem up_yes {r : Reg} (h : r.msb = true) : bits BinOp.xor IntKind.u32 (ru r * 2 % 4294967296) 79764919 = ru (bs r false) := by
  have e := ru_shl r 1
  rw [show (2 : Int) ^ 1 = 2 from rfl] at e
  rw [e, ← ru_gen, ru_xor]
  unfold bs; rw [h]; rfl
theorem up_no {r : Reg} (h : r.msb = false) : ru r * 2 % 4294967296 = ru (bs r false) := by
  have e := ru_shl r 1
  rw [show (2 : Int) ^ 1 = 2 from rfl] at e
  rw [e]
  unfold bs; rw [h]
  show _ = ru (_ ^^^ 0#32)
  rw [BitVec.xor_zero]
/-- The table, number by number. -/
def tb (n : Nat) : Reg := by8 (tp (UInt8.ofNat n)) 0
theorem tb_chk : allB 256 (fun n => Nat.beq (tb n).toNat ((bs (tb (n / 2)) false) ^^^ (if n % 2 = 1 then gen else 0#32)).toNat) = true := by kernel_rfl
theorem tb_next {n : Nat} (h : n < 256) : tb n = (bs (tb (n / 2)) false) ^^^ (if n % 2 = 1 then gen else 0#32) := by
  have := allB_at tb_chk h
  rw [Nat.beq_eq] at this
  exact BitVec.eq_of_toNat_eq this
theorem tb_zero : tb 0 = 0#32 := by decide
def tbL : List Value := (List.range 256).map fun n => .int .u32 (ru (tb n))
theorem tbL_length : tbL.length = 256 := by unfold tbL; rw [List.length_map, List.length_range]
theorem tbL_get {n : Nat} (h : n < 256) : tbL[n]? = some (.int .u32 (ru (tb n))) := by
  unfold tbL; rw [List.getElem?_map, List.getElem?_range h]; rfl
theorem tbL_one : ∀ v ∈ tbL, v.oneCell' = true := by
  intro v hv
  obtain ⟨n, _, rfl⟩ := List.mem_map.1 hv
  rfl
/-- 256 numbers 0. -/
def z256 : Array Value := Array.replicate 256 (.int .u32 0)
theorem z256_get {i : Nat} (h : i < 256) : z256[i]? = some (.int .u32 0) := by simp [z256, h]
/-- Block b holds 256 numbers, f i in place i, and they may be written. -/
structure Arr (b : Nat) (f : Nat → Reg) (w : World) : Prop where
  old : b < w.heap.size
  cell : ∀ i, i < 256 → w.cell? ⟨b, i, none⟩ = some (.int .u32 (ru (f i)))
  free : ∀ i, i < 256 → w.frozen? ⟨b, i, none⟩ = false
theorem Arr.below {b : Nat} {f : Nat → Reg} {w w' : World} (h : Arr b f w) (k : Below w.heap.size w w') : Arr b f w' :=
  ⟨Nat.lt_of_lt_of_le h.old k.size, fun i hi => (k.cell (p := ⟨b, i, none⟩) h.old).trans (h.cell i hi), fun i hi => (k.frozen (p := ⟨b, i, none⟩) h.old).trans (h.free i hi)⟩
theorem Arr.only {b c : Nat} {f : Nat → Reg} {w w' : World} (h : Arr b f w) (hn : b ≠ c) (k : Only c w w') : Arr b f w' :=
  ⟨Nat.lt_of_lt_of_le h.old k.size, fun i hi => (k.cell (p := ⟨b, i, none⟩) h.old hn).trans (h.cell i hi), fun i hi => (k.frozen (p := ⟨b, i, none⟩) h.old hn).trans (h.free i hi)⟩
theorem Arr.set {b : Nat} {f g : Nat → Reg} {w : World} (h : Arr b f w) {k : Nat} (hk : k < 256) (hg : ∀ i, i < 256 → i ≠ k → g i = f i) : Arr b g (w.setCell ⟨b, k, none⟩ (.int .u32 (ru (g k)))) := by
  refine ⟨by simpa [World.setCell] using h.old, fun i hi => ?_, fun i hi => by simp [h.free i hi]⟩
  by_cases e : i = k
  · subst e; exact World.cell?_setCell_same _ _ _ (h.cell i hi)
  · rw [World.cell?_setCell_other _ _ _ _ (by intro x; exact e (congrArg Addr.off x).symm), h.cell i hi, hg i hi e]
theorem Arr.range {b : Nat} {w : World} (h : Arr b tb w) : w.rangeAt b 0 tbL := by
  intro j v hj
  have hlt : j < 256 := by have := (List.getElem?_eq_some_iff.1 hj).1; rwa [tbL_length] at this
  rw [Nat.zero_add, h.cell j hlt, ← hj, tbL_get hlt]
theorem Arr.there {b : Nat} {f : Nat → Reg} {w : World} (h : Arr b f w) : w.there b 0 tbL.toArray.size := by
  intro j hj
  have hlt : j < 256 := by rw [List.size_toArray, tbL_length] at hj; exact hj
  rw [Nat.zero_add]
  exact ⟨by rw [h.cell j hlt]; rfl, h.free j hlt⟩
/-- The table, stored into a block of as many cells. -/
theorem Arr.put {b : Nat} {f : Nat → Reg} {w : World} (h : Arr b f w) : Arr b tb (w.setCells b 0 tbL.toArray.toList) := by
  have ht : w.there b 0 tbL.length := by have := h.there; rwa [List.size_toArray] at this
  refine ⟨Nat.lt_of_lt_of_le h.old (only_setCells b _ 0 w).size, fun i hi => ?_, fun i hi => by rw [World.frozen?_setCells]; exact h.free i hi⟩
  have := World.rangeAt_setCells_same w b 0 tbL ht i _ (tbL_get hi)
  rw [Nat.zero_add] at this
  exact this
def half (k : Nat) (i : Nat) : Reg := if i < k then tb i else 0#32
theorem half_half (k : Nat) : half k (k / 2) = tb (k / 2) := by
  unfold half
  by_cases h : k / 2 < k
  · rw [if_pos h]
  · have : k = 0 := by omega
    subst this; rw [if_neg h, tb_zero]
theorem odd_gen (k : Nat) : (k : Int) % 2 * 79764919 = ru (if k % 2 = 1 then gen else 0#32) := by
  by_cases h : k % 2 = 1
  · rw [if_pos h, ru_gen]; omega
  · rw [if_neg h, show ru 0#32 = 0 from rfl]; omega
def rowsRel (w0 : World) (b : Nat) (n : Value) (wr : World) : Prop := ∃ k : Nat, k ≤ 256 ∧ n = .int .i64 (k : Nat) ∧ Arr b (half k) wr ∧ Only b w0 wr
/-- The byte at a register's top. -/
def top8 (q : Reg) : UInt8 := UInt8.ofNat (q.toNat / 16777216)
theorem top_nat (q : Reg) : (top8 q).toNat = q.toNat / 16777216 := by
  have := q.isLt
  unfold top8; rw [UInt8.toNat_ofNat_of_lt' (show q.toNat / 16777216 < 256 by omega)]
theorem top_ru (q : Reg) : ru q / 16777216 = ((top8 q).toNat : Int) := by rw [top_nat]; unfold ru; omega
theorem u8_xor8 (a b : UInt8) : bits BinOp.xor IntKind.u8 (a.toNat : Int) (b.toNat : Int) = ((a ^^^ b).toNat : Int) := by
  rw [u8_xor_nat _ _ a.toNat_lt b.toNat_lt, UInt8.toNat_xor]
theorem by8_tb (q : Reg) (x : UInt8) : bits BinOp.xor IntKind.u32 (ru (q <<< 8)) (ru (tb (top8 q ^^^ x).toNat)) = ru (by8 q x) := by
  rw [ru_xor, by8_tab q x (top8 q) (top_nat q), tb, UInt8.ofNat_toNat]
theorem mo_next {l : List UInt8} {k : Nat} (h : k < l.length) (r : Reg) : by8 (mo r (l.take k)) (cf l k) = mo r (l.take (k + 1)) := by
  rw [List.take_succ_eq_append_getElem h, mo_append, cf_lt h]; rfl
theorem Arr.eqv {b : Nat} {f : Nat → Reg} {w w' : World} (h : Arr b f w) (k : Eqv w w') : Arr b f w' :=
  ⟨by rw [k.size]; exact h.old, fun i hi => (k.cell _).trans (h.cell i hi), fun i hi => (k.frozen _).trans (h.free i hi)⟩
def kRel (w : World) (r : Reg) (l : List UInt8) (s i : Value) (wr : World) : Prop := ∃ k : Nat, k ≤ l.length ∧ s = .int .u32 (ru (mo r (l.take k))) ∧ i = .int .i64 k ∧ Eqv w wr
end Go.Proofs.YtifbomppgflkfaaDoor
namespace Go.Proofs.YtifbomppgflkfaaDoor
open Go.RowKit Gf Crc
set_option maxRecDepth 100000
def ones : Reg := 0xffffffff#32
theorem ru_ones : ru ones = 4294967295 := rfl
def csumRel (w : World) (r : Reg) (l : List (List UInt8)) (s i : Value) (wr : World) : Prop := ∃ k : Nat, k ≤ l.length ∧ s = .int .u32 (ru (mo r (l.take k).flatten)) ∧ i = .int .i64 k ∧ Eqv w wr
theorem flat_next {l : List (List UInt8)} {k : Nat} (h : k < l.length) (r : Reg) : mo (mo r (l.take k).flatten) (l.getD k []) = mo r (l.take (k + 1)).flatten := by
  rw [List.take_succ_eq_append_getElem h, List.flatten_append, mo_append, List.getD_eq_getElem?_getD, List.getElem?_eq_getElem h]
  simp
theorem one256 : tbL.toArray.all (·.oneCell') = true := all_oneCell_toArray tbL_one
theorem four_u (q : Reg) : (four q).map B = [.int .u8 (ru q / 16777216 % 256), .int .u8 (ru q / 65536 % 256), .int .u8 (ru q / 256 % 256), .int .u8 (ru q % 256)] := by
  have hq := q.isLt
  have e : ∀ n : Nat, n < 256 → B (UInt8.ofNat n) = .int .u8 (n : Int) := fun n h => by unfold B; rw [UInt8.toNat_ofNat_of_lt' (show n < 256 by omega)]
  unfold four ru
  rw [List.map_cons, List.map_cons, List.map_cons, List.map_cons, List.map_nil, e _ (by omega), e _ (by omega), e _ (by omega), e _ (by omega)]
  have h1 : ((q.toNat / 16777216 : Nat) : Int) = (q.toNat : Int) / 16777216 % 256 := by omega
  rw [h1]
  rfl
theorem four_conv (q : Reg) (w : World) :
    (convert 79 9 (.slice (some ⟨w.heap.size, 0, none⟩) 4 4)).run Tryd.prog (w.alloc (.cells #[.int .u8 (ru q / 16777216 % 256), .int .u8 (ru q / 65536 % 256), .int .u8 (ru q / 256 % 256), .int .u8 (ru q % 256)] 5)) = .ok (.string (st (four q))) (w.alloc (.cells #[.int .u8 (ru q / 16777216 % 256), .int .u8 (ru q / 65536 % 256), .int .u8 (ru q / 256 % 256), .int .u8 (ru q % 256)] 5)) := by
  have h := (Blk.lit w (four q) 5).whole 4 (four_length q).symm
  rw [four_u] at h
  exact h
/-- Sealed bytes. -/
def sld (l : List UInt8) : List UInt8 := l ++ four (mo ones l)
theorem sld_length (l : List UInt8) : (sld l).length = l.length + 4 := by unfold sld; rw [List.length_append, four_length]
/-- What is opened of bytes, and what is wrong. -/
def opn (l : List UInt8) : List UInt8 × Int := if l.length < 4 then ([], 10) else if mo ones l = 0#32 then (l.take (l.length - 4), 0) else ([], 13)
theorem opn_short {l : List UInt8} (h : l.length < 4) : opn l = ([], 10) := by unfold opn; rw [if_pos h]
theorem opn_bad {l : List UInt8} (h : ¬ l.length < 4) (h2 : mo ones l ≠ 0#32) : opn l = ([], 13) := by unfold opn; rw [if_neg h, if_neg h2]
theorem opn_good {l : List UInt8} (h : ¬ l.length < 4) (h2 : mo ones l = 0#32) : opn l = (l.take (l.length - 4), 0) := by unfold opn; rw [if_neg h, if_pos h2]
theorem ru_zero (q : Reg) : (ru q != 0) = !(decide (q = 0#32)) := by
  by_cases h : q = 0#32
  · subst h; rfl
  · have : ru q ≠ 0 := fun e => h (ru_inj (e.trans rfl))
    simp [h, this]
def OpnPost (w0 : World) (l : List UInt8) (e : Ending) (w' : World) : Prop := e = .returned (.tuple #[.string (st (opn l).1), .int .i64 (opn l).2]) ∧ Keeps w0 w'
end Go.Proofs.YtifbomppgflkfaaDoor
namespace Go.Proofs.YtifbomppgflkfaaDoor
open Go.RowKit Gf Crc
set_option maxRecDepth 100000
/-- Behind j bits of a byte. -/
def pre8 (q : Reg) (x : UInt8) (j : Nat) : Reg := ((bits8 x).take j).foldl bs q
theorem pre8_zero (q : Reg) (x : UInt8) : pre8 q x 0 = q := rfl
theorem pre8_full (q : Reg) (x : UInt8) : pre8 q x 8 = by8 q x := rfl
theorem pre8_next (q : Reg) (x : UInt8) {j : Nat} (h : j < 8) : pre8 q x (j + 1) = bs (pre8 q x j) (x.toNat.testBit (7 - j)) := by
  match j, h with
  | 0, _ => rfl
  | 1, _ => rfl
  | 2, _ => rfl
  | 3, _ => rfl
  | 4, _ => rfl
  | 5, _ => rfl
  | 6, _ => rfl
  | 7, _ => rfl
/-- The number of the bit that comes next. -/
def unC (j : Nat) : Int := ((128 / 2 ^ j : Nat) : Int)
theorem unC_bd {j : Nat} (h : j < 8) : 1 ≤ unC j ∧ unC j ≤ 128 := by
  match j, h with
  | 0, _ => decide
  | 1, _ => decide
  | 2, _ => decide
  | 3, _ => decide
  | 4, _ => decide
  | 5, _ => decide
  | 6, _ => decide
  | 7, _ => decide
theorem unC_next (j : Nat) : unC j / 2 = unC (j + 1) := by
  unfold unC; rw [Nat.pow_succ, ← Nat.div_div_eq_div_mul]; omega
theorem unC_bit (x : UInt8) {j : Nat} (h : j < 8) : ((x.toNat : Int) / unC j % 2 == 1) = x.toNat.testBit (7 - j) := by
  have e : unC j = ((2 ^ (7 - j) : Nat) : Int) := by
    match j, h with
    | 0, _ => rfl
    | 1, _ => rfl
    | 2, _ => rfl
    | 3, _ => rfl
    | 4, _ => rfl
    | 5, _ => rfl
    | 6, _ => rfl
    | 7, _ => rfl
  rw [e, Nat.testBit_eq_decide_div_mod_eq, Bool.eq_iff_iff]
  simp only [beq_iff_eq, decide_eq_true_eq]
  rw [← Int.natCast_ediv]
  omega
theorem msb_ge (r : Reg) : decide (ru r ≥ 2147483648) = r.msb := by
  rw [BitVec.msb_eq_decide]
  unfold ru
  simp only [Nat.reduceSub, Nat.reducePow, ge_iff_le, decide_eq_decide]
  omega
theorem bs_yes {r : Reg} {b : Bool} (h : (!r.msb == b) = true) : bits BinOp.xor IntKind.u32 (ru r * 2 % 4294967296) 79764919 = ru (bs r b) := by
  have e := ru_shl r 1
  rw [show (2 : Int) ^ 1 = 2 from rfl] at e
  rw [e, ← ru_gen, ru_xor]
  unfold bs
  rw [if_pos (by cases hm : r.msb <;> cases b <;> simp_all)]
theorem bs_no {r : Reg} {b : Bool} (h : (!r.msb == b) = false) : ru r * 2 % 4294967296 = ru (bs r b) := by
  have e := ru_shl r 1
  rw [show (2 : Int) ^ 1 = 2 from rfl] at e
  rw [e]
  unfold bs
  rw [if_neg (by cases hm : r.msb <;> cases b <;> simp_all), BitVec.xor_zero]
def cmoreRel (r : Reg) (l : List UInt8) (s i : Value) : Prop := ∃ k : Nat, k ≤ l.length ∧ s = .int .u32 (ru (mo r (l.take k))) ∧ i = .int .i64 k
def iRel (q : Reg) (x : UInt8) (s u n : Value) : Prop := ∃ j : Nat, j ≤ 8 ∧ s = .int .u32 (ru (pre8 q x j)) ∧ u = .int .i64 (unC j) ∧ n = .int .i64 j
set_option maxHeartbeats 1600000 in
theorem rmore_any (r : Reg) (s : ByteArray) (w : World) (hs : s.size ≤ 1000000000) :
    Calls Tryd.prog 49 #[.int .u32 (ru r), .string s] w fun e w' => e = .returned (.int .u32 (ru (mo r (ls s)))) ∧ w = w' := by
  go_enter Tryd.func49, Tryd.ntmps49
  go_wp2
  go_loop [0, 5] (fun x i => cmoreRel r (ls s) x i) (fun _ i => s.size - (intOf i).toNat)
  case atStart => exact ⟨0, by omega, rfl, rfl⟩
  case round =>
    obtain ⟨k, hk, rfl, rfl⟩ := hrel
    rw [← ls_size] at hk
    by_cases hlt : k < s.size
    · have HG := Lib.hid (ls_get s k hlt)
      have HN := Lib.hid (mo_next (l := ls s) (k := k) (by rw [← ls_size]; exact hlt) r)
      rw [← HG.out] at HN
      generalize mo r ((ls s).take k) = q at *
      obtain ⟨x, hx⟩ : ∃ x, s[k] = x := ⟨_, rfl⟩
      rw [hx] at HN
      obtain ⟨v, hv⟩ : ∃ v : Int, (x.toNat : Int) = v := ⟨_, rfl⟩
      have hv0 : 0 ≤ v ∧ v ≤ 255 := by rw [← hv]; exact u8_bd x
      obtain ⟨v0, v1⟩ := hv0
      go_wp2
      go_loop [0, 6, 7] (fun y u n => iRel q x y u n) (fun _ _ n => 8 - (intOf n).toNat)
      case atStart => exact ⟨0, by omega, rfl, rfl, rfl⟩
      case round =>
        obtain ⟨j, hj, rfl, rfl, rfl⟩ := hrel
        by_cases hjl : j < 8
        · obtain ⟨u0, u1⟩ := unC_bd hjl
          have hu : (unC j == 0) = false := by simp; omega
          have HU := Lib.hid (unC_next j)
          have HP := Lib.hid (pre8_next q x hjl)
          have HM := Lib.hid (msb_ge (pre8 q x j))
          have HI := Lib.hid (unC_bit x hjl)
          rw [hv] at HI
          generalize pre8 q x j = p at *
          generalize x.toNat.testBit (7 - j) = t at *
          generalize unC j = u at *
          have h5 : 0 ≤ v / u := Int.ediv_nonneg v0 (by omega)
          have h6 : v / u ≤ v := Int.ediv_le_self _ v0
          cases hc : (!p.msb == t)
          · have HC := Lib.hid (bs_no hc)
            have hd : (!decide (2147483648 ≤ ru p) == (v / u % 2 == 1)) = false := by rw [show decide (2147483648 ≤ ru p) = p.msb from HM.out, HI.out]; exact hc
            clear hc
            go_wp2
            go_round
            case rel => exact ⟨j + 1, by omega, by rw [HC.out, HP.out], by rw [HU.out], by go_num⟩
            case measure => simp [intOf]; omega
          · have HC := Lib.hid (bs_yes hc)
            have hd : (!decide (2147483648 ≤ ru p) == (v / u % 2 == 1)) = true := by rw [show decide (2147483648 ≤ ru p) = p.msb from HM.out, HI.out]; exact hc
            clear hc
            go_wp2
            go_round
            case rel => exact ⟨j + 1, by omega, by rw [HC.out, HP.out], by rw [HU.out], by go_num⟩
            case measure => simp [intOf]; omega
        · obtain rfl : j = 8 := by omega
          rw [pre8_full, HN.out]
          go_wp2
          go_round
          case rel => exact ⟨k + 1, by rw [← ls_size]; omega, rfl, by go_num⟩
          case measure => simp [intOf]; omega
    · have HE := Lib.hid (show (ls s).take k = ls s from List.take_of_length_le (by rw [← ls_size]; omega))
      rw [HE.out]
      go_wp2
      go_ret
      exact ⟨rfl, rfl⟩
theorem rsum_any (s : ByteArray) (w : World) (hs : s.size ≤ 1000000000) :
    Calls Tryd.prog 47 #[.string s] w fun e w' => e = .returned (.int .u32 (ru (mo ones (ls s)))) ∧ w = w' := by
  have h := rmore_any ones s
  rw [ru_ones] at h
  go_enter Tryd.func47, Tryd.ntmps47
  go_wp2_with fail
  refine (h w hs).mono ?_
  rintro e w1 ⟨rfl, rfl⟩
  go_wp2
  go_ret
  exact ⟨rfl, rfl⟩
theorem rfour_any (w0 : World) (q : Reg) (w : World) (hk : Keeps w0 w) :
    Calls Tryd.prog 46 #[.int .u32 (ru q)] w fun e w' => e = .returned (.string (st (four q))) ∧ Keeps w0 w' := by
  have hcv := four_conv q w
  obtain ⟨q0, q1⟩ := ru_bd q
  rw [show ru q / 16777216 % 256 = ru q / 16777216 by omega] at hcv
  go_enter Tryd.func46, Tryd.ntmps46
  go_wp2
  go_ret
  exact ⟨rfl, hk.alloc _⟩
theorem rseal_any (w0 : World) (s : ByteArray) (w : World) (hs : s.size ≤ 1000000) (hk : Keeps w0 w) :
    Calls Tryd.prog 40 #[.string s] w fun e w' => e = .returned (.string (st (sld (ls s)))) ∧ Keeps w0 w' := by
  have he : s ++ st (four (mo ones (ls s))) = st (sld (ls s)) := by unfold sld; rw [← st_append, st_ls]
  have HE := Lib.hid he
  clear he
  go_enter Tryd.func40, Tryd.ntmps40
  go_wp2_with fail
  refine (rsum_any s w (by omega)).mono ?_
  rintro e w1 ⟨rfl, rfl⟩
  obtain ⟨q, hq⟩ : ∃ q, mo ones (ls s) = q := ⟨_, rfl⟩
  rw [hq] at HE
  rw [hq]
  clear hq
  go_wp2_with fail
  refine (rfour_any w0 q w hk).mono ?_
  rintro e w1 ⟨rfl, hk1⟩
  have hl4 : (st (four q)).size = 4 := by rw [st_size]; rfl
  go_wp2
  go_ret
  exact ⟨by rw [← HE.out]; rfl, hk1⟩
theorem opn_iff {l : List UInt8} (h : ¬ l.length < 4) : mo ones l = 0#32 ↔ sld (l.take (l.length - 4)) = l := by
  have hl : l.take (l.length - 4) ++ l.drop (l.length - 4) = l := List.take_append_drop _ _
  have h4 : (l.drop (l.length - 4)).length = 4 := by rw [List.length_drop]; omega
  have h2 := mo_four_iff (mo ones (l.take (l.length - 4))) (l.drop (l.length - 4)) h4
  rw [← mo_append, hl] at h2
  rw [h2]
  unfold sld
  constructor
  · intro e; rw [← e]; exact hl
  · intro e
    have e2 : l.take (l.length - 4) ++ four (mo ones (l.take (l.length - 4))) = l.take (l.length - 4) ++ l.drop (l.length - 4) := e.trans hl.symm
    exact (List.append_cancel_left e2).symm
end Go.Proofs.YtifbomppgflkfaaDoor
namespace Go.Proofs.YtifbomppgflkfaaDoor
open Go.RowKit Gf Crc
set_option maxRecDepth 100000
theorem ex_sum : ru (mo ones [[49, 50, 51, 52], [53, 54, 55, 56, 57]].flatten) = 58124007 := by kernel_rfl
theorem ex_abc : opn (ls { data := #[97, 98, 99] }) = ([], 10) := by kernel_rfl
theorem cf_take_lt (l : List UInt8) (n i : Nat) (h : i < n) : cf (l.take n) i = cf l i := by
  unfold cf; rw [List.getD_eq_getElem?_getD, List.getD_eq_getElem?_getD, List.getElem?_take_of_lt h]
theorem cf_drop (l : List UInt8) (n i : Nat) : cf (l.drop n) i = cf l (n + i) := by
  unfold cf; rw [List.getD_eq_getElem?_getD, List.getD_eq_getElem?_getD, List.getElem?_drop]
/-- Two texts of one register that are unlike in four bytes in a row at the most are the same. -/
theorem mo_near (r : Reg) (a b : List UInt8) (hl : a.length = b.length) (f : Nat) (h : ∀ i, i < a.length → cf a i ≠ cf b i → f ≤ i ∧ i < f + 4) (he : mo r a = mo r b) : a = b := by
  have h1 : a.take f = b.take f := list_ext_cf (by rw [List.length_take, List.length_take, hl]) (fun i hi => by
    rw [List.length_take] at hi
    rw [cf_take_lt _ _ _ (by omega), cf_take_lt _ _ _ (by omega)]
    refine Decidable.byContradiction fun hn => ?_
    have := h i (by omega) hn
    omega)
  have h2 : a.drop (f + 4) = b.drop (f + 4) := list_ext_cf (by rw [List.length_drop, List.length_drop, hl]) (fun i hi => by
    rw [List.length_drop] at hi
    rw [cf_drop, cf_drop]
    refine Decidable.byContradiction fun hn => ?_
    have := h (f + 4 + i) (by omega) hn
    omega)
  have ea : a = a.take f ++ (a.drop f).take 4 ++ a.drop (f + 4) := by
    rw [List.append_assoc, ← List.drop_drop, List.take_append_drop, List.take_append_drop]
  have eb : b = b.take f ++ (b.drop f).take 4 ++ b.drop (f + 4) := by
    rw [List.append_assoc, ← List.drop_drop, List.take_append_drop, List.take_append_drop]
  rw [ea, eb, h1, h2] at he
  have := mo_same r (b.take f) ((a.drop f).take 4) ((b.drop f).take 4) (b.drop (f + 4)) (by simp [hl]) (by rw [List.length_take]; omega) he
  rw [ea, h1, h2, this, ← eb]
theorem mo_sld (l : List UInt8) : mo ones (sld l) = 0#32 := by unfold sld; rw [mo_append]; exact mo_four _
end Go.Proofs.YtifbomppgflkfaaDoor
