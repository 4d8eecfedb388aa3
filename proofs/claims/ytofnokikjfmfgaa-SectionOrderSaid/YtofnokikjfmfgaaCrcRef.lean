/-
  What the document's check sums answer: More, Sum, Four, Seal, Open; for all texts of up to a million bytes. The memory that was there stays.
-/
import Derived.Test.YtofnokikjfmfgaaCrcB
namespace Go.Proofs.Ytofnokikjfmfgaa
open Go.RowKit Gf Crc
set_option maxRecDepth 100000
/-- Behind j bits of a byte. -/
def pre8 (q : Reg) (x : UInt8) (j : Nat) : Reg := ((bits8 x).take j).foldl bs q
theorem pre8_zero (q : Reg) (x : UInt8) : pre8 q x 0 = q := rfl
theorem pre8_full (q : Reg) (x : UInt8) : pre8 q x 8 = by8 q x := rfl
theorem pre8_next (q : Reg) (x : UInt8) {j : Nat} (h : j < 8) : pre8 q x (j + 1) = bs (pre8 q x j) (x.toNat.testBit (7 - j)) := by
  match j, h with
  | 0, _ => rfl
  | 1, _ => rfl
  | 2, _ => rfl
  | 3, _ => rfl
  | 4, _ => rfl
  | 5, _ => rfl
  | 6, _ => rfl
  | 7, _ => rfl
/-- The number of the bit that comes next. -/
def unC (j : Nat) : Int := ((128 / 2 ^ j : Nat) : Int)
theorem unC_bd {j : Nat} (h : j < 8) : 1 ≤ unC j ∧ unC j ≤ 128 := by
  match j, h with
  | 0, _ => decide
  | 1, _ => decide
  | 2, _ => decide
  | 3, _ => decide
  | 4, _ => decide
  | 5, _ => decide
  | 6, _ => decide
  | 7, _ => decide
theorem unC_next (j : Nat) : unC j / 2 = unC (j + 1) := by
  unfold unC; rw [Nat.pow_succ, ← Nat.div_div_eq_div_mul]; omega
theorem unC_bit (x : UInt8) {j : Nat} (h : j < 8) : ((x.toNat : Int) / unC j % 2 == 1) = x.toNat.testBit (7 - j) := by
  have e : unC j = ((2 ^ (7 - j) : Nat) : Int) := by
    match j, h with
    | 0, _ => rfl
    | 1, _ => rfl
    | 2, _ => rfl
    | 3, _ => rfl
    | 4, _ => rfl
    | 5, _ => rfl
    | 6, _ => rfl
    | 7, _ => rfl
  rw [e, Nat.testBit_eq_decide_div_mod_eq, Bool.eq_iff_iff]
  simp only [beq_iff_eq, decide_eq_true_eq]
  rw [← Int.natCast_ediv]
  omega
theorem msb_ge (r : Reg) : decide (ru r ≥ 2147483648) = r.msb := by
  rw [BitVec.msb_eq_decide]
  unfold ru
  simp only [Nat.reduceSub, Nat.reducePow, ge_iff_le, decide_eq_decide]
  omega
theorem bs_yes {r : Reg} {b : Bool} (h : (!r.msb == b) = true) : bits BinOp.xor IntKind.u32 (ru r * 2 % 4294967296) 79764919 = ru (bs r b) := by
  have e := ru_shl r 1
  rw [show (2 : Int) ^ 1 = 2 from rfl] at e
  rw [e, ← ru_gen, ru_xor]
  unfold bs
  rw [if_pos (by cases hm : r.msb <;> cases b <;> simp_all)]
theorem bs_no {r : Reg} {b : Bool} (h : (!r.msb == b) = false) : ru r * 2 % 4294967296 = ru (bs r b) := by
  have e := ru_shl r 1
  rw [show (2 : Int) ^ 1 = 2 from rfl] at e
  rw [e]
  unfold bs
  rw [if_neg (by cases hm : r.msb <;> cases b <;> simp_all), BitVec.xor_zero]
def cmoreRel (r : Reg) (l : List UInt8) (s i : Value) : Prop := ∃ k : Nat, k ≤ l.length ∧ s = .int .u32 (ru (mo r (l.take k))) ∧ i = .int .i64 k
def iRel (q : Reg) (x : UInt8) (s u n : Value) : Prop := ∃ j : Nat, j ≤ 8 ∧ s = .int .u32 (ru (pre8 q x j)) ∧ u = .int .i64 (unC j) ∧ n = .int .i64 j
set_option maxHeartbeats 1600000 in
theorem rmore_any (r : Reg) (s : ByteArray) (w : World) (hs : s.size ≤ 1000000000) :
    Calls Try.prog 64 #[.int .u32 (ru r), .string s] w fun e w' => e = .returned (.int .u32 (ru (mo r (ls s)))) ∧ w = w' := by
  go_enter Try.func64, Try.ntmps64
  go_wp2
  go_loop [0, 5] (fun x i => cmoreRel r (ls s) x i) (fun _ i => s.size - (intOf i).toNat)
  case atStart => exact ⟨0, by omega, rfl, rfl⟩
  case round =>
    obtain ⟨k, hk, rfl, rfl⟩ := hrel
    rw [← ls_size] at hk
    by_cases hlt : k < s.size
    · have HG := Lib.hid (ls_get s k hlt)
      have HN := Lib.hid (mo_next (l := ls s) (k := k) (by rw [← ls_size]; exact hlt) r)
      rw [← HG.out] at HN
      generalize mo r ((ls s).take k) = q at *
      obtain ⟨x, hx⟩ : ∃ x, s[k] = x := ⟨_, rfl⟩
      rw [hx] at HN
      obtain ⟨v, hv⟩ : ∃ v : Int, (x.toNat : Int) = v := ⟨_, rfl⟩
      have hv0 : 0 ≤ v ∧ v ≤ 255 := by rw [← hv]; exact u8_bd x
      obtain ⟨v0, v1⟩ := hv0
      go_wp2
      go_loop [0, 6, 7] (fun y u n => iRel q x y u n) (fun _ _ n => 8 - (intOf n).toNat)
      case atStart => exact ⟨0, by omega, rfl, rfl, rfl⟩
      case round =>
        obtain ⟨j, hj, rfl, rfl, rfl⟩ := hrel
        by_cases hjl : j < 8
        · obtain ⟨u0, u1⟩ := unC_bd hjl
          have hu : (unC j == 0) = false := by simp; omega
          have HU := Lib.hid (unC_next j)
          have HP := Lib.hid (pre8_next q x hjl)
          have HM := Lib.hid (msb_ge (pre8 q x j))
          have HI := Lib.hid (unC_bit x hjl)
          rw [hv] at HI
          generalize pre8 q x j = p at *
          generalize x.toNat.testBit (7 - j) = t at *
          generalize unC j = u at *
          have h5 : 0 ≤ v / u := Int.ediv_nonneg v0 (by omega)
          have h6 : v / u ≤ v := Int.ediv_le_self _ v0
          cases hc : (!p.msb == t)
          · have HC := Lib.hid (bs_no hc)
            have hd : (!decide (2147483648 ≤ ru p) == (v / u % 2 == 1)) = false := by rw [show decide (2147483648 ≤ ru p) = p.msb from HM.out, HI.out]; exact hc
            clear hc
            go_wp2
            go_round
            case rel => exact ⟨j + 1, by omega, by rw [HC.out, HP.out], by rw [HU.out], by go_num⟩
            case measure => simp [intOf]; omega
          · have HC := Lib.hid (bs_yes hc)
            have hd : (!decide (2147483648 ≤ ru p) == (v / u % 2 == 1)) = true := by rw [show decide (2147483648 ≤ ru p) = p.msb from HM.out, HI.out]; exact hc
            clear hc
            go_wp2
            go_round
            case rel => exact ⟨j + 1, by omega, by rw [HC.out, HP.out], by rw [HU.out], by go_num⟩
            case measure => simp [intOf]; omega
        · obtain rfl : j = 8 := by omega
          rw [pre8_full, HN.out]
          go_wp2
          go_round
          case rel => exact ⟨k + 1, by rw [← ls_size]; omega, rfl, by go_num⟩
          case measure => simp [intOf]; omega
    · have HE := Lib.hid (show (ls s).take k = ls s from List.take_of_length_le (by rw [← ls_size]; omega))
      rw [HE.out]
      go_wp2
      go_ret
      exact ⟨rfl, rfl⟩
theorem rsum_any (s : ByteArray) (w : World) (hs : s.size ≤ 1000000000) :
    Calls Try.prog 53 #[.string s] w fun e w' => e = .returned (.int .u32 (ru (mo ones (ls s)))) ∧ w = w' := by
  have h := rmore_any ones s
  rw [ru_ones] at h
  go_enter Try.func53, Try.ntmps53
  go_wp2_with fail
  refine (h w hs).mono ?_
  rintro e w1 ⟨rfl, rfl⟩
  go_wp2
  go_ret
  exact ⟨rfl, rfl⟩
theorem rfour_any (w0 : World) (q : Reg) (w : World) (hk : Keeps w0 w) :
    Calls Try.prog 52 #[.int .u32 (ru q)] w fun e w' => e = .returned (.string (st (four q))) ∧ Keeps w0 w' := by
  have hcv := four_conv q w
  obtain ⟨q0, q1⟩ := ru_bd q
  rw [show ru q / 16777216 % 256 = ru q / 16777216 by omega] at hcv
  go_enter Try.func52, Try.ntmps52
  go_wp2
  go_ret
  exact ⟨rfl, hk.alloc _⟩
theorem rseal_any (w0 : World) (s : ByteArray) (w : World) (hs : s.size ≤ 1000000) (hk : Keeps w0 w) :
    Calls Try.prog 31 #[.string s] w fun e w' => e = .returned (.string (st (sld (ls s)))) ∧ Keeps w0 w' := by
  have he : s ++ st (four (mo ones (ls s))) = st (sld (ls s)) := by unfold sld; rw [← st_append, st_ls]
  have HE := Lib.hid he
  clear he
  go_enter Try.func31, Try.ntmps31
  go_wp2_with fail
  refine (rsum_any s w (by omega)).mono ?_
  rintro e w1 ⟨rfl, rfl⟩
  obtain ⟨q, hq⟩ : ∃ q, mo ones (ls s) = q := ⟨_, rfl⟩
  rw [hq] at HE
  rw [hq]
  clear hq
  go_wp2_with fail
  refine (rfour_any w0 q w hk).mono ?_
  rintro e w1 ⟨rfl, hk1⟩
  have hl4 : (st (four q)).size = 4 := by rw [st_size]; rfl
  go_wp2
  go_ret
  exact ⟨by rw [← HE.out]; rfl, hk1⟩
theorem opn_iff {l : List UInt8} (h : ¬ l.length < 4) : mo ones l = 0#32 ↔ sld (l.take (l.length - 4)) = l := by
  have hl : l.take (l.length - 4) ++ l.drop (l.length - 4) = l := List.take_append_drop _ _
  have h4 : (l.drop (l.length - 4)).length = 4 := by rw [List.length_drop]; omega
  have h2 := mo_four_iff (mo ones (l.take (l.length - 4))) (l.drop (l.length - 4)) h4
  rw [← mo_append, hl] at h2
  rw [h2]
  unfold sld
  constructor
  · intro e; rw [← e]; exact hl
  · intro e
    have e2 : l.take (l.length - 4) ++ four (mo ones (l.take (l.length - 4))) = l.take (l.length - 4) ++ l.drop (l.length - 4) := e.trans hl.symm
    exact (List.append_cancel_left e2).symm
end Go.Proofs.Ytofnokikjfmfgaa
