/-
  Check sums: the program's and the document's Sum, Seal, Open; the chapter's examples. For texts of up to a million bytes. The memory that was there stays.
-/
import Derived.Deep.MidRow
import Derived.Test.YtebfihghfkcicaaCf
import Derived.Test.YtebfihghfkcicaaBase
namespace Go.Proofs.Ytebfihghfkcicaa
open Go.RowKit Gf Crc
set_option maxRecDepth 100000

/-- A register as Go's number. -/
def ru (r : Reg) : Int := (r.toNat : Int)
theorem ru_bd (r : Reg) : 0 ≤ ru r ∧ ru r ≤ 4294967295 := by have := r.isLt; unfold ru; omega
theorem ru_of {n : Int} (h : 0 ≤ n ∧ n ≤ 4294967295) : ∃ r : Reg, n = ru r :=
  ⟨BitVec.ofNat 32 n.toNat, by unfold ru; rw [BitVec.toNat_ofNat, Nat.mod_eq_of_lt (by omega)]; omega⟩
theorem ru_xor (r s : Reg) : bits BinOp.xor IntKind.u32 (ru r) (ru s) = ru (r ^^^ s) := by
  unfold ru; rw [u32_xor_nat _ _ r.isLt s.isLt, BitVec.toNat_xor]
theorem ru_shl (r : Reg) (n : Nat) : ru r * 2 ^ n % 4294967296 = ru (r <<< n) := by
  unfold ru; rw [BitVec.toNat_shiftLeft, Nat.shiftLeft_eq]
  rw [Int.natCast_emod, Int.natCast_mul, Int.natCast_pow]; rfl
theorem ru_gen : ru gen = 79764919 := rfl
theorem ru_inj {r s : Reg} (h : ru r = ru s) : r = s := BitVec.eq_of_toNat_eq (by unfold ru at h; omega)
theorem and_pow (x i : Nat) : x &&& 2 ^ i = if x.testBit i then 2 ^ i else 0 := by
  apply Nat.eq_of_testBit_eq
  intro j
  rw [Nat.testBit_and, Nat.testBit_two_pow]
  by_cases e : i = j
  · subst e; cases h : x.testBit i <;> simp
  · have h2 : (2 ^ i).testBit j = false := by rw [Nat.testBit_two_pow]; simp [e]
    cases h : x.testBit i <;> simp [e, h2]
theorem msb_and (r : Reg) : (bits BinOp.and IntKind.u32 (ru r) 2147483648 != 0) = r.msb := by
  unfold ru
  rw [show (2147483648 : Int) = ((2 ^ 31 : Nat) : Int) from rfl, u32_and_nat _ _ r.isLt (by decide), and_pow, BitVec.msb_eq_getLsbD_last]
  show _ = r.toNat.testBit 31
  cases r.toNat.testBit 31 <;> rfl
theorem up_yes {r : Reg} (h : r.msb = true) : bits BinOp.xor IntKind.u32 (ru r * 2 % 4294967296) 79764919 = ru (bs r false) := by
  have e := ru_shl r 1
  rw [show (2 : Int) ^ 1 = 2 from rfl] at e
  rw [e, ← ru_gen, ru_xor]
  unfold bs; rw [h]; rfl
theorem up_no {r : Reg} (h : r.msb = false) : ru r * 2 % 4294967296 = ru (bs r false) := by
  have e := ru_shl r 1
  rw [show (2 : Int) ^ 1 = 2 from rfl] at e
  rw [e]
  unfold bs; rw [h]
  show _ = ru (_ ^^^ 0#32)
  rw [BitVec.xor_zero]
set_option maxHeartbeats 400000 in
theorem up_any (r : Reg) (w : World) : Calls Try.prog 56 #[.int .u32 (ru r)] w fun e w' => e = .returned (.int .u32 (ru (bs r false))) ∧ w = w' := by
  obtain ⟨h0, h1⟩ := ru_bd r
  have hm := msb_and r
  cases hb : r.msb
  · rw [hb] at hm
    have HE := Lib.hid (up_no hb)
    generalize ru r = n at *
    go_enter Try.func56, Try.ntmps56
    go_wp2
    go_ret
    exact ⟨ret_int HE.out, rfl⟩
  · rw [hb] at hm
    have HE := Lib.hid (up_yes hb)
    generalize ru r = n at *
    go_enter Try.func56, Try.ntmps56
    go_wp2
    go_ret
    exact ⟨ret_int HE.out, rfl⟩
/-- The table, number by number. -/
def tb (n : Nat) : Reg := by8 (tp (UInt8.ofNat n)) 0
theorem tb_chk : allB 256 (fun n => Nat.beq (tb n).toNat ((bs (tb (n / 2)) false) ^^^ (if n % 2 = 1 then gen else 0#32)).toNat) = true := by kernel_rfl
theorem tb_next {n : Nat} (h : n < 256) : tb n = (bs (tb (n / 2)) false) ^^^ (if n % 2 = 1 then gen else 0#32) := by
  have := allB_at tb_chk h
  rw [Nat.beq_eq] at this
  exact BitVec.eq_of_toNat_eq this
theorem tb_zero : tb 0 = 0#32 := by decide
def tbL : List Value := (List.range 256).map fun n => .int .u32 (ru (tb n))
theorem tbL_length : tbL.length = 256 := by unfold tbL; rw [List.length_map, List.length_range]
theorem tbL_get {n : Nat} (h : n < 256) : tbL[n]? = some (.int .u32 (ru (tb n))) := by
  unfold tbL; rw [List.getElem?_map, List.getElem?_range h]; rfl
theorem tbL_one : ∀ v ∈ tbL, v.oneCell' = true := by
  intro v hv
  obtain ⟨n, _, rfl⟩ := List.mem_map.1 hv
  rfl
/-- 256 numbers 0. -/
def z256 : Array Value := Array.replicate 256 (.int .u32 0)
theorem z256_get {i : Nat} (h : i < 256) : z256[i]? = some (.int .u32 0) := by simp [z256, h]
theorem info256 : (Try.prog.info? 116).map (fun i => (i.zero, i.size)) = some (some (.agg z256), 256) := by kernel_rfl
theorem size256 : (Try.prog.info? 116).map (·.size) = some 256 := by
  have h := info256
  cases hq : Try.prog.info? 116 with
  | none => rw [hq] at h; cases h
  | some i => rw [hq] at h; simp at h; simp [h.2]
theorem alloc256 (w : World) : (Instr.alloc 116 true (.tuple #[])).run Try.prog w = .ok (.pointer (some ⟨w.heap.size, 0, none⟩)) (w.alloc (.cells z256 116)) := by
  have hz : (zeroValue 116).run Try.prog w = .ok (.agg z256) w := by
    have h := info256
    cases hq : Try.prog.info? 116 with
    | none => rw [hq] at h; cases h
    | some i =>
      rw [hq] at h
      simp at h
      simp [zeroValue, typeInfo, hq, h.1]
  simp only [Instr.alloc, Sem.run_bind, hz, Result.andThen_ok]
  rfl
theorem wpList_a256 {ops : Array Oper} {rest : List Oper} {o : Oper} {a : Act} {w : World} {Q : Exit → Act → World → Prop} (hg : o.guard = none) (ho : o.op = .alloc 116)
    (h : wpList Try.prog ops Q rest (a.put o.dst (.pointer (some ⟨w.heap.size, 0, none⟩))) (w.alloc (.cells z256 116))) : wpList Try.prog ops Q (o :: rest) a w := by
  refine wpList_plain hg fun _ hK => ?_
  have e : (execOp a.eval o).run Try.prog w = .ok (.value (.pointer (some ⟨w.heap.size, 0, none⟩))) (w.alloc (.cells z256 116)) := by
    unfold execOp
    simp only [ho, Sem.run_bind, alloc256, Result.andThen_ok]
    rfl
  unfold Oper.wp
  rw [e, Oper.upon_value]
  exact hK _ _ h
/-- Block b holds 256 numbers, f i in place i, and they may be written. -/
structure Arr (b : Nat) (f : Nat → Reg) (w : World) : Prop where
  old : b < w.heap.size
  cell : ∀ i, i < 256 → w.cell? ⟨b, i, none⟩ = some (.int .u32 (ru (f i)))
  free : ∀ i, i < 256 → w.frozen? ⟨b, i, none⟩ = false
theorem Arr.zero (w : World) : Arr w.heap.size (fun _ => 0#32) (w.alloc (.cells z256 116)) :=
  ⟨by simp, fun i hi => by rw [World.cell?_alloc_new]; exact z256_get hi, fun i _ => World.frozen?_alloc_new _ _ _ _⟩
theorem Arr.below {b : Nat} {f : Nat → Reg} {w w' : World} (h : Arr b f w) (k : Below w.heap.size w w') : Arr b f w' :=
  ⟨Nat.lt_of_lt_of_le h.old k.size, fun i hi => (k.cell (p := ⟨b, i, none⟩) h.old).trans (h.cell i hi), fun i hi => (k.frozen (p := ⟨b, i, none⟩) h.old).trans (h.free i hi)⟩
theorem Arr.only {b c : Nat} {f : Nat → Reg} {w w' : World} (h : Arr b f w) (hn : b ≠ c) (k : Only c w w') : Arr b f w' :=
  ⟨Nat.lt_of_lt_of_le h.old k.size, fun i hi => (k.cell (p := ⟨b, i, none⟩) h.old hn).trans (h.cell i hi), fun i hi => (k.frozen (p := ⟨b, i, none⟩) h.old hn).trans (h.free i hi)⟩
theorem Arr.set {b : Nat} {f g : Nat → Reg} {w : World} (h : Arr b f w) {k : Nat} (hk : k < 256) (hg : ∀ i, i < 256 → i ≠ k → g i = f i) : Arr b g (w.setCell ⟨b, k, none⟩ (.int .u32 (ru (g k)))) := by
  refine ⟨by simpa [World.setCell] using h.old, fun i hi => ?_, fun i hi => by simp [h.free i hi]⟩
  by_cases e : i = k
  · subst e; exact World.cell?_setCell_same _ _ _ (h.cell i hi)
  · rw [World.cell?_setCell_other _ _ _ _ (by intro x; exact e (congrArg Addr.off x).symm), h.cell i hi, hg i hi e]
theorem Arr.range {b : Nat} {w : World} (h : Arr b tb w) : w.rangeAt b 0 tbL := by
  intro j v hj
  have hlt : j < 256 := by have := (List.getElem?_eq_some_iff.1 hj).1; rwa [tbL_length] at this
  rw [Nat.zero_add, h.cell j hlt, ← hj, tbL_get hlt]
theorem Arr.there {b : Nat} {f : Nat → Reg} {w : World} (h : Arr b f w) : w.there b 0 tbL.toArray.size := by
  intro j hj
  have hlt : j < 256 := by rw [List.size_toArray, tbL_length] at hj; exact hj
  rw [Nat.zero_add]
  exact ⟨by rw [h.cell j hlt]; rfl, h.free j hlt⟩
/-- The table, stored into a block of as many cells. -/
theorem Arr.put {b : Nat} {f : Nat → Reg} {w : World} (h : Arr b f w) : Arr b tb (w.setCells b 0 tbL.toArray.toList) := by
  have ht : w.there b 0 tbL.length := by have := h.there; rwa [List.size_toArray] at this
  refine ⟨Nat.lt_of_lt_of_le h.old (only_setCells b _ 0 w).size, fun i hi => ?_, fun i hi => by rw [World.frozen?_setCells]; exact h.free i hi⟩
  have := World.rangeAt_setCells_same w b 0 tbL ht i _ (tbL_get hi)
  rw [Nat.zero_add] at this
  exact this
def half (k : Nat) (i : Nat) : Reg := if i < k then tb i else 0#32
theorem half_half (k : Nat) : half k (k / 2) = tb (k / 2) := by
  unfold half
  by_cases h : k / 2 < k
  · rw [if_pos h]
  · have : k = 0 := by omega
    subst this; rw [if_neg h, tb_zero]
theorem odd_gen (k : Nat) : (k : Int) % 2 * 79764919 = ru (if k % 2 = 1 then gen else 0#32) := by
  by_cases h : k % 2 = 1
  · rw [if_pos h, ru_gen]; omega
  · rw [if_neg h, show ru 0#32 = 0 from rfl]; omega
def rowsRel (w0 : World) (b : Nat) (n : Value) (wr : World) : Prop := ∃ k : Nat, k ≤ 256 ∧ n = .int .i64 (k : Nat) ∧ Arr b (half k) wr ∧ Only b w0 wr
set_option maxHeartbeats 800000 in
theorem rows_any (w : World) : Calls Try.prog 51 #[] w fun e w' => e = .returned (.agg tbL.toArray) ∧ Keeps w w' := by
  go_enter Try.func51, Try.ntmps51
  go_wp2_with (with_reducible refine wpList_a256 rfl rfl ?_)
  have hA := (Arr.zero (w.alloc (.cells z256 116)))
  rw [World.size_alloc] at hA
  have hR := (Arr.zero w).below ((Below.refl _ (w.alloc (.cells z256 116))).alloc (Nat.le_refl _) (.cells z256 116))
  have hkA := ((Keeps.refl w).alloc (.cells z256 116)).alloc (.cells z256 116)
  obtain ⟨wA, hwA⟩ : ∃ wA, (w.alloc (.cells z256 116)).alloc (.cells z256 116) = wA := ⟨_, rfl⟩
  rw [hwA] at hA hR hkA
  go_simp
  obtain ⟨rb, hrb⟩ : ∃ rb, w.heap.size = rb := ⟨_, rfl⟩
  obtain ⟨b, hb⟩ : ∃ b, rb + 1 = b := ⟨_, rfl⟩
  rw [hrb] at hA hR
  rw [hb] at hA
  rw [hrb, hb]
  have HK := Lib.hid hkA
  have HR := Lib.hid hR
  have HB := Lib.hid hb
  have HRB := Lib.hid hrb
  clear hwA hkA hR hb hrb
  go_loopw [3] (fun n wr => rowsRel wA b n wr) (fun n _ => 256 - (intOf n).toNat)
  case atStart => exact ⟨0, by omega, rfl, hA, Only.refl _ _⟩
  case round =>
    obtain ⟨k, hk, rfl, ht, ho⟩ := hrel
    clear hA
    by_cases hlt : k < 256
    · have hc := ht.cell (k / 2) (by omega)
      have hf := ht.free k hlt
      have hc2 := ht.cell k hlt
      rw [half_half] at hc
      have HN := Lib.hid (tb_next hlt)
      have HT := Lib.hid ht
      have HO := Lib.hid ho
      clear ht ho
      go_wp2_with (go_at_call 56; refine (up_any _ _).mono ?_; rintro e w' ⟨rfl, rfl⟩)
      go_roundw
      case rel =>
        rw [odd_gen, ru_xor, ← HN.out]
        have h2 := HT.out.set (g := half (k + 1)) hlt (fun i hi hn => by unfold half; by_cases e : i < k <;> simp [e] <;> omega)
        rw [show half (k + 1) k = tb k by unfold half; rw [if_pos (by omega)]] at h2
        exact ⟨k + 1, by omega, by go_num, h2, HO.out.trans (Only.setCell _ ⟨b, k, none⟩ _)⟩
      case measure => simp [intOf]; omega
    · obtain rfl : k = 256 := by omega
      have hT : Arr b tb wr := ⟨ht.old, fun i hi => by rw [ht.cell i hi, half, if_pos hi], ht.free⟩
      have hR2 : Arr rb (fun _ => 0#32) wr := HR.out.only (by have := HB.out; omega) ho
      clear ht
      have hrg := hT.range
      have hth := hR2.there
      have hsz : (Try.prog.info? 116).map (·.size) = some tbL.length := by rw [tbL_length]; exact size256
      have hsz2 : (Try.prog.info? 116).map (·.size) = some tbL.toArray.size := by rw [List.size_toArray]; exact hsz
      have h1 := all_oneCell_toArray tbL_one
      have hP := hR2.put
      obtain ⟨TL, hTL⟩ : ∃ TL, tbL = TL := ⟨_, rfl⟩
      have HTL := Lib.hid hTL
      rw [hTL] at hrg hth hsz hsz2 h1 hP
      clear hTL
      go_wp2_with (first | (with_reducible refine wpList_load_mid rfl _ _ rfl b 0 rfl TL _ hrg Try.underlying116 rfl hsz ?_) | (with_reducible refine wpList_store_mid rfl _ _ _ rfl rb 0 TL.toArray rfl rfl hth hsz2 h1 ?_))
      have HP := Lib.hid (show (wr.setCells rb 0 TL).rangeAt rb 0 TL by have := World.rangeAt_setCells_same wr rb 0 TL (by rwa [List.size_toArray] at hth); exact this)
      have hrun := run_loadVar_mid (P := Try.prog) _ rb 0 116 TL _ HP.out Try.underlying116 rfl hsz
      refine bodyPost_ret (v := .agg TL.toArray) ?_ rfl ?_
      · rw [results_cell rfl]
        show ((asAddr (.pointer (some ⟨rb, 0, none⟩))).run Try.prog _).andThen _ = _
        rw [show (asAddr (.pointer (some ⟨rb, 0, none⟩))).run Try.prog (wr.setCells rb 0 TL) = .ok ⟨rb, 0, none⟩ (wr.setCells rb 0 TL) from rfl]
        exact hrun
      · rw [HTL.out]
        have e1 := HB.out
        have e2 := HRB.out
        have h3 : Keeps w wr := ho.keeps HK.out (by omega)
        exact ⟨rfl, (only_setCells rb TL 0 wr).keeps h3 (by omega)⟩
/-- The byte at a register's top. -/
def top8 (q : Reg) : UInt8 := UInt8.ofNat (q.toNat / 16777216)
theorem top_nat (q : Reg) : (top8 q).toNat = q.toNat / 16777216 := by
  have := q.isLt
  unfold top8; rw [UInt8.toNat_ofNat_of_lt' (show q.toNat / 16777216 < 256 by omega)]
theorem top_ru (q : Reg) : ru q / 16777216 = ((top8 q).toNat : Int) := by rw [top_nat]; unfold ru; omega
theorem u8_xor8 (a b : UInt8) : bits BinOp.xor IntKind.u8 (a.toNat : Int) (b.toNat : Int) = ((a ^^^ b).toNat : Int) := by
  rw [u8_xor_nat _ _ a.toNat_lt b.toNat_lt, UInt8.toNat_xor]
theorem by8_tb (q : Reg) (x : UInt8) : bits BinOp.xor IntKind.u32 (ru (q <<< 8)) (ru (tb (top8 q ^^^ x).toNat)) = ru (by8 q x) := by
  rw [ru_xor, by8_tab q x (top8 q) (top_nat q), tb, UInt8.ofNat_toNat]
theorem mo_next {l : List UInt8} {k : Nat} (h : k < l.length) (r : Reg) : by8 (mo r (l.take k)) (cf l k) = mo r (l.take (k + 1)) := by
  rw [List.take_succ_eq_append_getElem h, mo_append, cf_lt h]; rfl
theorem Arr.eqv {b : Nat} {f : Nat → Reg} {w w' : World} (h : Arr b f w) (k : Eqv w w') : Arr b f w' :=
  ⟨by rw [k.size]; exact h.old, fun i hi => (k.cell _).trans (h.cell i hi), fun i hi => (k.frozen _).trans (h.free i hi)⟩
def kRel (w : World) (r : Reg) (l : List UInt8) (s i : Value) (wr : World) : Prop := ∃ k : Nat, k ≤ l.length ∧ s = .int .u32 (ru (mo r (l.take k))) ∧ i = .int .i64 k ∧ Eqv w wr
set_option maxHeartbeats 800000 in
theorem take_any (b : Nat) (r : Reg) (s : ByteArray) (w : World) (hs : s.size ≤ 1000000000) (hT : Arr b tb w) :
    Calls Try.prog 52 #[.pointer (some ⟨b, 0, none⟩), .int .u32 (ru r), .string s] w fun e w' => e = .returned (.int .u32 (ru (mo r (ls s)))) ∧ Eqv w w' := by
  have HT := Lib.hid hT
  clear hT
  go_enter Try.func52, Try.ntmps52
  go_wp2
  go_loopw [1, 10] (fun x i wr => kRel w r (ls s) x i wr) (fun _ i _ => s.size - (intOf i).toNat)
  case atStart => exact ⟨0, by omega, rfl, rfl, Eqv.refl w⟩
  case round =>
    obtain ⟨k, hk, rfl, rfl, hkp⟩ := hrel
    rw [← ls_size] at hk
    by_cases hlt : k < s.size
    · have HG := Lib.hid (ls_get s k hlt)
      have HN := Lib.hid (mo_next (l := ls s) (k := k) (by rw [← ls_size]; exact hlt) r)
      rw [← HG.out] at HN
      generalize mo r ((ls s).take k) = q at *
      have hT2 := HT.out.eqv hkp
      have hq := ru_bd q
      have e1 := top_ru q
      have e2 := u8_xor8 (top8 q) s[k]
      have h3 := hT2.cell (top8 q ^^^ s[k]).toNat (top8 q ^^^ s[k]).toNat_lt
      have h4 : (((top8 q ^^^ s[k]).toNat : Nat) : Int) < 256 := by have := (top8 q ^^^ s[k]).toNat_lt; omega
      have e3 : IntKind.u8.wrap ((top8 q).toNat : Int) = ((top8 q).toNat : Int) := by have := (top8 q).toNat_lt; rw [IntKind.wrap_u8']; omega
      have e4 : IntKind.u32.wrap (ru q * 256) = ru (q <<< 8) := by rw [IntKind.wrap_u32']; exact ru_shl q 8
      have HB := Lib.hid (by8_tb q s[k])
      generalize hx : top8 q ^^^ s[k] = x at *
      go_wp2
      go_quiet (fail)
      go_wp2
      go_roundw
      case rel => exact ⟨k + 1, by rw [← ls_size]; omega, by rw [HB.out, HN.out], by go_num, hkp.trans (Eqv.drewN wr _)⟩
      case measure => simp [intOf]; omega
    · have HE := Lib.hid (show (ls s).take k = ls s from List.take_of_length_le (by rw [← ls_size]; omega))
      rw [HE.out]
      go_wp2
      go_ret
      exact ⟨rfl, hkp⟩
end Go.Proofs.Ytebfihghfkcicaa
namespace Go.Proofs.Ytebfihghfkcicaa
open Go.RowKit Gf Crc
set_option maxRecDepth 100000
def ones : Reg := 0xffffffff#32
theorem ru_ones : ru ones = 4294967295 := rfl
def csumRel (w : World) (r : Reg) (l : List (List UInt8)) (s i : Value) (wr : World) : Prop := ∃ k : Nat, k ≤ l.length ∧ s = .int .u32 (ru (mo r (l.take k).flatten)) ∧ i = .int .i64 k ∧ Eqv w wr
theorem flat_next {l : List (List UInt8)} {k : Nat} (h : k < l.length) (r : Reg) : mo (mo r (l.take k).flatten) (l.getD k []) = mo r (l.take (k + 1)).flatten := by
  rw [List.take_succ_eq_append_getElem h, List.flatten_append, mo_append, List.getD_eq_getElem?_getD, List.getElem?_eq_getElem h]
  simp
theorem put256 {w : World} (hA : Arr w.heap.size (fun _ => 0#32) (w.alloc (.cells z256 116))) : Arr w.heap.size tb ((w.alloc (.cells z256 116)).setCells w.heap.size 0 tbL) := hA.put
theorem sz256 : (Try.prog.info? 116).map (·.size) = some tbL.toArray.size := by rw [List.size_toArray, tbL_length]; exact size256
theorem one256 : tbL.toArray.all (·.oneCell') = true := all_oneCell_toArray tbL_one
set_option maxHeartbeats 800000 in
theorem sum_any (w0 : World) (a : Option Addr) (len cap : Nat) (l : List (List UInt8)) (w : World) (hI : IsT w a len l) (hl : l.length ≤ 1000) (hs : ∀ t ∈ l, t.length ≤ 1000000) (hk : Keeps w0 w) :
    Calls Try.prog 43 #[.slice a len cap] w fun e w' => e = .returned (.int .u32 (ru (mo ones l.flatten))) ∧ Keeps w0 w' := by
  obtain ⟨rfl, _⟩ := id hI
  have HS := Lib.hid hs
  clear hs
  go_enter Try.func43, Try.ntmps43
  go_wp2_with fail
  refine (rows_any w).mono ?_
  rintro e w1 ⟨rfl, hk1⟩
  have hA := Arr.zero w1
  have hth := hA.there
  have hsz := sz256
  have h1 := one256
  have hP := hA.put
  have hkk : Keeps w ((w1.alloc (.cells z256 116)).setCells w1.heap.size 0 tbL.toArray.toList) :=
    (only_setCells _ _ _ _).keeps (hk1.alloc _) (Below.size hk1)
  have hI2 := hI.keeps hkk
  have hk2 := hk.trans hkk
  obtain ⟨TL, hTL⟩ : ∃ TL, tbL = TL := ⟨_, rfl⟩
  rw [hTL] at hth hsz h1 hP hk2 hI2
  simp only [hTL]
  clear hTL hA hkk
  go_wp2_with (first | (with_reducible refine wpList_a256 rfl rfl ?_) | (with_reducible refine wpList_store_mid rfl _ _ _ rfl w1.heap.size 0 TL.toArray rfl rfl hth hsz h1 ?_))
  obtain ⟨b, hb⟩ : ∃ b, w1.heap.size = b := ⟨_, rfl⟩
  rw [hb] at hP hI2 hk2
  rw [hb]
  obtain ⟨wA, hwA⟩ : ∃ wA, (w1.alloc (.cells z256 116)).setCells b 0 TL = wA := ⟨_, rfl⟩
  rw [hwA] at hP hI2 hk2
  rw [hwA]
  clear hwA hb hth hsz h1 hk1
  go_loopw [4, 10] (fun x i wr => csumRel wA ones l x i wr) (fun _ i _ => l.length - (intOf i).toNat)
  case atStart => exact ⟨0, by omega, rfl, rfl, Eqv.refl _⟩
  case round =>
    obtain ⟨k, hkl, rfl, rfl, hkp⟩ := hrel
    by_cases hlt : k < l.length
    · obtain ⟨b1, off1, rfl, hc⟩ := hI2.get hlt
      have hcr := (hkp.cell _).trans hc
      have HN := Lib.hid (flat_next (l := l) hlt ones)
      have hP2 := hP.eqv hkp
      have hz : (st (l.getD k [])).size ≤ 1000000000 := by
        rw [st_size, List.getD_eq_getElem?_getD, List.getElem?_eq_getElem hlt]
        have := HS.out _ (List.getElem_mem hlt)
        simp; omega
      generalize mo ones (l.take k).flatten = q at *
      obtain ⟨t, ht⟩ : ∃ t, l.getD k [] = t := ⟨_, rfl⟩
      rw [ht] at hcr hz HN
      clear ht hc
      go_wp2_with (go_at_call 52; refine (take_any _ q (st t) _ hz hP2).mono ?_; rintro e w2 ⟨rfl, he2⟩)
      go_roundw
      case rel => exact ⟨k + 1, by omega, by rw [ls_st, HN.out], by go_num, hkp.trans he2⟩
      case measure => simp [intOf]; omega
    · have HE := Lib.hid (show l.take k = l from List.take_of_length_le (by omega))
      rw [HE.out]
      go_wp2
      go_ret
      exact ⟨rfl, hk2.eqv hkp⟩
theorem four_u (q : Reg) : (four q).map B = [.int .u8 (ru q / 16777216 % 256), .int .u8 (ru q / 65536 % 256), .int .u8 (ru q / 256 % 256), .int .u8 (ru q % 256)] := by
  have hq := q.isLt
  have e : ∀ n : Nat, n < 256 → B (UInt8.ofNat n) = .int .u8 (n : Int) := fun n h => by unfold B; rw [UInt8.toNat_ofNat_of_lt' (show n < 256 by omega)]
  unfold four ru
  rw [List.map_cons, List.map_cons, List.map_cons, List.map_cons, List.map_nil, e _ (by omega), e _ (by omega), e _ (by omega), e _ (by omega)]
  have h1 : ((q.toNat / 16777216 : Nat) : Int) = (q.toNat : Int) / 16777216 % 256 := by omega
  rw [h1]
  rfl
theorem four_conv (q : Reg) (w : World) :
    (convert 46 9 (.slice (some ⟨w.heap.size, 0, none⟩) 4 4)).run Try.prog (w.alloc (.cells #[.int .u8 (ru q / 16777216 % 256), .int .u8 (ru q / 65536 % 256), .int .u8 (ru q / 256 % 256), .int .u8 (ru q % 256)] 5)) = .ok (.string (st (four q))) (w.alloc (.cells #[.int .u8 (ru q / 16777216 % 256), .int .u8 (ru q / 65536 % 256), .int .u8 (ru q / 256 % 256), .int .u8 (ru q % 256)] 5)) := by
  have h := (Blk.lit w (four q) 5).whole 4 (four_length q).symm
  rw [four_u] at h
  exact h
/-- Sealed bytes. -/
def sld (l : List UInt8) : List UInt8 := l ++ four (mo ones l)
theorem sld_length (l : List UInt8) : (sld l).length = l.length + 4 := by unfold sld; rw [List.length_append, four_length]
set_option maxHeartbeats 800000 in
theorem seal_any (w0 : World) (s : ByteArray) (w : World) (hs : s.size ≤ 1000000) (hk : Keeps w0 w) :
    Calls Try.prog 33 #[.string s] w fun e w' => e = .returned (.string (st (sld (ls s)))) ∧ Keeps w0 w' := by
  go_enter Try.func33, Try.ntmps33
  go_wp2_with fail
  refine (sum_any w0 _ _ _ [ls s] _ (IsT.one w s 9) (by simp) (by simp [← ls_size, hs]) (hk.alloc _)).mono ?_
  rintro e w1 ⟨rfl, hk1⟩
  have he : s ++ st (four (mo ones (ls s))) = st (sld (ls s)) := by unfold sld; rw [← st_append, st_ls]
  have hf : mo ones [ls s].flatten = mo ones (ls s) := by simp
  rw [hf]
  clear hf
  have HE := Lib.hid he
  clear he
  obtain ⟨q, hq⟩ : ∃ q, mo ones (ls s) = q := ⟨_, rfl⟩
  rw [hq] at HE
  rw [hq]
  clear hq
  have hcv := four_conv q w1
  have hl4 : (st (four q)).size = 4 := by rw [st_size]; rfl
  go_wp2
  go_ret
  exact ⟨by rw [← HE.out]; rfl, hk1.alloc _⟩
/-- What is opened of bytes, and what is wrong. -/
def opn (l : List UInt8) : List UInt8 × Int := if l.length < 4 then ([], 10) else if mo ones l = 0#32 then (l.take (l.length - 4), 0) else ([], 13)
theorem opn_short {l : List UInt8} (h : l.length < 4) : opn l = ([], 10) := by unfold opn; rw [if_pos h]
theorem opn_bad {l : List UInt8} (h : ¬ l.length < 4) (h2 : mo ones l ≠ 0#32) : opn l = ([], 13) := by unfold opn; rw [if_neg h, if_neg h2]
theorem opn_good {l : List UInt8} (h : ¬ l.length < 4) (h2 : mo ones l = 0#32) : opn l = (l.take (l.length - 4), 0) := by unfold opn; rw [if_neg h, if_pos h2]
theorem ru_zero (q : Reg) : (ru q != 0) = !(decide (q = 0#32)) := by
  by_cases h : q = 0#32
  · subst h; rfl
  · have : ru q ≠ 0 := fun e => h (ru_inj (e.trans rfl))
    simp [h, this]
def OpnPost (w0 : World) (l : List UInt8) (e : Ending) (w' : World) : Prop := e = .returned (.tuple #[.string (st (opn l).1), .int .i64 (opn l).2]) ∧ Keeps w0 w'
set_option maxHeartbeats 800000 in
theorem open_any (w0 : World) (s : ByteArray) (w : World) (hs : s.size ≤ 1000000) (hk : Keeps w0 w) :
    Calls Try.prog 36 #[.string s] w (OpnPost w0 (ls s)) := by
  by_cases h4 : s.size < 4
  · have HO := Lib.hid (opn_short (l := ls s) (by rw [← ls_size]; exact h4))
    go_enter Try.func36, Try.ntmps36
    go_wp2
    go_ret2
    exact ⟨by rw [HO.out]; rfl, hk⟩
  · go_enter Try.func36, Try.ntmps36
    go_wp2_with fail
    refine (sum_any w0 _ _ _ [ls s] _ (IsT.one w s 9) (by simp) (by simp [← ls_size, hs]) (hk.alloc _)).mono ?_
    rintro e w1 ⟨rfl, hk1⟩
    have hf : mo ones [ls s].flatten = mo ones (ls s) := by simp
    rw [hf]
    clear hf
    have hz := ru_zero (mo ones (ls s))
    by_cases h0 : mo ones (ls s) = 0#32
    · have HO := Lib.hid (opn_good (l := ls s) (by rw [← ls_size]; exact h4) h0)
      rw [decide_eq_true h0] at hz
      generalize mo ones (ls s) = q at *
      have HS := Lib.hid (show s.extract 0 (s.size - 4) = st ((ls s).take ((ls s).length - 4)) by rw [← st_ls (s.extract 0 (s.size - 4)), ls_part, ls_size]; simp)
      go_wp2
      go_ret2
      exact ⟨by rw [HO.out, HS.out]; rfl, hk1⟩
    · have HO := Lib.hid (opn_bad (l := ls s) (by rw [← ls_size]; exact h4) h0)
      rw [decide_eq_false h0] at hz
      generalize mo ones (ls s) = q at *
      go_wp2
      go_ret2
      exact ⟨by rw [HO.out]; rfl, hk1⟩
end Go.Proofs.Ytebfihghfkcicaa
namespace Go.Proofs.Ytebfihghfkcicaa
open Go.RowKit Gf Crc
set_option maxRecDepth 100000
/-- Behind j bits of a byte. -/
def pre8 (q : Reg) (x : UInt8) (j : Nat) : Reg := ((bits8 x).take j).foldl bs q
theorem pre8_zero (q : Reg) (x : UInt8) : pre8 q x 0 = q := rfl
theorem pre8_full (q : Reg) (x : UInt8) : pre8 q x 8 = by8 q x := rfl
theorem pre8_next (q : Reg) (x : UInt8) {j : Nat} (h : j < 8) : pre8 q x (j + 1) = bs (pre8 q x j) (x.toNat.testBit (7 - j)) := by
  match j, h with
  | 0, _ => rfl
  | 1, _ => rfl
  | 2, _ => rfl
  | 3, _ => rfl
  | 4, _ => rfl
  | 5, _ => rfl
  | 6, _ => rfl
  | 7, _ => rfl
/-- The number of the bit that comes next. -/
def unC (j : Nat) : Int := ((128 / 2 ^ j : Nat) : Int)
theorem unC_bd {j : Nat} (h : j < 8) : 1 ≤ unC j ∧ unC j ≤ 128 := by
  match j, h with
  | 0, _ => decide
  | 1, _ => decide
  | 2, _ => decide
  | 3, _ => decide
  | 4, _ => decide
  | 5, _ => decide
  | 6, _ => decide
  | 7, _ => decide
theorem unC_next (j : Nat) : unC j / 2 = unC (j + 1) := by
  unfold unC; rw [Nat.pow_succ, ← Nat.div_div_eq_div_mul]; omega
theorem unC_bit (x : UInt8) {j : Nat} (h : j < 8) : ((x.toNat : Int) / unC j % 2 == 1) = x.toNat.testBit (7 - j) := by
  have e : unC j = ((2 ^ (7 - j) : Nat) : Int) := by
    match j, h with
    | 0, _ => rfl
    | 1, _ => rfl
    | 2, _ => rfl
    | 3, _ => rfl
    | 4, _ => rfl
    | 5, _ => rfl
    | 6, _ => rfl
    | 7, _ => rfl
  rw [e, Nat.testBit_eq_decide_div_mod_eq, Bool.eq_iff_iff]
  simp only [beq_iff_eq, decide_eq_true_eq]
  rw [← Int.natCast_ediv]
  omega
theorem msb_ge (r : Reg) : decide (ru r ≥ 2147483648) = r.msb := by
  rw [BitVec.msb_eq_decide]
  unfold ru
  simp only [Nat.reduceSub, Nat.reducePow, ge_iff_le, decide_eq_decide]
  omega
theorem bs_yes {r : Reg} {b : Bool} (h : (!r.msb == b) = true) : bits BinOp.xor IntKind.u32 (ru r * 2 % 4294967296) 79764919 = ru (bs r b) := by
  have e := ru_shl r 1
  rw [show (2 : Int) ^ 1 = 2 from rfl] at e
  rw [e, ← ru_gen, ru_xor]
  unfold bs
  rw [if_pos (by cases hm : r.msb <;> cases b <;> simp_all)]
theorem bs_no {r : Reg} {b : Bool} (h : (!r.msb == b) = false) : ru r * 2 % 4294967296 = ru (bs r b) := by
  have e := ru_shl r 1
  rw [show (2 : Int) ^ 1 = 2 from rfl] at e
  rw [e]
  unfold bs
  rw [if_neg (by cases hm : r.msb <;> cases b <;> simp_all), BitVec.xor_zero]
def cmoreRel (r : Reg) (l : List UInt8) (s i : Value) : Prop := ∃ k : Nat, k ≤ l.length ∧ s = .int .u32 (ru (mo r (l.take k))) ∧ i = .int .i64 k
def iRel (q : Reg) (x : UInt8) (s u n : Value) : Prop := ∃ j : Nat, j ≤ 8 ∧ s = .int .u32 (ru (pre8 q x j)) ∧ u = .int .i64 (unC j) ∧ n = .int .i64 j
theorem opn_iff {l : List UInt8} (h : ¬ l.length < 4) : mo ones l = 0#32 ↔ sld (l.take (l.length - 4)) = l := by
  have hl : l.take (l.length - 4) ++ l.drop (l.length - 4) = l := List.take_append_drop _ _
  have h4 : (l.drop (l.length - 4)).length = 4 := by rw [List.length_drop]; omega
  have h2 := mo_four_iff (mo ones (l.take (l.length - 4))) (l.drop (l.length - 4)) h4
  rw [← mo_append, hl] at h2
  rw [h2]
  unfold sld
  constructor
  · intro e; rw [← e]; exact hl
  · intro e
    have e2 : l.take (l.length - 4) ++ four (mo ones (l.take (l.length - 4))) = l.take (l.length - 4) ++ l.drop (l.length - 4) := e.trans hl.symm
    exact (List.append_cancel_left e2).symm
end Go.Proofs.Ytebfihghfkcicaa
namespace Go.Proofs.Ytebfihghfkcicaa
open Go.RowKit Gf Crc
set_option maxRecDepth 100000
theorem ex_sum : ru (mo ones [[49, 50, 51, 52], [53, 54, 55, 56, 57]].flatten) = 58124007 := by kernel_rfl
theorem ex_abc : opn (ls { data := #[97, 98, 99] }) = ([], 10) := by kernel_rfl
theorem cf_take_lt (l : List UInt8) (n i : Nat) (h : i < n) : cf (l.take n) i = cf l i := by
  unfold cf; rw [List.getD_eq_getElem?_getD, List.getD_eq_getElem?_getD, List.getElem?_take_of_lt h]
theorem cf_drop (l : List UInt8) (n i : Nat) : cf (l.drop n) i = cf l (n + i) := by
  unfold cf; rw [List.getD_eq_getElem?_getD, List.getD_eq_getElem?_getD, List.getElem?_drop]
/-- Two texts of one register that are unlike in four bytes in a row at the most are the same. -/
theorem mo_near (r : Reg) (a b : List UInt8) (hl : a.length = b.length) (f : Nat) (h : ∀ i, i < a.length → cf a i ≠ cf b i → f ≤ i ∧ i < f + 4) (he : mo r a = mo r b) : a = b := by
  have h1 : a.take f = b.take f := list_ext_cf (by rw [List.length_take, List.length_take, hl]) (fun i hi => by
    rw [List.length_take] at hi
    rw [cf_take_lt _ _ _ (by omega), cf_take_lt _ _ _ (by omega)]
    refine Decidable.byContradiction fun hn => ?_
    have := h i (by omega) hn
    omega)
  have h2 : a.drop (f + 4) = b.drop (f + 4) := list_ext_cf (by rw [List.length_drop, List.length_drop, hl]) (fun i hi => by
    rw [List.length_drop] at hi
    rw [cf_drop, cf_drop]
    refine Decidable.byContradiction fun hn => ?_
    have := h (f + 4 + i) (by omega) hn
    omega)
  have ea : a = a.take f ++ (a.drop f).take 4 ++ a.drop (f + 4) := by
    rw [List.append_assoc, ← List.drop_drop, List.take_append_drop, List.take_append_drop]
  have eb : b = b.take f ++ (b.drop f).take 4 ++ b.drop (f + 4) := by
    rw [List.append_assoc, ← List.drop_drop, List.take_append_drop, List.take_append_drop]
  rw [ea, eb, h1, h2] at he
  have := mo_same r (b.take f) ((a.drop f).take 4) ((b.drop f).take 4) (b.drop (f + 4)) (by simp [hl]) (by rw [List.length_take]; omega) he
  rw [ea, h1, h2, this, ← eb]
theorem mo_sld (l : List UInt8) : mo ones (sld l) = 0#32 := by unfold sld; rw [mo_append]; exact mo_four _
end Go.Proofs.Ytebfihghfkcicaa
