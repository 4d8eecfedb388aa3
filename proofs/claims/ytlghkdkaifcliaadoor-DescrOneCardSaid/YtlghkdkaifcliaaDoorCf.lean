/-
  Bytes of a list, lists of bits, the register of check sums, as mathematics. No program.
-/
import Derived.KernelRfl
namespace Go.Proofs.YtlghkdkaifcliaaDoor.Gf
/-- The coefficient of a power. -/
def cf (p : List UInt8) (n : Nat) : UInt8 := p.getD n 0
theorem cf_nil (n : Nat) : cf [] n = 0 := rfl
theorem cf_zero (a : UInt8) (p : List UInt8) : cf (a :: p) 0 = a := rfl
theorem cf_succ (a : UInt8) (p : List UInt8) (n : Nat) : cf (a :: p) (n + 1) = cf p n := by simp [cf]
theorem cf_big {p : List UInt8} {n : Nat} (h : p.length ≤ n) : cf p n = 0 := by
  unfold cf; rw [List.getD_eq_getElem?_getD, List.getElem?_eq_none h]; rfl
theorem cf_lt {p : List UInt8} {n : Nat} (h : n < p.length) : cf p n = p[n] := by
  unfold cf; rw [List.getD_eq_getElem?_getD, List.getElem?_eq_getElem h]; rfl
end Go.Proofs.YtlghkdkaifcliaaDoor.Gf
namespace Go.Proofs.YtlghkdkaifcliaaDoor.Bit
open Gf
/-- The n lowest bits of a number, the highest one first. -/
def lb (x : Nat) : Nat → List Bool
  | 0 => []
  | n + 1 => x.testBit n :: lb x n
theorem lb_length (x : Nat) : ∀ n, (lb x n).length = n
  | 0 => rfl
  | n + 1 => by rw [lb, List.length_cons, lb_length x n]
/-- Bit i, and 0 behind the last one. -/
def bt (L : List Bool) (i : Nat) : Bool := L.getD i false
theorem bt_nil (i : Nat) : bt [] i = false := rfl
theorem bt_zero (b : Bool) (L : List Bool) : bt (b :: L) 0 = b := rfl
theorem bt_succ (b : Bool) (L : List Bool) (i : Nat) : bt (b :: L) (i + 1) = bt L i := by simp [bt]
theorem bt_big {L : List Bool} {i : Nat} (h : L.length ≤ i) : bt L i = false := by
  unfold bt; rw [List.getD_eq_getElem?_getD, List.getElem?_eq_none h]; rfl
theorem bt_lt {L : List Bool} {i : Nat} (h : i < L.length) : bt L i = L[i] := by
  unfold bt; rw [List.getD_eq_getElem?_getD, List.getElem?_eq_getElem h]; rfl
theorem bt_left {A : List Bool} (B : List Bool) {i : Nat} (h : i < A.length) : bt (A ++ B) i = bt A i := by
  unfold bt; rw [List.getD_eq_getElem?_getD, List.getD_eq_getElem?_getD, List.getElem?_append_left h]
theorem bt_right {A : List Bool} (B : List Bool) {i : Nat} (h : A.length ≤ i) : bt (A ++ B) i = bt B (i - A.length) := by
  unfold bt; rw [List.getD_eq_getElem?_getD, List.getD_eq_getElem?_getD, List.getElem?_append_right h]
theorem bt_drop (L : List Bool) (k i : Nat) : bt (L.drop k) i = bt L (k + i) := by
  unfold bt; rw [List.getD_eq_getElem?_getD, List.getD_eq_getElem?_getD, List.getElem?_drop]
theorem bt_take {L : List Bool} {k i : Nat} (h : i < k) : bt (L.take k) i = bt L i := by
  unfold bt; rw [List.getD_eq_getElem?_getD, List.getD_eq_getElem?_getD, List.getElem?_take_of_lt h]
theorem list_ext_bt {A B : List Bool} (hl : A.length = B.length) (h : ∀ i, i < A.length → bt A i = bt B i) : A = B :=
  List.ext_getElem hl fun i h1 h2 => by rw [← bt_lt h1, ← bt_lt h2]; exact h i h1
theorem bt_lb (x : Nat) : ∀ {n i : Nat}, i < n → bt (lb x n) i = x.testBit (n - 1 - i)
  | 0, i, h => by omega
  | n + 1, 0, _ => by rw [lb, bt_zero]; rfl
  | n + 1, i + 1, h => by rw [lb, bt_succ, bt_lb x (by omega : i < n)]; congr 1; omega
/-- The bits of bytes. -/
def ob : List UInt8 → List Bool
  | [] => []
  | a :: l => lb a.toNat 8 ++ ob l
theorem ob_length : ∀ l, (ob l).length = 8 * l.length
  | [] => rfl
  | a :: l => by rw [ob, List.length_append, lb_length, ob_length l, List.length_cons]; omega
theorem ob_append : ∀ a b, ob (a ++ b) = ob a ++ ob b
  | [], _ => rfl
  | x :: a, b => by rw [List.cons_append, ob, ob_append a b, ob, List.append_assoc]
theorem bt_ob : ∀ (l : List UInt8) (i : Nat), bt (ob l) i = (cf l (i / 8)).toNat.testBit (7 - i % 8)
  | [], i => by rw [cf_nil]; show false = Nat.testBit 0 _; rw [Nat.zero_testBit]
  | a :: l, i => by
    by_cases h : i < 8
    · rw [ob, bt_left _ (by rw [lb_length]; exact h), bt_lb _ h, show i / 8 = 0 by omega, cf_zero, show i % 8 = i by omega]
    · rw [ob, bt_right _ (by rw [lb_length]; omega), lb_length, bt_ob l, show i / 8 = (i - 8) / 8 + 1 by omega, cf_succ, show (i - 8) % 8 = i % 8 by omega]
/-- The number of bits. -/
def num (l : List Bool) : Nat := l.foldl (fun a b => 2 * a + b.toNat) 0
theorem num_from : ∀ (l : List Bool) (a : Nat), l.foldl (fun a b => 2 * a + b.toNat) a = 2 ^ l.length * a + num l
  | [], a => by simp [num]
  | b :: l, a => by
    unfold num
    rw [List.foldl_cons, List.foldl_cons, num_from l, num_from l (2 * 0 + b.toNat), List.length_cons, Nat.pow_succ]
    rw [Nat.mul_add, Nat.mul_add, Nat.mul_zero, Nat.zero_add, Nat.mul_assoc, Nat.add_assoc]
theorem num_cons (b : Bool) (l : List Bool) : num (b :: l) = 2 ^ l.length * b.toNat + num l := by
  show l.foldl _ (2 * 0 + b.toNat) = _; rw [num_from, Nat.mul_zero, Nat.zero_add]
theorem num_append (a b : List Bool) : num (a ++ b) = 2 ^ b.length * num a + num b := by
  unfold num; rw [List.foldl_append]; exact num_from b _
theorem num_snoc (l : List Bool) (b : Bool) : num (l ++ [b]) = 2 * num l + b.toNat := by
  unfold num; rw [List.foldl_append]; rfl
theorem num_lt : ∀ l, num l < 2 ^ l.length
  | [] => by decide
  | b :: l => by
    rw [num_cons, List.length_cons, Nat.pow_succ]
    have := num_lt l
    cases b
    · show 2 ^ l.length * 0 + _ < _; omega
    · show 2 ^ l.length * 1 + _ < _; omega
theorem num_bit : ∀ (l : List Bool) (i : Nat), i < l.length → (num l).testBit (l.length - 1 - i) = bt l i
  | [], i, h => by simp at h
  | b :: l, 0, _ => by
    rw [num_cons, Nat.testBit_two_pow_mul_add _ (num_lt l), if_neg (by simp), bt_zero]
    cases b <;> simp
  | b :: l, i + 1, h => by
    rw [List.length_cons] at h
    rw [num_cons, Nat.testBit_two_pow_mul_add _ (num_lt l), if_pos (by rw [List.length_cons]; omega), bt_succ, ← num_bit l i (by omega), List.length_cons]
    congr 1; omega
theorem num_lb (x : Nat) : ∀ n, num (lb x n) = x % 2 ^ n
  | 0 => by rw [Nat.pow_zero, Nat.mod_one]; rfl
  | n + 1 => by
    rw [lb, num_cons, num_lb x n, lb_length, Nat.pow_succ, Nat.mod_mul, Nat.add_comm]
    congr 2
    rw [Nat.testBit_eq_decide_div_mod_eq]
    by_cases h : x / 2 ^ n % 2 = 1
    · rw [h]; rfl
    · rw [show x / 2 ^ n % 2 = 0 by omega]; rfl
/-- The eight bits from 8 j on, as a byte. -/
def byt (L : List Bool) (j : Nat) : UInt8 := UInt8.ofNat (num ((List.range 8).map fun k => bt L (8 * j + k)))
theorem byt_nat (L : List Bool) (j : Nat) : (byt L j).toNat = num ((List.range 8).map fun k => bt L (8 * j + k)) := by
  unfold byt
  have h := num_lt ((List.range 8).map fun k => bt L (8 * j + k))
  rw [List.length_map, List.length_range] at h
  exact UInt8.toNat_ofNat_of_lt' h
theorem byt_bit (L : List Bool) (j : Nat) {k : Nat} (h : k < 8) : (byt L j).toNat.testBit (7 - k) = bt L (8 * j + k) := by
  rw [byt_nat]
  have e := num_bit ((List.range 8).map fun k => bt L (8 * j + k)) k (by rw [List.length_map, List.length_range]; exact h)
  rw [List.length_map, List.length_range] at e
  rw [show 7 - k = 8 - 1 - k by omega, e, bt_lt (by rw [List.length_map, List.length_range]; exact h), List.getElem_map, List.getElem_range]
theorem u8_ext {a b : UInt8} (h : ∀ k, k < 8 → a.toNat.testBit k = b.toNat.testBit k) : a = b := by
  apply UInt8.toNat_inj.1
  apply Nat.eq_of_testBit_eq
  intro i
  by_cases hi : i < 8
  · exact h i hi
  · have e : ∀ c : UInt8, c.toNat.testBit i = false := fun c => Nat.testBit_lt_two_pow (Nat.lt_of_lt_of_le c.toNat_lt (Nat.pow_le_pow_right (by decide) (by omega : 8 ≤ i)))
    rw [e a, e b]
theorem byt_eq {L : List Bool} {j : Nat} {x : UInt8} (h : ∀ k, k < 8 → bt L (8 * j + k) = x.toNat.testBit (7 - k)) : byt L j = x :=
  u8_ext fun k hk => by
    have h1 := byt_bit L j (k := 7 - k) (by omega)
    rw [show 7 - (7 - k) = k by omega, h (7 - k) (by omega), show 7 - (7 - k) = k by omega] at h1
    exact h1
theorem byt_big {L : List Bool} {j : Nat} (h : L.length ≤ 8 * j) : byt L j = 0 := byt_eq fun k _ => by
  rw [bt_big (by omega)]; show false = Nat.testBit 0 _; rw [Nat.zero_testBit]
theorem byt_congr {A B : List Bool} {j : Nat} (h : ∀ k, k < 8 → bt A (8 * j + k) = bt B (8 * j + k)) : byt A j = byt B j := byt_eq fun k hk => by rw [h k hk, byt_bit B j hk]
theorem byt_left {A : List Bool} (B : List Bool) {j : Nat} (h : 8 * j + 8 ≤ A.length) : byt (A ++ B) j = byt A j := byt_congr fun _ hk => bt_left B (by omega)
/-- One more bit, in its byte. -/
theorem byt_snoc (L : List Bool) (b : Bool) : (byt (L ++ [b]) (L.length / 8)).toNat = (byt L (L.length / 8)).toNat ||| (b.toNat * 2 ^ (7 - L.length % 8)) := by
  have h8 : L.length % 8 < 8 := Nat.mod_lt _ (by decide)
  have hb : b.toNat * 2 ^ (7 - L.length % 8) < 256 := by
    have : 2 ^ (7 - L.length % 8) ≤ 2 ^ 7 := Nat.pow_le_pow_right (by decide) (by omega)
    cases b
    · show 0 * _ < _; omega
    · show 1 * _ < _; omega
  have hlt : (byt L (L.length / 8)).toNat ||| (b.toNat * 2 ^ (7 - L.length % 8)) < 256 := Nat.or_lt_two_pow (n := 8) (byt L (L.length / 8)).toNat_lt hb
  have e : byt (L ++ [b]) (L.length / 8) = UInt8.ofNat ((byt L (L.length / 8)).toNat ||| (b.toNat * 2 ^ (7 - L.length % 8))) := byt_eq fun k hk => by
    rw [UInt8.toNat_ofNat_of_lt' hlt, Nat.testBit_or, byt_bit L _ hk]
    have h2 : (b.toNat * 2 ^ (7 - L.length % 8)).testBit (7 - k) = (decide (k = L.length % 8) && b) := by
      cases b
      · rw [Bool.and_false]; show Nat.testBit (0 * _) _ = _; rw [Nat.zero_mul, Nat.zero_testBit]
      · rw [Bool.and_true]; show Nat.testBit (1 * _) _ = _; rw [Nat.one_mul, Nat.testBit_two_pow]
        exact decide_eq_decide.2 ⟨fun h => by omega, fun h => by omega⟩
    rw [h2]
    rcases Nat.lt_trichotomy k (L.length % 8) with h | h | h
    · rw [bt_left _ (by omega), decide_eq_false (by omega), Bool.false_and, Bool.or_false]
    · rw [bt_right _ (by omega), bt_big (L := L) (by omega), decide_eq_true h, show 8 * (L.length / 8) + k - L.length = 0 by omega, bt_zero]; simp
    · rw [bt_big (by rw [List.length_append, List.length_singleton]; omega), bt_big (by omega), decide_eq_false (by omega)]; rfl
  rw [e, UInt8.toNat_ofNat_of_lt' hlt]
theorem byt_other (L : List Bool) (b : Bool) {j : Nat} (h : j ≠ L.length / 8) : byt (L ++ [b]) j = byt L j := byt_congr fun k hk => by
  by_cases h1 : 8 * j + k < L.length
  · exact bt_left _ h1
  · rw [bt_big (L := L) (by omega), bt_big (by rw [List.length_append, List.length_singleton]; omega)]
/-- Bytes behind whole bytes. -/
theorem byt_ob {L : List Bool} (h : L.length % 8 = 0) (s : List UInt8) (i : Nat) : byt (L ++ ob s) (L.length / 8 + i) = cf s i := byt_eq fun k hk => by
  rw [bt_right _ (by omega), show 8 * (L.length / 8 + i) + k - L.length = 8 * i + k by omega, bt_ob, show (8 * i + k) / 8 = i by omega, show (8 * i + k) % 8 = k by omega]
/-- Bits as bytes, with bits 0 behind them. -/
def pack (L : List Bool) : List UInt8 := (List.range ((L.length + 7) / 8)).map (byt L)
theorem pack_length (L : List Bool) : (pack L).length = (L.length + 7) / 8 := by unfold pack; rw [List.length_map, List.length_range]
theorem cf_pack (L : List Bool) (j : Nat) : cf (pack L) j = byt L j := by
  by_cases h : j < (L.length + 7) / 8
  · rw [cf_lt (by rw [pack_length]; exact h)]; unfold pack; rw [List.getElem_map, List.getElem_range]
  · rw [cf_big (by rw [pack_length]; omega), byt_big (by omega)]
theorem bt_pack (L : List Bool) (i : Nat) : bt (ob (pack L)) i = bt L i := by
  rw [bt_ob, cf_pack, byt_bit L _ (Nat.mod_lt _ (by decide)), Nat.div_add_mod]
theorem cfs_ext {p q : List UInt8} (hl : p.length = q.length) (h : ∀ i, i < p.length → cf p i = cf q i) : p = q :=
  List.ext_getElem hl fun i h1 h2 => by rw [← cf_lt h1, ← cf_lt h2]; exact h i h1
theorem pack_ob (s : List UInt8) : pack (ob s) = s := by
  refine cfs_ext (by rw [pack_length, ob_length]; omega) fun i _ => ?_
  rw [cf_pack]
  have := byt_ob (L := []) rfl s i
  rw [List.nil_append] at this
  rw [← this]; congr 1; simp
theorem take_pack (L : List Bool) : (ob (pack L)).take L.length = L := by
  refine list_ext_bt (by rw [List.length_take, ob_length, pack_length]; omega) fun i hi => ?_
  rw [List.length_take] at hi
  rw [bt_take (by omega), bt_pack]
/-- What of the packed bits is read from a place on. -/
theorem part_pack (A B C : List Bool) : ((ob (pack (A ++ B ++ C))).drop A.length).take B.length = B := by
  refine list_ext_bt (by rw [List.length_take, List.length_drop, ob_length, pack_length]; simp only [List.length_append]; omega) fun i hi => ?_
  rw [List.length_take] at hi
  rw [bt_take (by omega), bt_drop, bt_pack, bt_left _ (by rw [List.length_append]; omega), bt_right _ (by omega), Nat.add_sub_cancel_left]
theorem rest_pack (L : List Bool) (i : Nat) : bt ((ob (pack L)).drop L.length) i = false := by
  rw [bt_drop, bt_pack, bt_big (by omega)]
theorem num_zero : ∀ {l : List Bool}, (∀ i, bt l i = false) → num l = 0
  | [], _ => rfl
  | b :: l, h => by
    rw [num_cons, num_zero (l := l) (fun i => by have := h (i + 1); rwa [bt_succ] at this)]
    have := h 0; rw [bt_zero] at this; subst this; rfl
theorem lb_split (x : Nat) (a : Nat) : ∀ b, lb x (a + b) = lb (x / 2 ^ b) a ++ lb x b := by
  intro b
  refine list_ext_bt (by rw [List.length_append, lb_length, lb_length, lb_length]) fun i hi => ?_
  rw [lb_length] at hi
  by_cases h : i < a
  · rw [bt_lb x hi, bt_left _ (by rw [lb_length]; exact h), bt_lb _ h, ← Nat.shiftRight_eq_div_pow, Nat.testBit_shiftRight]; congr 1; omega
  · rw [bt_lb x hi, bt_right _ (by rw [lb_length]; omega), lb_length, bt_lb x (by omega)]; congr 1; omega
end Go.Proofs.YtlghkdkaifcliaaDoor.Bit
namespace Go.Proofs.YtlghkdkaifcliaaDoor.Crc
abbrev Reg := BitVec 32
def gen : Reg := 0x04c11db7#32
/-- One bit. -/
def bs (r : Reg) (b : Bool) : Reg := (r <<< 1) ^^^ (if (r.msb ^^ b) then gen else 0#32)
theorem bs_lin (r s : Reg) (b c : Bool) : bs (r ^^^ s) (b ^^ c) = bs r b ^^^ bs s c := by
  unfold bs
  rw [BitVec.shiftLeft_xor_distrib, BitVec.msb_xor]
  have e : ∀ x y p q : Reg, (x ^^^ y) ^^^ (p ^^^ q) = (x ^^^ p) ^^^ (y ^^^ q) := fun x y p q => by ac_rfl
  have z : gen ^^^ gen = 0#32 := by decide
  rw [← e]
  congr 1
  cases r.msb <;> cases s.msb <;> cases b <;> cases c <;> rfl
theorem bs_zero : bs 0#32 false = 0#32 := by decide
theorem bs_inj {r : Reg} (h : bs r false = 0#32) : r = 0#32 := by
  unfold bs at h
  rw [Bool.xor_false] at h
  by_cases hm : r.msb = true
  · rw [if_pos hm] at h
    have h1 := congrArg (fun x : Reg => x.getLsbD 0) h
    simp [gen] at h1
  · rw [if_neg hm, BitVec.xor_zero] at h
    have hm2 : r.msb = false := by simpa using hm
    have h1 := congrArg BitVec.toNat h
    rw [BitVec.toNat_shiftLeft] at h1
    have h2 : r.toNat < 2147483648 := by
      rw [BitVec.msb_eq_decide] at hm2
      simpa using hm2
    simp only [BitVec.toNat_ofNat, Nat.shiftLeft_eq] at h1
    apply BitVec.eq_of_toNat_eq
    simp only [BitVec.toNat_ofNat]
    omega
/-- The bits of a byte, the highest one first. -/
def bits8 (x : UInt8) : List Bool := [x.toNat.testBit 7, x.toNat.testBit 6, x.toNat.testBit 5, x.toNat.testBit 4, x.toNat.testBit 3, x.toNat.testBit 2, x.toNat.testBit 1, x.toNat.testBit 0]
def by8 (r : Reg) (x : UInt8) : Reg := (bits8 x).foldl bs r
theorem bits8_xor (x y : UInt8) : bits8 (x ^^^ y) = List.zipWith (· ^^ ·) (bits8 x) (bits8 y) := by
  unfold bits8
  rw [UInt8.toNat_xor]
  simp only [Nat.testBit_xor, List.zipWith_cons_cons, List.zipWith_nil_left]
theorem fold_lin : ∀ (b c : List Bool) (r s : Reg), b.length = c.length → (List.zipWith (· ^^ ·) b c).foldl bs (r ^^^ s) = b.foldl bs r ^^^ c.foldl bs s
  | [], [], _, _, _ => rfl
  | b :: l, c :: m, r, s, h => by
    rw [List.zipWith_cons_cons, List.foldl_cons, List.foldl_cons, List.foldl_cons, bs_lin]
    exact fold_lin l m _ _ (by simpa using h)
  | [], _ :: _, _, _, h => by simp at h
  | _ :: _, [], _, _, h => by simp at h
theorem by8_lin (r s : Reg) (x y : UInt8) : by8 (r ^^^ s) (x ^^^ y) = by8 r x ^^^ by8 s y := by
  unfold by8; rw [bits8_xor]; exact fold_lin _ _ r s rfl
theorem by8_zero : by8 0#32 0 = 0#32 := by decide
theorem by8_inj {r : Reg} (h : by8 r 0 = 0#32) : r = 0#32 := bs_inj (bs_inj (bs_inj (bs_inj (bs_inj (bs_inj (bs_inj (bs_inj h)))))))
/-- The register behind bytes. -/
def mo (r : Reg) (l : List UInt8) : Reg := l.foldl by8 r
theorem mo_nil (r : Reg) : mo r [] = r := rfl
theorem mo_cons (r : Reg) (x : UInt8) (l : List UInt8) : mo r (x :: l) = mo (by8 r x) l := rfl
theorem mo_append (r : Reg) (a b : List UInt8) : mo r (a ++ b) = mo (mo r a) b := List.foldl_append ..
def bx (a b : List UInt8) : List UInt8 := List.zipWith (fun x y => x ^^^ y) a b
theorem mo_lin : ∀ (a b : List UInt8) (r s : Reg), a.length = b.length → mo (r ^^^ s) (bx a b) = mo r a ^^^ mo s b
  | [], [], _, _, _ => rfl
  | x :: a, y :: b, r, s, h => by
    show mo (by8 (r ^^^ s) (x ^^^ y)) (bx a b) = _
    rw [by8_lin]
    exact mo_lin a b _ _ (by simpa using h)
  | [], _ :: _, _, _, h => by simp at h
  | _ :: _, [], _, _, h => by simp at h
theorem mo_zeros (n : Nat) : mo 0#32 (List.replicate n 0) = 0#32 := by
  induction n with
  | zero => rfl
  | succ n ih => rw [List.replicate_succ, mo_cons, by8_zero, ih]
theorem mo_inj (n : Nat) : ∀ {r : Reg}, mo r (List.replicate n 0) = 0#32 → r = 0#32 := by
  induction n with
  | zero => intro r h; exact h
  | succ n ih => intro r h; rw [List.replicate_succ, mo_cons] at h; exact by8_inj (ih h)
/-- A register without its highest byte is moved up. -/
theorem bs_low {r : Reg} (h : r.toNat < 2147483648) : (bs r false).toNat = 2 * r.toNat := by
  have hm : r.msb = false := by rw [BitVec.msb_eq_decide]; simpa using h
  unfold bs
  rw [hm]
  show (r <<< 1 ^^^ 0#32).toNat = _
  rw [BitVec.xor_zero, BitVec.toNat_shiftLeft, Nat.shiftLeft_eq]
  omega
theorem by8_low {r : Reg} (h : r.toNat < 16777216) : by8 r 0 = r <<< 8 := by
  apply BitVec.eq_of_toNat_eq
  have h1 := bs_low (r := r) (by omega)
  have h2 := bs_low (r := bs r false) (by omega)
  have h3 := bs_low (r := bs (bs r false) false) (by omega)
  have h4 := bs_low (r := bs (bs (bs r false) false) false) (by omega)
  have h5 := bs_low (r := bs (bs (bs (bs r false) false) false) false) (by omega)
  have h6 := bs_low (r := bs (bs (bs (bs (bs r false) false) false) false) false) (by omega)
  have h7 := bs_low (r := bs (bs (bs (bs (bs (bs r false) false) false) false) false) false) (by omega)
  have h8 := bs_low (r := bs (bs (bs (bs (bs (bs (bs r false) false) false) false) false) false) false) (by omega)
  have e : by8 r 0 = bs (bs (bs (bs (bs (bs (bs (bs r false) false) false) false) false) false) false) false := rfl
  rw [e, h8, BitVec.toNat_shiftLeft, Nat.shiftLeft_eq]
  omega
/-- A byte at the register's top. -/
def tp (x : UInt8) : Reg := BitVec.ofNat 32 (x.toNat * 16777216)
theorem tp_toNat (x : UInt8) : (tp x).toNat = x.toNat * 16777216 := by
  have := x.toNat_lt
  unfold tp
  rw [BitVec.toNat_ofNat, Nat.mod_eq_of_lt (by omega)]
def allB : Nat → (Nat → Bool) → Bool
  | 0, _ => true
  | n + 1, f => f n && allB n f
theorem allB_at {n : Nat} {f : Nat → Bool} (h : allB n f = true) : ∀ {i : Nat}, i < n → f i = true := by
  induction n with
  | zero => intro i hi; omega
  | succ n ih =>
    intro i hi
    simp only [allB, Bool.and_eq_true] at h
    by_cases e : i = n
    · subst e; exact h.1
    · exact ih h.2 (by omega)
theorem tp_chk : allB 256 (fun n => Nat.beq (by8 (tp (UInt8.ofNat n)) (UInt8.ofNat n)).toNat 0) = true := by kernel_rfl
theorem tp_self (x : UInt8) : by8 (tp x) x = 0#32 := by
  have h := allB_at tp_chk x.toNat_lt
  rw [Nat.beq_eq, UInt8.ofNat_toNat] at h
  exact BitVec.eq_of_toNat_eq h
/-- The table's step: a byte is xor-ed to the register's top. -/
theorem by8_top (r : Reg) (x : UInt8) : by8 r x = by8 (r ^^^ tp x) 0 := by
  have h := by8_lin (r ^^^ tp x) (tp x) 0 x
  rw [tp_self, BitVec.xor_zero, BitVec.xor_assoc, BitVec.xor_self, BitVec.xor_zero, UInt8.zero_xor] at h
  exact h
theorem top_split (r : Reg) : r = BitVec.ofNat 32 (r.toNat / 16777216 * 16777216) ^^^ BitVec.ofNat 32 (r.toNat % 16777216) := by
  have hr := r.isLt
  apply BitVec.eq_of_toNat_eq
  rw [BitVec.toNat_xor, BitVec.toNat_ofNat, BitVec.toNat_ofNat, Nat.mod_eq_of_lt (by omega), Nat.mod_eq_of_lt (by omega)]
  apply Nat.eq_of_testBit_eq
  intro i
  have e1 : (r.toNat / 16777216 * 16777216).testBit i = (decide (24 ≤ i) && r.toNat.testBit i) := by
    have : r.toNat / 16777216 * 16777216 = (r.toNat >>> 24) <<< 24 := by rw [Nat.shiftRight_eq_div_pow, Nat.shiftLeft_eq]
    rw [this, Nat.testBit_shiftLeft, Nat.testBit_shiftRight]
    by_cases h : 24 ≤ i
    · rw [Nat.add_sub_cancel' h]
    · simp [h]
  have e2 : (r.toNat % 16777216).testBit i = (decide (i < 24) && r.toNat.testBit i) := by
    have : r.toNat % 16777216 = r.toNat % 2 ^ 24 := rfl
    rw [this, Nat.testBit_mod_two_pow]
  rw [Nat.testBit_xor, e1, e2]
  by_cases h : 24 ≤ i
  · have h2 : ¬ i < 24 := by omega
    simp [h, h2]
  · have h2 : i < 24 := by omega
    simp [h, h2]
theorem by8_tab (r : Reg) (x y : UInt8) (hy : y.toNat = r.toNat / 16777216) : by8 r x = (r <<< 8) ^^^ by8 (tp (y ^^^ x)) 0 := by
  have hr := r.isLt
  obtain ⟨lo, hlo⟩ : ∃ lo : Reg, lo = BitVec.ofNat 32 (r.toNat % 16777216) := ⟨_, rfl⟩
  have hlt : lo.toNat = r.toNat % 16777216 := by rw [hlo, BitVec.toNat_ofNat, Nat.mod_eq_of_lt (by omega)]
  have hsplit : r = tp y ^^^ lo := by
    have := top_split r
    rw [← hy, ← hlo] at this
    exact this
  have hsh : r <<< 8 = lo <<< 8 := by
    apply BitVec.eq_of_toNat_eq
    rw [BitVec.toNat_shiftLeft, BitVec.toNat_shiftLeft, Nat.shiftLeft_eq, Nat.shiftLeft_eq, hlt]
    omega
  have htp : tp (y ^^^ x) = tp y ^^^ tp x := by
    have h := by8_lin
    apply BitVec.eq_of_toNat_eq
    rw [BitVec.toNat_xor, tp_toNat, tp_toNat, tp_toNat, UInt8.toNat_xor]
    have : ∀ a : Nat, a * 16777216 = a <<< 24 := fun a => by rw [Nat.shiftLeft_eq]
    rw [this, this, this, Nat.shiftLeft_xor_distrib]
  rw [by8_top, hsh]
  have h2 : r ^^^ tp x = lo ^^^ tp (y ^^^ x) := by
    rw [htp, hsplit]
    have e : ∀ a b c : Reg, (a ^^^ b) ^^^ c = b ^^^ (a ^^^ c) := fun a b c => by ac_rfl
    exact e _ _ _
  rw [h2]
  have h3 := by8_lin lo (tp (y ^^^ x)) 0 0
  rw [show (0 : UInt8) ^^^ 0 = 0 from rfl] at h3
  rw [h3, by8_low (by omega)]
/-- The four bytes of a register, the highest one first. -/
def four (r : Reg) : List UInt8 := [UInt8.ofNat (r.toNat / 16777216), UInt8.ofNat (r.toNat / 65536 % 256), UInt8.ofNat (r.toNat / 256 % 256), UInt8.ofNat (r.toNat % 256)]
theorem four_length (r : Reg) : (four r).length = 4 := rfl
theorem by8_own (r : Reg) (y : UInt8) (hy : y.toNat = r.toNat / 16777216) : by8 r y = r <<< 8 := by
  rw [by8_tab r y y hy, UInt8.xor_self]
  have : by8 (tp 0) 0 = 0#32 := by decide
  rw [this, BitVec.xor_zero]
theorem mo_four (r : Reg) : mo r (four r) = 0#32 := by
  have hr := r.isLt
  have sh : ∀ s : Reg, (s <<< 8).toNat = s.toNat * 256 % 4294967296 := fun s => by rw [BitVec.toNat_shiftLeft, Nat.shiftLeft_eq]
  unfold four
  rw [mo_cons, mo_cons, mo_cons, mo_cons, mo_nil]
  rw [by8_own r _ (by rw [UInt8.toNat_ofNat']; omega)]
  rw [by8_own (r <<< 8) _ (by rw [UInt8.toNat_ofNat', sh]; omega)]
  rw [by8_own (r <<< 8 <<< 8) _ (by rw [UInt8.toNat_ofNat', sh, sh]; omega)]
  rw [by8_own (r <<< 8 <<< 8 <<< 8) _ (by rw [UInt8.toNat_ofNat', sh, sh, sh]; omega)]
  apply BitVec.eq_of_toNat_eq
  rw [sh, sh, sh, sh]
  show _ = 0
  omega
theorem bx_length (a b : List UInt8) : (bx a b).length = min a.length b.length := by unfold bx; rw [List.length_zipWith]
theorem bx_self : ∀ a : List UInt8, bx a a = List.replicate a.length 0
  | [] => rfl
  | x :: a => by
    show (x ^^^ x) :: bx a a = _
    rw [UInt8.xor_self, bx_self a]; rfl
theorem four_inj {r s : Reg} (h : four r = four s) : r = s := by
  have hr := r.isLt
  have hs := s.isLt
  unfold four at h
  simp only [List.cons.injEq, and_true] at h
  obtain ⟨h1, h2, h3, h4⟩ := h
  have g1 := congrArg UInt8.toNat h1
  have g2 := congrArg UInt8.toNat h2
  have g3 := congrArg UInt8.toNat h3
  have g4 := congrArg UInt8.toNat h4
  rw [UInt8.toNat_ofNat', UInt8.toNat_ofNat'] at g1 g2 g3 g4
  apply BitVec.eq_of_toNat_eq
  omega
/-- The register of four bytes. -/
theorem four_sur (l : List UInt8) (hl : l.length = 4) : ∃ r : Reg, four r = l := by
  match l, hl with
  | [a, b, c, d], _ =>
    have ha := a.toNat_lt
    have hb := b.toNat_lt
    have hc := c.toNat_lt
    have hd := d.toNat_lt
    refine ⟨BitVec.ofNat 32 (a.toNat * 16777216 + b.toNat * 65536 + c.toNat * 256 + d.toNat), ?_⟩
    unfold four
    rw [BitVec.toNat_ofNat, Nat.mod_eq_of_lt (by omega)]
    have e : ∀ (x : UInt8) (n : Nat), n = x.toNat → UInt8.ofNat n = x := fun x n h => by rw [h, UInt8.ofNat_toNat]
    rw [e a _ (by omega), e b _ (by omega), e c _ (by omega), e d _ (by omega)]
/-- WHAT MAKES IT 0: four bytes behind a register leave 0 just if they are its own. -/
theorem mo_four_iff (r : Reg) (l : List UInt8) (hl : l.length = 4) : mo r l = 0#32 ↔ l = four r := by
  constructor
  · intro h
    obtain ⟨s, hs⟩ := four_sur l hl
    have h2 := mo_lin l l r s rfl
    have h3 : mo s l = 0#32 := by rw [← hs]; exact mo_four s
    rw [h, h3, bx_self, hl, BitVec.xor_self] at h2
    have h4 := mo_inj 4 h2
    have : r = s := by
      have := congrArg (· ^^^ s) h4
      simpa [BitVec.xor_assoc] using this
    rw [this, hs]
  · intro h; rw [h]; exact mo_four r
theorem four_zero : four 0#32 = List.replicate 4 0 := rfl
/-- Up to four bytes that are not all 0 leave a mark. -/
theorem mo_burst (w : List UInt8) (hw : w.length ≤ 4) (h : mo 0#32 w = 0#32) : w = List.replicate w.length 0 := by
  have h1 : mo 0#32 (List.replicate (4 - w.length) 0 ++ w) = 0#32 := by rw [mo_append, mo_zeros, h]
  rw [mo_four_iff _ _ (by rw [List.length_append, List.length_replicate]; omega), four_zero] at h1
  apply List.eq_replicate_of_mem
  intro b hb
  have : b ∈ List.replicate 4 (0 : UInt8) := by rw [← h1]; exact List.mem_append_right _ hb
  exact List.eq_of_mem_replicate this
theorem mo_told (n m : Nat) (w : List UInt8) (hw : w.length ≤ 4) (h : mo 0#32 (List.replicate n 0 ++ w ++ List.replicate m 0) = 0#32) : w = List.replicate w.length 0 := by
  rw [mo_append, mo_append, mo_zeros] at h
  exact mo_burst w hw (mo_inj m h)
theorem bx_append {a b : List UInt8} (c d : List UInt8) (h : a.length = b.length) : bx (a ++ c) (b ++ d) = bx a b ++ bx c d := by
  unfold bx; exact List.zipWith_append h
/-- Two texts that are unlike in up to four bytes in a row alone, and have the same register, are the same. -/
theorem mo_same (r : Reg) (a w v b : List UInt8) (hw : w.length = v.length) (h4 : w.length ≤ 4) (h : mo r (a ++ w ++ b) = mo r (a ++ v ++ b)) : w = v := by
  have h1 := mo_lin (a ++ w ++ b) (a ++ v ++ b) r r (by simp only [List.length_append, hw])
  rw [h, BitVec.xor_self, BitVec.xor_self, bx_append _ _ (by simp only [List.length_append, hw]), bx_append _ _ rfl, bx_self, bx_self] at h1
  have hl : (bx w v).length = w.length := by rw [bx_length, hw, Nat.min_self]
  have h2 := mo_told _ _ _ (by rw [hl]; exact h4) h1
  rw [hl] at h2
  apply List.ext_getElem hw
  intro i hi hj
  have h3 : (bx w v)[i]'(by rw [hl]; exact hi) = 0 := by
    have := List.getElem_of_eq h2 (i := i) (by rw [hl]; exact hi)
    rw [this, List.getElem_replicate]
  unfold bx at h3
  rw [List.getElem_zipWith] at h3
  exact UInt8.xor_eq_zero_iff.mp h3
end Go.Proofs.YtlghkdkaifcliaaDoor.Crc
