/-
  Lists of bits: which bits a number's lowest ones are, which number bits are, which bits bytes are, and which bytes bits are. No program, no condition.
-/
import Derived.Test.YtofnokikjfmfgaaCf
namespace Go.Proofs.Ytofnokikjfmfgaa.Bit
open Gf
/-- The n lowest bits of a number, the highest one first. -/
def lb (x : Nat) : Nat → List Bool
  | 0 => []
  | n + 1 => x.testBit n :: lb x n
theorem lb_length (x : Nat) : ∀ n, (lb x n).length = n
  | 0 => rfl
  | n + 1 => by rw [lb, List.length_cons, lb_length x n]
/-- Bit i, and 0 behind the last one. -/
def bt (L : List Bool) (i : Nat) : Bool := L.getD i false
theorem bt_nil (i : Nat) : bt [] i = false := rfl
theorem bt_zero (b : Bool) (L : List Bool) : bt (b :: L) 0 = b := rfl
theorem bt_succ (b : Bool) (L : List Bool) (i : Nat) : bt (b :: L) (i + 1) = bt L i := by simp [bt]
theorem bt_big {L : List Bool} {i : Nat} (h : L.length ≤ i) : bt L i = false := by
  unfold bt; rw [List.getD_eq_getElem?_getD, List.getElem?_eq_none h]; rfl
theorem bt_lt {L : List Bool} {i : Nat} (h : i < L.length) : bt L i = L[i] := by
  unfold bt; rw [List.getD_eq_getElem?_getD, List.getElem?_eq_getElem h]; rfl
theorem bt_left {A : List Bool} (B : List Bool) {i : Nat} (h : i < A.length) : bt (A ++ B) i = bt A i := by
  unfold bt; rw [List.getD_eq_getElem?_getD, List.getD_eq_getElem?_getD, List.getElem?_append_left h]
theorem bt_right {A : List Bool} (B : List Bool) {i : Nat} (h : A.length ≤ i) : bt (A ++ B) i = bt B (i - A.length) := by
  unfold bt; rw [List.getD_eq_getElem?_getD, List.getD_eq_getElem?_getD, List.getElem?_append_right h]
theorem bt_drop (L : List Bool) (k i : Nat) : bt (L.drop k) i = bt L (k + i) := by
  unfold bt; rw [List.getD_eq_getElem?_getD, List.getD_eq_getElem?_getD, List.getElem?_drop]
theorem bt_take {L : List Bool} {k i : Nat} (h : i < k) : bt (L.take k) i = bt L i := by
  unfold bt; rw [List.getD_eq_getElem?_getD, List.getD_eq_getElem?_getD, List.getElem?_take_of_lt h]
theorem list_ext_bt {A B : List Bool} (hl : A.length = B.length) (h : ∀ i, i < A.length → bt A i = bt B i) : A = B :=
  List.ext_getElem hl fun i h1 h2 => by rw [← bt_lt h1, ← bt_lt h2]; exact h i h1
theorem bt_lb (x : Nat) : ∀ {n i : Nat}, i < n → bt (lb x n) i = x.testBit (n - 1 - i)
  | 0, i, h => by omega
  | n + 1, 0, _ => by rw [lb, bt_zero]; rfl
  | n + 1, i + 1, h => by rw [lb, bt_succ, bt_lb x (by omega : i < n)]; congr 1; omega
/-- The bits of bytes. -/
def ob : List UInt8 → List Bool
  | [] => []
  | a :: l => lb a.toNat 8 ++ ob l
theorem ob_length : ∀ l, (ob l).length = 8 * l.length
  | [] => rfl
  | a :: l => by rw [ob, List.length_append, lb_length, ob_length l, List.length_cons]; omega
theorem ob_append : ∀ a b, ob (a ++ b) = ob a ++ ob b
  | [], _ => rfl
  | x :: a, b => by rw [List.cons_append, ob, ob_append a b, ob, List.append_assoc]
theorem bt_ob : ∀ (l : List UInt8) (i : Nat), bt (ob l) i = (cf l (i / 8)).toNat.testBit (7 - i % 8)
  | [], i => by rw [cf_nil]; show false = Nat.testBit 0 _; rw [Nat.zero_testBit]
  | a :: l, i => by
    by_cases h : i < 8
    · rw [ob, bt_left _ (by rw [lb_length]; exact h), bt_lb _ h, show i / 8 = 0 by omega, cf_zero, show i % 8 = i by omega]
    · rw [ob, bt_right _ (by rw [lb_length]; omega), lb_length, bt_ob l, show i / 8 = (i - 8) / 8 + 1 by omega, cf_succ, show (i - 8) % 8 = i % 8 by omega]
/-- The number of bits. -/
def num (l : List Bool) : Nat := l.foldl (fun a b => 2 * a + b.toNat) 0
theorem num_from : ∀ (l : List Bool) (a : Nat), l.foldl (fun a b => 2 * a + b.toNat) a = 2 ^ l.length * a + num l
  | [], a => by simp [num]
  | b :: l, a => by
    unfold num
    rw [List.foldl_cons, List.foldl_cons, num_from l, num_from l (2 * 0 + b.toNat), List.length_cons, Nat.pow_succ]
    rw [Nat.mul_add, Nat.mul_add, Nat.mul_zero, Nat.zero_add, Nat.mul_assoc, Nat.add_assoc]
theorem num_cons (b : Bool) (l : List Bool) : num (b :: l) = 2 ^ l.length * b.toNat + num l := by
  show l.foldl _ (2 * 0 + b.toNat) = _; rw [num_from, Nat.mul_zero, Nat.zero_add]
theorem num_append (a b : List Bool) : num (a ++ b) = 2 ^ b.length * num a + num b := by
  unfold num; rw [List.foldl_append]; exact num_from b _
theorem num_snoc (l : List Bool) (b : Bool) : num (l ++ [b]) = 2 * num l + b.toNat := by
  unfold num; rw [List.foldl_append]; rfl
theorem num_lt : ∀ l, num l < 2 ^ l.length
  | [] => by decide
  | b :: l => by
    rw [num_cons, List.length_cons, Nat.pow_succ]
    have := num_lt l
    cases b
    · show 2 ^ l.length * 0 + _ < _; omega
    · show 2 ^ l.length * 1 + _ < _; omega
theorem num_bit : ∀ (l : List Bool) (i : Nat), i < l.length → (num l).testBit (l.length - 1 - i) = bt l i
  | [], i, h => by simp at h
  | b :: l, 0, _ => by
    rw [num_cons, Nat.testBit_two_pow_mul_add _ (num_lt l), if_neg (by simp), bt_zero]
    cases b <;> simp
  | b :: l, i + 1, h => by
    rw [List.length_cons] at h
    rw [num_cons, Nat.testBit_two_pow_mul_add _ (num_lt l), if_pos (by rw [List.length_cons]; omega), bt_succ, ← num_bit l i (by omega), List.length_cons]
    congr 1; omega
theorem num_lb (x : Nat) : ∀ n, num (lb x n) = x % 2 ^ n
  | 0 => by rw [Nat.pow_zero, Nat.mod_one]; rfl
  | n + 1 => by
    rw [lb, num_cons, num_lb x n, lb_length, Nat.pow_succ, Nat.mod_mul, Nat.add_comm]
    congr 2
    rw [Nat.testBit_eq_decide_div_mod_eq]
    by_cases h : x / 2 ^ n % 2 = 1
    · rw [h]; rfl
    · rw [show x / 2 ^ n % 2 = 0 by omega]; rfl
/-- The eight bits from 8 j on, as a byte. -/
def byt (L : List Bool) (j : Nat) : UInt8 := UInt8.ofNat (num ((List.range 8).map fun k => bt L (8 * j + k)))
theorem byt_nat (L : List Bool) (j : Nat) : (byt L j).toNat = num ((List.range 8).map fun k => bt L (8 * j + k)) := by
  unfold byt
  have h := num_lt ((List.range 8).map fun k => bt L (8 * j + k))
  rw [List.length_map, List.length_range] at h
  exact UInt8.toNat_ofNat_of_lt' h
theorem byt_bit (L : List Bool) (j : Nat) {k : Nat} (h : k < 8) : (byt L j).toNat.testBit (7 - k) = bt L (8 * j + k) := by
  rw [byt_nat]
  have e := num_bit ((List.range 8).map fun k => bt L (8 * j + k)) k (by rw [List.length_map, List.length_range]; exact h)
  rw [List.length_map, List.length_range] at e
  rw [show 7 - k = 8 - 1 - k by omega, e, bt_lt (by rw [List.length_map, List.length_range]; exact h), List.getElem_map, List.getElem_range]
theorem u8_ext {a b : UInt8} (h : ∀ k, k < 8 → a.toNat.testBit k = b.toNat.testBit k) : a = b := by
  apply UInt8.toNat_inj.1
  apply Nat.eq_of_testBit_eq
  intro i
  by_cases hi : i < 8
  · exact h i hi
  · have e : ∀ c : UInt8, c.toNat.testBit i = false := fun c => Nat.testBit_lt_two_pow (Nat.lt_of_lt_of_le c.toNat_lt (Nat.pow_le_pow_right (by decide) (by omega : 8 ≤ i)))
    rw [e a, e b]
theorem byt_eq {L : List Bool} {j : Nat} {x : UInt8} (h : ∀ k, k < 8 → bt L (8 * j + k) = x.toNat.testBit (7 - k)) : byt L j = x :=
  u8_ext fun k hk => by
    have h1 := byt_bit L j (k := 7 - k) (by omega)
    rw [show 7 - (7 - k) = k by omega, h (7 - k) (by omega), show 7 - (7 - k) = k by omega] at h1
    exact h1
theorem byt_big {L : List Bool} {j : Nat} (h : L.length ≤ 8 * j) : byt L j = 0 := byt_eq fun k _ => by
  rw [bt_big (by omega)]; show false = Nat.testBit 0 _; rw [Nat.zero_testBit]
theorem byt_congr {A B : List Bool} {j : Nat} (h : ∀ k, k < 8 → bt A (8 * j + k) = bt B (8 * j + k)) : byt A j = byt B j := byt_eq fun k hk => by rw [h k hk, byt_bit B j hk]
theorem byt_left {A : List Bool} (B : List Bool) {j : Nat} (h : 8 * j + 8 ≤ A.length) : byt (A ++ B) j = byt A j := byt_congr fun _ hk => bt_left B (by omega)
/-- One more bit, in its byte. -/
theorem byt_snoc (L : List Bool) (b : Bool) : (byt (L ++ [b]) (L.length / 8)).toNat = (byt L (L.length / 8)).toNat ||| (b.toNat * 2 ^ (7 - L.length % 8)) := by
  have h8 : L.length % 8 < 8 := Nat.mod_lt _ (by decide)
  have hb : b.toNat * 2 ^ (7 - L.length % 8) < 256 := by
    have : 2 ^ (7 - L.length % 8) ≤ 2 ^ 7 := Nat.pow_le_pow_right (by decide) (by omega)
    cases b
    · show 0 * _ < _; omega
    · show 1 * _ < _; omega
  have hlt : (byt L (L.length / 8)).toNat ||| (b.toNat * 2 ^ (7 - L.length % 8)) < 256 := Nat.or_lt_two_pow (n := 8) (byt L (L.length / 8)).toNat_lt hb
  have e : byt (L ++ [b]) (L.length / 8) = UInt8.ofNat ((byt L (L.length / 8)).toNat ||| (b.toNat * 2 ^ (7 - L.length % 8))) := byt_eq fun k hk => by
    rw [UInt8.toNat_ofNat_of_lt' hlt, Nat.testBit_or, byt_bit L _ hk]
    have h2 : (b.toNat * 2 ^ (7 - L.length % 8)).testBit (7 - k) = (decide (k = L.length % 8) && b) := by
      cases b
      · rw [Bool.and_false]; show Nat.testBit (0 * _) _ = _; rw [Nat.zero_mul, Nat.zero_testBit]
      · rw [Bool.and_true]; show Nat.testBit (1 * _) _ = _; rw [Nat.one_mul, Nat.testBit_two_pow]
        exact decide_eq_decide.2 ⟨fun h => by omega, fun h => by omega⟩
    rw [h2]
    rcases Nat.lt_trichotomy k (L.length % 8) with h | h | h
    · rw [bt_left _ (by omega), decide_eq_false (by omega), Bool.false_and, Bool.or_false]
    · rw [bt_right _ (by omega), bt_big (L := L) (by omega), decide_eq_true h, show 8 * (L.length / 8) + k - L.length = 0 by omega, bt_zero]; simp
    · rw [bt_big (by rw [List.length_append, List.length_singleton]; omega), bt_big (by omega), decide_eq_false (by omega)]; rfl
  rw [e, UInt8.toNat_ofNat_of_lt' hlt]
theorem byt_other (L : List Bool) (b : Bool) {j : Nat} (h : j ≠ L.length / 8) : byt (L ++ [b]) j = byt L j := byt_congr fun k hk => by
  by_cases h1 : 8 * j + k < L.length
  · exact bt_left _ h1
  · rw [bt_big (L := L) (by omega), bt_big (by rw [List.length_append, List.length_singleton]; omega)]
/-- Bytes behind whole bytes. -/
theorem byt_ob {L : List Bool} (h : L.length % 8 = 0) (s : List UInt8) (i : Nat) : byt (L ++ ob s) (L.length / 8 + i) = cf s i := byt_eq fun k hk => by
  rw [bt_right _ (by omega), show 8 * (L.length / 8 + i) + k - L.length = 8 * i + k by omega, bt_ob, show (8 * i + k) / 8 = i by omega, show (8 * i + k) % 8 = k by omega]
/-- Bits as bytes, with bits 0 behind them. -/
def pack (L : List Bool) : List UInt8 := (List.range ((L.length + 7) / 8)).map (byt L)
theorem pack_length (L : List Bool) : (pack L).length = (L.length + 7) / 8 := by unfold pack; rw [List.length_map, List.length_range]
theorem cf_pack (L : List Bool) (j : Nat) : cf (pack L) j = byt L j := by
  by_cases h : j < (L.length + 7) / 8
  · rw [cf_lt (by rw [pack_length]; exact h)]; unfold pack; rw [List.getElem_map, List.getElem_range]
  · rw [cf_big (by rw [pack_length]; omega), byt_big (by omega)]
theorem bt_pack (L : List Bool) (i : Nat) : bt (ob (pack L)) i = bt L i := by
  rw [bt_ob, cf_pack, byt_bit L _ (Nat.mod_lt _ (by decide)), Nat.div_add_mod]
theorem cfs_ext {p q : List UInt8} (hl : p.length = q.length) (h : ∀ i, i < p.length → cf p i = cf q i) : p = q :=
  List.ext_getElem hl fun i h1 h2 => by rw [← cf_lt h1, ← cf_lt h2]; exact h i h1
theorem pack_ob (s : List UInt8) : pack (ob s) = s := by
  refine cfs_ext (by rw [pack_length, ob_length]; omega) fun i _ => ?_
  rw [cf_pack]
  have := byt_ob (L := []) rfl s i
  rw [List.nil_append] at this
  rw [← this]; congr 1; simp
theorem take_pack (L : List Bool) : (ob (pack L)).take L.length = L := by
  refine list_ext_bt (by rw [List.length_take, ob_length, pack_length]; omega) fun i hi => ?_
  rw [List.length_take] at hi
  rw [bt_take (by omega), bt_pack]
/-- What of the packed bits is read from a place on. -/
theorem part_pack (A B C : List Bool) : ((ob (pack (A ++ B ++ C))).drop A.length).take B.length = B := by
  refine list_ext_bt (by rw [List.length_take, List.length_drop, ob_length, pack_length]; simp only [List.length_append]; omega) fun i hi => ?_
  rw [List.length_take] at hi
  rw [bt_take (by omega), bt_drop, bt_pack, bt_left _ (by rw [List.length_append]; omega), bt_right _ (by omega), Nat.add_sub_cancel_left]
theorem rest_pack (L : List Bool) (i : Nat) : bt ((ob (pack L)).drop L.length) i = false := by
  rw [bt_drop, bt_pack, bt_big (by omega)]
theorem num_zero : ∀ {l : List Bool}, (∀ i, bt l i = false) → num l = 0
  | [], _ => rfl
  | b :: l, h => by
    rw [num_cons, num_zero (l := l) (fun i => by have := h (i + 1); rwa [bt_succ] at this)]
    have := h 0; rw [bt_zero] at this; subst this; rfl
theorem lb_split (x : Nat) (a : Nat) : ∀ b, lb x (a + b) = lb (x / 2 ^ b) a ++ lb x b := by
  intro b
  refine list_ext_bt (by rw [List.length_append, lb_length, lb_length, lb_length]) fun i hi => ?_
  rw [lb_length] at hi
  by_cases h : i < a
  · rw [bt_lb x hi, bt_left _ (by rw [lb_length]; exact h), bt_lb _ h, ← Nat.shiftRight_eq_div_pow, Nat.testBit_shiftRight]; congr 1; omega
  · rw [bt_lb x hi, bt_right _ (by rw [lb_length]; omega), lb_length, bt_lb x (by omega)]; congr 1; omega
end Go.Proofs.Ytofnokikjfmfgaa.Bit
