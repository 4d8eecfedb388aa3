/-
  Numbers of some bits each, one behind the other, and the bytes that they are (for layer 18). No function of the program.
-/
import Derived.Test.YtlghkdkaifcliaaDoorDsTg
namespace Go.Proofs.YtlghkdkaifcliaaDoor.Ds
open Gf
set_option maxRecDepth 100000
set_option linter.unusedVariables false
/-- The number that bytes are; the bytes of a number. -/
def nb (l : List UInt8) : Nat := l.foldl (fun a b => a * 256 + b.toNat) 0
theorem nb_snoc (l : List UInt8) (b : UInt8) : nb (l ++ [b]) = nb l * 256 + b.toNat := by unfold nb; rw [List.foldl_append]; rfl
def be : Nat → Nat → List UInt8
  | 0, _ => []
  | n + 1, V => be n (V / 256) ++ [u8 (V % 256)]
theorem be_length : ∀ n V, (be n V).length = n
  | 0, _ => rfl
  | n + 1, V => by
    show (be n (V / 256) ++ [u8 (V % 256)]).length = _
    rw [List.length_append, be_length n]; rfl
theorem be_one (V : Nat) : be 1 V = [u8 (V % 256)] := rfl
/-- The last bytes of a number. -/
theorem be_add : ∀ (n m V : Nat), be (n + m) V = be n (V / 256 ^ m) ++ be m V
  | n, 0, V => by
    show be n V = be n (V / 256 ^ 0) ++ []
    rw [List.append_nil, Nat.pow_zero, Nat.div_one]
  | n, m + 1, V => by
    show be (n + m) (V / 256) ++ [u8 (V % 256)] = be n (V / 256 ^ (m + 1)) ++ (be m (V / 256) ++ [u8 (V % 256)])
    rw [be_add n m (V / 256), List.append_assoc, Nat.div_div_eq_div_mul, Nat.pow_succ, Nat.mul_comm 256]
theorem be_mod (n m V : Nat) (h : n ≤ m) : be n (V % 256 ^ m) = be n V := by
  induction n generalizing m V with
  | zero => rfl
  | succ n ih =>
    obtain ⟨m, rfl⟩ : ∃ k, m = k + 1 := ⟨m - 1, by omega⟩
    show be n (V % 256 ^ (m + 1) / 256) ++ [u8 (V % 256 ^ (m + 1) % 256)] = be n (V / 256) ++ [u8 (V % 256)]
    rw [Nat.mod_mod_of_dvd _ ⟨256 ^ m, by rw [Nat.pow_succ']⟩, show V % 256 ^ (m + 1) / 256 = V / 256 % 256 ^ m by rw [Nat.pow_succ', Nat.mod_mul_right_div_self], ih m _ (by omega)]
theorem nb_be : ∀ (n V : Nat), nb (be n V) = V % 256 ^ n
  | 0, V => by show 0 = V % 256 ^ 0; rw [Nat.pow_zero, Nat.mod_one]
  | n + 1, V => by
    show nb (be n (V / 256) ++ [u8 (V % 256)]) = _
    rw [nb_snoc, nb_be n, u8_nat (Nat.mod_lt _ (by decide)), Nat.pow_succ', Nat.mod_mul]
    omega
/-- Numbers in bits as one number: of the first k ones. -/
def gn (l : List Nat) (k : Nat) : Nat := l.getD k 0
def pk (ws ns : List Nat) : Nat → Nat
  | 0 => 0
  | k + 1 => pk ws ns k * 2 ^ gn ws k + gn ns k
def sm (ws : List Nat) : Nat → Nat
  | 0 => 0
  | k + 1 => sm ws k + gn ws k
/-- What the numbers' bytes are. -/
def txW (ws ns : List Nat) : List UInt8 := be (sm ws 9 / 8) (pk ws ns 9)
theorem txW_length (ws ns : List Nat) : (txW ws ns).length = sm ws 9 / 8 := be_length _ _
/-- The number that stands in bits of a number of t bits, of which s and w more stand ahead of what is behind it. -/
def fd (N t s w : Nat) : Nat := N / 2 ^ (t - (s + w)) % 2 ^ w
def rdW (ws : List Nat) (s : List UInt8) : List Nat := (List.range 9).map fun k => fd (nb (s.take (sm ws 9 / 8))) (sm ws 9) (sm ws k) (gn ws k)
/-- A byte more is written. -/
theorem be_step {V c m : Nat} (h : 8 ≤ m) : be c (V / 2 ^ m) ++ [u8 (V / 2 ^ (m - 8) % 256)] = be (c + 1) (V / 2 ^ (m - 8)) := by
  show _ = be c (V / 2 ^ (m - 8) / 256) ++ [_]
  rw [Nat.div_div_eq_div_mul, show 2 ^ (m - 8) * 256 = 2 ^ m by rw [show (256 : Nat) = 2 ^ 8 from rfl, ← Nat.pow_add]; congr 1; omega]
/-- A byte of what is held. -/
theorem held_byte {V M m : Nat} (h : 8 ≤ m) (k : m ≤ M) : V % 2 ^ M / 2 ^ (m - 8) % 256 = V / 2 ^ (m - 8) % 256 := by
  rw [show 2 ^ M = 2 ^ (m - 8) * 2 ^ (M - (m - 8)) by rw [← Nat.pow_add]; congr 1; omega, Nat.mod_mul_right_div_self]
  exact Nat.mod_mod_of_dvd _ (by rw [show (256 : Nat) = 2 ^ 8 from rfl]; exact Nat.pow_dvd_pow 2 (by omega))
theorem held_next {V m w n : Nat} (h : n < 2 ^ w) : V % 2 ^ m * 2 ^ w + n = (V * 2 ^ w + n) % 2 ^ (m + w) := by
  rw [Nat.pow_add, Nat.mul_comm (2 ^ m), Nat.mod_mul]
  have e1 : (V * 2 ^ w + n) % 2 ^ w = n := by rw [Nat.mul_comm, Nat.mul_add_mod, Nat.mod_eq_of_lt h]
  have e2 : (V * 2 ^ w + n) / 2 ^ w = V := by rw [Nat.mul_comm, Nat.mul_add_div (Nat.two_pow_pos w), Nat.div_eq_of_lt h, Nat.add_zero]
  rw [e1, e2, Nat.mul_comm, Nat.add_comm]
theorem next_div {V m w n : Nat} (h : n < 2 ^ w) : (V * 2 ^ w + n) / 2 ^ (m + w) = V / 2 ^ m := by
  have e2 : (V * 2 ^ w + n) / 2 ^ w = V := by rw [Nat.mul_comm, Nat.mul_add_div (Nat.two_pow_pos w), Nat.div_eq_of_lt h, Nat.add_zero]
  rw [Nat.add_comm m w, Nat.pow_add, ← Nat.div_div_eq_div_mul, e2]
theorem mod_mod_low {V M m : Nat} (k : m ≤ M) : V % 2 ^ M % 2 ^ m = V % 2 ^ m := Nat.mod_mod_of_dvd _ (Nat.pow_dvd_pow 2 k)
/-- What the first bytes are is what all of them are, but for the last bits. -/
theorem nb_take (l : List UInt8) {c t : Nat} (h : c ≤ t) (k : t ≤ l.length) : nb (l.take c) = nb (l.take t) / 256 ^ (t - c) := by
  obtain ⟨d, rfl⟩ := Nat.exists_eq_add_of_le h
  rw [Nat.add_sub_cancel_left]
  clear h
  induction d with
  | zero => rw [Nat.add_zero, Nat.pow_zero, Nat.div_one]
  | succ d ih =>
    have hl : c + d < l.length := by omega
    rw [show c + (d + 1) = (c + d) + 1 by omega, List.take_add_one, List.getElem?_eq_getElem hl]
    show _ = nb (l.take (c + d) ++ [l[c + d]]) / _
    rw [nb_snoc, ih (by omega), Nat.pow_succ', ← Nat.div_div_eq_div_mul]
    congr 1
    have := (l[c + d]).toNat_lt
    omega
/-- The number that is taken out of what is held. -/
theorem held_take {l : List UInt8} {c t S w m : Nat} (h : c ≤ t) (k : t ≤ l.length) (e : S + w + m = 8 * c) :
    nb (l.take c) % 2 ^ (m + w) / 2 ^ m = fd (nb (l.take t)) (8 * t) S w := by
  unfold fd
  rw [nb_take l h k, show 2 ^ (m + w) = 2 ^ m * 2 ^ w from Nat.pow_add .., Nat.mod_mul_right_div_self, Nat.div_div_eq_div_mul, show 256 ^ (t - c) * 2 ^ m = 2 ^ (8 * t - (S + w)) by
    rw [show (256 : Nat) = 2 ^ 8 from rfl, ← Nat.pow_mul, ← Nat.pow_add]; congr 1; omega]
/-- Reading a byte more. -/
theorem held_more {l : List UInt8} {c m : Nat} (h : c < l.length) : nb (l.take c) % 2 ^ m * 256 + (cf l c).toNat = nb (l.take (c + 1)) % 2 ^ (m + 8) := by
  have hb : (cf l c) = l[c] := by unfold cf; rw [List.getD_eq_getElem?_getD, List.getElem?_eq_getElem h]; rfl
  have e : nb (l.take (c + 1)) = nb (l.take c) * 2 ^ 8 + (cf l c).toNat := by
    rw [List.take_add_one, List.getElem?_eq_getElem h, hb]
    exact nb_snoc _ _
  rw [e, ← held_next (cf l c).toNat_lt]
/-- The five tables of widths. -/
def wsS : List Nat := [1, 1, 1, 2, 1, 2, 8, 4, 4]
def wsP : List Nat := [16, 16, 16, 16, 8, 0, 0, 0, 0]
def wsT : List Nat := [8, 8, 8, 8, 8, 0, 0, 0, 0]
def wsI : List Nat := [24, 8, 8, 0, 0, 0, 0, 0, 0]
def wsH : List Nat := [24, 8, 0, 0, 0, 0, 0, 0, 0]
def wsL : List Nat := [4, 12, 0, 0, 0, 0, 0, 0, 0]
theorem u8_mod (n : Nat) : u8 (n % 256) = u8 n := by
  refine UInt8.toNat_inj.1 ?_
  unfold u8
  simp [UInt8.toNat_ofNat']
theorem be3 (V : Nat) : be 3 V = [u8 (V / 65536), u8 (V / 256), u8 V] := by
  show [u8 (V / 256 / 256 % 256), u8 (V / 256 % 256), u8 (V % 256)] = _
  rw [u8_mod, u8_mod, u8_mod, Nat.div_div_eq_div_mul]
theorem be2 (V : Nat) : be 2 V = [u8 (V / 256), u8 V] := by
  show [u8 (V / 256 % 256), u8 (V % 256)] = _
  rw [u8_mod, u8_mod]
theorem txS (a b c d e f g : Nat) (h : a < 2 ∧ b < 2 ∧ c < 4 ∧ d < 256 ∧ e < 16 ∧ f < 16) :
    txW wsS [a, 0, b, 3, 0, c, d, e, f] = [u8 (128 * a + 32 * b + 24 + c), u8 d, u8 (16 * e + f)] := by
  show be 3 ((((((((((0 * 2 + a) * 2 + 0) * 2 + b) * 4 + 3) * 2 + 0) * 4 + c) * 256 + d) * 16 + e) * 16 + f)) = _
  rw [be3]
  congr 1
  · congr 1; omega
  congr 1
  · rw [← u8_mod]; congr 1; omega
  congr 1
  · rw [← u8_mod, ← u8_mod (16 * e + f)]; congr 1; omega
theorem rdS {a b c : UInt8} {r : List UInt8} : rdW wsS (a :: b :: c :: r) = [a.toNat / 128, a.toNat / 64 % 2, a.toNat / 32 % 2, a.toNat / 8 % 4, a.toNat / 4 % 2, a.toNat % 4, b.toNat, c.toNat / 16, c.toNat % 16] := by
  have ha := a.toNat_lt
  have hb := b.toNat_lt
  have hc := c.toNat_lt
  have hN : nb ((a :: b :: c :: r).take 3) = (0 * 256 + a.toNat) * 256 * 256 + b.toNat * 256 + c.toNat := by
    show ((0 * 256 + a.toNat) * 256 + b.toNat) * 256 + c.toNat = _; omega
  unfold rdW
  show (List.range 9).map (fun k => fd (nb ((a :: b :: c :: r).take 3)) 24 (sm wsS k) (gn wsS k)) = _
  rw [hN]
  show [_ / 2 ^ 23 % 2, _ / 2 ^ 22 % 2, _ / 2 ^ 21 % 2, _ / 2 ^ 19 % 4, _ / 2 ^ 18 % 2, _ / 2 ^ 16 % 4, _ / 2 ^ 8 % 256, _ / 2 ^ 4 % 16, _ / 1 % 16] = _
  simp only [List.cons.injEq, and_true]
  omega
end Go.Proofs.YtlghkdkaifcliaaDoor.Ds
