/-
  The bytes of Places, Targets and Ints out of their widths (for layer 18). No function of the program.
-/
import Derived.Test.YtlghkdkaifcliaaDoorDsW
namespace Go.Proofs.YtlghkdkaifcliaaDoor.Ds
open Gf
set_option maxRecDepth 100000
set_option linter.unusedVariables false
theorem u8_eq {a b : Nat} (h : a % 256 = b % 256) : u8 a = u8 b := by rw [← u8_mod a, h, u8_mod]
theorem u8_self (a : UInt8) : u8 a.toNat = a := UInt8.toNat_inj.1 (u8_nat a.toNat_lt)
theorem be_w8 (n X y : Nat) (h : y < 256) : be (n + 1) (X * 256 + y) = be n X ++ [u8 y] := by
  show be n ((X * 256 + y) / 256) ++ [u8 ((X * 256 + y) % 256)] = _
  rw [show (X * 256 + y) / 256 = X by omega, show (X * 256 + y) % 256 = y by omega]
theorem be_w16 (n X y : Nat) (h : y < 65536) : be (n + 2) (X * 65536 + y) = be n X ++ b2 y := by
  have e : X * 65536 + y = (X * 256 + y / 256) * 256 + y % 256 := by omega
  rw [e, be_w8 (n + 1) _ _ (by omega), be_w8 n _ _ (by omega), List.append_assoc]; rfl
theorem txP (a b c d t : Nat) (h : a < 65536 ∧ b < 65536 ∧ c < 65536 ∧ d < 65536 ∧ t < 256) : txW wsP [a, b, c, d, t, 0, 0, 0, 0] = b2 a ++ (b2 b ++ (b2 c ++ (b2 d ++ [u8 t]))) := by
  show be 9 (((((((((0 * 65536 + a) * 65536 + b) * 65536 + c) * 65536 + d) * 256 + t) * 1 + 0) * 1 + 0) * 1 + 0) * 1 + 0) = _
  rw [show ((((((((0 * 65536 + a) * 65536 + b) * 65536 + c) * 65536 + d) * 256 + t) * 1 + 0) * 1 + 0) * 1 + 0) * 1 + 0 = ((((0 * 65536 + a) * 65536 + b) * 65536 + c) * 65536 + d) * 256 + t by omega]
  rw [be_w8 8 _ _ (by omega), be_w16 6 _ _ (by omega), be_w16 4 _ _ (by omega), be_w16 2 _ _ (by omega), be_w16 0 _ _ (by omega)]
  simp only [List.append_assoc]; rfl
theorem txT (a b c d : UInt8) (t : Nat) (h : t < 256) : txW wsT [a.toNat, b.toNat, c.toNat, d.toNat, t, 0, 0, 0, 0] = [a, b, c, d, u8 t] := by
  have ha := a.toNat_lt
  have hb := b.toNat_lt
  have hc := c.toNat_lt
  have hd := d.toNat_lt
  show be 5 (((((((((0 * 256 + a.toNat) * 256 + b.toNat) * 256 + c.toNat) * 256 + d.toNat) * 256 + t) * 1 + 0) * 1 + 0) * 1 + 0) * 1 + 0) = _
  rw [show ((((((((0 * 256 + a.toNat) * 256 + b.toNat) * 256 + c.toNat) * 256 + d.toNat) * 256 + t) * 1 + 0) * 1 + 0) * 1 + 0) * 1 + 0 = ((((0 * 256 + a.toNat) * 256 + b.toNat) * 256 + c.toNat) * 256 + d.toNat) * 256 + t by omega]
  rw [be_w8 4 _ _ (by omega), be_w8 3 _ _ (by omega), be_w8 2 _ _ (by omega), be_w8 1 _ _ (by omega), be_w8 0 _ _ (by omega), u8_self, u8_self, u8_self, u8_self]; rfl
theorem txH (p o : Nat) (h : p < 16777216 ∧ o < 256) : txW wsH [p, o, 0, 0, 0, 0, 0, 0, 0] = [u8 (p / 65536), u8 (p / 256), u8 p, u8 o] := by
  show be 4 (((((((((0 * 16777216 + p) * 256 + o) * 1 + 0) * 1 + 0) * 1 + 0) * 1 + 0) * 1 + 0) * 1 + 0) * 1 + 0) = _
  rw [show ((((((((0 * 16777216 + p) * 256 + o) * 1 + 0) * 1 + 0) * 1 + 0) * 1 + 0) * 1 + 0) * 1 + 0) * 1 + 0 = p * 256 + o by omega]
  rw [be_w8 3 _ _ (by omega), be3]; rfl
theorem txL (n : Nat) (h : n < 4096) : txW wsL [15, n, 0, 0, 0, 0, 0, 0, 0] = [u8 (240 + n / 256), u8 n] := by
  show be 2 (((((((((0 * 16 + 15) * 4096 + n) * 1 + 0) * 1 + 0) * 1 + 0) * 1 + 0) * 1 + 0) * 1 + 0) * 1 + 0) = _
  rw [show ((((((((0 * 16 + 15) * 4096 + n) * 1 + 0) * 1 + 0) * 1 + 0) * 1 + 0) * 1 + 0) * 1 + 0) * 1 + 0 = 61440 + n by omega]
  rw [be2, show (61440 + n) / 256 = 240 + n / 256 by omega, show u8 (61440 + n) = u8 n from u8_eq (by omega)]
theorem rdP {a b c d e f g h i : UInt8} {r : List UInt8} : rdW wsP (a :: b :: c :: d :: e :: f :: g :: h :: i :: r) = [256 * a.toNat + b.toNat, 256 * c.toNat + d.toNat, 256 * e.toNat + f.toNat, 256 * g.toNat + h.toNat, i.toNat, 0, 0, 0, 0] := by
  have ha := a.toNat_lt; have hb := b.toNat_lt; have hc := c.toNat_lt; have hd := d.toNat_lt; have he := e.toNat_lt; have hf := f.toNat_lt; have hg := g.toNat_lt; have hh := h.toNat_lt; have hi := i.toNat_lt
  have hN : nb ((a :: b :: c :: d :: e :: f :: g :: h :: i :: r).take 9) = ((((((((0 * 256 + a.toNat) * 256 + b.toNat) * 256 + c.toNat) * 256 + d.toNat) * 256 + e.toNat) * 256 + f.toNat) * 256 + g.toNat) * 256 + h.toNat) * 256 + i.toNat := rfl
  unfold rdW
  show (List.range 9).map (fun k => fd (nb ((a :: b :: c :: d :: e :: f :: g :: h :: i :: r).take 9)) 72 (sm wsP k) (gn wsP k)) = _
  rw [hN]
  show [_ / 72057594037927936 % 65536, _ / 1099511627776 % 65536, _ / 16777216 % 65536, _ / 256 % 65536, _ / 1 % 256, _ / 1 % 1, _ / 1 % 1, _ / 1 % 1, _ / 1 % 1] = _
  simp only [List.cons.injEq, and_true]
  omega
theorem rdT {a b c d e : UInt8} {r : List UInt8} : rdW wsT (a :: b :: c :: d :: e :: r) = [a.toNat, b.toNat, c.toNat, d.toNat, e.toNat, 0, 0, 0, 0] := by
  have ha := a.toNat_lt; have hb := b.toNat_lt; have hc := c.toNat_lt; have hd := d.toNat_lt; have he := e.toNat_lt
  have hN : nb ((a :: b :: c :: d :: e :: r).take 5) = ((((0 * 256 + a.toNat) * 256 + b.toNat) * 256 + c.toNat) * 256 + d.toNat) * 256 + e.toNat := rfl
  unfold rdW
  show (List.range 9).map (fun k => fd (nb ((a :: b :: c :: d :: e :: r).take 5)) 40 (sm wsT k) (gn wsT k)) = _
  rw [hN]
  show [_ / 4294967296 % 256, _ / 16777216 % 256, _ / 65536 % 256, _ / 256 % 256, _ / 1 % 256, _ / 1 % 1, _ / 1 % 1, _ / 1 % 1, _ / 1 % 1] = _
  simp only [List.cons.injEq, and_true]
  omega
theorem rdH {a b c d : UInt8} {r : List UInt8} : rdW wsH (a :: b :: c :: d :: r) = [65536 * a.toNat + 256 * b.toNat + c.toNat, d.toNat, 0, 0, 0, 0, 0, 0, 0] := by
  have ha := a.toNat_lt; have hb := b.toNat_lt; have hc := c.toNat_lt; have hd := d.toNat_lt
  have hN : nb ((a :: b :: c :: d :: r).take 4) = (((0 * 256 + a.toNat) * 256 + b.toNat) * 256 + c.toNat) * 256 + d.toNat := rfl
  unfold rdW
  show (List.range 9).map (fun k => fd (nb ((a :: b :: c :: d :: r).take 4)) 32 (sm wsH k) (gn wsH k)) = _
  rw [hN]
  show [_ / 256 % 16777216, _ / 1 % 256, _ / 1 % 1, _ / 1 % 1, _ / 1 % 1, _ / 1 % 1, _ / 1 % 1, _ / 1 % 1, _ / 1 % 1] = _
  simp only [List.cons.injEq, and_true]
  omega
theorem rdL {a b : UInt8} {r : List UInt8} : rdW wsL (a :: b :: r) = [a.toNat / 16, a.toNat % 16 * 256 + b.toNat, 0, 0, 0, 0, 0, 0, 0] := by
  have ha := a.toNat_lt; have hb := b.toNat_lt
  have hN : nb ((a :: b :: r).take 2) = (0 * 256 + a.toNat) * 256 + b.toNat := rfl
  unfold rdW
  show (List.range 9).map (fun k => fd (nb ((a :: b :: r).take 2)) 16 (sm wsL k) (gn wsL k)) = _
  rw [hN]
  show [_ / 4096 % 16, _ / 1 % 4096, _ / 1 % 1, _ / 1 % 1, _ / 1 % 1, _ / 1 % 1, _ / 1 % 1, _ / 1 % 1, _ / 1 % 1] = _
  simp only [List.cons.injEq, and_true]
  omega
/-- What Make of a Place answers. -/
def mkP (x : Plc) : Dsc × Int := if okPl x then (plD x, 0) else (⟨0, ⟨#[]⟩⟩, 15)
theorem mkP_ok {x : Plc} (h : okPl x) : mkP x = (plD x, 0) := if_pos h
theorem mkP_no {x : Plc} (h : ¬ okPl x) : mkP x = (⟨0, ⟨#[]⟩⟩, 15) := if_neg h
theorem gn_P (k : Nat) : gn wsP k ≤ 24 := by
  unfold gn wsP
  rcases k with _ | _ | _ | _ | _ | _ | _ | _ | _ | k <;> simp
theorem gn_T (k : Nat) : gn wsT k ≤ 24 := by
  unfold gn wsT
  rcases k with _ | _ | _ | _ | _ | _ | _ | _ | _ | k <;> simp
theorem gn_I (k : Nat) : gn wsI k ≤ 24 := by
  unfold gn wsI
  rcases k with _ | _ | _ | _ | _ | _ | _ | _ | _ | k <;> simp
theorem gn_H (k : Nat) : gn wsH k ≤ 24 := by
  unfold gn wsH
  rcases k with _ | _ | _ | _ | _ | _ | _ | _ | _ | k <;> simp
theorem gn_L (k : Nat) : gn wsL k ≤ 24 := by
  unfold gn wsL
  rcases k with _ | _ | _ | _ | _ | _ | _ | _ | _ | k <;> simp
end Go.Proofs.YtlghkdkaifcliaaDoor.Ds
