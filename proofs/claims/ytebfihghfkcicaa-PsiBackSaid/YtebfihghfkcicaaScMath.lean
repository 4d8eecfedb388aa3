/-
  Sections as numbers, texts and bytes: what is wrong with one, which bytes it is, which one bytes are, of which sections a text is made, and which text sections are. No program.
-/
import Derived.Test.YtebfihghfkcicaaCrc
import Derived.Test.YtebfihghfkcicaaCf
namespace Go.Proofs.Ytebfihghfkcicaa.Sct
open Gf Bit Crc
set_option maxRecDepth 100000
structure Sec where
  tb : Int
  pv : Bool
  ex : Int
  ver : Int
  nw : Bool
  num : Int
  la : Int
  body : ByteArray
/-- The section that has nothing. -/
def zs : Sec := ⟨0, false, 0, 0, false, 0, 0, ⟨#[]⟩⟩
theorem sec_ext {a b : Sec} (h1 : a.tb = b.tb) (h2 : a.pv = b.pv) (h3 : a.ex = b.ex) (h4 : a.ver = b.ver) (h5 : a.nw = b.nw) (h6 : a.num = b.num) (h7 : a.la = b.la) (h8 : ls a.body = ls b.body) : a = b := by
  cases a; cases b
  simp only at h1 h2 h3 h4 h5 h6 h7 h8
  subst h1 h2 h3 h4 h5 h6 h7
  rename_i x y
  rw [show x = y by rw [← st_ls x, h8, st_ls]]
/-- The numbers are what they may be. -/
def fit (s : Sec) : Prop := 0 ≤ s.tb ∧ s.tb ≤ 255 ∧ 0 ≤ s.ex ∧ s.ex ≤ 65535 ∧ 0 ≤ s.ver ∧ s.ver ≤ 31 ∧ 0 ≤ s.la ∧ s.la ≤ 255 ∧ 0 ≤ s.num ∧ s.num ≤ s.la
instance (s : Sec) : Decidable (fit s) := by unfold fit; infer_instance
/-- What is wrong with a section. -/
def chk (s : Sec) : Int := if fit s then (if 4084 < s.body.size then 17 else 0) else 15
theorem chk_no {s : Sec} (h : ¬ fit s) : chk s = 15 := by unfold chk; rw [if_neg h]
theorem chk_big {s : Sec} (h : fit s) (k : 4084 < s.body.size) : chk s = 17 := by unfold chk; rw [if_pos h, if_pos k]
theorem chk_ok {s : Sec} (h : fit s) (k : ¬ 4084 < s.body.size) : chk s = 0 := by unfold chk; rw [if_pos h, if_neg k]
theorem chk_fit {s : Sec} (h : chk s = 0) : fit s ∧ s.body.size ≤ 4084 := by
  by_cases k : fit s
  · by_cases g : 4084 < s.body.size
    · rw [chk_big k g] at h; omega
    · exact ⟨k, by omega⟩
  · rw [chk_no k] at h; omega
def u8 (n : Nat) : UInt8 := UInt8.ofNat n
theorem u8_nat {n : Nat} (h : n < 256) : (u8 n).toNat = n := UInt8.toNat_ofNat_of_lt' h
def bn (b : Bool) : Nat := if b then 1 else 0
theorem bn_le (b : Bool) : bn b ≤ 1 := by cases b <;> decide
def flg (s : Sec) : Nat := 176 + 64 * bn s.pv + (s.body.size + 9) / 256
def vby (s : Sec) : Nat := 192 + 2 * s.ver.toNat + bn s.nw
/-- The eight bytes ahead of the body. -/
def hd8 (s : Sec) : List UInt8 := [u8 s.tb.toNat, u8 (flg s), u8 ((s.body.size + 9) % 256), u8 (s.ex.toNat / 256), u8 (s.ex.toNat % 256), u8 (vby s), u8 s.num.toNat, u8 s.la.toNat]
theorem hd8_length (s : Sec) : (hd8 s).length = 8 := rfl
/-- A section's bytes without the check sum, and with it. -/
def open8 (s : Sec) : List UInt8 := hd8 s ++ ls s.body
def bytes (s : Sec) : List UInt8 := sld (open8 s)
theorem open8_length (s : Sec) : (open8 s).length = s.body.size + 8 := by unfold open8; rw [List.length_append, hd8_length, ls_size]; omega
theorem bytes_length (s : Sec) : (bytes s).length = s.body.size + 12 := by unfold bytes; rw [sld_length, open8_length]
/-- The fields, with their bits. -/
def fl (s : Sec) : List (Nat × Nat) := [(s.tb.toNat, 8), (1, 1), (bn s.pv, 1), (3, 2), (9 + s.body.size, 12), (s.ex.toNat, 16), (3, 2), (s.ver.toNat, 5), (bn s.nw, 1), (s.num.toNat, 8), (s.la.toNat, 8)]
def fb (l : List (Nat × Nat)) : List Bool := l.flatMap fun p => lb p.1 p.2
theorem lb_mod (x n : Nat) : lb (x % 2 ^ n) n = lb x n := by
  refine list_ext_bt (by rw [lb_length, lb_length]) fun i hi => ?_
  rw [lb_length] at hi
  rw [bt_lb _ hi, bt_lb _ hi, Nat.testBit_mod_two_pow, decide_eq_true (by omega), Bool.true_and]
theorem lb_join (x y a b : Nat) (h : y < 2 ^ b) : lb (x * 2 ^ b + y) (a + b) = lb x a ++ lb y b := by
  rw [lb_split, show (x * 2 ^ b + y) / 2 ^ b = x by rw [Nat.mul_comm, Nat.mul_add_div (Nat.two_pow_pos b), Nat.div_eq_of_lt h, Nat.add_zero], ← lb_mod (x * 2 ^ b + y) b, show (x * 2 ^ b + y) % 2 ^ b = y by rw [Nat.mul_comm, Nat.mul_add_mod, Nat.mod_eq_of_lt h]]
theorem fb_fl {s : Sec} (h : chk s = 0) : fb (fl s) = ob (hd8 s) := by
  obtain ⟨⟨h1, h2, h3, h4, h5, h6, h7, h8, h9, h10⟩, h11⟩ := chk_fit h
  have e1 : (u8 s.tb.toNat).toNat = s.tb.toNat := u8_nat (by omega)
  have b1 := bn_le s.pv
  have b2 := bn_le s.nw
  have e2 : (u8 (flg s)).toNat = (11 + 4 * bn s.pv) * 2 ^ 4 + (s.body.size + 9) / 256 := by
    rw [u8_nat (by unfold flg; omega)]; unfold flg; omega
  have e3 : (u8 ((s.body.size + 9) % 256)).toNat = (s.body.size + 9) % 2 ^ 8 := u8_nat (by omega)
  have e4 : (u8 (s.ex.toNat / 256)).toNat = s.ex.toNat / 2 ^ 8 := u8_nat (by omega)
  have e5 : (u8 (s.ex.toNat % 256)).toNat = s.ex.toNat % 2 ^ 8 := u8_nat (by omega)
  have e6 : (u8 (vby s)).toNat = 3 * 2 ^ 6 + (s.ver.toNat * 2 ^ 1 + bn s.nw) := by
    rw [u8_nat (by unfold vby; omega)]; unfold vby; omega
  have e7 : (u8 s.num.toNat).toNat = s.num.toNat := u8_nat (by omega)
  have e8 : (u8 s.la.toNat).toNat = s.la.toNat := u8_nat (by omega)
  have f2 : lb ((11 + 4 * bn s.pv) * 2 ^ 4 + (s.body.size + 9) / 256) 8 = lb 1 1 ++ (lb (bn s.pv) 1 ++ (lb 3 2 ++ lb ((s.body.size + 9) / 256) 4)) := by
    rw [lb_join _ _ 4 4 (by omega), show lb (11 + 4 * bn s.pv) 4 = lb 1 1 ++ (lb (bn s.pv) 1 ++ lb 3 2) by cases s.pv <;> decide, List.append_assoc, List.append_assoc]
  have f6 : lb (3 * 2 ^ 6 + (s.ver.toNat * 2 ^ 1 + bn s.nw)) 8 = lb 3 2 ++ (lb s.ver.toNat 5 ++ lb (bn s.nw) 1) := by
    rw [lb_join 3 _ 2 6 (by omega), lb_join s.ver.toNat _ 5 1 (by omega)]
  have f9 : lb (9 + s.body.size) 12 = lb ((s.body.size + 9) / 256) 4 ++ lb (s.body.size + 9) 8 := by
    rw [Nat.add_comm 9, lb_split _ 4 8]
  have f16 : lb s.ex.toNat 16 = lb (s.ex.toNat / 2 ^ 8) 8 ++ lb s.ex.toNat 8 := lb_split _ 8 8
  unfold hd8
  simp only [ob]
  rw [e1, e2, e3, e4, e5, e6, e7, e8, f2, f6, lb_mod, lb_mod]
  unfold fb fl
  simp only [List.flatMap_cons, List.flatMap_nil]
  rw [f9, f16]
  simp only [List.append_assoc, List.append_nil]
/-- The bits of one byte, and of two. -/
theorem ob_byte (l : List UInt8) (j a b : Nat) (h : a + b ≤ 8) (hj : j < l.length) : ((ob l).drop (8 * j + a)).take b = lb ((cf l j).toNat / 2 ^ (8 - a - b)) b := by
  have hl := ob_length l
  refine list_ext_bt (by rw [List.length_take, List.length_drop, lb_length, hl]; omega) fun i hi => ?_
  rw [List.length_take] at hi
  rw [bt_take (by omega), bt_drop, bt_ob, bt_lb _ (by omega), ← Nat.shiftRight_eq_div_pow, Nat.testBit_shiftRight, show (8 * j + a + i) / 8 = j by omega]
  congr 1; omega
theorem num_byte (l : List UInt8) (p a b : Nat) {j : Nat} (h : a + b ≤ 8) (hj : j < l.length) (hp : p = 8 * j + a) : num (((ob l).drop p).take b) = (cf l j).toNat / 2 ^ (8 - a - b) % 2 ^ b := by
  rw [hp, ob_byte l j a b h hj, num_lb]
theorem num_two (l : List UInt8) (p a n : Nat) {j : Nat} (ha : a ≤ 8) (hj : j + 1 < l.length) (hp : p = 8 * j + a) (hn : n = 8 - a + 8) : num (((ob l).drop p).take n) = (cf l j).toNat % 2 ^ (8 - a) * 256 + (cf l (j + 1)).toNat := by
  have hl := ob_length l
  have e : ((ob l).drop p).take n = ((ob l).drop (8 * j + a)).take (8 - a) ++ ((ob l).drop (8 * (j + 1) + 0)).take 8 := by
    rw [hp, hn, List.take_add, List.drop_drop]
    congr 3; omega
  have l2 : (((ob l).drop (8 * (j + 1) + 0)).take 8).length = 8 := by rw [List.length_take, List.length_drop, hl]; omega
  rw [e, num_append, l2, num_byte l _ a (8 - a) (j := j) (by omega) (by omega) rfl, num_byte l _ 0 8 (j := j + 1) (by omega) hj rfl]
  have := (cf l (j + 1)).toNat_lt
  rw [show 8 - a - (8 - a) = 0 by omega, show 8 - 0 - 8 = 0 from rfl, Nat.pow_zero, Nat.div_one, Nat.div_one, Nat.mod_eq_of_lt (by omega : (cf l (j + 1)).toNat < 2 ^ 8)]
  omega
/-- A byte as a number. -/
def c (l : List UInt8) (i : Nat) : Nat := (cf l i).toNat
theorem c_lt (l : List UInt8) (i : Nat) : c l i < 256 := (cf l i).toNat_lt
/-- How many bytes the section has that begins so. -/
def len12 (l : List UInt8) : Nat := c l 1 % 16 * 256 + c l 2
def need (l : List UInt8) : Int × Int :=
  if l.length < 3 then (0, 10) else if (c l 1 / 16 = 11 ∨ c l 1 / 16 = 15) ∧ 9 ≤ len12 l ∧ len12 l ≤ 4093 then (((len12 l + 3 : Nat) : Int), 0) else (0, 12)
theorem need_short {l : List UInt8} (h : l.length < 3) : need l = (0, 10) := by unfold need; rw [if_pos h]
theorem need_form {l : List UInt8} (h : ¬ l.length < 3) (k : ¬ ((c l 1 / 16 = 11 ∨ c l 1 / 16 = 15) ∧ 9 ≤ len12 l ∧ len12 l ≤ 4093)) : need l = (0, 12) := by unfold need; rw [if_neg h, if_neg k]
theorem need_ok {l : List UInt8} (h : ¬ l.length < 3) (k : (c l 1 / 16 = 11 ∨ c l 1 / 16 = 15) ∧ 9 ≤ len12 l ∧ len12 l ≤ 4093) : need l = (((len12 l + 3 : Nat) : Int), 0) := by unfold need; rw [if_neg h, if_pos k]
/-- The section of opened bytes. -/
def sc (l : List UInt8) : Sec := ⟨(c l 0 : Int), decide (c l 1 / 64 % 2 = 1), ((c l 3 * 256 + c l 4 : Nat) : Int), ((c l 5 / 2 % 32 : Nat) : Int), decide (c l 5 % 2 = 1), (c l 6 : Int), (c l 7 : Int), st (l.drop 8)⟩
def rd (l : List UInt8) : Sec × Int := if c l 5 / 64 = 3 ∧ c l 6 ≤ c l 7 then (sc l, 0) else (zs, 12)
theorem rd_ok {l : List UInt8} (h : c l 5 / 64 = 3 ∧ c l 6 ≤ c l 7) : rd l = (sc l, 0) := by unfold rd; rw [if_pos h]
theorem rd_no {l : List UInt8} (h : ¬ (c l 5 / 64 = 3 ∧ c l 6 ≤ c l 7)) : rd l = (zs, 12) := by unfold rd; rw [if_neg h]
/-- The section of bytes. -/
def dec (l : List UInt8) : Sec × Int :=
  if (need l).2 ≠ 0 then (zs, (need l).2) else if (l.length : Int) < (need l).1 then (zs, 10) else if (need l).1 < (l.length : Int) then (zs, 11) else if (opn l).2 ≠ 0 then (zs, (opn l).2) else rd (opn l).1
theorem dec_need {l : List UInt8} (h : (need l).2 ≠ 0) : dec l = (zs, (need l).2) := by unfold dec; rw [if_pos h]
theorem dec_short {l : List UInt8} (h : (need l).2 = 0) (k : (l.length : Int) < (need l).1) : dec l = (zs, 10) := by unfold dec; rw [if_neg (by rw [h]; exact fun x => x rfl), if_pos k]
theorem dec_long {l : List UInt8} (h : (need l).2 = 0) (k : (need l).1 < (l.length : Int)) : dec l = (zs, 11) := by unfold dec; rw [if_neg (by rw [h]; exact fun x => x rfl), if_neg (by omega), if_pos k]
theorem dec_sum {l : List UInt8} (h : (need l).2 = 0) (k : (need l).1 = (l.length : Int)) (g : (opn l).2 ≠ 0) : dec l = (zs, (opn l).2) := by unfold dec; rw [if_neg (by rw [h]; exact fun x => x rfl), if_neg (by omega), if_neg (by omega), if_pos g]
theorem dec_rd {l : List UInt8} (h : (need l).2 = 0) (k : (need l).1 = (l.length : Int)) (g : (opn l).2 = 0) : dec l = rd (opn l).1 := by unfold dec; rw [if_neg (by rw [h]; exact fun x => x rfl), if_neg (by omega), if_neg (by omega), if_neg (by rw [g]; exact fun x => x rfl)]
theorem opn_err (l : List UInt8) : (opn l).2 = 0 ∨ (opn l).2 = 10 ∨ (opn l).2 = 13 := by
  unfold opn
  split
  · exact .inr (.inl rfl)
  · split
    · exact .inl rfl
    · exact .inr (.inr rfl)
theorem need_good {l : List UInt8} (h : (need l).2 = 0) : ¬ l.length < 3 ∧ (c l 1 / 16 = 11 ∨ c l 1 / 16 = 15) ∧ 9 ≤ len12 l ∧ len12 l ≤ 4093 ∧ (need l).1 = ((len12 l + 3 : Nat) : Int) := by
  by_cases h3 : l.length < 3
  · rw [need_short h3] at h; simp at h
  · by_cases k : (c l 1 / 16 = 11 ∨ c l 1 / 16 = 15) ∧ 9 ≤ len12 l ∧ len12 l ≤ 4093
    · exact ⟨h3, k.1, k.2.1, k.2.2, by rw [need_ok h3 k]⟩
    · rw [need_form h3 k] at h; simp at h
/-- What is opened of what a section needs has eight bytes and the body. -/
theorem opn_length {l : List UInt8} (h : (need l).2 = 0) (k : (need l).1 = (l.length : Int)) (g : (opn l).2 = 0) : (opn l).1 = l.take (l.length - 4) ∧ 8 ≤ (opn l).1.length ∧ (opn l).1.length ≤ 4092 ∧ sld (opn l).1 = l ∧ 12 ≤ l.length := by
  obtain ⟨h1, h2, h3, h4, h5⟩ := need_good h
  rw [h5] at k
  have h6 : ¬ l.length < 4 := by omega
  have h7 : mo ones l = 0#32 := by
    by_cases q : mo ones l = 0#32
    · exact q
    · rw [opn_bad h6 q] at g; simp at g
  rw [opn_good h6 h7]
  refine ⟨rfl, ?_, ?_, (opn_iff h6).1 h7, ?_⟩
  · rw [List.length_take]; omega
  · rw [List.length_take]; omega
  · omega
theorem dec_err {l : List UInt8} (h : (dec l).2 ≠ 0) : (dec l).1 = zs := by
  by_cases h1 : (need l).2 = 0
  · by_cases h2 : (l.length : Int) < (need l).1
    · rw [dec_short h1 h2]
    · by_cases h3 : (need l).1 < (l.length : Int)
      · rw [dec_long h1 h3]
      · by_cases h4 : (opn l).2 = 0
        · rw [dec_rd h1 (by omega) h4] at h ⊢
          unfold rd at h ⊢
          split at h
          · exact absurd rfl h
          · rw [if_neg ‹_›]
        · rw [dec_sum h1 (by omega) h4]
  · rw [dec_need h1]
/-- What a section is that was read. -/
theorem dec_good {l : List UInt8} (h : (dec l).2 = 0) : (need l).2 = 0 ∧ (need l).1 = (l.length : Int) ∧ (opn l).2 = 0 ∧ c (opn l).1 5 / 64 = 3 ∧ c (opn l).1 6 ≤ c (opn l).1 7 ∧ (dec l).1 = sc (opn l).1 := by
  by_cases h1 : (need l).2 = 0
  · by_cases h2 : (l.length : Int) < (need l).1
    · rw [dec_short h1 h2] at h; simp at h
    · by_cases h3 : (need l).1 < (l.length : Int)
      · rw [dec_long h1 h3] at h; simp at h
      · by_cases h4 : (opn l).2 = 0
        · have e := dec_rd h1 (by omega) h4
          rw [e] at h ⊢
          by_cases k : c (opn l).1 5 / 64 = 3 ∧ c (opn l).1 6 ≤ c (opn l).1 7
          · exact ⟨h1, by omega, h4, k.1, k.2, by rw [rd_ok k]⟩
          · rw [rd_no k] at h; simp at h
        · rw [dec_sum h1 (by omega) h4] at h; exact absurd h h4
  · rw [dec_need h1] at h; exact absurd h h1
theorem mo_good {l : List UInt8} (h : (dec l).2 = 0) : mo ones l = 0#32 := by
  obtain ⟨h1, h2, h3, _⟩ := dec_good h
  obtain ⟨_, _, _, h4, _⟩ := opn_length h1 h2 h3
  rw [← h4]; exact mo_sld _
theorem c_hd8 {s : Sec} (h : chk s = 0) (r : List UInt8) : c (hd8 s ++ r) 0 = s.tb.toNat ∧ c (hd8 s ++ r) 1 = flg s ∧ c (hd8 s ++ r) 2 = (s.body.size + 9) % 256 ∧ c (hd8 s ++ r) 3 = s.ex.toNat / 256 ∧ c (hd8 s ++ r) 4 = s.ex.toNat % 256 ∧ c (hd8 s ++ r) 5 = vby s ∧ c (hd8 s ++ r) 6 = s.num.toNat ∧ c (hd8 s ++ r) 7 = s.la.toNat := by
  obtain ⟨⟨h1, h2, h3, h4, h5, h6, h7, h8, h9, h10⟩, h11⟩ := chk_fit h
  have b1 := bn_le s.pv
  have b2 := bn_le s.nw
  refine ⟨?_, ?_, ?_, ?_, ?_, ?_, ?_, ?_⟩
  · exact u8_nat (by omega)
  · exact u8_nat (by unfold flg; omega)
  · exact u8_nat (by omega)
  · exact u8_nat (by omega)
  · exact u8_nat (by omega)
  · exact u8_nat (by unfold vby; omega)
  · exact u8_nat (by omega)
  · exact u8_nat (by omega)
/-- DECODE OF ENCODE. -/
theorem need_bytes {s : Sec} (h : chk s = 0) : need (bytes s) = (((s.body.size + 12 : Nat) : Int), 0) := by
  have hl := bytes_length s
  have e : bytes s = hd8 s ++ (ls s.body ++ four (mo ones (open8 s))) := by unfold bytes sld; conv => lhs; arg 1; unfold open8
                                                                            rw [List.append_assoc]
  obtain ⟨_, a1, a2, _⟩ := c_hd8 h (ls s.body ++ four (mo ones (open8 s)))
  rw [← e] at a1 a2
  obtain ⟨_, h11⟩ := chk_fit h
  have b1 := bn_le s.pv
  have hf : flg s = 176 + 64 * bn s.pv + (s.body.size + 9) / 256 := rfl
  have h12 : len12 (bytes s) = s.body.size + 9 := by unfold len12; rw [a1, a2]; omega
  have hx : bn s.pv = 0 ∨ bn s.pv = 1 := by omega
  rw [need_ok (by omega) ⟨by rw [a1, hf]; omega, by omega, by omega⟩, h12]
theorem dec_bytes {s : Sec} (h : chk s = 0) : dec (bytes s) = (s, 0) := by
  have hn := need_bytes h
  have hl := bytes_length s
  obtain ⟨⟨h1, h2, h3, h4, h5, h6, h7, h8, h9, h10⟩, h11⟩ := chk_fit h
  have b2 := bn_le s.nw
  have b1 := bn_le s.pv
  have ho : opn (bytes s) = (open8 s, 0) := by
    rw [opn_good (l := bytes s) (by omega) (mo_sld _)]
    congr 1
    unfold bytes; rw [sld_length, Nat.add_sub_cancel]; unfold sld; rw [List.take_left]
  obtain ⟨a0, a1, a2, a3, a4, a5, a6, a7⟩ := c_hd8 h (ls s.body)
  rw [show hd8 s ++ ls s.body = open8 s from rfl] at a0 a1 a2 a3 a4 a5 a6 a7
  have hv : vby s = 192 + 2 * s.ver.toNat + bn s.nw := rfl
  have hf : flg s = 176 + 64 * bn s.pv + (s.body.size + 9) / 256 := rfl
  rw [dec_rd (by rw [hn]) (by rw [hn, hl]) (by rw [ho]), ho]
  show rd (open8 s) = _
  rw [rd_ok ⟨by rw [a5, hv]; omega, by rw [a6, a7]; omega⟩]
  congr 1
  unfold sc
  rw [a0, a1, a3, a4, a5, a6, a7]
  refine sec_ext ?_ ?_ ?_ ?_ ?_ ?_ ?_ ?_
  · show (s.tb.toNat : Int) = s.tb; omega
  · show decide (flg s / 64 % 2 = 1) = s.pv
    rw [hf]
    cases hp : s.pv
    · exact decide_eq_false (by rw [show bn false = 0 from rfl]; omega)
    · exact decide_eq_true (by rw [show bn true = 1 from rfl]; omega)
  · show ((s.ex.toNat / 256 * 256 + s.ex.toNat % 256 : Nat) : Int) = s.ex; omega
  · show ((vby s / 2 % 32 : Nat) : Int) = s.ver; rw [hv]; omega
  · show decide (vby s % 2 = 1) = s.nw
    rw [hv]
    cases hp : s.nw
    · exact decide_eq_false (by rw [show bn false = 0 from rfl]; omega)
    · exact decide_eq_true (by rw [show bn true = 1 from rfl]; omega)
  · show (s.num.toNat : Int) = s.num; omega
  · show (s.la.toNat : Int) = s.la; omega
  · show ls (st ((open8 s).drop 8)) = ls s.body
    rw [ls_st]; unfold open8; rw [List.drop_left' (hd8_length s)]
/-- ENCODE OF DECODE. -/
theorem bytes_dec {l : List UInt8} (h : (dec l).2 = 0) : chk (dec l).1 = 0 ∧ bytes (dec l).1 = l := by
  obtain ⟨h1, h2, h3, h4, h5, h6⟩ := dec_good h
  obtain ⟨o1, o2, o3, o4, o5⟩ := opn_length h1 h2 h3
  obtain ⟨n1, n2, n3, n4, n5⟩ := need_good h1
  rw [h6]
  generalize hm : (opn l).1 = m at *
  have c1 : c m 1 = c l 1 := by unfold c; rw [o1, cf_take_lt _ _ _ (by omega)]
  have c2 : c m 2 = c l 2 := by unfold c; rw [o1, cf_take_lt _ _ _ (by omega)]
  have hml : m.length = l.length - 4 := by rw [o1, List.length_take]; omega
  have h12 : len12 l = c l 1 % 16 * 256 + c l 2 := rfl
  rw [n5] at h2
  have sz : (sc m).body.size = m.length - 8 := by show (st (m.drop 8)).size = _; rw [st_size, List.length_drop]
  have l0 := c_lt m 0
  have l1 := c_lt m 1
  have l2 := c_lt m 2
  have l3 := c_lt m 3
  have l4 := c_lt m 4
  have l5 := c_lt m 5
  have l6 := c_lt m 6
  have l7 := c_lt m 7
  have hfit : fit (sc m) := by
    refine ⟨?_, ?_, ?_, ?_, ?_, ?_, ?_, ?_, ?_, ?_⟩
    · show (0 : Int) ≤ (c m 0 : Int); omega
    · show (c m 0 : Int) ≤ 255; omega
    · show (0 : Int) ≤ ((c m 3 * 256 + c m 4 : Nat) : Int); omega
    · show ((c m 3 * 256 + c m 4 : Nat) : Int) ≤ 65535; omega
    · show (0 : Int) ≤ ((c m 5 / 2 % 32 : Nat) : Int); omega
    · show ((c m 5 / 2 % 32 : Nat) : Int) ≤ 31; omega
    · show (0 : Int) ≤ (c m 7 : Int); omega
    · show (c m 7 : Int) ≤ 255; omega
    · show (0 : Int) ≤ (c m 6 : Int); omega
    · show (c m 6 : Int) ≤ (c m 7 : Int); omega
  have hck := chk_ok hfit (by rw [sz]; omega)
  refine ⟨hck, ?_⟩
  unfold bytes
  rw [show open8 (sc m) = m from ?_, o4]
  have e8 : m = m.take 8 ++ m.drop 8 := (List.take_append_drop 8 m).symm
  unfold open8
  rw [show ls (sc m).body = m.drop 8 from rfl]
  conv => rhs; rw [e8]
  congr 1
  refine list_ext_cf (by rw [hd8_length, List.length_take]; omega) fun i hi => ?_
  rw [hd8_length] at hi
  rw [cf_take_lt _ _ _ hi]
  have un : ∀ (n : Nat) (x : UInt8), n = x.toNat → u8 n = x := fun n x e => by rw [e]; exact UInt8.ofNat_toNat
  have hi8 : i = 0 ∨ i = 1 ∨ i = 2 ∨ i = 3 ∨ i = 4 ∨ i = 5 ∨ i = 6 ∨ i = 7 := by omega
  have hpv : bn (sc m).pv = c m 1 / 64 % 2 := by
    show bn (decide (c m 1 / 64 % 2 = 1)) = _
    by_cases q : c m 1 / 64 % 2 = 1
    · rw [decide_eq_true q, q]; rfl
    · rw [decide_eq_false q]; show 0 = _; omega
  have hnw : bn (sc m).nw = c m 5 % 2 := by
    show bn (decide (c m 5 % 2 = 1)) = _
    by_cases q : c m 5 % 2 = 1
    · rw [decide_eq_true q, q]; rfl
    · rw [decide_eq_false q]; show 0 = _; omega
  rcases hi8 with rfl | rfl | rfl | rfl | rfl | rfl | rfl | rfl
  · exact un _ _ (by show ((c m 0 : Int)).toNat = c m 0; omega)
  · refine un _ _ ?_
    show flg (sc m) = c m 1
    unfold flg
    rw [hpv, sz, c1]
    rcases n2 with n2 | n2 <;> omega
  · refine un _ _ ?_
    show ((sc m).body.size + 9) % 256 = c m 2
    rw [sz, c2]; omega
  · exact un _ _ (by show (((c m 3 * 256 + c m 4 : Nat) : Int)).toNat / 256 = c m 3; omega)
  · exact un _ _ (by show (((c m 3 * 256 + c m 4 : Nat) : Int)).toNat % 256 = c m 4; omega)
  · refine un _ _ ?_
    show vby (sc m) = c m 5
    unfold vby
    rw [hnw]
    show 192 + 2 * (((c m 5 / 2 % 32 : Nat) : Int)).toNat + c m 5 % 2 = c m 5
    omega
  · exact un _ _ (by show ((c m 6 : Int)).toNat = c m 6; omega)
  · exact un _ _ (by show ((c m 7 : Int)).toNat = c m 7; omega)
/-- NOTHING OF WHICH ONE BYTE IS TURNED. -/
theorem dec_turn {s : Sec} {l : List UInt8} (hl : l.length = (bytes s).length) (p : Nat) (hp : ∀ i, i < l.length → cf l i ≠ cf (bytes s) i → i = p) (hn : l ≠ bytes s) : (dec l).2 ≠ 0 := by
  intro h
  refine hn (mo_near ones l (bytes s) hl p (fun i hi he => ?_) ?_)
  · have := hp i hi he; omega
  · rw [mo_good h]; exact (mo_sld _).symm
/-- The n-th piece of a text, and how many there are behind the first. -/
def pc (l : List UInt8) (n : Nat) : List UInt8 := (l.drop (n * 4084)).take 4084
def lastN (l : List UInt8) : Nat := (l.length - 1) / 4084
theorem pc_length (l : List UInt8) (n : Nat) : (pc l n).length = min 4084 (l.length - n * 4084) := by unfold pc; rw [List.length_take, List.length_drop]
theorem pc_flat (l : List UInt8) : ∀ n, ((List.range n).map (pc l)).flatten = l.take (n * 4084)
  | 0 => by simp
  | n + 1 => by
    rw [List.range_succ, List.map_append, List.flatten_append, pc_flat l n, Nat.succ_mul, List.take_add]
    simp [pc]
def base (tb ex ver : Int) (l : List UInt8) : Sec := ⟨tb, false, ex, ver, true, 0, (lastN l : Int), ⟨#[]⟩⟩
def mk (tb ex ver : Int) (l : List UInt8) (n : Nat) : Sec := ⟨tb, false, ex, ver, true, (n : Int), (lastN l : Int), st (pc l n)⟩
def secs (tb ex ver : Int) (l : List UInt8) : List Sec := (List.range (lastN l + 1)).map (mk tb ex ver l)
theorem secs_length (tb ex ver : Int) (l : List UInt8) : (secs tb ex ver l).length = lastN l + 1 := by unfold secs; rw [List.length_map, List.length_range]
theorem secs_get (tb ex ver : Int) (l : List UInt8) {n : Nat} (h : n < lastN l + 1) : (secs tb ex ver l).getD n zs = mk tb ex ver l n := by
  unfold secs; rw [List.getD_eq_getElem?_getD, List.getElem?_map, List.getElem?_range h]; rfl
/-- The sections of a text. -/
def spl (tb ex ver : Int) (l : List UInt8) : List Sec × Int := if 255 < lastN l then ([], 17) else if chk (base tb ex ver l) = 0 then (secs tb ex ver l, 0) else ([], chk (base tb ex ver l))
theorem spl_full {tb ex ver : Int} {l : List UInt8} (h : 255 < lastN l) : spl tb ex ver l = ([], 17) := by unfold spl; rw [if_pos h]
theorem spl_ok {tb ex ver : Int} {l : List UInt8} (h : ¬ 255 < lastN l) (k : chk (base tb ex ver l) = 0) : spl tb ex ver l = (secs tb ex ver l, 0) := by unfold spl; rw [if_neg h, if_pos k]
theorem spl_bad {tb ex ver : Int} {l : List UInt8} (h : ¬ 255 < lastN l) (k : chk (base tb ex ver l) ≠ 0) : spl tb ex ver l = ([], chk (base tb ex ver l)) := by unfold spl; rw [if_neg h, if_neg k]
theorem chk_base (tb ex ver : Int) (l : List UInt8) : chk (base tb ex ver l) = 0 ∨ chk (base tb ex ver l) = 15 := by
  by_cases h : fit (base tb ex ver l)
  · exact .inl (chk_ok h (by show ¬ 4084 < (⟨#[]⟩ : ByteArray).size; decide))
  · exact .inr (chk_no h)
theorem chk_mk {tb ex ver : Int} {l : List UInt8} {n : Nat} (h : n ≤ lastN l) : chk (mk tb ex ver l n) = chk (base tb ex ver l) := by
  have hf : fit (mk tb ex ver l n) ↔ fit (base tb ex ver l) := by
    unfold fit mk base
    simp only
    constructor
    · rintro ⟨a, b, c, d, e, f, g, i, j, k⟩; exact ⟨a, b, c, d, e, f, g, i, by omega, by omega⟩
    · rintro ⟨a, b, c, d, e, f, g, i, j, k⟩; exact ⟨a, b, c, d, e, f, g, i, by omega, by omega⟩
  have hz : ¬ 4084 < (mk tb ex ver l n).body.size := by
    show ¬ 4084 < (st (pc l n)).size
    rw [st_size, pc_length]; omega
  by_cases k : fit (base tb ex ver l)
  · rw [chk_ok (hf.2 k) hz, chk_ok k (by show ¬ 4084 < (⟨#[]⟩ : ByteArray).size; decide)]
  · rw [chk_no k, chk_no fun x => k (hf.1 x)]
/-- What of two sections is to be the same. -/
def kin (a b : Sec) : Bool := a.tb == b.tb && a.pv == b.pv && a.ex == b.ex && a.ver == b.ver && a.nw == b.nw && a.la == b.la
theorem kin_iff {a b : Sec} : kin a b = true ↔ a.tb = b.tb ∧ a.pv = b.pv ∧ a.ex = b.ex ∧ a.ver = b.ver ∧ a.nw = b.nw ∧ a.la = b.la := by
  unfold kin; simp [and_assoc]
theorem kin_refl (a : Sec) : kin a a = true := kin_iff.2 ⟨rfl, rfl, rfl, rfl, rfl, rfl⟩
/-- The first error. -/
def fstE : List Sec → Int
  | [] => 0
  | s :: r => if chk s = 0 then fstE r else chk s
theorem fstE_ok : ∀ {L : List Sec}, (∀ i, i < L.length → chk (L.getD i zs) = 0) → fstE L = 0
  | [], _ => rfl
  | s :: r, h => by
    have h0 : chk s = 0 := h 0 (by simp)
    rw [fstE, if_pos h0]; exact fstE_ok fun i hi => h (i + 1) (by simpa using hi)
theorem fstE_at : ∀ {L : List Sec} {k : Nat}, k < L.length → (∀ i, i < k → chk (L.getD i zs) = 0) → chk (L.getD k zs) ≠ 0 → fstE L = chk (L.getD k zs)
  | [], k, h, _, _ => by simp at h
  | s :: r, 0, _, _, h => by rw [fstE, if_neg (show ¬ chk s = 0 from h)]; rfl
  | s :: r, k + 1, hk, hi, h => by
    have h0 : chk s = 0 := hi 0 (by omega)
    rw [fstE, if_pos h0, fstE_at (L := r) (k := k) (by simpa using hk) (fun i h2 => hi (i + 1) (by omega)) h]; rfl
def ordB (L : List Sec) : Bool := (List.range L.length).all fun i => (L.getD i zs).num == (i : Int)
def bodies (L : List Sec) : List UInt8 := L.flatMap fun s => ls s.body
/-- The text that sections are. -/
def jn (L : List Sec) : List UInt8 × Int :=
  if L.length = 0 then ([], 18) else if fstE L = 0 then (if L.all (kin (L.getD 0 zs)) = true then (if (L.length : Int) = (L.getD 0 zs).la + 1 ∧ ordB L = true then (bodies L, 0) else ([], 22)) else ([], 14)) else ([], fstE L)
theorem jn_nil {L : List Sec} (h : L.length = 0) : jn L = ([], 18) := by unfold jn; rw [if_pos h]
theorem jn_chk {L : List Sec} {k : Nat} (hk : k < L.length) (hi : ∀ i, i < k → chk (L.getD i zs) = 0) (h : chk (L.getD k zs) ≠ 0) : jn L = ([], chk (L.getD k zs)) := by
  have e := fstE_at hk hi h
  unfold jn; rw [if_neg (by omega), if_neg (by rw [e]; exact h), e]
theorem jn_kin {L : List Sec} {k : Nat} (hk : k < L.length) (hi : ∀ i, i < L.length → chk (L.getD i zs) = 0) (h : kin (L.getD 0 zs) (L.getD k zs) = false) : jn L = ([], 14) := by
  unfold jn
  rw [if_neg (by omega), if_pos (fstE_ok hi), if_neg]
  intro ha
  have := List.all_eq_true.1 ha (L.getD k zs) (by rw [List.getD_eq_getElem?_getD, List.getElem?_eq_getElem hk]; exact List.getElem_mem hk)
  rw [h] at this; cases this
theorem all_kin {L : List Sec} (h : ∀ i, i < L.length → kin (L.getD 0 zs) (L.getD i zs) = true) : L.all (kin (L.getD 0 zs)) = true := by
  refine List.all_eq_true.2 fun s hs => ?_
  obtain ⟨i, hi, rfl⟩ := List.getElem_of_mem hs
  have := h i hi
  rwa [List.getD_eq_getElem?_getD (i := i), List.getElem?_eq_getElem hi] at this
theorem jn_len {L : List Sec} (h0 : L.length ≠ 0) (hi : ∀ i, i < L.length → chk (L.getD i zs) = 0) (hk : ∀ i, i < L.length → kin (L.getD 0 zs) (L.getD i zs) = true) (h : (L.length : Int) ≠ (L.getD 0 zs).la + 1) : jn L = ([], 22) := by
  unfold jn
  rw [if_neg h0, if_pos (fstE_ok hi), if_pos (all_kin hk), if_neg fun x => h x.1]
theorem jn_ord {L : List Sec} {k : Nat} (h0 : k < L.length) (hi : ∀ i, i < L.length → chk (L.getD i zs) = 0) (hk : ∀ i, i < L.length → kin (L.getD 0 zs) (L.getD i zs) = true) (h : (L.getD k zs).num ≠ (k : Int)) : jn L = ([], 22) := by
  unfold jn
  rw [if_neg (by omega), if_pos (fstE_ok hi), if_pos (all_kin hk), if_neg]
  intro x
  have := List.all_eq_true.1 x.2 k (List.mem_range.2 h0)
  exact h (by simpa using this)
theorem jn_ok {L : List Sec} (h0 : L.length ≠ 0) (hi : ∀ i, i < L.length → chk (L.getD i zs) = 0) (hk : ∀ i, i < L.length → kin (L.getD 0 zs) (L.getD i zs) = true) (hl : (L.length : Int) = (L.getD 0 zs).la + 1) (h : ∀ i, i < L.length → (L.getD i zs).num = (i : Int)) : jn L = (bodies L, 0) := by
  have ho : ordB L = true := by
    unfold ordB
    exact List.all_eq_true.2 fun i hi => by simpa using h i (List.mem_range.1 hi)
  unfold jn
  rw [if_neg h0, if_pos (fstE_ok hi), if_pos (all_kin hk), if_pos ⟨hl, ho⟩]
/-- JOIN OF SPLIT. -/
theorem jn_secs {tb ex ver : Int} {l : List UInt8} (k : chk (base tb ex ver l) = 0) : jn (secs tb ex ver l) = (l, 0) := by
  have hl := secs_length tb ex ver l
  have h0 := secs_get tb ex ver l (n := 0) (by omega)
  rw [jn_ok (by omega) ?_ ?_ ?_ ?_]
  · congr 1
    unfold bodies secs
    rw [List.flatMap_def, List.map_map]
    rw [show ((fun s => ls s.body) ∘ mk tb ex ver l) = pc l from rfl, pc_flat]
    exact List.take_of_length_le (by unfold lastN; omega)
  · intro i hi
    rw [hl] at hi
    rw [secs_get _ _ _ _ hi, chk_mk (by omega), k]
  · intro i hi
    rw [hl] at hi
    rw [secs_get _ _ _ _ hi, h0]
    exact kin_iff.2 ⟨rfl, rfl, rfl, rfl, rfl, rfl⟩
  · rw [hl, h0]; show ((lastN l + 1 : Nat) : Int) = (lastN l : Int) + 1; omega
  · intro i hi
    rw [hl] at hi
    rw [secs_get _ _ _ _ hi]; rfl
end Go.Proofs.Ytebfihghfkcicaa.Sct
