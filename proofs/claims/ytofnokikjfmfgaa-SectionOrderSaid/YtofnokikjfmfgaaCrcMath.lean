/-
  Check sums of 32 bits, in plain mathematics: the register bit by bit and byte by byte, that it is linear, that zeros lose nothing, that a sum behind its own bytes is 0, and that up to four bytes in a row are told. No program, no condition.
-/
import Derived.KernelRfl
namespace Go.Proofs.Ytofnokikjfmfgaa.Crc
abbrev Reg := BitVec 32
def gen : Reg := 0x04c11db7#32
/-- One bit. -/
def bs (r : Reg) (b : Bool) : Reg := (r <<< 1) ^^^ (if (r.msb ^^ b) then gen else 0#32)
theorem bs_lin (r s : Reg) (b c : Bool) : bs (r ^^^ s) (b ^^ c) = bs r b ^^^ bs s c := by
  unfold bs
  rw [BitVec.shiftLeft_xor_distrib, BitVec.msb_xor]
  have e : ∀ x y p q : Reg, (x ^^^ y) ^^^ (p ^^^ q) = (x ^^^ p) ^^^ (y ^^^ q) := fun x y p q => by ac_rfl
  have z : gen ^^^ gen = 0#32 := by decide
  rw [← e]
  congr 1
  cases r.msb <;> cases s.msb <;> cases b <;> cases c <;> rfl
theorem bs_zero : bs 0#32 false = 0#32 := by decide
theorem bs_inj {r : Reg} (h : bs r false = 0#32) : r = 0#32 := by
  unfold bs at h
  rw [Bool.xor_false] at h
  by_cases hm : r.msb = true
  · rw [if_pos hm] at h
    have h1 := congrArg (fun x : Reg => x.getLsbD 0) h
    simp [gen] at h1
  · rw [if_neg hm, BitVec.xor_zero] at h
    have hm2 : r.msb = false := by simpa using hm
    have h1 := congrArg BitVec.toNat h
    rw [BitVec.toNat_shiftLeft] at h1
    have h2 : r.toNat < 2147483648 := by
      rw [BitVec.msb_eq_decide] at hm2
      simpa using hm2
    simp only [BitVec.toNat_ofNat, Nat.shiftLeft_eq] at h1
    apply BitVec.eq_of_toNat_eq
    simp only [BitVec.toNat_ofNat]
    omega
/-- The bits of a byte, the highest one first. -/
def bits8 (x : UInt8) : List Bool := [x.toNat.testBit 7, x.toNat.testBit 6, x.toNat.testBit 5, x.toNat.testBit 4, x.toNat.testBit 3, x.toNat.testBit 2, x.toNat.testBit 1, x.toNat.testBit 0]
def by8 (r : Reg) (x : UInt8) : Reg := (bits8 x).foldl bs r
theorem bits8_xor (x y : UInt8) : bits8 (x ^^^ y) = List.zipWith (· ^^ ·) (bits8 x) (bits8 y) := by
  unfold bits8
  rw [UInt8.toNat_xor]
  simp only [Nat.testBit_xor, List.zipWith_cons_cons, List.zipWith_nil_left]
theorem fold_lin : ∀ (b c : List Bool) (r s : Reg), b.length = c.length → (List.zipWith (· ^^ ·) b c).foldl bs (r ^^^ s) = b.foldl bs r ^^^ c.foldl bs s
  | [], [], _, _, _ => rfl
  | b :: l, c :: m, r, s, h => by
    rw [List.zipWith_cons_cons, List.foldl_cons, List.foldl_cons, List.foldl_cons, bs_lin]
    exact fold_lin l m _ _ (by simpa using h)
  | [], _ :: _, _, _, h => by simp at h
  | _ :: _, [], _, _, h => by simp at h
theorem by8_lin (r s : Reg) (x y : UInt8) : by8 (r ^^^ s) (x ^^^ y) = by8 r x ^^^ by8 s y := by
  unfold by8; rw [bits8_xor]; exact fold_lin _ _ r s rfl
theorem by8_zero : by8 0#32 0 = 0#32 := by decide
theorem by8_inj {r : Reg} (h : by8 r 0 = 0#32) : r = 0#32 := bs_inj (bs_inj (bs_inj (bs_inj (bs_inj (bs_inj (bs_inj (bs_inj h)))))))
/-- The register behind bytes. -/
def mo (r : Reg) (l : List UInt8) : Reg := l.foldl by8 r
theorem mo_nil (r : Reg) : mo r [] = r := rfl
theorem mo_cons (r : Reg) (x : UInt8) (l : List UInt8) : mo r (x :: l) = mo (by8 r x) l := rfl
theorem mo_append (r : Reg) (a b : List UInt8) : mo r (a ++ b) = mo (mo r a) b := List.foldl_append ..
def bx (a b : List UInt8) : List UInt8 := List.zipWith (fun x y => x ^^^ y) a b
theorem mo_lin : ∀ (a b : List UInt8) (r s : Reg), a.length = b.length → mo (r ^^^ s) (bx a b) = mo r a ^^^ mo s b
  | [], [], _, _, _ => rfl
  | x :: a, y :: b, r, s, h => by
    show mo (by8 (r ^^^ s) (x ^^^ y)) (bx a b) = _
    rw [by8_lin]
    exact mo_lin a b _ _ (by simpa using h)
  | [], _ :: _, _, _, h => by simp at h
  | _ :: _, [], _, _, h => by simp at h
theorem mo_zeros (n : Nat) : mo 0#32 (List.replicate n 0) = 0#32 := by
  induction n with
  | zero => rfl
  | succ n ih => rw [List.replicate_succ, mo_cons, by8_zero, ih]
theorem mo_inj (n : Nat) : ∀ {r : Reg}, mo r (List.replicate n 0) = 0#32 → r = 0#32 := by
  induction n with
  | zero => intro r h; exact h
  | succ n ih => intro r h; rw [List.replicate_succ, mo_cons] at h; exact by8_inj (ih h)
/-- A register without its highest byte is moved up. -/
theorem bs_low {r : Reg} (h : r.toNat < 2147483648) : (bs r false).toNat = 2 * r.toNat := by
  have hm : r.msb = false := by rw [BitVec.msb_eq_decide]; simpa using h
  unfold bs
  rw [hm]
  show (r <<< 1 ^^^ 0#32).toNat = _
  rw [BitVec.xor_zero, BitVec.toNat_shiftLeft, Nat.shiftLeft_eq]
  omega
theorem by8_low {r : Reg} (h : r.toNat < 16777216) : by8 r 0 = r <<< 8 := by
  apply BitVec.eq_of_toNat_eq
  have h1 := bs_low (r := r) (by omega)
  have h2 := bs_low (r := bs r false) (by omega)
  have h3 := bs_low (r := bs (bs r false) false) (by omega)
  have h4 := bs_low (r := bs (bs (bs r false) false) false) (by omega)
  have h5 := bs_low (r := bs (bs (bs (bs r false) false) false) false) (by omega)
  have h6 := bs_low (r := bs (bs (bs (bs (bs r false) false) false) false) false) (by omega)
  have h7 := bs_low (r := bs (bs (bs (bs (bs (bs r false) false) false) false) false) false) (by omega)
  have h8 := bs_low (r := bs (bs (bs (bs (bs (bs (bs r false) false) false) false) false) false) false) (by omega)
  have e : by8 r 0 = bs (bs (bs (bs (bs (bs (bs (bs r false) false) false) false) false) false) false) false := rfl
  rw [e, h8, BitVec.toNat_shiftLeft, Nat.shiftLeft_eq]
  omega
/-- A byte at the register's top. -/
def tp (x : UInt8) : Reg := BitVec.ofNat 32 (x.toNat * 16777216)
theorem tp_toNat (x : UInt8) : (tp x).toNat = x.toNat * 16777216 := by
  have := x.toNat_lt
  unfold tp
  rw [BitVec.toNat_ofNat, Nat.mod_eq_of_lt (by omega)]
def allB : Nat → (Nat → Bool) → Bool
  | 0, _ => true
  | n + 1, f => f n && allB n f
theorem allB_at {n : Nat} {f : Nat → Bool} (h : allB n f = true) : ∀ {i : Nat}, i < n → f i = true := by
  induction n with
  | zero => intro i hi; omega
  | succ n ih =>
    intro i hi
    simp only [allB, Bool.and_eq_true] at h
    by_cases e : i = n
    · subst e; exact h.1
    · exact ih h.2 (by omega)
theorem tp_chk : allB 256 (fun n => Nat.beq (by8 (tp (UInt8.ofNat n)) (UInt8.ofNat n)).toNat 0) = true := by kernel_rfl
theorem tp_self (x : UInt8) : by8 (tp x) x = 0#32 := by
  have h := allB_at tp_chk x.toNat_lt
  rw [Nat.beq_eq, UInt8.ofNat_toNat] at h
  exact BitVec.eq_of_toNat_eq h
/-- The table's step: a byte is xor-ed to the register's top. -/
theorem by8_top (r : Reg) (x : UInt8) : by8 r x = by8 (r ^^^ tp x) 0 := by
  have h := by8_lin (r ^^^ tp x) (tp x) 0 x
  rw [tp_self, BitVec.xor_zero, BitVec.xor_assoc, BitVec.xor_self, BitVec.xor_zero, UInt8.zero_xor] at h
  exact h
theorem top_split (r : Reg) : r = BitVec.ofNat 32 (r.toNat / 16777216 * 16777216) ^^^ BitVec.ofNat 32 (r.toNat % 16777216) := by
  have hr := r.isLt
  apply BitVec.eq_of_toNat_eq
  rw [BitVec.toNat_xor, BitVec.toNat_ofNat, BitVec.toNat_ofNat, Nat.mod_eq_of_lt (by omega), Nat.mod_eq_of_lt (by omega)]
  apply Nat.eq_of_testBit_eq
  intro i
  have e1 : (r.toNat / 16777216 * 16777216).testBit i = (decide (24 ≤ i) && r.toNat.testBit i) := by
    have : r.toNat / 16777216 * 16777216 = (r.toNat >>> 24) <<< 24 := by rw [Nat.shiftRight_eq_div_pow, Nat.shiftLeft_eq]
    rw [this, Nat.testBit_shiftLeft, Nat.testBit_shiftRight]
    by_cases h : 24 ≤ i
    · rw [Nat.add_sub_cancel' h]
    · simp [h]
  have e2 : (r.toNat % 16777216).testBit i = (decide (i < 24) && r.toNat.testBit i) := by
    have : r.toNat % 16777216 = r.toNat % 2 ^ 24 := rfl
    rw [this, Nat.testBit_mod_two_pow]
  rw [Nat.testBit_xor, e1, e2]
  by_cases h : 24 ≤ i
  · have h2 : ¬ i < 24 := by omega
    simp [h, h2]
  · have h2 : i < 24 := by omega
    simp [h, h2]
theorem by8_tab (r : Reg) (x y : UInt8) (hy : y.toNat = r.toNat / 16777216) : by8 r x = (r <<< 8) ^^^ by8 (tp (y ^^^ x)) 0 := by
  have hr := r.isLt
  obtain ⟨lo, hlo⟩ : ∃ lo : Reg, lo = BitVec.ofNat 32 (r.toNat % 16777216) := ⟨_, rfl⟩
  have hlt : lo.toNat = r.toNat % 16777216 := by rw [hlo, BitVec.toNat_ofNat, Nat.mod_eq_of_lt (by omega)]
  have hsplit : r = tp y ^^^ lo := by
    have := top_split r
    rw [← hy, ← hlo] at this
    exact this
  have hsh : r <<< 8 = lo <<< 8 := by
    apply BitVec.eq_of_toNat_eq
    rw [BitVec.toNat_shiftLeft, BitVec.toNat_shiftLeft, Nat.shiftLeft_eq, Nat.shiftLeft_eq, hlt]
    omega
  have htp : tp (y ^^^ x) = tp y ^^^ tp x := by
    have h := by8_lin
    apply BitVec.eq_of_toNat_eq
    rw [BitVec.toNat_xor, tp_toNat, tp_toNat, tp_toNat, UInt8.toNat_xor]
    have : ∀ a : Nat, a * 16777216 = a <<< 24 := fun a => by rw [Nat.shiftLeft_eq]
    rw [this, this, this, Nat.shiftLeft_xor_distrib]
  rw [by8_top, hsh]
  have h2 : r ^^^ tp x = lo ^^^ tp (y ^^^ x) := by
    rw [htp, hsplit]
    have e : ∀ a b c : Reg, (a ^^^ b) ^^^ c = b ^^^ (a ^^^ c) := fun a b c => by ac_rfl
    exact e _ _ _
  rw [h2]
  have h3 := by8_lin lo (tp (y ^^^ x)) 0 0
  rw [show (0 : UInt8) ^^^ 0 = 0 from rfl] at h3
  rw [h3, by8_low (by omega)]
/-- The four bytes of a register, the highest one first. -/
def four (r : Reg) : List UInt8 := [UInt8.ofNat (r.toNat / 16777216), UInt8.ofNat (r.toNat / 65536 % 256), UInt8.ofNat (r.toNat / 256 % 256), UInt8.ofNat (r.toNat % 256)]
theorem four_length (r : Reg) : (four r).length = 4 := rfl
theorem by8_own (r : Reg) (y : UInt8) (hy : y.toNat = r.toNat / 16777216) : by8 r y = r <<< 8 := by
  rw [by8_tab r y y hy, UInt8.xor_self]
  have : by8 (tp 0) 0 = 0#32 := by decide
  rw [this, BitVec.xor_zero]
theorem mo_four (r : Reg) : mo r (four r) = 0#32 := by
  have hr := r.isLt
  have sh : ∀ s : Reg, (s <<< 8).toNat = s.toNat * 256 % 4294967296 := fun s => by rw [BitVec.toNat_shiftLeft, Nat.shiftLeft_eq]
  unfold four
  rw [mo_cons, mo_cons, mo_cons, mo_cons, mo_nil]
  rw [by8_own r _ (by rw [UInt8.toNat_ofNat']; omega)]
  rw [by8_own (r <<< 8) _ (by rw [UInt8.toNat_ofNat', sh]; omega)]
  rw [by8_own (r <<< 8 <<< 8) _ (by rw [UInt8.toNat_ofNat', sh, sh]; omega)]
  rw [by8_own (r <<< 8 <<< 8 <<< 8) _ (by rw [UInt8.toNat_ofNat', sh, sh, sh]; omega)]
  apply BitVec.eq_of_toNat_eq
  rw [sh, sh, sh, sh]
  show _ = 0
  omega
theorem bx_length (a b : List UInt8) : (bx a b).length = min a.length b.length := by unfold bx; rw [List.length_zipWith]
theorem bx_self : ∀ a : List UInt8, bx a a = List.replicate a.length 0
  | [] => rfl
  | x :: a => by
    show (x ^^^ x) :: bx a a = _
    rw [UInt8.xor_self, bx_self a]; rfl
theorem four_inj {r s : Reg} (h : four r = four s) : r = s := by
  have hr := r.isLt
  have hs := s.isLt
  unfold four at h
  simp only [List.cons.injEq, and_true] at h
  obtain ⟨h1, h2, h3, h4⟩ := h
  have g1 := congrArg UInt8.toNat h1
  have g2 := congrArg UInt8.toNat h2
  have g3 := congrArg UInt8.toNat h3
  have g4 := congrArg UInt8.toNat h4
  rw [UInt8.toNat_ofNat', UInt8.toNat_ofNat'] at g1 g2 g3 g4
  apply BitVec.eq_of_toNat_eq
  omega
/-- The register of four bytes. -/
theorem four_sur (l : List UInt8) (hl : l.length = 4) : ∃ r : Reg, four r = l := by
  match l, hl with
  | [a, b, c, d], _ =>
    have ha := a.toNat_lt
    have hb := b.toNat_lt
    have hc := c.toNat_lt
    have hd := d.toNat_lt
    refine ⟨BitVec.ofNat 32 (a.toNat * 16777216 + b.toNat * 65536 + c.toNat * 256 + d.toNat), ?_⟩
    unfold four
    rw [BitVec.toNat_ofNat, Nat.mod_eq_of_lt (by omega)]
    have e : ∀ (x : UInt8) (n : Nat), n = x.toNat → UInt8.ofNat n = x := fun x n h => by rw [h, UInt8.ofNat_toNat]
    rw [e a _ (by omega), e b _ (by omega), e c _ (by omega), e d _ (by omega)]
/-- WHAT MAKES IT 0: four bytes behind a register leave 0 just if they are its own. -/
theorem mo_four_iff (r : Reg) (l : List UInt8) (hl : l.length = 4) : mo r l = 0#32 ↔ l = four r := by
  constructor
  · intro h
    obtain ⟨s, hs⟩ := four_sur l hl
    have h2 := mo_lin l l r s rfl
    have h3 : mo s l = 0#32 := by rw [← hs]; exact mo_four s
    rw [h, h3, bx_self, hl, BitVec.xor_self] at h2
    have h4 := mo_inj 4 h2
    have : r = s := by
      have := congrArg (· ^^^ s) h4
      simpa [BitVec.xor_assoc] using this
    rw [this, hs]
  · intro h; rw [h]; exact mo_four r
theorem four_zero : four 0#32 = List.replicate 4 0 := rfl
/-- Up to four bytes that are not all 0 leave a mark. -/
theorem mo_burst (w : List UInt8) (hw : w.length ≤ 4) (h : mo 0#32 w = 0#32) : w = List.replicate w.length 0 := by
  have h1 : mo 0#32 (List.replicate (4 - w.length) 0 ++ w) = 0#32 := by rw [mo_append, mo_zeros, h]
  rw [mo_four_iff _ _ (by rw [List.length_append, List.length_replicate]; omega), four_zero] at h1
  apply List.eq_replicate_of_mem
  intro b hb
  have : b ∈ List.replicate 4 (0 : UInt8) := by rw [← h1]; exact List.mem_append_right _ hb
  exact List.eq_of_mem_replicate this
theorem mo_told (n m : Nat) (w : List UInt8) (hw : w.length ≤ 4) (h : mo 0#32 (List.replicate n 0 ++ w ++ List.replicate m 0) = 0#32) : w = List.replicate w.length 0 := by
  rw [mo_append, mo_append, mo_zeros] at h
  exact mo_burst w hw (mo_inj m h)
theorem bx_append {a b : List UInt8} (c d : List UInt8) (h : a.length = b.length) : bx (a ++ c) (b ++ d) = bx a b ++ bx c d := by
  unfold bx; exact List.zipWith_append h
/-- Two texts that are unlike in up to four bytes in a row alone, and have the same register, are the same. -/
theorem mo_same (r : Reg) (a w v b : List UInt8) (hw : w.length = v.length) (h4 : w.length ≤ 4) (h : mo r (a ++ w ++ b) = mo r (a ++ v ++ b)) : w = v := by
  have h1 := mo_lin (a ++ w ++ b) (a ++ v ++ b) r r (by simp only [List.length_append, hw])
  rw [h, BitVec.xor_self, BitVec.xor_self, bx_append _ _ (by simp only [List.length_append, hw]), bx_append _ _ rfl, bx_self, bx_self] at h1
  have hl : (bx w v).length = w.length := by rw [bx_length, hw, Nat.min_self]
  have h2 := mo_told _ _ _ (by rw [hl]; exact h4) h1
  rw [hl] at h2
  apply List.ext_getElem hw
  intro i hi hj
  have h3 : (bx w v)[i]'(by rw [hl]; exact hi) = 0 := by
    have := List.getElem_of_eq h2 (i := i) (by rw [hl]; exact hi)
    rw [this, List.getElem_replicate]
  unfold bx at h3
  rw [List.getElem_zipWith] at h3
  exact UInt8.xor_eq_zero_iff.mp h3
end Go.Proofs.Ytofnokikjfmfgaa.Crc
