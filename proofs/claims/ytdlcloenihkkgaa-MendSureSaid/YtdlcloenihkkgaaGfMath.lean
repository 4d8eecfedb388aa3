/-
  Bytes as the numbers of a field, in plain numbers: exponentials and logarithms of 2 by two tables, products by them, and that products are what doubling and adding makes. No condition but that the numbers are bytes.
-/
import Derived.KernelRfl
namespace Go.Proofs.Ytdlcloenihkkgaa.Gf

def allB : Nat → (Nat → Bool) → Bool
  | 0, _ => true
  | n + 1, f => f n && allB n f

theorem allB_at {n : Nat} {f : Nat → Bool} (h : allB n f = true) : ∀ {i : Nat}, i < n → f i = true := by
  induction n with
  | zero => intro i hi; omega
  | succ n ih =>
    intro i hi
    simp only [allB, Bool.and_eq_true] at h
    by_cases e : i = n
    · subst e; exact h.1
    · exact ih h.2 (by omega)

def tabE : Nat := 0x8e47add86c361b83cfe9fa7db0582c160b8bcbebfbf3f7f5f47a3d90482412098a45ac562b9bc3eff9f279b259a251a653a7dde070381c0e078dc86432198241ae57a5dc6e3795c46231964babdbe3fff1f67bb3d7e5fc7e3f91c663bfd1e673b7d5e472399249aa55a452299a4da8542a158442219e4fa9da6db85c2e1785cc663397c5ec763b93c7edf87c3e1f81ce67bdd068341a0d884422118643afd9e271b65ba3dfe1fe7fb1d66bbbd3e7fdf0783c1e0f89ca65bc5e2f99c261be5fa1de6fb9d269ba5da05028140a058c46239fc1ee77b5d46a35944a259c4e279dc06030180c06038fc9ea75b45a2d984c261387cde8743a1d8040201008040201
def tabL : Nat := 0xaf5850a8eaf4d674e8ade7e6e9d5ae4fd72c757aeb16f50b51a0a99cb05f59cb5a3eccbbb18660fbaa559d29523ba16cf66f0c7fec4917c476a47bb7d8432d1fa2416d4753393c849e5d2a14abd356f261befcdcb2978790cdcfbc955bd13f372e892023d99244117cb4b8267799a5e318fec531edde4a670d63808cf7c0700757a7f373ace5d44e2b79150a9f9b5eca3dba85fa54283a6b6e7e48c3a3b6421e404638835c13d2f1bddb968fce94d03688229110b32598e2fd30dd66628bbf06a672e44d78099ac9b9f9276a7dc2b51d458212f0da8e9335210f24e12f658a05714c08c8f869c11c81ef8d340ee064044bc7681bee33df03c61a320219010000

/-- 2, i times by itself, for i below 255. -/
def expN (i : Nat) : Nat := (tabE >>> (8 * i)) % 256
/-- Which power of 2 a byte is. -/
def logN (a : Nat) : Nat := (tabL >>> (8 * a)) % 256
def dbl (a : Nat) : Nat := if a < 128 then 2 * a else (2 * a) ^^^ 285
def mulN (a b : Nat) : Nat := if a = 0 then 0 else if b = 0 then 0 else expN ((logN a + logN b) % 255)

theorem chkE : allB 255 (fun i => Nat.ble 1 (expN i) && Nat.beq (logN (expN i)) i && Nat.beq (dbl (expN i)) (expN ((i + 1) % 255))) = true := by kernel_rfl
theorem chkL : allB 256 (fun a => Nat.beq a 0 || (Nat.beq (expN (logN a)) a && Nat.blt (logN a) 255)) = true := by kernel_rfl
def chk1 (a b : Nat) : Bool := Nat.beq (mulN a b) ((mulN (dbl a) (b / 2)) ^^^ (b % 2 * a))
theorem chkM : allB 256 (fun a => allB 256 fun b => chk1 a b) = true := by kernel_rfl
theorem chkD : allB 256 (fun a => Nat.blt (dbl a) 256) = true := by kernel_rfl

theorem expN_lt (i : Nat) : expN i < 256 := Nat.mod_lt _ (by omega)
theorem expN_pos {i : Nat} (h : i < 255) : 1 ≤ expN i := by
  have := allB_at chkE h
  simp only [Bool.and_eq_true, Nat.ble_eq, Nat.beq_eq] at this
  exact this.1.1
theorem log_exp {i : Nat} (h : i < 255) : logN (expN i) = i := by
  have := allB_at chkE h
  simp only [Bool.and_eq_true, Nat.ble_eq, Nat.beq_eq] at this
  exact this.1.2
theorem dbl_exp {i : Nat} (h : i < 255) : dbl (expN i) = expN ((i + 1) % 255) := by
  have := allB_at chkE h
  simp only [Bool.and_eq_true, Nat.ble_eq, Nat.beq_eq] at this
  exact this.2
theorem exp_log {a : Nat} (h : a < 256) (h0 : a ≠ 0) : expN (logN a) = a ∧ logN a < 255 := by
  have := allB_at chkL h
  simp only [Bool.or_eq_true, Bool.and_eq_true, Nat.beq_eq, Nat.blt_eq] at this
  rcases this with h | h
  · exact absurd h h0
  · exact h
theorem mul_step {a b : Nat} (ha : a < 256) (hb : b < 256) : mulN a b = mulN (dbl a) (b / 2) ^^^ (b % 2 * a) := by
  have := allB_at (allB_at chkM ha) hb
  simpa only [chk1, Nat.beq_eq] using this
theorem dbl_lt {a : Nat} (ha : a < 256) : dbl a < 256 := by
  have := allB_at chkD ha
  simpa only [Nat.blt_eq] using this
theorem mulN_lt (a b : Nat) : mulN a b < 256 := by
  unfold mulN; split
  · omega
  · split
    · omega
    · exact expN_lt _
theorem mul_zero (a : Nat) : mulN a 0 = 0 := by unfold mulN; split <;> simp
theorem zero_mul (a : Nat) : mulN 0 a = 0 := by simp [mulN]
theorem mul_comm (a b : Nat) : mulN a b = mulN b a := by
  unfold mulN; rw [Nat.add_comm]; split <;> split <;> simp_all
theorem mul_ne {a b : Nat} (ha : a ≠ 0) (hb : b ≠ 0) : mulN a b = expN ((logN a + logN b) % 255) := by simp [mulN, ha, hb]
theorem mul_ne0 {a b : Nat} (ha : a ≠ 0) (hb : b ≠ 0) : mulN a b ≠ 0 := by
  rw [mul_ne ha hb]; have := expN_pos (i := (logN a + logN b) % 255) (Nat.mod_lt _ (by omega)); omega
theorem log_mul {a b : Nat} (ha : a ≠ 0) (hb : b ≠ 0) : logN (mulN a b) = (logN a + logN b) % 255 := by
  rw [mul_ne ha hb, log_exp (Nat.mod_lt _ (by omega))]
theorem mul_assoc (a b c : Nat) : mulN (mulN a b) c = mulN a (mulN b c) := by
  by_cases ha : a = 0
  · subst ha; simp [zero_mul]
  by_cases hb : b = 0
  · subst hb; simp [zero_mul, mul_zero]
  by_cases hc : c = 0
  · subst hc; simp [mul_zero]
  rw [mul_ne (mul_ne0 ha hb) hc, mul_ne ha (mul_ne0 hb hc), log_mul ha hb, log_mul hb hc]
  congr 1; omega
theorem one_mul {a : Nat} (ha : a < 256) : mulN 1 a = a := by
  by_cases h : a = 0
  · subst h; simp [mul_zero]
  · have h1 : logN 1 = 0 := by kernel_rfl
    have := exp_log ha h
    rw [mul_ne (by omega) h, h1, Nat.zero_add, Nat.mod_eq_of_lt this.2]; exact this.1
theorem mul_one {a : Nat} (ha : a < 256) : mulN a 1 = a := by rw [mul_comm]; exact one_mul ha

/-- The program's way: add where a bit is, double, go on. -/
def mulGo : Nat → Nat → Nat → Nat → Nat
  | 0, _, _, s => s
  | n + 1, a, b, s => mulGo n (dbl a) (b / 2) (s ^^^ (b % 2 * a))
theorem mulGo_eq (n : Nat) (hn : n ≤ 8) : ∀ (a b s : Nat), a < 256 → b < 2 ^ n → mulGo n a b s = s ^^^ mulN a b := by
  induction n with
  | zero => intro a b s _ hb; have : b = 0 := by simpa using hb
            subst this; simp [mulGo, mul_zero]
  | succ n ih =>
    intro a b s ha hb
    have hp : 2 ^ n ≤ 128 := by
      have := Nat.pow_le_pow_right (n := 2) (by omega) (show n ≤ 7 by omega); simpa using this
    have hp2 : 2 ^ (n + 1) = 2 * 2 ^ n := by rw [Nat.pow_succ, Nat.mul_comm]
    rw [mulGo, ih (by omega) _ _ _ (dbl_lt ha) (by omega), mul_step ha (by omega), Nat.xor_assoc, Nat.xor_comm (b % 2 * a)]
theorem xor_parity (b c a : Nat) : ((b ^^^ c) % 2 * a) = (b % 2 * a) ^^^ (c % 2 * a) := by
  have h : (b ^^^ c) % 2 = (b % 2) ^^^ (c % 2) := Nat.xor_mod_two_pow (n := 1)
  rw [h]
  rcases Nat.mod_two_eq_zero_or_one b with e | e <;> rcases Nat.mod_two_eq_zero_or_one c with f | f <;> simp [e, f]
theorem mulGo_add (n : Nat) : ∀ (a b c s t : Nat), mulGo n a (b ^^^ c) (s ^^^ t) = mulGo n a b s ^^^ mulGo n a c t := by
  induction n with
  | zero => intros; rfl
  | succ n ih =>
    intro a b c s t
    have h2 : (b ^^^ c) / 2 = b / 2 ^^^ c / 2 := by
      have := Nat.xor_div_two_pow (a := b) (b := c) (n := 1); simpa using this
    have h3 : (s ^^^ t) ^^^ ((b ^^^ c) % 2 * a) = (s ^^^ (b % 2 * a)) ^^^ (t ^^^ (c % 2 * a)) := by
      rw [xor_parity]; ac_rfl
    rw [mulGo, mulGo, mulGo, h2, h3, ih]
theorem mul_add {a b c : Nat} (ha : a < 256) (hb : b < 256) (hc : c < 256) : mulN a (b ^^^ c) = mulN a b ^^^ mulN a c := by
  have hx : b ^^^ c < 2 ^ 8 := Nat.xor_lt_two_pow hb hc
  have h1 := mulGo_eq 8 (by omega) a (b ^^^ c) 0 ha hx
  have h2 := mulGo_eq 8 (by omega) a b 0 ha hb
  have h3 := mulGo_eq 8 (by omega) a c 0 ha hc
  have h4 := mulGo_add 8 a b c 0 0
  rw [Nat.xor_self, h1, h2, h3] at h4
  simpa using h4
theorem add_mul {a b c : Nat} (ha : a < 256) (hb : b < 256) (hc : c < 256) : mulN (b ^^^ c) a = mulN b a ^^^ mulN c a := by
  rw [mul_comm, mul_add ha hb hc, mul_comm a b, mul_comm a c]
theorem mul_two {a : Nat} (ha : a < 256) : mulN a 2 = dbl a := by
  by_cases h : a = 0
  · subst h; simp [zero_mul, dbl]
  · have h1 : logN 2 = 1 := by kernel_rfl
    have := exp_log ha h
    rw [mul_ne h (by omega), h1, ← dbl_exp this.2, this.1]

/-- The inverse. -/
def invN (a : Nat) : Nat := expN ((255 - logN a) % 255)
theorem mul_inv {a : Nat} (ha : a < 256) (h : a ≠ 0) : mulN a (invN a) = 1 ∧ invN a ≠ 0 := by
  have h1 := exp_log ha h
  have h2 : (255 - logN a) % 255 < 255 := Nat.mod_lt _ (by omega)
  have h3 : invN a ≠ 0 := by have := expN_pos h2; unfold invN; omega
  refine ⟨?_, h3⟩
  rw [mul_ne h h3, invN, log_exp h2]
  have : (logN a + (255 - logN a) % 255) % 255 = 0 := by omega
  rw [this]
  show expN 0 = 1
  kernel_rfl

/-- a, k times by itself. -/
def powN (a : Nat) : Nat → Nat
  | 0 => 1
  | k + 1 => mulN (powN a k) a
theorem powN_eq {a : Nat} (h : a ≠ 0) (k : Nat) : powN a k = expN (logN a * k % 255) := by
  induction k with
  | zero => rw [Nat.mul_zero]; show 1 = expN 0; kernel_rfl
  | succ k ih =>
    have h2 : logN a * k % 255 < 255 := Nat.mod_lt _ (by omega)
    have h3 : powN a k ≠ 0 := by have := expN_pos h2; rw [ih]; omega
    rw [powN, mul_ne h3 h, ih, log_exp h2]
    congr 1
    rw [Nat.mul_succ]; omega

/-- The document's product: first that of the polynomials, then what is left of it. -/
def cl (a b : Nat) : Nat → Nat
  | 0 => 0
  | i + 1 => if b.testBit i then cl a b i ^^^ (a * 2 ^ i) else cl a b i
def rd (n : Nat) : Nat → Nat
  | 0 => n
  | i + 1 => if (rd n i).testBit (15 - i) then rd n i ^^^ (285 * 2 ^ (7 - i)) else rd n i
theorem cl_add (a b c : Nat) (i : Nat) : cl a (b ^^^ c) i = cl a b i ^^^ cl a c i := by
  induction i with
  | zero => simp [cl]
  | succ i ih =>
    simp only [cl, Nat.testBit_xor, ih]
    cases b.testBit i <;> cases c.testBit i <;> simp
    · ac_rfl
    · ac_rfl
    · rw [show cl a b i ^^^ a * 2 ^ i ^^^ (cl a c i ^^^ a * 2 ^ i) = cl a b i ^^^ cl a c i ^^^ (a * 2 ^ i ^^^ a * 2 ^ i) by ac_rfl, Nat.xor_self, Nat.xor_zero]
theorem rd_add (m n : Nat) (i : Nat) : rd (m ^^^ n) i = rd m i ^^^ rd n i := by
  induction i with
  | zero => rfl
  | succ i ih =>
    simp only [rd, ih, Nat.testBit_xor]
    cases (rd m i).testBit (15 - i) <;> cases (rd n i).testBit (15 - i) <;> simp
    · ac_rfl
    · ac_rfl
    · rw [show rd m i ^^^ 285 * 2 ^ (7 - i) ^^^ (rd n i ^^^ 285 * 2 ^ (7 - i)) = rd m i ^^^ rd n i ^^^ (285 * 2 ^ (7 - i) ^^^ 285 * 2 ^ (7 - i)) by ac_rfl, Nat.xor_self, Nat.xor_zero]
def refM (a b : Nat) : Nat := rd (cl a b 8) 8
theorem refM_add (a b c : Nat) : refM a (b ^^^ c) = refM a b ^^^ refM a c := by unfold refM; rw [cl_add, rd_add]
theorem chkR : allB 256 (fun a => Nat.beq (refM a 0) 0 && allB 8 fun i => Nat.beq (refM a (2 ^ i)) (mulN a (2 ^ i))) = true := by kernel_rfl
theorem chkX : allB 8 (fun n => allB (2 ^ n) fun x => Nat.beq (2 ^ n + x) (2 ^ n ^^^ x)) = true := by kernel_rfl
theorem refM_pow {a : Nat} (ha : a < 256) (n : Nat) (hn : n ≤ 8) : ∀ b, b < 2 ^ n → refM a b = mulN a b := by
  have hc := allB_at chkR ha
  simp only [Bool.and_eq_true, Nat.beq_eq] at hc
  induction n with
  | zero => intro b hb
            have : b = 0 := by simpa using hb
            subst this; rw [hc.1, mul_zero]
  | succ n ih =>
    intro b hb
    have hp : 2 ^ n ≤ 128 := by
      have := Nat.pow_le_pow_right (n := 2) (by omega) (show n ≤ 7 by omega); simpa using this
    have hp2 : 2 ^ (n + 1) = 2 * 2 ^ n := by rw [Nat.pow_succ, Nat.mul_comm]
    by_cases hlt : b < 2 ^ n
    · exact ih (by omega) b hlt
    · have hx := allB_at (allB_at chkX (show n < 8 by omega)) (show b - 2 ^ n < 2 ^ n by omega)
      rw [Nat.beq_eq] at hx
      have hb' : b = 2 ^ n ^^^ (b - 2 ^ n) := by rw [← hx]; omega
      have h1 := allB_at hc.2 (show n < 8 by omega)
      rw [Nat.beq_eq] at h1
      rw [hb', refM_add, mul_add ha (by omega) (by omega), h1, ih (by omega) _ (by omega)]
theorem refM_eq {a b : Nat} (ha : a < 256) (hb : b < 256) : refM a b = mulN a b := refM_pow ha 8 (by omega) b hb

/-- The document's inverse: a to the 254. -/
def rinv (a : Nat) : Nat → Nat × Nat
  | 0 => (a, 1)
  | i + 1 => (mulN (rinv a i).1 (rinv a i).1, mulN (rinv a i).2 (mulN (rinv a i).1 (rinv a i).1))
theorem rinv_form {a : Nat} (h : a ≠ 0) (ha : a < 256) (i : Nat) : (rinv a i).1 = expN (logN a * 2 ^ i % 255) ∧ (rinv a i).2 = expN (logN a * (2 ^ (i + 1) - 2) % 255) := by
  have nz : ∀ k, expN (k % 255) ≠ 0 := fun k => by have := expN_pos (i := k % 255) (Nat.mod_lt _ (by omega)); omega
  have lg : ∀ k, logN (expN (k % 255)) = k % 255 := fun k => log_exp (Nat.mod_lt _ (by omega))
  induction i with
  | zero =>
    have := exp_log ha h
    refine ⟨?_, ?_⟩
    · simp [rinv, Nat.mod_eq_of_lt this.2, this.1]
    · simp [rinv]; kernel_rfl
  | succ i ih =>
    have e1 : (rinv a (i + 1)).1 = expN (logN a * 2 ^ (i + 1) % 255) := by
      simp only [rinv]
      rw [ih.1, mul_ne (nz _) (nz _), lg]
      congr 1
      rw [show 2 ^ (i + 1) = 2 ^ i + 2 ^ i by rw [Nat.pow_succ]; omega, Nat.mul_add]; omega
    refine ⟨e1, ?_⟩
    have e2 : (rinv a (i + 1)).2 = mulN (rinv a i).2 (rinv a (i + 1)).1 := rfl
    rw [e2, e1, ih.2, mul_ne (nz _) (nz _), lg, lg]
    congr 1
    have p1 : 2 ^ (i + 1 + 1) - 2 = (2 ^ (i + 1) - 2) + 2 ^ (i + 1) := by
      have : 2 ≤ 2 ^ (i + 1) := by rw [Nat.pow_succ]; have := Nat.one_le_two_pow (n := i); omega
      rw [Nat.pow_succ 2 (i + 1)]; omega
    rw [p1, Nat.mul_add]; omega
theorem rinv_eq {a : Nat} (ha : a < 256) (h : a ≠ 0) : (rinv a 7).2 = invN a := by
  rw [(rinv_form h ha 7).2, invN]
  have := exp_log ha h
  congr 1
  show logN a * 254 % 255 = _
  omega

end Go.Proofs.Ytdlcloenihkkgaa.Gf
