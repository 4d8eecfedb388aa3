/-
  Polynomials over the field of bytes, in plain mathematics: sums, products, values, slopes, degrees, division, and what follows of them. No program, no condition.
-/
import Derived.Test.YtdlcloenihkkgaaGfMath
namespace Go.Proofs.Ytdlcloenihkkgaa.Gf

/-- The product of two bytes. -/
def fm (a b : UInt8) : UInt8 := UInt8.ofNat (mulN a.toNat b.toNat)
theorem fm_toNat (a b : UInt8) : (fm a b).toNat = mulN a.toNat b.toNat := by
  unfold fm; rw [UInt8.toNat_ofNat_of_lt' (mulN_lt _ _)]
theorem u8_ext {a b : UInt8} (h : a.toNat = b.toNat) : a = b := UInt8.toNat_inj.1 h
theorem xor_toNat (a b : UInt8) : (a ^^^ b).toNat = a.toNat ^^^ b.toNat := UInt8.toNat_xor a b
theorem fm_comm (a b : UInt8) : fm a b = fm b a := u8_ext (by rw [fm_toNat, fm_toNat, mul_comm])
theorem fm_assoc (a b c : UInt8) : fm (fm a b) c = fm a (fm b c) := u8_ext (by rw [fm_toNat, fm_toNat, fm_toNat, fm_toNat, mul_assoc])
theorem fm_zero (a : UInt8) : fm a 0 = 0 := u8_ext (by rw [fm_toNat]; exact mul_zero _)
theorem zero_fm (a : UInt8) : fm 0 a = 0 := u8_ext (by rw [fm_toNat]; exact zero_mul _)
theorem one_fm (a : UInt8) : fm 1 a = a := u8_ext (by rw [fm_toNat]; exact one_mul a.toNat_lt)
theorem fm_one (a : UInt8) : fm a 1 = a := by rw [fm_comm, one_fm]
theorem fm_add (a b c : UInt8) : fm a (b ^^^ c) = fm a b ^^^ fm a c := u8_ext (by rw [fm_toNat, xor_toNat, xor_toNat, fm_toNat, fm_toNat, mul_add a.toNat_lt b.toNat_lt c.toNat_lt])
theorem add_fm (a b c : UInt8) : fm (b ^^^ c) a = fm b a ^^^ fm c a := by rw [fm_comm, fm_add, fm_comm a b, fm_comm a c]
theorem toNat_ne {a : UInt8} (h : a ≠ 0) : a.toNat ≠ 0 := fun e => h (u8_ext e)
theorem fm_ne {a b : UInt8} (ha : a ≠ 0) (hb : b ≠ 0) : fm a b ≠ 0 := fun e => by
  have := congrArg UInt8.toNat e
  rw [fm_toNat] at this
  exact mul_ne0 (toNat_ne ha) (toNat_ne hb) this
theorem fm_eq_zero {a b : UInt8} (h : fm a b = 0) : a = 0 ∨ b = 0 := by
  by_cases ha : a = 0
  · exact Or.inl ha
  · by_cases hb : b = 0
    · exact Or.inr hb
    · exact absurd h (fm_ne ha hb)
def fi (a : UInt8) : UInt8 := UInt8.ofNat (invN a.toNat)
theorem fi_toNat (a : UInt8) : (fi a).toNat = invN a.toNat := by
  unfold fi; rw [UInt8.toNat_ofNat_of_lt' (show invN a.toNat < 256 from expN_lt _)]
theorem fm_fi {a : UInt8} (h : a ≠ 0) : fm a (fi a) = 1 := u8_ext (by rw [fm_toNat, fi_toNat, (mul_inv a.toNat_lt (toNat_ne h)).1]; rfl)
theorem xor_z (a : UInt8) : a ^^^ 0 = a := UInt8.xor_zero
theorem z_xor (a : UInt8) : 0 ^^^ a = a := UInt8.zero_xor
theorem xor_s (a : UInt8) : a ^^^ a = 0 := UInt8.xor_self
theorem xor_c (a b : UInt8) : a ^^^ b = b ^^^ a := UInt8.xor_comm a b
theorem xor_a (a b c : UInt8) : a ^^^ b ^^^ c = a ^^^ (b ^^^ c) := UInt8.xor_assoc a b c
theorem xor_lc (a b c : UInt8) : a ^^^ (b ^^^ c) = b ^^^ (a ^^^ c) := by rw [← xor_a, xor_c a b, xor_a]
theorem xor_back (a b : UInt8) : a ^^^ (a ^^^ b) = b := by rw [← xor_a, xor_s, z_xor]
theorem xor_eq_zero {a b : UInt8} (h : a ^^^ b = 0) : a = b := by
  have := congrArg (fun x => a ^^^ x) h
  simp only [xor_back, xor_z] at this; exact this.symm

/-- The sum of the first n. -/
def sm : Nat → (Nat → UInt8) → UInt8
  | 0, _ => 0
  | n + 1, f => sm n f ^^^ f n
theorem sm_congr {n : Nat} {f g : Nat → UInt8} (h : ∀ i, i < n → f i = g i) : sm n f = sm n g := by
  induction n with
  | zero => rfl
  | succ n ih => rw [sm, sm, ih (fun i hi => h i (by omega)), h n (by omega)]
theorem sm_zero {n : Nat} {f : Nat → UInt8} (h : ∀ i, i < n → f i = 0) : sm n f = 0 := by
  induction n with
  | zero => rfl
  | succ n ih => rw [sm, ih (fun i hi => h i (by omega)), h n (by omega), xor_s]
theorem sm_add (n : Nat) (f g : Nat → UInt8) : sm n (fun i => f i ^^^ g i) = sm n f ^^^ sm n g := by
  induction n with
  | zero => exact (xor_s 0).symm
  | succ n ih => simp only [sm, ih, xor_a, xor_lc (f n)]
theorem sm_fm (c : UInt8) (n : Nat) (f : Nat → UInt8) : fm c (sm n f) = sm n (fun i => fm c (f i)) := by
  induction n with
  | zero => exact fm_zero c
  | succ n ih => simp only [sm, fm_add, ih]
theorem sm_front (n : Nat) (f : Nat → UInt8) : sm (n + 1) f = f 0 ^^^ sm n (fun i => f (i + 1)) := by
  induction n with
  | zero => simp only [sm, z_xor, xor_z]
  | succ n ih => rw [sm, ih]; simp only [sm, xor_a]
theorem sm_rev (n : Nat) (f : Nat → UInt8) : sm (n + 1) f = sm (n + 1) (fun i => f (n - i)) := by
  induction n generalizing f with
  | zero => rfl
  | succ n ih =>
    rw [sm_front (n + 1) f, ih (fun i => f (i + 1)), xor_c]
    show sm (n + 1) (fun i => f (n - i + 1)) ^^^ f 0 = sm (n + 1) (fun i => f (n + 1 - i)) ^^^ f (n + 1 - (n + 1))
    rw [Nat.sub_self]
    congr 1
    exact sm_congr fun i hi => by rw [show n - i + 1 = n + 1 - i by omega]
theorem sm_more {n m : Nat} {f : Nat → UInt8} (hn : n ≤ m) (h : ∀ i, n ≤ i → i < m → f i = 0) : sm m f = sm n f := by
  induction m with
  | zero => have : n = 0 := by omega
            subst this; rfl
  | succ m ih =>
    by_cases e : n = m + 1
    · subst e; rfl
    · rw [sm, ih (by omega) (fun i a b => h i a (by omega)), h m (by omega) (by omega), xor_z]
theorem sm_one {n k : Nat} {f : Nat → UInt8} (hk : k < n) (h : ∀ i, i < n → i ≠ k → f i = 0) : sm n f = f k := by
  induction n with
  | zero => omega
  | succ n ih =>
    rw [sm]
    by_cases e : k = n
    · subst e; rw [sm_zero (fun i hi => h i (by omega) (by omega)), z_xor]
    · rw [ih (by omega) (fun i a b => h i (by omega) b), h n (by omega) (by omega), xor_z]
theorem sm_swap (n m : Nat) (f : Nat → Nat → UInt8) : sm n (fun i => sm m (fun j => f i j)) = sm m (fun j => sm n (fun i => f i j)) := by
  induction n with
  | zero => exact (sm_zero (fun _ _ => rfl)).symm
  | succ n ih => simp only [sm]; rw [sm_add, ih]
theorem sm_tri (n : Nat) (h : Nat → Nat → UInt8) : sm (n + 1) (fun i => sm (i + 1) (fun j => h i j)) = sm (n + 1) (fun j => sm (n - j + 1) (fun k => h (j + k) j)) := by
  induction n with
  | zero => rfl
  | succ n ih =>
    rw [sm, ih]
    have e : sm (n + 1) (fun j => sm (n + 1 - j + 1) (fun k => h (j + k) j)) = sm (n + 1) (fun j => sm (n - j + 1) (fun k => h (j + k) j) ^^^ h (n + 1) j) :=
      sm_congr fun j hj => by
        rw [show n + 1 - j + 1 = (n - j + 1) + 1 by omega, sm]
        congr 2; omega
    rw [show sm (n + 1 + 1) (fun j => sm (n + 1 - j + 1) (fun k => h (j + k) j)) = sm (n + 1) (fun j => sm (n + 1 - j + 1) (fun k => h (j + k) j)) ^^^ sm (n + 1 - (n + 1) + 1) (fun k => h (n + 1 + k) (n + 1)) from rfl, e, sm_add]
    rw [show n + 1 - (n + 1) + 1 = 1 by omega]
    simp only [sm, z_xor, Nat.add_zero, xor_a]

/-- The product of two rows of coefficients. -/
def conv (f g : Nat → UInt8) (n : Nat) : UInt8 := sm (n + 1) (fun i => fm (f i) (g (n - i)))
theorem conv_comm (f g : Nat → UInt8) (n : Nat) : conv f g n = conv g f n := by
  unfold conv; rw [sm_rev]
  exact sm_congr fun i hi => by rw [fm_comm]; congr 2; omega
theorem conv_congr {f f' g g' : Nat → UInt8} {n : Nat} (h : ∀ i, i ≤ n → f i = f' i) (k : ∀ i, i ≤ n → g i = g' i) : conv f g n = conv f' g' n := by
  unfold conv; exact sm_congr fun i hi => by rw [h i (by omega), k (n - i) (by omega)]
theorem conv_add (f g h : Nat → UInt8) (n : Nat) : conv f (fun i => g i ^^^ h i) n = conv f g n ^^^ conv f h n := by
  unfold conv; rw [← sm_add]; exact sm_congr fun i _ => fm_add _ _ _
theorem add_conv (f g h : Nat → UInt8) (n : Nat) : conv (fun i => g i ^^^ h i) f n = conv g f n ^^^ conv h f n := by
  rw [conv_comm, conv_add, conv_comm f g, conv_comm f h]
theorem conv_assoc (f g h : Nat → UInt8) (n : Nat) : conv (conv f g) h n = conv f (conv g h) n := by
  have e1 : conv (conv f g) h n = sm (n + 1) (fun i => sm (i + 1) (fun j => fm (f j) (fm (g (i - j)) (h (n - i))))) :=
    sm_congr fun i _ => by
      show fm (conv f g i) _ = _
      rw [fm_comm, conv, sm_fm]
      exact sm_congr fun j _ => by rw [fm_comm, fm_assoc]
  rw [e1, sm_tri n (fun i j => fm (f j) (fm (g (i - j)) (h (n - i))))]
  refine sm_congr fun j hj => ?_
  show _ = fm (f j) (conv g h (n - j))
  rw [conv, sm_fm]
  exact sm_congr fun k hk => by rw [show j + k - j = k by omega, show n - (j + k) = n - j - k by omega]
theorem conv_zero (f : Nat → UInt8) (n : Nat) : conv f (fun _ => 0) n = 0 := sm_zero fun _ _ => fm_zero _
/-- Products with a constant, and with x. -/
theorem conv_const {f g : Nat → UInt8} {c : UInt8} (h0 : g 0 = c) (h : ∀ i, 1 ≤ i → g i = 0) (n : Nat) : conv g f n = fm c (f n) := by
  unfold conv
  rw [sm_one (k := 0) (by omega) (fun i _ hi => by rw [h i (by omega), zero_fm]), h0, Nat.sub_zero]

/-- Powers. -/
def fpow (x : UInt8) : Nat → UInt8
  | 0 => 1
  | n + 1 => fm (fpow x n) x
theorem fpow_add (x : UInt8) (n m : Nat) : fpow x (n + m) = fm (fpow x n) (fpow x m) := by
  induction m with
  | zero => simp only [Nat.add_zero, fpow, fm_one]
  | succ m ih => rw [← Nat.add_assoc, fpow, fpow, ih, fm_assoc]
/-- The value of a row of n coefficients. -/
def ev (n : Nat) (f : Nat → UInt8) (x : UInt8) : UInt8 := sm n (fun i => fm (f i) (fpow x i))
theorem ev_more {n m : Nat} {f : Nat → UInt8} (hn : n ≤ m) (h : ∀ i, n ≤ i → f i = 0) (x : UInt8) : ev m f x = ev n f x :=
  sm_more hn fun i a _ => by rw [h i a, zero_fm]
theorem ev_add (n : Nat) (f g : Nat → UInt8) (x : UInt8) : ev n (fun i => f i ^^^ g i) x = ev n f x ^^^ ev n g x := by
  unfold ev; rw [← sm_add]; exact sm_congr fun i _ => add_fm _ _ _
theorem ev_congr {n : Nat} {f g : Nat → UInt8} (h : ∀ i, i < n → f i = g i) (x : UInt8) : ev n f x = ev n g x := sm_congr fun i hi => by rw [h i hi]
theorem ev_conv {f g : Nat → UInt8} {n m : Nat} (hf : ∀ i, n ≤ i → f i = 0) (hg : ∀ i, m ≤ i → g i = 0) (x : UInt8) :
    ev (n + m + 1) (conv f g) x = fm (ev n f x) (ev m g x) := by
  have e1 : ev (n + m + 1) (conv f g) x = sm (n + m + 1) (fun i => sm (i + 1) (fun j => fm (fm (f j) (g (i - j))) (fpow x i))) :=
    sm_congr fun i _ => by
      show fm (conv f g i) _ = _
      rw [fm_comm, conv, sm_fm]
      exact sm_congr fun j _ => fm_comm _ _
  rw [e1, sm_tri (n + m) (fun i j => fm (fm (f j) (g (i - j))) (fpow x i))]
  rw [sm_more (n := n) (by omega) (fun j a _ => sm_zero fun k _ => by rw [hf j a, zero_fm, zero_fm])]
  rw [fm_comm, show ev n f x = sm n (fun i => fm (f i) (fpow x i)) from rfl, sm_fm]
  refine sm_congr fun j hj => ?_
  rw [sm_more (n := m) (by omega) (fun k a _ => by
    show fm (fm (f j) (g (j + k - j))) _ = 0
    rw [hg _ (by omega), fm_zero, zero_fm])]
  rw [fm_comm, ev, sm_fm]
  refine sm_congr fun k _ => ?_
  show fm (fm (f j) (g (j + k - j))) (fpow x (j + k)) = _
  rw [show j + k - j = k by omega, fpow_add, fm_assoc, fm_assoc, ← fm_assoc (g k), fm_comm (g k) (fpow x j), fm_assoc]

/-- The slope: n and 1 times the next coefficient. -/
def sc (k : Nat) (x : UInt8) : UInt8 := if k % 2 = 1 then x else 0
theorem sc_add (i j : Nat) (x : UInt8) : sc (i + j) x = sc i x ^^^ sc j x := by
  unfold sc
  rcases Nat.mod_two_eq_zero_or_one i with a | a <;> rcases Nat.mod_two_eq_zero_or_one j with b | b
  · rw [if_neg (by omega), if_neg (by omega), if_neg (by omega), xor_z]
  · rw [if_pos (by omega), if_neg (by omega), if_pos b, z_xor]
  · rw [if_pos (by omega), if_pos a, if_neg (by omega), xor_z]
  · rw [if_neg (by omega), if_pos a, if_pos b, xor_s]
theorem sc_fm (k : Nat) (x y : UInt8) : fm (sc k x) y = sc k (fm x y) := by unfold sc; split <;> simp only [zero_fm]
theorem sc_sm (k n : Nat) (f : Nat → UInt8) : sc k (sm n f) = sm n (fun i => sc k (f i)) := by
  unfold sc; split
  · rfl
  · exact (sm_zero fun _ _ => rfl).symm
theorem sc_xor (k : Nat) (x y : UInt8) : sc k (x ^^^ y) = sc k x ^^^ sc k y := by unfold sc; split <;> simp only [xor_s]
theorem sc_sc (k : Nat) (x : UInt8) : sc k (sc (k + 1) x) = 0 := by
  unfold sc; split
  · rw [if_neg (by omega)]
  · rfl
def slope (f : Nat → UInt8) (n : Nat) : UInt8 := sc (n + 1) (f (n + 1))
theorem slope_add (f g : Nat → UInt8) (n : Nat) : slope (fun i => f i ^^^ g i) n = slope f n ^^^ slope g n := sc_xor _ _ _
theorem slope_slope (f : Nat → UInt8) (n : Nat) : slope (slope f) n = 0 := sc_sc (n + 1) _
theorem slope_conv (f g : Nat → UInt8) (n : Nat) : slope (conv f g) n = conv (slope f) g n ^^^ conv f (slope g) n := by
  show sc (n + 1) (conv f g (n + 1)) = _
  have e : sc (n + 1) (conv f g (n + 1)) = sm (n + 1 + 1) (fun i => fm (sc i (f i)) (g (n + 1 - i))) ^^^ sm (n + 1 + 1) (fun i => fm (f i) (sc (n + 1 - i) (g (n + 1 - i)))) := by
    rw [conv, sc_sm, ← sm_add]
    refine sm_congr fun i hi => ?_
    rw [sc_fm, fm_comm (f i) (sc _ _), sc_fm, fm_comm (g _), ← sc_add, show i + (n + 1 - i) = n + 1 by omega]
  rw [e]
  congr 1
  · rw [sm_front]
    have z : fm (sc 0 (f 0)) (g (n + 1 - 0)) = 0 := by rw [show sc 0 (f 0) = 0 from rfl, zero_fm]
    rw [z, z_xor]
    exact sm_congr fun i hi => by show fm (sc (i + 1) (f (i + 1))) _ = _; congr 2; omega
  · rw [sm]
    have z : fm (f (n + 1)) (sc (n + 1 - (n + 1)) (g (n + 1 - (n + 1)))) = 0 := by rw [show n + 1 - (n + 1) = 0 by omega, show sc 0 (g 0) = 0 from rfl, fm_zero]
    rw [z, xor_z]
    exact sm_congr fun i hi => by
      show _ = fm (f i) (sc (n - i + 1) (g (n - i + 1)))
      rw [show n + 1 - i = n - i + 1 by omega]

/-- f has no power from n on. -/
def Upto (n : Nat) (f : Nat → UInt8) : Prop := ∀ i, n ≤ i → f i = 0
theorem Upto.conv {f g : Nat → UInt8} {n m : Nat} (hf : Upto (n + 1) f) (hg : Upto (m + 1) g) : Upto (n + m + 1) (conv f g) := by
  intro i hi
  refine sm_zero fun j _ => ?_
  by_cases h : j ≤ n
  · rw [hg (i - j) (by omega), fm_zero]
  · rw [hf j (by omega), zero_fm]
theorem conv_top {f g : Nat → UInt8} {n m : Nat} (hf : Upto (n + 1) f) (hg : Upto (m + 1) g) : Gf.conv f g (n + m) = fm (f n) (g m) := by
  unfold Gf.conv
  rw [sm_one (k := n) (by omega) (fun i _ hi => by
    rcases Nat.lt_or_gt_of_ne hi with h | h
    · rw [hg (n + m - i) (by omega), fm_zero]
    · rw [hf i (by omega), zero_fm])]
  congr 2; omega
theorem conv_zero_iff {f g : Nat → UInt8} {n m : Nat} (hf : Upto (n + 1) f) (hfn : f n ≠ 0) (hg : Upto m g) (h : ∀ i, Gf.conv f g i = 0) : ∀ i, g i = 0 := by
  induction m with
  | zero => exact fun i => hg i (by omega)
  | succ m ih =>
    have h1 := h (n + m)
    rw [conv_top hf hg] at h1
    refine ih fun i hi => ?_
    by_cases e : i = m
    · subst e; exact (fm_eq_zero h1).resolve_left hfn
    · exact hg i (by omega)
end Go.Proofs.Ytdlcloenihkkgaa.Gf
