/-
  A receiver's table, as mathematics: what is known of a frame's bytes, what is lost of a row, and which datagrams are told. No function of the program.
-/
import Derived.Test.YtpkidopnkofccaaBase
import Derived.Test.YtpkidopnkofccaaDgMath
namespace Go.Proofs.Ytpkidopnkofccaa
open Gf
set_option maxRecDepth 100000
theorem tcf_take (p : List UInt8) (n i : Nat) : cf (p.take n) i = if i < n then cf p i else 0 := by
  unfold cf
  rw [List.getD_eq_getElem?_getD, List.getD_eq_getElem?_getD, List.getElem?_take]
  split <;> rfl
theorem tcf_range (f : Nat → UInt8) {n i : Nat} (h : i < n) : cf ((List.range n).map f) i = f i := by rw [cf_lt (by simpa using h)]; simp
/-- What is known: the rows, the bytes by columns (0 where nothing is known), which are known, and where what was put begins. -/
structure Tb where
  R : Nat
  B : Nat → UInt8
  Is : Nat → Bool
  St : Nat → Bool
def okR (r : Int) : Prop := r = 256 ∨ r = 512 ∨ r = 768 ∨ r = 1024
instance (r : Int) : Decidable (okR r) := by unfold okR; infer_instance
structure Tb.Ok (T : Tb) : Prop where
  r : okR T.R
  z : ∀ n, T.Is n = false → T.B n = 0
  i : ∀ n, 255 * T.R ≤ n → T.Is n = false
  s : ∀ n, 191 * T.R ≤ n → T.St n = false
def tb0 (r : Nat) : Tb := ⟨r, fun _ => 0, fun _ => false, fun _ => false⟩
theorem tb0_ok {r : Nat} (h : okR r) : (tb0 r).Ok := ⟨h, fun _ _ => rfl, fun _ _ => rfl, fun _ _ => rfl⟩
theorem Tb.Ok.bd {T : Tb} (h : T.Ok) : 256 ≤ T.R ∧ T.R ≤ 1024 := by have := h.r; unfold okR at this; omega
/-- Bytes from a place on are known. -/
def layT (T : Tb) (a : Nat) (l : List UInt8) : Tb :=
  { T with B := fun n => if a ≤ n ∧ n < a + l.length then cf l (n - a) else T.B n, Is := fun n => decide (a ≤ n ∧ n < a + l.length) || T.Is n }
theorem layT_is (T : Tb) (a : Nat) (l : List UInt8) (n : Nat) : (layT T a l).Is n = (decide (a ≤ n ∧ n < a + l.length) || T.Is n) := rfl
theorem layT_b (T : Tb) (a : Nat) (l : List UInt8) (n : Nat) : (layT T a l).B n = if a ≤ n ∧ n < a + l.length then cf l (n - a) else T.B n := rfl
theorem layT_ok {T : Tb} (h : T.Ok) {a : Nat} {l : List UInt8} (ha : a + l.length ≤ 255 * T.R) : (layT T a l).Ok := by
  refine ⟨h.r, fun n hn => ?_, fun n hn => ?_, h.s⟩
  · rw [layT_is] at hn
    rw [layT_b]
    by_cases x : a ≤ n ∧ n < a + l.length
    · rw [decide_eq_true x] at hn; cases hn
    · rw [if_neg x]; rw [decide_eq_false x, Bool.false_or] at hn; exact h.z n hn
  · have hR : (layT T a l).R = T.R := rfl
    rw [hR] at hn
    rw [layT_is, decide_eq_false (by omega), Bool.false_or]
    exact h.i n hn
theorem layT_nil (T : Tb) (a : Nat) : layT T a [] = T := by
  unfold layT
  have e : ∀ n, ¬ (a ≤ n ∧ n < a + ([] : List UInt8).length) := fun n => by simp only [List.length_nil]; omega
  congr 1
  · funext n; rw [if_neg (e n)]
  · funext n; rw [decide_eq_false (e n), Bool.false_or]
/-- One byte more. -/
theorem layT_next (T : Tb) (a : Nat) {l : List UInt8} {k : Nat} (hk : k < l.length) :
    layT T a (l.take (k + 1)) = { layT T a (l.take k) with B := fun n => if n = a + k then cf l k else (layT T a (l.take k)).B n, Is := fun n => decide (n = a + k) || (layT T a (l.take k)).Is n } := by
  have h1 : (l.take (k + 1)).length = k + 1 := by rw [List.length_take]; omega
  have h2 : (l.take k).length = k := by rw [List.length_take]; omega
  unfold layT
  rw [h1, h2]
  congr 1
  · funext n
    show _ = if n = a + k then cf l k else if a ≤ n ∧ n < a + k then cf (l.take k) (n - a) else T.B n
    by_cases e : n = a + k
    · rw [if_pos (by omega), if_pos e, tcf_take, if_pos (by omega), show n - a = k by omega]
    · rw [if_neg e]
      by_cases x : a ≤ n ∧ n < a + k
      · rw [if_pos (by omega), if_pos x, tcf_take, if_pos (by omega), tcf_take, if_pos (by omega)]
      · rw [if_neg (by omega), if_neg x]
  · funext n
    show _ = (decide (n = a + k) || (decide (a ≤ n ∧ n < a + k) || T.Is n))
    rw [← Bool.or_assoc]
    congr 1
    by_cases e : n = a + k
    · rw [decide_eq_true e, Bool.true_or, decide_eq_true (by omega)]
    · rw [decide_eq_false e, Bool.false_or]
      by_cases x : a ≤ n ∧ n < a + k
      · rw [decide_eq_true x, decide_eq_true (by omega)]
      · rw [decide_eq_false x, decide_eq_false (by omega)]
def putT (T : Tb) (a : Nat) (l : List UInt8) : Tb := { layT T a l with St := fun n => (decide (n = a) && decide (0 < l.length)) || T.St n }
theorem putT_ok {T : Tb} (h : T.Ok) {a : Nat} {l : List UInt8} (ha : a + l.length ≤ 191 * T.R) : (putT T a l).Ok := by
  have h0 := layT_ok h (a := a) (l := l) (by omega)
  refine ⟨h.r, h0.z, h0.i, fun n hn => ?_⟩
  have hR : (putT T a l).R = T.R := rfl
  rw [hR] at hn
  show ((decide (n = a) && decide (0 < l.length)) || T.St n) = false
  rw [h.s n hn, Bool.or_false, Bool.and_eq_false_iff]
  by_cases x : n = a
  · exact .inr (decide_eq_false (by omega))
  · exact .inl (decide_eq_false x)
def parT (T : Tb) (k : Nat) (l : List UInt8) : Tb := layT T ((191 + k) * T.R) l
theorem parT_ok {T : Tb} (h : T.Ok) {k : Nat} (hk : k < 64) {l : List UInt8} (hl : l.length = T.R) : (parT T k l).Ok := by
  refine layT_ok h ?_
  have h1 : (191 + k) * T.R + T.R = (192 + k) * T.R := by rw [show 192 + k = (191 + k) + 1 by omega, Nat.add_mul (191 + k) 1, Nat.one_mul]
  have h2 : (192 + k) * T.R ≤ 255 * T.R := Nat.mul_le_mul_right _ (by omega)
  omega
def padT (T : Tb) (k : Nat) : Tb := { T with Is := fun n => decide ((191 - k) * T.R ≤ n ∧ n < 191 * T.R) || T.Is n }
theorem padT_ok {T : Tb} (h : T.Ok) (k : Nat) : (padT T k).Ok := by
  refine ⟨h.r, fun n hn => ?_, fun n hn => ?_, h.s⟩
  · have hn' : (decide ((191 - k) * T.R ≤ n ∧ n < 191 * T.R) || T.Is n) = false := hn
    rw [Bool.or_eq_false_iff] at hn'
    exact h.z n hn'.2
  · have hR : (padT T k).R = T.R := rfl
    rw [hR] at hn
    show (decide ((191 - k) * T.R ≤ n ∧ n < 191 * T.R) || T.Is n) = false
    rw [decide_eq_false (by omega), Bool.false_or]
    exact h.i n hn
/-- How many bytes of a row are not known; the row; the places. -/
def lostT (T : Tb) (row : Nat) : Nat := (List.range 255).countP fun c => !T.Is (c * T.R + row)
def rowB (T : Tb) (row : Nat) : List UInt8 := (List.range 255).map fun c => T.B (c * T.R + row)
def lostL (T : Tb) (row : Nat) : List Int := ((List.range 255).filter fun c => !T.Is (c * T.R + row)).map fun c : Nat => (c : Int)
theorem lostT_le (T : Tb) (row : Nat) : lostT T row ≤ 255 := by
  have := List.countP_le_length (p := fun c => !T.Is (c * T.R + row)) (l := List.range 255)
  rw [List.length_range] at this
  exact this
theorem lostL_length (T : Tb) (row : Nat) : (lostL T row).length = lostT T row := by unfold lostL lostT; rw [List.length_map, List.countP_eq_length_filter]
theorem lostL_mem {T : Tb} {row : Nat} {x : Int} : x ∈ lostL T row ↔ ∃ c : Nat, c < 255 ∧ (c : Int) = x ∧ T.Is (c * T.R + row) = false := by
  unfold lostL
  rw [List.mem_map]
  constructor
  · rintro ⟨c, hc, rfl⟩
    rw [List.mem_filter, List.mem_range] at hc
    exact ⟨c, hc.1, rfl, by simpa using hc.2⟩
  · rintro ⟨c, h1, rfl, h2⟩
    exact ⟨c, by rw [List.mem_filter, List.mem_range]; exact ⟨h1, by simp [h2]⟩, rfl⟩
theorem rowB_length (T : Tb) (row : Nat) : (rowB T row).length = 255 := by simp [rowB]
theorem rowB_get (T : Tb) (row : Nat) {c : Nat} (h : c < 255) : cf (rowB T row) c = T.B (c * T.R + row) := tcf_range _ h
def mendedN (T : Tb) : Nat := (List.range T.R).countP fun r => decide (0 < lostT T r ∧ lostT T r ≤ 64)
def failedN (T : Tb) : Nat := (List.range T.R).countP fun r => decide (64 < lostT T r)
theorem at_lt {R c r : Nat} (hr : r < R) (hc : c < 255) : c * R + r < 255 * R := by
  have := Nat.mul_le_mul_right R (show c + 1 ≤ 255 by omega)
  rw [Nat.add_mul, Nat.one_mul] at this
  omega
theorem at_mod {R c r : Nat} (hr : r < R) : (c * R + r) % R = r := by rw [Nat.add_comm, Nat.add_mul_mod_self_right, Nat.mod_eq_of_lt hr]
theorem at_div {R c r : Nat} (hr : r < R) : (c * R + r) / R = c := by
  rw [Nat.add_comm, Nat.add_mul_div_right _ _ (by omega), Nat.div_eq_of_lt hr, Nat.zero_add]
theorem at_eq {R n : Nat} (hR : 0 < R) (hn : n < 255 * R) : n / R < 255 ∧ n % R < R ∧ n / R * R + n % R = n := by
  refine ⟨Nat.div_lt_of_lt_mul (by rw [Nat.mul_comm]; exact hn), Nat.mod_lt _ hR, ?_⟩
  rw [Nat.mul_comm]; exact Nat.div_add_mod n R
/-- How many bytes are known from a place on; these bytes; the datagram's length with which they begin; the next place where one may begin. -/
def knT (T : Tb) : Nat → Nat → Nat
  | _, 0 => 0
  | a, f + 1 => if a < 191 * T.R ∧ T.Is a = true then knT T (a + 1) f + 1 else 0
theorem knT_le (T : Tb) : ∀ f a, knT T a f ≤ f
  | 0, _ => Nat.le_refl 0
  | f + 1, a => by unfold knT; split; exact Nat.succ_le_succ (knT_le T f (a + 1)); exact Nat.zero_le _
theorem knT_is (T : Tb) : ∀ f a j, j < knT T a f → a + j < 191 * T.R ∧ T.Is (a + j) = true
  | 0, _, _, h => by simp [knT] at h
  | f + 1, a, j, h => by
    unfold knT at h
    split at h
    · rename_i x
      match j with
      | 0 => exact x
      | j + 1 =>
        have := knT_is T f (a + 1) j (by omega)
        rwa [show a + 1 + j = a + (j + 1) by omega] at this
    · omega
theorem knT_stop (T : Tb) : ∀ f a, knT T a f < f → ¬ (a + knT T a f < 191 * T.R ∧ T.Is (a + knT T a f) = true)
  | 0, _, h => by omega
  | f + 1, a, h => by
    unfold knT at h ⊢
    split
    · rename_i x
      rw [if_pos x] at h
      have := knT_stop T f (a + 1) (by omega)
      rwa [show a + 1 + knT T (a + 1) f = a + (knT T (a + 1) f + 1) by omega] at this
    · rename_i x; exact x
def txtT (T : Tb) (a n : Nat) : List UInt8 := (List.range n).map fun i => T.B (a + i)
theorem txtT_length (T : Tb) (a n : Nat) : (txtT T a n).length = n := by simp [txtT]
theorem txtT_get (T : Tb) (a : Nat) {n i : Nat} (h : i < n) : cf (txtT T a n) i = T.B (a + i) := tcf_range _ h
theorem txtT_take (T : Tb) (a : Nat) {m n : Nat} (h : m ≤ n) : (txtT T a n).take m = txtT T a m :=
  list_ext_cf (by rw [List.length_take, txtT_length, txtT_length]; omega) fun i hi => by
    rw [List.length_take, txtT_length] at hi
    rw [tcf_take, if_pos (by omega), txtT_get T a (by omega), txtT_get T a (by omega)]
def firstL (s : List UInt8) : Nat := if (Dg.peek s).2 ≠ 0 ∨ (s.length : Int) < (Dg.peek s).1.l ∨ Dg.check (s.take (Dg.peek s).1.l.toNat) ≠ 0 then 0 else (Dg.peek s).1.l.toNat
def firstT (T : Tb) (a : Nat) : Nat := firstL (txtT T a (knT T a 4080))
theorem firstL_le (s : List UInt8) : firstL s ≤ s.length := by
  unfold firstL
  split
  · exact Nat.zero_le _
  · rename_i h
    have : ¬ (s.length : Int) < (Dg.peek s).1.l := fun x => h (.inr (.inl x))
    omega
def nextT (T : Tb) : Nat → Nat → Nat
  | a, 0 => a
  | a, f + 1 => if a < 191 * T.R ∧ T.St a = false then nextT T (a + 1) f else a
theorem nextT_spec (T : Tb) : ∀ f a, 191 * T.R ≤ a + f → a ≤ nextT T a f ∧ (∀ n, a ≤ n → n < nextT T a f → T.St n = false) ∧ (191 * T.R ≤ nextT T a f ∨ T.St (nextT T a f) = true)
  | 0, a, h => ⟨Nat.le_refl a, fun n h1 h2 => by simp only [nextT] at h2; omega, .inl (by simp only [nextT]; omega)⟩
  | f + 1, a, h => by
    unfold nextT
    split
    · rename_i x
      obtain ⟨h1, h2, h3⟩ := nextT_spec T f (a + 1) (by omega)
      refine ⟨by omega, fun n ha hb => ?_, h3⟩
      by_cases e : n = a
      · rw [e]; exact x.2
      · exact h2 n (by omega) hb
    · rename_i x
      refine ⟨Nat.le_refl _, fun n ha hb => by omega, ?_⟩
      by_cases y : a < 191 * T.R
      · refine .inr ?_
        cases z : T.St a
        · exact absurd ⟨y, z⟩ x
        · rfl
      · exact .inl (by omega)
def outF (T : Tb) : Nat → Nat → List (Nat × Nat)
  | 0, _ => []
  | f + 1, a => if 191 * T.R ≤ a then [] else if 0 < firstT T a then (a, firstT T a) :: outF T f (a + firstT T a) else outF T f (nextT T (a + 1) (191 * T.R))
def outT (T : Tb) : List (Nat × Nat) := outF T (191 * T.R) 0
/-- What is told: places and texts. -/
def outs (T : Tb) : List (Int × List UInt8) := (outT T).map fun p => ((p.1 : Int), txtT T p.1 p.2)
theorem outF_end {T : Tb} {f a : Nat} (h : 191 * T.R ≤ a) : outF T f a = [] := by
  match f with
  | 0 => rfl
  | f + 1 => unfold outF; rw [if_pos h]
theorem peek_long {l : List UInt8} (h : 40 ≤ l.length) (r : List UInt8) : Dg.peek (l ++ r) = Dg.peek l := by
  unfold Dg.peek Dg.h4 Dg.h6
  rw [Dg.n_append l r 0 (by omega), Dg.n_append l r 2 (by omega), Dg.n_append l r 3 (by omega), Dg.n_append l r 9 (by omega), Dg.n_append l r 4 (by omega), Dg.n_append l r 5 (by omega), Dg.n_append l r 6 (by omega)]
  rw [if_neg (by rw [List.length_append]; omega), if_neg (show ¬ l.length = 0 by omega)]
  by_cases h1 : Dg.n l 0 / 16 = 4
  · rw [if_pos h1, if_pos h1, if_neg (by rw [List.length_append]; omega), if_neg (by omega)]
  · rw [if_neg h1, if_neg h1]
    by_cases h2 : Dg.n l 0 / 16 = 6
    · rw [if_pos h2, if_pos h2, if_neg (by rw [List.length_append]; omega), if_neg (by omega)]
    · rw [if_neg h2, if_neg h2]
theorem firstL_long {l : List UInt8} (h : 4080 ≤ l.length) (r : List UInt8) : firstL (l ++ r) = firstL l := by
  unfold firstL
  rw [peek_long (by omega)]
  by_cases h1 : (Dg.peek l).2 = 0
  · have := Dg.peek_ok h1
    rw [List.take_append_of_le_length (by omega), List.length_append]
    by_cases h2 : Dg.check (l.take (Dg.peek l).1.l.toNat) = 0
    · rw [if_neg, if_neg]
      · rintro (x | x | x)
        · exact x h1
        · omega
        · exact x h2
      · rintro (x | x | x)
        · exact x h1
        · omega
        · exact x h2
    · rw [if_pos (.inr (.inr h2)), if_pos (.inr (.inr h2))]
  · rw [if_pos (.inl h1), if_pos (.inl h1)]
theorem knT_min (T : Tb) : ∀ f g a, f ≤ g → knT T a f = min (knT T a g) f
  | 0, g, a, _ => by simp [knT]
  | f + 1, 0, a, h => by omega
  | f + 1, g + 1, a, h => by
    unfold knT
    split
    · rw [knT_min T f g (a + 1) (by omega)]; omega
    · omega
/-- How many are known from a place on, up to the end. -/
def kn (T : Tb) (a : Nat) : Nat := knT T a (191 * T.R)
theorem kn_is (T : Tb) (a j : Nat) (h : j < kn T a) : a + j < 191 * T.R ∧ T.Is (a + j) = true := knT_is T _ a j h
theorem kn_stop (T : Tb) (a : Nat) : ¬ (a + kn T a < 191 * T.R ∧ T.Is (a + kn T a) = true) := by
  have hl := knT_le T (191 * T.R) a
  by_cases h : knT T a (191 * T.R) < 191 * T.R
  · exact knT_stop T _ a h
  · unfold kn; omega
theorem kn_le (T : Tb) {a : Nat} (h : a ≤ 191 * T.R) : a + kn T a ≤ 191 * T.R := by
  by_cases z : kn T a = 0
  · omega
  · have := (kn_is T a (kn T a - 1) (by omega)).1; omega
/-- What is known from a place on goes on from each place in it. -/
theorem kn_from (T : Tb) {a e : Nat} (h : a ≤ e) (hk : ∀ n, a ≤ n → n < e → n < 191 * T.R ∧ T.Is n = true) : e + kn T e = a + kn T a := by
  have h1 : e ≤ a + kn T a := by
    refine Classical.byContradiction fun x => kn_stop T a ?_
    exact hk (a + kn T a) (by omega) (by omega)
  have s1 := kn_stop T a
  have s2 := kn_stop T e
  rcases Nat.lt_trichotomy (e + kn T e) (a + kn T a) with x | x | x
  · exact absurd (by have := kn_is T a (e + kn T e - a) (by omega); rwa [show a + (e + kn T e - a) = e + kn T e by omega] at this) s2
  · exact x
  · exact absurd (by have := kn_is T e (a + kn T a - e) (by omega); rwa [show e + (a + kn T a - e) = a + kn T a by omega] at this) s1
theorem txtT_split (T : Tb) (a m n : Nat) (h : m ≤ n) : txtT T a n = txtT T a m ++ txtT T (a + m) (n - m) := by
  unfold txtT
  rw [show n = m + (n - m) by omega, List.range_add, List.map_append, List.map_map, show m + (n - m) - m = n - m by omega]
  congr 1
  refine List.map_congr_left fun i _ => ?_
  show T.B (a + (m + i)) = T.B (a + m + i)
  rw [Nat.add_assoc]
theorem firstT_kn {T : Tb} (hR : 256 ≤ T.R) (a : Nat) : firstL (txtT T a (kn T a)) = firstT T a := by
  unfold firstT
  have e := knT_min T 4080 (191 * T.R) a (by omega)
  rw [show knT T a (191 * T.R) = kn T a from rfl] at e
  by_cases h : kn T a ≤ 4080
  · rw [e, Nat.min_eq_left h]
  · rw [e, Nat.min_eq_right (by omega), txtT_split T a 4080 (kn T a) (by omega)]
    exact firstL_long (by rw [txtT_length]; exact Nat.le_refl _) _
theorem firstT_le (T : Tb) (a : Nat) : firstT T a ≤ knT T a 4080 := by
  have := firstL_le (txtT T a (knT T a 4080))
  rwa [txtT_length] at this
theorem firstT_kle {T : Tb} (hR : 256 ≤ T.R) (a : Nat) : firstT T a ≤ kn T a := by
  have := firstL_le (txtT T a (kn T a))
  rwa [txtT_length, firstT_kn hR] at this
/-- The next place where a datagram may begin. -/
def nx (T : Tb) (a : Nat) : Nat := nextT T a (191 * T.R)
theorem nextT_lt (T : Tb) : ∀ f a m, a ≤ m → m < nextT T a f → m < 191 * T.R ∧ T.St m = false
  | 0, a, m, h1, h2 => by simp only [nextT] at h2; omega
  | f + 1, a, m, h1, h2 => by
    unfold nextT at h2
    split at h2
    · rename_i x
      by_cases e : m = a
      · subst e; exact x
      · exact nextT_lt T f (a + 1) m (by omega) h2
    · omega
theorem nx_lt (T : Tb) (a m : Nat) (h1 : a ≤ m) (h2 : m < nx T a) : m < 191 * T.R ∧ T.St m = false := nextT_lt T _ a m h1 h2
theorem nx_stop (T : Tb) (a : Nat) : a ≤ nx T a ∧ ¬ (nx T a < 191 * T.R ∧ T.St (nx T a) = false) := by
  obtain ⟨h1, h2, h3⟩ := nextT_spec T (191 * T.R) a (by omega)
  refine ⟨h1, fun x => ?_⟩
  have x1 : nextT T a (191 * T.R) < 191 * T.R := x.1
  have x2 : T.St (nextT T a (191 * T.R)) = false := x.2
  rcases h3 with h3 | h3
  · omega
  · rw [x2] at h3; cases h3
theorem outF_hit {T : Tb} {f a : Nat} (h : a < 191 * T.R) (hp : 0 < firstT T a) : outF T (f + 1) a = (a, firstT T a) :: outF T f (a + firstT T a) := by
  show (if 191 * T.R ≤ a then [] else if 0 < firstT T a then _ else _) = _
  rw [if_neg (by omega), if_pos hp]
theorem outF_miss {T : Tb} {f a : Nat} (h : a < 191 * T.R) (hp : ¬ 0 < firstT T a) : outF T (f + 1) a = outF T f (nx T (a + 1)) := by
  show (if 191 * T.R ≤ a then [] else if 0 < firstT T a then _ else _) = _
  rw [if_neg (by omega), if_neg hp]; rfl
end Go.Proofs.Ytpkidopnkofccaa
