/-
  Words of 255 bytes that are 0 at the first 64 powers of 2, in plain mathematics: sums and multiples of words are words, and two words that are unlike in up to 64 bytes are one. No program, no condition.
-/
import Derived.Test.YtdlcloenihkkgaaPolyList
namespace Go.Proofs.Ytdlcloenihkkgaa.Gf

/-- 2, n times by itself. -/
def pw (n : Nat) : UInt8 := fpow 2 n
theorem pw_add (n m : Nat) : pw (n + m) = fm (pw n) (pw m) := fpow_add 2 n m
theorem pw_toNat (n : Nat) : (pw n).toNat = expN (n % 255) := by
  induction n with
  | zero => show (1 : UInt8).toNat = expN 0; kernel_rfl
  | succ n ih =>
    show (fm (fpow 2 n) 2).toNat = _
    rw [fm_toNat, show (fpow 2 n).toNat = expN (n % 255) from ih, show (2 : UInt8).toNat = 2 from rfl, mul_two (expN_lt _), dbl_exp (Nat.mod_lt _ (by omega))]
    congr 1; omega
theorem pw_inj {n m : Nat} (hn : n < 255) (hm : m < 255) (h : pw n = pw m) : n = m := by
  have := congrArg UInt8.toNat h
  rw [pw_toNat, pw_toNat, Nat.mod_eq_of_lt hn, Nat.mod_eq_of_lt hm] at this
  have h2 := congrArg logN this
  rwa [log_exp hn, log_exp hm] at h2
theorem pw_ne (n : Nat) : pw n ≠ 0 := fun e => by
  have := congrArg UInt8.toNat e
  rw [pw_toNat] at this
  have h := expN_pos (i := n % 255) (Nat.mod_lt _ (by omega))
  rw [this] at h
  exact absurd h (by decide)
theorem fpow_mul (x : UInt8) (n m : Nat) : fpow x (n * m) = fpow (fpow x n) m := by
  induction m with
  | zero => rfl
  | succ m ih => rw [Nat.mul_succ, fpow_add, ih]; rfl
theorem pw_swap (n k : Nat) : fpow (pw n) k = fpow (pw k) n := by
  unfold pw; rw [← fpow_mul, ← fpow_mul, Nat.mul_comm]

/-- The value of a text as a polynomial, its last byte the coefficient of x to the 0. -/
def hv (l : List UInt8) (x : UInt8) : UInt8 := l.foldl (fun o c => fm o x ^^^ c) 0
theorem hv_fold (l : List UInt8) (x o : UInt8) : l.foldl (fun o c => fm o x ^^^ c) o = fm o (fpow x l.length) ^^^ hv l x := by
  induction l generalizing o with
  | nil => show o = fm o 1 ^^^ 0; rw [fm_one, xor_z]
  | cons c l ih =>
    rw [List.foldl_cons, ih, show hv (c :: l) x = l.foldl (fun o c => fm o x ^^^ c) (fm 0 x ^^^ c) from rfl, ih]
    simp only [zero_fm, z_xor, add_fm, List.length_cons, fpow, xor_a]
    rw [fm_assoc, fm_comm x]
theorem hv_cons (c : UInt8) (l : List UInt8) (x : UInt8) : hv (c :: l) x = fm c (fpow x l.length) ^^^ hv l x := by
  rw [hv, List.foldl_cons, hv_fold, zero_fm, z_xor]
theorem hv_append (a b : List UInt8) (x : UInt8) : hv (a ++ b) x = fm (hv a x) (fpow x b.length) ^^^ hv b x := by
  rw [hv, List.foldl_append, hv_fold]; rfl
theorem hv_nil (x : UInt8) : hv [] x = 0 := rfl
theorem hv_zeros (n : Nat) (x : UInt8) : hv (List.replicate n 0) x = 0 := by
  induction n with
  | zero => rfl
  | succ n ih => rw [List.replicate_succ, hv_cons, zero_fm, z_xor, ih]
/-- The same, as poly has it: lowest coefficient first. -/
theorem hv_rev (l : List UInt8) (x : UInt8) : hv l.reverse x = pat l x := by
  induction l with
  | nil => rfl
  | cons a l ih =>
    rw [List.reverse_cons, hv_append, ih, pat_cons, hv_cons, hv_nil]
    simp only [List.length_cons, List.length_nil, fpow, one_fm, fm_one, xor_z]
    rw [xor_c, fm_comm]

def IsWord (l : List UInt8) : Prop := l.length = 255 ∧ ∀ n, n < 64 → hv l (pw n) = 0
def lxor (a b : List UInt8) : List UInt8 := List.zipWith (fun x y => x ^^^ y) a b
theorem lxor_length {a b : List UInt8} (h : a.length = b.length) : (lxor a b).length = a.length := by
  unfold lxor; rw [List.length_zipWith]; omega
theorem hv_lxor {a b : List UInt8} (h : a.length = b.length) (x : UInt8) : hv (lxor a b) x = hv a x ^^^ hv b x := by
  induction a generalizing b with
  | nil => cases b with
    | nil => exact (xor_s 0).symm
    | cons _ _ => simp at h
  | cons c a ih => cases b with
    | nil => simp at h
    | cons d b =>
      have hl : a.length = b.length := by simpa using h
      show hv ((c ^^^ d) :: lxor a b) x = _
      rw [hv_cons, hv_cons, hv_cons, ih hl, lxor_length hl, add_fm, ← hl]
      simp only [xor_a, xor_lc (hv a x)]
theorem hv_times (c : UInt8) (a : List UInt8) (x : UInt8) : hv (a.map fun y => fm y c) x = fm (hv a x) c := by
  induction a with
  | nil => exact (zero_fm c).symm
  | cons d a ih =>
    rw [List.map_cons, hv_cons, ih, hv_cons, add_fm, List.length_map, fm_assoc, fm_assoc, fm_comm c]
theorem IsWord.xor {a b : List UInt8} (ha : IsWord a) (hb : IsWord b) : IsWord (lxor a b) :=
  ⟨by rw [lxor_length (ha.1.trans hb.1.symm)]; exact ha.1, fun n hn => by rw [hv_lxor (ha.1.trans hb.1.symm), ha.2 n hn, hb.2 n hn, xor_s]⟩
theorem IsWord.times {a : List UInt8} (ha : IsWord a) (c : UInt8) : IsWord (a.map fun y => fm y c) :=
  ⟨by rw [List.length_map]; exact ha.1, fun n hn => by rw [hv_times, ha.2 n hn, zero_fm]⟩

/-- Sums of c X to the n. -/
def vs : List (UInt8 × UInt8) → Nat → UInt8
  | [], _ => 0
  | p :: l, n => fm p.1 (fpow p.2 n) ^^^ vs l n
def lift (X : UInt8) (l : List (UInt8 × UInt8)) : List (UInt8 × UInt8) := l.map fun p => (fm p.1 (p.2 ^^^ X), p.2)
theorem vs_lift (X : UInt8) (l : List (UInt8 × UInt8)) (n : Nat) : vs (lift X l) n = vs l (n + 1) ^^^ fm X (vs l n) := by
  induction l with
  | nil => show (0 : UInt8) = 0 ^^^ fm X 0; rw [fm_zero, xor_s]
  | cons p l ih =>
    show fm (fm p.1 (p.2 ^^^ X)) (fpow p.2 n) ^^^ vs (lift X l) n = _
    rw [ih]
    simp only [vs, fm_add, add_fm, fpow]
    have e1 : fm (fm p.1 p.2) (fpow p.2 n) = fm p.1 (fm (fpow p.2 n) p.2) := by rw [fm_assoc, fm_comm p.2]
    have e2 : fm (fm p.1 X) (fpow p.2 n) = fm X (fm p.1 (fpow p.2 n)) := by rw [fm_comm p.1 X, fm_assoc]
    rw [e1, e2]
    simp only [xor_a, xor_lc (fm X (fm p.1 (fpow p.2 n)))]
theorem vander (l : List (UInt8 × UInt8)) : (l.map (·.2)).Nodup → (∀ n, n < l.length → vs l n = 0) → ∀ p ∈ l, p.1 = 0 := by
  generalize hk : l.length = k
  induction k generalizing l with
  | zero => intro _ _ p hp; rw [List.length_eq_zero_iff.1 hk] at hp; cases hp
  | succ k ih =>
    match l, hk with
    | q :: l, hk =>
      intro hd hs
      have hl : l.length = k := by simpa using hk
      rw [List.map_cons, List.nodup_cons] at hd
      have h1 : ∀ n, n < k → vs (lift q.2 l) n = 0 := fun n hn => by
        have a := hs (n + 1) (by omega)
        have b := hs n (by omega)
        have c : fm q.2 (vs (q :: l) n) = 0 := by rw [b, fm_zero]
        rw [vs_lift]
        simp only [vs, fm_add] at a c
        have e1 : fm q.1 (fpow q.2 (n + 1)) = fm q.2 (fm q.1 (fpow q.2 n)) := by
          show fm q.1 (fm (fpow q.2 n) q.2) = _
          rw [← fm_assoc, fm_comm]
        rw [e1] at a
        have a2 := xor_eq_zero a
        have c2 := xor_eq_zero c
        rw [← a2, ← c2, xor_s]
      have h2 : ((lift q.2 l).map (·.2)) = l.map (·.2) := by unfold lift; rw [List.map_map]; rfl
      have h3 := ih (lift q.2 l) (by unfold lift; rw [List.length_map]; exact hl) (by rw [h2]; exact hd.2) h1
      have h4 : ∀ p ∈ l, p.1 = 0 := fun p hp => by
        have h5 := h3 (fm p.1 (p.2 ^^^ q.2), p.2) (List.mem_map.2 ⟨p, hp, rfl⟩)
        rcases fm_eq_zero h5 with h | h
        · exact h
        · exfalso; apply hd.1
          rw [← xor_eq_zero h]; exact List.mem_map.2 ⟨p, hp, rfl⟩
      have h6 : ∀ l : List (UInt8 × UInt8), (∀ p ∈ l, p.1 = 0) → vs l 0 = 0 := by
        intro l
        induction l with
        | nil => intro _; rfl
        | cons p l ih => intro h; rw [vs, h p (by simp), zero_fm, z_xor]; exact ih fun q hq => h q (by simp [hq])
      have h7 := hs 0 (by omega)
      rw [vs, h6 l h4, xor_z] at h7
      have h8 : q.1 = 0 := by
        have : fm q.1 1 = 0 := h7
        rwa [fm_one] at this
      intro p hp
      rcases List.mem_cons.1 hp with h | h
      · rw [h]; exact h8
      · exact h4 p h
/-- A text as such a sum. -/
def pairs : List UInt8 → List (UInt8 × UInt8)
  | [] => []
  | c :: l => (c, pw l.length) :: pairs l
theorem vs_pairs (l : List UInt8) (n : Nat) : vs (pairs l) n = hv l (pw n) := by
  induction l with
  | nil => rfl
  | cons c l ih => rw [pairs, vs, ih, hv_cons, pw_swap n]
def keep (l : List (UInt8 × UInt8)) : List (UInt8 × UInt8) := l.filter fun p => p.1 != 0
theorem vs_keep (l : List (UInt8 × UInt8)) (n : Nat) : vs (keep l) n = vs l n := by
  induction l with
  | nil => rfl
  | cons p l ih =>
    unfold keep at *
    rw [List.filter_cons]
    split
    · rw [vs, vs, ih]
    · rename_i h
      have : p.1 = 0 := by simpa using h
      rw [ih, vs, this, zero_fm, z_xor]
theorem pairs_mem {l : List UInt8} {X : UInt8} (h : X ∈ (pairs l).map (·.2)) : ∃ k, k < l.length ∧ X = pw k := by
  induction l with
  | nil => cases h
  | cons c l ih =>
    rw [pairs, List.map_cons, List.mem_cons] at h
    rcases h with h | h
    · exact ⟨l.length, by simp, h⟩
    · obtain ⟨k, hk, e⟩ := ih h
      exact ⟨k, by simp only [List.length_cons]; omega, e⟩
theorem pairs_nodup {l : List UInt8} (h : l.length ≤ 255) : ((pairs l).map (·.2)).Nodup := by
  induction l with
  | nil => exact List.nodup_nil
  | cons c l ih =>
    simp only [List.length_cons] at h
    rw [pairs, List.map_cons, List.nodup_cons]
    refine ⟨fun hm => ?_, ih (by omega)⟩
    obtain ⟨k, hk, e⟩ := pairs_mem hm
    have := pw_inj (n := l.length) (m := k) (by omega) (by omega) e
    omega
def weight (l : List UInt8) : Nat := (l.filter fun c => c != 0).length
theorem keep_length (l : List UInt8) : (keep (pairs l)).length = weight l := by
  induction l with
  | nil => rfl
  | cons c l ih =>
    unfold keep weight at *
    rw [pairs, List.filter_cons, List.filter_cons]
    split <;> simp [ih]
theorem word_light {l : List UInt8} (h : IsWord l) (hw : weight l ≤ 64) : ∀ c ∈ l, c = 0 := by
  have h1 := vander (keep (pairs l)) (List.Nodup.sublist (List.Sublist.map _ List.filter_sublist) (pairs_nodup (by rw [h.1]; omega))) (fun n hn => by
    rw [keep_length] at hn
    rw [vs_keep, vs_pairs, h.2 n (by omega)])
  intro c hc
  rcases Classical.em (c = 0) with e | e
  · exact e
  · have hm : ∀ l : List UInt8, c ∈ l → ∃ X, (c, X) ∈ pairs l := by
      intro l
      induction l with
      | nil => intro h; cases h
      | cons d l ih =>
        intro h
        rcases List.mem_cons.1 h with h | h
        · subst h; exact ⟨pw l.length, by simp [pairs]⟩
        · obtain ⟨X, hX⟩ := ih h; exact ⟨X, by simp [pairs, hX]⟩
    obtain ⟨X, hX⟩ := hm l hc
    exact h1 (c, X) (List.mem_filter.2 ⟨hX, by simpa using e⟩)
theorem lxor_zero {a b : List UInt8} (hl : a.length = b.length) (h : ∀ c ∈ lxor a b, c = 0) : a = b := by
  induction a generalizing b with
  | nil => cases b with
    | nil => rfl
    | cons _ _ => simp at hl
  | cons x a ih => cases b with
    | nil => simp at hl
    | cons y b =>
      have h0 := h (x ^^^ y) (by simp [lxor])
      rw [xor_eq_zero h0, ih (by simpa using hl) fun c hc => h c (by simp only [lxor, List.zipWith_cons_cons, List.mem_cons]; exact Or.inr hc)]
/-- In how many places two texts are unlike. -/
def unlike (a b : List UInt8) : Nat := weight (lxor a b)
/-- TWO WORDS THAT ARE UNLIKE IN UP TO 64 PLACES ARE ONE. -/
theorem words_apart {a b : List UInt8} (ha : IsWord a) (hb : IsWord b) (h : unlike a b ≤ 64) : a = b :=
  lxor_zero (ha.1.trans hb.1.symm) (word_light (ha.xor hb) h)
theorem weight_cons (c : UInt8) (l : List UInt8) : weight (c :: l) = weight l + if c = 0 then 0 else 1 := by
  unfold weight; rw [List.filter_cons]
  by_cases h : c = 0
  · simp [h]
  · simp [h]
theorem weight_append (a b : List UInt8) : weight (a ++ b) = weight a + weight b := by
  unfold weight; rw [List.filter_append, List.length_append]
theorem weight_le (l : List UInt8) : weight l ≤ l.length := List.length_filter_le _ _
theorem lxor_self (a : List UInt8) : lxor a a = List.replicate a.length 0 := by
  induction a with
  | nil => rfl
  | cons c a ih => show (c ^^^ c) :: lxor a a = _; rw [xor_s, ih]; rfl
theorem lxor_append {a b : List UInt8} (c d : List UInt8) (h : a.length = b.length) : lxor (a ++ c) (b ++ d) = lxor a b ++ lxor c d := by
  unfold lxor; exact List.zipWith_append h
theorem weight_zeros (n : Nat) : weight (List.replicate n 0) = 0 := by
  induction n with
  | zero => rfl
  | succ n ih => rw [List.replicate_succ, weight_cons, ih]; rfl
/-- There is just one parity. -/
theorem parity_one {d p q : List UInt8} (hp : p.length = 64) (hq : q.length = 64) (h1 : IsWord (d ++ p)) (h2 : IsWord (d ++ q)) : p = q := by
  have h := words_apart h1 h2 (by
    unfold unlike
    rw [lxor_append p q rfl, weight_append, lxor_self, weight_zeros, Nat.zero_add]
    have := weight_le (lxor p q)
    rw [lxor_length (hp.trans hq.symm)] at this; omega)
  exact List.append_cancel_left h
/-- One place more. -/
theorem unlike_set (a b : List UInt8) (i : Nat) (x : UInt8) : unlike (a.set i x) b ≤ unlike a b + 1 := by
  induction a generalizing b i with
  | nil => simp [unlike, lxor, weight]
  | cons c a ih =>
    cases b with
    | nil => simp [unlike, lxor, weight]
    | cons d b =>
      cases i with
      | zero =>
        show weight ((x ^^^ d) :: lxor a b) ≤ weight ((c ^^^ d) :: lxor a b) + 1
        rw [weight_cons, weight_cons]; split <;> split <;> omega
      | succ i =>
        show weight ((c ^^^ d) :: lxor (a.set i x) b) ≤ weight ((c ^^^ d) :: lxor a b) + 1
        have := ih b i
        unfold unlike at this
        rw [weight_cons, weight_cons]; omega
theorem unlike_self (a : List UInt8) : unlike a a = 0 := by unfold unlike; rw [lxor_self, weight_zeros]
end Go.Proofs.Ytdlcloenihkkgaa.Gf
