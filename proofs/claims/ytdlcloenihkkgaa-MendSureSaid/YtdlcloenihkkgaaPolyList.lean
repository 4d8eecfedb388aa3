/-
  Polynomials as texts of bytes: without bytes 0 at their end there is just one text for each; sums, products, values, slopes, roots and division of texts. No program, no condition.
-/
import Derived.Test.YtdlcloenihkkgaaPolyMath
namespace Go.Proofs.Ytdlcloenihkkgaa.Gf

/-- The coefficient of a power. -/
def cf (p : List UInt8) (n : Nat) : UInt8 := p.getD n 0
theorem cf_nil (n : Nat) : cf [] n = 0 := rfl
theorem cf_zero (a : UInt8) (p : List UInt8) : cf (a :: p) 0 = a := rfl
theorem cf_succ (a : UInt8) (p : List UInt8) (n : Nat) : cf (a :: p) (n + 1) = cf p n := by simp [cf]
theorem cf_big {p : List UInt8} {n : Nat} (h : p.length ≤ n) : cf p n = 0 := by
  unfold cf; rw [List.getD_eq_getElem?_getD, List.getElem?_eq_none h]; rfl
theorem cf_upto (p : List UInt8) : Upto p.length (cf p) := fun _ h => cf_big h
theorem cf_lt {p : List UInt8} {n : Nat} (h : n < p.length) : cf p n = p[n] := by
  unfold cf; rw [List.getD_eq_getElem?_getD, List.getElem?_eq_getElem h]; rfl
/-- Without bytes 0 at the end. -/
def trim : List UInt8 → List UInt8
  | [] => []
  | a :: p => if trim p = [] ∧ a = 0 then [] else a :: trim p
theorem cf_trim (p : List UInt8) (n : Nat) : cf (trim p) n = cf p n := by
  induction p generalizing n with
  | nil => rfl
  | cons a p ih =>
    rw [trim]
    split
    · rename_i h
      cases n with
      | zero => rw [cf_zero, h.2]; rfl
      | succ n => rw [cf_succ, ← ih, h.1]; rfl
    · cases n with
      | zero => rfl
      | succ n => rw [cf_succ, cf_succ, ih]
theorem trim_eq_nil {p : List UInt8} (h : ∀ n, cf p n = 0) : trim p = [] := by
  induction p with
  | nil => rfl
  | cons a p ih =>
    rw [trim, if_pos ⟨ih fun n => by have := h (n + 1); rwa [cf_succ] at this, h 0⟩]
theorem trim_ext {p q : List UInt8} (h : ∀ n, cf p n = cf q n) : trim p = trim q := by
  induction p generalizing q with
  | nil => exact (trim_eq_nil (p := q) fun n => (h n).symm).symm
  | cons a p ih =>
    cases q with
    | nil => exact trim_eq_nil fun n => h n
    | cons b q =>
      have h0 : a = b := h 0
      have hp : trim p = trim q := ih fun n => by have := h (n + 1); rwa [cf_succ, cf_succ] at this
      rw [trim, trim, hp, h0]
theorem trim_trim (p : List UInt8) : trim (trim p) = trim p := trim_ext (cf_trim p)
theorem trim_le (p : List UInt8) : (trim p).length ≤ p.length := by
  induction p with
  | nil => exact Nat.le_refl _
  | cons a p ih =>
    rw [trim]; split
    · exact Nat.zero_le _
    · simp only [List.length_cons]; omega
theorem trim_len_le {p : List UInt8} {n : Nat} (h : Upto n (cf p)) : (trim p).length ≤ n := by
  induction p generalizing n with
  | nil => exact Nat.zero_le _
  | cons a p ih =>
    rw [trim]; split
    · exact Nat.zero_le _
    · rename_i hn
      cases n with
      | zero =>
        refine absurd ⟨trim_eq_nil fun k => ?_, ?_⟩ hn
        · have := h (k + 1) (by omega); rwa [cf_succ] at this
        · exact h 0 (by omega)
      | succ n =>
        have := ih (n := n) fun i hi => by have := h (i + 1) (by omega); rwa [cf_succ] at this
        simp only [List.length_cons]; omega
theorem trim_last {p : List UInt8} (h : trim p ≠ []) : cf p ((trim p).length - 1) ≠ 0 := by
  intro e
  have : (trim p).length ≤ (trim p).length - 1 := trim_len_le fun i hi => by
    by_cases he : i = (trim p).length - 1
    · rw [he]; exact e
    · rw [← cf_trim]; exact cf_big (by omega)
  have : 0 < (trim p).length := List.length_pos_iff.2 h
  omega
theorem trim_upto (p : List UInt8) : Upto (trim p).length (cf p) := fun i hi => by rw [← cf_trim]; exact cf_big hi
theorem trim_self {p : List UInt8} (h : p ≠ [] → cf p (p.length - 1) ≠ 0) : trim p = p := by
  induction p with
  | nil => rfl
  | cons a p ih =>
    by_cases hp : p = []
    · subst hp
      have := h (by simp)
      simp only [List.length_cons, List.length_nil] at this
      rw [trim, if_neg (fun hh => this (by rw [hh.2]; rfl))]; rfl
    · have h1 : trim p = p := ih fun _ => by
        have := h (by simp)
        have hl : 0 < p.length := List.length_pos_iff.2 hp
        rw [List.length_cons, show p.length + 1 - 1 = (p.length - 1) + 1 by omega, cf_succ] at this; exact this
      rw [trim, h1, if_neg (fun hh => hp hh.1)]
theorem trim_one {p q : List UInt8} (hp : trim p = p) (hq : trim q = q) (h : ∀ n, cf p n = cf q n) : p = q := by
  rw [← hp, ← hq]; exact trim_ext h

/-- The first n of a row, as a text. -/
def row (n : Nat) (f : Nat → UInt8) : List UInt8 := (List.range n).map f
theorem row_length (n : Nat) (f : Nat → UInt8) : (row n f).length = n := by simp [row]
theorem row_zero (f : Nat → UInt8) : row 0 f = [] := rfl
theorem row_succ (n : Nat) (f : Nat → UInt8) : row (n + 1) f = row n f ++ [f n] := by simp [row, List.range_succ]
theorem cf_row (n : Nat) (f : Nat → UInt8) (i : Nat) : cf (row n f) i = if i < n then f i else 0 := by
  split
  · rename_i h
    rw [cf_lt (by rw [row_length]; exact h)]; simp [row]
  · rename_i h
    exact cf_big (by rw [row_length]; omega)
theorem row_self (p : List UInt8) : row p.length (cf p) = p := by
  apply List.ext_getElem
  · exact row_length _ _
  · intro i h1 h2
    have := cf_row p.length (cf p) i
    rw [cf_lt h1, if_pos h2, cf_lt h2] at this; exact this
/-- The polynomial of a row that ends before n. -/
def mk (n : Nat) (f : Nat → UInt8) : List UInt8 := trim (row n f)
theorem cf_mk {n : Nat} {f : Nat → UInt8} (h : Upto n f) (i : Nat) : cf (mk n f) i = f i := by
  rw [mk, cf_trim, cf_row]; split
  · rfl
  · rename_i hi; exact (h i (by omega)).symm
theorem mk_trim (n : Nat) (f : Nat → UInt8) : trim (mk n f) = mk n f := trim_trim _
theorem mk_eq {n : Nat} {f : Nat → UInt8} (h : Upto n f) {p : List UInt8} (hp : trim p = p) (e : ∀ i, cf p i = f i) : mk n f = p :=
  trim_one (mk_trim n f) hp fun i => by rw [cf_mk h, e]
theorem mk_ext {n m : Nat} {f g : Nat → UInt8} (hf : Upto n f) (hg : Upto m g) (e : ∀ i, f i = g i) : mk n f = mk m g :=
  mk_eq hf (mk_trim m g) fun i => by rw [cf_mk hg, e]

/-- Sums and products of polynomials. -/
def padd (a b : List UInt8) : List UInt8 := mk (max a.length b.length) (fun n => cf a n ^^^ cf b n)
def pmul (a b : List UInt8) : List UInt8 := mk (a.length + b.length) (conv (cf a) (cf b))
theorem padd_upto (a b : List UInt8) : Upto (max a.length b.length) (fun n => cf a n ^^^ cf b n) := fun i hi => by
  show cf a i ^^^ cf b i = 0
  rw [cf_big (p := a) (by omega), cf_big (p := b) (by omega), xor_s]
theorem conv_upto {f g : Nat → UInt8} {n m : Nat} (hf : Upto n f) (hg : Upto m g) : Upto (n + m) (conv f g) := by
  intro i hi
  refine sm_zero fun j _ => ?_
  by_cases h : n ≤ j
  · rw [hf j h, zero_fm]
  · rw [hg (i - j) (by omega), fm_zero]
theorem pmul_upto (a b : List UInt8) : Upto (a.length + b.length) (conv (cf a) (cf b)) := conv_upto (cf_upto a) (cf_upto b)
theorem cf_padd (a b : List UInt8) (n : Nat) : cf (padd a b) n = cf a n ^^^ cf b n := cf_mk (padd_upto a b) n
theorem cf_pmul (a b : List UInt8) (n : Nat) : cf (pmul a b) n = conv (cf a) (cf b) n := cf_mk (pmul_upto a b) n
theorem padd_trim (a b : List UInt8) : trim (padd a b) = padd a b := mk_trim _ _
theorem pmul_trim (a b : List UInt8) : trim (pmul a b) = pmul a b := mk_trim _ _
theorem padd_comm (a b : List UInt8) : padd a b = padd b a := trim_one (padd_trim _ _) (padd_trim _ _) fun n => by rw [cf_padd, cf_padd, xor_c]
theorem padd_assoc (a b c : List UInt8) : padd (padd a b) c = padd a (padd b c) := trim_one (padd_trim _ _) (padd_trim _ _) fun n => by simp only [cf_padd, xor_a]
theorem padd_self (a : List UInt8) : padd a a = [] := trim_one (padd_trim _ _) rfl fun n => by rw [cf_padd, xor_s, cf_nil]
theorem padd_nil (a : List UInt8) : padd a [] = trim a := trim_one (padd_trim _ _) (trim_trim _) fun n => by rw [cf_padd, cf_nil, xor_z, cf_trim]
theorem padd_cf {a a' b b' : List UInt8} (h : ∀ n, cf a n = cf a' n) (k : ∀ n, cf b n = cf b' n) : padd a b = padd a' b' := trim_one (padd_trim _ _) (padd_trim _ _) fun n => by rw [cf_padd, cf_padd, h, k]
theorem pmul_cf {a a' b b' : List UInt8} (h : ∀ n, cf a n = cf a' n) (k : ∀ n, cf b n = cf b' n) : pmul a b = pmul a' b' :=
  trim_one (pmul_trim _ _) (pmul_trim _ _) fun n => by rw [cf_pmul, cf_pmul]; exact conv_congr (fun i _ => h i) (fun i _ => k i)
theorem pmul_comm (a b : List UInt8) : pmul a b = pmul b a := trim_one (pmul_trim _ _) (pmul_trim _ _) fun n => by rw [cf_pmul, cf_pmul, conv_comm]
theorem pmul_assoc (a b c : List UInt8) : pmul (pmul a b) c = pmul a (pmul b c) := trim_one (pmul_trim _ _) (pmul_trim _ _) fun n => by
  rw [cf_pmul, cf_pmul, conv_congr (fun i _ => cf_pmul a b i) (fun i _ => rfl), conv_assoc]
  exact (conv_congr (fun i _ => rfl) (fun i _ => cf_pmul b c i)).symm
theorem pmul_padd (a b c : List UInt8) : pmul a (padd b c) = padd (pmul a b) (pmul a c) := trim_one (pmul_trim _ _) (padd_trim _ _) fun n => by
  rw [cf_pmul, cf_padd, cf_pmul, cf_pmul, ← conv_add]; exact conv_congr (fun i _ => rfl) (fun i _ => cf_padd b c i)
theorem padd_pmul (a b c : List UInt8) : pmul (padd b c) a = padd (pmul b a) (pmul c a) := by rw [pmul_comm, pmul_padd, pmul_comm a b, pmul_comm a c]
theorem pmul_one (a : List UInt8) : pmul a [1] = trim a := trim_one (pmul_trim _ _) (trim_trim _) fun n => by
  rw [cf_pmul, conv_comm, conv_const (c := 1) rfl (fun i hi => cf_big (by simpa using hi)), one_fm, cf_trim]
theorem pmul_nil (a : List UInt8) : pmul a [] = [] := trim_one (pmul_trim _ _) rfl fun n => by rw [cf_pmul, cf_nil]; exact conv_zero (cf a) n
theorem pmul_trim_l (a b : List UInt8) : pmul (trim a) b = pmul a b := pmul_cf (cf_trim a) (fun _ => rfl)
theorem pmul_trim_r (a b : List UInt8) : pmul a (trim b) = pmul a b := pmul_cf (fun _ => rfl) (cf_trim b)
theorem padd_trim_l (a b : List UInt8) : padd (trim a) b = padd a b := padd_cf (cf_trim a) (fun _ => rfl)
theorem padd_trim_r (a b : List UInt8) : padd a (trim b) = padd a b := padd_cf (fun _ => rfl) (cf_trim b)

/-- Degrees: a text without bytes 0 at its end is one longer. -/
theorem pmul_length {a b : List UInt8} (ha : trim a ≠ []) (hb : trim b ≠ []) : (pmul a b).length + 1 = (trim a).length + (trim b).length := by
  have h1 := trim_last ha
  have h2 := trim_last hb
  have l1 : 0 < (trim a).length := List.length_pos_iff.2 ha
  have l2 : 0 < (trim b).length := List.length_pos_iff.2 hb
  have u1 : Upto ((trim a).length - 1 + 1) (cf a) := by rw [show (trim a).length - 1 + 1 = (trim a).length by omega]; exact trim_upto a
  have u2 : Upto ((trim b).length - 1 + 1) (cf b) := by rw [show (trim b).length - 1 + 1 = (trim b).length by omega]; exact trim_upto b
  have top := conv_top u1 u2
  have upto := u1.conv u2
  have le : (pmul a b).length ≤ (trim a).length - 1 + ((trim b).length - 1) + 1 := by
    rw [← pmul_trim]; exact trim_len_le fun i hi => by rw [cf_pmul]; exact upto i hi
  have ge : (trim a).length - 1 + ((trim b).length - 1) < (pmul a b).length := by
    rcases Nat.lt_or_ge ((trim a).length - 1 + ((trim b).length - 1)) (pmul a b).length with h | h
    · exact h
    · have := cf_big h
      rw [cf_pmul, top] at this
      exact absurd this (fm_ne h1 h2)
  omega
theorem pmul_length_nil {a b : List UInt8} (h : trim a = [] ∨ trim b = []) : pmul a b = [] := by
  rcases h with h | h
  · rw [pmul_comm, ← pmul_trim_r, h, pmul_nil]
  · rw [← pmul_trim_r, h, pmul_nil]
theorem padd_length (a b : List UInt8) : (padd a b).length ≤ max (trim a).length (trim b).length := by
  rw [← padd_trim]
  exact trim_len_le fun i hi => by rw [cf_padd, trim_upto a i (by omega), trim_upto b i (by omega), xor_s]

/-- There is just one quotient, and one rest. -/
theorem divide_one {q q' b r r' : List UInt8} (hq : trim q = q) (hq' : trim q' = q') (hr : trim r = r) (hr' : trim r' = r') (h : padd (pmul q b) r = padd (pmul q' b) r')
    (l : r.length < (trim b).length) (l' : r'.length < (trim b).length) : q = q' ∧ r = r' := by
  have hb : trim b ≠ [] := fun e => by rw [e] at l; exact absurd l (Nat.not_lt_zero _)
  have e1 : ∀ n, cf (pmul (padd q q') b) n = cf (padd r r') n := fun n => by
    have := congrArg (fun p => cf p n) h
    simp only [cf_padd] at this
    rw [padd_pmul, cf_padd, cf_padd]
    apply xor_eq_zero
    have h2 : cf (pmul q b) n ^^^ cf r n ^^^ (cf (pmul q' b) n ^^^ cf r' n) = 0 := by rw [this, xor_s]
    rw [← h2]; simp only [xor_a, xor_lc (cf (pmul q' b) n)]
  have e2 : pmul (padd q q') b = padd r r' := trim_one (pmul_trim _ _) (padd_trim _ _) e1
  have hz : padd q q' = [] := by
    rcases Classical.em (padd q q' = []) with h0 | h0
    · exact h0
    · exfalso
      have hl := pmul_length (a := padd q q') (b := b) (by rw [padd_trim]; exact h0) hb
      have hr2 := padd_length r r'
      rw [hr, hr'] at hr2
      have := List.length_pos_iff.2 h0
      rw [padd_trim] at hl
      rw [e2] at hl
      omega
  have hq2 : q = q' := trim_one hq hq' fun n => by
    have := congrArg (fun p => cf p n) hz
    simp only [cf_padd, cf_nil] at this
    exact xor_eq_zero this
  refine ⟨hq2, trim_one hr hr' fun n => ?_⟩
  rw [hz, pmul_comm, pmul_nil] at e2
  have := congrArg (fun p => cf p n) e2.symm
  simp only [cf_padd, cf_nil] at this
  exact xor_eq_zero this

/-- Values. -/
def pat (p : List UInt8) (x : UInt8) : UInt8 := ev p.length (cf p) x
theorem pat_upto {p : List UInt8} {n : Nat} (h : Upto n (cf p)) (x : UInt8) : pat p x = ev n (cf p) x := by
  rcases Nat.le_total n p.length with e | e
  · exact ev_more e h x
  · exact (ev_more e (cf_upto p) x).symm
theorem pat_cf {p q : List UInt8} (h : ∀ n, cf p n = cf q n) (x : UInt8) : pat p x = pat q x := by
  rw [pat_upto (p := p) (n := max p.length q.length) (fun i hi => cf_big (by omega)), pat_upto (p := q) (n := max p.length q.length) (fun i hi => cf_big (by omega))]
  exact ev_congr (fun i _ => h i) x
theorem pat_trim (p : List UInt8) (x : UInt8) : pat (trim p) x = pat p x := pat_cf (cf_trim p) x
theorem pat_padd (a b : List UInt8) (x : UInt8) : pat (padd a b) x = pat a x ^^^ pat b x := by
  rw [pat_upto (p := padd a b) (n := max a.length b.length) (fun i hi => by rw [cf_padd]; exact padd_upto a b i hi), pat_upto (p := a) (n := max a.length b.length) (fun i hi => cf_big (by omega)),
    pat_upto (p := b) (n := max a.length b.length) (fun i hi => cf_big (by omega)), ← ev_add]
  exact ev_congr (fun i _ => cf_padd a b i) x
theorem pat_pmul (a b : List UInt8) (x : UInt8) : pat (pmul a b) x = fm (pat a x) (pat b x) := by
  rw [pat_upto (p := pmul a b) (n := a.length + b.length + 1) (fun i hi => by rw [cf_pmul]; exact pmul_upto a b i (by omega))]
  rw [ev_congr (fun i _ => cf_pmul a b i) x]
  exact ev_conv (cf_upto a) (cf_upto b) x
theorem pat_nil (x : UInt8) : pat [] x = 0 := rfl
theorem pat_cons (a : UInt8) (p : List UInt8) (x : UInt8) : pat (a :: p) x = a ^^^ fm x (pat p x) := by
  show ev (p.length + 1) (cf (a :: p)) x = _
  rw [ev, sm_front]
  show fm a 1 ^^^ _ = _
  rw [fm_one, pat, ev, sm_fm]
  congr 1
  refine sm_congr fun i _ => ?_
  rw [cf_succ, fpow, fm_comm x, fm_assoc]
theorem pat_one (c x : UInt8) : pat [c] x = c := by rw [pat_cons, pat_nil, fm_zero, xor_z]
theorem pat_two (c x : UInt8) : pat [c, 1] x = c ^^^ x := by rw [pat_cons, pat_one, fm_one]

/-- The polynomial that is 0 at some places. -/
def proots (l : List UInt8) : List UInt8 := l.foldl (fun p a => pmul p [a, 1]) [1]
theorem trim_x (a : UInt8) : trim [a, 1] = [a, 1] := trim_self fun _ => by show (1 : UInt8) ≠ 0; decide
theorem fold_roots (l : List UInt8) : ∀ p : List UInt8, trim p = p → p ≠ [] → trim (l.foldl (fun p a => pmul p [a, 1]) p) = l.foldl (fun p a => pmul p [a, 1]) p ∧ (l.foldl (fun p a => pmul p [a, 1]) p).length = p.length + l.length ∧
    ∀ x, pat (l.foldl (fun p a => pmul p [a, 1]) p) x = 0 ↔ pat p x = 0 ∨ x ∈ l := by
  induction l with
  | nil => intro p hp _; exact ⟨hp, rfl, fun x => by simp⟩
  | cons a l ih =>
    intro p hp hn
    have hl := pmul_length (a := p) (b := [a, 1]) (by rw [hp]; exact hn) (by rw [trim_x]; simp)
    rw [hp, trim_x] at hl
    simp only [List.length_cons, List.length_nil] at hl
    have h := ih (pmul p [a, 1]) (pmul_trim _ _) (fun e => by rw [e] at hl; simp at hl)
    refine ⟨h.1, by rw [List.foldl_cons, h.2.1, List.length_cons]; omega, fun x => ?_⟩
    rw [List.foldl_cons, h.2.2 x, pat_pmul, pat_two]
    constructor
    · rintro (h1 | h1)
      · rcases fm_eq_zero h1 with h2 | h2
        · exact Or.inl h2
        · exact Or.inr (by simp [xor_eq_zero h2])
      · exact Or.inr (by simp [h1])
    · rintro (h1 | h1)
      · exact Or.inl (by rw [h1, zero_fm])
      · rcases List.mem_cons.1 h1 with h2 | h2
        · exact Or.inl (by rw [h2, xor_s, fm_zero])
        · exact Or.inr h2
theorem proots_trim (l : List UInt8) : trim (proots l) = proots l := (fold_roots l [1] (trim_self fun _ => by decide) (by simp)).1
theorem proots_length (l : List UInt8) : (proots l).length = l.length + 1 := by
  have := (fold_roots l [1] (trim_self fun _ => by decide) (by simp)).2.1
  simp only [List.length_cons, List.length_nil] at this
  rw [proots, this]; omega
theorem proots_zero (l : List UInt8) (x : UInt8) : pat (proots l) x = 0 ↔ x ∈ l := by
  rw [proots, (fold_roots l [1] (trim_self fun _ => by decide) (by simp)).2.2 x, pat_one]; simp

/-- Slopes. -/
def pslope (p : List UInt8) : List UInt8 := mk (p.length - 1) (slope (cf p))
theorem slope_upto {n : Nat} {f : Nat → UInt8} (h : Upto n f) : Upto (n - 1) (slope f) := fun i hi => by
  show sc (i + 1) (f (i + 1)) = 0
  rw [h (i + 1) (by omega)]; unfold sc; split <;> rfl
theorem cf_pslope (p : List UInt8) (n : Nat) : cf (pslope p) n = slope (cf p) n := cf_mk (slope_upto (cf_upto p)) n
theorem pslope_trim (p : List UInt8) : trim (pslope p) = pslope p := mk_trim _ _
theorem slope_cf {f g : Nat → UInt8} (h : ∀ n, f n = g n) (n : Nat) : slope f n = slope g n := by unfold slope; rw [h]
theorem pslope_padd (a b : List UInt8) : pslope (padd a b) = padd (pslope a) (pslope b) := trim_one (pslope_trim _) (padd_trim _ _) fun n => by
  rw [cf_pslope, cf_padd, cf_pslope, cf_pslope, slope_cf (cf_padd a b), slope_add]
theorem pslope_pmul (a b : List UInt8) : pslope (pmul a b) = padd (pmul (pslope a) b) (pmul a (pslope b)) := trim_one (pslope_trim _) (padd_trim _ _) fun n => by
  rw [cf_pslope, cf_padd, cf_pmul, cf_pmul, slope_cf (cf_pmul a b), slope_conv]
  congr 1
  · exact (conv_congr (fun i _ => cf_pslope a i) (fun i _ => rfl)).symm
  · exact (conv_congr (fun i _ => rfl) (fun i _ => cf_pslope b i)).symm
theorem pslope_pslope (a : List UInt8) : pslope (pslope a) = [] := trim_one (pslope_trim _) rfl fun n => by
  rw [cf_pslope, slope_cf (cf_pslope a), slope_slope, cf_nil]

/-- A product by x. -/
theorem pmul_x (a : List UInt8) (h : trim a ≠ []) : pmul a [0, 1] = 0 :: trim a := by
  refine trim_one (pmul_trim _ _) ?_ fun n => ?_
  · rw [trim, trim_trim, if_neg (fun hh => h hh.1)]
  · rw [cf_pmul]
    cases n with
    | zero => rw [cf_zero]; show sm 1 _ = 0; simp only [sm, z_xor]; exact fm_zero _
    | succ n =>
      rw [cf_succ, cf_trim]
      unfold conv
      rw [sm_one (k := n) (by omega) (fun i hi hne => by
        by_cases e : i = n + 1
        · subst e; rw [show n + 1 - (n + 1) = 0 by omega]; exact fm_zero _
        · rw [cf_big (p := [0, 1]) (n := n + 1 - i) (by simp only [List.length_cons, List.length_nil]; omega), fm_zero])]
      rw [show n + 1 - n = 1 by omega]; exact fm_one _
end Go.Proofs.Ytdlcloenihkkgaa.Gf
