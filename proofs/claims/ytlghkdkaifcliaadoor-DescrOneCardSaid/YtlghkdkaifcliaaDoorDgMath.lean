/-
  Sums and beginnings of datagrams, as mathematics. No program.
-/
import Derived.Test.YtlghkdkaifcliaaDoorCf
namespace Go.Proofs.YtlghkdkaifcliaaDoor.Dg
open Gf
set_option maxRecDepth 100000
/-- The high bytes, added; the low ones. -/
def hi : List UInt8 → Nat
  | [] => 0
  | [a] => a.toNat
  | a :: _ :: r => a.toNat + hi r
def lo : List UInt8 → Nat
  | [] => 0
  | [_] => 0
  | _ :: b :: r => b.toNat + lo r
theorem hi_le : ∀ l : List UInt8, hi l ≤ 255 * l.length
  | [] => by simp [hi]
  | [a] => by have := a.toNat_lt; simp [hi]; omega
  | a :: b :: r => by have := a.toNat_lt; have := hi_le r; simp [hi]; omega
theorem lo_le : ∀ l : List UInt8, lo l ≤ 255 * l.length
  | [] => by simp [lo]
  | [a] => by simp [lo]
  | a :: b :: r => by have := b.toNat_lt; have := lo_le r; simp [lo]; omega
theorem cons_hilo (a : UInt8) : ∀ l : List UInt8, hi (a :: l) = a.toNat + lo l ∧ lo (a :: l) = hi l
  | [] => by simp [hi, lo]
  | [b] => by simp [hi, lo]
  | b :: c :: r => by
    have h := cons_hilo c r
    have e1 : hi (a :: b :: c :: r) = a.toNat + hi (c :: r) := rfl
    have e2 : lo (a :: b :: c :: r) = b.toNat + lo (c :: r) := rfl
    have e3 : lo (b :: c :: r) = c.toNat + lo r := rfl
    have e4 : hi (b :: c :: r) = b.toNat + hi r := rfl
    omega
theorem hilo_append : ∀ l r : List UInt8, hi (l ++ r) = hi l + (if l.length % 2 = 0 then hi r else lo r) ∧ lo (l ++ r) = lo l + (if l.length % 2 = 0 then lo r else hi r)
  | [], r => by simp [hi, lo]
  | [a], r => by have := cons_hilo a r; simp [hi, lo, this]
  | a :: b :: l, r => by
    have h := hilo_append l r
    have e : (a :: b :: l).length % 2 = l.length % 2 := by simp only [List.length_cons]; omega
    rw [e]
    simp only [List.cons_append, hi, lo, h.1, h.2]
    omega
def tot (l : List UInt8) : Nat := 256 * hi l + lo l
/-- A number of 16 bits, what goes beyond being added again. -/
def rep (t : Nat) : Nat := if t = 0 then 0 else (t - 1) % 65535 + 1
theorem rep_le (t : Nat) : rep t ≤ 65535 := by unfold rep; split <;> omega
theorem rep_small {t : Nat} (h : t ≤ 65535) : rep t = t := by unfold rep; split <;> omega
theorem rep_fold (t : Nat) : rep (t % 65536 + t / 65536) = rep t := by
  unfold rep
  by_cases h : t = 0
  · subst h; simp
  · rw [if_neg h, if_neg (by omega)]; omega
theorem rep_add (t v : Nat) (hv : v ≤ 65535) : rep (t + v) = if rep t + v > 65535 then rep t + v - 65535 else rep t + v := by
  unfold rep
  by_cases h : t = 0
  · subst h
    simp only [if_true, Nat.zero_add]
    by_cases hz : v = 0
    · subst hz; simp
    · rw [if_neg hz, if_neg (by omega)]; omega
  · rw [if_neg h, if_neg (by omega)]
    split <;> omega
theorem rep_inj {t u : Nat} (h : rep t = rep u) : t % 65535 = u % 65535 := by
  unfold rep at h
  by_cases h1 : t = 0
  · by_cases h2 : u = 0
    · rw [h1, h2]
    · rw [if_pos h1, if_neg h2] at h; omega
  · by_cases h2 : u = 0
    · rw [if_neg h1, if_pos h2] at h; omega
    · rw [if_neg h1, if_neg h2] at h; omega
/-- The sum of bytes. -/
def csum (l : List UInt8) : Int := 65535 - (rep (tot l) : Int)
theorem csum_bd (l : List UInt8) : 0 ≤ csum l ∧ csum l ≤ 65535 := by have := rep_le (tot l); unfold csum; omega
/-- Two bytes more. -/
theorem tot_two (l : List UInt8) (h : l.length % 2 = 0) (r : List UInt8) : tot (l ++ r) = tot l + tot r := by
  have k := hilo_append l r
  rw [if_pos h, if_pos h] at k
  unfold tot; rw [k.1, k.2]; omega
theorem tot_pair (a b : UInt8) : tot [a, b] = 256 * a.toNat + b.toNat := by simp [tot, hi, lo]
theorem tot_one (a : UInt8) : tot [a] = 256 * a.toNat := by simp [tot, hi, lo]
theorem take_two {l : List UInt8} {k : Nat} (h : k + 1 < l.length) : l.take (k + 2) = l.take k ++ [cf l k, cf l (k + 1)] := by
  rw [List.take_succ_eq_append_getElem h, List.take_succ_eq_append_getElem (by omega), cf_lt h, cf_lt (by omega), List.append_assoc]
  rfl
theorem take_one {l : List UInt8} {k : Nat} (h : k < l.length) : l.take (k + 1) = l.take k ++ [cf l k] := by
  rw [List.take_succ_eq_append_getElem h, cf_lt h]
/-- The sum behind two bytes more, or one at the end. -/
theorem rep_two {l : List UInt8} {k : Nat} (hk : k % 2 = 0) (h : k + 1 < l.length) : rep (tot (l.take (k + 2))) = rep (tot (l.take k) + (256 * (cf l k).toNat + (cf l (k + 1)).toNat)) := by
  rw [take_two h, tot_two _ (by rw [List.length_take]; omega), tot_pair]
theorem rep_one {l : List UInt8} {k : Nat} (hk : k % 2 = 0) (h : k < l.length) (h2 : ¬ k + 1 < l.length) : rep (tot (l.take (k + 2))) = rep (tot (l.take k) + 256 * (cf l k).toNat) := by
  rw [show l.take (k + 2) = l.take (k + 1) by rw [List.take_of_length_le (by omega), List.take_of_length_le (by omega)], take_one h, tot_two _ (by rw [List.length_take]; omega), tot_one]
/-- What a byte that is another one does to the total. -/
theorem tot_set : ∀ (l : List UInt8) (k : Nat) (y : UInt8), k < l.length → (if k % 2 = 0 then tot (l.set k y) + 256 * (cf l k).toNat = tot l + 256 * y.toNat else tot (l.set k y) + (cf l k).toNat = tot l + y.toNat)
  | [], k, y, h => by simp at h
  | [a], k, y, h => by
    have : k = 0 := by simpa using h
    subst this
    simp [tot, hi, lo, cf]; omega
  | a :: b :: r, 0, y, h => by simp [tot, hi, lo, cf]; omega
  | a :: b :: r, 1, y, h => by simp [tot, hi, lo, cf]; omega
  | a :: b :: r, k + 2, y, h => by
    have ih := tot_set r k y (by simpa using h)
    have e : (k + 2) % 2 = k % 2 := by omega
    rw [e]
    have c : cf (a :: b :: r) (k + 2) = cf r k := by rw [cf_succ, cf_succ]
    rw [c]
    simp only [List.set_cons_succ, tot, hi, lo] at ih ⊢
    split <;> rename_i hk
    · rw [if_pos hk] at ih; omega
    · rw [if_neg hk] at ih; omega
theorem csum_turned (l : List UInt8) (k : Nat) (y : UInt8) (h : k < l.length) (hy : y ≠ cf l k) : csum (l.set k y) ≠ csum l := by
  intro e
  have e2 : rep (tot (l.set k y)) = rep (tot l) := by unfold csum at e; omega
  have e3 := rep_inj e2
  have t := tot_set l k y h
  have b1 := y.toNat_lt
  have b2 := (cf l k).toNat_lt
  have hne : y.toNat ≠ (cf l k).toNat := fun x => hy (UInt8.toNat_inj.1 x)
  split at t <;> omega
/-- What a beginning tells. -/
structure Hd where
  v : Int
  h : Int
  l : Int
  p : Int
def z : Hd := ⟨0, 0, 0, 0⟩
def may (d : Hd) (least : Int) : Hd × Int := if d.h < least ∨ d.l < d.h then (z, 12) else if d.l > 4080 then (z, 15) else (d, 0)
/-- A byte as a number. -/
def n (l : List UInt8) (i : Nat) : Int := ((cf l i).toNat : Int)
theorem n_bd (l : List UInt8) (i : Nat) : 0 ≤ n l i ∧ n l i ≤ 255 := by have := (cf l i).toNat_lt; unfold n; omega
def h4 (l : List UInt8) : Hd := ⟨4, n l 0 % 16 * 4, n l 2 * 256 + n l 3, n l 9⟩
def h6 (l : List UInt8) : Hd := ⟨6, 40, 40 + (n l 4 * 256 + n l 5), n l 6⟩
def peek (l : List UInt8) : Hd × Int :=
  if l.length = 0 then (z, 10) else
  if n l 0 / 16 = 4 then if l.length < 20 then (z, 10) else may (h4 l) 20
  else if n l 0 / 16 = 6 then if l.length < 40 then (z, 10) else may (h6 l) 40
  else (z, 14)
def check (l : List UInt8) : Int :=
  if (peek l).2 ≠ 0 then (peek l).2 else
  if (l.length : Int) < (peek l).1.l then 10 else
  if (l.length : Int) > (peek l).1.l then 11 else
  if (peek l).1.v = 4 ∧ csum (l.take (peek l).1.h.toNat) ≠ 0 then 13 else 0
/-- Where a beginning is told: what it tells is in bounds. -/
theorem peek_ok {l : List UInt8} (h : (peek l).2 = 0) : 20 ≤ (peek l).1.h ∧ (peek l).1.h ≤ 60 ∧ (peek l).1.h ≤ (peek l).1.l ∧ (peek l).1.l ≤ 4080 ∧ ((peek l).1.v = 4 ∨ (peek l).1.v = 6) ∧ 20 ≤ l.length := by
  unfold peek at h ⊢
  have b0 := n_bd l 0
  split at h
  · cases h
  · rename_i a0
    rw [if_neg a0]
    split at h <;> rename_i a1
    · rw [if_pos a1]
      split at h <;> rename_i a2
      · cases h
      · rw [if_neg a2]
        unfold may at h ⊢
        split at h <;> rename_i a3
        · cases h
        · rw [if_neg a3]
          split at h <;> rename_i a4
          · cases h
          · rw [if_neg a4]
            have a3' : ¬ (n l 0 % 16 * 4 < 20 ∨ n l 2 * 256 + n l 3 < n l 0 % 16 * 4) := a3
            have a4' : ¬ (n l 2 * 256 + n l 3 > 4080) := a4
            show 20 ≤ n l 0 % 16 * 4 ∧ n l 0 % 16 * 4 ≤ 60 ∧ n l 0 % 16 * 4 ≤ n l 2 * 256 + n l 3 ∧ n l 2 * 256 + n l 3 ≤ 4080 ∧ ((4 : Int) = 4 ∨ (4 : Int) = 6) ∧ 20 ≤ l.length
            omega
    · rw [if_neg a1]
      split at h <;> rename_i a5
      · rw [if_pos a5]
        split at h <;> rename_i a2
        · cases h
        · rw [if_neg a2]
          unfold may at h ⊢
          split at h <;> rename_i a3
          · cases h
          · rw [if_neg a3]
            split at h <;> rename_i a4
            · cases h
            · rw [if_neg a4]
              have a4' : ¬ (40 + (n l 4 * 256 + n l 5) > 4080) := a4
              have b4 := n_bd l 4
              have b5 := n_bd l 5
              show (20 : Int) ≤ 40 ∧ (40 : Int) ≤ 60 ∧ 40 ≤ 40 + (n l 4 * 256 + n l 5) ∧ 40 + (n l 4 * 256 + n l 5) ≤ 4080 ∧ ((6 : Int) = 4 ∨ (6 : Int) = 6) ∧ 20 ≤ l.length
              omega
      · cases h
theorem n_append (l r : List UInt8) (i : Nat) (h : i < l.length) : n (l ++ r) i = n l i := by
  unfold n cf; rw [List.getD_eq_getElem?_getD, List.getD_eq_getElem?_getD, List.getElem?_append_left h]
/-- What a beginning tells is told of whatever stands behind it. -/
theorem peek_append {l : List UInt8} (h : (peek l).2 = 0) (r : List UInt8) : peek (l ++ r) = peek l := by
  have hl : ¬ l.length = 0 := by have := (peek_ok h).2.2.2.2.2; omega
  have hl2 : ¬ (l ++ r).length = 0 := by rw [List.length_append]; omega
  have hk := (peek_ok h).2.2.2.2.2
  unfold peek at h ⊢
  rw [if_neg hl] at h ⊢
  rw [if_neg hl2, n_append l r 0 (by omega)]
  by_cases a1 : n l 0 / 16 = 4
  · rw [if_pos a1] at h ⊢
    rw [if_pos a1, if_neg (by rw [List.length_append]; omega), if_neg (by omega)]
    unfold h4
    rw [n_append l r 0 (by omega), n_append l r 2 (by omega), n_append l r 3 (by omega), n_append l r 9 (by omega)]
  · rw [if_neg a1] at h ⊢
    rw [if_neg a1]
    by_cases a5 : n l 0 / 16 = 6
    · rw [if_pos a5] at h ⊢
      rw [if_pos a5]
      have h40 : ¬ l.length < 40 := by
        intro e; rw [if_pos e] at h; cases h
      rw [if_neg (by rw [List.length_append]; omega), if_neg h40]
      unfold h6
      rw [n_append l r 4 (by omega), n_append l r 5 (by omega), n_append l r 6 (by omega)]
    · rw [if_neg a5] at h; cases h
theorem check_ok {l : List UInt8} (h : check l = 0) : (peek l).2 = 0 ∧ (l.length : Int) = (peek l).1.l := by
  unfold check at h
  by_cases a : (peek l).2 ≠ 0
  · rw [if_pos a] at h; exact absurd h a
  · rw [if_neg a] at h
    refine ⟨Decidable.not_not.1 a, ?_⟩
    split at h
    · cases h
    · split at h
      · cases h
      · omega
/-- The first datagram of bytes, as far as they tell. -/
def first (l : List UInt8) : List UInt8 := l.take (peek l).1.l.toNat
theorem first_length {l : List UInt8} (h : (peek l).2 = 0) (hl : l ≠ []) : 0 < (first l).length := by
  have := peek_ok h
  have : 0 < l.length := List.length_pos_iff.2 hl
  unfold first; rw [List.length_take]; omega
/-- Of which datagrams bytes are made. -/
def splitF : Nat → List UInt8 → List (List UInt8) × Int
  | 0, _ => ([], 0)
  | f + 1, l => if l = [] then ([], 0) else if (peek l).2 ≠ 0 then ([], (peek l).2) else if check (first l) ≠ 0 then ([], check (first l)) else
    if (splitF f (l.drop (first l).length)).2 ≠ 0 then ([], (splitF f (l.drop (first l).length)).2) else (first l :: (splitF f (l.drop (first l).length)).1, 0)
theorem splitF_succ (f : Nat) (l : List UInt8) : splitF (f + 1) l = if l = [] then ([], 0) else if (peek l).2 ≠ 0 then ([], (peek l).2) else if check (first l) ≠ 0 then ([], check (first l)) else
    if (splitF f (l.drop (first l).length)).2 ≠ 0 then ([], (splitF f (l.drop (first l).length)).2) else (first l :: (splitF f (l.drop (first l).length)).1, 0) := rfl
theorem splitF_more : ∀ (f g : Nat) (l : List UInt8), l.length ≤ f → l.length ≤ g → splitF f l = splitF g l
  | 0, 0, _, _, _ => rfl
  | 0, g + 1, l, h, _ => by
    have : l = [] := List.length_eq_zero_iff.1 (by omega)
    subst this; simp [splitF]
  | f + 1, 0, l, _, h => by
    have : l = [] := List.length_eq_zero_iff.1 (by omega)
    subst this; simp [splitF]
  | f + 1, g + 1, l, h1, h2 => by
    unfold splitF
    by_cases hl : l = []
    · rw [if_pos hl, if_pos hl]
    · rw [if_neg hl, if_neg hl]
      by_cases hp : (peek l).2 ≠ 0
      · rw [if_pos hp, if_pos hp]
      · rw [if_neg hp, if_neg hp]
        have := first_length (Decidable.not_not.1 hp) hl
        rw [splitF_more f g (l.drop (first l).length) (by rw [List.length_drop]; omega) (by rw [List.length_drop]; omega)]
def split (l : List UInt8) : List (List UInt8) × Int := splitF l.length l
theorem split_nil : split [] = ([], 0) := rfl
theorem split_peek {l : List UInt8} (hl : l ≠ []) (h : (peek l).2 ≠ 0) : split l = ([], (peek l).2) := by
  unfold split
  cases hn : l.length with
  | zero => exact absurd (List.length_eq_zero_iff.1 hn) hl
  | succ f => unfold splitF; rw [if_neg hl, if_pos h]
theorem split_bad {l : List UInt8} (hl : l ≠ []) (h : (peek l).2 = 0) (h2 : check (first l) ≠ 0) : split l = ([], check (first l)) := by
  unfold split
  cases hn : l.length with
  | zero => exact absurd (List.length_eq_zero_iff.1 hn) hl
  | succ f => unfold splitF; rw [if_neg hl, if_neg (by simp [h]), if_pos h2]
theorem split_next {l : List UInt8} (hl : l ≠ []) (h : (peek l).2 = 0) (h2 : check (first l) = 0) :
    split l = if (split (l.drop (first l).length)).2 ≠ 0 then ([], (split (l.drop (first l).length)).2) else (first l :: (split (l.drop (first l).length)).1, 0) := by
  have hf := first_length h hl
  unfold split
  cases hn : l.length with
  | zero => exact absurd (List.length_eq_zero_iff.1 hn) hl
  | succ f =>
    rw [splitF_succ, if_neg hl, if_neg (by simp [h]), if_neg (by simp [h2])]
    rw [splitF_more f (l.drop (first l).length).length _ (by rw [List.length_drop]; omega) (Nat.le_refl _)]
/-- What is split behind datagrams that are known. -/
def behind (acc : List (List UInt8)) (r : List (List UInt8) × Int) : List (List UInt8) × Int := if r.2 ≠ 0 then ([], r.2) else (acc ++ r.1, 0)
theorem behind_nil (l : List UInt8) : behind [] (split l) = split l := by
  unfold behind
  by_cases h : (split l).2 ≠ 0
  · rw [if_pos h]
    have : ∀ (f : Nat) (l : List UInt8), (splitF f l).2 ≠ 0 → (splitF f l).1 = [] := by
      intro f l h
      cases f with
      | zero => rfl
      | succ f =>
        unfold splitF at h ⊢
        split
        · rfl
        · split
          · rfl
          · split
            · rfl
            · split
              · rfl
              · rename_i a b c d; rw [if_neg a, if_neg b, if_neg c, if_neg d] at h; exact absurd rfl h
    have e := this _ _ h
    unfold split at e ⊢
    rw [Prod.ext_iff]; exact ⟨e.symm, rfl⟩
  · rw [if_neg h, List.nil_append]
    rw [Prod.ext_iff]; exact ⟨rfl, (Decidable.not_not.1 h).symm⟩
theorem behind_next {acc : List (List UInt8)} {l : List UInt8} (hl : l ≠ []) (h : (peek l).2 = 0) (h2 : check (first l) = 0) : behind acc (split l) = behind (acc ++ [first l]) (split (l.drop (first l).length)) := by
  rw [split_next hl h h2]
  unfold behind
  by_cases hs : (split (l.drop (first l).length)).2 ≠ 0
  · rw [if_pos hs, if_pos hs, if_pos hs]
  · rw [if_neg hs, if_neg hs, if_neg (by simp)]; simp
/-- What is wrong with datagrams that are to be joined. -/
def joinE : List (List UInt8) → Int
  | [] => 0
  | d :: r => if check d ≠ 0 then check d else joinE r
theorem joinE_ok {L : List (List UInt8)} (h : joinE L = 0) : ∀ d ∈ L, check d = 0 := by
  induction L with
  | nil => intro d hd; cases hd
  | cons a r ih =>
    unfold joinE at h
    by_cases ha : check a ≠ 0
    · rw [if_pos ha] at h; exact absurd h ha
    · rw [if_neg ha] at h
      intro d hd
      rcases List.mem_cons.1 hd with rfl | hd
      · exact Decidable.not_not.1 ha
      · exact ih h d hd
theorem ok_joinE {L : List (List UInt8)} (h : ∀ d ∈ L, check d = 0) : joinE L = 0 := by
  induction L with
  | nil => rfl
  | cons a r ih => unfold joinE; rw [if_neg (by simp [h a (by simp)])]; exact ih fun d hd => h d (by simp [hd])
/-- Split of Join is the list. -/
theorem split_join {L : List (List UInt8)} (h : ∀ d ∈ L, check d = 0) : split L.flatten = (L, 0) := by
  induction L with
  | nil => rfl
  | cons d r ih =>
    have hd := h d (by simp)
    obtain ⟨h1, h2⟩ := check_ok hd
    have hk := peek_ok h1
    have ha := peek_append h1 r.flatten
    have e : (d :: r).flatten = d ++ r.flatten := rfl
    rw [e]
    have hf : first (d ++ r.flatten) = d := by
      unfold first; rw [ha, show (peek d).1.l.toNat = d.length by omega, List.take_left]
    have hl : d ++ r.flatten ≠ [] := by
      intro x
      have : (d ++ r.flatten).length = 0 := by rw [x]; rfl
      rw [List.length_append] at this; omega
    rw [split_next hl (by rw [ha]; exact h1) (by rw [hf]; exact hd), hf, List.drop_left, ih fun x hx => h x (by simp [hx])]
    rfl
/-- Join of Split is the bytes. -/
theorem join_splitF : ∀ (f : Nat) (l : List UInt8), l.length ≤ f → (splitF f l).2 = 0 → (splitF f l).1.flatten = l ∧ ∀ d ∈ (splitF f l).1, check d = 0
  | 0, l, h, _ => by
    have : l = [] := List.length_eq_zero_iff.1 (by omega)
    subst this; exact ⟨rfl, fun d hd => by cases hd⟩
  | f + 1, l, hf, h => by
    unfold splitF at h ⊢
    by_cases hl : l = []
    · rw [if_pos hl]; exact ⟨hl.symm, fun d hd => by cases hd⟩
    · rw [if_neg hl] at h ⊢
      by_cases hp : (peek l).2 ≠ 0
      · rw [if_pos hp] at h; exact absurd h hp
      · rw [if_neg hp] at h ⊢
        by_cases hc : check (first l) ≠ 0
        · rw [if_pos hc] at h; exact absurd h hc
        · rw [if_neg hc] at h ⊢
          by_cases hs : (splitF f (l.drop (first l).length)).2 ≠ 0
          · rw [if_pos hs] at h; exact absurd h hs
          · rw [if_neg hs]
            have h1 := first_length (Decidable.not_not.1 hp) hl
            obtain ⟨ih1, ih2⟩ := join_splitF f (l.drop (first l).length) (by rw [List.length_drop]; omega) (Decidable.not_not.1 hs)
            refine ⟨?_, fun d hd => ?_⟩
            · rw [List.flatten_cons, ih1]
              unfold first
              rw [List.length_take]
              by_cases hm : (peek l).1.l.toNat ≤ l.length
              · rw [Nat.min_eq_left hm, List.take_append_drop]
              · rw [Nat.min_eq_right (by omega), List.take_of_length_le (by omega), List.drop_length, List.append_nil]
            · rcases List.mem_cons.1 hd with rfl | hd
              · exact Decidable.not_not.1 hc
              · exact ih2 d hd
theorem join_split {l : List UInt8} (h : (split l).2 = 0) : (split l).1.flatten = l ∧ joinE (split l).1 = 0 := by
  have := join_splitF l.length l (Nat.le_refl _) h
  exact ⟨this.1, ok_joinE this.2⟩
theorem split_err {l : List UInt8} (h : (split l).2 ≠ 0) : (split l).1 = [] := by
  have := behind_nil l
  unfold behind at this
  rw [if_pos h] at this
  rw [← this]
/-- The two bytes of a number. -/
def pr (k : Nat) : List UInt8 := [UInt8.ofNat (k / 256), UInt8.ofNat k]
theorem pr_tot {k : Nat} (h : k ≤ 65535) : tot (pr k) = k := by
  unfold pr
  rw [tot_pair, UInt8.toNat_ofNat_of_lt' (show k / 256 < 256 by omega), UInt8.toNat_ofNat']
  omega
theorem pr_length (k : Nat) : (pr k).length = 2 := rfl
/-- What stands ahead of version 4's sum. -/
def ahead4 (p : UInt8) (k : Nat) : List UInt8 := [69, 0] ++ pr k ++ [0, 0, 0, 0, 64, p]
theorem ahead4_length (p : UInt8) (k : Nat) : (ahead4 p k).length = 10 := rfl
def head4 (f t : List UInt8) (p : UInt8) (k : Nat) : List UInt8 := ahead4 p k ++ pr (csum (ahead4 p k ++ (f ++ t))).toNat ++ (f ++ t)
def make4 (f t : List UInt8) (p : UInt8) (b : List UInt8) : List UInt8 := head4 f t p (20 + b.length) ++ b
def ahead6 (p : UInt8) (k : Nat) : List UInt8 := [96, 0, 0, 0] ++ pr k ++ [p, 64]
def make6 (f t : List UInt8) (p : UInt8) (b : List UInt8) : List UInt8 := ahead6 p b.length ++ f ++ t ++ b
theorem csum_zeros (a r : List UInt8) (h : a.length % 2 = 0) : csum (a ++ [0, 0] ++ r) = csum (a ++ r) := by
  unfold csum
  rw [tot_two (a ++ [0, 0]) (by rw [List.length_append]; simp; omega), tot_two a h, tot_two a h, tot_pair]
  simp
theorem csum_made (a r : List UInt8) (h : a.length % 2 = 0) (hz : tot a ≠ 0) : csum (a ++ pr (csum (a ++ r)).toNat ++ r) = 0 := by
  have b := csum_bd (a ++ r)
  have e : tot (a ++ pr (csum (a ++ r)).toNat ++ r) = tot (a ++ r) + (65535 - rep (tot (a ++ r))) := by
    rw [tot_two (a ++ pr _) (by rw [List.length_append, pr_length]; omega), tot_two a h, tot_two a h, pr_tot (by omega)]
    have : (csum (a ++ r)).toNat = 65535 - rep (tot (a ++ r)) := by unfold csum; omega
    rw [this, tot_two a h]; omega
  have hz2 : tot (a ++ r) ≠ 0 := by rw [tot_two a h]; omega
  unfold csum at *
  rw [e]
  unfold rep at *
  rw [if_neg hz2, if_neg (by omega)]
  omega
end Go.Proofs.YtlghkdkaifcliaaDoor.Dg
namespace Go.Proofs.YtlghkdkaifcliaaDoor.Dg
open Gf
set_option maxRecDepth 100000
theorem make6_length {f t : List UInt8} {p : UInt8} {b : List UInt8} (hf : f.length = 16) (ht : t.length = 16) : (make6 f t p b).length = 40 + b.length := by
  unfold make6 ahead6
  simp only [List.length_append, pr_length, hf, ht, List.length_cons, List.length_nil]
theorem make4_length {f t : List UInt8} {p : UInt8} {b : List UInt8} (hf : f.length = 4) (ht : t.length = 4) : (make4 f t p b).length = 20 + b.length := by
  unfold make4 head4
  simp only [List.length_append, ahead4_length, pr_length, hf, ht]
theorem pr_num {k : Nat} (h : k ≤ 65535) : ((UInt8.ofNat (k / 256)).toNat : Int) * 256 + ((UInt8.ofNat k).toNat : Int) = (k : Int) := by
  rw [UInt8.toNat_ofNat_of_lt' (show k / 256 < 256 by omega), UInt8.toNat_ofNat']
  omega
theorem may_ok {v h l p least : Int} (h1 : ¬ h < least) (h2 : ¬ l < h) (h3 : ¬ l > 4080) : may ⟨v, h, l, p⟩ least = (⟨v, h, l, p⟩, 0) := by
  unfold may
  rw [if_neg (by show ¬ (h < least ∨ l < h); omega), if_neg (by show ¬ l > 4080; exact h3)]
theorem peek_make6 {f t : List UInt8} {p : UInt8} {b : List UInt8} (hf : f.length = 16) (ht : t.length = 16) (hb : b.length ≤ 4040) : peek (make6 f t p b) = (⟨6, 40, 40 + (b.length : Int), (p.toNat : Int)⟩, 0) := by
  have hl := make6_length (p := p) (b := b) hf ht
  have h0 : n (make6 f t p b) 0 = 96 := rfl
  have hd : h6 (make6 f t p b) = ⟨6, 40, 40 + (b.length : Int), (p.toNat : Int)⟩ := by
    unfold h6
    have h4 : n (make6 f t p b) 4 * 256 + n (make6 f t p b) 5 = (b.length : Int) := pr_num (by omega)
    rw [h4]; rfl
  unfold peek
  rw [if_neg (by omega), h0, if_neg (by decide), if_pos (by decide), if_neg (by omega), hd]
  exact may_ok (by omega) (by omega) (by omega)
theorem check_make6 {f t : List UInt8} {p : UInt8} {b : List UInt8} (hf : f.length = 16) (ht : t.length = 16) (hb : b.length ≤ 4040) : check (make6 f t p b) = 0 := by
  have hl := make6_length (p := p) (b := b) hf ht
  unfold check
  rw [peek_make6 hf ht hb, if_neg (by simp), hl, if_neg (by simp), if_neg (by simp), if_neg (by simp)]
theorem peek_make4 {f t : List UInt8} {p : UInt8} {b : List UInt8} (hf : f.length = 4) (ht : t.length = 4) (hb : b.length ≤ 4060) : peek (make4 f t p b) = (⟨4, 20, 20 + (b.length : Int), (p.toNat : Int)⟩, 0) := by
  have hl := make4_length (p := p) (b := b) hf ht
  have h0 : n (make4 f t p b) 0 = 69 := rfl
  have hd : h4 (make4 f t p b) = ⟨4, 20, 20 + (b.length : Int), (p.toNat : Int)⟩ := by
    unfold h4
    have h4 : n (make4 f t p b) 2 * 256 + n (make4 f t p b) 3 = ((20 + b.length : Nat) : Int) := pr_num (by omega)
    rw [h4, h0]
    have : ((20 + b.length : Nat) : Int) = 20 + (b.length : Int) := by omega
    rw [this]; rfl
  unfold peek
  rw [if_neg (by omega), h0, if_pos (by decide), if_neg (by omega), hd]
  exact may_ok (by omega) (by omega) (by omega)
theorem head4_take {f t : List UInt8} {p : UInt8} {b : List UInt8} (hf : f.length = 4) (ht : t.length = 4) : (make4 f t p b).take 20 = head4 f t p (20 + b.length) := by
  unfold make4
  rw [List.take_left' (by unfold head4; simp only [List.length_append, ahead4_length, pr_length, hf, ht])]
theorem check_make4 {f t : List UInt8} {p : UInt8} {b : List UInt8} (hf : f.length = 4) (ht : t.length = 4) (hb : b.length ≤ 4060) : check (make4 f t p b) = 0 := by
  have hl := make4_length (p := p) (b := b) hf ht
  have hz : csum ((make4 f t p b).take (20 : Int).toNat) = 0 := by
    rw [show (20 : Int).toNat = 20 from rfl, head4_take hf ht]
    unfold head4
    exact csum_made _ _ (by rw [ahead4_length]) (by unfold ahead4; rw [List.append_assoc, tot_two [69, 0] rfl, tot_pair, show (69 : UInt8).toNat = 69 from rfl]; omega)
  unfold check
  rw [peek_make4 hf ht hb, if_neg (by simp), hl, if_neg (by simp), if_neg (by simp), if_neg (fun h => h.2 hz)]
end Go.Proofs.YtlghkdkaifcliaaDoor.Dg
