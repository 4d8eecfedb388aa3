/-
  Texts that are near words, in plain mathematics: no text is near two words; with 64 places lost every text is near one. No program, no condition.
-/
import Derived.Test.YtdlcloenihkkgaaMendRefB
namespace Go.Proofs.Ytdlcloenihkkgaa
open Gf
set_option maxRecDepth 100000
theorem count_or {p q r : Nat → Bool} : ∀ l : List Nat, (∀ i ∈ l, p i = true → q i = true ∨ r i = true) → l.countP p ≤ l.countP q + l.countP r
  | [], _ => by simp
  | i :: l, h => by
    have ih := count_or (p := p) (q := q) (r := r) l fun j hj => h j (by simp [hj])
    have hi := h i (by simp)
    rw [List.countP_cons, List.countP_cons, List.countP_cons]
    cases hp : p i
    · simp; omega
    · rcases hi hp with hq | hr
      · rw [hq]; simp; split <;> omega
      · rw [hr]; simp; split <;> omega
theorem count_le {p q : Nat → Bool} (l : List Nat) (h : ∀ i ∈ l, p i = true → q i = true) : l.countP p ≤ l.countP q := by
  have := count_or (p := p) (q := q) (r := fun _ => false) l fun i hi hp => .inl (h i hi hp)
  rw [show l.countP (fun _ => false) = 0 by simp] at this
  omega
theorem count_one (x : Int) : ∀ l : List Nat, l.Nodup → l.countP (fun i : Nat => decide ((i : Int) = x)) ≤ 1
  | [], _ => by simp
  | i :: l, h => by
    rw [List.nodup_cons] at h
    have ih := count_one x l h.2
    rw [List.countP_cons]
    by_cases e : (i : Int) = x
    · have : l.countP (fun i : Nat => decide ((i : Int) = x)) = 0 := by
        rw [List.countP_eq_zero]
        intro j hj
        simp only [decide_eq_true_eq]
        intro ej
        have : i = j := by omega
        subst this
        exact h.1 hj
      rw [this]; split <;> omega
    · simp [e]; exact ih
theorem count_in (L : List Int) (l : List Nat) (hl : l.Nodup) : l.countP (fun i : Nat => decide ((i : Int) ∈ L)) ≤ L.length := by
  induction L with
  | nil => simp
  | cons x L ih =>
    have h1 := count_one x l hl
    have h2 := count_or (p := fun i : Nat => decide ((i : Int) ∈ x :: L)) (q := fun i : Nat => decide ((i : Int) = x)) (r := fun i : Nat => decide ((i : Int) ∈ L)) l (fun i _ h => by
      simp only [decide_eq_true_eq, List.mem_cons] at h ⊢
      exact h)
    rw [List.length_cons]
    omega
theorem weight_count : ∀ l : List UInt8, weight l = (List.range l.length).countP (fun i => cf l i != 0)
  | [] => rfl
  | c :: l => by
    have ih := weight_count l
    rw [weight_cons, List.length_cons, List.range_succ_eq_map, List.countP_cons, List.countP_map, ih]
    congr 1
    by_cases h : c = 0
    · subst h; rfl
    · simp [h, cf_zero]
/-- At how many places two texts are unlike that are not lost. -/
def dif (s v : List UInt8) (L : List Int) : Nat := (List.range 255).countP (fun i => decide (cf s i ≠ cf v i) && !decide ((i : Int) ∈ L))
/-- A text is near a word, some places being lost. -/
def Near (s : List UInt8) (L : List Int) (v : List UInt8) : Prop := IsWord v ∧ (dif s v L : Int) ≤ roomZ L.length
theorem cf_lxor {a b : List UInt8} (h : a.length = b.length) (i : Nat) : cf (lxor a b) i = cf a i ^^^ cf b i := by
  by_cases hi : i < a.length
  · rw [cf_lt (by rw [lxor_length h]; exact hi), cf_lt hi, cf_lt (by omega)]; simp [lxor]
  · rw [cf_big (by rw [lxor_length h]; omega), cf_big (p := a) (by omega), cf_big (p := b) (by omega)]; rfl
theorem xor_ne {a b : UInt8} (h : (a ^^^ b != 0) = true) : a ≠ b := fun e => by
  subst e; rw [xor_s] at h; exact absurd h (by decide)
theorem unlike_dif {s v u : List UInt8} {L : List Int} (hv : v.length = 255) (hu : u.length = 255) : unlike v u ≤ L.length + dif s v L + dif s u L := by
  unfold unlike
  rw [weight_count, lxor_length (hv.trans hu.symm), hv]
  have h1 := count_or (p := fun i => cf (lxor v u) i != 0) (q := fun i : Nat => decide ((i : Int) ∈ L)) (r := fun i => (decide (cf s i ≠ cf v i) && !decide ((i : Int) ∈ L)) || (decide (cf s i ≠ cf u i) && !decide ((i : Int) ∈ L))) (List.range 255) (fun i _ h => by
    rw [cf_lxor (hv.trans hu.symm)] at h
    have hne := xor_ne h
    by_cases hm : (i : Int) ∈ L
    · left; simpa using hm
    · right
      by_cases e : cf s i = cf v i
      · have e2 : cf s i ≠ cf u i := fun e2 => hne (e.symm.trans e2)
        simp [hm, e2]
      · simp [hm, e])
  have h2 := count_in L (List.range 255) List.nodup_range
  have h3 := count_or (p := fun i => (decide (cf s i ≠ cf v i) && !decide ((i : Int) ∈ L)) || (decide (cf s i ≠ cf u i) && !decide ((i : Int) ∈ L))) (q := fun i => decide (cf s i ≠ cf v i) && !decide ((i : Int) ∈ L)) (r := fun i => decide (cf s i ≠ cf u i) && !decide ((i : Int) ∈ L)) (List.range 255) (fun i _ h => by
    rw [Bool.or_eq_true] at h; exact h)
  unfold dif
  omega
/-- NO TEXT IS NEAR TWO WORDS. -/
theorem near_one {s v u : List UInt8} {L : List Int} (hv : Near s L v) (hu : Near s L u) : v = u := by
  refine words_apart hv.1 hu.1 ?_
  have h := unlike_dif (s := s) (L := L) hv.1.1 hu.1.1
  have h1 := hv.2
  have h2 := hu.2
  have hr : 2 * roomZ L.length + L.length ≤ 64 ∨ roomZ L.length = -1 := by
    unfold roomZ
    split
    · exact .inr rfl
    · left; omega
  rcases hr with hr | hr <;> omega
/-- Values at the first powers can be had of as many places as there are values. -/
theorem solve (Xs : List UInt8) : Xs.Nodup → ∀ S : Nat → UInt8, ∃ es : List UInt8, es.length = Xs.length ∧ ∀ n, n < Xs.length → vs (es.zip Xs) n = S n := by
  induction Xs with
  | nil => intro _ S; exact ⟨[], rfl, fun n hn => by cases hn⟩
  | cons X Xs ih =>
    intro hd S
    rw [List.nodup_cons] at hd
    obtain ⟨fs, hfl, hf⟩ := ih hd.2 (fun n => S (n + 1) ^^^ fm X (S n))
    obtain ⟨gs, hg⟩ : ∃ gs : List UInt8, gs = List.zipWith (fun f Y => fm f (fi (Y ^^^ X))) fs Xs := ⟨_, rfl⟩
    have hgl : gs.length = Xs.length := by rw [hg, List.length_zipWith]; omega
    have hlift : lift X (gs.zip Xs) = fs.zip Xs := by
      rw [hg]
      clear hg hgl hf ih
      induction fs generalizing Xs with
      | nil => rfl
      | cons f fs ih2 =>
        cases Xs with
        | nil => rfl
        | cons Y Xs =>
          simp only [List.mem_cons, not_or] at hd
          show (fm (fm f (fi (Y ^^^ X))) (Y ^^^ X), Y) :: lift X ((List.zipWith (fun f Y => fm f (fi (Y ^^^ X))) fs Xs).zip Xs) = (f, Y) :: fs.zip Xs
          have hne : Y ^^^ X ≠ 0 := fun e => hd.1.1 (xor_eq_zero e).symm
          rw [ih2 Xs ⟨hd.1.2, (List.nodup_cons.1 hd.2).2⟩ (by simpa using hfl), fm_assoc, fm_comm (fi _), fm_fi hne, fm_one]
    obtain ⟨e0, he0⟩ : ∃ e0, e0 = S 0 ^^^ vs (gs.zip Xs) 0 := ⟨_, rfl⟩
    refine ⟨e0 :: gs, by simp [hgl], ?_⟩
    have key : ∀ n, n < Xs.length + 1 → vs ((e0 :: gs).zip (X :: Xs)) n = S n := by
      intro n
      induction n with
      | zero =>
        intro _
        show fm e0 (fpow X 0) ^^^ vs (gs.zip Xs) 0 = S 0
        rw [show fpow X 0 = 1 from rfl, fm_one, he0, xor_a, xor_s, xor_z]
      | succ n ihn =>
        intro hn
        have h1 := ihn (by omega)
        have h2 := hf n (by omega)
        have h3 := vs_lift X (gs.zip Xs) n
        rw [hlift, h2] at h3
        have h4 : vs (gs.zip Xs) (n + 1) = S (n + 1) ^^^ fm X (S n) ^^^ fm X (vs (gs.zip Xs) n) := by
          rw [h3, xor_a, xor_s, xor_z]
        show fm e0 (fpow X (n + 1)) ^^^ vs (gs.zip Xs) (n + 1) = S (n + 1)
        have h5 : fm e0 (fpow X n) ^^^ vs (gs.zip Xs) n = S n := h1
        rw [h4, ← h5, fm_add]
        have h6 : fm e0 (fpow X (n + 1)) = fm X (fm e0 (fpow X n)) := by
          rw [show fpow X (n + 1) = fm (fpow X n) X from rfl, ← fm_assoc, fm_comm]
        rw [h6]
        generalize fm X (fm e0 (fpow X n)) = p
        generalize fm X (vs (gs.zip Xs) n) = q
        generalize S (n + 1) = r
        rw [xor_a, xor_a, xor_s, xor_z, xor_c r p, ← xor_a, xor_s, z_xor]
    intro n hn
    exact key n (by simpa using hn)
theorem hv_set (x e : UInt8) : ∀ (s : List UInt8) (p : Nat), p < s.length → hv (s.set p (cf s p ^^^ e)) x = hv s x ^^^ fm e (fpow x (s.length - 1 - p))
  | [], p, h => by cases h
  | c :: s, 0, _ => by
    show hv ((c ^^^ e) :: s) x = _
    rw [hv_cons, hv_cons, add_fm, List.length_cons, show s.length + 1 - 1 - 0 = s.length by omega, xor_a, xor_a, xor_c (fm e _)]
  | c :: s, p + 1, h => by
    simp only [List.length_cons] at h
    show hv (c :: s.set p (cf (c :: s) (p + 1) ^^^ e)) x = _
    rw [cf_succ, hv_cons, hv_cons, List.length_set, hv_set x e s p (by omega), List.length_cons, show s.length + 1 - 1 - (p + 1) = s.length - 1 - p by omega, xor_a]
/-- A text with bytes xor-ed to it, place by place. -/
def put (s : List UInt8) : List (UInt8 × Int) → List UInt8
  | [] => s
  | q :: l => put (s.set q.2.toNat (cf s q.2.toNat ^^^ q.1)) l
theorem put_length : ∀ (l : List (UInt8 × Int)) (s : List UInt8), (put s l).length = s.length
  | [], _ => rfl
  | q :: l, s => by rw [put, put_length l, List.length_set]
theorem hv_put (n : Nat) : ∀ (l : List (UInt8 × Int)) (s : List UInt8), s.length = 255 → (∀ q ∈ l, 0 ≤ q.2 ∧ q.2 ≤ 254) → hv (put s l) (pw n) = hv s (pw n) ^^^ vs (l.map fun q => (q.1, pw (254 - q.2).toNat)) n
  | [], s, _, _ => (xor_z _).symm
  | q :: l, s, hs, h => by
    have hq := h q (by simp)
    rw [put, hv_put n l _ (by rw [List.length_set]; exact hs) fun r hr => h r (by simp [hr]), hv_set _ _ _ _ (by rw [hs]; omega), hs, List.map_cons]
    show _ = hv s (pw n) ^^^ (fm q.1 (fpow (pw (254 - q.2).toNat) n) ^^^ vs _ n)
    rw [xor_a, pw_swap (254 - q.2).toNat n, show 255 - 1 - q.2.toNat = (254 - q.2).toNat by omega]
theorem cf_put (i : Nat) : ∀ (l : List (UInt8 × Int)) (s : List UInt8), s.length = 255 → (∀ q ∈ l, 0 ≤ q.2 ∧ q.2 ≤ 254) → (∀ q ∈ l, q.2 ≠ (i : Int)) → cf (put s l) i = cf s i
  | [], _, _, _, _ => rfl
  | q :: l, s, hs, h, hn => by
    have hq := h q (by simp)
    have hi := hn q (by simp)
    rw [put, cf_put i l _ (by rw [List.length_set]; exact hs) (fun r hr => h r (by simp [hr])) (fun r hr => hn r (by simp [hr])), cf_set _ _ _ (by rw [hs]; omega), if_neg (by omega)]
theorem okp_mem {L : List Int} (h : OkP L L.length) {x : Int} (hx : x ∈ L) : 0 ≤ x ∧ x ≤ 254 := by
  obtain ⟨k, hk, e⟩ := mem_getD hx
  rw [← e]; exact (h k hk).1
theorem okp_iff (L : List Int) : OkP L L.length ↔ (∀ x ∈ L, 0 ≤ x ∧ x ≤ 254) ∧ L.Nodup := by
  constructor
  · intro h
    refine ⟨fun x hx => okp_mem h hx, ?_⟩
    rw [List.nodup_iff_pairwise_ne, List.pairwise_iff_getElem]
    intro i j hi hj hij
    have := (h j hj).2 i hij
    rw [List.getD_eq_getElem?_getD, List.getD_eq_getElem?_getD, List.getElem?_eq_getElem hi, List.getElem?_eq_getElem hj] at this
    exact this
  · intro ⟨h1, h2⟩ i hi
    refine ⟨h1 _ (getD_mem hi), fun j hj => ?_⟩
    rw [List.nodup_iff_pairwise_ne, List.pairwise_iff_getElem] at h2
    have := h2 j i (by omega) hi hj
    rw [List.getD_eq_getElem?_getD, List.getD_eq_getElem?_getD, List.getElem?_eq_getElem hi, List.getElem?_eq_getElem (by omega)]
    exact this
theorem pows_nodup {L : List Int} (h : OkP L L.length) : (L.map fun p => pw (254 - p).toNat).Nodup := by
  obtain ⟨h1, h2⟩ := (okp_iff L).1 h
  rw [List.nodup_iff_pairwise_ne, List.pairwise_map]
  rw [List.nodup_iff_pairwise_ne] at h2
  refine List.Pairwise.imp_of_mem (fun {a b} ha hb hne e => hne ?_) h2
  have := pw_inj (n := (254 - a).toNat) (m := (254 - b).toNat) (by have := h1 a ha; omega) (by have := h1 b hb; omega) e
  have := h1 a ha
  have := h1 b hb
  omega
theorem zip_map_pow (es : List UInt8) (L : List Int) : (es.zip L).map (fun q => (q.1, pw (254 - q.2).toNat)) = es.zip (L.map fun p => pw (254 - p).toNat) := by
  induction es generalizing L with
  | nil => rfl
  | cons e es ih => cases L with
    | nil => rfl
    | cons p L => simp [ih]
/-- WITH 64 PLACES LOST EVERY TEXT IS NEAR A WORD. -/
theorem erased_near {s : List UInt8} {L : List Int} (hs : s.length = 255) (hL : OkP L L.length) (h64 : L.length = 64) : ∃ v, Near s L v := by
  obtain ⟨es, hel, he⟩ := solve _ (pows_nodup hL) (fun n => hv s (pw n))
  rw [List.length_map] at hel he
  have hb : ∀ q ∈ es.zip L, 0 ≤ q.2 ∧ q.2 ≤ 254 := fun q hq => okp_mem hL (List.of_mem_zip hq).2
  refine ⟨put s (es.zip L), ⟨by rw [put_length]; exact hs, fun n hn => ?_⟩, ?_⟩
  · rw [hv_put n _ s hs hb, zip_map_pow, he n (by omega), xor_s]
  · have : dif s (put s (es.zip L)) L = 0 := by
      unfold dif
      rw [List.countP_eq_zero]
      intro i hi h
      simp only [Bool.and_eq_true, decide_eq_true_eq, Bool.not_eq_true', decide_eq_false_iff_not] at h
      exact h.1 (cf_put i _ s hs hb fun q hq e => h.2 (by rw [← e]; exact (List.of_mem_zip hq).2)).symm
    rw [this, h64]
    decide
/-- What is answered of a text with some places lost: the word, the places, the error. -/
def MAns (s : List UInt8) (L : List Int) (r : List UInt8) (ps : List Int) (e : Int) : Prop :=
  (s.length = 255 ∧ OkP L L.length ∧ ((∃ v, Near s L v ∧ r = v ∧ ps = unlAll s v ∧ e = 0) ∨ ((∀ v, ¬ Near s L v) ∧ r = [] ∧ ps = [] ∧ e = 19))) ∨ (¬ (s.length = 255 ∧ OkP L L.length) ∧ r = [] ∧ ps = [] ∧ e = 1)
theorem MAns.one {s : List UInt8} {L : List Int} {r r' : List UInt8} {ps ps' : List Int} {e e' : Int} (h : MAns s L r ps e) (h' : MAns s L r' ps' e') : r = r' ∧ ps = ps' ∧ e = e' := by
  rcases h with ⟨h1, h2, h⟩ | ⟨h1, h⟩
  · rcases h' with ⟨_, _, h'⟩ | ⟨h3, _⟩
    · rcases h with ⟨v, hv, rfl, rfl, rfl⟩ | ⟨hn, rfl, rfl, rfl⟩
      · rcases h' with ⟨u, hu, rfl, rfl, rfl⟩ | ⟨hn, _⟩
        · have := near_one hv hu
          subst this
          exact ⟨rfl, rfl, rfl⟩
        · exact absurd hv (hn _)
      · rcases h' with ⟨u, hu, _⟩ | ⟨_, rfl, rfl, rfl⟩
        · exact absurd hu (hn _)
        · exact ⟨rfl, rfl, rfl⟩
    · exact absurd ⟨h1, h2⟩ h3
  · rcases h' with ⟨h3, h4, _⟩ | ⟨_, rfl, rfl, rfl⟩
    · exact absurd ⟨h3, h4⟩ h1
    · obtain ⟨rfl, rfl, rfl⟩ := h
      exact ⟨rfl, rfl, rfl⟩
theorem MAns.found {s : List UInt8} {L : List Int} {r v : List UInt8} {ps : List Int} {e : Int} (h : MAns s L r ps e) (hs : s.length = 255) (hL : OkP L L.length) (hv : Near s L v) : r = v ∧ ps = unlAll s v ∧ e = 0 :=
  h.one (.inl ⟨hs, hL, .inl ⟨v, hv, rfl, rfl, rfl⟩⟩)
theorem MAns.args {s : List UInt8} {L : List Int} {r : List UInt8} {ps : List Int} {e : Int} (h : MAns s L r ps e) (hn : ¬ (s.length = 255 ∧ OkP L L.length)) : r = [] ∧ ps = [] ∧ e = 1 :=
  h.one (.inr ⟨hn, rfl, rfl, rfl⟩)
theorem dif_self (s : List UInt8) (L : List Int) : dif s s L = 0 := by
  unfold dif
  rw [List.countP_eq_zero]
  intro i _ h
  simp at h
theorem near_self {v : List UInt8} (hv : IsWord v) {L : List Int} (hL : L.length ≤ 64) : Near v L v := ⟨hv, by
  rw [dif_self]; unfold roomZ; rw [if_neg (by omega)]; omega⟩
theorem unl_self (a : List UInt8) : ∀ n, unl a a n = []
  | 0 => rfl
  | n + 1 => by rw [unl, unl_self a n, if_pos rfl]; rfl
end Go.Proofs.Ytdlcloenihkkgaa
