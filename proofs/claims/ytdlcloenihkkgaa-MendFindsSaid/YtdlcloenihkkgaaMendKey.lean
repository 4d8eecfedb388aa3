/-
  How a text that is near a word is put right, in plain mathematics: what Euclid's steps find tells all places, and the bytes by the slope are those that were turned. No program, no condition.
-/
import Derived.Test.YtdlcloenihkkgaaMendMem
import Derived.Test.YtdlcloenihkkgaaRsKey
namespace Go.Proofs.Ytdlcloenihkkgaa
open Gf
set_option maxRecDepth 100000
/-- 2 to the power of a place. -/
def px (p : Int) : UInt8 := pw (254 - p).toNat
theorem px_ne (p : Int) : px p ≠ 0 := pw_ne _
theorem fold_lam (L : List Int) : ∀ p : List UInt8, trim p = p → L.foldl (fun p n => pmul p [1, pw (254 - n).toNat]) p = pmul p (lamX (L.map px)) := by
  induction L with
  | nil => intro p hp; show p = pmul p [1]; rw [pmul_one, hp]
  | cons n L ih =>
    intro p hp
    rw [List.foldl_cons, ih _ (pmul_trim _ _), pmul_assoc]
    rfl
theorem locs_lam (L : List Int) : locs L = lamX (L.map px) := by
  rw [locs, fold_lam L [1] (trim_self fun _ => by decide), pmul_comm, pmul_one, lamX_trim]
theorem pxs_nodup {L : List Int} (h : OkP L L.length) : (L.map px).Nodup := pows_nodup h
/-- What was turned at some places, and the powers of these. -/
def errs (s v : List UInt8) (A : List Int) : List (UInt8 × UInt8) := A.map fun p => (cf s p.toNat ^^^ cf v p.toNat, px p)
theorem errs_snd (s v : List UInt8) (A : List Int) : (errs s v A).map (·.2) = A.map px := by unfold errs; rw [List.map_map]; rfl
theorem errs_length (s v : List UInt8) (A : List Int) : (errs s v A).length = A.length := List.length_map ..
theorem put_at : ∀ (l : List (UInt8 × Int)) (s : List UInt8), s.length = 255 → (∀ q ∈ l, 0 ≤ q.2 ∧ q.2 ≤ 254) → (l.map (·.2)).Nodup → ∀ q ∈ l, cf (put s l) q.2.toNat = cf s q.2.toNat ^^^ q.1
  | [], _, _, _, _, q, hq => by cases hq
  | r :: l, s, hs, hb, hd, q, hq => by
    rw [List.map_cons, List.nodup_cons] at hd
    have hr := hb r (by simp)
    have hb2 : ∀ q ∈ l, 0 ≤ q.2 ∧ q.2 ≤ 254 := fun q hq => hb q (List.mem_cons_of_mem _ hq)
    have hs2 : (s.set r.2.toNat (cf s r.2.toNat ^^^ r.1)).length = 255 := by rw [List.length_set]; exact hs
    rw [put]
    rcases List.mem_cons.1 hq with h | h
    · subst h
      rw [cf_put q.2.toNat l _ hs2 hb2 (fun t ht e => hd.1 (List.mem_map.2 ⟨t, ht, by rw [e]; omega⟩)), cf_set _ _ _ (by omega), if_pos rfl]
    · rw [put_at l _ hs2 hb2 hd.2 q h, cf_set _ _ _ (by omega), if_neg]
      intro e
      have hq2 := hb2 q h
      exact hd.1 (List.mem_map.2 ⟨q, h, by omega⟩)
theorem put_word {s v : List UInt8} {A : List Int} (hs : s.length = 255) (hv : v.length = 255) (hA : OkP A A.length) (h : ∀ i : Nat, (i : Int) ∉ A → cf s i = cf v i) : put s (A.map fun p => (cf s p.toNat ^^^ cf v p.toNat, p)) = v := by
  have hm := (okp_iff A).1 hA
  have hb : ∀ q ∈ A.map fun p => (cf s p.toNat ^^^ cf v p.toNat, p), 0 ≤ q.2 ∧ q.2 ≤ 254 := fun q hq => by
    obtain ⟨p, hp, rfl⟩ := List.mem_map.1 hq
    exact hm.1 p hp
  have hd : ((A.map fun p => (cf s p.toNat ^^^ cf v p.toNat, p)).map (·.2)).Nodup := by
    rw [List.map_map, show ((fun x : UInt8 × Int => x.2) ∘ fun p : Int => (cf s p.toNat ^^^ cf v p.toNat, p)) = id from rfl, List.map_id]; exact hm.2
  refine list_ext_cf (by rw [put_length, hs, hv]) fun i _ => ?_
  by_cases hi : (i : Int) ∈ A
  · have := put_at _ s hs hb hd (cf s (i : Int).toNat ^^^ cf v (i : Int).toNat, (i : Int)) (List.mem_map.2 ⟨_, hi, rfl⟩)
    simp only [Int.toNat_natCast] at this
    rw [this, xor_back]
  · rw [cf_put i _ s hs hb (fun q hq e => by
      obtain ⟨p, hp, rfl⟩ := List.mem_map.1 hq
      exact hi (by rw [← e]; exact hp)), h i hi]
/-- The values of a text are those of what was turned. -/
theorem synd_errs {s v : List UInt8} {A : List Int} (hs : s.length = 255) (hW : IsWord v) (hA : OkP A A.length) (h : ∀ i : Nat, (i : Int) ∉ A → cf s i = cf v i) {n : Nat} (hn : n < 64) : hv s (pw n) = vs (errs s v A) n := by
  have hm := (okp_iff A).1 hA
  have e := hv_put n (A.map fun p => (cf s p.toNat ^^^ cf v p.toNat, p)) s hs (fun q hq => by
    obtain ⟨p, hp, rfl⟩ := List.mem_map.1 hq
    exact hm.1 p hp)
  rw [put_word hs hW.1 hA h, hW.2 n hn, List.map_map] at e
  exact xor_eq_zero e.symm
/-- Roots are no more than the degree. -/
theorem roots_le {p : List UInt8} (ht : trim p = p) (hn : p ≠ []) {Xs : List UInt8} (hd : Xs.Nodup) (h : ∀ x ∈ Xs, pat p x = 0) : Xs.length < p.length := by
  have hp0 := List.length_pos_iff.2 hn
  rcases Nat.lt_or_ge Xs.length p.length with hlt | hge
  · exact hlt
  · exfalso
    obtain ⟨es, hel, he⟩ := solve Xs hd (fun n => if n = p.length - 1 then 1 else 0)
    have h1 := vs_pat p (es.zip Xs) fun q hq => h q.2 (List.of_mem_zip hq).2
    rw [sm_one (k := p.length - 1) (by omega) (fun i hi hne => by rw [he i (by omega), if_neg hne, fm_zero]), he _ (by omega), if_pos rfl, fm_one] at h1
    have := trim_last (p := p) (by rw [ht]; exact hn)
    rw [ht] at this
    exact this h1
/-- Is this place lost, or one that the locator of others tells? -/
def hitB (L : List Int) (q : List UInt8) (n : Nat) : Bool := decide ((n : Int) ∈ L) || decide (pat q (fi (px n)) = 0)
def plc (L : List Int) (q : List UInt8) : Nat → List Int
  | 0 => []
  | n + 1 => plc L q n ++ (if hitB L q n then [(n : Int)] else [])
theorem plc_mem {L : List Int} {q : List UInt8} : ∀ {n : Nat} {x : Int}, x ∈ plc L q n ↔ ∃ i : Nat, i < n ∧ (i : Int) = x ∧ hitB L q i = true
  | 0, x => by simp [plc]
  | n + 1, x => by
    rw [plc, List.mem_append, plc_mem]
    constructor
    · rintro (⟨i, h1, h2, h3⟩ | h)
      · exact ⟨i, by omega, h2, h3⟩
      · by_cases e : hitB L q n = true
        · rw [if_pos e, List.mem_singleton] at h
          exact ⟨n, by omega, h.symm, e⟩
        · rw [if_neg e] at h; cases h
    · rintro ⟨i, h1, h2, h3⟩
      by_cases e : i = n
      · subst e; right; rw [if_pos h3]; simp [h2]
      · exact .inl ⟨i, by omega, h2, h3⟩
theorem plc_nodup (L : List Int) (q : List UInt8) : ∀ n, (plc L q n).Nodup
  | 0 => List.nodup_nil
  | n + 1 => by
    rw [plc]
    by_cases e : hitB L q n = true
    · rw [if_pos e, List.nodup_append]
      refine ⟨plc_nodup L q n, by simp, fun a ha b hb => ?_⟩
      rw [List.mem_singleton] at hb
      obtain ⟨i, hi, rfl, _⟩ := plc_mem.1 ha
      omega
    · rw [if_neg e, List.append_nil]; exact plc_nodup L q n
theorem plc_ok (L : List Int) (q : List UInt8) {n : Nat} (hn : n ≤ 255) : OkP (plc L q n) (plc L q n).length := by
  rw [okp_iff]
  refine ⟨fun x hx => ?_, plc_nodup L q n⟩
  obtain ⟨i, hi, rfl, _⟩ := plc_mem.1 hx
  omega
theorem plc_count (L : List Int) (q : List UInt8) : ∀ n, (plc L q n).length = (List.range n).countP (hitB L q)
  | 0 => rfl
  | n + 1 => by
    rw [plc, List.length_append, plc_count L q n, List.range_succ, List.countP_append]
    congr 1
    by_cases e : hitB L q n = true
    · rw [if_pos e]; simp [e]
    · rw [if_neg e]; simp [e]
theorem roots_count {q : List UInt8} (ht : trim q = q) (hq : q ≠ []) {n : Nat} (hn : n ≤ 255) : (List.range n).countP (fun i : Nat => decide (pat q (fi (px i)) = 0)) < q.length := by
  rw [List.countP_eq_length_filter]
  have := roots_le ht hq (Xs := ((List.range n).filter fun i : Nat => decide (pat q (fi (px i)) = 0)).map fun i : Nat => fi (px i)) (by
    rw [List.nodup_iff_pairwise_ne, List.pairwise_map]
    refine List.Pairwise.imp_of_mem (fun {a b} ha hb hne e => hne ?_) (List.nodup_iff_pairwise_ne.1 (List.nodup_range.sublist List.filter_sublist))
    have h1 := List.mem_range.1 (List.mem_filter.1 ha).1
    have h2 := List.mem_range.1 (List.mem_filter.1 hb).1
    have h3 := pw_inj (by omega) (by omega) (fi_inj (px_ne _) (px_ne _) e)
    omega) (fun x hx => by
      obtain ⟨i, hi, rfl⟩ := List.mem_map.1 hx
      simpa using (List.mem_filter.1 hi).2)
  rw [List.length_map] at this
  exact this
theorem plc_le {L : List Int} {q : List UInt8} (ht : trim q = q) (hq : q ≠ []) {n : Nat} (hn : n ≤ 255) : (plc L q n).length < L.length + q.length := by
  rw [plc_count]
  have h1 := count_or (p := hitB L q) (q := fun i : Nat => decide ((i : Int) ∈ L)) (r := fun i : Nat => decide (pat q (fi (px i)) = 0)) (List.range n) fun i _ h => by
    unfold hitB at h; rw [Bool.or_eq_true] at h; exact h
  have h2 := count_in L (List.range n) List.nodup_range
  have h3 := roots_count ht hq hn
  omega
theorem plc_more (L : List Int) (q : List UInt8) (n : Nat) : ∀ k, ∃ r, plc L q (n + k) = plc L q n ++ r
  | 0 => ⟨[], by simp⟩
  | k + 1 => by
    obtain ⟨r, hr⟩ := plc_more L q n k
    exact ⟨r ++ (if hitB L q (n + k) then [((n + k : Nat) : Int)] else []), by rw [← Nat.add_assoc, plc, hr, List.append_assoc]⟩
/-- As many as there may be: no other follows. -/
theorem plc_full {L : List Int} {q : List UInt8} (ht : trim q = q) (hq : q ≠ []) {n : Nat} (hn : n ≤ 255) (h : (plc L q n).length + 1 = L.length + q.length) : plc L q n = plc L q 255 := by
  obtain ⟨r, hr⟩ := plc_more L q n (255 - n)
  rw [show n + (255 - n) = 255 by omega] at hr
  have hl := plc_le (L := L) ht hq (Nat.le_refl 255)
  rw [hr, List.length_append] at hl
  have : r = [] := List.length_eq_zero_iff.1 (by omega)
  rw [hr, this, List.append_nil]
/-- The powers of a product below 64. -/
def low64 (a b : List UInt8) : List UInt8 := (pmul a b).take 64
theorem low64_length (a b : List UInt8) : (low64 a b).length ≤ 64 := by unfold low64; rw [List.length_take]; omega
theorem cf_low64 (a b : List UInt8) (n : Nat) : cf (low64 a b) n = if n < 64 then conv (cf a) (cf b) n else 0 := by
  unfold low64
  by_cases h : n < 64
  · rw [if_pos h, ← cf_pmul]; unfold cf; rw [List.getD_eq_getElem?_getD, List.getD_eq_getElem?_getD, List.getElem?_take_of_lt h]
  · rw [if_neg h]; exact cf_big (by rw [List.length_take]; omega)
/-- The byte that is to be put at a place. -/
def byAt (S : List UInt8) (A : List Int) (p : Int) : UInt8 := fm (fm (px p) (pat (low64 S (locs A)) (fi (px p)))) (fi (pat (pslope (locs A)) (fi (px p))))
def trn (S : List UInt8) (A B : List Int) : List (UInt8 × Int) := (B.map fun p => (byAt S A p, p)).filter fun q => q.1 != 0
theorem synd_cf (s : List UInt8) {n : Nat} (h : n < 64) : cf (synd s) n = hv s (pw n) := by rw [synd, cf_row, if_pos h]
/-- THE BYTES AT PLACES THAT HAVE ALL THAT WAS TURNED. -/
theorem by_errs {s v : List UInt8} {A : List Int} (hs : s.length = 255) (hv : IsWord v) (hA : OkP A A.length) (hA64 : A.length ≤ 64) (h : ∀ i : Nat, (i : Int) ∉ A → cf s i = cf v i) {p : Int} (hp : p ∈ A) : byAt (synd s) A p = cf s p.toNat ^^^ cf v p.toNat := by
  have hz : ∀ q ∈ errs s v A, q.2 ≠ 0 := fun q hq => by
    obtain ⟨p, _, rfl⟩ := List.mem_map.1 hq
    exact px_ne p
  have hf := forney_by (l := errs s v A) (by rw [errs_snd]; exact pxs_nodup hA) hz (q := (cf s p.toNat ^^^ cf v p.toNat, px p)) (List.mem_map.2 ⟨p, hp, rfl⟩)
  rw [errs_snd, ← locs_lam] at hf
  have e : ∀ n, cf (low64 (synd s) (locs A)) n = cf (om (errs s v A)) n := fun n => by
    rw [cf_low64]
    by_cases hn : n < 64
    · rw [if_pos hn, ← key_eq, errs_snd, ← locs_lam]
      exact conv_congr (fun i hi => by rw [synd_cf s (by omega)]; exact synd_errs hs hv hA h (by omega)) (fun _ _ => rfl)
    · rw [if_neg hn, om_upto _ n (by rw [errs_length]; omega)]
  unfold byAt
  rw [pat_cf e]
  exact hf
theorem put_filter : ∀ (l : List (UInt8 × Int)) (s : List UInt8), s.length = 255 → (∀ q ∈ l, 0 ≤ q.2 ∧ q.2 ≤ 254) → put s (l.filter fun q => q.1 != 0) = put s l
  | [], _, _, _ => rfl
  | q :: l, s, hs, hb => by
    have hq := hb q (by simp)
    have hb2 : ∀ q ∈ l, 0 ≤ q.2 ∧ q.2 ≤ 254 := fun q hq => hb q (List.mem_cons_of_mem _ hq)
    rw [List.filter_cons]
    by_cases e : q.1 = 0
    · rw [if_neg (by simp [e]), put, e, xor_z]
      have : s.set q.2.toNat (cf s q.2.toNat) = s := list_ext_cf (by rw [List.length_set]) fun i _ => by
        rw [cf_set _ _ _ (by omega)]
        by_cases h : i = q.2.toNat
        · rw [if_pos h, h]
        · rw [if_neg h]
      rw [this]; exact put_filter l s hs hb2
    · rw [if_pos (by simpa using e), put, put, put_filter l _ (by rw [List.length_set]; exact hs) hb2]
theorem trn_mem {S : List UInt8} {A B : List Int} {q : UInt8 × Int} : q ∈ trn S A B ↔ q.2 ∈ B ∧ q.1 = byAt S A q.2 ∧ q.1 ≠ 0 := by
  unfold trn
  rw [List.mem_filter, List.mem_map]
  constructor
  · rintro ⟨⟨p, hp, rfl⟩, h⟩
    exact ⟨hp, rfl, by simpa using h⟩
  · rintro ⟨h1, h2, h3⟩
    exact ⟨⟨q.2, h1, by rw [← h2]⟩, by simpa using h3⟩
theorem trn_places (S : List UInt8) (A B : List Int) : (trn S A B).map (·.2) = B.filter fun p => byAt S A p != 0 := by
  unfold trn
  induction B with
  | nil => rfl
  | cons p B ih =>
    rw [List.map_cons, List.filter_cons, List.filter_cons]
    by_cases e : byAt S A p = 0
    · simp only [e, bne_self_eq_false]; simpa using ih
    · rw [if_pos (by simpa using e), if_pos (by simpa using e), List.map_cons, ih]
theorem trn_nodup {S : List UInt8} {A B : List Int} (hB : B.Nodup) : ((trn S A B).map (·.2)).Nodup := by
  rw [trn_places]; exact hB.sublist List.filter_sublist
/-- At which places a text and what is made of it are unlike. -/
theorem trn_unl {S s : List UInt8} {A : List Int} {L : List Int} {q : List UInt8} (hs : s.length = 255) : unlAll s (put s (trn S A (plc L q 255))) = (trn S A (plc L q 255)).map (·.2) := by
  have hb : ∀ r ∈ trn S A (plc L q 255), 0 ≤ r.2 ∧ r.2 ≤ 254 := fun r hr => by
    obtain ⟨i, hi, e, _⟩ := plc_mem.1 (trn_mem.1 hr).1
    omega
  have hin : ∀ n, n < 255 → (cf s n ≠ cf (put s (trn S A (plc L q 255))) n ↔ hitB L q n = true ∧ byAt S A n ≠ 0) := fun n hn => by
    constructor
    · intro h
      by_cases hm : (n : Int) ∈ (trn S A (plc L q 255)).map (·.2)
      · obtain ⟨r, hr, e⟩ := List.mem_map.1 hm
        obtain ⟨h1, h2, h3⟩ := trn_mem.1 hr
        obtain ⟨i, hi, e2, h4⟩ := plc_mem.1 h1
        have : i = n := by omega
        subst this
        exact ⟨h4, by rw [e2, ← h2]; exact h3⟩
      · exact absurd (cf_put n _ s hs hb fun r hr e => hm (List.mem_map.2 ⟨r, hr, e⟩)).symm h
    · rintro ⟨h1, h2⟩ e
      have := put_at _ s hs hb (trn_nodup (plc_nodup L q 255)) (byAt S A n, (n : Int)) (trn_mem.2 ⟨plc_mem.2 ⟨n, hn, rfl, h1⟩, rfl, h2⟩)
      simp only [Int.toNat_natCast] at this
      rw [← e] at this
      have h3 := congrArg (fun x => cf s n ^^^ x) this
      simp only [xor_s, xor_back] at h3
      exact h2 h3.symm
  rw [trn_places, unlAll, hs]
  generalize put s (trn S A (plc L q 255)) = V at hin
  have key : ∀ n, n ≤ 255 → unl s V n = (plc L q n).filter fun p => byAt S A p != 0 := by
    intro n
    induction n with
    | zero => intro _; rfl
    | succ n ih =>
      intro hn
      rw [unl, plc, List.filter_append, ih (by omega)]
      congr 1
      have h := hin n (by omega)
      by_cases e : cf s n = cf V n
      · rw [if_pos e]
        by_cases h1 : hitB L q n = true
        · rw [if_pos h1]
          have h2 : byAt S A n = 0 := Classical.byContradiction fun h2 => h.2 ⟨h1, h2⟩ e
          simp [h2]
        · rw [if_neg h1]; rfl
      · obtain ⟨h1, h2⟩ := h.1 e
        rw [if_neg e, if_pos h1]
        simp [h2]
  exact key 255 (Nat.le_refl _)
/-- What is asked of the locator of others. -/
structure Unk (s : List UInt8) (L : List Int) (q : List UInt8) : Prop where
  tr : trim q = q
  nn : q ≠ []
  few : 2 * q.length ≤ 64 - L.length + 2
  all : ∀ v, Near s L v → ∀ i : Nat, i < 255 → (i : Int) ∉ L → cf s i ≠ cf v i → pat q (fi (px i)) = 0
theorem Unk.plc64 {s : List UInt8} {L : List Int} {q : List UInt8} (h : Unk s L q) (hL : L.length ≤ 64) : (plc L q 255).length ≤ 64 := by
  have h1 := plc_le (L := L) h.tr h.nn (Nat.le_refl 255)
  have h2 := h.few
  omega
/-- WHAT IS NEAR IS FOUND. -/
theorem Unk.finds {s : List UInt8} {L : List Int} {q : List UInt8} (h : Unk s L q) (hs : s.length = 255) (hL : L.length ≤ 64) {v : List UInt8} (hv : Near s L v) : put s (trn (synd s) (plc L q 255) (plc L q 255)) = v := by
  have hA := plc_ok L q (Nat.le_refl 255)
  have hout : ∀ i : Nat, (i : Int) ∉ plc L q 255 → cf s i = cf v i := fun i hi => by
    by_cases h255 : i < 255
    · refine Classical.byContradiction fun hne => hi (plc_mem.2 ⟨i, h255, rfl, ?_⟩)
      unfold hitB
      by_cases hm : (i : Int) ∈ L
      · simp [hm]
      · simp [h.all v hv i h255 hm hne]
    · rw [cf_big (p := s) (by omega), cf_big (p := v) (by rw [hv.1.1]; omega)]
  unfold trn
  rw [put_filter _ s hs (fun r hr => by
    obtain ⟨p, hp, rfl⟩ := List.mem_map.1 hr
    exact ((okp_iff _).1 hA).1 p hp)]
  rw [List.map_congr_left (g := fun p => (cf s p.toNat ^^^ cf v p.toNat, p)) (fun p hp => by rw [by_errs hs hv.1 hA (h.plc64 hL) hout hp])]
  exact put_word hs hv.1.1 hA hout
/-- WHAT IS FOUND, IF IT IS A WORD, IS NEAR. -/
theorem Unk.near {S s : List UInt8} {L A : List Int} {q : List UInt8} (h : Unk s L q) (hs : s.length = 255) (hL : L.length ≤ 64) (hw : IsWord (put s (trn S A (plc L q 255)))) : Near s L (put s (trn S A (plc L q 255))) := by
  refine ⟨hw, ?_⟩
  have hb : ∀ r ∈ trn S A (plc L q 255), 0 ≤ r.2 ∧ r.2 ≤ 254 := fun r hr => by
    obtain ⟨i, hi, e, _⟩ := plc_mem.1 (trn_mem.1 hr).1
    omega
  have h1 : dif s (put s (trn S A (plc L q 255))) L ≤ (List.range 255).countP (fun i : Nat => decide (pat q (fi (px i)) = 0)) := by
    unfold dif
    refine count_le _ fun i _ hp => ?_
    simp only [Bool.and_eq_true, decide_eq_true_eq, Bool.not_eq_true', decide_eq_false_iff_not] at hp ⊢
    refine Classical.byContradiction fun hr => hp.1 (cf_put i _ s hs hb fun r hr2 e => ?_).symm
    obtain ⟨j, hj, e2, h3⟩ := plc_mem.1 (trn_mem.1 hr2).1
    have : j = i := by omega
    subst this
    unfold hitB at h3
    simp [hp.2, hr] at h3
  have h2 := roots_count h.tr h.nn (Nat.le_refl 255)
  have h3 := h.few
  have h4 : roomZ L.length = (64 - (L.length : Int)) / 2 := by unfold roomZ; rw [if_neg (by omega)]
  rw [h4]
  omega
theorem Unk.answer {s : List UInt8} {L : List Int} {q : List UInt8} (h : Unk s L q) (hs : s.length = 255) (hL : L.length ≤ 64) (hok : OkP L L.length) (hw : IsWord (put s (trn (synd s) (plc L q 255) (plc L q 255)))) :
    MAns s L (put s (trn (synd s) (plc L q 255) (plc L q 255))) ((trn (synd s) (plc L q 255) (plc L q 255)).map (·.2)) 0 :=
  .inl ⟨hs, hok, .inl ⟨_, h.near hs hL hw, rfl, (trn_unl hs).symm, rfl⟩⟩
theorem Unk.none {s : List UInt8} {L : List Int} {q : List UInt8} (h : Unk s L q) (hs : s.length = 255) (hL : L.length ≤ 64) (hok : OkP L L.length) (hw : ¬ IsWord (put s (trn (synd s) (plc L q 255) (plc L q 255)))) : MAns s L [] [] 19 :=
  .inl ⟨hs, hok, .inr ⟨fun v hv => hw (by rw [h.finds hs hL hv]; exact hv.1), rfl, rfl, rfl⟩⟩
/-- WHAT EUCLID'S STEPS END WITH. -/
theorem Unk.euclid {s : List UInt8} {L : List Int} {hi lo bef now : List UInt8} (hs : s.length = 255) (hL : L.length ≤ 64) (hok : OkP L L.length) (h : Euc (low64 (synd s) (locs L)) hi lo bef now)
    (hhi : 64 + L.length + 2 ≤ 2 * (trim hi).length) (hlo : 2 * (trim lo).length < 64 + L.length + 2) : Unk s L now := by
  have hdeg := h.deg
  refine ⟨h.tn, h.nn, by omega, fun v hv i hi255 hiL hne => ?_⟩
  obtain ⟨hm, hd⟩ := (okp_iff L).1 hok
  obtain ⟨U, hU⟩ : ∃ U : List Int, U = ((List.range 255).filter fun i => decide (cf s i ≠ cf v i) && !decide ((i : Int) ∈ L)).map fun i : Nat => (i : Int) := ⟨_, rfl⟩
  have hUmem : ∀ x, x ∈ U ↔ ∃ j : Nat, j < 255 ∧ (j : Int) = x ∧ cf s j ≠ cf v j ∧ (j : Int) ∉ L := fun x => by
    rw [hU, List.mem_map]
    constructor
    · rintro ⟨j, hj, rfl⟩
      rw [List.mem_filter, List.mem_range] at hj
      simp only [Bool.and_eq_true, decide_eq_true_eq, Bool.not_eq_true', decide_eq_false_iff_not] at hj
      exact ⟨j, hj.1, rfl, hj.2⟩
    · rintro ⟨j, h1, rfl, h2⟩
      refine ⟨j, ?_, rfl⟩
      rw [List.mem_filter, List.mem_range]
      simp only [Bool.and_eq_true, decide_eq_true_eq, Bool.not_eq_true', decide_eq_false_iff_not]
      exact ⟨h1, h2⟩
  have hUl : (U.length : Int) ≤ roomZ L.length := by
    have e : U.length = dif s v L := by rw [hU, List.length_map, dif, List.countP_eq_length_filter]
    rw [e]; exact hv.2
  have hroom : roomZ L.length = (64 - (L.length : Int)) / 2 := by unfold roomZ; rw [if_neg (by omega)]
  rw [hroom] at hUl
  have hUd : U.Nodup := by
    rw [hU, List.nodup_iff_pairwise_ne, List.pairwise_map]
    refine List.Pairwise.imp (fun {a b} hne e => hne (by omega)) (List.nodup_iff_pairwise_ne.1 (List.nodup_range.sublist List.filter_sublist))
  have hA : OkP (U ++ L) (U ++ L).length := by
    rw [okp_iff]
    refine ⟨fun x hx => ?_, ?_⟩
    · rcases List.mem_append.1 hx with hx | hx
      · obtain ⟨j, h1, rfl, _⟩ := (hUmem x).1 hx
        omega
      · exact hm x hx
    · rw [List.nodup_append]
      refine ⟨hUd, hd, fun a ha b hb e => ?_⟩
      obtain ⟨j, _, rfl, _, h3⟩ := (hUmem a).1 ha
      rw [e] at h3
      exact h3 hb
  have hout : ∀ j : Nat, (j : Int) ∉ U ++ L → cf s j = cf v j := fun j hj => by
    rw [List.mem_append, not_or] at hj
    by_cases h255 : j < 255
    · exact Classical.byContradiction fun hne => hj.1 ((hUmem _).2 ⟨j, h255, rfl, hne, hj.2⟩)
    · rw [cf_big (p := s) (by omega), cf_big (p := v) (by rw [hv.1.1]; omega)]
  have hkey : ∀ n, n < 64 → conv (cf (lamX (U.map px))) (cf (low64 (synd s) (locs L))) n = cf (om (errs s v (U ++ L))) n := fun n hn => by
    rw [← key_eq, errs_snd, List.map_append, lamX_append, ← locs_lam L]
    rw [conv_congr (g' := conv (vs (errs s v (U ++ L))) (cf (locs L))) (fun _ _ => rfl) (fun j hj => by
      rw [cf_low64, if_pos (by omega)]
      exact conv_congr (fun k hk => by rw [synd_cf s (by omega)]; exact synd_errs hs hv.1 hA hout (by omega)) (fun _ _ => rfl))]
    rw [conv_cong (fun _ => rfl) (cf_pmul _ _), ← conv_assoc, ← conv_assoc]
    exact conv_cong (fun j => conv_comm _ _ j) (fun _ => rfl) n
  have hz : ∀ q ∈ errs s v (U ++ L), q.2 ≠ 0 := fun q hq => by
    obtain ⟨p, _, rfl⟩ := List.mem_map.1 hq
    exact px_ne p
  have hiU : (i : Int) ∈ U := (hUmem _).2 ⟨i, hi255, rfl, hne, hiL⟩
  have hro := euclid_roots (u := U.length) (nu := L.length) h.low hkey (by have := lamX_upto (U.map px); rwa [List.length_map] at this) (by rw [errs_length, List.length_append]) (by omega) hlo (by omega) (List.length_pos_iff.2 h.nn) (fi (px i))
  rw [(lam_zero (px_ne i) (U.map px)).2 (List.mem_map.2 ⟨_, hiU, rfl⟩), zero_fm] at hro
  rcases fm_eq_zero hro.symm with h1 | h1
  · exact h1
  · exfalso
    refine om_ne (l := errs s v (U ++ L)) (by rw [errs_snd]; exact pxs_nodup hA) hz (q := (cf s i ^^^ cf v i, px i)) (List.mem_map.2 ⟨(i : Int), List.mem_append_left _ hiU, rfl⟩) (fun e => hne (xor_eq_zero e)) h1
end Go.Proofs.Ytdlcloenihkkgaa
