/-
  Errors of a text as polynomials, in plain mathematics: the locator and the evaluator of some places, the key equation, the bytes by the slope (Forney), roots are no more than the degree, and Euclid's steps. No program, no condition.
-/
import Derived.Test.YtdlcloenihkkgaaRsMath
namespace Go.Proofs.Ytdlcloenihkkgaa.Gf

/-- The product of 1 + X x. -/
def lamX : List UInt8 → List UInt8
  | [] => [1]
  | X :: l => pmul [1, X] (lamX l)
/-- The evaluator of bytes at places. -/
def om : List (UInt8 × UInt8) → List UInt8
  | [] => []
  | p :: l => padd (pmul [p.1] (lamX (l.map (·.2)))) (pmul [1, p.2] (om l))
def geo (X : UInt8) (n : Nat) : UInt8 := fpow X n
theorem cf_1x (X : UInt8) (n : Nat) : cf [1, X] n = if n = 0 then 1 else if n = 1 then X else 0 := by
  match n with
  | 0 => rfl
  | 1 => rfl
  | n + 2 => rfl
theorem conv_1x (X : UInt8) (g : Nat → UInt8) (n : Nat) : conv (cf [1, X]) g n = g n ^^^ (if n = 0 then 0 else fm X (g (n - 1))) := by
  cases n with
  | zero =>
    show sm 1 (fun i => fm (cf [1, X] i) (g (0 - i))) = _
    simp only [sm, z_xor, if_true, xor_z]
    exact one_fm _
  | succ n =>
    rw [conv, sm_front, sm_front, sm_zero fun i _ => by rw [show cf [1, X] (i + 1 + 1) = 0 from rfl, zero_fm], xor_z, if_neg (by omega)]
    show fm 1 _ ^^^ fm X _ = _
    rw [one_fm]; rfl
theorem conv_geo (X : UInt8) (n : Nat) : conv (cf [1, X]) (geo X) n = if n = 0 then 1 else 0 := by
  rw [conv_1x]
  cases n with
  | zero => rw [if_pos rfl, if_pos rfl, xor_z]; rfl
  | succ n =>
    rw [if_neg (by omega), if_neg (by omega)]
    show fm (fpow X n) X ^^^ fm X (fpow X n) = 0
    rw [fm_comm, xor_s]
theorem conv_c (c : UInt8) (g : Nat → UInt8) (n : Nat) : conv (cf [c]) g n = fm c (g n) := conv_const (c := c) rfl (fun i hi => cf_big (by simpa using hi)) n
theorem conv_delta (g : Nat → UInt8) (n : Nat) : conv (fun i => if i = 0 then 1 else 0) g n = g n := by
  rw [conv_const (g := fun i => if i = 0 then 1 else 0) (c := 1) (if_pos rfl) (fun i hi => if_neg (by omega)), one_fm]
theorem conv_cong {f f' g g' : Nat → UInt8} (h : ∀ i, f i = f' i) (k : ∀ i, g i = g' i) (n : Nat) : conv f g n = conv f' g' n := conv_congr (fun i _ => h i) (fun i _ => k i)
/-- THE KEY EQUATION. -/
theorem key_eq : ∀ (l : List (UInt8 × UInt8)) (n : Nat), conv (vs l) (cf (lamX (l.map (·.2)))) n = cf (om l) n
  | [], n => by
    rw [conv_comm]; exact conv_zero _ n
  | p :: l, n => by
    have ih := key_eq l
    have e1 : ∀ n, conv (vs (p :: l)) (cf (lamX ((p :: l).map (·.2)))) n = conv (cf [1, p.2]) (conv (vs (p :: l)) (cf (lamX (l.map (·.2))))) n := fun n => by
      rw [List.map_cons, lamX, conv_cong (g' := conv (cf [1, p.2]) (cf (lamX (l.map (·.2))))) (fun _ => rfl) (cf_pmul _ _), ← conv_assoc, ← conv_assoc]
      exact conv_cong (fun i => conv_comm _ _ i) (fun _ => rfl) n
    have e2 : ∀ n, conv (vs (p :: l)) (cf (lamX (l.map (·.2)))) n = conv (cf [p.1]) (conv (geo p.2) (cf (lamX (l.map (·.2))))) n ^^^ cf (om l) n := fun n => by
      rw [← ih n, ← conv_assoc, ← add_conv]
      refine conv_cong (fun i => ?_) (fun _ => rfl) n
      rw [conv_c]; rfl
    rw [e1, conv_cong (fun _ => rfl) e2, conv_add]
    show _ = cf (padd _ _) n
    rw [cf_padd, cf_pmul, cf_pmul]
    congr 1
    rw [← conv_assoc, conv_cong (fun i => conv_comm _ _ i) (fun _ => rfl), conv_assoc, ← conv_cong (fun _ => rfl) (fun i => conv_assoc _ _ _ i)]
    refine conv_cong (fun _ => rfl) (fun i => ?_) n
    rw [conv_cong (conv_geo p.2) (fun _ => rfl), conv_delta]
theorem lamX_trim : ∀ l : List UInt8, trim (lamX l) = lamX l
  | [] => trim_self fun _ => by decide
  | _ :: _ => pmul_trim _ _
theorem lamX_upto : ∀ l : List UInt8, Upto (l.length + 1) (cf (lamX l))
  | [] => fun i hi => cf_big hi
  | X :: l => fun i hi => by
    show cf (pmul _ _) i = 0
    rw [cf_pmul]
    exact Upto.conv (n := 1) (m := l.length) (fun i hi => cf_big hi) (lamX_upto l) i (by simp only [List.length_cons] at hi; omega)
theorem lamX_zero : ∀ l : List UInt8, cf (lamX l) 0 = 1
  | [] => rfl
  | X :: l => by
    show cf (pmul _ _) 0 = 1
    rw [cf_pmul, conv_1x, if_pos rfl, xor_z, lamX_zero l]
theorem om_upto : ∀ l : List (UInt8 × UInt8), Upto l.length (cf (om l))
  | [] => fun i _ => rfl
  | p :: l => fun i hi => by
    simp only [List.length_cons] at hi
    show cf (padd _ _) i = 0
    rw [cf_padd, cf_pmul, cf_pmul, conv_c, conv_1x, lamX_upto (l.map (·.2)) i (by rw [List.length_map]; omega), fm_zero, om_upto l i (by omega), if_neg (by omega), om_upto l (i - 1) (by omega), fm_zero, xor_s, xor_s]
theorem pat_1x (X x : UInt8) : pat [1, X] x = 1 ^^^ fm X x := by rw [pat_cons, pat_one, fm_comm]
theorem fi_ne {X : UInt8} (h : X ≠ 0) : fi X ≠ 0 := fun e => by
  have := fm_fi h
  rw [e, fm_zero] at this
  exact absurd this (by decide)
theorem fi_inj {X Y : UInt8} (hX : X ≠ 0) (hY : Y ≠ 0) (h : fi X = fi Y) : X = Y := by
  have e1 := fm_fi hX
  have e2 := fm_fi hY
  have e3 : fm (fm X (fi X)) Y = fm X (fm Y (fi Y)) := by rw [fm_assoc, fm_comm (fi X), h]
  rw [e1, e2, one_fm, fm_one] at e3
  exact e3.symm
theorem one_x_zero {X Y : UInt8} (hX : X ≠ 0) (h : 1 ^^^ fm Y (fi X) = 0) : Y = X := by
  have h1 := xor_eq_zero h
  have h2 := fm_fi hX
  have h3 : fm (fm Y (fi X)) X = X := by rw [← h1, one_fm]
  rw [fm_assoc, fm_comm (fi X), h2, fm_one] at h3
  exact h3
theorem lam_zero {X : UInt8} (hX : X ≠ 0) : ∀ l : List UInt8, pat (lamX l) (fi X) = 0 ↔ X ∈ l
  | [] => by rw [lamX, pat_one]; simp
  | Y :: l => by
    rw [lamX, pat_pmul, pat_1x, List.mem_cons, ← lam_zero hX l]
    constructor
    · intro h
      rcases fm_eq_zero h with h | h
      · exact .inl (one_x_zero hX h).symm
      · exact .inr h
    · rintro (h | h)
      · subst h; rw [fm_fi hX, xor_s, zero_fm]
      · rw [h, fm_zero]
theorem pslope_1x (X : UInt8) (x : UInt8) : pat (pslope [1, X]) x = X := by
  have : pslope [1, X] = trim [X] := trim_one (pslope_trim _) (trim_trim _) fun n => by
    rw [cf_pslope, cf_trim]
    match n with
    | 0 => rfl
    | n + 1 => show sc _ (cf [1, X] (n + 2)) = _; rw [show cf [1, X] (n + 2) = 0 from rfl]; unfold sc; split <;> rfl
  rw [this, pat_trim, pat_one]
theorem slope_cons (X x : UInt8) (l : List UInt8) : pat (pslope (lamX (X :: l))) x = fm X (pat (lamX l) x) ^^^ fm (1 ^^^ fm X x) (pat (pslope (lamX l)) x) := by
  rw [lamX, pslope_pmul, pat_padd, pat_pmul, pat_pmul, pslope_1x, pat_1x]
theorem om_cons (p : UInt8 × UInt8) (x : UInt8) (l : List (UInt8 × UInt8)) : pat (om (p :: l)) x = fm p.1 (pat (lamX (l.map (·.2))) x) ^^^ fm (1 ^^^ fm p.2 x) (pat (om l) x) := by
  rw [om, pat_padd, pat_pmul, pat_pmul, pat_one, pat_1x]
/-- THE BYTES BY THE SLOPE. -/
theorem forney : ∀ (l : List (UInt8 × UInt8)), (l.map (·.2)).Nodup → (∀ q ∈ l, q.2 ≠ 0) → ∀ q ∈ l, fm q.2 (pat (om l) (fi q.2)) = fm q.1 (pat (pslope (lamX (l.map (·.2)))) (fi q.2))
  | [], _, _, q, hq => by cases hq
  | p :: l, hd, hz, q, hq => by
    rw [List.map_cons, List.nodup_cons] at hd
    have hq0 := hz q hq
    rw [List.map_cons, om_cons, slope_cons]
    rcases List.mem_cons.1 hq with h | h
    · subst h
      rw [fm_fi hq0, xor_s, zero_fm, zero_fm, xor_z, xor_z, ← fm_assoc, ← fm_assoc, fm_comm q.2]
    · have ih := forney l hd.2 (fun r hr => hz r (List.mem_cons_of_mem _ hr)) q h
      have hl : pat (lamX (l.map (·.2))) (fi q.2) = 0 := (lam_zero hq0 _).2 (List.mem_map.2 ⟨q, h, rfl⟩)
      rw [hl, fm_zero, fm_zero, z_xor, z_xor, ← fm_assoc, fm_comm q.2, fm_assoc, ih, ← fm_assoc, ← fm_assoc, fm_comm q.1]
theorem slope_ne : ∀ (l : List UInt8), l.Nodup → (∀ X ∈ l, X ≠ 0) → ∀ X ∈ l, pat (pslope (lamX l)) (fi X) ≠ 0
  | [], _, _, X, hX => by cases hX
  | Y :: l, hd, hz, X, hX => by
    rw [List.nodup_cons] at hd
    have hX0 := hz X hX
    rw [slope_cons]
    rcases List.mem_cons.1 hX with h | h
    · subst h
      rw [fm_fi hX0, xor_s, zero_fm, xor_z]
      exact fm_ne hX0 fun e => hd.1 ((lam_zero hX0 l).1 e)
    · rw [(lam_zero hX0 l).2 h, fm_zero, z_xor]
      refine fm_ne (fun e => ?_) (slope_ne l hd.2 (fun r hr => hz r (List.mem_cons_of_mem _ hr)) X h)
      have := one_x_zero hX0 e
      subst this
      exact hd.1 h
theorem om_ne {l : List (UInt8 × UInt8)} (hd : (l.map (·.2)).Nodup) (hz : ∀ q ∈ l, q.2 ≠ 0) {q : UInt8 × UInt8} (hq : q ∈ l) (h1 : q.1 ≠ 0) : pat (om l) (fi q.2) ≠ 0 := fun e => by
  have h := forney l hd hz q hq
  rw [e, fm_zero] at h
  rcases fm_eq_zero h.symm with h | h
  · exact h1 h
  · exact slope_ne _ hd (fun X hX => by obtain ⟨r, hr, e⟩ := List.mem_map.1 hX; rw [← e]; exact hz r hr) _ (List.mem_map.2 ⟨q, hq, rfl⟩) h
/-- The byte at a place by the evaluator and the slope. -/
theorem forney_by {l : List (UInt8 × UInt8)} (hd : (l.map (·.2)).Nodup) (hz : ∀ q ∈ l, q.2 ≠ 0) {q : UInt8 × UInt8} (hq : q ∈ l) :
    fm (fm q.2 (pat (om l) (fi q.2))) (fi (pat (pslope (lamX (l.map (·.2)))) (fi q.2))) = q.1 := by
  have hs := slope_ne _ hd (fun X hX => by obtain ⟨r, hr, e⟩ := List.mem_map.1 hX; rw [← e]; exact hz r hr) _ (List.mem_map.2 ⟨q, hq, rfl⟩)
  rw [forney l hd hz q hq, fm_assoc, fm_fi hs, fm_one]
theorem lamX_append (a b : List UInt8) : lamX (a ++ b) = pmul (lamX a) (lamX b) := by
  induction a with
  | nil => show lamX b = pmul [1] (lamX b); rw [pmul_comm, pmul_one, lamX_trim]
  | cons X a ih => show pmul _ (lamX (a ++ b)) = pmul (pmul _ _) _; rw [ih, pmul_assoc]
/-- Values at some places, each with a factor. -/
theorem vs_pat (p : List UInt8) : ∀ l : List (UInt8 × UInt8), (∀ q ∈ l, pat p q.2 = 0) → sm p.length (fun n => fm (cf p n) (vs l n)) = 0
  | [], _ => sm_zero fun n _ => fm_zero _
  | q :: l, h => by
    have ih := vs_pat p l fun r hr => h r (List.mem_cons_of_mem _ hr)
    have h0 := h q (by simp)
    have e : sm p.length (fun n => fm (cf p n) (vs (q :: l) n)) = fm q.1 (pat p q.2) ^^^ sm p.length (fun n => fm (cf p n) (vs l n)) := by
      rw [pat, ev, sm_fm, ← sm_add]
      refine sm_congr fun n _ => ?_
      show fm (cf p n) (fm q.1 (fpow q.2 n) ^^^ vs l n) = _
      rw [fm_add, ← fm_assoc, fm_comm (cf p n), fm_assoc]
    rw [e, h0, fm_zero, ih, xor_s]
/-- What holds at each of Euclid's steps: now times T is low, but for powers from 64 on, and so is before times T high. -/
structure Euc (T hi lo bef now : List UInt8) : Prop where
  tn : trim now = now
  nn : now ≠ []
  tb : trim bef = bef
  low : ∀ n, n < 64 → conv (cf now) (cf T) n = cf lo n
  high : ∀ n, n < 64 → conv (cf bef) (cf T) n = cf hi n
  deg : (trim hi).length + now.length = 66
  less : bef.length < now.length
  fall : (trim lo).length < (trim hi).length
theorem x64_cf (n : Nat) (h : n < 64) : cf (List.replicate 64 0 ++ [1]) n = 0 := by
  unfold cf
  rw [List.getD_eq_getElem?_getD, List.getElem?_append_left (by simpa using h), List.getElem?_replicate, if_pos h]; rfl
theorem x64_top : cf (List.replicate 64 0 ++ [1]) 64 = 1 := by rfl
theorem x64_trim : trim (List.replicate 64 0 ++ [1]) = List.replicate 64 0 ++ [1] := trim_self fun _ => by
  rw [show (List.replicate 64 0 ++ [1] : List UInt8).length - 1 = 64 by simp, x64_top]; decide
theorem Euc.start {T : List UInt8} (h : T.length ≤ 64) : Euc T (List.replicate 64 0 ++ [1]) T [] [1] where
  tn := trim_self fun _ => by decide
  nn := by simp
  tb := rfl
  low n _ := by rw [conv_c, one_fm]
  high n hn := by rw [x64_cf n hn, conv_comm]; exact conv_zero _ n
  deg := by rw [x64_trim]; simp
  less := by simp
  fall := by rw [x64_trim]; have := trim_le T; simp; omega
theorem Euc.step {T hi lo bef now q r : List UInt8} (h : Euc T hi lo bef now) (hlo : trim lo ≠ []) (hq : trim q = q) (_hr : trim r = r) (hrl : r.length < (trim lo).length) (hd : padd (pmul q lo) r = trim hi) :
    Euc T lo r now (padd bef (pmul q now)) := by
  have hl0 := List.length_pos_iff.2 hlo
  have hqn : q ≠ [] := fun e => by
    have h1 := congrArg List.length hd
    rw [e, show pmul [] lo = [] by rw [pmul_comm]; exact pmul_nil lo] at h1
    have h2 := padd_length [] r
    rw [_hr] at h2
    have h3 := h.fall
    rw [show (trim []).length = 0 from rfl] at h2
    omega
  have hn0 := List.length_pos_iff.2 h.nn
  have hq0 := List.length_pos_iff.2 hqn
  have l1 := pmul_length (a := q) (b := lo) (by rw [hq]; exact hqn) hlo
  rw [hq] at l1
  have l2 := pmul_length (a := q) (b := now) (by rw [hq]; exact hqn) (by rw [h.tn]; exact h.nn)
  rw [hq, h.tn] at l2
  -- a sum of two of unlike length is as long as the longer one
  have lsum : ∀ a b : List UInt8, trim a = a → trim b = b → a.length < b.length → (padd a b).length = b.length := fun a b ha hb hab => by
    have h1 := padd_length a b
    rw [ha, hb] at h1
    have h2 : b.length - 1 < (padd a b).length := by
      rcases Nat.lt_or_ge (b.length - 1) (padd a b).length with h | h
      · exact h
      · have := cf_big h
        rw [cf_padd, cf_big (p := a) (by omega), z_xor] at this
        have hb2 : trim b ≠ [] := by rw [hb]; intro e; rw [e] at hab; exact absurd hab (Nat.not_lt_zero _)
        have h3 := trim_last hb2
        rw [hb] at h3
        exact absurd this h3
    omega
  have e1 := lsum r (pmul q lo) _hr (pmul_trim _ _) (by omega)
  rw [padd_comm, hd] at e1
  have hfall := h.fall
  have hdeg := h.deg
  have hless := h.less
  have e2 := lsum bef (pmul q now) h.tb (pmul_trim _ _) (by omega)
  refine ⟨padd_trim _ _, fun e => ?_, h.tn, fun n hn => ?_, h.low, by omega, by omega, by rw [_hr]; exact hrl⟩
  · rw [e] at e2; simp only [List.length_nil] at e2; omega
  · rw [conv_cong (cf_padd _ _) (fun _ => rfl), add_conv, h.high n hn, conv_cong (cf_pmul _ _) (fun _ => rfl), conv_assoc, conv_congr (g' := cf lo) (fun _ _ => rfl) (fun i hi => h.low i (by omega))]
    have h3 := congrArg (fun p => cf p n) hd
    simp only [cf_padd, cf_pmul, cf_trim] at h3
    rw [← h3, xor_c (conv (cf q) (cf lo) n), xor_a, xor_s, xor_z]
/-- What Euclid's steps find is 0 where the other locator is. -/
theorem euclid_roots {T lo now lamU : List UInt8} {l : List (UInt8 × UInt8)} {u nu : Nat} (hn : ∀ n, n < 64 → conv (cf now) (cf T) n = cf lo n) (hU : ∀ n, n < 64 → conv (cf lamU) (cf T) n = cf (om l) n) (hlu : Upto (u + 1) (cf lamU))
    (hl : l.length = u + nu) (hu : 2 * u + nu ≤ 64) (hlo : 2 * (trim lo).length < 64 + nu + 2) (hnow : 2 * now.length ≤ 64 - nu + 2) (hnn : 0 < now.length) (x : UInt8) : fm (pat lamU x) (pat lo x) = fm (pat now x) (pat (om l) x) := by
  have h1 : ∀ n, conv (cf lamU) (cf lo) n = conv (cf now) (cf (om l)) n := fun n => by
    by_cases hlt : n < 64
    · have e1 : conv (cf lamU) (cf lo) n = conv (cf lamU) (conv (cf now) (cf T)) n := conv_congr (fun _ _ => rfl) fun i hi => (hn i (by omega)).symm
      have e2 : conv (cf now) (cf (om l)) n = conv (cf now) (conv (cf lamU) (cf T)) n := conv_congr (fun _ _ => rfl) fun i hi => (hU i (by omega)).symm
      rw [e1, e2, ← conv_assoc, ← conv_assoc]
      exact conv_cong (fun i => conv_comm _ _ i) (fun _ => rfl) n
    · have z1 : conv (cf lamU) (cf lo) n = 0 := by
        by_cases hz : (trim lo).length = 0
        · rw [conv_congr (g' := fun _ => 0) (fun _ _ => rfl) fun i _ => trim_upto lo i (by omega)]; exact conv_zero _ n
        · exact Upto.conv (n := u) (m := (trim lo).length - 1) hlu (by rw [show (trim lo).length - 1 + 1 = (trim lo).length by omega]; exact trim_upto lo) n (by omega)
      have z2 : conv (cf now) (cf (om l)) n = 0 := by
        have ho := om_upto l
        by_cases hz : l.length = 0
        · rw [conv_congr (g' := fun _ => 0) (fun _ _ => rfl) fun i _ => ho i (by omega)]; exact conv_zero _ n
        · exact Upto.conv (n := now.length - 1) (m := l.length - 1) (by rw [show now.length - 1 + 1 = now.length by omega]; exact cf_upto now) (by rw [show l.length - 1 + 1 = l.length by omega]; exact ho) n (by omega)
      rw [z1, z2]
  have h2 : pmul lamU lo = pmul now (om l) := trim_one (pmul_trim _ _) (pmul_trim _ _) fun n => by rw [cf_pmul, cf_pmul, h1]
  rw [← pat_pmul, h2, pat_pmul]
end Go.Proofs.Ytdlcloenihkkgaa.Gf
