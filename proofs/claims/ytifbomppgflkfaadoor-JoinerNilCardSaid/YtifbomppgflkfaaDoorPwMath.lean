/-
  Where the bytes of sections stand in packets, as mathematics: what is left, and which sections are begun, packet by packet. No function of the program.
-/
import Derived.Test.YtifbomppgflkfaaDoorPrMath
namespace Go.Proofs.YtifbomppgflkfaaDoor.Pr
open Gf Pk
set_option maxRecDepth 100000
/-- Which sections are begun by so many bytes: their number, and that all but the last one lie before the end. -/
theorem eat_adv : ∀ (ns : List Nat) (m : Nat), m ≤ ns.sum → (∀ n ∈ ns, 1 ≤ n) → ∃ c, c ≤ ns.length ∧ (eat ns m).2 = ns.drop c ∧ (ns.take c).sum = m + (eat ns m).1 ∧ (∀ j, j < c → (ns.take j).sum < m) ∧ (0 < m → 0 < c)
  | [], m, h, _ => ⟨0, Nat.le_refl _, rfl, by simp at h; subst h; rfl, fun j hj => by omega, fun h0 => by simp at h; omega⟩
  | n :: t, m, h, hp => by
    by_cases h0 : m = 0
    · subst h0
      rw [eat_zero]
      exact ⟨0, Nat.zero_le _, rfl, rfl, fun j hj => by omega, fun h0 => by omega⟩
    · by_cases h1 : m < n
      · rw [eat_less t h0 h1]
        refine ⟨1, by rw [List.length_cons]; omega, rfl, ?_, fun j hj => ?_, fun _ => by omega⟩
        · show (n :: List.take 0 t).sum = m + (n - m)
          rw [List.take_zero, List.sum_cons, List.sum_nil]; omega
        · obtain rfl : j = 0 := by omega
          show 0 < m; omega
      · rw [eat_more t h0 h1]
        rw [List.sum_cons] at h
        obtain ⟨c, c1, c2, c3, c4, _⟩ := eat_adv t (m - n) (by omega) fun x hx => hp x (List.mem_cons_of_mem _ hx)
        refine ⟨c + 1, by rw [List.length_cons]; omega, by rw [c2]; rfl, ?_, fun j hj => ?_, fun _ => by omega⟩
        · rw [List.take_succ_cons, List.sum_cons, c3]; omega
        · match j with
          | 0 => show 0 < m; omega
          | j + 1 =>
            rw [List.take_succ_cons, List.sum_cons]
            have := c4 j (by omega)
            omega
/-- How many bytes the first sections have. -/
def pre (L : List (List UInt8)) (k : Nat) : Nat := ((L.map List.length).take k).sum
theorem pre_zero (L : List (List UInt8)) : pre L 0 = 0 := by simp [pre]
theorem pre_succ (L : List (List UInt8)) {k : Nat} (h : k < L.length) : pre L (k + 1) = pre L k + L[k].length := by
  unfold pre
  rw [List.take_add_one, List.getElem?_map, List.getElem?_eq_getElem h, List.sum_append]
  simp
theorem pre_all (L : List (List UInt8)) : pre L L.length = L.flatten.length := by
  unfold pre
  rw [List.take_of_length_le (by rw [List.length_map]; exact Nat.le_refl _), List.length_flatten]
theorem pre_flat (L : List (List UInt8)) (k : Nat) : (L.take k).flatten.length = pre L k := by
  unfold pre; rw [List.length_flatten, List.map_take]
theorem pre_add (L : List (List UInt8)) (b c : Nat) : pre L (b + c) = pre L b + (((L.map List.length).drop b).take c).sum := by
  unfold pre; rw [List.take_add, List.sum_append]
/-- Ahead of packet i: so many bytes are gone, so many sections are begun, r bytes are left of the last one. -/
structure PwSt (L : List (List UInt8)) (i a b r : Nat) : Prop where
  ji : i ≤ (bodies L).length
  jd : (bodies L).drop i = bd (L.flatten.drop a) r ((L.map List.length).drop b)
  ja : a ≤ L.flatten.length
  jb : b ≤ L.length
  jp : a + r = pre L b
theorem PwSt.start (L : List (List UInt8)) : PwSt L 0 0 0 0 := ⟨Nat.zero_le _, by rw [bodies_bd]; rfl, Nat.zero_le _, Nat.zero_le _, by rw [pre_zero]⟩
theorem PwSt.fits {L : List (List UInt8)} {i a b r : Nat} (h : PwSt L i a b r) (hL : ∀ s ∈ L, 1 ≤ s.length ∧ s.length ≤ 4096) (hr : r ≤ 4096) : Fits (L.flatten.drop a).length r ((L.map List.length).drop b) := by
  refine ⟨?_, hr, fun n hn => ?_⟩
  · have h1 := h.jp
    have h2 := pre_all L
    have h3 : pre L b + ((L.map List.length).drop b).sum = pre L L.length := by
      unfold pre
      rw [← List.sum_append, List.take_append_drop, List.take_of_length_le (by rw [List.length_map]; exact Nat.le_refl _)]
    have h4 := h.ja
    rw [List.length_drop]; omega
  · obtain ⟨s, hs, rfl⟩ := List.mem_map.1 (List.mem_of_mem_drop hn)
    exact hL s hs
/-- Where the packets end all bytes are gone. -/
theorem PwSt.done {L : List (List UInt8)} {i a b r : Nat} (h : PwSt L i a b r) (hi : ¬ i < (bodies L).length) : a = L.flatten.length := by
  have h1 : (bodies L).drop i = [] := List.drop_eq_nil_of_le (by omega)
  rw [h.jd] at h1
  refine Classical.byContradiction fun x => ?_
  have h2 : L.flatten.drop a ≠ [] := fun e => by
    have := congrArg List.length e
    rw [List.length_drop, List.length_nil] at this
    have := h.ja; omega
  by_cases k : 183 ≤ r
  · rw [bd_mid h2 k] at h1; cases h1
  · by_cases h0 : 0 < r ∧ (L.map List.length).drop b = []
    · rw [h0.2, bd_end h2 k h0.1] at h1; cases h1
    · rw [bd_start h2 k h0] at h1; cases h1
/-- What a packet is: k bytes of the sections stand in it, as its body's bytes from the place o on, and bytes 255 behind them. -/
structure PwBody (L : List (List UInt8)) (a : Nat) (q : Bool × List UInt8) (k : Nat) : Prop where
  kl : q.2.length ≤ 184 ∧ 183 ≤ q.2.length
  ka : a + k ≤ L.flatten.length
  kt : (q.2.drop (if q.1 then 1 else 0)).take k = (L.flatten.drop a).take k
  ke : k = min (q.2.length - (if q.1 then 1 else 0)) (L.flatten.length - a)
  kz : ∀ j, k ≤ j → j < q.2.length - (if q.1 then 1 else 0) → cf (q.2.drop (if q.1 then 1 else 0)) j = 255
theorem f184_cf {b : List UInt8} {j : Nat} (h1 : b.length ≤ j) (h2 : j < 184) : cf (f184 b) j = 255 := by
  unfold f184 cf
  rw [List.getD_eq_getElem?_getD, List.getElem?_append_right h1, List.getElem?_replicate, if_pos (by omega)]; rfl
theorem drop_ne {l : List UInt8} {a : Nat} (h : a < l.length) : l.drop a ≠ [] := fun e => by
  have := congrArg List.length e
  rw [List.length_drop, List.length_nil] at this; omega
theorem PwSt.step {L : List (List UInt8)} {i a b r : Nat} (h : PwSt L i a b r) (hL : ∀ s ∈ L, 1 ≤ s.length ∧ s.length ≤ 4096) (hr : r ≤ 4096) (hi : i < (bodies L).length) :
    a < L.flatten.length ∧ ∃ k b' r', PwBody L a (bodies L)[i] k ∧ r' ≤ 4096 ∧ PwSt L (i + 1) (a + k) b' r' ∧ b ≤ b' ∧ (∀ j, b ≤ j → j < b' → pre L j < a + k) ∧
      (if (bodies L)[i].1 then b < L.length ∧ r ≤ 182 ∧ b < b' ∧ cf (bodies L)[i].2 0 = UInt8.ofNat r else b' = b) := by
  have hd := h.jd
  have he : (bodies L).drop i = (bodies L)[i] :: (bodies L).drop (i + 1) := List.drop_eq_getElem_cons hi
  rw [he] at hd
  have ha : a < L.flatten.length := by
    refine Classical.byContradiction fun x => ?_
    rw [show L.flatten.drop a = [] from List.drop_eq_nil_of_le (by omega), bd_nil] at hd; cases hd
  have h2 := drop_ne ha
  have hF := h.fits hL hr
  have hlen : (L.flatten.drop a).length = L.flatten.length - a := List.length_drop
  refine ⟨ha, ?_⟩
  have hp := h.jp
  by_cases k : 183 ≤ r
  · rw [bd_mid h2 k] at hd
    injection hd with e1 e2
    have hrl : r ≤ L.flatten.length - a := by have := hF.1; omega
    refine ⟨min r 184, b, r - min r 184, ?_, by omega, ⟨by omega, ?_, by omega, h.jb, by omega⟩, Nat.le_refl _, fun j h1 h2 => by omega, ?_⟩
    · rw [e1]
      have hl : ((L.flatten.drop a).take (min r 184)).length = min r 184 := by rw [List.length_take, hlen]; omega
      refine ⟨by simp only [hl]; omega, by omega, ?_, ?_, fun j h1 h2 => ?_⟩
      · show ((List.take (min r 184) (L.flatten.drop a)).drop 0).take (min r 184) = _
        rw [List.drop_zero, List.take_take, Nat.min_self]
      · show min r 184 = min (((L.flatten.drop a).take (min r 184)).length - 0) _
        rw [hl]; omega
      · have h2' : j < ((L.flatten.drop a).take (min r 184)).length - 0 := h2
        rw [hl] at h2'; omega
    · rw [e2, List.drop_drop]
    · rw [e1]; rfl
  · by_cases h0 : 0 < r ∧ (L.map List.length).drop b = []
    · rw [h0.2, bd_end h2 k h0.1] at hd
      injection hd with e1 e2
      have hrl : r = L.flatten.length - a := by have := hF.1; rw [h0.2, hlen, List.sum_nil] at this; omega
      have hbl : b = L.length := by
        have := congrArg List.length h0.2
        rw [List.length_drop, List.length_map, List.length_nil] at this
        have := h.jb; omega
      have hl : (f184 (L.flatten.drop a)).length = 184 := f184_length (by rw [hlen]; omega)
      refine ⟨r, b, 0, ?_, by omega, ⟨by omega, ?_, by omega, h.jb, by omega⟩, Nat.le_refl _, fun j h1 h2 => by omega, ?_⟩
      · rw [e1]
        refine ⟨by simp only [hl]; omega, by omega, ?_, ?_, fun j h1 h2 => ?_⟩
        · show ((f184 (L.flatten.drop a)).drop 0).take r = _
          rw [List.drop_zero]
          unfold f184
          rw [List.take_append_of_le_length (by rw [hlen]; omega)]
        · show r = min ((f184 (L.flatten.drop a)).length - 0) _
          rw [hl]; omega
        · show cf ((f184 (L.flatten.drop a)).drop 0) j = 255
          have h2' : j < (f184 (L.flatten.drop a)).length - 0 := h2
          rw [List.drop_zero]
          exact f184_cf (by rw [hlen]; omega) (by omega)
      · rw [e2, show L.flatten.drop (a + r) = [] from List.drop_eq_nil_of_le (by omega), bd_nil]
      · rw [e1]; rfl
    · rw [bd_start h2 k h0] at hd
      injection hd with e1 e2
      obtain ⟨f1, f2, f3⟩ := hF.start (by rw [hlen]; omega) k h0
      rw [hlen] at f2 f3 e2
      have hsum : min 183 (L.flatten.length - a) - r ≤ ((L.map List.length).drop b).sum := by have := hF.1; omega
      obtain ⟨c, c1, c2, c3, c4, c5⟩ := eat_adv ((L.map List.length).drop b) (min 183 (L.flatten.length - a) - r) hsum fun n hn => (hF.2.2 n hn).1
      rw [List.length_drop, List.length_map] at c1
      have hbl := h.jb
      have hb1 : b < L.length := by
        refine Classical.byContradiction fun x => f1 (List.drop_eq_nil_of_le (by rw [List.length_map]; omega))
      have hcl : (UInt8.ofNat r :: (L.flatten.drop a).take 183).length = 1 + min 183 (L.flatten.length - a) := by rw [List.length_cons, List.length_take, hlen]; omega
      have hl : (f184 (UInt8.ofNat r :: (L.flatten.drop a).take 183)).length = 184 := f184_length (by omega)
      have hdt : (f184 (UInt8.ofNat r :: (L.flatten.drop a).take 183)).drop 1 = (L.flatten.drop a).take 183 ++ List.replicate (184 - (1 + min 183 (L.flatten.length - a))) 255 := by
        unfold f184; rw [hcl]; rfl
      refine ⟨min 183 (L.flatten.length - a), b + c, (eat ((L.map List.length).drop b) (min 183 (L.flatten.length - a) - r)).1, ?_, f3.2.1, ⟨by omega, ?_, by omega, by omega, ?_⟩, by omega, fun j j1 j2 => ?_, ?_⟩
      · rw [e1]
        refine ⟨by simp only [hl]; omega, by omega, ?_, ?_, fun j h1 h2 => ?_⟩
        · show ((f184 (UInt8.ofNat r :: (L.flatten.drop a).take 183)).drop 1).take _ = _
          rw [hdt, List.take_append_of_le_length (by rw [List.length_take, hlen]; omega), List.take_take]
          congr 1; omega
        · show _ = min ((f184 (UInt8.ofNat r :: (L.flatten.drop a).take 183)).length - 1) _
          rw [hl]
        · show cf ((f184 (UInt8.ofNat r :: (L.flatten.drop a).take 183)).drop 1) j = 255
          have h2' : j < (f184 (UInt8.ofNat r :: (L.flatten.drop a).take 183)).length - 1 := h2
          rw [hl] at h2'
          have := f184_cf (b := UInt8.ofNat r :: (L.flatten.drop a).take 183) (j := j + 1) (by rw [hcl]; omega) (by omega)
          unfold cf at this ⊢
          rw [List.getD_eq_getElem?_getD] at this ⊢
          rwa [List.getElem?_drop, Nat.add_comm 1 j]
      · rw [e2, c2, List.drop_drop, List.drop_drop]
        by_cases hm : L.flatten.length - a ≤ 183
        · rw [show L.flatten.drop (a + 183) = [] from List.drop_eq_nil_of_le (by omega), show L.flatten.drop (a + min 183 (L.flatten.length - a)) = [] from List.drop_eq_nil_of_le (by omega), bd_nil]
        · rw [show min 183 (L.flatten.length - a) = 183 by omega]
      · rw [pre_add, c3]; omega
      · have := c4 (j - b) (by omega)
        have e := pre_add L b (j - b)
        rw [show b + (j - b) = j by omega] at e
        rw [e]; omega
      · rw [e1]
        show b < L.length ∧ r ≤ 182 ∧ b < b + c ∧ _
        refine ⟨hb1, by omega, by have := c5 (by omega); omega, ?_⟩
        show cf (f184 (UInt8.ofNat r :: (L.flatten.drop a).take 183)) 0 = _
        unfold f184; rfl
end Go.Proofs.YtifbomppgflkfaaDoor.Pr
