/-
  What each packet has of sections, told by sizes alone (shr, aft), and that the bodies are made of it. No function of the program.
-/
import Derived.Test.YtaabfkffemnidaaPrMath
namespace Go.Proofs.Ytaabfkffemnidaa.Pr
open Gf Pk
set_option maxRecDepth 100000
theorem eat_over : ∀ (ns : List Nat) (x : Nat), (∀ n ∈ ns, 1 ≤ n) → ns.sum ≤ x → eat ns x = (0, [])
  | [], _, _, _ => rfl
  | n :: t, x, h, k => by
    have h1 := h n (List.mem_cons_self ..)
    rw [List.sum_cons] at k
    rw [eat_more t (by omega) (by omega)]
    exact eat_over t _ (fun y hy => h y (List.mem_cons_of_mem _ hy)) (by omega)
theorem eat_min {ns : List Nat} {m r : Nat} (h : Fits m r ns) (k : r < 183) : eat ns (min 183 m - r) = eat ns (183 - r) := by
  obtain ⟨h1, _, h3⟩ := h
  by_cases e : 183 ≤ m
  · rw [Nat.min_eq_left e]
  · rw [Nat.min_eq_right (by omega), eat_over ns _ (fun n hn => (h3 n hn).1) (by omega), eat_over ns _ (fun n hn => (h3 n hn).1) (by omega)]
/-- What a packet has: whether a section begins in it, bytes of one that a packet ahead began, bytes of those that begin in it, bytes behind these. -/
def shr (r : Nat) (ns : List Nat) : Bool × Nat × Nat × Nat :=
  if 183 ≤ r then (false, min r 184, 0, 0) else if ns = [] then (false, r, 0, 184 - r) else (true, r, min (183 - r) ns.sum, 183 - r - ns.sum)
/-- What is left behind it. -/
def aft (r : Nat) (ns : List Nat) : Nat × List Nat := if 183 ≤ r then (r - min r 184, ns) else if ns = [] then (0, []) else eat ns (183 - r)
theorem shr_mid {r : Nat} {ns : List Nat} (k : 183 ≤ r) : shr r ns = (false, min r 184, 0, 0) ∧ aft r ns = (r - min r 184, ns) := ⟨if_pos k, if_pos k⟩
theorem shr_end {r : Nat} (k : ¬ 183 ≤ r) : shr r [] = (false, r, 0, 184 - r) ∧ aft r [] = (0, []) := by unfold shr aft; rw [if_neg k, if_pos rfl, if_neg k, if_pos rfl]; exact ⟨rfl, rfl⟩
theorem shr_start {r : Nat} {ns : List Nat} (k : ¬ 183 ≤ r) (h : ns ≠ []) : shr r ns = (true, r, min (183 - r) ns.sum, 183 - r - ns.sum) ∧ aft r ns = eat ns (183 - r) := by
  unfold shr aft; rw [if_neg k, if_neg h, if_neg k, if_neg h]; exact ⟨rfl, rfl⟩
/-- The body that is made of it and of those bytes. -/
def bdy (s : Bool × Nat × Nat × Nat) (t : List UInt8) : List UInt8 := (if s.1 then [UInt8.ofNat s.2.1] else []) ++ t ++ List.replicate s.2.2.2 255
theorem shr_bd {r : Nat} {ns : List Nat} {m : Nat} (h : Fits m r ns) : (shr r ns).2.1 ≤ 184 ∧ (shr r ns).2.1 ≤ r ∧ (shr r ns).2.1 + (shr r ns).2.2.1 ≤ m ∧ (shr r ns).2.1 + (shr r ns).2.2.1 ≤ 184 ∧ (shr r ns).2.2.2 ≤ 184 ∧ (shr r ns).2.2.1 ≤ 184 ∧ ((shr r ns).1 = true → (shr r ns).2.1 < 183) := by
  have h1 := h.1
  by_cases k : 183 ≤ r
  · rw [(shr_mid k).1]; simp only; refine ⟨?_, ?_, ?_, ?_, ?_, ?_, fun e => ?_⟩ <;> first | omega | cases e
  by_cases e : ns = []
  · subst e; rw [(shr_end k).1]; simp only; refine ⟨?_, ?_, ?_, ?_, ?_, ?_, fun e => ?_⟩ <;> first | omega | cases e
  · rw [(shr_start k e).1]; simp only; refine ⟨?_, ?_, ?_, ?_, ?_, ?_, fun e => ?_⟩ <;> omega
/-- Each packet has a byte of a section. -/
theorem shr_pos {r : Nat} {ns : List Nat} {R : List UInt8} (h : Fits R.length r ns) (hR : R ≠ []) : 0 < (shr r ns).2.1 + (shr r ns).2.2.1 := by
  have h1 := h.1
  have hl : R.length ≠ 0 := fun e => hR (List.length_eq_zero_iff.1 e)
  by_cases k : 183 ≤ r
  · rw [(shr_mid k).1]; simp only; omega
  by_cases e : ns = []
  · subst e; rw [(shr_end k).1]; simp only; have : ([] : List Nat).sum = 0 := rfl; omega
  · rw [(shr_start k e).1]; simp only; have := sum_pos h.2.2 e; omega
/-- The bodies, packet by packet. -/
theorem bd_step {rest : List UInt8} {r : Nat} {ns : List Nat} (hf : Fits rest.length r ns) (h : rest ≠ []) :
    bd rest r ns = ((shr r ns).1, bdy (shr r ns) (rest.take ((shr r ns).2.1 + (shr r ns).2.2.1))) :: bd (rest.drop ((shr r ns).2.1 + (shr r ns).2.2.1)) (aft r ns).1 (aft r ns).2 ∧
      Fits (rest.length - ((shr r ns).2.1 + (shr r ns).2.2.1)) (aft r ns).1 (aft r ns).2 := by
  have h1 := hf.1
  have hl : rest.length ≠ 0 := fun e => h (List.length_eq_zero_iff.1 e)
  by_cases k : 183 ≤ r
  · obtain ⟨e1, e2⟩ := shr_mid (ns := ns) k
    rw [e1, e2, bd_mid h k]
    refine ⟨?_, hf.mid k⟩
    unfold bdy
    simp
  by_cases e : ns = []
  · subst e
    have hs : ([] : List Nat).sum = 0 := rfl
    obtain ⟨e1, e2⟩ := shr_end k
    have hr : 0 < r := by omega
    have hrl : rest.length = r := by omega
    rw [e1, e2, bd_end h k hr]
    refine ⟨?_, ⟨by show rest.length - (r + 0) = 0 + ([] : List Nat).sum; omega, by show 0 ≤ 4096; decide, fun n hn => (by cases hn)⟩⟩
    simp only
    rw [List.drop_of_length_le (by omega), bd_nil, List.take_of_length_le (by omega)]
    unfold bdy f184
    simp [hrl]
  · have h0 : ¬ (0 < r ∧ ns = []) := fun x => e x.2
    obtain ⟨e1, e2⟩ := shr_start k e
    obtain ⟨_, hrm, hx⟩ := hf.start hl k h0
    rw [eat_min hf (by omega)] at hx
    rw [e1, e2, bd_start h k h0, eat_min hf (by omega)]
    have hmn : r + min (183 - r) ns.sum = min 183 rest.length := by omega
    simp only
    rw [hmn]
    have ht : rest.take (min 183 rest.length) = rest.take 183 := by
      by_cases z : 183 ≤ rest.length
      · rw [Nat.min_eq_left z]
      · rw [Nat.min_eq_right (by omega), List.take_of_length_le (by omega), List.take_of_length_le (by omega)]
    have hd : rest.drop (min 183 rest.length) = rest.drop 183 := by
      by_cases z : 183 ≤ rest.length
      · rw [Nat.min_eq_left z]
      · rw [Nat.min_eq_right (by omega), List.drop_of_length_le (by omega), List.drop_of_length_le (by omega)]
    rw [ht, hd]
    refine ⟨?_, by rw [show rest.length - min 183 rest.length = rest.length - 183 by omega]; exact hx⟩
    unfold bdy f184
    simp only [List.cons_append, List.nil_append, if_true, List.length_cons, List.length_take]
    rw [show 184 - (min 183 rest.length + 1) = 183 - r - ns.sum by omega]
/-- How many packets there are. -/
def cn (r : Nat) (ns : List Nat) : Nat := cnt (r + ns.sum) (r + ns.sum) r ns
theorem cn_bd (rest : List UInt8) {r : Nat} {ns : List Nat} (h : rest.length = r + ns.sum) : (bd rest r ns).length = cn r ns := by
  unfold bd cn
  rw [bds_cnt, h]
theorem cn_step {r : Nat} {ns : List Nat} (hf : Fits (r + ns.sum) r ns) (h : r + ns.sum ≠ 0) :
    cn r ns = cn (aft r ns).1 (aft r ns).2 + 1 ∧ Fits ((aft r ns).1 + (aft r ns).2.sum) (aft r ns).1 (aft r ns).2 ∧ (aft r ns).1 + (aft r ns).2.sum < r + ns.sum := by
  have hl : (List.replicate (r + ns.sum) (0 : UInt8)).length = r + ns.sum := List.length_replicate
  have hne : List.replicate (r + ns.sum) (0 : UInt8) ≠ [] := fun e => h (by rw [e] at hl; exact hl.symm)
  obtain ⟨h1, h2⟩ := bd_step (rest := List.replicate (r + ns.sum) 0) (by rw [hl]; exact hf) hne
  rw [hl] at h2
  have h3 := h2.1
  have h4 := (shr_bd hf)
  have hp : 0 < (shr r ns).2.1 + (shr r ns).2.2.1 := by
    by_cases k : 183 ≤ r
    · rw [(shr_mid k).1]; simp only; omega
    by_cases e : ns = []
    · subst e; rw [(shr_end k).1]; simp only; have : ([] : List Nat).sum = 0 := rfl; omega
    · rw [(shr_start k e).1]; simp only; have := sum_pos hf.2.2 e; omega
  refine ⟨?_, by rw [← h3]; exact h2, by omega⟩
  rw [← cn_bd (List.replicate (r + ns.sum) 0) hl, h1, List.length_cons, cn_bd _ (by rw [List.length_drop, hl, h3])]
theorem cn_zero : cn 0 [] = 0 := rfl
theorem manyN_cn (ns : List Nat) : manyN ns = cn 0 ns := by unfold manyN cn; rw [Nat.zero_add]
/-- What one round of 'begin' does: so many bytes of room; l: what is left of the last section that is begun. -/
def EatAt (ns : List Nat) (f : Nat) (l : Nat) (ms : List Nat) (g : Nat) : Prop := (l = 0 ∧ eat ns f = eat ms g ∨ g = 0 ∧ eat ns f = (l, ms)) ∧ f - ns.sum = g - ms.sum ∧ g ≤ f ∧ (∃ p, ns = p ++ ms)
theorem EatAt.start (ns : List Nat) (f : Nat) : EatAt ns f 0 ns f := ⟨.inl ⟨rfl, rfl⟩, rfl, Nat.le_refl _, [], rfl⟩
theorem EatAt.next {ns : List Nat} {f l n : Nat} {ms : List Nat} {g : Nat} (h : EatAt ns f l (n :: ms) g) (hg : 0 < g) (hl : 0 < n) : EatAt ns f (n - min g n) ms (g - min g n) := by
  obtain ⟨h1, h2, h3, p, hp⟩ := h
  rw [List.sum_cons] at h2
  refine ⟨?_, by omega, by omega, p ++ [n], by rw [hp, List.append_assoc]; rfl⟩
  rcases h1 with ⟨rfl, e⟩ | ⟨e0, _⟩
  · by_cases k : g < n
    · refine .inr ⟨by omega, ?_⟩
      rw [e, eat_less ms (by omega) k, Nat.min_eq_left (by omega)]
    · refine .inl ⟨by omega, ?_⟩
      rw [e, eat_more ms (by omega) k, Nat.min_eq_right (by omega)]
  · omega
theorem EatAt.done {ns : List Nat} {f l : Nat} {ms : List Nat} {g : Nat} (h : EatAt ns f l ms g) (hd : g = 0 ∨ ms = []) : eat ns f = (l, ms) ∧ g = f - ns.sum := by
  obtain ⟨h1, h2, h3, _⟩ := h
  refine ⟨?_, ?_⟩
  · rcases h1 with ⟨rfl, e⟩ | ⟨_, e⟩
    · rcases hd with rfl | rfl
      · rw [e, eat_zero]
      · rw [e, eat_nil]
    · exact e
  · rcases hd with rfl | rfl
    · omega
    · rw [h2]; rfl
end Go.Proofs.Ytaabfkffemnidaa.Pr
