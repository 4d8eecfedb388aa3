/-
  Sections as packets' bodies, as mathematics: which bodies there are, how many, and what follows of them. No function of the program.
-/
import Derived.Test.YtifbomppgflkfaaDoorPkMath
namespace Go.Proofs.YtifbomppgflkfaaDoor.Pr
open Gf Pk
set_option maxRecDepth 100000
/-- Sections of so many bytes begin in so much room: what is left of the last one that is begun, and those that are not begun. -/
def eat : List Nat → Nat → Nat × List Nat
  | [], _ => (0, [])
  | n :: t, room => if room = 0 then (0, n :: t) else if room < n then (n - room, t) else eat t (room - n)
theorem eat_nil (m : Nat) : eat [] m = (0, []) := rfl
theorem eat_zero (ns : List Nat) : eat ns 0 = (0, ns) := by cases ns <;> rfl
theorem eat_less {n m : Nat} (t : List Nat) (h0 : m ≠ 0) (h : m < n) : eat (n :: t) m = (n - m, t) := by show (if m = 0 then _ else _) = _; rw [if_neg h0, if_pos h]
theorem eat_more {n m : Nat} (t : List Nat) (h0 : m ≠ 0) (h : ¬ m < n) : eat (n :: t) m = eat t (m - n) := by show (if m = 0 then _ else _) = _; rw [if_neg h0, if_neg h]
/-- So many bytes of the sections are left behind. -/
theorem eat_sum : ∀ (ns : List Nat) (m : Nat), m ≤ ns.sum → (eat ns m).1 + (eat ns m).2.sum + m = ns.sum
  | [], m, h => by simp at h; subst h; rfl
  | n :: t, m, h => by
    by_cases h0 : m = 0
    · subst h0; rw [eat_zero]; simp
    · by_cases h1 : m < n
      · rw [eat_less t h0 h1, List.sum_cons]; simp only; omega
      · rw [eat_more t h0 h1]
        rw [List.sum_cons] at h ⊢
        have := eat_sum t (m - n) (by omega)
        omega
theorem eat_suffix : ∀ (ns : List Nat) (m : Nat), ∃ p, ns = p ++ (eat ns m).2
  | [], _ => ⟨[], rfl⟩
  | n :: t, m => by
    by_cases h0 : m = 0
    · subst h0; rw [eat_zero]; exact ⟨[], rfl⟩
    · by_cases h1 : m < n
      · rw [eat_less t h0 h1]; exact ⟨[n], rfl⟩
      · rw [eat_more t h0 h1]
        obtain ⟨p, hp⟩ := eat_suffix t (m - n)
        exact ⟨n :: p, by rw [List.cons_append, ← hp]⟩
theorem eat_le (ns : List Nat) (m : Nat) : (eat ns m).2.length ≤ ns.length := by
  obtain ⟨p, hp⟩ := eat_suffix ns m
  have := congrArg List.length hp
  rw [List.length_append] at this
  omega
theorem eat_lt {ns : List Nat} {m : Nat} (h0 : m ≠ 0) (h : ns ≠ []) : (eat ns m).2.length + 1 ≤ ns.length := by
  match ns, h with
  | n :: t, _ =>
    by_cases h1 : m < n
    · rw [eat_less t h0 h1]; exact Nat.le_refl _
    · rw [eat_more t h0 h1]; have := eat_le t (m - n); simp only [List.length_cons]; omega
theorem eat_bd {ns : List Nat} (h : ∀ n ∈ ns, n ≤ 4096) : ∀ m, (eat ns m).1 ≤ 4096 := by
  induction ns with
  | nil => intro m; exact Nat.zero_le _
  | cons n t ih =>
    intro m
    by_cases h0 : m = 0
    · subst h0; rw [eat_zero]; exact Nat.zero_le _
    · by_cases h1 : m < n
      · rw [eat_less t h0 h1]; have := h n (List.mem_cons_self ..); simp only; omega
      · rw [eat_more t h0 h1]; exact ih (fun x hx => h x (List.mem_cons_of_mem _ hx)) _
/-- Bytes, and bytes 255 behind them, 184 together. -/
def f184 (b : List UInt8) : List UInt8 := b ++ List.replicate (184 - b.length) 255
theorem f184_length {b : List UInt8} (h : b.length ≤ 184) : (f184 b).length = 184 := by unfold f184; rw [List.length_append, List.length_replicate]; omega
/-- The bodies of packets: f steps at most; rest: the bytes that are left, r: those of them that are a section's that is begun; ns: how many bytes the other ones have. -/
def bds : Nat → List UInt8 → Nat → List Nat → List (Bool × List UInt8)
  | 0, _, _, _ => []
  | f + 1, rest, r, ns =>
    if rest = [] then [] else
    if 183 ≤ r then (false, rest.take (min r 184)) :: bds f (rest.drop (min r 184)) (r - min r 184) ns else
    if 0 < r ∧ ns = [] then [(false, f184 rest)] else
    (true, f184 (UInt8.ofNat r :: rest.take 183)) :: bds f (rest.drop 183) (eat ns (min 183 rest.length - r)).1 (eat ns (min 183 rest.length - r)).2
theorem bds_nil (f r : Nat) (ns : List Nat) : bds f [] r ns = [] := by cases f <;> rfl
theorem bds_mid {f : Nat} {rest : List UInt8} {r : Nat} {ns : List Nat} (h : rest ≠ []) (k : 183 ≤ r) :
    bds (f + 1) rest r ns = (false, rest.take (min r 184)) :: bds f (rest.drop (min r 184)) (r - min r 184) ns := by show (if rest = [] then _ else _) = _; rw [if_neg h, if_pos k]
theorem bds_end {f : Nat} {rest : List UInt8} {r : Nat} (h : rest ≠ []) (k : ¬ 183 ≤ r) (h0 : 0 < r) : bds (f + 1) rest r [] = [(false, f184 rest)] := by
  show (if rest = [] then _ else _) = _; rw [if_neg h, if_neg k, if_pos ⟨h0, rfl⟩]
theorem bds_start {f : Nat} {rest : List UInt8} {r : Nat} {ns : List Nat} (h : rest ≠ []) (k : ¬ 183 ≤ r) (h0 : ¬ (0 < r ∧ ns = [])) :
    bds (f + 1) rest r ns = (true, f184 (UInt8.ofNat r :: rest.take 183)) :: bds f (rest.drop 183) (eat ns (min 183 rest.length - r)).1 (eat ns (min 183 rest.length - r)).2 := by
  show (if rest = [] then _ else _) = _; rw [if_neg h, if_neg k, if_neg h0]
/-- How many packets. -/
def cnt : Nat → Nat → Nat → List Nat → Nat
  | 0, _, _, _ => 0
  | f + 1, m, r, ns =>
    if m = 0 then 0 else
    if 183 ≤ r then cnt f (m - min r 184) (r - min r 184) ns + 1 else
    if 0 < r ∧ ns = [] then 1 else
    cnt f (m - 183) (eat ns (min 183 m - r)).1 (eat ns (min 183 m - r)).2 + 1
theorem cnt_zero (f r : Nat) (ns : List Nat) : cnt f 0 r ns = 0 := by cases f <;> rfl
theorem cnt_mid {f m r : Nat} {ns : List Nat} (h : m ≠ 0) (k : 183 ≤ r) : cnt (f + 1) m r ns = cnt f (m - min r 184) (r - min r 184) ns + 1 := by show (if m = 0 then _ else _) = _; rw [if_neg h, if_pos k]
theorem cnt_end {f m r : Nat} (h : m ≠ 0) (k : ¬ 183 ≤ r) (h0 : 0 < r) : cnt (f + 1) m r [] = 1 := by show (if m = 0 then _ else _) = _; rw [if_neg h, if_neg k, if_pos ⟨h0, rfl⟩]
theorem cnt_start {f m r : Nat} {ns : List Nat} (h : m ≠ 0) (k : ¬ 183 ≤ r) (h0 : ¬ (0 < r ∧ ns = [])) : cnt (f + 1) m r ns = cnt f (m - 183) (eat ns (min 183 m - r)).1 (eat ns (min 183 m - r)).2 + 1 := by
  show (if m = 0 then _ else _) = _; rw [if_neg h, if_neg k, if_neg h0]
theorem bds_cnt : ∀ (f : Nat) (rest : List UInt8) (r : Nat) (ns : List Nat), (bds f rest r ns).length = cnt f rest.length r ns
  | 0, _, _, _ => rfl
  | f + 1, rest, r, ns => by
    by_cases h : rest = []
    · subst h; rw [bds_nil]; exact (cnt_zero _ _ _).symm
    have hl : rest.length ≠ 0 := fun e => h (List.length_eq_zero_iff.1 e)
    by_cases k : 183 ≤ r
    · rw [bds_mid h k, cnt_mid hl k, List.length_cons, bds_cnt f, List.length_drop]
    by_cases h0 : 0 < r ∧ ns = []
    · obtain ⟨h1, rfl⟩ := h0
      rw [bds_end h k h1, cnt_end hl k h1]; rfl
    · rw [bds_start h k h0, cnt_start hl k h0, List.length_cons, bds_cnt f, List.length_drop]
/-- All the bytes that are left are those of the section that is begun, and of the others. -/
def Fits (m r : Nat) (ns : List Nat) : Prop := m = r + ns.sum ∧ r ≤ 4096 ∧ ∀ n ∈ ns, 1 ≤ n ∧ n ≤ 4096
theorem sum_pos {ns : List Nat} (h : ∀ n ∈ ns, 1 ≤ n ∧ n ≤ 4096) (k : ns ≠ []) : 1 ≤ ns.sum := by
  match ns, k with
  | n :: t, _ => rw [List.sum_cons]; have := (h n (List.mem_cons_self ..)).1; omega
theorem Fits.mid {m r : Nat} {ns : List Nat} (h : Fits m r ns) (_k : 183 ≤ r) : Fits (m - min r 184) (r - min r 184) ns := ⟨by have := h.1; omega, by have := h.2.1; omega, h.2.2⟩
theorem Fits.start {m r : Nat} {ns : List Nat} (h : Fits m r ns) (hm : m ≠ 0) (k : ¬ 183 ≤ r) (h0 : ¬ (0 < r ∧ ns = [])) :
    ns ≠ [] ∧ r < min 183 m ∧ Fits (m - 183) (eat ns (min 183 m - r)).1 (eat ns (min 183 m - r)).2 := by
  obtain ⟨h1, h2, h3⟩ := h
  have hn : ns ≠ [] := by
    rintro rfl
    have : ([] : List Nat).sum = 0 := rfl
    rcases Nat.eq_zero_or_pos r with e | e
    · omega
    · exact h0 ⟨e, rfl⟩
  have hp := sum_pos h3 hn
  have hs := eat_sum ns (min 183 m - r) (by omega)
  refine ⟨hn, by omega, by omega, eat_bd (fun n hn => (h3 n hn).2) _, fun n hx => ?_⟩
  obtain ⟨p, hpq⟩ := eat_suffix ns (min 183 m - r)
  exact h3 n (by rw [hpq]; exact List.mem_append_right _ hx)
/-- Packets are no fewer than the bytes need, and no more than by one more for each section. -/
def phi (r : Nat) (ns : List Nat) : Nat := 2 * ns.length + (if r = 0 then 0 else 1)
theorem cnt_bound : ∀ (f m r : Nat) (ns : List Nat), m ≤ f → Fits m r ns → m ≤ 184 * cnt f m r ns ∧ 184 * cnt f m r ns ≤ m + 183 + phi r ns
  | 0, m, r, ns, hf, h => by
    have : m = 0 := by omega
    subst this; exact ⟨Nat.zero_le _, Nat.zero_le _⟩
  | f + 1, m, r, ns, hf, h => by
    by_cases hm : m = 0
    · subst hm; rw [cnt_zero]; exact ⟨Nat.zero_le _, Nat.zero_le _⟩
    by_cases k : 183 ≤ r
    · rw [cnt_mid hm k]
      obtain ⟨g1, g2⟩ := cnt_bound f (m - min r 184) (r - min r 184) ns (by omega) (h.mid k)
      have hmr := h.1
      unfold phi at g2 ⊢
      by_cases e : r = 183
      · subst e
        rw [if_pos (by omega)] at g2
        rw [if_neg (by omega)]
        omega
      · by_cases e2 : r - min r 184 = 0
        · rw [if_pos e2] at g2; rw [if_neg (by omega)]; omega
        · rw [if_neg e2] at g2; rw [if_neg (by omega)]; omega
    by_cases h0 : 0 < r ∧ ns = []
    · obtain ⟨h1, rfl⟩ := h0
      rw [cnt_end hm k h1]
      have := h.1
      have : ([] : List Nat).sum = 0 := rfl
      unfold phi; omega
    · rw [cnt_start hm k h0]
      obtain ⟨hn, hr, hx⟩ := h.start hm k h0
      have hlt := eat_lt (ns := ns) (m := min 183 m - r) (by omega) hn
      obtain ⟨g1, g2⟩ := cnt_bound f _ _ _ (by omega) hx
      by_cases e : m ≤ 183
      · have e0 : m - 183 = 0 := by omega
        rw [e0, cnt_zero] at *
        omega
      · have hph : phi (eat ns (min 183 m - r)).1 (eat ns (min 183 m - r)).2 + 1 ≤ phi r ns := by
          unfold phi
          by_cases e1 : (eat ns (min 183 m - r)).1 = 0
          · rw [if_pos e1]; omega
          · rw [if_neg e1]; omega
        omega
/-- The bodies of sections' packets. -/
def bodies (L : List (List UInt8)) : List (Bool × List UInt8) := bds L.flatten.length L.flatten 0 (L.map List.length)
def manyN (ns : List Nat) : Nat := cnt ns.sum ns.sum 0 ns
theorem bodies_many (L : List (List UInt8)) : (bodies L).length = manyN (L.map List.length) := by
  unfold bodies manyN
  rw [bds_cnt, List.length_flatten]
theorem fits_all {L : List (List UInt8)} (h : ∀ s ∈ L, 1 ≤ s.length ∧ s.length ≤ 4096) : Fits L.flatten.length 0 (L.map List.length) :=
  ⟨by rw [List.length_flatten]; omega, by omega, fun n hn => by obtain ⟨s, hs, rfl⟩ := List.mem_map.1 hn; exact h s hs⟩
/-- More steps than there are bytes turn nothing. -/
theorem bds_more : ∀ (f g : Nat) (rest : List UInt8) (r : Nat) (ns : List Nat), rest.length ≤ f → f ≤ g → bds f rest r ns = bds g rest r ns
  | 0, g, rest, r, ns, h, _ => by
    have : rest = [] := List.length_eq_zero_iff.1 (by omega)
    subst this; rw [bds_nil, bds_nil]
  | f + 1, 0, _, _, _, _, k => by omega
  | f + 1, g + 1, rest, r, ns, h, k => by
    by_cases h1 : rest = []
    · subst h1; rw [bds_nil, bds_nil]
    have hl : rest.length ≠ 0 := fun e => h1 (List.length_eq_zero_iff.1 e)
    by_cases k1 : 183 ≤ r
    · rw [bds_mid h1 k1, bds_mid h1 k1, bds_more f g _ _ _ (by rw [List.length_drop]; omega) (by omega)]
    by_cases h0 : 0 < r ∧ ns = []
    · obtain ⟨h2, rfl⟩ := h0
      rw [bds_end h1 k1 h2, bds_end h1 k1 h2]
    · rw [bds_start h1 k1 h0, bds_start h1 k1 h0, bds_more f g _ _ _ (by rw [List.length_drop]; omega) (by omega)]
/-- The bodies, without a count of steps. -/
def bd (rest : List UInt8) (r : Nat) (ns : List Nat) : List (Bool × List UInt8) := bds rest.length rest r ns
theorem bd_nil (r : Nat) (ns : List Nat) : bd [] r ns = [] := rfl
theorem bd_mid {rest : List UInt8} {r : Nat} {ns : List Nat} (h : rest ≠ []) (k : 183 ≤ r) : bd rest r ns = (false, rest.take (min r 184)) :: bd (rest.drop (min r 184)) (r - min r 184) ns := by
  obtain ⟨f, hf⟩ : ∃ f, rest.length = f + 1 := ⟨rest.length - 1, by have := List.length_pos_iff.2 h; omega⟩
  unfold bd
  rw [hf, bds_mid h k, bds_more _ f _ _ _ (Nat.le_refl _) (by rw [List.length_drop]; omega)]
theorem bd_end {rest : List UInt8} {r : Nat} (h : rest ≠ []) (k : ¬ 183 ≤ r) (h0 : 0 < r) : bd rest r [] = [(false, f184 rest)] := by
  obtain ⟨f, hf⟩ : ∃ f, rest.length = f + 1 := ⟨rest.length - 1, by have := List.length_pos_iff.2 h; omega⟩
  unfold bd
  rw [hf, bds_end h k h0]
theorem bd_start {rest : List UInt8} {r : Nat} {ns : List Nat} (h : rest ≠ []) (k : ¬ 183 ≤ r) (h0 : ¬ (0 < r ∧ ns = [])) :
    bd rest r ns = (true, f184 (UInt8.ofNat r :: rest.take 183)) :: bd (rest.drop 183) (eat ns (min 183 rest.length - r)).1 (eat ns (min 183 rest.length - r)).2 := by
  obtain ⟨f, hf⟩ : ∃ f, rest.length = f + 1 := ⟨rest.length - 1, by have := List.length_pos_iff.2 h; omega⟩
  unfold bd
  rw [hf, bds_start h k h0, hf, bds_more _ f _ _ _ (Nat.le_refl _) (by rw [List.length_drop]; omega)]
theorem bodies_bd (L : List (List UInt8)) : bodies L = bd L.flatten 0 (L.map List.length) := rfl
/-- Behind a packet's end that is a section's end what follows is packed as by itself. -/
theorem bds_join : ∀ (k f : Nat) (a b : List UInt8) (ns : List Nat), a.length = 184 * k → a.length + b.length ≤ f → ∃ P, P.length = k ∧ bds f (a ++ b) a.length ns = P ++ bds b.length b 0 ns ∧ bds f a a.length [] = P
  | 0, f, a, b, ns, h, hf => by
    have : a = [] := List.length_eq_zero_iff.1 (by omega)
    subst this
    exact ⟨[], rfl, by rw [List.nil_append, List.nil_append]; exact (bds_more _ _ _ _ _ (Nat.le_refl _) (by simpa using hf)).symm, bds_nil _ _ _⟩
  | k + 1, 0, a, b, ns, h, hf => by omega
  | k + 1, f + 1, a, b, ns, h, hf => by
    have ha : a ≠ [] := fun e => by rw [e] at h; simp at h
    have hab : a ++ b ≠ [] := fun e => ha (List.append_eq_nil_iff.1 e).1
    have hm : min a.length 184 = 184 := by omega
    obtain ⟨P, h1, h2, h3⟩ := bds_join k f (a.drop 184) b ns (by rw [List.length_drop]; omega) (by rw [List.length_drop]; omega)
    rw [List.length_drop] at h2 h3
    refine ⟨(false, a.take 184) :: P, by rw [List.length_cons, h1], ?_, ?_⟩
    · rw [bds_mid hab (by omega), hm, List.take_append_of_le_length (by omega), List.drop_append_of_le_length (by omega), h2, List.cons_append]
    · rw [bds_mid ha (by omega), hm, h3]
/-- A first section that ends with a packet's end. -/
theorem bodies_first {a : List UInt8} {L : List (List UInt8)} {k : Nat} (h : a.length = 183 + 184 * k) : bodies (a :: L) = bodies [a] ++ bodies L := by
  unfold bodies
  rw [List.flatten_cons, List.flatten_cons, List.flatten_nil, List.append_nil, List.map_cons, List.map_cons, List.map_nil]
  have ha : a ≠ [] := fun e => by rw [e] at h; simp at h; omega
  have hab : a ++ L.flatten ≠ [] := fun e => ha (List.append_eq_nil_iff.1 e).1
  obtain ⟨f, hf⟩ : ∃ f, a.length = f + 1 := ⟨a.length - 1, by omega⟩
  have hfb : (a ++ L.flatten).length = (f + L.flatten.length) + 1 := by rw [List.length_append]; omega
  have e1 : eat (a.length :: L.map List.length) 183 = (a.length - 183, L.map List.length) := by
    by_cases e : 183 < a.length
    · rw [eat_less _ (by decide) e]
    · have : a.length = 183 := by omega
      rw [eat_more _ (by decide) (by omega), this, eat_zero]
  have e2 : eat [a.length] 183 = (a.length - 183, []) := by
    by_cases e : 183 < a.length
    · rw [eat_less _ (by decide) e]
    · have : a.length = 183 := by omega
      rw [eat_more _ (by decide) (by omega), this, eat_zero]
  obtain ⟨P, h1, h2, h3⟩ := bds_join k (f + L.flatten.length) (a.drop 183) L.flatten (L.map List.length) (by rw [List.length_drop]; omega) (by rw [List.length_drop]; omega)
  obtain ⟨P', h1', _, h3'⟩ := bds_join k f (a.drop 183) [] [] (by rw [List.length_drop]; omega) (by rw [List.length_drop]; simp; omega)
  rw [List.length_drop] at h2 h3 h3'
  have hPP : P = P' := by rw [← h3, ← h3']; exact (bds_more _ _ _ _ _ (by rw [List.length_drop]; omega) (by omega)).symm
  rw [hfb, hf, bds_start hab (by omega) (by omega), bds_start ha (by omega) (by omega), ← hf]
  rw [show min 183 (a ++ L.flatten).length - 0 = 183 by rw [List.length_append]; omega, show min 183 a.length - 0 = 183 by omega, e1, e2]
  simp only
  rw [List.take_append_of_le_length (by omega), List.drop_append_of_le_length (by omega), h2, h3', ← hPP, List.cons_append]
end Go.Proofs.YtifbomppgflkfaaDoor.Pr
