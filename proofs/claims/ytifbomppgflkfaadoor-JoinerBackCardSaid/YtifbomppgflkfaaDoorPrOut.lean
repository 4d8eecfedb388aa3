/-
  What Pack, Bytes and Many of package packer are to answer, as mathematics; rows of ints. No function of the program.
-/
import Derived.Test.YtifbomppgflkfaaDoorPrSec
namespace Go.Proofs.YtifbomppgflkfaaDoor
open Go.RowKit Gf Pk Pr
set_option maxRecDepth 100000
/-- Rows of ints. -/
def rowZ : RowT Int where
  E := 3
  S := 47
  sz := 1
  bs := 8
  z := .int .i64 0
  enc := fun t => [.int .i64 t]
  und := Tryd.underlying47
  info := by kernel_rfl
  zs := rfl
  pos := by decide
  small := by decide
  len := fun _ => rfl
  one := fun a u hu => by rw [List.mem_singleton.1 hu]; rfl
/-- A stream's number and a count may be. -/
def okS (pid count : Int) : Prop := (0 ≤ pid ∧ pid ≤ 8190) ∧ (0 ≤ count ∧ count ≤ 15)
instance (pid count : Int) : Decidable (okS pid count) := by unfold okS; infer_instance
/-- The first error of sections. -/
def erL : List (List UInt8) → Int
  | [] => 0
  | s :: t => if ck15 s ≠ 0 then ck15 s else erL t
theorem erL_zero {L : List (List UInt8)} : erL L = 0 ↔ ∀ s ∈ L, ck15 s = 0 := by
  induction L with
  | nil => exact ⟨fun _ s hs => (by cases hs), fun _ => rfl⟩
  | cons s t ih =>
    show (if ck15 s ≠ 0 then ck15 s else erL t) = 0 ↔ _
    by_cases h : ck15 s = 0
    · rw [if_neg (fun x => x h), ih]
      exact ⟨fun k x hx => (List.mem_cons.1 hx).elim (fun e => e ▸ h) (k x), fun k x hx => k x (List.mem_cons_of_mem _ hx)⟩
    · rw [if_pos h]
      exact ⟨fun k => absurd k h, fun k => absurd (k s (List.mem_cons_self ..)) h⟩
def paE (pid count : Int) (L : List (List UInt8)) : Int := if okS pid count then erL L else 15
/-- A body as a packet of a stream, with its count. -/
def pkAt (pid count : Int) (b : Bool × List UInt8) (i : Nat) : Pkt := ⟨pid, b.1, (count + (i : Int)) % 16, false, st b.2⟩
def paL (pid count : Int) (L : List (List UInt8)) : List Pkt := (bodies L).zipIdx.map fun x => pkAt pid count x.1 x.2
def paO (pid count : Int) (L : List (List UInt8)) : List Pkt × Int × Int := if paE pid count L = 0 then (paL pid count L, (count + ((bodies L).length : Int)) % 16, 0) else ([], 0, paE pid count L)
theorem paL_length (pid count : Int) (L : List (List UInt8)) : (paL pid count L).length = (bodies L).length := by unfold paL; rw [List.length_map, List.length_zipIdx]
theorem paL_get (pid count : Int) (L : List (List UInt8)) {i : Nat} (h : i < (bodies L).length) : (paL pid count L)[i]? = some (pkAt pid count (bodies L)[i] i) := by
  unfold paL
  rw [List.getElem?_map, List.getElem?_zipIdx, List.getElem?_eq_getElem h, Nat.zero_add]; rfl
theorem paO_ok {pid count : Int} {L : List (List UInt8)} (h : okS pid count) (k : ∀ s ∈ L, ck15 s = 0) : paO pid count L = (paL pid count L, (count + ((bodies L).length : Int)) % 16, 0) := by
  unfold paO; rw [if_pos (by unfold paE; rw [if_pos h]; exact erL_zero.2 k)]
theorem paO_no {pid count : Int} {L : List (List UInt8)} (h : paE pid count L ≠ 0) : paO pid count L = ([], 0, paE pid count L) := by unfold paO; rw [if_neg h]
/-- The first error of packets; all their bytes. -/
def byE : List Pkt → Int
  | [] => 0
  | p :: t => if ckP p ≠ 0 then ckP p else byE t
def byO (l : List Pkt) : List UInt8 × Int := if byE l = 0 then ((l.map bts).flatten, 0) else ([], byE l)
theorem byE_zero {l : List Pkt} : byE l = 0 ↔ ∀ p ∈ l, ckP p = 0 := by
  induction l with
  | nil => exact ⟨fun _ s hs => (by cases hs), fun _ => rfl⟩
  | cons s t ih =>
    show (if ckP s ≠ 0 then ckP s else byE t) = 0 ↔ _
    by_cases h : ckP s = 0
    · rw [if_neg (fun x => x h), ih]
      exact ⟨fun k x hx => (List.mem_cons.1 hx).elim (fun e => e ▸ h) (k x), fun k x hx => k x (List.mem_cons_of_mem _ hx)⟩
    · rw [if_pos h]
      exact ⟨fun k => absurd k h, fun k => absurd (k s (List.mem_cons_self ..)) h⟩
theorem byO_ok {l : List Pkt} (h : ∀ p ∈ l, ckP p = 0) : byO l = ((l.map bts).flatten, 0) := by unfold byO; rw [if_pos (byE_zero.2 h)]
theorem bts_all {l : List Pkt} (h : ∀ p ∈ l, ckP p = 0) : (l.map bts).flatten.length = 188 * l.length := by
  induction l with
  | nil => rfl
  | cons p t ih =>
    rw [List.map_cons, List.flatten_cons, List.length_append, bts_length (ckP_good (h p (List.mem_cons_self ..))).2, ih fun x hx => h x (List.mem_cons_of_mem _ hx), List.length_cons]
    omega
/-- How many packets sections of so many bytes need. -/
def mnO (m : List Int) : Int := if ∀ x ∈ m, 12 ≤ x ∧ x ≤ 4096 then (manyN (m.map Int.toNat) : Int) else 0
theorem mnO_ok {m : List Int} (h : ∀ x ∈ m, 12 ≤ x ∧ x ≤ 4096) : mnO m = (manyN (m.map Int.toNat) : Int) := by unfold mnO; rw [if_pos h]
/-- Each body has 183 or 184 bytes. -/
theorem bds_sizes : ∀ (f : Nat) (rest : List UInt8) (r : Nat) (ns : List Nat), Fits rest.length r ns → ∀ b ∈ bds f rest r ns, 183 ≤ b.2.length ∧ b.2.length ≤ 184
  | 0, _, _, _, _, b, hb => by cases hb
  | f + 1, rest, r, ns, h, b, hb => by
    by_cases h1 : rest = []
    · subst h1; rw [bds_nil] at hb; cases hb
    have hl : rest.length ≠ 0 := fun e => h1 (List.length_eq_zero_iff.1 e)
    by_cases k : 183 ≤ r
    · rw [bds_mid h1 k] at hb
      rcases List.mem_cons.1 hb with rfl | hb
      · simp only [List.length_take]; have := h.1; omega
      · exact bds_sizes f _ _ _ (by rw [List.length_drop]; exact h.mid k) b hb
    by_cases h0 : 0 < r ∧ ns = []
    · obtain ⟨h2, rfl⟩ := h0
      rw [bds_end h1 k h2] at hb
      rw [List.mem_singleton.1 hb]
      have : ([] : List Nat).sum = 0 := rfl
      have h3 := h.1
      simp only
      rw [f184_length (by omega)]; omega
    · rw [bds_start h1 k h0] at hb
      rcases List.mem_cons.1 hb with rfl | hb
      · simp only
        rw [f184_length (by rw [List.length_cons, List.length_take]; omega)]; omega
      · exact bds_sizes f _ _ _ (by rw [List.length_drop]; exact (h.start hl k h0).2.2) b hb
theorem bodies_sizes {L : List (List UInt8)} (h : ∀ s ∈ L, 1 ≤ s.length ∧ s.length ≤ 4096) : ∀ b ∈ bodies L, 183 ≤ b.2.length ∧ b.2.length ≤ 184 := bds_sizes _ _ _ _ (fits_all h)
theorem paL_ck {pid count : Int} {L : List (List UInt8)} (h : okS pid count) (hs : ∀ s ∈ L, 1 ≤ s.length ∧ s.length ≤ 4096) : ∀ p ∈ paL pid count L, ckP p = 0 := by
  intro p hp
  unfold paL at hp
  obtain ⟨⟨b, i⟩, hb, rfl⟩ := List.mem_map.1 hp
  have hbm : b ∈ bodies L := by
    obtain ⟨_, _, h3⟩ := List.mem_zipIdx hb
    rw [h3]; exact List.getElem_mem _
  have := bodies_sizes hs b hbm
  obtain ⟨⟨h1, h2⟩, h3, h4⟩ := h
  refine ckP_ok ⟨⟨h1, by show pid ≤ 8191; omega⟩, by show 0 ≤ (count + (i : Int)) % 16; omega, by show (count + (i : Int)) % 16 ≤ 15; omega⟩ ?_
  show ¬ 184 < (st b.2).size
  rw [st_size]; omega
/-- Packets are no fewer than the bytes need, and no more than by one more for each section. -/
theorem many_bound {L : List (List UInt8)} (h : ∀ s ∈ L, 1 ≤ s.length ∧ s.length ≤ 4096) : L.flatten.length ≤ 184 * (bodies L).length ∧ (bodies L).length ≤ (L.flatten.length + 183) / 184 + L.length := by
  obtain ⟨h1, h2⟩ := cnt_bound L.flatten.length L.flatten.length 0 (L.map List.length) (Nat.le_refl _) (fits_all h)
  have e : (bodies L).length = cnt L.flatten.length L.flatten.length 0 (L.map List.length) := by unfold bodies; rw [bds_cnt]
  rw [← e] at h1 h2
  unfold phi at h2
  rw [if_pos rfl, List.length_map] at h2
  omega
end Go.Proofs.YtifbomppgflkfaaDoor
