/-
  Tables of programs and of their streams: how their bytes are read back, as mathematics (for layer 17). No function of the program.
-/
import Derived.Test.YtebfihghfkcicaaPsMath
namespace Go.Proofs.Ytebfihghfkcicaa.Ps
open Gf Sct
set_option maxRecDepth 100000
set_option linter.unusedVariables false
/-- The programs of a Pat's body, four bytes each. -/
def rdPr : List UInt8 → List (Int × Int)
  | a :: b :: c :: d :: t => (((a.toNat * 256 + b.toNat : Nat) : Int), (((c.toNat * 256 + d.toNat) % 8192 : Nat) : Int)) :: rdPr t
  | _ => []
theorem b2_val {n : Nat} (h : n < 65536) : (u8 (n / 256)).toNat * 256 + (u8 (n % 256)).toNat = n := by
  rw [u8_nat (by omega), u8_nat (by omega)]; omega
theorem rdPr_patB : ∀ {l : List (Int × Int)}, (∀ p ∈ l, okPr p) → rdPr (patB l) = l
  | [], _ => rfl
  | p :: l, h => by
    obtain ⟨⟨p1, p2⟩, p3, p4⟩ := h p (List.mem_cons_self ..)
    have e : patB (p :: l) = u8 (p.1.toNat / 256) :: u8 (p.1.toNat % 256) :: u8 ((p.2.toNat + 57344) / 256) :: u8 ((p.2.toNat + 57344) % 256) :: patB l := rfl
    rw [e]
    unfold rdPr
    rw [rdPr_patB fun x hx => h x (List.mem_cons_of_mem _ hx), b2_val (by omega), b2_val (by omega)]
    rw [show p = (((p.1.toNat : Nat) : Int), (((p.2.toNat + 57344) % 8192 : Nat) : Int)) from Prod.ext (by show p.1 = _; omega) (by show p.2 = _; omega)]
    simp only
    congr 2
    omega
theorem rdPr_ok : ∀ (b : List UInt8), ∀ p ∈ rdPr b, okPr p
  | a :: b :: c :: d :: t, p, h => by
    unfold rdPr at h
    rcases List.mem_cons.1 h with rfl | h
    · have := a.toNat_lt; have := b.toNat_lt
      refine ⟨⟨by show (0 : Int) ≤ ((a.toNat * 256 + b.toNat : Nat) : Int); omega, by show ((a.toNat * 256 + b.toNat : Nat) : Int) ≤ 65535; omega⟩, by show (0 : Int) ≤ (((c.toNat * 256 + d.toNat) % 8192 : Nat) : Int); omega, by show (((c.toNat * 256 + d.toNat) % 8192 : Nat) : Int) ≤ 8191; omega⟩
    · exact rdPr_ok t p h
  | [], p, h => by cases h
  | [_], p, h => by cases h
  | [_, _], p, h => by cases h
  | [_, _, _], p, h => by cases h
theorem rdPr_len : ∀ (b : List UInt8), (rdPr b).length = b.length / 4
  | a :: b :: c :: d :: t => by unfold rdPr; rw [List.length_cons, rdPr_len t]; simp only [List.length_cons]; omega
  | [] => rfl
  | [_] => by simp [rdPr]
  | [_, _] => by simp [rdPr]
  | [_, _, _] => by simp [rdPr]
/-- They are made of the same bytes, if the bits ahead of each Pid are as they must be. -/
theorem patB_rdPr : ∀ {b : List UInt8}, b.length % 4 = 0 → (∀ i, 4 * i + 2 < b.length → (cf b (4 * i + 2)).toNat / 32 = 7) → patB (rdPr b) = b
  | a :: b :: c :: d :: t, h, k => by
    have h0 := k 0 (by simp)
    have hc : (cf (a :: b :: c :: d :: t) (4 * 0 + 2)) = c := rfl
    rw [hc] at h0
    have ih := patB_rdPr (b := t) (by simp only [List.length_cons] at h; omega) (fun i hi => by
      have := k (i + 1) (by simp only [List.length_cons]; omega)
      have e : cf (a :: b :: c :: d :: t) (4 * (i + 1) + 2) = cf t (4 * i + 2) := by
        rw [show 4 * (i + 1) + 2 = 4 * i + 2 + 1 + 1 + 1 + 1 by omega]; rfl
      rwa [e] at this)
    have ha := a.toNat_lt; have hb := b.toNat_lt; have hcl := c.toNat_lt; have hd := d.toNat_lt
    unfold rdPr patB
    rw [ih]
    have e1 : ((((a.toNat * 256 + b.toNat : Nat) : Int), (((c.toNat * 256 + d.toNat) % 8192 : Nat) : Int)) : Int × Int).1.toNat = a.toNat * 256 + b.toNat := Int.toNat_natCast _
    have e2 : ((((a.toNat * 256 + b.toNat : Nat) : Int), (((c.toNat * 256 + d.toNat) % 8192 : Nat) : Int)) : Int × Int).2.toNat = (c.toNat * 256 + d.toNat) % 8192 := Int.toNat_natCast _
    rw [e1, e2]
    unfold b2
    have f1 : u8 ((a.toNat * 256 + b.toNat) / 256) = a := UInt8.toNat_inj.1 (by rw [u8_nat (by omega)]; omega)
    have f2 : u8 ((a.toNat * 256 + b.toNat) % 256) = b := UInt8.toNat_inj.1 (by rw [u8_nat (by omega)]; omega)
    have f3 : u8 (((c.toNat * 256 + d.toNat) % 8192 + 57344) / 256) = c := UInt8.toNat_inj.1 (by rw [u8_nat (by omega)]; omega)
    have f4 : u8 (((c.toNat * 256 + d.toNat) % 8192 + 57344) % 256) = d := UInt8.toNat_inj.1 (by rw [u8_nat (by omega)]; omega)
    rw [f1, f2, f3, f4]; rfl
  | [], _, _ => rfl
  | [_], h, _ => by simp at h
  | [_, _], h, _ => by simp at h
  | [_, _, _], h, _ => by simp at h
/-- Of bytes that are a section: which Pat they can be, alone. -/
theorem pat_is {t : List UInt8} {s : Sec} (h : dec t = (s, 0)) {z : Pat} (hz : PatOk z) (he : patE z = t) : s = patS z ∧ z = ⟨s.ex, s.ver, rdPr (ls s.body)⟩ := by
  have e := patE_dec hz
  rw [he, h] at e
  have e1 := (Prod.mk.inj e).1
  refine ⟨e1, ?_⟩
  rw [e1]
  show z = ⟨z.str, z.ver, rdPr (ls (st (patB z.l)))⟩
  rw [ls_st, rdPr_patB hz.2.2.1]
theorem pat_was {t : List UInt8} {s : Sec} (h : dec t = (s, 0)) {x : Pat} (hx : patS x = s) : patE x = t := by
  have e := (bytes_dec (l := t) (by rw [h])).2
  rw [h] at e
  unfold patE; rw [hx]; exact e
/-- Of bytes that are a section: are they a Pat? -/
theorem pat_iff {t : List UInt8} {s : Sec} (h : dec t = (s, 0)) : (∃ z, PatOk z ∧ patE z = t) ↔ (PatOk ⟨s.ex, s.ver, rdPr (ls s.body)⟩ ∧ patE ⟨s.ex, s.ver, rdPr (ls s.body)⟩ = t) := by
  constructor
  · rintro ⟨z, hz, he⟩
    obtain ⟨_, e⟩ := pat_is h hz he
    rw [← e]; exact ⟨hz, he⟩
  · rintro ⟨h1, h2⟩; exact ⟨_, h1, h2⟩
/-- The streams of a Pmt's body. -/
def rdSt : Nat → List UInt8 → Option (List Strm)
  | 0, _ => none
  | f + 1, b =>
    if b = [] then some [] else if b.length < 5 then none else if b.length < 5 + ((cf b 3).toNat * 256 + (cf b 4).toNat) % 4096 then none else
    (rdSt f (b.drop (5 + ((cf b 3).toNat * 256 + (cf b 4).toNat) % 4096))).map fun l =>
      ⟨((cf b 0).toNat : Int), ((((cf b 1).toNat * 256 + (cf b 2).toNat) % 8192 : Nat) : Int), st ((b.drop 5).take (((cf b 3).toNat * 256 + (cf b 4).toNat) % 4096))⟩ :: l
theorem rdSt_nil (f : Nat) : rdSt (f + 1) [] = some [] := rfl
theorem rdSt_few {f : Nat} {b : List UInt8} (h0 : b ≠ []) (h : b.length < 5) : rdSt (f + 1) b = none := by
  show (if b = [] then _ else _) = _; rw [if_neg h0, if_pos h]
theorem rdSt_short {f : Nat} {b : List UInt8} (h : ¬ b.length < 5) (k : b.length < 5 + ((cf b 3).toNat * 256 + (cf b 4).toNat) % 4096) : rdSt (f + 1) b = none := by
  show (if b = [] then _ else _) = _; rw [if_neg (by rintro rfl; simp at h), if_neg h, if_pos k]
theorem rdSt_go {f : Nat} {b : List UInt8} (h : ¬ b.length < 5) (k : ¬ b.length < 5 + ((cf b 3).toNat * 256 + (cf b 4).toNat) % 4096) :
    rdSt (f + 1) b = (rdSt f (b.drop (5 + ((cf b 3).toNat * 256 + (cf b 4).toNat) % 4096))).map fun l =>
      ⟨((cf b 0).toNat : Int), ((((cf b 1).toNat * 256 + (cf b 2).toNat) % 8192 : Nat) : Int), st ((b.drop 5).take (((cf b 3).toNat * 256 + (cf b 4).toNat) % 4096))⟩ :: l := by
  show (if b = [] then _ else _) = _; rw [if_neg (by rintro rfl; simp at h), if_neg h, if_neg k]
theorem rdSt_stsB : ∀ {l : List Strm} (f : Nat), (∀ s ∈ l, okSt s) → (stsB l).length < f → rdSt f (stsB l) = some l
  | _, 0, _, h => by omega
  | [], f + 1, _, _ => rfl
  | s :: l, f + 1, h, hf => by
    obtain ⟨⟨s1, s2⟩, ⟨s3, s4⟩, s5⟩ := h s (List.mem_cons_self ..)
    have hl := stB_length s
    have e : stsB (s :: l) = stB s ++ stsB l := rfl
    have e2 : stB s ++ stsB l = u8 s.kind.toNat :: u8 ((s.pid.toNat + 57344) / 256) :: u8 ((s.pid.toNat + 57344) % 256) :: u8 ((s.info.size + 61440) / 256) :: u8 ((s.info.size + 61440) % 256) :: (ls s.info ++ stsB l) := rfl
    rw [e] at hf ⊢
    rw [List.length_append] at hf
    have c0 : cf (stB s ++ stsB l) 0 = u8 s.kind.toNat := rfl
    have c1 : cf (stB s ++ stsB l) 1 = u8 ((s.pid.toNat + 57344) / 256) := rfl
    have c2 : cf (stB s ++ stsB l) 2 = u8 ((s.pid.toNat + 57344) % 256) := rfl
    have c3 : cf (stB s ++ stsB l) 3 = u8 ((s.info.size + 61440) / 256) := rfl
    have c4 : cf (stB s ++ stsB l) 4 = u8 ((s.info.size + 61440) % 256) := rfl
    have hn : ((cf (stB s ++ stsB l) 3).toNat * 256 + (cf (stB s ++ stsB l) 4).toNat) % 4096 = s.info.size := by rw [c3, c4, b2_val (by omega)]; omega
    have hp : ((cf (stB s ++ stsB l) 1).toNat * 256 + (cf (stB s ++ stsB l) 2).toNat) % 8192 = s.pid.toNat := by rw [c1, c2, b2_val (by omega)]; omega
    have hd5 : (stB s ++ stsB l).drop 5 = ls s.info ++ stsB l := rfl
    have hlen : (stB s ++ stsB l).length = s.info.size + 5 + (stsB l).length := by rw [List.length_append, hl]
    rw [rdSt_go (by omega) (by rw [hn]; omega), hn, hp, c0, u8_nat (by omega)]
    rw [show 5 + s.info.size = (stB s).length by omega, List.drop_left, rdSt_stsB f (fun x hx => h x (List.mem_cons_of_mem _ hx)) (by omega), hd5, ls_size s.info, List.take_left, st_ls]
    simp only [Option.map_some]
    rw [show (⟨((s.kind.toNat : Nat) : Int), ((s.pid.toNat : Nat) : Int), s.info⟩ : Strm) = s from strm_ext (by show ((s.kind.toNat : Nat) : Int) = _; omega) (by show ((s.pid.toNat : Nat) : Int) = _; omega) rfl]
theorem rdSt_ok : ∀ (f : Nat) (b : List UInt8) {l : List Strm}, rdSt f b = some l → ∀ s ∈ l, okSt s
  | 0, _, _, h, _, _ => by cases h
  | f + 1, b, l, h, s, hs => by
    by_cases h0 : b = []
    · subst h0; rw [rdSt_nil] at h; cases h; cases hs
    by_cases h1 : b.length < 5
    · rw [rdSt_few h0 h1] at h; cases h
    by_cases h2 : b.length < 5 + ((cf b 3).toNat * 256 + (cf b 4).toNat) % 4096
    · rw [rdSt_short h1 h2] at h; cases h
    rw [rdSt_go h1 h2] at h
    obtain ⟨l', hl, rfl⟩ := Option.map_eq_some_iff.1 h
    rcases List.mem_cons.1 hs with rfl | hs
    · have := (cf b 0).toNat_lt
      refine ⟨⟨by show (0 : Int) ≤ ((cf b 0).toNat : Int); omega, by show ((cf b 0).toNat : Int) ≤ 255; omega⟩, ⟨by show (0 : Int) ≤ ((((cf b 1).toNat * 256 + (cf b 2).toNat) % 8192 : Nat) : Int); omega, by show ((((cf b 1).toNat * 256 + (cf b 2).toNat) % 8192 : Nat) : Int) ≤ 8191; omega⟩, ?_⟩
      show (st ((b.drop 5).take (((cf b 3).toNat * 256 + (cf b 4).toNat) % 4096))).size ≤ 4095
      rw [st_size, List.length_take]; omega
    · exact rdSt_ok f _ hl s hs
/-- A Pmt of a section: none, if the body ends in the middle. -/
def rdPmt (s : Sec) : Option Pmt :=
  if (ls s.body).length < 4 then none else
  if (ls s.body).length < 4 + ((cf (ls s.body) 2).toNat * 256 + (cf (ls s.body) 3).toNat) % 4096 then none else
  (rdSt ((ls s.body).length + 1) ((ls s.body).drop (4 + ((cf (ls s.body) 2).toNat * 256 + (cf (ls s.body) 3).toNat) % 4096))).map fun l =>
    ⟨s.ex, s.ver, ((((cf (ls s.body) 0).toNat * 256 + (cf (ls s.body) 1).toNat) % 8192 : Nat) : Int), st (((ls s.body).drop 4).take (((cf (ls s.body) 2).toNat * 256 + (cf (ls s.body) 3).toNat) % 4096)), l⟩
theorem rdPmt_pmtS {z : Pmt} (h : PmtOk z) : rdPmt (pmtS z) = some z := by
  have hl := pmtB_length z
  have h4 := h.2.2.2.2.2
  have hc := h.2.2.1
  have hb : ls (pmtS z).body = pmtB z := by show ls (st (pmtB z)) = _; rw [ls_st]
  have c0 : cf (pmtB z) 0 = u8 ((z.clock.toNat + 57344) / 256) := rfl
  have c1 : cf (pmtB z) 1 = u8 ((z.clock.toNat + 57344) % 256) := rfl
  have c2 : cf (pmtB z) 2 = u8 ((z.info.size + 61440) / 256) := rfl
  have c3 : cf (pmtB z) 3 = u8 ((z.info.size + 61440) % 256) := rfl
  have hn : ((cf (pmtB z) 2).toNat * 256 + (cf (pmtB z) 3).toNat) % 4096 = z.info.size := by rw [c2, c3, b2_val (by omega)]; omega
  have hp : ((cf (pmtB z) 0).toNat * 256 + (cf (pmtB z) 1).toNat) % 8192 = z.clock.toNat := by rw [c0, c1, b2_val (by omega)]; omega
  have hd4 : (pmtB z).drop 4 = ls z.info ++ stsB z.l := rfl
  unfold rdPmt
  rw [hb, hn, hp, if_neg (by omega), if_neg (by omega)]
  have hd : (pmtB z).drop (4 + z.info.size) = stsB z.l := by
    rw [← List.drop_drop, hd4, ls_size z.info, List.drop_left]
  rw [hd, rdSt_stsB _ h.sts (by omega), hd4, ls_size z.info, List.take_left, st_ls]
  show some (⟨z.prog, z.ver, ((z.clock.toNat : Nat) : Int), z.info, z.l⟩ : Pmt) = some z
  rw [show ((z.clock.toNat : Nat) : Int) = z.clock by omega]
theorem pmt_is {t : List UInt8} {s : Sec} (h : dec t = (s, 0)) {z : Pmt} (hz : PmtOk z) (he : pmtE z = t) : s = pmtS z ∧ rdPmt s = some z := by
  have e := pmtE_dec hz
  rw [he, h] at e
  have e1 := (Prod.mk.inj e).1
  exact ⟨e1, by rw [e1]; exact rdPmt_pmtS hz⟩
theorem pmt_was {t : List UInt8} {s : Sec} (h : dec t = (s, 0)) {x : Pmt} (hx : pmtS x = s) : pmtE x = t := by
  have e := (bytes_dec (l := t) (by rw [h])).2
  rw [h] at e
  unfold pmtE; rw [hx]; exact e
/-- Of bytes that are a section: are they a Pmt? -/
theorem pmt_iff {t : List UInt8} {s : Sec} (h : dec t = (s, 0)) : (∃ z, PmtOk z ∧ pmtE z = t) ↔ ∃ z, rdPmt s = some z ∧ PmtOk z ∧ pmtE z = t := by
  constructor
  · rintro ⟨z, hz, he⟩
    exact ⟨z, (pmt_is h hz he).2, hz, he⟩
  · rintro ⟨z, _, h1, h2⟩; exact ⟨z, h1, h2⟩
end Go.Proofs.Ytebfihghfkcicaa.Ps
