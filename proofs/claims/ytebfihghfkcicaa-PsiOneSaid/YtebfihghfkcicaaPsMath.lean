/-
  Tables of programs and of their streams, as mathematics (for layer 17): which bytes they are, that no two that may be have the same ones, that no bytes of which one is turned are one; which versions follow others. No function of the program.
-/
import Derived.Test.YtebfihghfkcicaaScMath
namespace Go.Proofs.Ytebfihghfkcicaa.Ps
open Gf Sct
set_option maxRecDepth 100000
/-- A number in two bytes. -/
def b2 (n : Nat) : List UInt8 := [u8 (n / 256), u8 (n % 256)]
theorem b2_length (n : Nat) : (b2 n).length = 2 := rfl
theorem u8_inj {m n : Nat} (hm : m < 256) (hn : n < 256) (h : u8 m = u8 n) : m = n := by
  have := congrArg UInt8.toNat h
  rwa [u8_nat hm, u8_nat hn] at this
theorem b2_inj {m n : Nat} (hm : m < 65536) (hn : n < 65536) (h : b2 m = b2 n) : m = n := by
  unfold b2 at h
  simp only [List.cons.injEq, and_true] at h
  have h1 := u8_inj (by omega) (by omega) h.1
  have h2 := u8_inj (by omega) (by omega) h.2
  omega
/-- All programs. -/
structure Pat where
  str : Int
  ver : Int
  l : List (Int × Int)
def patB : List (Int × Int) → List UInt8
  | [] => []
  | p :: t => b2 p.1.toNat ++ (b2 (p.2.toNat + 57344) ++ patB t)
theorem patB_length : ∀ l, (patB l).length = 4 * l.length
  | [] => rfl
  | p :: t => by unfold patB; rw [List.length_append, List.length_append, b2_length, b2_length, patB_length t, List.length_cons]; omega
def okPr (p : Int × Int) : Prop := (0 ≤ p.1 ∧ p.1 ≤ 65535) ∧ (0 ≤ p.2 ∧ p.2 ≤ 8191)
instance (p : Int × Int) : Decidable (okPr p) := by unfold okPr; infer_instance
theorem patB_inj : ∀ {l m : List (Int × Int)}, (∀ p ∈ l, okPr p) → (∀ p ∈ m, okPr p) → patB l = patB m → l = m
  | [], [], _, _, _ => rfl
  | [], q :: m, _, _, h => by have := congrArg List.length h; rw [patB_length, patB_length] at this; simp at this
  | p :: l, [], _, _, h => by have := congrArg List.length h; rw [patB_length, patB_length] at this; simp at this
  | p :: l, q :: m, hl, hm, h => by
    obtain ⟨⟨p1, p2⟩, p3, p4⟩ := hl p (List.mem_cons_self ..)
    obtain ⟨⟨q1, q2⟩, q3, q4⟩ := hm q (List.mem_cons_self ..)
    unfold patB at h
    obtain ⟨e1, h⟩ := List.append_inj h (by rw [b2_length, b2_length])
    obtain ⟨e2, h⟩ := List.append_inj h (by rw [b2_length, b2_length])
    have f1 := b2_inj (by omega) (by omega) e1
    have f2 := b2_inj (by omega) (by omega) e2
    rw [patB_inj (fun x hx => hl x (List.mem_cons_of_mem _ hx)) (fun x hx => hm x (List.mem_cons_of_mem _ hx)) h]
    rw [show p = q from Prod.ext (by omega) (by omega)]
/-- A Pat may be. -/
def PatOk (x : Pat) : Prop := (0 ≤ x.str ∧ x.str ≤ 65535) ∧ (0 ≤ x.ver ∧ x.ver ≤ 31) ∧ (∀ p ∈ x.l, okPr p) ∧ (x.l.map (·.1)).Nodup ∧ x.l.length ≤ 253
def patS (x : Pat) : Sec := ⟨0, false, x.str, x.ver, true, 0, 0, st (patB x.l)⟩
def patE (x : Pat) : List UInt8 := Sct.bytes (patS x)
theorem pat_chk {x : Pat} (h : PatOk x) : chk (patS x) = 0 := by
  obtain ⟨⟨h1, h2⟩, ⟨h3, h4⟩, _, _, h5⟩ := h
  refine chk_ok ⟨by show (0 : Int) ≤ 0; decide, by show (0 : Int) ≤ 255; decide, h1, h2, h3, h4, by show (0 : Int) ≤ 0; decide, by show (0 : Int) ≤ 255; decide, by show (0 : Int) ≤ 0; decide, by show (0 : Int) ≤ 0; decide⟩ ?_
  show ¬ 4084 < (st (patB x.l)).size
  rw [st_size, patB_length]; omega
theorem patE_length (x : Pat) : (patE x).length = 4 * x.l.length + 12 := by
  unfold patE; rw [bytes_length]; show (st (patB x.l)).size + 12 = _; rw [st_size, patB_length]
theorem patE_dec {x : Pat} (h : PatOk x) : dec (patE x) = (patS x, 0) := dec_bytes (pat_chk h)
theorem patE_inj {x y : Pat} (hx : PatOk x) (hy : PatOk y) (h : patE x = patE y) : x = y := by
  have e : (patS x, (0 : Int)) = (patS y, 0) := by rw [← patE_dec hx, ← patE_dec hy, h]
  have e := (Prod.mk.inj e).1
  unfold patS at e
  simp only [Sec.mk.injEq, true_and] at e
  obtain ⟨e1, e2, e3⟩ := e
  have e4 := patB_inj hx.2.2.1 hy.2.2.1 (by have := congrArg ls e3; rwa [ls_st, ls_st] at this)
  cases x; cases y
  simp only at e1 e2 e4
  subst e1 e2 e4; rfl
/-- A stream. -/
structure Strm where
  kind : Int
  pid : Int
  info : ByteArray
/-- A program's streams. -/
structure Pmt where
  prog : Int
  ver : Int
  clock : Int
  info : ByteArray
  l : List Strm
def stB (s : Strm) : List UInt8 := u8 s.kind.toNat :: (b2 (s.pid.toNat + 57344) ++ (b2 (s.info.size + 61440) ++ ls s.info))
def stsB : List Strm → List UInt8
  | [] => []
  | s :: t => stB s ++ stsB t
def pmtB (x : Pmt) : List UInt8 := b2 (x.clock.toNat + 57344) ++ (b2 (x.info.size + 61440) ++ (ls x.info ++ stsB x.l))
def okSt (s : Strm) : Prop := (0 ≤ s.kind ∧ s.kind ≤ 255) ∧ (0 ≤ s.pid ∧ s.pid ≤ 8191) ∧ s.info.size ≤ 4095
theorem stB_length (s : Strm) : (stB s).length = s.info.size + 5 := by
  unfold stB
  rw [List.length_cons, List.length_append, List.length_append, b2_length, b2_length, ← ls_size]; omega
theorem strm_ext {a b : Strm} (h1 : a.kind = b.kind) (h2 : a.pid = b.pid) (h3 : ls a.info = ls b.info) : a = b := by
  obtain ⟨ak, ap, ai⟩ := a
  obtain ⟨bk, bp, bi⟩ := b
  simp only at h1 h2 h3
  have : ai = bi := by rw [← st_ls ai, ← st_ls bi, h3]
  subst h1 h2 this; rfl
theorem stB_inj {s t : Strm} {a b : List UInt8} (hs : okSt s) (ht : okSt t) (h : stB s ++ a = stB t ++ b) : s = t ∧ a = b := by
  obtain ⟨⟨s1, s2⟩, ⟨s3, s4⟩, s5⟩ := hs
  obtain ⟨⟨t1, t2⟩, ⟨t3, t4⟩, t5⟩ := ht
  unfold stB at h
  rw [List.cons_append, List.cons_append, List.cons.injEq] at h
  obtain ⟨e1, h⟩ := h
  rw [List.append_assoc, List.append_assoc, List.append_assoc, List.append_assoc] at h
  obtain ⟨e2, h⟩ := List.append_inj h (by rw [b2_length, b2_length])
  obtain ⟨e3, h⟩ := List.append_inj h (by rw [b2_length, b2_length])
  have f1 := u8_inj (by omega) (by omega) e1
  have f2 := b2_inj (by omega) (by omega) e2
  have f3 := b2_inj (by omega) (by omega) e3
  obtain ⟨e4, e5⟩ := List.append_inj h (by rw [← ls_size, ← ls_size]; omega)
  exact ⟨strm_ext (by omega) (by omega) e4, e5⟩
theorem stsB_inj : ∀ {l m : List Strm}, (∀ p ∈ l, okSt p) → (∀ p ∈ m, okSt p) → stsB l = stsB m → l = m
  | [], [], _, _, _ => rfl
  | [], q :: m, _, _, h => by
    have := congrArg List.length h
    unfold stsB at this
    rw [List.length_append, stB_length] at this
    simp only [List.length_nil] at this; omega
  | p :: l, [], _, _, h => by
    have := congrArg List.length h
    unfold stsB at this
    rw [List.length_append, stB_length] at this
    simp only [List.length_nil] at this; omega
  | p :: l, q :: m, hl, hm, h => by
    unfold stsB at h
    obtain ⟨e1, e2⟩ := stB_inj (hl p (List.mem_cons_self ..)) (hm q (List.mem_cons_self ..)) h
    rw [e1, stsB_inj (fun x hx => hl x (List.mem_cons_of_mem _ hx)) (fun x hx => hm x (List.mem_cons_of_mem _ hx)) e2]
theorem stsB_mem {l : List Strm} {s : Strm} (h : s ∈ l) : s.info.size + 5 ≤ (stsB l).length := by
  induction l with
  | nil => cases h
  | cons a t ih =>
    unfold stsB
    rw [List.length_append, stB_length]
    rcases List.mem_cons.1 h with rfl | h
    · omega
    · have := ih h; omega
theorem pmtB_length (x : Pmt) : (pmtB x).length = 4 + x.info.size + (stsB x.l).length := by
  unfold pmtB
  rw [List.length_append, List.length_append, List.length_append, b2_length, b2_length, ← ls_size]; omega
/-- A Pmt may be. -/
def PmtOk (x : Pmt) : Prop := (0 ≤ x.prog ∧ x.prog ≤ 65535) ∧ (0 ≤ x.ver ∧ x.ver ≤ 31) ∧ (0 ≤ x.clock ∧ x.clock ≤ 8191) ∧ (∀ s ∈ x.l, (0 ≤ s.kind ∧ s.kind ≤ 255) ∧ (0 ≤ s.pid ∧ s.pid ≤ 8191)) ∧ (x.l.map (·.pid)).Nodup ∧ (pmtB x).length ≤ 1012
def pmtS (x : Pmt) : Sec := ⟨2, false, x.prog, x.ver, true, 0, 0, st (pmtB x)⟩
def pmtE (x : Pmt) : List UInt8 := Sct.bytes (pmtS x)
theorem PmtOk.sts {x : Pmt} (h : PmtOk x) : ∀ s ∈ x.l, okSt s := fun s hs => by
  obtain ⟨h1, h2⟩ := h.2.2.2.1 s hs
  have h3 := stsB_mem hs
  have h4 := h.2.2.2.2.2
  rw [pmtB_length] at h4
  exact ⟨h1, h2, by omega⟩
theorem pmt_chk {x : Pmt} (h : PmtOk x) : chk (pmtS x) = 0 := by
  obtain ⟨⟨h1, h2⟩, ⟨h3, h4⟩, _, _, _, h5⟩ := h
  refine chk_ok ⟨by show (0 : Int) ≤ 2; decide, by show (2 : Int) ≤ 255; decide, h1, h2, h3, h4, by show (0 : Int) ≤ 0; decide, by show (0 : Int) ≤ 255; decide, by show (0 : Int) ≤ 0; decide, by show (0 : Int) ≤ 0; decide⟩ ?_
  show ¬ 4084 < (st (pmtB x)).size
  rw [st_size]; omega
theorem pmtE_length (x : Pmt) : (pmtE x).length = (pmtB x).length + 12 := by
  unfold pmtE; rw [bytes_length]; show (st (pmtB x)).size + 12 = _; rw [st_size]
theorem pmtE_dec {x : Pmt} (h : PmtOk x) : dec (pmtE x) = (pmtS x, 0) := dec_bytes (pmt_chk h)
theorem pmtB_inj {x y : Pmt} (hx : PmtOk x) (hy : PmtOk y) (h : pmtB x = pmtB y) : x.clock = y.clock ∧ x.info = y.info ∧ x.l = y.l := by
  have hxl := hx.2.2.2.2.2
  have hyl := hy.2.2.2.2.2
  rw [pmtB_length] at hxl hyl
  have hx' := hx
  have hy' := hy
  obtain ⟨_, _, ⟨x1, x2⟩, _⟩ := hx'
  obtain ⟨_, _, ⟨y1, y2⟩, _⟩ := hy'
  unfold pmtB at h
  obtain ⟨e1, h⟩ := List.append_inj h (by rw [b2_length, b2_length])
  obtain ⟨e2, h⟩ := List.append_inj h (by rw [b2_length, b2_length])
  have f1 := b2_inj (by omega) (by omega) e1
  have f2 := b2_inj (by omega) (by omega) e2
  obtain ⟨e3, e4⟩ := List.append_inj h (by rw [← ls_size, ← ls_size]; omega)
  exact ⟨by omega, by rw [← st_ls x.info, ← st_ls y.info, e3], stsB_inj hx.sts hy.sts e4⟩
theorem pmtE_inj {x y : Pmt} (hx : PmtOk x) (hy : PmtOk y) (h : pmtE x = pmtE y) : x = y := by
  have e : (pmtS x, (0 : Int)) = (pmtS y, 0) := by rw [← pmtE_dec hx, ← pmtE_dec hy, h]
  have e := (Prod.mk.inj e).1
  unfold pmtS at e
  simp only [Sec.mk.injEq, true_and] at e
  obtain ⟨e1, e2, e3⟩ := e
  obtain ⟨f1, f2, f3⟩ := pmtB_inj hx hy (by have := congrArg ls e3; rwa [ls_st, ls_st] at this)
  cases x; cases y
  simp only at e1 e2 f1 f2 f3
  subst e1 e2 f1 f2 f3; rfl
/-- What is a Pat is no Pmt. -/
theorem pat_pmt {x : Pat} {y : Pmt} (hx : PatOk x) (hy : PmtOk y) : patE x ≠ pmtE y := by
  intro h
  have e : (patS x, (0 : Int)) = (pmtS y, 0) := by rw [← patE_dec hx, ← pmtE_dec hy, h]
  have := congrArg Sec.tb (Prod.mk.inj e).1
  cases this
/-- Bytes that are one or the other. -/
def isTab (t : List UInt8) : Prop := (∃ x, PatOk x ∧ patE x = t) ∨ ∃ y, PmtOk y ∧ pmtE y = t
theorem tab_dec {t : List UInt8} (h : isTab t) : (dec t).2 = 0 := by
  rcases h with ⟨x, hx, rfl⟩ | ⟨y, hy, rfl⟩
  · rw [patE_dec hx]
  · rw [pmtE_dec hy]
theorem tab_sec {t : List UInt8} (h : isTab t) : ∃ s, chk s = 0 ∧ Sct.bytes s = t := by
  rcases h with ⟨x, hx, rfl⟩ | ⟨y, hy, rfl⟩
  · exact ⟨_, pat_chk hx, rfl⟩
  · exact ⟨_, pmt_chk hy, rfl⟩
/-- No bytes of which one is turned are one. -/
theorem tab_turn {t u : List UInt8} (h : isTab t) (hl : u.length = t.length) (p : Nat) (hp : ∀ i, i < u.length → cf u i ≠ cf t i → i = p) (hn : u ≠ t) : ¬ isTab u := by
  obtain ⟨s, _, rfl⟩ := tab_sec h
  intro hu
  exact dec_turn hl p hp hn (tab_dec hu)
end Go.Proofs.Ytebfihghfkcicaa.Ps
