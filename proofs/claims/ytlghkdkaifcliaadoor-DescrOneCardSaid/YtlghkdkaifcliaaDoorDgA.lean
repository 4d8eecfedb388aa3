/-
  What Sum, Peek and Check of package datagram answer, and the document's. The memory that was there stays.
-/
import Derived.StillTailTactics
import Derived.Test.YtlghkdkaifcliaaDoorDgMath
import Derived.Test.YtlghkdkaifcliaaDoorFlMath
import Derived.Test.YtlghkdkaifcliaaDoorBase
namespace Go.Proofs.YtlghkdkaifcliaaDoor
open Go.RowKit Gf Dg Fl
set_option maxRecDepth 100000
def C2 (h l : Nat) : Value := .complex .f64 (fl h) (fl l)
def TwJ (w0 : World) (l : List UInt8) (a : Act) (w : World) : Prop :=
  ∃ (r : List UInt8) (H L : Nat), (H + hi r = hi l ∧ L + lo r = lo l ∧ r.length ≤ l.length) ∧ Eqv w0 w ∧ a.tmps.size = 28 ∧ a.defers = [] ∧ a.tmps.toList.take 4 = [.string (st r), undef, .complex .f64 0 0, .complex .f64 (fl H) (fl L)]
def strLen : Value → Nat | .string s => s.size | _ => 0
/-- A number as it is folded. -/
def FoJ (w0 : World) (t : Nat) (a : Act) (w : World) : Prop :=
  ∃ u : Int, (0 ≤ u ∧ u ≤ (t : Int)) ∧ rep u.toNat = rep t ∧ w0 = w ∧ a.tmps.size = 11 ∧ a.defers = [] ∧ a.tmps.toList.take 3 = [.int .u64 u, undef, .int .u64 0]
def natOf : Value → Nat | .int _ n => n.toNat | _ => 0
theorem u64_low {u : Int} (h0 : 0 ≤ u) (h1 : u ≤ 1000000000000000) : bits BinOp.and IntKind.u64 u 65535 = u % 65536 := by
  rw [u64_and u 65535 h0 (by omega) (by omega) (by omega)]
  show ((u.toNat &&& 65535 : Nat) : Int) = _
  rw [show 65535 = 2 ^ 16 - 1 from rfl, Nat.and_two_pow_sub_one_eq_mod]
  omega
def oddB (l : List UInt8) : Bool := l.length % 2 != 0
theorem oddB_append (a b : List UInt8) : oddB (a ++ b) = (!oddB a == oddB b) := by
  unfold oddB
  rw [List.length_append]
  have e : ∀ x : Nat, x % 2 = 0 ∨ x % 2 = 1 := fun x => by omega
  have e2 : (a.length + b.length) % 2 = (a.length % 2 + b.length % 2) % 2 := by omega
  rw [e2]
  rcases e a.length with h | h <;> rcases e b.length with k | k <;> rw [h, k] <;> rfl
theorem flat_nx {l : List (List UInt8)} {k : Nat} (h : k < l.length) : (l.take (k + 1)).flatten = (l.take k).flatten ++ l.getD k [] := by
  rw [List.take_succ_eq_append_getElem h, List.flatten_append, List.getD_eq_getElem?_getD, List.getElem?_eq_getElem h]
  simp
theorem flat_le (l : List (List UInt8)) (k : Nat) : (l.take k).flatten.length ≤ l.flatten.length := by
  have h : l.flatten = (l.take k).flatten ++ (l.drop k).flatten := by rw [← List.flatten_append, List.take_append_drop]
  rw [h, List.length_append]; omega
def smRel (w : World) (l : List (List UInt8)) (c o i : Value) (wr : World) : Prop :=
  ∃ (k : Nat) (F : List UInt8), k ≤ l.length ∧ F = (l.take k).flatten ∧ c = .complex .f64 (fl (hi F)) (fl (lo F)) ∧ o = .bool (oddB F) ∧ i = .int .i64 (k : Int) ∧ Eqv w wr
def rsRel (l : List UInt8) (n i : Value) : Prop := ∃ (k : Nat) (m : Int), k % 2 = 0 ∧ k ≤ l.length + 1 ∧ (0 ≤ m ∧ m ≤ 65535) ∧ m = (rep (tot (l.take k)) : Int) ∧ n = .int .i64 m ∧ i = .int .i64 (k : Int)
theorem rep_go {t v : Nat} {m : Int} (hv : v ≤ 65535) (hm : m = (rep t : Int)) : (m + (v : Int) ≤ 65535 → ((rep (t + v) : Nat) : Int) = m + (v : Int)) ∧ (65535 < m + (v : Int) → ((rep (t + v) : Nat) : Int) = m + (v : Int) - 65535) := by
  have h := rep_add t v hv
  constructor
  · intro k; rw [if_neg (by omega)] at h; omega
  · intro k; rw [if_pos (by omega)] at h; omega
end Go.Proofs.YtlghkdkaifcliaaDoor
namespace Go.Proofs.YtlghkdkaifcliaaDoor
open Go.RowKit Gf Dg
set_option maxRecDepth 100000
/-- What a beginning tells, as Go's struct. -/
abbrev hdV (v h l p : Int) : Value := .agg #[.int .i64 v, .int .i64 h, .int .i64 l, .int .i64 p]
def hdR (r : Hd × Int) : Value := .tuple #[hdV r.1.v r.1.h r.1.l r.1.p, .int .i64 r.2]
def HdPost (w0 : World) (r : Hd × Int) (e : Ending) (w' : World) : Prop := e = .returned (hdR r) ∧ Keeps w0 w'
/-- A part of a text. -/
theorem two_part (s : ByteArray) (k : Nat) (h : k + 2 ≤ s.size) : ls (s.extract k (k + 2)) = [cf (ls s) k, cf (ls s) (k + 1)] := by
  rw [ls_part]
  rw [ls_size] at h
  refine list_ext_cf (by rw [List.length_take, List.length_drop]; simp; omega) fun i hi => ?_
  rw [List.length_take, List.length_drop] at hi
  unfold cf
  rw [List.getD_eq_getElem?_getD, List.getElem?_take_of_lt (by omega), List.getElem?_drop]
  have : i = 0 ∨ i = 1 := by omega
  rcases this with rfl | rfl <;> simp
theorem peek_nil {l : List UInt8} (h : l.length = 0) : peek l = (z, 10) := by unfold peek; rw [if_pos h]
theorem peek_kind {l : List UInt8} (h : ¬ l.length = 0) (h4 : ¬ n l 0 / 16 = 4) (h6 : ¬ n l 0 / 16 = 6) : peek l = (z, 14) := by unfold peek; rw [if_neg h, if_neg h4, if_neg h6]
theorem peek_s4 {l : List UInt8} (h : ¬ l.length = 0) (h4 : n l 0 / 16 = 4) (hs : l.length < 20) : peek l = (z, 10) := by unfold peek; rw [if_neg h, if_pos h4, if_pos hs]
theorem peek_s6 {l : List UInt8} (h : ¬ l.length = 0) (h4 : n l 0 / 16 = 6) (hs : l.length < 40) : peek l = (z, 10) := by unfold peek; rw [if_neg h, if_neg (by omega), if_pos h4, if_pos hs]
theorem peek_4 {l : List UInt8} (h : ¬ l.length < 20) (h4 : n l 0 / 16 = 4) : peek l = may (Dg.h4 l) 20 := by unfold peek; rw [if_neg (by omega), if_pos h4, if_neg h]
theorem peek_6 {l : List UInt8} (h : ¬ l.length < 40) (h4 : n l 0 / 16 = 6) : peek l = may (Dg.h6 l) 40 := by unfold peek; rw [if_neg (by omega), if_neg (by omega), if_pos h4, if_neg h]
/-- Block b holds such a struct, which may be written. -/
structure Hd4 (b : Nat) (d : Hd) (w : World) : Prop where
  c0 : w.cell? ⟨b, 0, none⟩ = some (.int .i64 d.v)
  c1 : w.cell? ⟨b, 1, none⟩ = some (.int .i64 d.h)
  c2 : w.cell? ⟨b, 2, none⟩ = some (.int .i64 d.l)
  c3 : w.cell? ⟨b, 3, none⟩ = some (.int .i64 d.p)
  f0 : w.frozen? ⟨b, 0, none⟩ = false
  f1 : w.frozen? ⟨b, 1, none⟩ = false
  f2 : w.frozen? ⟨b, 2, none⟩ = false
  f3 : w.frozen? ⟨b, 3, none⟩ = false
theorem Hd4.made (w : World) (d : Hd) (t : TypeId) : Hd4 w.heap.size d (w.alloc (.cells #[.int .i64 d.v, .int .i64 d.h, .int .i64 d.l, .int .i64 d.p] t)) := by
  constructor
  all_goals first | exact World.frozen?_alloc_new _ _ _ _ | (rw [World.cell?_alloc_new]; rfl)
theorem Hd4.eqv {b : Nat} {d : Hd} {w w' : World} (h : Hd4 b d w) (k : Eqv w w') : Hd4 b d w' :=
  ⟨(k.cell _).trans h.c0, (k.cell _).trans h.c1, (k.cell _).trans h.c2, (k.cell _).trans h.c3, (k.frozen _).trans h.f0, (k.frozen _).trans h.f1, (k.frozen _).trans h.f2, (k.frozen _).trans h.f3⟩
theorem there_of {w : World} {p : Addr} {v : Value} (h : w.cell? p = some v) : p.block < w.heap.size := by
  obtain ⟨o, ho, _⟩ := cells_of_cell h
  exact (Array.getElem?_eq_some_iff.1 ho).1
theorem Hd4.keeps {b : Nat} {d : Hd} {w w' : World} (h : Hd4 b d w) (k : Keeps w w') : Hd4 b d w' := by
  have hb : b < w.heap.size := there_of h.c0
  have kc : ∀ i, w'.cell? ⟨b, i, none⟩ = w.cell? ⟨b, i, none⟩ := fun i => Below.cell k (p := ⟨b, i, none⟩) hb
  have kf : ∀ i, w'.frozen? ⟨b, i, none⟩ = w.frozen? ⟨b, i, none⟩ := fun i => Below.frozen k (p := ⟨b, i, none⟩) hb
  exact ⟨(kc 0).trans h.c0, (kc 1).trans h.c1, (kc 2).trans h.c2, (kc 3).trans h.c3, (kf 0).trans h.f0, (kf 1).trans h.f1, (kf 2).trans h.f2, (kf 3).trans h.f3⟩
theorem Hd4.store {b : Nat} {d : Hd} {w : World} (h : Hd4 b d w) (r1 r2 r3 r4 : Int) : Hd4 b ⟨r1, r2, r3, r4⟩ ((((w.setCell ⟨b, 0, none⟩ (.int .i64 r1)).setCell ⟨b, 1, none⟩ (.int .i64 r2)).setCell ⟨b, 2, none⟩ (.int .i64 r3)).setCell ⟨b, 3, none⟩ (.int .i64 r4)) := by
  obtain ⟨q1, q2, q3, q4, f1, f2, f3, f4⟩ := h
  refine ⟨?_, ?_, ?_, ?_, by simp [f1], by simp [f2], by simp [f3], by simp [f4]⟩
  · rw [set_other (by decide), set_other (by decide), set_other (by decide)]; exact set_same q1
  · rw [set_other (by decide), set_other (by decide)]; exact set_same ((set_other (by decide)).trans q2)
  · rw [set_other (by decide)]; exact set_same ((set_other (by decide)).trans ((set_other (by decide)).trans q3))
  · exact set_same ((set_other (by decide)).trans ((set_other (by decide)).trans ((set_other (by decide)).trans q4)))
theorem Keeps.store {w0 w : World} {b : Nat} (h : Keeps w0 w) (r1 r2 r3 r4 : Int) (hb : w0.heap.size ≤ b) : Keeps w0 ((((w.setCell ⟨b, 0, none⟩ (.int .i64 r1)).setCell ⟨b, 1, none⟩ (.int .i64 r2)).setCell ⟨b, 2, none⟩ (.int .i64 r3)).setCell ⟨b, 3, none⟩ (.int .i64 r4)) :=
  ((((Only.setCell w ⟨b, 0, none⟩ _).trans (Only.setCell _ ⟨b, 1, none⟩ _)).trans (Only.setCell _ ⟨b, 2, none⟩ _)).trans (Only.setCell _ ⟨b, 3, none⟩ _)).keeps h hb
def PkPost (w0 : World) (l : List UInt8) : Ending → World → Prop := HdPost w0 (peek l)
theorem PkPost.of {w0 : World} {l : List UInt8} {r : Hd × Int} {W : World} (e : peek l = r) (k : Keeps w0 W) : PkPost w0 l (.returned (hdR r)) W := by unfold PkPost; rw [e]; exact ⟨rfl, k⟩
end Go.Proofs.YtlghkdkaifcliaaDoor
namespace Go.Proofs.YtlghkdkaifcliaaDoor
open Go.RowKit Gf Dg
set_option maxRecDepth 100000
/-- Two such structs, behind each other: what is answered, and what is built. -/
structure Peeking (w0 : World) (b : Nat) (d : Hd) (w : World) : Prop where
  kp : Keeps w0 w
  base : w0.heap.size ≤ b
  ans : Hd4 b z w
  own : Hd4 (b + 1) d w
theorem Peeking.eqv {w0 w w' : World} {b : Nat} {d : Hd} (h : Peeking w0 b d w) (k : Eqv w w') : Peeking w0 b d w' := ⟨h.kp.eqv k, h.base, h.ans.eqv k, h.own.eqv k⟩
theorem Hd4.only {b c : Nat} {d : Hd} {w w' : World} (h : Hd4 b d w) (hn : b ≠ c) (k : Only c w w') : Hd4 b d w' := by
  have hb : b < w.heap.size := there_of h.c0
  have kc : ∀ i, w'.cell? ⟨b, i, none⟩ = w.cell? ⟨b, i, none⟩ := fun i => k.cell (p := ⟨b, i, none⟩) hb hn
  have kf : ∀ i, w'.frozen? ⟨b, i, none⟩ = w.frozen? ⟨b, i, none⟩ := fun i => k.frozen (p := ⟨b, i, none⟩) hb hn
  exact ⟨(kc 0).trans h.c0, (kc 1).trans h.c1, (kc 2).trans h.c2, (kc 3).trans h.c3, (kf 0).trans h.f0, (kf 1).trans h.f1, (kf 2).trans h.f2, (kf 3).trans h.f3⟩
theorem Peeking.start {w0 w wA : World} {b : Nat} (hk : Keeps w0 w) (c : Nat) {t : TypeId} (hb : w.heap.size = b) (hA : (w.alloc (.cells #[.int .i64 0, .int .i64 0, .int .i64 0, .int .i64 0] t)).alloc (.cells #[.int .i64 6, .int .i64 40, .int .i64 0, .int .i64 (c : Int)] t) = wA) :
    Peeking w0 b ⟨6, 40, 0, c⟩ wA := by
  subst hb
  subst hA
  refine ⟨(hk.alloc _).alloc _, Below.size hk, (Hd4.made w z t).keeps ((Keeps.refl _).alloc _), ?_⟩
  have := Hd4.made (w.alloc (.cells #[.int .i64 0, .int .i64 0, .int .i64 0, .int .i64 0] t)) ⟨6, 40, 0, c⟩ t
  rw [World.size_alloc] at this
  exact this
theorem Peeking.setL {w0 w : World} {b : Nat} {v h l p : Int} (k : Peeking w0 b ⟨v, h, l, p⟩ w) (x : Int) : Peeking w0 b ⟨v, h, x, p⟩ (w.setCell ⟨b + 1, 2, none⟩ (.int .i64 x)) := by
  obtain ⟨q1, q2, q3, q4, f1, f2, f3, f4⟩ := k.own
  refine ⟨(Only.setCell w ⟨b + 1, 2, none⟩ _).keeps k.kp (by have := k.base; show _ ≤ b + 1; omega), k.base, k.ans.only (by show b ≠ b + 1; omega) (Only.setCell w ⟨b + 1, 2, none⟩ _), ?_⟩
  exact ⟨(set_other (by decide)).trans q1, (set_other (by decide)).trans q2, set_same q3, (set_other (by decide)).trans q4, by simp [f1], by simp [f2], by simp [f3], by simp [f4]⟩
theorem Peeking.put {w0 w : World} {b : Nat} {d : Hd} (k : Peeking w0 b d w) (r1 r2 r3 r4 : Int) : Peeking w0 b ⟨r1, r2, r3, r4⟩ ((((w.setCell ⟨b + 1, 0, none⟩ (.int .i64 r1)).setCell ⟨b + 1, 1, none⟩ (.int .i64 r2)).setCell ⟨b + 1, 2, none⟩ (.int .i64 r3)).setCell ⟨b + 1, 3, none⟩ (.int .i64 r4)) := by
  have ho : Only (b + 1) w _ := (((Only.setCell w ⟨b + 1, 0, none⟩ (.int .i64 r1)).trans (Only.setCell _ ⟨b + 1, 1, none⟩ (.int .i64 r2))).trans (Only.setCell _ ⟨b + 1, 2, none⟩ (.int .i64 r3))).trans (Only.setCell _ ⟨b + 1, 3, none⟩ (.int .i64 r4))
  exact ⟨ho.keeps k.kp (by have := k.base; omega), k.base, k.ans.only (by omega) ho, k.own.store r1 r2 r3 r4⟩
end Go.Proofs.YtlghkdkaifcliaaDoor
namespace Go.Proofs.YtlghkdkaifcliaaDoor
open Go.RowKit Gf Dg
set_option maxRecDepth 100000
theorem IsT.oneAt {w : World} {b : Nat} (hb : w.heap.size = b) (s : ByteArray) (t : TypeId) : IsT (w.alloc (.cells #[.string s] t)) (some ⟨b, 0, none⟩) 1 [ls s] := by subst hb; exact IsT.one w s t
theorem IsT.twoAt {w : World} {b : Nat} (hb : w.heap.size = b) (s u : ByteArray) (t : TypeId) : IsT (w.alloc (.cells #[.string s, .string u] t)) (some ⟨b, 0, none⟩) 2 [ls s, ls u] := by subst hb; exact IsT.two w s u t
/-- What Check answers, by what a beginning tells. -/
theorem check_bad {l : List UInt8} {r : Hd} {e : Int} (h : peek l = (r, e)) (he : e ≠ 0) : check l = e := by unfold check; rw [h, if_pos he]
theorem check_short {l : List UInt8} {r : Hd} (h : peek l = (r, 0)) (hl : (l.length : Int) < r.l) : check l = 10 := by unfold check; rw [h, if_neg (by simp), if_pos hl]
theorem check_long {l : List UInt8} {r : Hd} (h : peek l = (r, 0)) (hl : r.l < (l.length : Int)) : check l = 11 := by unfold check; rw [h, if_neg (by simp), if_neg (by show ¬ (l.length : Int) < r.l; omega), if_pos (by show (l.length : Int) > r.l; omega)]
theorem check_eq {l : List UInt8} {r : Hd} (h : peek l = (r, 0)) (hl : (l.length : Int) = r.l) : check l = if r.v = 4 ∧ csum (l.take r.h.toNat) ≠ 0 then 13 else 0 := by
  unfold check; rw [h, if_neg (by simp), if_neg (by show ¬ (l.length : Int) < r.l; omega), if_neg (by show ¬ (l.length : Int) > r.l; omega)]
def ChPost (w0 : World) (l : List UInt8) (e : Ending) (w' : World) : Prop := e = .returned (.int .i64 (check l)) ∧ Keeps w0 w'
end Go.Proofs.YtlghkdkaifcliaaDoor
