/-
  What Divide of package poly answers: for texts of up to a hundred thousand bytes; the memory that was there stays.
-/
import Derived.Lib.AtoiErrMem
import Derived.WalkMore
import Derived.ScopeJumps
import Derived.Test.YtachbccoehlcjaaPolyImpE
namespace Go.Proofs.Ytachbccoehlcjaa
open Go.RowKit Go.Shelf Gf

/-- A text is the product of what was found and the divisor, and what is left, together. -/
def DivInv (A B T L : List UInt8) : Prop := ∀ i, cf A i = conv (cf T) (cf B) i ^^^ cf L i
theorem conv_single (j : Nat) (q : UInt8) (g : Nat → UInt8) (i : Nat) : conv (fun k => if k = j then q else 0) g i = if j ≤ i then fm q (g (i - j)) else 0 := by
  by_cases h : j ≤ i
  · rw [if_pos h, conv, sm_one (k := j) (by omega) (fun k _ hne => by rw [if_neg hne, zero_fm]), if_pos rfl]
  · rw [if_neg h, conv, sm_zero fun k hk => by rw [if_neg (by omega), zero_fm]]
theorem conv_set {T : List UInt8} {j : Nat} {q : UInt8} (hj : j < T.length) (hz : cf T j = 0) (g : Nat → UInt8) (i : Nat) :
    conv (cf (T.set j q)) g i = conv (cf T) g i ^^^ (if j ≤ i then fm q (g (i - j)) else 0) := by
  rw [← conv_single j q g i, ← add_conv]
  refine conv_congr (fun k _ => ?_) (fun _ _ => rfl)
  rw [cf_set _ _ _ hj]
  by_cases e : k = j
  · subst e; rw [if_pos rfl, if_pos rfl, hz, z_xor]
  · rw [if_neg e, if_neg e, xor_z]
theorem div_step {A B T L : List UInt8} {j : Nat} {q : UInt8} (hm : 1 ≤ B.length) (hj : j + B.length = L.length) (hT : j < T.length) (hz : cf T j = 0) (hq : fm q (cf B (B.length - 1)) = cf L (L.length - 1)) (h : DivInv A B T L) :
    DivInv A B (T.set j q) ((atRow L j q B B.length).take (L.length - 1)) := by
  intro i
  rw [conv_set hT hz, h i, xor_a]
  congr 1
  rw [cf_take]
  by_cases hi : i < L.length - 1
  · rw [if_pos hi, cf_atRow (by omega)]
    by_cases hji : j ≤ i
    · rw [if_pos hji, if_pos (by omega), xor_c (cf L i), xor_back]
    · rw [if_neg hji, if_neg (by omega), xor_z, z_xor]
  · rw [if_neg hi, xor_z]
    by_cases he : i = L.length - 1
    · subst he; rw [if_pos (by omega), show L.length - 1 - j = B.length - 1 by omega, hq]
    · rw [cf_big (p := L) (by omega)]
      by_cases hji : j ≤ i
      · rw [if_pos hji, cf_big (p := B) (by omega), fm_zero]
      · rw [if_neg hji]
theorem div_end {A b B T L : List UInt8} (hB : B = trim b) (h : DivInv A B T L) : padd (pmul (trim T) b) (trim L) = trim A := by
  refine trim_one (padd_trim _ _) (trim_trim _) fun i => ?_
  rw [cf_padd, cf_pmul, cf_trim, cf_trim, h i]
  congr 1
  refine conv_congr (fun k _ => cf_trim _ _) (fun k _ => ?_)
  rw [hB, cf_trim]
theorem Blk.take {b : Nat} {l : List UInt8} {w : World} (h : Blk b l w) (n : Nat) : Blk b (l.take n) w := by
  have hl : (l.take n).length ≤ l.length := by rw [List.length_take]; omega
  refine ⟨h.old, fun i hi => ?_, fun i hi => h.free i (by omega)⟩
  have hn : i < n := by rw [List.length_take] at hi; omega
  rw [cf_take, if_pos hn]; exact h.cell i (by omega)
def sliceLen : Value → Nat | .slice _ n _ => n | _ => 0
theorem list_eta (l : List Value) : l = (List.range l.length).map (fun i => l.getD i undef) := by
  refine List.ext_getElem (by simp) fun i h1 h2 => ?_
  simp [List.getElem?_eq_getElem h1]
/-- A frame of 69 slots of which the first eleven are known. -/
theorem frame69 {a : Act} {v0 v1 v2 v3 v4 v5 v6 v7 v8 v9 v10 : Value} (hs : a.tmps.size = 69) (hd : a.defers = []) (ht : a.tmps.toList.take 11 = [v0, v1, v2, v3, v4, v5, v6, v7, v8, v9, v10]) :
    ∃ us : Nat → Value, a = { tmps := List.toArray (v0 :: v1 :: v2 :: v3 :: v4 :: v5 :: v6 :: v7 :: v8 :: v9 :: v10 :: us 11 :: us 12 :: us 13 :: us 14 :: us 15 :: us 16 :: us 17 :: us 18 :: us 19 :: us 20 :: us 21 :: us 22 :: us 23 :: us 24 :: us 25 :: us 26 :: us 27 :: us 28 :: us 29 :: us 30 :: us 31 :: us 32 :: us 33 :: us 34 :: us 35 :: us 36 :: us 37 :: us 38 :: us 39 :: us 40 :: us 41 :: us 42 :: us 43 :: us 44 :: us 45 :: us 46 :: us 47 :: us 48 :: us 49 :: us 50 :: us 51 :: us 52 :: us 53 :: us 54 :: us 55 :: us 56 :: us 57 :: us 58 :: us 59 :: us 60 :: us 61 :: us 62 :: us 63 :: us 64 :: us 65 :: us 66 :: us 67 :: us 68 :: []), defers := [] } := by
  obtain ⟨⟨l⟩, d⟩ := a
  simp only at hd ht
  subst hd
  have hl : l.length = 69 := by simpa using hs
  refine ⟨fun i => (l.drop 11).getD (i - 11) undef, ?_⟩
  have e1 : l = [v0, v1, v2, v3, v4, v5, v6, v7, v8, v9, v10] ++ l.drop 11 := by rw [← ht, List.take_append_drop]
  have e2 := list_eta (l.drop 11)
  rw [List.length_drop, hl] at e2
  generalize hf : (fun i => (l.drop 11).getD i undef) = f at e2
  have e3 : ∀ k, (l.drop 11).getD k undef = f k := fun k => by rw [← hf]
  simp only [e3]
  rw [e2] at e1
  rw [e1]
  rfl
/-- What holds at every jump. -/
def DivJ (w0 : World) (x y : ByteArray) (iv : UInt8) (a : Act) (w : World) : Prop :=
  ∃ (fb bl bt cl t : Nat) (L T : List UInt8), (bl ≠ bt ∧ bl ≠ fb ∧ bt ≠ fb ∧ w0.heap.size ≤ bl ∧ w0.heap.size ≤ bt ∧ t ≤ cl) ∧ (L.length = t ∧ T.length = x.size ∧ t ≤ x.size ∧ DivInv (ls x) (ls y) T L ∧ ∀ k, k + y.size ≤ t → cf T k = 0) ∧
    (Blk bl L w ∧ Blk bt T w ∧ FieldAt fb w ∧ Keeps w0 w) ∧ a.tmps.size = 69 ∧ a.defers = [] ∧ a.tmps.toList.take 11 = [.string x, .string y, undef, undef, .string ⟨#[]⟩, .string ⟨#[]⟩, .int .i64 0, .pointer (some ⟨fb, 0, none⟩), .int .u8 (iv.toNat : Int), .slice (some ⟨bl, 0, none⟩) t cl, .slice (some ⟨bt, 0, none⟩) x.size x.size]
theorem cf_z8 (n i : Nat) : cf (z8 n) i = 0 := by
  by_cases h : i < n
  · rw [cf_lt (by rw [z8, List.length_replicate]; exact h)]; unfold z8; rw [List.getElem_replicate]
  · exact cf_big (by rw [z8, List.length_replicate]; omega)
theorem div_start (x B : List UInt8) (n : Nat) : DivInv x B (z8 n) x := fun i => by
  rw [conv_comm, conv_congr (g' := fun _ => 0) (fun _ _ => rfl) (fun k _ => cf_z8 n k), conv_zero, z_xor]
theorem scope_loop {P : Program} {a : Act} {w : World} {Q : Exit → Act → World → Prop} {c rest : Code} (l : Nat) (J : Act → World → Prop) (μ : Act → World → Nat) (hf : findLabel c l = some (Code.skip.seq rest))
    (pass : ∀ a w, J a w → rest.wp P (Exit.jump l (fun a' w' => J a' w' ∧ μ a' w' < μ a w) Q) a w)
    (first : (∀ a w, J a w → rest.wp P (Exit.jump l J Q) a w) → c.wp P (Exit.jump l J Q) a w) : (Code.scope c).wp P Q a w :=
  wp_scope_jumps l J μ hf (first fun a w h => Code.wp_mono (fun e a' w' k => by
    cases e <;> first | exact k | exact ⟨k.1, k.2.1⟩) (pass a w h)) (fun a w h => wp_seq (wp_skip (pass a w h)))
def DivPost (w0 : World) (a b : List UInt8) (e : Ending) (w' : World) : Prop :=
  ∃ q r : List UInt8, e = .returned (.tuple #[.string (st q), .string (st r), .int .i64 0]) ∧ trim q = q ∧ trim r = r ∧ r.length < (trim b).length ∧ padd (pmul q b) r = trim a ∧ Keeps w0 w'
def CorePost (w0 : World) (x y : ByteArray) (e : Ending) (w' : World) : Prop :=
  ∃ T L : List UInt8, e = .returned (.tuple #[.string (st (trim T)), .string (st (trim L)), .int .i64 0]) ∧ L.length < y.size ∧ DivInv (ls x) (ls y) T L ∧ Keeps w0 w'
end Go.Proofs.Ytachbccoehlcjaa
