/-
  How the calls of layer 6's statements are read: an Op by value, and rows of them. Of all values.
-/
import Derived.Test.YtfkadmcndjohbaaBitsLaw
import Derived.Test.YtfkadmcndjohbaaArgs
import Derived.DataReads
namespace Go.Proofs.Ytfkadmcndjohbaa
open Go.RowKit Gf Bit Go.Deep Go.ChangeShapes Go.WideShapes Go.ChangeAt
set_option maxRecDepth 100000
/-- An Op: Text, X, N, S. -/
structure OpD where
  t : Bool
  x : Nat
  n : Int
  s : ByteArray
def OpD.cells (o : OpD) : List Value := [.bool o.t, .int .u64 (un o.x), .int .i64 o.n, .string o.s]
def OpD.ok (o : OpD) : Prop := o.x < 2 ^ 64 ∧ -9223372036854775808 ≤ o.n ∧ o.n ≤ 9223372036854775807
theorem four_of {α : Type} : ∀ {l : List α}, l.length = 4 → ∃ a b c d, l = [a, b, c, d]
  | [a, b, c, d], _ => ⟨a, b, c, d, rfl⟩
theorem op_cells {H : Type} {enc : TypeId × Value → H} {W : World} {base : Nat} {spare : Nat → Bool} {held : Bool} {fuel : Nat} {cs : List Value} {x : DataW H × List MemPlace}
    (h : DataW.trod enc Try.prog W base spare held fuel 37 cs = some x) : ∃ o : OpD, cs = o.cells ∧ o.ok := by
  obtain ⟨xs, m, _, _, hl, hx, hi⟩ := DataW.trod_struct Try.underlying37 h
  have c4 : Try.prog.cellsOf 37 = 4 := by kernel_rfl
  have cb : Try.prog.cellsOf 4 = 1 := by kernel_rfl
  have cu : Try.prog.cellsOf 35 = 1 := by kernel_rfl
  have ci : Try.prog.cellsOf 3 = 1 := by kernel_rfl
  have cst : Try.prog.cellsOf 9 = 1 := by kernel_rfl
  rw [c4] at hl
  obtain ⟨v0, v1, v2, v3, rfl⟩ := four_of hl
  obtain ⟨y0, y1, y2, y3, rfl⟩ := four_of (show xs.length = 4 from hx)
  have h0 := hi 0 _ rfl
  have h1 := hi 1 _ rfl
  have h2 := hi 2 _ rfl
  have h3 := hi 3 _ rfl
  simp [cb, cu, ci, cst] at h0 h1 h2 h3
  obtain ⟨b0, e0, _⟩ := DataW.trod_bool Try.underlying4 h0
  obtain ⟨b1, e1, _, w1⟩ := DataW.trod_int Try.underlying35 h1
  obtain ⟨b2, e2, _, w2⟩ := DataW.trod_int Try.underlying3 h2
  obtain ⟨b3, e3, _⟩ := DataW.trod_string Try.underlying9 h3
  simp at e0 e1 e2 e3
  obtain ⟨z, hz, rfl⟩ := un_of (bounds_u64 w1)
  have hb := bounds_i64 w2
  exact ⟨⟨b0, z, b2, b3⟩, by rw [e0, e1, e2, e3]; rfl, hz, hb.1, hb.2⟩
/-- An Op by value. -/
theorem open_op {H : Type} {enc : TypeId × Value → H} {W : World} {r : Reach} {b0 base : Nat} {spare : Nat → Bool} {held : Bool} {v : Value} {d : DataW H} {p : List MemPlace}
    (hv : Value.okWide Try.prog W r b0 37 v) (h : DataW.Trod enc Try.prog W base spare held 37 v d p) : ∃ o : OpD, v = .agg o.cells.toArray ∧ o.ok := by
  obtain ⟨cs, rfl, hsz, _⟩ : ∃ cs, v = .agg cs ∧ cs.size = Try.prog.cellsOf 37 ∧ Row.okWide Try.prog W r b0 37 cs := by
    simpa [Value.okWide, Try.underlying37] using hv
  obtain ⟨l⟩ := cs
  obtain ⟨fuel, hf⟩ := h
  obtain ⟨o, ho, hk⟩ := op_cells hf
  exact ⟨o, by rw [show l = o.cells from ho], hk⟩
/-- The slice (a, len) reads as the calls l. -/
def IsO (W : World) (a : Option Addr) (len : Nat) (l : List OpD) : Prop :=
  len = l.length ∧ (∀ o ∈ l, o.ok) ∧ (0 < l.length → ∃ b off, a = some ⟨b, off, none⟩ ∧ b < W.heap.size ∧ ∀ (i : Nat) (o : OpD), l[i]? = some o → ∀ j v, o.cells[j]? = some v → W.cell? ⟨b, off + i * 4 + j, none⟩ = some v)
theorem IsO.keeps {W W' : World} {a : Option Addr} {len : Nat} {l : List OpD} (h : IsO W a len l) (k : Keeps W W') : IsO W' a len l :=
  ⟨h.1, h.2.1, fun h0 => by
    obtain ⟨b, off, ha, hb, hc⟩ := h.2.2 h0
    exact ⟨b, off, ha, Nat.lt_of_lt_of_le hb (Below.size k), fun i o hi j v hj => (Below.cell k (p := ⟨b, off + i * 4 + j, none⟩) hb).trans (hc i o hi j v hj)⟩⟩
theorem opd_list {W : World} {b off : Nat} : ∀ (n : Nat), (∀ i, i < n → ∃ o : OpD, o.ok ∧ ∀ j v, o.cells[j]? = some v → W.cell? ⟨b, off + i * 4 + j, none⟩ = some v) →
    ∃ l : List OpD, l.length = n ∧ (∀ o ∈ l, o.ok) ∧ ∀ (i : Nat) (o : OpD), l[i]? = some o → ∀ j v, o.cells[j]? = some v → W.cell? ⟨b, off + i * 4 + j, none⟩ = some v
  | 0, _ => ⟨[], rfl, by simp, by simp⟩
  | n + 1, h => by
    obtain ⟨l, h1, h2, h3⟩ := opd_list n fun i hi => h i (by omega)
    obtain ⟨o, h4, h5⟩ := h n (by omega)
    refine ⟨l ++ [o], by simp [h1], ?_, ?_⟩
    · intro q hq
      rcases List.mem_append.1 hq with hq | hq
      · exact h2 q hq
      · simp at hq; subst hq; exact h4
    · intro i q hi
      by_cases e : i < l.length
      · rw [List.getElem?_append_left e] at hi; exact h3 i q hi
      · rw [List.getElem?_append_right (by omega)] at hi
        have : i = l.length := by
          have := (List.getElem?_eq_some_iff.1 hi).1
          simp at this; omega
        subst this
        simp at hi; subst hi
        rw [h1]; exact h5
/-- A row of calls. -/
theorem open_oprow {H : Type} {enc : TypeId × Value → H} {W : World} {base : Nat} {held : Bool} {a : Option Addr} {len cap : Nat} {d : DataW H} {p : List MemPlace}
    (h : DataW.Trod enc Try.prog W base (fun _ => true) held 22 (.slice a len cap) d p) : ∃ l, IsO W a len l ∧ len ≤ maxLen := by
  obtain ⟨fuel, hf⟩ := h
  have c4 : Try.prog.cellsOf 37 = 4 := by kernel_rfl
  rcases DataW.trod_slice Try.underlying22 hf with ⟨hcs, _⟩ | ⟨x, ln, cp, elems, rest, m, _, hcs, _, _, hlc, hlm, hel, hc, _⟩
  · simp [Value.cells] at hcs
    obtain ⟨rfl, rfl, rfl⟩ := hcs
    exact ⟨[], ⟨rfl, by simp, by simp⟩, Nat.zero_le _⟩
  · simp [Value.cells] at hcs
    obtain ⟨rfl, rfl, rfl⟩ := hcs
    obtain ⟨b, off, spot⟩ := x
    by_cases h0 : len = 0
    · subst h0; exact ⟨[], ⟨rfl, by simp, by simp⟩, Nat.zero_le _⟩
    have one : ∀ i, i < len → ∃ o : OpD, o.ok ∧ ∀ j v, o.cells[j]? = some v → W.cell? ((⟨b, off, spot⟩ : Addr).add (i * 4) |>.add j) = some v := fun i hi => by
      have h1 := hc i hi
      rw [c4, List.getElem?_eq_getElem (by omega)] at h1
      obtain ⟨cs, h2, h3⟩ := Option.bind_eq_some_iff.1 h1
      obtain ⟨o, ho, hk⟩ := op_cells h3
      subst ho
      obtain ⟨_, _, h4⟩ := World.cells?_some h2
      exact ⟨o, hk, fun j v hj => (h4 j (by have := (List.getElem?_eq_some_iff.1 hj).1; simpa [OpD.cells] using this)).trans hj⟩
    obtain ⟨o0, _, q0⟩ := one 0 (by omega)
    have hq := q0 0 _ rfl
    have hspot : spot = none := by
      have := World.cell?_spot hq
      simpa [Addr.add] using this
    subst hspot
    have hb : b < W.heap.size := by
      have := cell_there hq
      simpa [Addr.add] using this
    obtain ⟨l, h1, h2, h3⟩ := opd_list (W := W) (b := b) (off := off) len fun i hi => by
      obtain ⟨o, ho, hcell⟩ := one i hi
      exact ⟨o, ho, fun j v hj => by have := hcell j v hj; rwa [Addr.add_mid, Addr.add_mid] at this⟩
    exact ⟨l, ⟨h1.symm, h2, fun _ => ⟨b, off, rfl, hb, h3⟩⟩, Nat.le_trans hlc hlm⟩
theorem IsO.one (W : World) (o : OpD) (h : o.ok) (T : TypeId) : IsO (W.alloc (.cells o.cells.toArray T)) (some ⟨W.heap.size, 0, none⟩) 1 [o] :=
  ⟨rfl, by simpa using h, fun _ => ⟨_, _, rfl, by simp, fun i q hi j v hj => by
    have : i = 0 := by have := (List.getElem?_eq_some_iff.1 hi).1; simpa using this
    subst this
    simp at hi; subst hi
    rw [show 0 + 0 * 4 + j = j by omega, World.cell?_alloc_new, List.getElem?_toArray]; exact hj⟩⟩
/-- What a call writes, and what is wrong with it. -/
def OpD.bad (o : OpD) : Bool := !o.t && (decide (o.n < 0) || decide (64 < o.n))
def OpD.bits (o : OpD) : List Bool := if o.t then ob (ls o.s) else if o.bad then [] else lb o.x o.n.toNat
theorem otext_nil (v : Value) (w : World) : Calls Try.prog 25 #[.pointer none, v] w fun e w' => (∃ u, e = .returned u) ∧ w = w' := by
  go_enter Try.func25, Try.ntmps25
  go_wp2
  refine bodyPost_ret (results_none rfl _ _ _) rfl ?_
  exact ⟨⟨_, rfl⟩, rfl⟩
set_option maxHeartbeats 4000000 in
theorem lwrite_nil (o : OpD) (w : World) : Calls Try.prog 11 #[.pointer none, .agg o.cells.toArray] w fun e w' => e = .returned (.int .i64 (if o.t then 0 else 2)) ∧ Keeps w w' := by
  obtain ⟨t, x, n, s⟩ := o
  unfold OpD.cells
  go_enter Try.func11, Try.ntmps11
  cases t
  · go_wp2
    go_ret
    exact ⟨rfl, (Keeps.refl w).alloc _⟩
  · go_wp2_with (go_at_call 25; refine (otext_nil _ _).mono ?_; rintro _ _ ⟨⟨u, rfl⟩, rfl⟩)
    go_ret
    exact ⟨rfl, ((Keeps.refl w).alloc _).alloc _⟩
set_option maxHeartbeats 4000000 in
theorem lwrite_any {b : Nat} {L : List Bool} {w : World} (h : OutAt b L w) (o : OpD) (ho : o.ok) (hs : o.s.size ≤ 1000) (hL : L.length ≤ 900000) :
    Calls Try.prog 11 #[.pointer (some ⟨b, 0, none⟩), .agg o.cells.toArray] w fun e w' => e = .returned (.int .i64 (if o.bad then 1 else 0)) ∧ OutAt b (L ++ o.bits) w' ∧ Only b w w' := by
  obtain ⟨E, hE⟩ : ∃ E : Int, (if o.bad then 1 else 0) = E := ⟨_, rfl⟩
  obtain ⟨M, hM⟩ : ∃ M, o.bits = M := ⟨_, rfl⟩
  rw [hE, hM]
  have HE := Lib.hid hE
  have HM := Lib.hid hM
  clear hE hM
  obtain ⟨t, x, n, s⟩ := o
  have hb := OutR.old h
  have HX := Lib.hid ho.1
  have hs2 : s.size ≤ 1000 := hs
  clear ho hs
  unfold OpD.cells
  have hk := Keeps.alloc (Keeps.refl w) (.cells #[.bool t, .int .u64 (un x), .int .i64 n, .string s] 37)
  have hO1 := OutR.keeps h hk
  have HO := Lib.hid h
  obtain ⟨w1, hw1⟩ : ∃ w1, w.alloc (.cells #[.bool t, .int .u64 (un x), .int .i64 n, .string s] 37) = w1 := ⟨_, rfl⟩
  have c0 : w1.cell? ⟨w.heap.size, 0, none⟩ = some (.bool t) := by rw [← hw1, World.cell?_alloc_new]; rfl
  have c1 : w1.cell? ⟨w.heap.size, 1, none⟩ = some (.int .u64 (un x)) := by rw [← hw1, World.cell?_alloc_new]; rfl
  have c2 : w1.cell? ⟨w.heap.size, 2, none⟩ = some (.int .i64 n) := by rw [← hw1, World.cell?_alloc_new]; rfl
  have c3 : w1.cell? ⟨w.heap.size, 3, none⟩ = some (.string s) := by rw [← hw1, World.cell?_alloc_new]; rfl
  rw [hw1] at hO1 hk
  have HO1 := Lib.hid hO1
  have HK := Lib.hid (show Only b w w1 from Only.below hk)
  clear hO1 h hk
  go_enter Try.func11, Try.ntmps11
  cases t
  · by_cases h1 : n < 0
    · have HP := Lib.hid (put_arg (b := b) (x := un x) (w := w1) (.inl h1))
      go_wp2_with (go_at_call 24; refine HP.out.mono ?_; rintro _ w2 ⟨rfl, rfl⟩)
      go_ret
      have e : (OpD.mk false x n s).bad = true := by simp [OpD.bad, h1]
      have hE := HE.out
      have hM := HM.out
      unfold OpD.bits at hM
      rw [e] at hE hM
      subst hE
      subst hM
      exact ⟨rfl, by show OutAt b (L ++ []) w1; rw [List.append_nil]; exact HO1.out, HK.out⟩
    by_cases h2 : 64 < n
    · have HP := Lib.hid (put_arg (b := b) (x := un x) (w := w1) (.inr h2))
      go_wp2_with (go_at_call 24; refine HP.out.mono ?_; rintro _ w2 ⟨rfl, rfl⟩)
      go_ret
      have e : (OpD.mk false x n s).bad = true := by simp [OpD.bad, h2]
      have hE := HE.out
      have hM := HM.out
      unfold OpD.bits at hM
      rw [e] at hE hM
      subst hE
      subst hM
      exact ⟨rfl, by show OutAt b (L ++ []) w1; rw [List.append_nil]; exact HO1.out, HK.out⟩
    · obtain ⟨N, rfl⟩ : ∃ N : Nat, n = (N : Int) := ⟨n.toNat, by omega⟩
      have HP := Lib.hid (put_ok HO1.out x N HX.out (by omega) (by omega))
      go_wp2_with (go_at_call 24; refine HP.out.mono ?_; rintro _ w2 ⟨rfl, hO2, k2⟩)
      go_ret
      have e : (OpD.mk false x (N : Int) s).bad = false := by simp [OpD.bad, h1, h2]
      have hE := HE.out
      have hM := HM.out
      unfold OpD.bits at hM
      rw [e] at hE hM
      subst hE
      subst hM
      exact ⟨rfl, hO2, HK.out.trans k2⟩
  · have HT := Lib.hid (otext_one HO1.out s (by omega))
    go_wp2_with (go_at_call 25; refine HT.out.mono ?_; rintro _ w2 ⟨⟨v, rfl⟩, hO2, k2⟩)
    go_ret
    have hE := HE.out
    have hM := HM.out
    subst hE
    subst hM
    exact ⟨rfl, hO2, HK.out.trans k2⟩
/-- Are calls not too many? -/
def fewB (l : List OpD) : Bool := l.all (fun o => decide (o.s.size ≤ 60)) && decide (l.length ≤ 60)
def fwRel (w : World) (len : Nat) (l : List OpD) (i : Value) (wr : World) : Prop := ∃ k : Nat, k ≤ len ∧ i = .int .i64 (k : Int) ∧ (l.take k).all (fun o => decide (o.s.size ≤ 60)) = true ∧ w = wr
theorem few_no {l : List OpD} {k : Nat} {o : OpD} (h : l[k]? = some o) (hs : ¬ o.s.size ≤ 60) : fewB l = false := by
  unfold fewB
  have : l.all (fun o => decide (o.s.size ≤ 60)) = false := by
    rw [List.all_eq_false]
    exact ⟨o, List.mem_of_getElem? h, by simpa using hs⟩
  rw [this]; rfl
theorem few_more {l : List OpD} {k : Nat} {o : OpD} (h : l[k]? = some o) (hk : (l.take k).all (fun o => decide (o.s.size ≤ 60)) = true) (hs : o.s.size ≤ 60) : (l.take (k + 1)).all (fun o => decide (o.s.size ≤ 60)) = true := by
  have hlt := (List.getElem?_eq_some_iff.1 h).1
  rw [List.take_succ_eq_append_getElem hlt, List.all_append, hk]
  have : l[k] = o := (List.getElem?_eq_some_iff.1 h).2
  simp [this, hs]
set_option maxHeartbeats 4000000 in
theorem few_any {a : Option Addr} {len cap : Nat} {l : List OpD} (w : World) (h : IsO w a len l) (hm : len ≤ maxLen) : Calls Try.prog 9 #[.slice a len cap] w fun e w' => e = .returned (.bool (fewB l)) ∧ w = w' := by
  obtain ⟨N, hN⟩ : ∃ N, l.length = N := ⟨_, rfl⟩
  have hll : len = N := by rw [← hN]; exact h.1
  subst hll
  have HN := Lib.hid hN
  have HM := Lib.hid hm
  have HH := Lib.hid h
  clear h hm hN
  go_enter Try.func9, Try.ntmps9
  go_wp2
  go_loopw [3] (fun i wr => fwRel w len l i wr) (fun i _ => len - (intOf i).toNat)
  case atStart => exact ⟨0, by omega, rfl, by simp, rfl⟩
  case round =>
    obtain ⟨k, hk, rfl, hall, rfl⟩ := hrel
    by_cases hlt : k < len
    · obtain ⟨b, off, rfl, hb, hc⟩ := HH.out.2.2 (by rw [HN.out]; omega)
      obtain ⟨o, ho⟩ : ∃ o, l[k]? = some o := ⟨l[k]'(by rw [HN.out]; exact hlt), List.getElem?_eq_getElem _⟩
      have hs := hc k o ho 3 _ rfl
      have hkI : (k : Int) < (len : Int) := by omega
      have hw1 : IntKind.i64.wrap ((k : Int) + 1) = (k : Int) + 1 := wrap64 (by have := HM.out; unfold maxLen at this; omega)
      clear hc
      by_cases h60 : o.s.size ≤ 60
      · have h60I : ¬ ((60 : Int) < (o.s.size : Int)) := by omega
        go_wp2
        go_roundw
        case rel => exact ⟨k + 1, by omega, by go_num, few_more ho hall h60, rfl⟩
        case measure => simp [intOf]; omega
      · have h60I : (60 : Int) < (o.s.size : Int) := by omega
        go_wp2
        go_ret
        exact ⟨by rw [few_no ho h60]; rfl, rfl⟩
    · have hkI : ¬ ((k : Int) < (len : Int)) := by omega
      have HE := Lib.hid (show fewB l = decide ((len : Int) ≤ 60) by
        rw [List.take_of_length_le (by rw [HN.out]; omega)] at hall
        unfold fewB; rw [hall, HN.out, Bool.true_and]
        exact decide_eq_decide.2 ⟨fun h => by omega, fun h => by omega⟩)
      go_wp2
      go_ret
      exact ⟨by rw [HE.out]; rfl, rfl⟩
/-- All bits of calls. -/
def allBits (l : List OpD) : List Bool := (l.map OpD.bits).flatten
theorem allBits_succ {l : List OpD} {k : Nat} {o : OpD} (h : l[k]? = some o) : allBits (l.take (k + 1)) = allBits (l.take k) ++ o.bits := by
  have hlt := (List.getElem?_eq_some_iff.1 h).1
  have e : l[k] = o := (List.getElem?_eq_some_iff.1 h).2
  unfold allBits
  rw [List.take_succ_eq_append_getElem hlt, List.map_append, List.flatten_append, e]; simp
theorem allBits_split (l : List OpD) (k : Nat) : allBits l = allBits (l.take k) ++ allBits (l.drop k) := by
  unfold allBits; rw [← List.flatten_append, ← List.map_append, List.take_append_drop]
theorem bits_le {o : OpD} (ho : o.s.size ≤ 60) : o.bits.length ≤ 480 := by
  unfold OpD.bits
  by_cases ht : o.t = true
  · rw [if_pos ht, ob_length, ← ls_size]; omega
  · rw [if_neg ht]
    by_cases hb : o.bad = true
    · rw [if_pos hb]; simp
    · rw [if_neg hb, lb_length]
      have : o.t = false := by simpa using ht
      have hb2 : ¬ (o.n < 0 ∨ 64 < o.n) := by intro h; apply hb; unfold OpD.bad; rw [this]; rcases h with h | h <;> simp [h]
      omega
theorem all_le {l : List OpD} (h : ∀ o ∈ l, o.s.size ≤ 60) : (allBits l).length ≤ 480 * l.length := by
  induction l with
  | nil => simp [allBits]
  | cons o l ih =>
    have h1 := ih fun q hq => h q (List.mem_cons_of_mem _ hq)
    have h2 := bits_le (h o (List.mem_cons_self ..))
    unfold allBits at *
    rw [List.map_cons, List.flatten_cons, List.length_append, List.length_cons]; omega
theorem few_yes {l : List OpD} (h : fewB l = true) : l.length ≤ 60 ∧ ∀ o ∈ l, o.s.size ≤ 60 := by
  unfold fewB at h
  rw [Bool.and_eq_true] at h
  exact ⟨by simpa using h.2, fun o ho => by simpa using List.all_eq_true.1 h.1 o ho⟩
end Go.Proofs.Ytfkadmcndjohbaa
