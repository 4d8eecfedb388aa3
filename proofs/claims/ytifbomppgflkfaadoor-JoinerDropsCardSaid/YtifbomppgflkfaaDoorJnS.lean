/-
  What package joiner's see and read answer. The memory that was there stays, but for the joiner's own block.
-/
import Derived.Test.YtifbomppgflkfaaDoorJnI
import Derived.Test.YtifbomppgflkfaaDoorJnB
namespace Go.Proofs.YtifbomppgflkfaaDoor
open Go.RowKit Gf Pk Jn
set_option maxRecDepth 100000
set_option linter.unusedVariables false
/-- What was seen, in memory. -/
abbrev sgC (c : Int) (s : ByteArray) : List Value := [.int .i64 c, .string s]
abbrev sgV (c : Int) (s : ByteArray) : Value := .agg #[.int .i64 c, .string s]
theorem wp_ldG {ops : Array Oper} {rest : List Oper} {o : Oper} {a : Act} {w : World} {Q : Exit → Act → World → Prop} {b off : Nat} {c : Int} {s : ByteArray} (h : w.rangeAt b off (sgC c s)) (hgd : o.guard = none) (x : Operand) (ho : o.op = .load 54 x)
    (hx : a.eval x = .pointer (some ⟨b, off, none⟩)) (k : wpList Tryd.prog ops Q rest (a.put o.dst (sgV c s)) w) : wpList Tryd.prog ops Q (o :: rest) a w :=
  wpList_load_mid hgd _ x ho b off hx (sgC c s) _ h Tryd.underlying54 rfl (by kernel_rfl) k
theorem ldG {w : World} {b o : Nat} {c : Int} {s : ByteArray} (h : w.rangeAt b o (sgC c s)) : (Instr.loadAt 54 (.pointer (some ⟨b, o, none⟩))).run Tryd.prog w = .ok (sgV c s) w := run_loadAt_mid (P := Tryd.prog) w b o _ (sgC c s) _ h Tryd.underlying54 rfl (by kernel_rfl)
theorem eqGd (a c : Int) (s t : ByteArray) (w : World) (d : Nat) : (Op.equalIn (d + 1 + 1) 54 (sgV a s) (sgV c t)).run Tryd.prog w = .ok (a == c && s.toList == t.toList) w := by
  have u1 := Tryd.underlying3
  have u3 := Tryd.underlying9
  have a1 := Tryd.isAgg3
  have a3 := Tryd.isAgg9
  have hS : Tryd.prog.underlying 54 = some (.struct (Tryd.prog.fieldsOf 54)) := by kernel_rfl
  have hp : Tryd.prog.stoodInHeld 54 = false := by kernel_rfl
  rw [run_equalIn_agg w (d + 1) _ _ _ hS hp]
  simp only [Program.fieldsOf, Tryd.underlying54]
  go_simp
  by_cases h1 : a = c <;> by_cases h5 : s.toList = t.toList <;> simp [h1, h5]
theorem eqG (a c : Int) (s t : ByteArray) (w : World) : (binOp .eql 54 (sgV a s) (sgV c t)).run Tryd.prog w = .ok (.bool (a == c && s.toList == t.toList)) w := by rw [run_eql_struct, show (10000 : Nat) = 9998 + 1 + 1 from rfl, eqGd]; rfl
theorem egG : Tryd.prog.eqGuardType Tryd.prog.depth 54 = false := by kernel_rfl
set_option maxHeartbeats 800000 in
set_option maxHeartbeats 800000 in
set_option maxHeartbeats 800000 in
set_option maxHeartbeats 800000 in
set_option maxHeartbeats 800000 in
set_option maxHeartbeats 800000 in
set_option maxHeartbeats 800000 in
theorem jrsee_0 {b : Nat} {pid ct lo count : Int} {h bd body : ByteArray} {fl : Bool} {w : World} (H : CsAt b (jrC pid h fl ct bd lo) w) (hp : body.size ≤ 1000) (hz : ct = 0 ∧ bd = ⟨#[]⟩) :
    Calls Tryd.prog 23 #[.pointer (some ⟨b, 0, none⟩), sgV count body] w fun e w' => e = .returned (.int .i64 0) ∧ CsAt b (jrC pid h fl count body lo) w' ∧ Only b w w' := by
  have hold := H.old
  have HB := Lib.hid hold
  obtain ⟨X, hX⟩ : ∃ X, w.heap.size = X := ⟨_, rfl⟩
  have HN := Lib.hid (show b ≠ X ∧ b ≠ X + 1 by omega)
  have HC1 := Lib.hid ((H.keeps ((Keeps.refl w).alloc (.cells #[.int .i64 count, .string body] 54))).mid [.int .i64 pid, .string h, .bool fl] (sgC ct bd) [.int .i64 lo] rfl rfl)
  obtain ⟨wA, hA⟩ : ∃ wA, (w.alloc (.cells #[.int .i64 count, .string body] 54)).alloc (.cells #[.int .i64 ct, .string bd] 54) = wA := ⟨_, rfl⟩
  have kA : Keeps w wA := by rw [← hA]; exact ((Keeps.refl w).alloc _).alloc _
  have x1 := CsAt.made w #[.int .i64 count, .string body] 54 (by simp)
  have x2 := CsAt.made (w.alloc (.cells #[.int .i64 count, .string body] 54)) #[.int .i64 ct, .string bd] 54 (by simp)
  have x3 := x1.keeps ((Keeps.refl _).alloc (.cells #[.int .i64 ct, .string bd] 54))
  rw [hA] at x2 x3
  rw [World.size_alloc, hX] at x2
  rw [hX] at x3
  have HX := Lib.hid (show CsAt X (sgC count body) wA from x3)
  have HY := Lib.hid (show CsAt (X + 1) (sgC ct bd) wA from x2)
  have HJ := Lib.hid (H.keeps kA)
  have HO := Lib.hid (show Only b w wA from Only.below kA)
  have hz1 : (ct == 0) = true := by rw [hz.1]; rfl
  have hz2 : (bd.toList == []) = true := by rw [hz.2, ls_toList]; rfl
  clear hz
  have HA := Lib.hid hA
  clear hold x1 x2 x3 kA H hA
  go_enter Tryd.func23, Tryd.ntmps23
  go_wp2_with (refine wp_ldG (b := b) (off := 3) HC1.out rfl _ rfl rfl ?_)
  rw [HA.out]
  refine wp_draw (by kernel_rfl)
    [.pointer (some ⟨b, 0, none⟩), .pointer (some ⟨X, 0, none⟩), .int .i64 count, .pointer (some ⟨X, 1, none⟩), .string body, .string body, sgV count body, .pointer (some ⟨b, 0, none⟩), .pointer (some ⟨b, 3, none⟩), undef]
    (Once 9 (fun W => Keeps wA W) (fun W => CsAt b (jrC pid h fl count body lo) W ∧ Only b wA W))
    rfl (by kernel_rfl) (fin := ?fin) ?hfin (Once.start ((Keeps.refl wA).eqv (Eqv.drew wA))) ?each ?hend
  case hfin => simp [seqA, dstOf, Act.put]; rfl
  case each =>
    refine ⟨?_, ?_, ?_, ?_, ?_, ?_, ?_, ?_, ?_, ?_, trivial⟩
    all_goals intro L w5 h0 hd hs hw
    all_goals try simp only [Nat.zero_add, Nat.reduceAdd] at h0
    all_goals unfold Does
    rotate_left 9
    · have k5 := hw.1 h0
      have z5 := HJ.out.keeps k5
      have q3 := z5.cell 3 rfl
      have q4 := z5.cell 4 rfl
      have g3 := z5.fz 3 (by show 3 < 6; decide)
      have g4 := z5.fz 4 (by show 4 < 6; decide)
      have hst : CsAt b (jrC pid h fl count body lo) _ := z5.put [.int .i64 pid, .string h, .bool fl] (sgC ct bd) (sgC count body) [.int .i64 lo] rfl rfl rfl
      have hon := (Only.below (b := b) k5).trans (only_setCells b (sgC count body) 3 w5)
      clear z5
      go_simp
      exact fun L' k => Once.done k ⟨hst, hon⟩
    rotate_left 2
    · have h6 : L 9 = false := hs.no (i := 2) (by kernel_rfl) h0
      have k5 := hw.1 h6
      have q0 := (HX.out.keeps k5).cell 0 rfl
      go_simp
      exact fun L' k => hw.same (by decide) k
    rotate_left 1
    · have h6 : L 9 = false := hs.no (i := 4) (by kernel_rfl) h0
      have k5 := hw.1 h6
      have q0 := (HX.out.keeps k5).cell 1 rfl
      go_simp
      exact fun L' k => hw.same (by decide) k
    · go_simp
      refine (clone_any body w5 (by omega)).mono ?_
      rintro e w6 ⟨rfl, k6⟩
      exact ⟨_, rfl, rfl, fun L' k => hw.keep (by decide) k (fun h => h.trans k6) (fun h => ⟨h.1.keeps k6, h.2.trans (Only.below k6)⟩)⟩
    all_goals go_simp
    all_goals exact fun L' k => hw.same (by decide) k
  case hend =>
  intro L w5 hL hw
  obtain ⟨hc5, ho5⟩ := hw.2 (hL 9 (by simp))
  have HC5 := Lib.hid hc5
  have HO5 := Lib.hid (HO.out.trans ho5)
  have HX5 := Lib.hid (HX.out.only (Ne.symm HN.out.1) ho5)
  have HY5 := Lib.hid (HY.out.only (Ne.symm HN.out.2) ho5)
  have y0 := HY5.out.cell 0 rfl
  have x0 := HX5.out.cell 0 rfl
  clear hL hw hc5 ho5
  go_wp2_with (refine wp_ldG (b := X + 1) (off := 0) HY5.out.r rfl _ rfl rfl ?_)
  go_ret
  exact ⟨rfl, HC5.out, HO5.out⟩
set_option maxHeartbeats 800000 in
theorem jrsee_1 {b : Nat} {pid ct lo count : Int} {h bd body : ByteArray} {fl : Bool} {w : World} (H : CsAt b (jrC pid h fl ct bd lo) w) (hp : body.size ≤ 1000) (hb : bd.size ≠ 0) (hct : 0 ≤ ct ∧ ct ≤ 15) (hc : count = (ct + 1) % 16) :
    Calls Tryd.prog 23 #[.pointer (some ⟨b, 0, none⟩), sgV count body] w fun e w' => e = .returned (.int .i64 0) ∧ CsAt b (jrC pid h fl count body lo) w' ∧ Only b w w' := by
  have hold := H.old
  have HB := Lib.hid hold
  obtain ⟨X, hX⟩ : ∃ X, w.heap.size = X := ⟨_, rfl⟩
  have HN := Lib.hid (show b ≠ X ∧ b ≠ X + 1 by omega)
  have HC1 := Lib.hid ((H.keeps ((Keeps.refl w).alloc (.cells #[.int .i64 count, .string body] 54))).mid [.int .i64 pid, .string h, .bool fl] (sgC ct bd) [.int .i64 lo] rfl rfl)
  obtain ⟨wA, hA⟩ : ∃ wA, (w.alloc (.cells #[.int .i64 count, .string body] 54)).alloc (.cells #[.int .i64 ct, .string bd] 54) = wA := ⟨_, rfl⟩
  have kA : Keeps w wA := by rw [← hA]; exact ((Keeps.refl w).alloc _).alloc _
  have x1 := CsAt.made w #[.int .i64 count, .string body] 54 (by simp)
  have x2 := CsAt.made (w.alloc (.cells #[.int .i64 count, .string body] 54)) #[.int .i64 ct, .string bd] 54 (by simp)
  have x3 := x1.keeps ((Keeps.refl _).alloc (.cells #[.int .i64 ct, .string bd] 54))
  rw [hA] at x2 x3
  rw [World.size_alloc, hX] at x2
  rw [hX] at x3
  have HX := Lib.hid (show CsAt X (sgC count body) wA from x3)
  have HY := Lib.hid (show CsAt (X + 1) (sgC ct bd) wA from x2)
  have HJ := Lib.hid (H.keeps kA)
  have HO := Lib.hid (show Only b w wA from Only.below kA)
  have HNE := Lib.hid (show (bd.toList == (⟨#[]⟩ : ByteArray).toList) = false by
    rw [beq_eq_false_iff_ne, ls_toList, ls_toList]; intro e
    exact hb (by rw [ls_size, e]; rfl))
  clear hb
  have wr1 := wrapI (a := ct + 1) (by omega) (by omega)
  have hm : (ct + 1).tmod 16 = count := by rw [Int.tmod_eq_emod_of_nonneg (by omega)]; exact hc.symm
  clear hc
  have HA := Lib.hid hA
  clear hold x1 x2 x3 kA H hA
  go_enter Tryd.func23, Tryd.ntmps23
  go_wp2_with (refine wp_ldG (b := b) (off := 3) HC1.out rfl _ rfl rfl ?_)
  rw [HA.out]
  refine wp_draw (by kernel_rfl)
    [.pointer (some ⟨b, 0, none⟩), .pointer (some ⟨X, 0, none⟩), .int .i64 count, .pointer (some ⟨X, 1, none⟩), .string body, .string body, sgV count body, .pointer (some ⟨b, 0, none⟩), .pointer (some ⟨b, 3, none⟩), undef]
    (Once 9 (fun W => Keeps wA W) (fun W => CsAt b (jrC pid h fl count body lo) W ∧ Only b wA W))
    rfl (by kernel_rfl) (fin := ?fin) ?hfin (Once.start ((Keeps.refl wA).eqv (Eqv.drew wA))) ?each ?hend
  case hfin => simp [seqA, dstOf, Act.put]; rfl
  case each =>
    refine ⟨?_, ?_, ?_, ?_, ?_, ?_, ?_, ?_, ?_, ?_, trivial⟩
    all_goals intro L w5 h0 hd hs hw
    all_goals try simp only [Nat.zero_add, Nat.reduceAdd] at h0
    all_goals unfold Does
    rotate_left 9
    · have k5 := hw.1 h0
      have z5 := HJ.out.keeps k5
      have q3 := z5.cell 3 rfl
      have q4 := z5.cell 4 rfl
      have g3 := z5.fz 3 (by show 3 < 6; decide)
      have g4 := z5.fz 4 (by show 4 < 6; decide)
      have hst : CsAt b (jrC pid h fl count body lo) _ := z5.put [.int .i64 pid, .string h, .bool fl] (sgC ct bd) (sgC count body) [.int .i64 lo] rfl rfl rfl
      have hon := (Only.below (b := b) k5).trans (only_setCells b (sgC count body) 3 w5)
      clear z5
      go_simp
      exact fun L' k => Once.done k ⟨hst, hon⟩
    rotate_left 2
    · have h6 : L 9 = false := hs.no (i := 2) (by kernel_rfl) h0
      have k5 := hw.1 h6
      have q0 := (HX.out.keeps k5).cell 0 rfl
      go_simp
      exact fun L' k => hw.same (by decide) k
    rotate_left 1
    · have h6 : L 9 = false := hs.no (i := 4) (by kernel_rfl) h0
      have k5 := hw.1 h6
      have q0 := (HX.out.keeps k5).cell 1 rfl
      go_simp
      exact fun L' k => hw.same (by decide) k
    · go_simp
      refine (clone_any body w5 (by omega)).mono ?_
      rintro e w6 ⟨rfl, k6⟩
      exact ⟨_, rfl, rfl, fun L' k => hw.keep (by decide) k (fun h => h.trans k6) (fun h => ⟨h.1.keeps k6, h.2.trans (Only.below k6)⟩)⟩
    all_goals go_simp
    all_goals exact fun L' k => hw.same (by decide) k
  case hend =>
  intro L w5 hL hw
  obtain ⟨hc5, ho5⟩ := hw.2 (hL 9 (by simp))
  have HC5 := Lib.hid hc5
  have HO5 := Lib.hid (HO.out.trans ho5)
  have HX5 := Lib.hid (HX.out.only (Ne.symm HN.out.1) ho5)
  have HY5 := Lib.hid (HY.out.only (Ne.symm HN.out.2) ho5)
  have y0 := HY5.out.cell 0 rfl
  have x0 := HX5.out.cell 0 rfl
  clear hL hw hc5 ho5
  have HEQ := Lib.hid (show (binOp .eql 54 (sgV ct bd) (sgV 0 ⟨#[]⟩)).run Tryd.prog w5 = .ok (.bool false) w5 by
    have := eqG ct 0 bd ⟨#[]⟩ w5
    rwa [HNE.out, Bool.and_false] at this)
  go_wp2_with (first | (refine wp_ldG (b := X + 1) (off := 0) HY5.out.r rfl _ rfl rfl ?_) | (refine wp_cmp HEQ.out egG rfl _ _ rfl rfl rfl ?_))
  go_ret
  exact ⟨rfl, HC5.out, HO5.out⟩
set_option maxHeartbeats 800000 in
theorem jrsee_2 {b : Nat} {pid ct lo count : Int} {h bd body : ByteArray} {fl : Bool} {w : World} (H : CsAt b (jrC pid h fl ct bd lo) w) (hp : body.size ≤ 1000) (hb : bd.size ≠ 0) (hct : 0 ≤ ct ∧ ct ≤ 15) (hc : count ≠ (ct + 1) % 16) (hlo : 0 ≤ lo ∧ lo ≤ 1000000) :
    Calls Tryd.prog 23 #[.pointer (some ⟨b, 0, none⟩), sgV count body] w fun e w' => e = .returned (.int .i64 21) ∧ CsAt b (jrC pid ⟨#[]⟩ false count body (lo + 1)) w' ∧ Only b w w' := by
  have hold := H.old
  have HB := Lib.hid hold
  obtain ⟨X, hX⟩ : ∃ X, w.heap.size = X := ⟨_, rfl⟩
  have HN := Lib.hid (show b ≠ X ∧ b ≠ X + 1 by omega)
  have HC1 := Lib.hid ((H.keeps ((Keeps.refl w).alloc (.cells #[.int .i64 count, .string body] 54))).mid [.int .i64 pid, .string h, .bool fl] (sgC ct bd) [.int .i64 lo] rfl rfl)
  obtain ⟨wA, hA⟩ : ∃ wA, (w.alloc (.cells #[.int .i64 count, .string body] 54)).alloc (.cells #[.int .i64 ct, .string bd] 54) = wA := ⟨_, rfl⟩
  have kA : Keeps w wA := by rw [← hA]; exact ((Keeps.refl w).alloc _).alloc _
  have x1 := CsAt.made w #[.int .i64 count, .string body] 54 (by simp)
  have x2 := CsAt.made (w.alloc (.cells #[.int .i64 count, .string body] 54)) #[.int .i64 ct, .string bd] 54 (by simp)
  have x3 := x1.keeps ((Keeps.refl _).alloc (.cells #[.int .i64 ct, .string bd] 54))
  rw [hA] at x2 x3
  rw [World.size_alloc, hX] at x2
  rw [hX] at x3
  have HX := Lib.hid (show CsAt X (sgC count body) wA from x3)
  have HY := Lib.hid (show CsAt (X + 1) (sgC ct bd) wA from x2)
  have HJ := Lib.hid (H.keeps kA)
  have HO := Lib.hid (show Only b w wA from Only.below kA)
  have HNE := Lib.hid (show (bd.toList == (⟨#[]⟩ : ByteArray).toList) = false by
    rw [beq_eq_false_iff_ne, ls_toList, ls_toList]; intro e
    exact hb (by rw [ls_size, e]; rfl))
  clear hb
  have wr1 := wrapI (a := ct + 1) (by omega) (by omega)
  have wr2 := wrapI (a := lo + 1) (by omega) (by omega)
  obtain ⟨M, hM⟩ : ∃ M, (ct + 1) % 16 = M := ⟨_, rfl⟩
  have hm : (ct + 1).tmod 16 = M := by rw [Int.tmod_eq_emod_of_nonneg (by omega)]; exact hM
  rw [hM] at hc
  have hcm : (count == M) = false := by rw [beq_eq_false_iff_ne]; exact hc
  clear hc hM
  have HA := Lib.hid hA
  clear hold x1 x2 x3 kA H hA
  go_enter Tryd.func23, Tryd.ntmps23
  go_wp2_with (refine wp_ldG (b := b) (off := 3) HC1.out rfl _ rfl rfl ?_)
  rw [HA.out]
  refine wp_draw (by kernel_rfl)
    [.pointer (some ⟨b, 0, none⟩), .pointer (some ⟨X, 0, none⟩), .int .i64 count, .pointer (some ⟨X, 1, none⟩), .string body, .string body, sgV count body, .pointer (some ⟨b, 0, none⟩), .pointer (some ⟨b, 3, none⟩), undef]
    (Once 9 (fun W => Keeps wA W) (fun W => CsAt b (jrC pid h fl count body lo) W ∧ Only b wA W))
    rfl (by kernel_rfl) (fin := ?fin) ?hfin (Once.start ((Keeps.refl wA).eqv (Eqv.drew wA))) ?each ?hend
  case hfin => simp [seqA, dstOf, Act.put]; rfl
  case each =>
    refine ⟨?_, ?_, ?_, ?_, ?_, ?_, ?_, ?_, ?_, ?_, trivial⟩
    all_goals intro L w5 h0 hd hs hw
    all_goals try simp only [Nat.zero_add, Nat.reduceAdd] at h0
    all_goals unfold Does
    rotate_left 9
    · have k5 := hw.1 h0
      have z5 := HJ.out.keeps k5
      have q3 := z5.cell 3 rfl
      have q4 := z5.cell 4 rfl
      have g3 := z5.fz 3 (by show 3 < 6; decide)
      have g4 := z5.fz 4 (by show 4 < 6; decide)
      have hst : CsAt b (jrC pid h fl count body lo) _ := z5.put [.int .i64 pid, .string h, .bool fl] (sgC ct bd) (sgC count body) [.int .i64 lo] rfl rfl rfl
      have hon := (Only.below (b := b) k5).trans (only_setCells b (sgC count body) 3 w5)
      clear z5
      go_simp
      exact fun L' k => Once.done k ⟨hst, hon⟩
    rotate_left 2
    · have h6 : L 9 = false := hs.no (i := 2) (by kernel_rfl) h0
      have k5 := hw.1 h6
      have q0 := (HX.out.keeps k5).cell 0 rfl
      go_simp
      exact fun L' k => hw.same (by decide) k
    rotate_left 1
    · have h6 : L 9 = false := hs.no (i := 4) (by kernel_rfl) h0
      have k5 := hw.1 h6
      have q0 := (HX.out.keeps k5).cell 1 rfl
      go_simp
      exact fun L' k => hw.same (by decide) k
    · go_simp
      refine (clone_any body w5 (by omega)).mono ?_
      rintro e w6 ⟨rfl, k6⟩
      exact ⟨_, rfl, rfl, fun L' k => hw.keep (by decide) k (fun h => h.trans k6) (fun h => ⟨h.1.keeps k6, h.2.trans (Only.below k6)⟩)⟩
    all_goals go_simp
    all_goals exact fun L' k => hw.same (by decide) k
  case hend =>
  intro L w5 hL hw
  obtain ⟨hc5, ho5⟩ := hw.2 (hL 9 (by simp))
  have HC5 := Lib.hid hc5
  have HO5 := Lib.hid (HO.out.trans ho5)
  have HX5 := Lib.hid (HX.out.only (Ne.symm HN.out.1) ho5)
  have HY5 := Lib.hid (HY.out.only (Ne.symm HN.out.2) ho5)
  have y0 := HY5.out.cell 0 rfl
  have x0 := HX5.out.cell 0 rfl
  clear hL hw hc5 ho5
  have HEQ := Lib.hid (show (binOp .eql 54 (sgV ct bd) (sgV 0 ⟨#[]⟩)).run Tryd.prog w5 = .ok (.bool false) w5 by
    have := eqG ct 0 bd ⟨#[]⟩ w5
    rwa [HNE.out, Bool.and_false] at this)
  go_wp2_with (first | (refine wp_ldG (b := X + 1) (off := 0) HY5.out.r rfl _ rfl rfl ?_) | (refine wp_cmp HEQ.out egG rfl _ _ rfl rfl rfl ?_) | (go_at_call 28; refine (jrleave_any HC5.out).mono ?_; rintro _ w6 ⟨⟨v6, rfl⟩, c6, o6⟩; have q5 := c6.cell 5 rfl; have g5 := c6.fz 5 (by show 5 < 6; decide); have HC6 := Lib.hid c6; have HO6 := Lib.hid (HO5.out.trans o6); clear c6 o6))
  go_ret
  exact ⟨rfl, HC6.out.set 5 (by show 5 < 6; decide) (.int .i64 (lo + 1)), HO6.out.trans (Only.setCell w6 ⟨b, 5, none⟩ _)⟩
end Go.Proofs.YtifbomppgflkfaaDoor
