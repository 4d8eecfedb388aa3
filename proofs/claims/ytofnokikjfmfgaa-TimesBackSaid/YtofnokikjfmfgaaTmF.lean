/-
  What isTable, whole, Place and At of package times answer, and the document's Rows: of all numbers and floats. The memory stays as it was, but for draws.
-/
import Derived.Laws.Externs
import Derived.Test.YtofnokikjfmfgaaFlWhole
import Derived.Test.YtofnokikjfmfgaaTmB
namespace Go.Proofs.Ytofnokikjfmfgaa
open Go.RowKit Gf Tm Fl
set_option maxRecDepth 100000
def tabR (r : Int) : Prop := r = 256 ∨ r = 512 ∨ r = 768 ∨ r = 1024
instance (r : Int) : Decidable (tabR r) := by unfold tabR; infer_instance
theorem tmtable_any (r : Int) (b : Bool) (h : decide (tabR r) = b) (w : World) :
    Calls Try.prog 47 #[.int .i64 r] w fun e w' => e = .returned (.bool b) ∧ w = w' := by
  subst h
  by_cases hr : tabR r
  · rw [decide_eq_true hr]
    rcases hr with rfl | rfl | rfl | rfl
    all_goals
      go_enter Try.func47, Try.ntmps47
      go_wp2
      go_ret
      exact ⟨rfl, rfl⟩
  · rw [decide_eq_false hr]
    unfold tabR at hr
    have h1 : ¬ r = 256 := by omega
    have h2 : ¬ r = 512 := by omega
    have h3 : ¬ r = 768 := by omega
    have h4 : ¬ r = 1024 := by omega
    clear hr
    go_enter Try.func47, Try.ntmps47
    go_wp2
    go_ret
    exact ⟨rfl, rfl⟩
theorem rtmrows_any (r : Int) (b : Bool) (h : decide (tabR r) = b) (w : World) :
    Calls Try.prog 29 #[.int .i64 r] w fun e w' => e = .returned (.bool b) ∧ w = w' := by
  subst h
  by_cases hr : tabR r
  · rw [decide_eq_true hr]
    rcases hr with rfl | rfl | rfl | rfl
    all_goals
      go_enter Try.func29, Try.ntmps29
      go_wp2
      go_ret
      exact ⟨rfl, rfl⟩
  · rw [decide_eq_false hr]
    unfold tabR at hr
    have h1 : ¬ r = 256 := by omega
    have h2 : ¬ r = 512 := by omega
    have h3 : ¬ r = 768 := by omega
    have h4 : ¬ r = 1024 := by omega
    clear hr
    go_enter Try.func29, Try.ntmps29
    go_wp2
    go_ret
    exact ⟨by simp [h1, h2, h3, h4], rfl⟩
theorem toFl (n : Nat) (W : World) : (convert 3 55 (.int .i64 (n : Int))).run Try.prog W = .ok (.float .f64 (fl n)) W :=
  run_convert_int_float W 3 55 .i64 .f64 (n : Int) (by rw [Try.underlying3]; rfl) Try.underlying55
theorem ofFl {x n k : Nat} (hn : n ≤ 1024) (h : wh x n = some k) (W : World) : (convert 55 3 (.float .f64 x)).run Try.prog W = .ok (.int .i64 (k : Int)) W :=
  run_convert_float_int W 55 3 .f64 .i64 x (k : Int) (by rw [Try.underlying55]; rfl) Try.underlying3 (wh_int (by omega) h)
/-- The machine's own way to cut a float, as the model has it. -/
theorem run_trunc {x : Nat} {s : Bool} {m : Nat} {p : Int} (h : Ieee.double.read x = .number s m p) (w : World) :
    (callFunc 69 #[.float .f64 x]).run Try.prog w = .ok (.value (.float .f64 (trn x))) w := by
  rw [run_callFunc_extern (fn := Try.f69) (e := Extern.MathFloor.toIntegral "math.archTrunc" .zero) (by kernel_rfl) (by kernel_rfl) (by kernel_rfl) (by kernel_rfl) (by kernel_rfl)]
  have hd : FloatKind.f64.decode x = .number s m p := h
  have e : Extern.MathFloor.toIntegral "math.archTrunc" .zero #[.float .f64 x] = (fun d : Ieee.Datum => (match d with
      | .nan s t =>
        if FloatKind.f64.format.quiet t = t then pure (.float .f64 x) else do
        let kept ← choose (.extern "math.Floor,Ceil,Trunc,RoundToEven.signallingNaN kept" 2)
        pure (.float .f64 (if kept == 1 then x else FloatKind.f64.encode (.nan s (FloatKind.f64.format.quiet t))))
      | d => pure (.float .f64 (FloatKind.f64.encode (d.integral .zero))) : Sem Value)) (FloatKind.f64.decode x) := rfl
  unfold trn
  rw [e, hd]
  rfl
theorem tmtrunc_any {x : Nat} {s : Bool} {m : Nat} {p : Int} (h : Ieee.double.read x = .number s m p) (w : World) :
    Calls Try.prog 61 #[.float .f64 x] w fun e w' => e = .returned (.float .f64 (trn x)) ∧ w = w' := by
  have hd := fun W => run_trunc h W
  clear h
  go_enter Try.func61, Try.ntmps61
  go_wp2
  go_ret
  exact ⟨rfl, rfl⟩
theorem tmwhole_any (x n : Nat) (N : Int) (hN : N = (n : Int)) (hn : n ≤ 1024) (w : World) :
    Calls Try.prog 48 #[.float .f64 x, .int .i64 N] w fun e w' => e = .returned (.bool (wh x n).isSome) ∧ w = w' := by
  subst hN
  have hf := toFl n
  obtain ⟨b0, h0⟩ : ∃ b, (FloatKind.f64.format.order x 0 == some .gt || FloatKind.f64.format.order x 0 == some .eq) = b := ⟨_, rfl⟩
  obtain ⟨b1, h1⟩ : ∃ b, (FloatKind.f64.format.order x (fl n) == some .lt) = b := ⟨_, rfl⟩
  cases b0
  · have HW := Lib.hid (whole_no (x := x) (n := n) (by omega) (.inl h0))
    clear h1
    go_enter Try.func48, Try.ntmps48
    go_wp2
    go_ret
    rw [HW.out]
    exact ⟨rfl, rfl⟩
  · cases b1
    · have HW := Lib.hid (whole_no (x := x) (n := n) (by omega) (.inr h1))
      go_enter Try.func48, Try.ntmps48
      go_wp2
      go_ret
      rw [HW.out]
      exact ⟨rfl, rfl⟩
    · obtain ⟨s, m, p, hr⟩ := pass_num (by omega) h0 h1
      have HW := Lib.hid (whole_num hr (by omega) h0 h1)
      have HT := Lib.hid (tmtrunc_any hr)
      clear hr
      go_enter Try.func48, Try.ntmps48
      go_wp2_with (go_at_call 61; refine (HT.out _).mono ?_; rintro _ _ ⟨rfl, rfl⟩)
      go_ret
      rw [← HW.out]
      exact ⟨rfl, rfl⟩
/-- What Place answers: the row and the column, and what is wrong. -/
def pl (r a : Int) : Nat × Nat × Int := if tabR r then if 0 ≤ a ∧ a < 191 * r then ((a % r).toNat, (a / r).toNat, 0) else (0, 0, 15) else (0, 0, 1)
theorem pl_arg {r a : Int} (h : ¬ tabR r) : pl r a = (0, 0, 1) := by unfold pl; rw [if_neg h]
theorem pl_range {r a : Int} (h : tabR r) (k : ¬ (0 ≤ a ∧ a < 191 * r)) : pl r a = (0, 0, 15) := by unfold pl; rw [if_pos h, if_neg k]
theorem pl_ok {r a : Int} (h : tabR r) (k : 0 ≤ a ∧ a < 191 * r) : pl r a = ((a % r).toNat, (a / r).toNat, 0) := by unfold pl; rw [if_pos h, if_pos k]
def PlPost (w : World) (r a : Int) (e : Ending) (w' : World) : Prop := e = .returned (.tuple #[.complex .f64 (fl (pl r a).1) (fl (pl r a).2.1), .int .i64 (pl r a).2.2]) ∧ Eqv w w'
theorem PlPost.of {w w' : World} {r a : Int} {x y : Nat} {z : Int} (e : pl r a = (x, y, z)) (h : Eqv w w') {X Y : Nat} (hX : X = fl x) (hY : Y = fl y) : PlPost w r a (.returned (.tuple #[.complex .f64 X Y, .int .i64 z])) w' := by
  unfold PlPost; rw [e, hX, hY]; exact ⟨rfl, h⟩
set_option maxHeartbeats 1600000 in
theorem tmplace_any (r a : Int) (w : World) :
    Calls Try.prog 27 #[.int .i64 r, .int .i64 a] w (PlPost w r a) := by
  have HP := Lib.hid (fun (x y : Nat) (z : Int) (W : World) (e : pl r a = (x, y, z)) (h : Eqv w W) => PlPost.of (X := fl x) (Y := fl y) e h rfl rfl)
  have HZ := Lib.hid fl_zero
  by_cases h1 : tabR r
  · have H1 := Lib.hid (tmtable_any r true (decide_eq_true h1))
    have hr : 256 ≤ r ∧ r ≤ 1024 := by unfold tabR at h1; omega
    obtain ⟨r0, r1⟩ := hr
    by_cases h2 : 0 ≤ a ∧ a < 191 * r
    · have H2 := Lib.hid (tmwithin_any a 0 (191 * r - 1) true (decide_eq_true ⟨h2.1, by omega⟩))
      have HE := Lib.hid (pl_ok h1 h2)
      obtain ⟨a0, a1⟩ := h2
      have d0 := Int.emod_nonneg a (show r ≠ 0 by omega)
      have d1 := Int.ediv_nonneg a0 (show 0 ≤ r by omega)
      obtain ⟨x, hx⟩ : ∃ x : Nat, a % r = (x : Int) := ⟨(a % r).toNat, by omega⟩
      obtain ⟨y, hy⟩ : ∃ y : Nat, a / r = (y : Int) := ⟨(a / r).toNat, by omega⟩
      have hx' : a.tmod r = (x : Int) := by rw [Int.tmod_eq_emod_of_nonneg a0, hx]
      have hy' : a.tdiv r = (y : Int) := by rw [Int.tdiv_eq_ediv_of_nonneg a0, hy]
      have x1 : (x : Int) < 1024 := by have := Int.emod_lt_of_pos a (show 0 < r by omega); omega
      have y1 : (y : Int) ≤ 1000000 := by have := Int.ediv_le_self r a0; omega
      rw [hx, hy, Int.toNat_natCast, Int.toNat_natCast] at HE
      have wx := wrapI (a := (x : Int)) (by omega) (by omega)
      have wy := wrapI (a := (y : Int)) (by omega) (by omega)
      have hr0 : ¬ r = 0 := by omega
      have hf1 := toFl x
      have hf2 := toFl y
      clear h1 d0 d1
      go_enter Try.func27, Try.ntmps27
      go_wp2_with (first | (go_at_call 47; refine (H1.out _).mono ?_; rintro _ _ ⟨rfl, rfl⟩) | (go_at_call 46; refine (H2.out _).mono ?_; rintro _ _ ⟨rfl, rfl⟩))
      go_quiet (fail)
      go_wp2
      go_ret2
      exact HP.out _ _ _ _ HE.out (Eqv.drewN w _)
    · have H2 := Lib.hid (tmwithin_any a 0 (191 * r - 1) false (decide_eq_false fun x => h2 ⟨x.1, by omega⟩))
      have HE := Lib.hid (pl_range h1 h2)
      clear h1 h2
      go_enter Try.func27, Try.ntmps27
      go_wp2_with (first | (go_at_call 47; refine (H1.out _).mono ?_; rintro _ _ ⟨rfl, rfl⟩) | (go_at_call 46; refine (H2.out _).mono ?_; rintro _ _ ⟨rfl, rfl⟩))
      go_ret2
      exact PlPost.of HE.out (Eqv.refl _) HZ.out.symm HZ.out.symm
  · have H1 := Lib.hid (tmtable_any r false (decide_eq_false h1))
    have HE := Lib.hid (pl_arg (a := a) h1)
    clear h1
    go_enter Try.func27, Try.ntmps27
    go_wp2_with (go_at_call 47; refine (H1.out _).mono ?_; rintro _ _ ⟨rfl, rfl⟩)
    go_ret2
    exact PlPost.of HE.out (Eqv.refl _) HZ.out.symm HZ.out.symm
/-- What At answers. -/
def att (r : Int) (x y : Nat) : Int × Int := if tabR r then match wh x r.toNat, wh y 191 with | some i, some j => ((j : Int) * r + (i : Int), 0) | _, _ => (0, 15) else (0, 1)
theorem att_arg {r : Int} {x y : Nat} (h : ¬ tabR r) : att r x y = (0, 1) := by unfold att; rw [if_neg h]
theorem att_row {r : Int} {x y : Nat} (h : tabR r) (k : wh x r.toNat = none) : att r x y = (0, 15) := by unfold att; rw [if_pos h, k]
theorem att_col {r : Int} {x y : Nat} (h : tabR r) (k : wh y 191 = none) : att r x y = (0, 15) := by unfold att; rw [if_pos h, k]; split <;> first | rfl | simp_all
theorem att_ok {r : Int} {x y i j : Nat} (h : tabR r) (k : wh x r.toNat = some i) (k2 : wh y 191 = some j) : att r x y = ((j : Int) * r + (i : Int), 0) := by unfold att; rw [if_pos h, k, k2]
set_option maxHeartbeats 1600000 in
theorem tmat_any (r : Int) (x y : Nat) (w : World) :
    Calls Try.prog 28 #[.int .i64 r, .complex .f64 x y] w fun e w' => e = .returned (.tuple #[.int .i64 (att r x y).1, .int .i64 (att r x y).2]) ∧ w = w' := by
  have HR := Lib.hid (fun a b (e : att r x y = (a, b)) => retD e)
  by_cases h1 : tabR r
  · have H1 := Lib.hid (tmtable_any r true (decide_eq_true h1))
    have hr : 256 ≤ r ∧ r ≤ 1024 := by unfold tabR at h1; omega
    obtain ⟨r0, r1⟩ := hr
    have H2 := Lib.hid (tmwhole_any x r.toNat r (by omega) (by omega))
    have H3 := Lib.hid (tmwhole_any y 191 191 rfl (by omega))
    cases e1 : wh x r.toNat with
    | none =>
      have HE := Lib.hid (att_row (y := y) h1 e1)
      rw [e1] at H2
      clear h1 e1
      go_enter Try.func28, Try.ntmps28
      go_wp2_with (first | (go_at_call 47; refine (H1.out _).mono ?_; rintro _ _ ⟨rfl, rfl⟩) | (go_at_call 48; refine (H2.out _).mono ?_; rintro _ _ ⟨rfl, rfl⟩))
      go_ret2
      exact ⟨HR.out _ _ HE.out, rfl⟩
    | some i =>
      rw [e1] at H2
      cases e2 : wh y 191 with
      | none =>
        have HE := Lib.hid (att_col (x := x) h1 e2)
        rw [e2] at H3
        clear h1 e1 e2
        go_enter Try.func28, Try.ntmps28
        go_wp2_with (first | (go_at_call 47; refine (H1.out _).mono ?_; rintro _ _ ⟨rfl, rfl⟩) | (go_at_call 48; (first | with_reducible refine (H2.out _).mono ?_ | with_reducible refine (H3.out _).mono ?_); rintro _ _ ⟨rfl, rfl⟩))
        go_ret2
        exact ⟨HR.out _ _ HE.out, rfl⟩
      | some j =>
        have HE := Lib.hid (att_ok h1 e1 e2)
        rw [e2] at H3
        have hi : (i : Int) < r := by have := (wh_some e1).1; omega
        have hj : (j : Int) < 191 := by have := (wh_some e2).1; omega
        have c1 := ofFl (n := r.toNat) (by omega) e1
        have c2 := ofFl (n := 191) (by omega) e2
        obtain ⟨m, hm⟩ : ∃ m, (j : Int) * r = m := ⟨_, rfl⟩
        have m1 : m ≤ 1000000 := by
          have : (j : Int) * r ≤ 191 * r := Int.mul_le_mul_of_nonneg_right (by omega) (by omega)
          omega
        have m0 : 0 ≤ m := hm ▸ Int.mul_nonneg (by omega) (by omega)
        rw [hm] at HE
        have wm := wrapI (a := m) (by omega) (by omega)
        have wm2 := wrapI (a := m + (i : Int)) (by omega) (by omega)
        clear h1 e1 e2
        go_enter Try.func28, Try.ntmps28
        go_wp2_with (first | (go_at_call 47; refine (H1.out _).mono ?_; rintro _ _ ⟨rfl, rfl⟩) | (go_at_call 48; (first | with_reducible refine (H2.out _).mono ?_ | with_reducible refine (H3.out _).mono ?_); rintro _ _ ⟨rfl, rfl⟩))
        go_ret2
        exact ⟨HR.out _ _ HE.out, rfl⟩
  · have H1 := Lib.hid (tmtable_any r false (decide_eq_false h1))
    have HE := Lib.hid (att_arg (x := x) (y := y) h1)
    clear h1
    go_enter Try.func28, Try.ntmps28
    go_wp2_with (go_at_call 47; refine (H1.out _).mono ?_; rintro _ _ ⟨rfl, rfl⟩)
    go_ret2
    exact ⟨HR.out _ _ HE.out, rfl⟩
end Go.Proofs.Ytofnokikjfmfgaa
