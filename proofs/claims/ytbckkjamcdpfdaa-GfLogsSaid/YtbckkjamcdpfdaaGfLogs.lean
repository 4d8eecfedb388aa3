/-
  For any two bytes and any two ints GfLogs returns true: logarithms are added, and powers added and multiplied; nothing that was there is changed. No condition.
-/
import Derived.Test.YtbckkjamcdpfdaaRows
import Derived.Test.YtbckkjamcdpfdaaGfE
import Derived.Test.YtbckkjamcdpfdaaGfF
import Derived.Test.YtbckkjamcdpfdaaGfI
import Derived.OpenShut
import Derived.ShutString
import Derived.ChangeOld
import Derived.Carry
namespace Go.Proofs.Ytbckkjamcdpfdaa.gfLogs
open Go.ChangeShapes Go.WideShapes Go.ChangeAt Go.RowKit Gf
open Go.ChangeMaps (open_string shut_string)
set_option linter.unusedVariables false
set_option maxRecDepth 100000 in
set_option maxHeartbeats 4000000 in
theorem off1 (a b n m : Int) (w : World) (h : n < -1000) :
    Calls Try.prog 8 #[.int .u8 a, .int .u8 b, .agg #[.int .i64 n, .int .i64 m]] w fun e w' => e = .returned (.bool true) ∧ Keeps w w' := by
  go_enter Try.func8, Try.ntmps8
  go_wp2_with fail
  refine (awake_any w _ (Keeps.alloc (Keeps.refl w) _)).mono ?_
  rintro e wk1 ⟨rfl, hk1⟩
  go_wp2
  go_ret
  exact ⟨rfl, hk1⟩
set_option maxRecDepth 100000 in
set_option maxHeartbeats 4000000 in
theorem off2 (a b n m : Int) (w : World) (h0 : -1000 ≤ n) (h : 1000 < n) :
    Calls Try.prog 8 #[.int .u8 a, .int .u8 b, .agg #[.int .i64 n, .int .i64 m]] w fun e w' => e = .returned (.bool true) ∧ Keeps w w' := by
  go_enter Try.func8, Try.ntmps8
  go_wp2_with fail
  refine (awake_any w _ (Keeps.alloc (Keeps.refl w) _)).mono ?_
  rintro e wk1 ⟨rfl, hk1⟩
  go_wp2
  go_ret
  exact ⟨rfl, hk1⟩
set_option maxRecDepth 100000 in
set_option maxHeartbeats 4000000 in
theorem off3 (a b n m : Int) (w : World) (h0 : -1000 ≤ n) (h1 : n ≤ 1000) (h : m < -1000) :
    Calls Try.prog 8 #[.int .u8 a, .int .u8 b, .agg #[.int .i64 n, .int .i64 m]] w fun e w' => e = .returned (.bool true) ∧ Keeps w w' := by
  go_enter Try.func8, Try.ntmps8
  go_wp2_with fail
  refine (awake_any w _ (Keeps.alloc (Keeps.refl w) _)).mono ?_
  rintro e wk1 ⟨rfl, hk1⟩
  go_wp2
  go_ret
  exact ⟨rfl, hk1⟩
set_option maxRecDepth 100000 in
set_option maxHeartbeats 4000000 in
theorem off4 (a b n m : Int) (w : World) (h0 : -1000 ≤ n) (h1 : n ≤ 1000) (h2 : -1000 ≤ m) (h : 1000 < m) :
    Calls Try.prog 8 #[.int .u8 a, .int .u8 b, .agg #[.int .i64 n, .int .i64 m]] w fun e w' => e = .returned (.bool true) ∧ Keeps w w' := by
  go_enter Try.func8, Try.ntmps8
  go_wp2_with fail
  refine (awake_any w _ (Keeps.alloc (Keeps.refl w) _)).mono ?_
  rintro e wk1 ⟨rfl, hk1⟩
  go_wp2
  go_ret
  exact ⟨rfl, hk1⟩
set_option maxRecDepth 100000 in
set_option maxHeartbeats 4000000 in
theorem off5 (a b n m : Int) (w : World) (h0 : -1000 ≤ n) (h1 : n ≤ 1000) (h2 : -1000 ≤ m) (h3 : m ≤ 1000) (h : (a == 0) = true) :
    Calls Try.prog 8 #[.int .u8 a, .int .u8 b, .agg #[.int .i64 n, .int .i64 m]] w fun e w' => e = .returned (.bool true) ∧ Keeps w w' := by
  go_enter Try.func8, Try.ntmps8
  go_wp2_with fail
  refine (awake_any w _ (Keeps.alloc (Keeps.refl w) _)).mono ?_
  rintro e wk1 ⟨rfl, hk1⟩
  go_wp2
  go_ret
  exact ⟨rfl, hk1⟩
set_option maxRecDepth 100000 in
set_option maxHeartbeats 4000000 in
theorem off6 (a b n m : Int) (w : World) (h0 : -1000 ≤ n) (h1 : n ≤ 1000) (h2 : -1000 ≤ m) (h3 : m ≤ 1000) (h4 : (a == 0) = false) (h : (b == 0) = true) :
    Calls Try.prog 8 #[.int .u8 a, .int .u8 b, .agg #[.int .i64 n, .int .i64 m]] w fun e w' => e = .returned (.bool true) ∧ Keeps w w' := by
  go_enter Try.func8, Try.ntmps8
  go_wp2_with fail
  refine (awake_any w _ (Keeps.alloc (Keeps.refl w) _)).mono ?_
  rintro e wk1 ⟨rfl, hk1⟩
  go_wp2
  go_ret
  exact ⟨rfl, hk1⟩
set_option maxRecDepth 100000 in
set_option maxHeartbeats 4000000 in
theorem core (a b n m : Int) (w : World) (a0 : 1 ≤ a) (a1 : a ≤ 255) (b0 : 1 ≤ b) (b1 : b ≤ 255) (h0 : -1000 ≤ n) (h1 : n ≤ 1000) (h2 : -1000 ≤ m) (h3 : m ≤ 1000) (p0 : -1000000 ≤ n * m) (p1 : n * m ≤ 1000000) :
    Calls Try.prog 8 #[.int .u8 a, .int .u8 b, .agg #[.int .i64 n, .int .i64 m]] w fun e w' => e = .returned (.bool true) ∧ Keeps w w' := by
  have ha : Byte a := ⟨by omega, a1⟩
  have hb : Byte b := ⟨by omega, b1⟩
  have z1 : (a == 0) = false := by simp; omega
  have z2 : (b == 0) = false := by simp; omega
  obtain ⟨la0, la1⟩ := gl_bd a0 a1
  obtain ⟨lb0, lb1⟩ := gl_bd b0 b1
  go_enter Try.func8, Try.ntmps8
  go_wp2_with fail
  refine (log_any w _ _ a0 a1 (Keeps.alloc (Keeps.refl w) _)).mono ?_
  rintro e wk1 ⟨rfl, hk1⟩
  go_wp2_with fail
  refine (log_any w _ _ b0 b1 hk1).mono ?_
  rintro e wk2 ⟨rfl, hk2⟩
  clear hk1
  go_wp2_with fail
  refine (mul2 w _ a b _ ha hb hk2).mono ?_
  rintro e wk3 ⟨rfl, hk3⟩
  clear hk2
  go_wp2_with fail
  refine (log_any w _ _ (gm_pos a0 b0) (gm_bd a b).2 hk3).mono ?_
  rintro e wk4 ⟨rfl, hk4⟩
  clear hk3
  rw [gl_gm a0 b0]
  go_wp2_with fail
  refine (pow_any w _ _ n a0 a1 hk4).mono ?_
  rintro e wk5 ⟨rfl, hk5⟩
  clear hk4
  go_wp2_with fail
  refine (pow_any w _ _ m a0 a1 hk5).mono ?_
  rintro e wk6 ⟨rfl, hk6⟩
  clear hk5
  go_wp2_with fail
  refine (pow_any w _ _ (n + m) a0 a1 hk6).mono ?_
  rintro e wk7 ⟨rfl, hk7⟩
  clear hk6
  go_wp2_with fail
  refine (pow_any w _ _ m (gp_bd a n).1 (gp_bd a n).2 hk7).mono ?_
  rintro e wk8 ⟨rfl, hk8⟩
  clear hk7
  rw [gp_mul a n m]
  go_wp2_with fail
  refine (pow_any w _ _ (n * m) a0 a1 hk8).mono ?_
  rintro e wk9 ⟨rfl, hk9⟩
  clear hk8
  go_wp2_with fail
  refine (exp_any w _ _ hk9).mono ?_
  rintro e wk10 ⟨rfl, hk10⟩
  clear hk9
  rw [ge_gl a0 a1]
  go_wp2_with fail
  refine (mul2 w _ _ _ _ ⟨by have := (gp_bd a n).1; omega, (gp_bd a n).2⟩ ⟨by have := (gp_bd a m).1; omega, (gp_bd a m).2⟩ hk10).mono ?_
  rintro e wk11 ⟨rfl, hk11⟩
  clear hk10
  rw [gp_add a n m]
  go_wp2_with fail
  refine (exp_any w _ (n + 255) hk11).mono ?_
  rintro e wk12 ⟨rfl, hk12⟩
  clear hk11
  rw [ge_255 n]
  go_wp2_with fail
  refine (exp_any w _ n hk12).mono ?_
  rintro e wk13 ⟨rfl, hk13⟩
  clear hk12
  go_wp2_with fail
  refine (awake_any w _ hk13).mono ?_
  rintro e wk14 ⟨rfl, hk14⟩
  clear hk13
  go_wp2
  go_ret
  exact ⟨rfl, hk14⟩
theorem walk (a : Int) (wa : (Lit.int .u8 a).wf = true) (b : Int) (wb : (Lit.int .u8 b).wf = true) (n m : Int) (wn : (Lit.int .i64 n).wf = true) (wm : (Lit.int .i64 m).wf = true) (w : World) :
    Calls Try.prog 8 #[.int .u8 a, .int .u8 b, .agg #[.int .i64 n, .int .i64 m]] w fun e w' => e = .returned (.bool true) ∧ Below w.heap.size w w' := by
  have ha := bounds_u8 wa
  have hb := bounds_u8 wb
  by_cases h1 : n < -1000
  · exact off1 a b n m w h1
  by_cases h2 : 1000 < n
  · exact off2 a b n m w (by omega) h2
  by_cases h3 : m < -1000
  · exact off3 a b n m w (by omega) (by omega) h3
  by_cases h4 : 1000 < m
  · exact off4 a b n m w (by omega) (by omega) (by omega) h4
  by_cases h5 : a = 0
  · exact off5 a b n m w (by omega) (by omega) (by omega) (by omega) (by simp [h5])
  by_cases h6 : b = 0
  · exact off6 a b n m w (by omega) (by omega) (by omega) (by omega) (by simp [h5]) (by simp [h6])
  have hp : -1000000 ≤ n * m ∧ n * m ≤ 1000000 := by
    have hn : n.natAbs ≤ 1000 := by omega
    have hm : m.natAbs ≤ 1000 := by omega
    have h := Nat.mul_le_mul hn hm
    rw [← Int.natAbs_mul] at h
    omega
  exact core a b n m w (by omega) ha.2 (by omega) hb.2 (by omega) (by omega) (by omega) (by omega) hp.1 hp.2

theorem own : ownKnob Try.prog.godebug = none := by kernel_rfl
theorem laidOut : laidOutB Try.prog = true := by kernel_rfl
set_option maxRecDepth 100000 in
theorem lifted (os : Os) (started : os.Started) (H : Type) (enc : TypeId × Value → H) :
    ReturnsInHanded {} Try.checked os 8 .any (Rows.gfLogsSpec.pre6 enc Try.prog Try.f8 Rows.gfLogsRow.domain false) (Rows.gfLogsSpec.post enc Try.prog Try.f8 false true false false) := by
  refine returnsInHanded_of_change (C := Try.checked) own started (by kernel_rfl) Try.func8
    (ChangeSpec.witness6 (enc := enc) (C := Try.checked) false ⟨#[], #[.int .u8 0, .int .u8 0, .agg #[.int .i64 0, .int .i64 0]], []⟩ 8 (by kernel_rfl) (by kernel_rfl) (by kernel_rfl) (by kernel_rfl)) ?_
  intro W base args ds gs before hval0 hW hcnd _
  have hval : ∀ (j : Nat) t v, Try.f8.params[j]? = some t → args[j]? = some v → Value.okWide Try.prog W .any base t v := hval0
  have hW' := hW
  obtain ⟨p, q, hA0, hV, rfl, hfz, hnd⟩ := hW
  have hA : DataW.TrodAll enc Try.prog W 0 (fun _ => true) true Try.f8.params.toList args.toList ds p := hA0
  rw [Try.params8] at hA hval
  obtain ⟨v0, vs0, d0, ds0, p0, q0, hargs, rfl, rfl, h0, r0⟩ := trodAll_cons hA
  obtain ⟨v1, vs1, d1, ds1, p1, q1, rfl, rfl, rfl, h1, r1⟩ := trodAll_cons r0
  obtain ⟨v2, vs2, d2, ds2, p2, q2, rfl, rfl, rfl, h2, r2⟩ := trodAll_cons r1
  obtain ⟨rfl, rfl, rfl⟩ := trodAll_nil r2
  obtain rfl : args = #[v0, v1, v2] := by cases args; simp_all
  obtain ⟨rfl, rfl⟩ := trodVars_none hV
  obtain ⟨a0, rfl, rfl, rfl, w0⟩ := open_int Try.underlying5 (hval 0 5 v0 rfl rfl) h0
  obtain ⟨a1, rfl, rfl, rfl, w1⟩ := open_int Try.underlying5 (hval 1 5 v1 rfl rfl) h1
  have k2 := h2
  have lt2 : ∀ x ∈ p2, x.block < W.heap.size := by obtain ⟨m, hm⟩ := k2; exact DataW.trod_lt m _ _ _ hm
  obtain ⟨x2, y2, rfl, wx2, wy2⟩ := open_arr2 (hval 2 44 v2 rfl rfl) h2
  clear hA0 hval0
  refine (walk a0 w0 a1 w1 x2 y2 wx2 wy2 W).mono fun e W' ⟨he, bel⟩ => ?_
  subst he
  exact ⟨_, rfl, _, _, _, [], _, [], hW', trodAll_mk1 (shut_bool Try.underlying4 _), (trodAll_cons_mk (shut_int Try.underlying5 w0) (trodAll_cons_mk (shut_int Try.underlying5 w1) (trodAll_cons_mk (Below.trod laidOut (by kernel_rfl) (of_decide_eq_true (by kernel_rfl)) k2 bel lt2) trodAll_mk0))), rfl, bel.frame _, fun h => by cases h⟩

theorem over : Rows.gfLogsRow.holds Try.pinned (OpenSpec.ofChange Rows.gfLogsSpec) :=
  OpenClaim.holds_of_wide 8 Try.f8 rfl rfl rfl rfl rfl rfl rfl ⟨rfl, rfl, rfl, rfl, rfl⟩ rfl rfl rfl rfl rfl (by kernel_rfl) Try.func8 (by kernel_rfl)
    (of_decide_eq_true (by kernel_rfl)) (by unfold Func.isWrapper; first | (rw [if_pos (by decide +kernel)]; kernel_rfl) | (rw [if_neg (by decide +kernel)]; exact ⟨rfl, rfl⟩))
    (fun os started H enc _ => lifted os started H enc)

theorem proved : Rows.GfLogsSaid := over
#print axioms proved
end Go.Proofs.Ytbckkjamcdpfdaa.gfLogs
