/-
  For any two bytes and any two ints GfOrder returns true: 2 is each byte but 0 just once in 255 powers, and squares have one root; nothing that was there is changed. No condition.
-/
import Derived.Test.YtbckkjamcdpfdaaRows
import Derived.Test.YtbckkjamcdpfdaaGfE
import Derived.Test.YtbckkjamcdpfdaaGfF
import Derived.Test.YtbckkjamcdpfdaaGfI
import Derived.OpenShut
import Derived.ShutString
import Derived.ChangeOld
import Derived.Carry
namespace Go.Proofs.Ytbckkjamcdpfdaa.gfOrder
open Go.ChangeShapes Go.WideShapes Go.ChangeAt Go.RowKit Gf
open Go.ChangeMaps (open_string shut_string)
set_option linter.unusedVariables false
set_option maxRecDepth 100000 in
set_option maxHeartbeats 4000000 in
theorem off1 (a b n m : Int) (w : World) (h : n < 0) :
    Calls Try.prog 10 #[.int .u8 a, .int .u8 b, .agg #[.int .i64 n, .int .i64 m]] w fun e w' => e = .returned (.bool true) ∧ Keeps w w' := by
  go_enter Try.func10, Try.ntmps10
  go_wp2_with fail
  refine (awake_any w _ (Keeps.alloc (Keeps.refl w) _)).mono ?_
  rintro e wk1 ⟨rfl, hk1⟩
  go_wp2
  go_ret
  exact ⟨rfl, hk1⟩
set_option maxRecDepth 100000 in
set_option maxHeartbeats 4000000 in
theorem off2 (a b n m : Int) (w : World) (h0 : 0 ≤ n) (h : 254 < n) :
    Calls Try.prog 10 #[.int .u8 a, .int .u8 b, .agg #[.int .i64 n, .int .i64 m]] w fun e w' => e = .returned (.bool true) ∧ Keeps w w' := by
  go_enter Try.func10, Try.ntmps10
  go_wp2_with fail
  refine (awake_any w _ (Keeps.alloc (Keeps.refl w) _)).mono ?_
  rintro e wk1 ⟨rfl, hk1⟩
  go_wp2
  go_ret
  exact ⟨rfl, hk1⟩
set_option maxRecDepth 100000 in
set_option maxHeartbeats 4000000 in
theorem off3 (a b n m : Int) (w : World) (h0 : 0 ≤ n) (h1 : n ≤ 254) (h : m < 0) :
    Calls Try.prog 10 #[.int .u8 a, .int .u8 b, .agg #[.int .i64 n, .int .i64 m]] w fun e w' => e = .returned (.bool true) ∧ Keeps w w' := by
  go_enter Try.func10, Try.ntmps10
  go_wp2_with fail
  refine (awake_any w _ (Keeps.alloc (Keeps.refl w) _)).mono ?_
  rintro e wk1 ⟨rfl, hk1⟩
  go_wp2
  go_ret
  exact ⟨rfl, hk1⟩
set_option maxRecDepth 100000 in
set_option maxHeartbeats 4000000 in
theorem off4 (a b n m : Int) (w : World) (h0 : 0 ≤ n) (h1 : n ≤ 254) (h2 : 0 ≤ m) (h : 254 < m) :
    Calls Try.prog 10 #[.int .u8 a, .int .u8 b, .agg #[.int .i64 n, .int .i64 m]] w fun e w' => e = .returned (.bool true) ∧ Keeps w w' := by
  go_enter Try.func10, Try.ntmps10
  go_wp2_with fail
  refine (awake_any w _ (Keeps.alloc (Keeps.refl w) _)).mono ?_
  rintro e wk1 ⟨rfl, hk1⟩
  go_wp2
  go_ret
  exact ⟨rfl, hk1⟩
set_option maxRecDepth 100000 in
set_option maxHeartbeats 4000000 in
theorem core (a b n m : Int) (w : World) (ha : Byte a) (hb : Byte b) (h0 : 0 ≤ n) (h1 : n ≤ 254) (h2 : 0 ≤ m) (h3 : m ≤ 254) :
    Calls Try.prog 10 #[.int .u8 a, .int .u8 b, .agg #[.int .i64 n, .int .i64 m]] w fun e w' => e = .returned (.bool true) ∧ Keeps w w' := by
  have r1 := ge_inj h0 h1 h2 h3
  have r2 := ge_nz n
  have r3 := gm_root ha hb
  go_enter Try.func10, Try.ntmps10
  go_wp2_with fail
  refine (exp_any w _ n (Keeps.alloc (Keeps.refl w) _)).mono ?_
  rintro e wk1 ⟨rfl, hk1⟩
  go_wp2_with fail
  refine (exp_any w _ m hk1).mono ?_
  rintro e wk2 ⟨rfl, hk2⟩
  clear hk1
  go_wp2_with fail
  refine (exp_any w _ n hk2).mono ?_
  rintro e wk3 ⟨rfl, hk3⟩
  clear hk2
  go_wp2_with fail
  refine (mul2 w _ a a _ ha ha hk3).mono ?_
  rintro e wk4 ⟨rfl, hk4⟩
  clear hk3
  go_wp2_with fail
  refine (mul2 w _ b b _ hb hb hk4).mono ?_
  rintro e wk5 ⟨rfl, hk5⟩
  clear hk4
  go_wp2_with fail
  refine (add2 w _ a b _ ha hb hk5).mono ?_
  rintro e wk6 ⟨rfl, hk6⟩
  clear hk5
  go_wp2_with fail
  refine (add2 w _ a b _ ha hb hk6).mono ?_
  rintro e wk7 ⟨rfl, hk7⟩
  clear hk6
  go_wp2_with fail
  refine (mul2 w _ _ _ _ (ha.xr hb) (ha.xr hb) hk7).mono ?_
  rintro e wk8 ⟨rfl, hk8⟩
  clear hk7
  rw [gm_sq ha hb]
  go_wp2_with fail
  refine (mul2 w _ a a _ ha ha hk8).mono ?_
  rintro e wk9 ⟨rfl, hk9⟩
  clear hk8
  go_wp2_with fail
  refine (mul2 w _ b b _ hb hb hk9).mono ?_
  rintro e wk10 ⟨rfl, hk10⟩
  clear hk9
  go_wp2_with fail
  refine (add2 w _ _ _ _ (.gm _ _) (.gm _ _) hk10).mono ?_
  rintro e wk11 ⟨rfl, hk11⟩
  clear hk10
  go_wp2_with fail
  refine (add3 w _ a b a _ ha hb ha hk11).mono ?_
  rintro e wk12 ⟨rfl, hk12⟩
  clear hk11
  rw [xr_back hb]
  go_wp2_with fail
  refine (awake_any w _ hk12).mono ?_
  rintro e wk13 ⟨rfl, hk13⟩
  clear hk12
  go_wp2
  go_ret
  exact ⟨rfl, hk13⟩
theorem walk (a : Int) (wa : (Lit.int .u8 a).wf = true) (b : Int) (wb : (Lit.int .u8 b).wf = true) (n m : Int) (wn : (Lit.int .i64 n).wf = true) (wm : (Lit.int .i64 m).wf = true) (w : World) :
    Calls Try.prog 10 #[.int .u8 a, .int .u8 b, .agg #[.int .i64 n, .int .i64 m]] w fun e w' => e = .returned (.bool true) ∧ Below w.heap.size w w' := by
  by_cases h1 : n < 0
  · exact off1 a b n m w h1
  by_cases h2 : 254 < n
  · exact off2 a b n m w (by omega) h2
  by_cases h3 : m < 0
  · exact off3 a b n m w (by omega) (by omega) h3
  by_cases h4 : 254 < m
  · exact off4 a b n m w (by omega) (by omega) (by omega) h4
  exact core a b n m w (bounds_u8 wa) (bounds_u8 wb) (by omega) (by omega) (by omega) (by omega)

theorem own : ownKnob Try.prog.godebug = none := by kernel_rfl
theorem laidOut : laidOutB Try.prog = true := by kernel_rfl
set_option maxRecDepth 100000 in
theorem lifted (os : Os) (started : os.Started) (H : Type) (enc : TypeId × Value → H) :
    ReturnsInHanded {} Try.checked os 10 .any (Rows.gfOrderSpec.pre6 enc Try.prog Try.f10 Rows.gfOrderRow.domain false) (Rows.gfOrderSpec.post enc Try.prog Try.f10 false true false false) := by
  refine returnsInHanded_of_change (C := Try.checked) own started (by kernel_rfl) Try.func10
    (ChangeSpec.witness6 (enc := enc) (C := Try.checked) false ⟨#[], #[.int .u8 0, .int .u8 0, .agg #[.int .i64 0, .int .i64 0]], []⟩ 8 (by kernel_rfl) (by kernel_rfl) (by kernel_rfl) (by kernel_rfl)) ?_
  intro W base args ds gs before hval0 hW hcnd _
  have hval : ∀ (j : Nat) t v, Try.f10.params[j]? = some t → args[j]? = some v → Value.okWide Try.prog W .any base t v := hval0
  have hW' := hW
  obtain ⟨p, q, hA0, hV, rfl, hfz, hnd⟩ := hW
  have hA : DataW.TrodAll enc Try.prog W 0 (fun _ => true) true Try.f10.params.toList args.toList ds p := hA0
  rw [Try.params10] at hA hval
  obtain ⟨v0, vs0, d0, ds0, p0, q0, hargs, rfl, rfl, h0, r0⟩ := trodAll_cons hA
  obtain ⟨v1, vs1, d1, ds1, p1, q1, rfl, rfl, rfl, h1, r1⟩ := trodAll_cons r0
  obtain ⟨v2, vs2, d2, ds2, p2, q2, rfl, rfl, rfl, h2, r2⟩ := trodAll_cons r1
  obtain ⟨rfl, rfl, rfl⟩ := trodAll_nil r2
  obtain rfl : args = #[v0, v1, v2] := by cases args; simp_all
  obtain ⟨rfl, rfl⟩ := trodVars_none hV
  obtain ⟨a0, rfl, rfl, rfl, w0⟩ := open_int Try.underlying5 (hval 0 5 v0 rfl rfl) h0
  obtain ⟨a1, rfl, rfl, rfl, w1⟩ := open_int Try.underlying5 (hval 1 5 v1 rfl rfl) h1
  have k2 := h2
  have lt2 : ∀ x ∈ p2, x.block < W.heap.size := by obtain ⟨m, hm⟩ := k2; exact DataW.trod_lt m _ _ _ hm
  obtain ⟨x2, y2, rfl, wx2, wy2⟩ := open_arr2 (hval 2 44 v2 rfl rfl) h2
  clear hA0 hval0
  refine (walk a0 w0 a1 w1 x2 y2 wx2 wy2 W).mono fun e W' ⟨he, bel⟩ => ?_
  subst he
  exact ⟨_, rfl, _, _, _, [], _, [], hW', trodAll_mk1 (shut_bool Try.underlying4 _), (trodAll_cons_mk (shut_int Try.underlying5 w0) (trodAll_cons_mk (shut_int Try.underlying5 w1) (trodAll_cons_mk (Below.trod laidOut (by kernel_rfl) (of_decide_eq_true (by kernel_rfl)) k2 bel lt2) trodAll_mk0))), rfl, bel.frame _, fun h => by cases h⟩

theorem over : Rows.gfOrderRow.holds Try.pinned (OpenSpec.ofChange Rows.gfOrderSpec) :=
  OpenClaim.holds_of_wide 10 Try.f10 rfl rfl rfl rfl rfl rfl rfl ⟨rfl, rfl, rfl, rfl, rfl⟩ rfl rfl rfl rfl rfl (by kernel_rfl) Try.func10 (by kernel_rfl)
    (of_decide_eq_true (by kernel_rfl)) (by unfold Func.isWrapper; first | (rw [if_pos (by decide +kernel)]; kernel_rfl) | (rw [if_neg (by decide +kernel)]; exact ⟨rfl, rfl⟩))
    (fun os started H enc _ => lifted os started H enc)

theorem proved : Rows.GfOrderSaid := over
#print axioms proved
end Go.Proofs.Ytbckkjamcdpfdaa.gfOrder
