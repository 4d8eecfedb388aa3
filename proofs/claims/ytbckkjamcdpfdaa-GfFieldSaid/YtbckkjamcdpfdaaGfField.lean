/-
  For any three bytes GfField returns true: sums and products are those of a field; nothing that was there is changed. No condition.
-/
import Derived.Test.YtbckkjamcdpfdaaRows
import Derived.Test.YtbckkjamcdpfdaaGfE
import Derived.Test.YtbckkjamcdpfdaaGfF
import Derived.Test.YtbckkjamcdpfdaaGfG
import Derived.OpenShut
import Derived.ShutString
import Derived.ChangeOld
import Derived.Carry
namespace Go.Proofs.Ytbckkjamcdpfdaa.gfField
open Go.ChangeShapes Go.WideShapes Go.ChangeAt Go.RowKit Gf
open Go.ChangeMaps (open_string shut_string)
set_option linter.unusedVariables false
set_option maxRecDepth 100000 in
set_option maxHeartbeats 4000000 in
theorem core0 (a b c : Int) (hz : a = 0) (w : World) (ha : Byte a) (hb : Byte b) (hc : Byte c) :
    Calls Try.prog 7 #[.int .u8 a, .int .u8 b, .int .u8 c] w fun e w' => e = .returned (.bool true) ∧ Keeps w w' := by
  have hzb : (a == 0) = true := by simp [hz]
  have HZ := Lib.hid hz
  clear hz
  go_enter Try.func7, Try.ntmps7
  go_wp2_with fail
  refine (add2 w _ a b _ ha hb (Keeps.refl w)).mono ?_
  rintro e wk1 ⟨rfl, hk1⟩
  go_wp2_with fail
  refine (add2 w _ b a _ hb ha hk1).mono ?_
  rintro e wk2 ⟨rfl, hk2⟩
  clear hk1
  rw [xr_comm b a]
  go_wp2_with fail
  refine (add2 w _ a b _ ha hb hk2).mono ?_
  rintro e wk3 ⟨rfl, hk3⟩
  clear hk2
  go_wp2_with fail
  refine (add2 w _ _ _ _ (ha.xr hb) hc hk3).mono ?_
  rintro e wk4 ⟨rfl, hk4⟩
  clear hk3
  go_wp2_with fail
  refine (add3 w _ a b c _ ha hb hc hk4).mono ?_
  rintro e wk5 ⟨rfl, hk5⟩
  clear hk4
  go_wp2_with fail
  refine (add2 w _ a a _ ha ha hk5).mono ?_
  rintro e wk6 ⟨rfl, hk6⟩
  clear hk5
  rw [xr_self a]
  go_wp2_with fail
  refine (add2 w _ a 0 _ ha (.num (by omega) (by omega)) hk6).mono ?_
  rintro e wk7 ⟨rfl, hk7⟩
  clear hk6
  rw [xr_zero' ha]
  go_wp2_with fail
  refine (mul2 w _ a b _ ha hb hk7).mono ?_
  rintro e wk8 ⟨rfl, hk8⟩
  clear hk7
  go_wp2_with fail
  refine (mul2 w _ b a _ hb ha hk8).mono ?_
  rintro e wk9 ⟨rfl, hk9⟩
  clear hk8
  rw [gm_comm b a]
  go_wp2_with fail
  refine (mul2 w _ a b _ ha hb hk9).mono ?_
  rintro e wk10 ⟨rfl, hk10⟩
  clear hk9
  go_wp2_with fail
  refine (mul2 w _ _ _ _ (.gm _ _) hc hk10).mono ?_
  rintro e wk11 ⟨rfl, hk11⟩
  clear hk10
  go_wp2_with fail
  refine (mul3 w _ a b c _ ha hb hc hk11).mono ?_
  rintro e wk12 ⟨rfl, hk12⟩
  clear hk11
  go_wp2_with fail
  refine (mul2 w _ a 1 _ ha (.num (by omega) (by omega)) hk12).mono ?_
  rintro e wk13 ⟨rfl, hk13⟩
  clear hk12
  rw [gm_one' ha]
  go_wp2_with fail
  refine (mul2 w _ a 0 _ ha (.num (by omega) (by omega)) hk13).mono ?_
  rintro e wk14 ⟨rfl, hk14⟩
  clear hk13
  rw [gm_zero a]
  go_wp2_with fail
  refine (add2 w _ b c _ hb hc hk14).mono ?_
  rintro e wk15 ⟨rfl, hk15⟩
  clear hk14
  go_wp2_with fail
  refine (mul2 w _ a _ _ ha (hb.xr hc) hk15).mono ?_
  rintro e wk16 ⟨rfl, hk16⟩
  clear hk15
  rw [gm_xr ha hb hc]
  go_wp2_with fail
  refine (mul2 w _ a b _ ha hb hk16).mono ?_
  rintro e wk17 ⟨rfl, hk17⟩
  clear hk16
  go_wp2_with fail
  refine (mul2 w _ a c _ ha hc hk17).mono ?_
  rintro e wk18 ⟨rfl, hk18⟩
  clear hk17
  go_wp2_with fail
  refine (add2 w _ _ _ _ (.gm _ _) (.gm _ _) hk18).mono ?_
  rintro e wk19 ⟨rfl, hk19⟩
  clear hk18
  go_wp2_with fail
  rw [HZ.out]
  refine (inv_zero _).mono ?_
  rintro e wz ⟨rfl, rfl⟩
  go_wp2_with fail
  refine (div_zero _ _).mono ?_
  rintro e wz ⟨rfl, rfl⟩
  go_wp2_with fail
  refine (awake_any w _ hk19).mono ?_
  rintro e wk20 ⟨rfl, hk20⟩
  clear hk19
  go_wp2
  go_ret
  exact ⟨rfl, hk20⟩
set_option maxRecDepth 100000 in
set_option maxHeartbeats 4000000 in
theorem core1 (a b c : Int) (h1 : 1 ≤ a) (w : World) (ha : Byte a) (hb : Byte b) (hc : Byte c) :
    Calls Try.prog 7 #[.int .u8 a, .int .u8 b, .int .u8 c] w fun e w' => e = .returned (.bool true) ∧ Keeps w w' := by
  have hzb : (a == 0) = false := by simp; omega
  have hnz := gm_nil h1 hb
  go_enter Try.func7, Try.ntmps7
  go_wp2_with fail
  refine (add2 w _ a b _ ha hb (Keeps.refl w)).mono ?_
  rintro e wk1 ⟨rfl, hk1⟩
  go_wp2_with fail
  refine (add2 w _ b a _ hb ha hk1).mono ?_
  rintro e wk2 ⟨rfl, hk2⟩
  clear hk1
  rw [xr_comm b a]
  go_wp2_with fail
  refine (add2 w _ a b _ ha hb hk2).mono ?_
  rintro e wk3 ⟨rfl, hk3⟩
  clear hk2
  go_wp2_with fail
  refine (add2 w _ _ _ _ (ha.xr hb) hc hk3).mono ?_
  rintro e wk4 ⟨rfl, hk4⟩
  clear hk3
  go_wp2_with fail
  refine (add3 w _ a b c _ ha hb hc hk4).mono ?_
  rintro e wk5 ⟨rfl, hk5⟩
  clear hk4
  go_wp2_with fail
  refine (add2 w _ a a _ ha ha hk5).mono ?_
  rintro e wk6 ⟨rfl, hk6⟩
  clear hk5
  rw [xr_self a]
  go_wp2_with fail
  refine (add2 w _ a 0 _ ha (.num (by omega) (by omega)) hk6).mono ?_
  rintro e wk7 ⟨rfl, hk7⟩
  clear hk6
  rw [xr_zero' ha]
  go_wp2_with fail
  refine (mul2 w _ a b _ ha hb hk7).mono ?_
  rintro e wk8 ⟨rfl, hk8⟩
  clear hk7
  go_wp2_with fail
  refine (mul2 w _ b a _ hb ha hk8).mono ?_
  rintro e wk9 ⟨rfl, hk9⟩
  clear hk8
  rw [gm_comm b a]
  go_wp2_with fail
  refine (mul2 w _ a b _ ha hb hk9).mono ?_
  rintro e wk10 ⟨rfl, hk10⟩
  clear hk9
  go_wp2_with fail
  refine (mul2 w _ _ _ _ (.gm _ _) hc hk10).mono ?_
  rintro e wk11 ⟨rfl, hk11⟩
  clear hk10
  go_wp2_with fail
  refine (mul3 w _ a b c _ ha hb hc hk11).mono ?_
  rintro e wk12 ⟨rfl, hk12⟩
  clear hk11
  go_wp2_with fail
  refine (mul2 w _ a 1 _ ha (.num (by omega) (by omega)) hk12).mono ?_
  rintro e wk13 ⟨rfl, hk13⟩
  clear hk12
  rw [gm_one' ha]
  go_wp2_with fail
  refine (mul2 w _ a 0 _ ha (.num (by omega) (by omega)) hk13).mono ?_
  rintro e wk14 ⟨rfl, hk14⟩
  clear hk13
  rw [gm_zero a]
  go_wp2_with fail
  refine (add2 w _ b c _ hb hc hk14).mono ?_
  rintro e wk15 ⟨rfl, hk15⟩
  clear hk14
  go_wp2_with fail
  refine (mul2 w _ a _ _ ha (hb.xr hc) hk15).mono ?_
  rintro e wk16 ⟨rfl, hk16⟩
  clear hk15
  rw [gm_xr ha hb hc]
  go_wp2_with fail
  refine (mul2 w _ a b _ ha hb hk16).mono ?_
  rintro e wk17 ⟨rfl, hk17⟩
  clear hk16
  go_wp2_with fail
  refine (mul2 w _ a c _ ha hc hk17).mono ?_
  rintro e wk18 ⟨rfl, hk18⟩
  clear hk17
  go_wp2_with fail
  refine (add2 w _ _ _ _ (.gm _ _) (.gm _ _) hk18).mono ?_
  rintro e wk19 ⟨rfl, hk19⟩
  clear hk18
  go_wp2_with fail
  refine (inv_any w _ _ h1 ha.2 hk19).mono ?_
  rintro e wk20 ⟨rfl, hk20⟩
  clear hk19
  go_wp2_with fail
  refine (div_any w _ _ _ hb h1 ha.2 hk20).mono ?_
  rintro e wk21 ⟨rfl, hk21⟩
  clear hk20
  go_wp2_with fail
  refine (mul2 w _ a _ _ ha (.gi a) hk21).mono ?_
  rintro e wk22 ⟨rfl, hk22⟩
  clear hk21
  rw [gm_inv h1 ha.2]
  go_wp2_with fail
  refine (mul2 w _ _ a _ (.gm _ _) ha hk22).mono ?_
  rintro e wk23 ⟨rfl, hk23⟩
  clear hk22
  rw [gm_div h1 ha.2 hb]
  go_wp2_with fail
  refine (mul2 w _ a b _ ha hb hk23).mono ?_
  rintro e wk24 ⟨rfl, hk24⟩
  clear hk23
  go_wp2_with fail
  refine (awake_any w _ hk24).mono ?_
  rintro e wk25 ⟨rfl, hk25⟩
  clear hk24
  go_wp2
  go_ret
  exact ⟨rfl, hk25⟩
theorem walk (a : Int) (wa : (Lit.int .u8 a).wf = true) (b : Int) (wb : (Lit.int .u8 b).wf = true) (c : Int) (wc : (Lit.int .u8 c).wf = true) (w : World) :
    Calls Try.prog 7 #[.int .u8 a, .int .u8 b, .int .u8 c] w fun e w' => e = .returned (.bool true) ∧ Below w.heap.size w w' := by
  by_cases hz : a = 0
  · exact core0 a b c hz w (bounds_u8 wa) (bounds_u8 wb) (bounds_u8 wc)
  · have h0 := (bounds_u8 wa).1
    exact core1 a b c (by omega) w (bounds_u8 wa) (bounds_u8 wb) (bounds_u8 wc)

theorem own : ownKnob Try.prog.godebug = none := by kernel_rfl
theorem laidOut : laidOutB Try.prog = true := by kernel_rfl
set_option maxRecDepth 100000 in
theorem lifted (os : Os) (started : os.Started) (H : Type) (enc : TypeId × Value → H) :
    ReturnsInHanded {} Try.checked os 7 .any (Rows.gfFieldSpec.pre6 enc Try.prog Try.f7 Rows.gfFieldRow.domain false) (Rows.gfFieldSpec.post enc Try.prog Try.f7 false true false false) := by
  refine returnsInHanded_of_change (C := Try.checked) own started (by kernel_rfl) Try.func7
    (ChangeSpec.witness6 (enc := enc) (C := Try.checked) false ⟨#[], #[.int .u8 0, .int .u8 0, .int .u8 0], []⟩ 8 (by kernel_rfl) (by kernel_rfl) (by kernel_rfl) (by kernel_rfl)) ?_
  intro W base args ds gs before hval0 hW hcnd _
  have hval : ∀ (j : Nat) t v, Try.f7.params[j]? = some t → args[j]? = some v → Value.okWide Try.prog W .any base t v := hval0
  have hW' := hW
  obtain ⟨p, q, hA0, hV, rfl, hfz, hnd⟩ := hW
  have hA : DataW.TrodAll enc Try.prog W 0 (fun _ => true) true Try.f7.params.toList args.toList ds p := hA0
  rw [Try.params7] at hA hval
  obtain ⟨v0, vs0, d0, ds0, p0, q0, hargs, rfl, rfl, h0, r0⟩ := trodAll_cons hA
  obtain ⟨v1, vs1, d1, ds1, p1, q1, rfl, rfl, rfl, h1, r1⟩ := trodAll_cons r0
  obtain ⟨v2, vs2, d2, ds2, p2, q2, rfl, rfl, rfl, h2, r2⟩ := trodAll_cons r1
  obtain ⟨rfl, rfl, rfl⟩ := trodAll_nil r2
  obtain rfl : args = #[v0, v1, v2] := by cases args; simp_all
  obtain ⟨rfl, rfl⟩ := trodVars_none hV
  obtain ⟨a0, rfl, rfl, rfl, w0⟩ := open_int Try.underlying5 (hval 0 5 v0 rfl rfl) h0
  obtain ⟨a1, rfl, rfl, rfl, w1⟩ := open_int Try.underlying5 (hval 1 5 v1 rfl rfl) h1
  obtain ⟨a2, rfl, rfl, rfl, w2⟩ := open_int Try.underlying5 (hval 2 5 v2 rfl rfl) h2
  clear hA0 hval0
  refine (walk a0 w0 a1 w1 a2 w2 W).mono fun e W' ⟨he, bel⟩ => ?_
  subst he
  exact ⟨_, rfl, _, _, _, [], _, [], hW', trodAll_mk1 (shut_bool Try.underlying4 _), (trodAll_cons_mk (shut_int Try.underlying5 w0) (trodAll_cons_mk (shut_int Try.underlying5 w1) (trodAll_cons_mk (shut_int Try.underlying5 w2) trodAll_mk0))), rfl, bel.frame _, fun h => by cases h⟩

theorem over : Rows.gfFieldRow.holds Try.pinned (OpenSpec.ofChange Rows.gfFieldSpec) :=
  OpenClaim.holds_of_wide 7 Try.f7 rfl rfl rfl rfl rfl rfl rfl ⟨rfl, rfl, rfl, rfl, rfl⟩ rfl rfl rfl rfl rfl (by kernel_rfl) Try.func7 (by kernel_rfl)
    (of_decide_eq_true (by kernel_rfl)) (by unfold Func.isWrapper; first | (rw [if_pos (by decide +kernel)]; kernel_rfl) | (rw [if_neg (by decide +kernel)]; exact ⟨rfl, rfl⟩))
    (fun os started H enc _ => lifted os started H enc)

theorem proved : Rows.GfFieldSaid := over
#print axioms proved
end Go.Proofs.Ytbckkjamcdpfdaa.gfField
