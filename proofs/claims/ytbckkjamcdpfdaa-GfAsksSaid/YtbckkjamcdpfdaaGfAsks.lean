/-
  For any two bytes and any int GfAsks returns true: a field answers as the functions do, and a nil one 0; nothing that was there is changed. No condition.
-/
import Derived.Test.YtbckkjamcdpfdaaRows
import Derived.Test.YtbckkjamcdpfdaaGfE
import Derived.Test.YtbckkjamcdpfdaaGfF
import Derived.Test.YtbckkjamcdpfdaaGfH
import Derived.OpenShut
import Derived.ShutString
import Derived.ChangeOld
import Derived.Carry
namespace Go.Proofs.Ytbckkjamcdpfdaa.gfAsks
open Go.ChangeShapes Go.WideShapes Go.ChangeAt Go.RowKit Gf
open Go.ChangeMaps (open_string shut_string)
set_option linter.unusedVariables false
set_option maxRecDepth 100000 in
set_option maxHeartbeats 4000000 in
theorem core0 (b n : Int) (w : World) (hb : Byte b) :
    Calls Try.prog 9 #[.int .u8 0, .int .u8 b, .int .i64 n] w fun e w' => e = .returned (.bool true) ∧ Keeps w w' := by
  have ha : Byte 0 := .num (by omega) (by omega)
  go_enter Try.func9, Try.ntmps9
  go_wp2_with fail
  refine (new_any _).mono ?_
  rintro e w1 ⟨rfl, hf, hk0⟩
  have HF := Lib.hid hf
  clear hf
  have HK := Lib.hid (show Keeps w w1 from hk0)
  clear hk0
  generalize hfb : w.heap.size = fb at *
  have HFB := Lib.hid hfb
  clear hfb
  go_wp2_with fail
  refine (nmul_any _ _ _).mono ?_
  rintro e wz ⟨rfl, rfl⟩
  go_wp2_with fail
  refine (ninv_any _ _).mono ?_
  rintro e wz ⟨rfl, rfl⟩
  go_wp2_with fail
  refine (nexp_any _ _).mono ?_
  rintro e wz ⟨rfl, rfl⟩
  go_wp2_with fail
  refine (nlog_any _ _).mono ?_
  rintro e wz ⟨rfl, rfl⟩
  go_wp2_with fail
  refine (fmul_all w1 _ _ _ _ (HF.out.kept (Keeps.refl w1)) ha hb (Keeps.refl w1)).mono ?_
  rintro e wk1 ⟨rfl, hk1⟩
  go_wp2_with fail
  refine (mul2 w1 _ 0 b _ ha hb hk1).mono ?_
  rintro e wk2 ⟨rfl, hk2⟩
  clear hk1
  go_wp2_with fail
  refine (fexp_all w1 _ _ _ (HF.out.kept hk2) hk2).mono ?_
  rintro e wk3 ⟨rfl, hk3⟩
  clear hk2
  go_wp2_with fail
  refine (exp_any w1 _ _ hk3).mono ?_
  rintro e wk4 ⟨rfl, hk4⟩
  clear hk3
  go_wp2_with fail
  refine (inv_zero _).mono ?_
  rintro e wz ⟨rfl, rfl⟩
  go_wp2_with fail
  refine (log_zero _).mono ?_
  rintro e wz ⟨rfl, rfl⟩
  go_wp2_with fail
  refine (finv_zero _ _).mono ?_
  rintro e wz ⟨rfl, rfl⟩
  go_wp2_with fail
  refine (flog_zero _ _).mono ?_
  rintro e wz ⟨rfl, rfl⟩
  go_wp2_with fail
  refine (awake_any w1 _ hk4).mono ?_
  rintro e wk5 ⟨rfl, hk5⟩
  clear hk4
  go_wp2
  go_ret
  exact ⟨rfl, HK.out.trans hk5⟩
set_option maxRecDepth 100000 in
set_option maxHeartbeats 4000000 in
theorem core1 (a b n : Int) (h1 : 1 ≤ a) (w : World) (ha : Byte a) (hb : Byte b) :
    Calls Try.prog 9 #[.int .u8 a, .int .u8 b, .int .i64 n] w fun e w' => e = .returned (.bool true) ∧ Keeps w w' := by
  have hzb : (a == 0) = false := by simp; omega
  go_enter Try.func9, Try.ntmps9
  go_wp2_with fail
  refine (new_any _).mono ?_
  rintro e w1 ⟨rfl, hf, hk0⟩
  have HF := Lib.hid hf
  clear hf
  have HK := Lib.hid (show Keeps w w1 from hk0)
  clear hk0
  generalize hfb : w.heap.size = fb at *
  have HFB := Lib.hid hfb
  clear hfb
  go_wp2_with fail
  refine (nmul_any _ _ _).mono ?_
  rintro e wz ⟨rfl, rfl⟩
  go_wp2_with fail
  refine (ninv_any _ _).mono ?_
  rintro e wz ⟨rfl, rfl⟩
  go_wp2_with fail
  refine (nexp_any _ _).mono ?_
  rintro e wz ⟨rfl, rfl⟩
  go_wp2_with fail
  refine (nlog_any _ _).mono ?_
  rintro e wz ⟨rfl, rfl⟩
  go_wp2_with fail
  refine (fmul_all w1 _ _ _ _ (HF.out.kept (Keeps.refl w1)) ha hb (Keeps.refl w1)).mono ?_
  rintro e wk1 ⟨rfl, hk1⟩
  go_wp2_with fail
  refine (mul2 w1 _ a b _ ha hb hk1).mono ?_
  rintro e wk2 ⟨rfl, hk2⟩
  clear hk1
  go_wp2_with fail
  refine (fexp_all w1 _ _ _ (HF.out.kept hk2) hk2).mono ?_
  rintro e wk3 ⟨rfl, hk3⟩
  clear hk2
  go_wp2_with fail
  refine (exp_any w1 _ _ hk3).mono ?_
  rintro e wk4 ⟨rfl, hk4⟩
  clear hk3
  go_wp2_with fail
  refine (inv_any w1 _ _ h1 ha.2 hk4).mono ?_
  rintro e wk5 ⟨rfl, hk5⟩
  clear hk4
  go_wp2_with fail
  refine (log_any w1 _ _ h1 ha.2 hk5).mono ?_
  rintro e wk6 ⟨rfl, hk6⟩
  clear hk5
  go_wp2_with fail
  refine (finv_all w1 _ _ _ (HF.out.kept hk6) h1 ha.2 hk6).mono ?_
  rintro e wk7 ⟨rfl, hk7⟩
  clear hk6
  go_wp2_with fail
  refine (flog_any _ _ _ (HF.out.kept hk7) h1 ha.2).mono ?_
  rintro e wz ⟨rfl, rfl⟩
  go_wp2_with fail
  refine (fmul_all w1 _ _ _ _ (HF.out.kept hk7) ha hb hk7).mono ?_
  rintro e wk8 ⟨rfl, hk8⟩
  clear hk7
  go_wp2_with fail
  refine (refmul_any _ _ _ ha.1 ha.2 hb.1 hb.2).mono ?_
  rintro e wz ⟨rfl, rfl⟩
  go_wp2_with fail
  refine (awake_any w1 _ hk8).mono ?_
  rintro e wk9 ⟨rfl, hk9⟩
  clear hk8
  go_wp2
  go_ret
  exact ⟨rfl, HK.out.trans hk9⟩
theorem walk (a : Int) (wa : (Lit.int .u8 a).wf = true) (b : Int) (wb : (Lit.int .u8 b).wf = true) (n : Int) (wn : (Lit.int .i64 n).wf = true) (w : World) :
    Calls Try.prog 9 #[.int .u8 a, .int .u8 b, .int .i64 n] w fun e w' => e = .returned (.bool true) ∧ Below w.heap.size w w' := by
  by_cases hz : a = 0
  · subst hz; exact core0 b n w (bounds_u8 wb)
  · have h0 := (bounds_u8 wa).1
    exact core1 a b n (by omega) w (bounds_u8 wa) (bounds_u8 wb)

theorem own : ownKnob Try.prog.godebug = none := by kernel_rfl
theorem laidOut : laidOutB Try.prog = true := by kernel_rfl
set_option maxRecDepth 100000 in
theorem lifted (os : Os) (started : os.Started) (H : Type) (enc : TypeId × Value → H) :
    ReturnsInHanded {} Try.checked os 9 .any (Rows.gfAsksSpec.pre6 enc Try.prog Try.f9 Rows.gfAsksRow.domain false) (Rows.gfAsksSpec.post enc Try.prog Try.f9 false true false false) := by
  refine returnsInHanded_of_change (C := Try.checked) own started (by kernel_rfl) Try.func9
    (ChangeSpec.witness6 (enc := enc) (C := Try.checked) false ⟨#[], #[.int .u8 0, .int .u8 0, .int .i64 0], []⟩ 8 (by kernel_rfl) (by kernel_rfl) (by kernel_rfl) (by kernel_rfl)) ?_
  intro W base args ds gs before hval0 hW hcnd _
  have hval : ∀ (j : Nat) t v, Try.f9.params[j]? = some t → args[j]? = some v → Value.okWide Try.prog W .any base t v := hval0
  have hW' := hW
  obtain ⟨p, q, hA0, hV, rfl, hfz, hnd⟩ := hW
  have hA : DataW.TrodAll enc Try.prog W 0 (fun _ => true) true Try.f9.params.toList args.toList ds p := hA0
  rw [Try.params9] at hA hval
  obtain ⟨v0, vs0, d0, ds0, p0, q0, hargs, rfl, rfl, h0, r0⟩ := trodAll_cons hA
  obtain ⟨v1, vs1, d1, ds1, p1, q1, rfl, rfl, rfl, h1, r1⟩ := trodAll_cons r0
  obtain ⟨v2, vs2, d2, ds2, p2, q2, rfl, rfl, rfl, h2, r2⟩ := trodAll_cons r1
  obtain ⟨rfl, rfl, rfl⟩ := trodAll_nil r2
  obtain rfl : args = #[v0, v1, v2] := by cases args; simp_all
  obtain ⟨rfl, rfl⟩ := trodVars_none hV
  obtain ⟨a0, rfl, rfl, rfl, w0⟩ := open_int Try.underlying5 (hval 0 5 v0 rfl rfl) h0
  obtain ⟨a1, rfl, rfl, rfl, w1⟩ := open_int Try.underlying5 (hval 1 5 v1 rfl rfl) h1
  obtain ⟨a2, rfl, rfl, rfl, w2⟩ := open_int Try.underlying3 (hval 2 3 v2 rfl rfl) h2
  clear hA0 hval0
  refine (walk a0 w0 a1 w1 a2 w2 W).mono fun e W' ⟨he, bel⟩ => ?_
  subst he
  exact ⟨_, rfl, _, _, _, [], _, [], hW', trodAll_mk1 (shut_bool Try.underlying4 _), (trodAll_cons_mk (shut_int Try.underlying5 w0) (trodAll_cons_mk (shut_int Try.underlying5 w1) (trodAll_cons_mk (shut_int Try.underlying3 w2) trodAll_mk0))), rfl, bel.frame _, fun h => by cases h⟩

theorem over : Rows.gfAsksRow.holds Try.pinned (OpenSpec.ofChange Rows.gfAsksSpec) :=
  OpenClaim.holds_of_wide 9 Try.f9 rfl rfl rfl rfl rfl rfl rfl ⟨rfl, rfl, rfl, rfl, rfl⟩ rfl rfl rfl rfl rfl (by kernel_rfl) Try.func9 (by kernel_rfl)
    (of_decide_eq_true (by kernel_rfl)) (by unfold Func.isWrapper; first | (rw [if_pos (by decide +kernel)]; kernel_rfl) | (rw [if_neg (by decide +kernel)]; exact ⟨rfl, rfl⟩))
    (fun os started H enc _ => lifted os started H enc)

theorem proved : Rows.GfAsksSaid := over
#print axioms proved
end Go.Proofs.Ytbckkjamcdpfdaa.gfAsks
