/-
  For any byte and any int GfPowers returns true: Pow, Log and Exp answer as the document does; nothing that was there is changed. No condition.
-/
import Derived.Test.YtbckkjamcdpfdaaRows
import Derived.Test.YtbckkjamcdpfdaaGfE
import Derived.Test.YtbckkjamcdpfdaaGfF
import Derived.OpenShut
import Derived.ShutString
import Derived.ChangeOld
import Derived.Carry
namespace Go.Proofs.Ytbckkjamcdpfdaa.gfPowers
open Go.ChangeShapes Go.WideShapes Go.ChangeAt Go.RowKit Gf
open Go.ChangeMaps (open_string shut_string)
set_option linter.unusedVariables false

theorem gp_two (n : Int) : gp 2 n = ge n := by
  rw [gp, show gl 2 = 1 by kernel_rfl, Int.one_mul]; unfold ge; congr 3; omega
set_option maxHeartbeats 1000000 in
theorem core (a n : Int) (w : World) (a0 : 0 ≤ a) (a1 : a ≤ 255) :
    Calls Try.prog 5 #[.int .u8 a, .int .i64 n] w fun e w' => e = .returned (.bool true) ∧ Keeps w w' := by
  by_cases hz : a = 0
  · subst hz
    by_cases hn : n < 0
    · have HV := Lib.hid (show pzV n = 0 from if_neg (by omega))
      have HE := Lib.hid (show pzE n = 16 from if_pos hn)
      go_enter Try.func5, Try.ntmps5
      go_wp2_with fail
      refine (pow_zero _ _).mono ?_
      rintro e wz ⟨rfl, rfl⟩
      rw [HV.out, HE.out]
      go_wp2_with fail
      refine (log_zero _).mono ?_
      rintro e wz ⟨rfl, rfl⟩
      go_wp2_with fail
      refine (exp_any w _ _ (Keeps.refl w)).mono ?_
      rintro e wk1 ⟨rfl, hk1⟩
      go_wp2_with fail
      refine (refpow_any 2 n _ (by omega) (by omega)).mono ?_
      rintro e wz ⟨rfl, rfl⟩
      rw [gp_two]
      go_wp2_with fail
      refine (awake_any w _ hk1).mono ?_
      rintro e wk2 ⟨rfl, hk2⟩
      clear hk1
      go_wp2
      go_ret
      exact ⟨rfl, hk2⟩
    · have HE := Lib.hid (show pzE n = 0 from if_neg hn)
      have hn0 : 0 ≤ n := by omega
      clear hn
      go_enter Try.func5, Try.ntmps5
      go_wp2_with fail
      refine (pow_zero _ _).mono ?_
      rintro e wz ⟨rfl, rfl⟩
      rw [HE.out]
      go_wp2_with fail
      refine (log_zero _).mono ?_
      rintro e wz ⟨rfl, rfl⟩
      go_wp2_with fail
      refine (exp_any w _ _ (Keeps.refl w)).mono ?_
      rintro e wk1 ⟨rfl, hk1⟩
      go_wp2_with fail
      refine (refpow_any 2 n _ (by omega) (by omega)).mono ?_
      rintro e wz ⟨rfl, rfl⟩
      rw [gp_two]
      go_wp2_with fail
      refine (refpow_zero _ _).mono ?_
      rintro e wz ⟨rfl, rfl⟩
      go_wp2_with fail
      refine (awake_any w _ hk1).mono ?_
      rintro e wk2 ⟨rfl, hk2⟩
      clear hk1
      go_wp2
      go_ret
      exact ⟨rfl, hk2⟩
  · have h1 : 1 ≤ a := by omega
    have hzb : (a == 0) = false := by simp [hz]
    clear hz
    go_enter Try.func5, Try.ntmps5
    go_wp2_with fail
    refine (pow_any w _ _ _ h1 a1 (Keeps.refl w)).mono ?_
    rintro e wk1 ⟨rfl, hk1⟩
    go_wp2_with fail
    refine (log_any w _ _ h1 a1 hk1).mono ?_
    rintro e wk2 ⟨rfl, hk2⟩
    clear hk1
    go_wp2_with fail
    refine (exp_any w _ _ hk2).mono ?_
    rintro e wk3 ⟨rfl, hk3⟩
    clear hk2
    go_wp2_with fail
    refine (refpow_any 2 n _ (by omega) (by omega)).mono ?_
    rintro e wz ⟨rfl, rfl⟩
    rw [gp_two]
    go_wp2_with fail
    refine (refpow_any _ _ _ h1 a1).mono ?_
    rintro e wz ⟨rfl, rfl⟩
    go_wp2_with fail
    refine (reflog_any _ _ h1 a1).mono ?_
    rintro e wz ⟨rfl, rfl⟩
    go_wp2_with fail
    refine (awake_any w _ hk3).mono ?_
    rintro e wk4 ⟨rfl, hk4⟩
    clear hk3
    go_wp2
    go_ret
    exact ⟨rfl, hk4⟩
theorem walk (a : Int) (wa : (Lit.int .u8 a).wf = true) (n : Int) (wn : (Lit.int .i64 n).wf = true) (w : World) :
    Calls Try.prog 5 #[.int .u8 a, .int .i64 n] w fun e w' => e = .returned (.bool true) ∧ Below w.heap.size w w' :=
  core a n w (bounds_u8 wa).1 (bounds_u8 wa).2

theorem own : ownKnob Try.prog.godebug = none := by kernel_rfl
theorem laidOut : laidOutB Try.prog = true := by kernel_rfl
set_option maxRecDepth 100000 in
theorem lifted (os : Os) (started : os.Started) (H : Type) (enc : TypeId × Value → H) :
    ReturnsInHanded {} Try.checked os 5 .any (Rows.gfPowersSpec.pre6 enc Try.prog Try.f5 Rows.gfPowersRow.domain false) (Rows.gfPowersSpec.post enc Try.prog Try.f5 false true false false) := by
  refine returnsInHanded_of_change (C := Try.checked) own started (by kernel_rfl) Try.func5
    (ChangeSpec.witness6 (enc := enc) (C := Try.checked) false ⟨#[], #[.int .u8 0, .int .i64 0], []⟩ 8 (by kernel_rfl) (by kernel_rfl) (by kernel_rfl) (by kernel_rfl)) ?_
  intro W base args ds gs before hval0 hW hcnd _
  have hval : ∀ (j : Nat) t v, Try.f5.params[j]? = some t → args[j]? = some v → Value.okWide Try.prog W .any base t v := hval0
  have hW' := hW
  obtain ⟨p, q, hA0, hV, rfl, hfz, hnd⟩ := hW
  have hA : DataW.TrodAll enc Try.prog W 0 (fun _ => true) true Try.f5.params.toList args.toList ds p := hA0
  rw [Try.params5] at hA hval
  obtain ⟨v0, vs0, d0, ds0, p0, q0, hargs, rfl, rfl, h0, r0⟩ := trodAll_cons hA
  obtain ⟨v1, vs1, d1, ds1, p1, q1, rfl, rfl, rfl, h1, r1⟩ := trodAll_cons r0
  obtain ⟨rfl, rfl, rfl⟩ := trodAll_nil r1
  obtain rfl : args = #[v0, v1] := by cases args; simp_all
  obtain ⟨rfl, rfl⟩ := trodVars_none hV
  obtain ⟨a0, rfl, rfl, rfl, w0⟩ := open_int Try.underlying5 (hval 0 5 v0 rfl rfl) h0
  obtain ⟨a1, rfl, rfl, rfl, w1⟩ := open_int Try.underlying3 (hval 1 3 v1 rfl rfl) h1
  clear hA0 hval0
  refine (walk a0 w0 a1 w1 W).mono fun e W' ⟨he, bel⟩ => ?_
  subst he
  exact ⟨_, rfl, _, _, _, [], _, [], hW', trodAll_mk1 (shut_bool Try.underlying4 _), (trodAll_cons_mk (shut_int Try.underlying5 w0) (trodAll_cons_mk (shut_int Try.underlying3 w1) trodAll_mk0)), rfl, bel.frame _, fun h => by cases h⟩

theorem over : Rows.gfPowersRow.holds Try.pinned (OpenSpec.ofChange Rows.gfPowersSpec) :=
  OpenClaim.holds_of_wide 5 Try.f5 rfl rfl rfl rfl rfl rfl rfl ⟨rfl, rfl, rfl, rfl, rfl⟩ rfl rfl rfl rfl rfl (by kernel_rfl) Try.func5 (by kernel_rfl)
    (of_decide_eq_true (by kernel_rfl)) (by unfold Func.isWrapper; first | (rw [if_pos (by decide +kernel)]; kernel_rfl) | (rw [if_neg (by decide +kernel)]; exact ⟨rfl, rfl⟩))
    (fun os started H enc _ => lifted os started H enc)

theorem proved : Rows.GfPowersSaid := over
#print axioms proved
end Go.Proofs.Ytbckkjamcdpfdaa.gfPowers
