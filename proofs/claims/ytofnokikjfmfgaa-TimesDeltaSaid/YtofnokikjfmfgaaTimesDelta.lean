/-
  For any three numbers TimesDelta returns true: how many units it is from one slot to another one, or why that is not told; nothing that was there is changed. No condition.
-/
import Derived.Test.YtofnokikjfmfgaaRows
import Derived.Test.YtofnokikjfmfgaaTmE
namespace Go.Proofs.Ytofnokikjfmfgaa.timesDelta
open Go.ChangeShapes Go.WideShapes Go.ChangeAt Go.RowKit Gf Tm
set_option maxRecDepth 100000
set_option linter.unusedVariables false
set_option maxHeartbeats 3200000 in
theorem walk (f : Int) (hf : (Lit.int .i64 f).wf = true) (t : Int) (ht : (Lit.int .i64 t).wf = true) (u : Int) (hu : (Lit.int .i64 u).wf = true) (w : World) :
    Calls Try.prog 6 #[.int .i64 f, .int .i64 t, .int .i64 u] w fun e w' => e = .returned (.bool true) ∧ Below w.heap.size w w' := by
  clear hf ht hu
  have HD := Lib.hid (tmdelta_any f t u)
  have HA := Lib.hid (fun W (k : Keeps w W) => awake9_any w W k)
  have HK := Lib.hid (Keeps.refl w)
  by_cases h : slot f ∧ slot t ∧ unit u
  · have H1 := Lib.hid (rtmslot_any f true (decide_eq_true h.1))
    have H2 := Lib.hid (rtmslot_any t true (decide_eq_true h.2.1))
    have H3 := Lib.hid (rtmunit_any u true (decide_eq_true h.2.2))
    have HR := Lib.hid (fun W => rtmdelta_any f t u W h)
    unfold rdl at HR
    by_cases hb : t < f ∨ 4095 < cl (t - f) u
    · rw [dl_range h hb] at HD HR
      clear h hb
      go_enter Try.func6, Try.ntmps6
      go_wp2_with (first | (go_at_call 21; refine (HD.out _).mono ?_; rintro _ _ ⟨rfl, rfl⟩) | (go_at_call 22; (first | with_reducible refine (H1.out _).mono ?_ | with_reducible refine (H2.out _).mono ?_); rintro _ _ ⟨rfl, rfl⟩) | (go_at_call 23; refine (H3.out _).mono ?_; rintro _ _ ⟨rfl, rfl⟩) | (go_at_call 24; refine (HR.out _).mono ?_; rintro _ _ ⟨rfl, rfl⟩) | (go_at_call 14; refine (HA.out _ HK.out).mono ?_; rintro _ w5 ⟨rfl, k5⟩))
      go_ret
      exact ⟨rfl, k5⟩
    · have h0 : 0 ≤ cl (t - f) u := cl_nonneg (by omega) h.2.2.1
      rw [dl_ok h hb] at HD HR
      obtain ⟨n, hn⟩ : ∃ n, cl (t - f) u = n := ⟨_, rfl⟩
      rw [hn] at HD HR h0
      clear h hb hn
      go_enter Try.func6, Try.ntmps6
      go_wp2_with (first | (go_at_call 21; refine (HD.out _).mono ?_; rintro _ _ ⟨rfl, rfl⟩) | (go_at_call 22; (first | with_reducible refine (H1.out _).mono ?_ | with_reducible refine (H2.out _).mono ?_); rintro _ _ ⟨rfl, rfl⟩) | (go_at_call 23; refine (H3.out _).mono ?_; rintro _ _ ⟨rfl, rfl⟩) | (go_at_call 24; refine (HR.out _).mono ?_; rintro _ _ ⟨rfl, rfl⟩) | (go_at_call 14; refine (HA.out _ HK.out).mono ?_; rintro _ w5 ⟨rfl, k5⟩))
      go_ret
      exact ⟨rfl, k5⟩
  · rw [dl_arg h] at HD
    obtain ⟨b1, e1⟩ : ∃ b, decide (slot f) = b := ⟨_, rfl⟩
    obtain ⟨b2, e2⟩ : ∃ b, decide (slot t) = b := ⟨_, rfl⟩
    obtain ⟨b3, e3⟩ : ∃ b, decide (unit u) = b := ⟨_, rfl⟩
    have H1 := Lib.hid (rtmslot_any f b1 e1)
    have H2 := Lib.hid (rtmslot_any t b2 e2)
    have H3 := Lib.hid (rtmunit_any u b3 e3)
    have hall : ¬ (b1 = true ∧ b2 = true ∧ b3 = true) := fun x => h ⟨of_decide_eq_true (e1.trans x.1), of_decide_eq_true (e2.trans x.2.1), of_decide_eq_true (e3.trans x.2.2)⟩
    clear h e1 e2 e3
    cases b1
    all_goals cases b2
    all_goals cases b3
    all_goals first | (exact absurd ⟨rfl, rfl, rfl⟩ hall) | skip
    all_goals clear hall
    all_goals
      go_enter Try.func6, Try.ntmps6
      go_wp2_with (first | (go_at_call 21; refine (HD.out _).mono ?_; rintro _ _ ⟨rfl, rfl⟩) | (go_at_call 22; (first | with_reducible refine (H1.out _).mono ?_ | with_reducible refine (H2.out _).mono ?_); rintro _ _ ⟨rfl, rfl⟩) | (go_at_call 23; refine (H3.out _).mono ?_; rintro _ _ ⟨rfl, rfl⟩) | (go_at_call 14; refine (HA.out _ HK.out).mono ?_; rintro _ w5 ⟨rfl, k5⟩))
      go_ret
      exact ⟨rfl, k5⟩


theorem own : ownKnob Try.prog.godebug = none := by kernel_rfl
theorem laidOut : laidOutB Try.prog = true := by kernel_rfl
set_option maxRecDepth 100000 in
theorem lifted (os : Os) (started : os.Started) (H : Type) (enc : TypeId × Value → H) :
    ReturnsInHanded {} Try.checked os 6 .any (Rows.timesDeltaSpec.pre6 enc Try.prog Try.f6 Rows.timesDeltaRow.domain false) (Rows.timesDeltaSpec.post enc Try.prog Try.f6 false true false false) := by
  refine returnsInHanded_of_change (C := Try.checked) own started (by kernel_rfl) Try.func6
    (ChangeSpec.witness6 (enc := enc) (C := Try.checked) false ⟨#[], #[.int .i64 0, .int .i64 0, .int .i64 0], []⟩ 8 (by kernel_rfl) (by kernel_rfl) (by kernel_rfl) (by kernel_rfl)) ?_
  intro W base args ds gs before hval0 hW hcnd _
  have hval : ∀ (j : Nat) t v, Try.f6.params[j]? = some t → args[j]? = some v → Value.okWide Try.prog W .any base t v := hval0
  have hW' := hW
  obtain ⟨p, q, hA0, hV, rfl, hfz, hnd⟩ := hW
  have hA : DataW.TrodAll enc Try.prog W 0 (fun _ => true) true Try.f6.params.toList args.toList ds p := hA0
  rw [Try.params6] at hA hval
  obtain ⟨v0, vs0, d0, ds0, p0, q0, hargs, rfl, rfl, h0, r0⟩ := trodAll_cons hA
  obtain ⟨v1, vs1, d1, ds1, p1, q1, rfl, rfl, rfl, h1, r1⟩ := trodAll_cons r0
  obtain ⟨v2, vs2, d2, ds2, p2, q2, rfl, rfl, rfl, h2, r2⟩ := trodAll_cons r1
  obtain ⟨rfl, rfl, rfl⟩ := trodAll_nil r2
  obtain rfl : args = #[v0, v1, v2] := by cases args; simp_all
  obtain ⟨rfl, rfl⟩ := trodVars_none hV
  obtain ⟨a0, rfl, rfl, rfl, w0⟩ := open_int Try.underlying3 (hval 0 3 v0 rfl rfl) h0
  obtain ⟨a1, rfl, rfl, rfl, w1⟩ := open_int Try.underlying3 (hval 1 3 v1 rfl rfl) h1
  obtain ⟨a2, rfl, rfl, rfl, w2⟩ := open_int Try.underlying3 (hval 2 3 v2 rfl rfl) h2
  clear hA0 hval0
  refine (walk a0 w0 a1 w1 a2 w2 W).mono fun e W' ⟨he, bel⟩ => ?_
  subst he
  exact ⟨_, rfl, _, _, _, [], _, [], hW', trodAll_mk1 (shut_bool Try.underlying4 _), (trodAll_cons_mk (shut_int Try.underlying3 w0) (trodAll_cons_mk (shut_int Try.underlying3 w1) (trodAll_cons_mk (shut_int Try.underlying3 w2) trodAll_mk0))), rfl, bel.frame _, fun h => by cases h⟩

theorem over : Rows.timesDeltaRow.holds Try.pinned (OpenSpec.ofChange Rows.timesDeltaSpec) :=
  OpenClaim.holds_of_wide 6 Try.f6 rfl rfl rfl rfl rfl rfl rfl ⟨rfl, rfl, rfl, rfl, rfl⟩ rfl rfl rfl rfl rfl (by kernel_rfl) Try.func6 (by kernel_rfl)
    (of_decide_eq_true (by kernel_rfl)) (by unfold Func.isWrapper; first | (rw [if_pos (by decide +kernel)]; kernel_rfl) | (rw [if_neg (by decide +kernel)]; exact ⟨rfl, rfl⟩))
    (fun os started H enc _ => lifted os started H enc)

theorem proved : Rows.TimesDeltaSaid := over
#print axioms proved
end Go.Proofs.Ytofnokikjfmfgaa.timesDelta
