/-
  For any two numbers and an array of two TimesSure returns true: the slot to which it is so many units is in the window of these, and one is awake there; nothing that was there is changed. No condition.
-/
import Derived.Test.YtofnokikjfmfgaaRows
import Derived.Test.YtofnokikjfmfgaaTmE
namespace Go.Proofs.Ytofnokikjfmfgaa.timesSure
open Go.ChangeShapes Go.WideShapes Go.ChangeAt Go.RowKit Gf Tm
set_option maxRecDepth 100000
set_option linter.unusedVariables false
/-- What Window and Wake answer of what Delta told. -/
theorem sure_of {f t u g : Int} (h : slot f ∧ slot t ∧ unit u) (hg : 0 ≤ g ∧ g ≤ 1048576) (k : ¬ (t < f ∨ 4095 < cl (t - f) u)) :
    ∃ F L W : Int, wd f (cl (t - f) u) u = (F, L, 0) ∧ wk f (cl (t - f) u) u g = (W, 0) ∧ F ≤ t ∧ t ≤ L ∧ W ≤ t ∧ f ≤ W ∧ t - W < g + u ∧ L - F < u ∧ L - F ≥ 0 := by
  have h0 : 0 ≤ t - f := by omega
  have n0 := cl_nonneg h0 h.2.2.1
  obtain ⟨s1, s2⟩ := cl_spec (t - f) h.2.2.1
  have hok : slot f ∧ (0 ≤ cl (t - f) u ∧ cl (t - f) u ≤ 4095) ∧ unit u := ⟨h.1, ⟨n0, by omega⟩, h.2.2⟩
  obtain ⟨u1, u2⟩ := h.2.2
  generalize hm : cl (t - f) u * u = m at *
  by_cases hz : cl (t - f) u = 0
  · have e := wd_zero hok hz
    have mz : m = 0 := by rw [← hm, hz, Int.zero_mul]
    refine ⟨f, f, f, e, ?_, by omega, by omega, by omega, by omega, by omega, by omega, by omega⟩
    unfold wk
    rw [e, if_pos rfl, if_pos hg]
    show (max (f - g) f, (0 : Int)) = _
    congr 1; omega
  · have e := wd_ok hok hz
    rw [hm] at e
    refine ⟨_, _, max (f + (m - u) + 1 - g) f, e, ?_, by omega, by omega, by omega, by omega, by omega, by omega, by omega⟩
    unfold wk
    rw [e, if_pos rfl, if_pos hg]
set_option maxHeartbeats 6400000 in
theorem core (f t u g : Int) (w : World) :
    Calls Try.prog 8 #[.int .i64 f, .int .i64 t, .agg #[.int .i64 u, .int .i64 g]] w fun e w' => e = .returned (.bool true) ∧ Below w.heap.size w w' := by
  have HD := Lib.hid (tmdelta_any f t u)
  have HA := Lib.hid (fun W (k : Keeps w W) => awake9_any w W k)
  have HK := Lib.hid ((Keeps.refl w).alloc (.cells #[.int .i64 u, .int .i64 g] 22))
  by_cases h : slot f ∧ slot t ∧ unit u
  · have H1 := Lib.hid (rtmslot_any f true (decide_eq_true h.1))
    have H2 := Lib.hid (rtmslot_any t true (decide_eq_true h.2.1))
    have H3 := Lib.hid (rtmunit_any u true (decide_eq_true h.2.2))
    by_cases hg : 0 ≤ g ∧ g ≤ 1048576
    · obtain ⟨g0, g1⟩ := id hg
      by_cases hb : t < f ∨ 4095 < cl (t - f) u
      · rw [dl_range h hb] at HD
        by_cases h5 : t < f
        · clear h hg hb
          go_enter Try.func8, Try.ntmps8
          go_wp2_with (first | (go_at_call 21; refine (HD.out _).mono ?_; rintro _ _ ⟨rfl, rfl⟩) | (go_at_call 22; (first | with_reducible refine (H1.out _).mono ?_ | with_reducible refine (H2.out _).mono ?_); rintro _ _ ⟨rfl, rfl⟩) | (go_at_call 23; refine (H3.out _).mono ?_; rintro _ _ ⟨rfl, rfl⟩) | (go_at_call 14; refine (HA.out _ HK.out).mono ?_; rintro _ w5 ⟨rfl, k5⟩))
          go_ret
          exact ⟨rfl, k5⟩
        · have hd : 0 ≤ t - f := by omega
          have hq := div_big h.2.2.1 (show ¬ cl (t - f) u ≤ 4095 by rcases hb with x | x <;> omega)
          obtain ⟨⟨a1, a2⟩, ⟨b1, b2⟩, c1, c2⟩ := id h
          have hu0 : ¬ u = 0 := by omega
          have w1 := wrapI (a := t - f) (by omega) (by omega)
          obtain ⟨q, e⟩ : ∃ q, (t - f) / u = q := ⟨_, rfl⟩
          have e2 : (t - f).tdiv u = q := by rw [Int.tdiv_eq_ediv_of_nonneg hd, e]
          rw [e] at hq
          have q1 : q ≤ 1099511627776 := by
            have h5 := Int.ediv_le_self u hd
            rw [e] at h5; omega
          have w2 := wrapI (a := q) (by omega) (by omega)
          clear h hg hb
          go_enter Try.func8, Try.ntmps8
          go_wp2_with (first | (go_at_call 21; refine (HD.out _).mono ?_; rintro _ _ ⟨rfl, rfl⟩) | (go_at_call 22; (first | with_reducible refine (H1.out _).mono ?_ | with_reducible refine (H2.out _).mono ?_); rintro _ _ ⟨rfl, rfl⟩) | (go_at_call 23; refine (H3.out _).mono ?_; rintro _ _ ⟨rfl, rfl⟩) | (go_at_call 14; refine (HA.out _ HK.out).mono ?_; rintro _ w5 ⟨rfl, k5⟩))
          go_ret
          exact ⟨rfl, k5⟩
      · rw [dl_ok h hb] at HD
        obtain ⟨F, L, Z, e1, e2, f1, f2, f3, f4, f5, f6, f7⟩ := sure_of h hg hb
        obtain ⟨n, hn⟩ : ∃ n, cl (t - f) u = n := ⟨_, rfl⟩
        rw [hn] at HD e1 e2
        have HW := Lib.hid (tmwindow_any f n u)
        have HG := Lib.hid (tmwake_any f n u g)
        rw [e1] at HW
        rw [e2] at HG
        obtain ⟨⟨a1, a2⟩, ⟨b1, b2⟩, c1, c2⟩ := id h
        have w1 := wrapI (a := t - Z) (by omega) (by omega)
        have w2 := wrapI (a := g + u) (by omega) (by omega)
        have w3 := wrapI (a := L - F) (by omega) (by omega)
        clear h hg hb e1 e2 hn
        go_enter Try.func8, Try.ntmps8
        go_wp2_with (first | (go_at_call 21; refine (HD.out _).mono ?_; rintro _ _ ⟨rfl, rfl⟩) | (go_at_call 25; refine (HW.out _).mono ?_; rintro _ _ ⟨rfl, rfl⟩) | (go_at_call 26; refine (HG.out _).mono ?_; rintro _ _ ⟨rfl, rfl⟩) | (go_at_call 22; (first | with_reducible refine (H1.out _).mono ?_ | with_reducible refine (H2.out _).mono ?_); rintro _ _ ⟨rfl, rfl⟩) | (go_at_call 23; refine (H3.out _).mono ?_; rintro _ _ ⟨rfl, rfl⟩) | (go_at_call 14; refine (HA.out _ HK.out).mono ?_; rintro _ w5 ⟨rfl, k5⟩))
        go_ret
        exact ⟨rfl, k5⟩
    · by_cases g0 : g < 0
      · clear h hg
        go_enter Try.func8, Try.ntmps8
        go_wp2_with (first | (go_at_call 21; refine (HD.out _).mono ?_; rintro _ _ ⟨rfl, rfl⟩) | (go_at_call 22; (first | with_reducible refine (H1.out _).mono ?_ | with_reducible refine (H2.out _).mono ?_); rintro _ _ ⟨rfl, rfl⟩) | (go_at_call 23; refine (H3.out _).mono ?_; rintro _ _ ⟨rfl, rfl⟩) | (go_at_call 14; refine (HA.out _ HK.out).mono ?_; rintro _ w5 ⟨rfl, k5⟩))
        go_ret
        exact ⟨rfl, k5⟩
      · have g1 : 1048576 < g := by omega
        clear h hg
        go_enter Try.func8, Try.ntmps8
        go_wp2_with (first | (go_at_call 21; refine (HD.out _).mono ?_; rintro _ _ ⟨rfl, rfl⟩) | (go_at_call 22; (first | with_reducible refine (H1.out _).mono ?_ | with_reducible refine (H2.out _).mono ?_); rintro _ _ ⟨rfl, rfl⟩) | (go_at_call 23; refine (H3.out _).mono ?_; rintro _ _ ⟨rfl, rfl⟩) | (go_at_call 14; refine (HA.out _ HK.out).mono ?_; rintro _ w5 ⟨rfl, k5⟩))
        go_ret
        exact ⟨rfl, k5⟩
  · obtain ⟨b1, e1⟩ : ∃ b, decide (slot f) = b := ⟨_, rfl⟩
    obtain ⟨b2, e2⟩ : ∃ b, decide (slot t) = b := ⟨_, rfl⟩
    obtain ⟨b3, e3⟩ : ∃ b, decide (unit u) = b := ⟨_, rfl⟩
    have H1 := Lib.hid (rtmslot_any f b1 e1)
    have H2 := Lib.hid (rtmslot_any t b2 e2)
    have H3 := Lib.hid (rtmunit_any u b3 e3)
    have hall : ¬ (b1 = true ∧ b2 = true ∧ b3 = true) := fun x => h ⟨of_decide_eq_true (e1.trans x.1), of_decide_eq_true (e2.trans x.2.1), of_decide_eq_true (e3.trans x.2.2)⟩
    clear h e1 e2 e3
    cases b1
    all_goals cases b2
    all_goals cases b3
    all_goals first | (exact absurd ⟨rfl, rfl, rfl⟩ hall) | skip
    all_goals clear hall
    all_goals
      go_enter Try.func8, Try.ntmps8
      go_wp2_with (first | (go_at_call 21; refine (HD.out _).mono ?_; rintro _ _ ⟨rfl, rfl⟩) | (go_at_call 22; (first | with_reducible refine (H1.out _).mono ?_ | with_reducible refine (H2.out _).mono ?_); rintro _ _ ⟨rfl, rfl⟩) | (go_at_call 23; refine (H3.out _).mono ?_; rintro _ _ ⟨rfl, rfl⟩) | (go_at_call 14; refine (HA.out _ HK.out).mono ?_; rintro _ w5 ⟨rfl, k5⟩))
      go_ret
      exact ⟨rfl, k5⟩
theorem walk (a : Int) (ha : (Lit.int .i64 a).wf = true) (d : Int) (hd : (Lit.int .i64 d).wf = true) (two : List Int) (h2 : two.length = 2) (hw : ∀ x ∈ two, (Lit.int .i64 x).wf = true) (w : World) :
    Calls Try.prog 8 #[.int .i64 a, .int .i64 d, .agg (two.map (.int .i64)).toArray] w fun e w' => e = .returned (.bool true) ∧ Below w.heap.size w w' := by
  match two, h2 with
  | [p, q], _ => exact core a d p q w


theorem own : ownKnob Try.prog.godebug = none := by kernel_rfl
theorem laidOut : laidOutB Try.prog = true := by kernel_rfl
set_option maxRecDepth 100000 in
theorem lifted (os : Os) (started : os.Started) (H : Type) (enc : TypeId × Value → H) :
    ReturnsInHanded {} Try.checked os 8 .any (Rows.timesSureSpec.pre6 enc Try.prog Try.f8 Rows.timesSureRow.domain false) (Rows.timesSureSpec.post enc Try.prog Try.f8 false true false false) := by
  refine returnsInHanded_of_change (C := Try.checked) own started (by kernel_rfl) Try.func8
    (ChangeSpec.witness6 (enc := enc) (C := Try.checked) false ⟨#[], #[.int .i64 0, .int .i64 0, .agg #[.int .i64 0, .int .i64 0]], []⟩ 8 (by kernel_rfl) (by kernel_rfl) (by kernel_rfl) (by kernel_rfl)) ?_
  intro W base args ds gs before hval0 hW hcnd _
  have hval : ∀ (j : Nat) t v, Try.f8.params[j]? = some t → args[j]? = some v → Value.okWide Try.prog W .any base t v := hval0
  have hW' := hW
  obtain ⟨p, q, hA0, hV, rfl, hfz, hnd⟩ := hW
  have hA : DataW.TrodAll enc Try.prog W 0 (fun _ => true) true Try.f8.params.toList args.toList ds p := hA0
  rw [Try.params8] at hA hval
  obtain ⟨v0, vs0, d0, ds0, p0, q0, hargs, rfl, rfl, h0, r0⟩ := trodAll_cons hA
  obtain ⟨v1, vs1, d1, ds1, p1, q1, rfl, rfl, rfl, h1, r1⟩ := trodAll_cons r0
  obtain ⟨v2, vs2, d2, ds2, p2, q2, rfl, rfl, rfl, h2, r2⟩ := trodAll_cons r1
  obtain ⟨rfl, rfl, rfl⟩ := trodAll_nil r2
  obtain rfl : args = #[v0, v1, v2] := by cases args; simp_all
  obtain ⟨rfl, rfl⟩ := trodVars_none hV
  obtain ⟨a0, rfl, rfl, rfl, w0⟩ := open_int Try.underlying3 (hval 0 3 v0 rfl rfl) h0
  obtain ⟨a1, rfl, rfl, rfl, w1⟩ := open_int Try.underlying3 (hval 1 3 v1 rfl rfl) h1
  have k2 := h2
  have lt2 : ∀ x ∈ p2, x.block < W.heap.size := by obtain ⟨m, hm⟩ := k2; exact DataW.trod_lt m _ _ _ hm
  obtain ⟨x2, n2, rfl, wx2⟩ := open_arr Try.underlying22 Try.underlying3 (by kernel_rfl) (by kernel_rfl) (hval 2 22 v2 rfl rfl) h2
  clear hA0 hval0
  refine (walk a0 w0 a1 w1 x2 n2 wx2 W).mono fun e W' ⟨he, bel⟩ => ?_
  subst he
  exact ⟨_, rfl, _, _, _, [], _, [], hW', trodAll_mk1 (shut_bool Try.underlying4 _), (trodAll_cons_mk (shut_int Try.underlying3 w0) (trodAll_cons_mk (shut_int Try.underlying3 w1) (trodAll_cons_mk (Below.trod laidOut (by kernel_rfl) (of_decide_eq_true (by kernel_rfl)) k2 bel lt2) trodAll_mk0))), rfl, bel.frame _, fun h => by cases h⟩

theorem over : Rows.timesSureRow.holds Try.pinned (OpenSpec.ofChange Rows.timesSureSpec) :=
  OpenClaim.holds_of_wide 8 Try.f8 rfl rfl rfl rfl rfl rfl rfl ⟨rfl, rfl, rfl, rfl, rfl⟩ rfl rfl rfl rfl rfl (by kernel_rfl) Try.func8 (by kernel_rfl)
    (of_decide_eq_true (by kernel_rfl)) (by unfold Func.isWrapper; first | (rw [if_pos (by decide +kernel)]; kernel_rfl) | (rw [if_neg (by decide +kernel)]; exact ⟨rfl, rfl⟩))
    (fun os started H enc _ => lifted os started H enc)

theorem proved : Rows.TimesSureSaid := over
#print axioms proved
end Go.Proofs.Ytofnokikjfmfgaa.timesSure
