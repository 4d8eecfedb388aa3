/-
  For any two numbers and an array of two TimesWindow returns true: at which slots what was told may begin, and from which one on one must be awake; nothing that was there is changed. No condition.
-/
import Derived.Test.YtofnokikjfmfgaaRows
import Derived.Test.YtofnokikjfmfgaaTmE
namespace Go.Proofs.Ytofnokikjfmfgaa.timesWindow
open Go.ChangeShapes Go.WideShapes Go.ChangeAt Go.RowKit Gf Tm
set_option maxRecDepth 100000
set_option linter.unusedVariables false
theorem wk_arg {a d u g : Int} (h : wd a d u = (0, 0, 1)) : wk a d u g = (0, 1) := by unfold wk; rw [h]; rfl
theorem wk_bad {a d u g x y : Int} (h : wd a d u = (x, y, 0)) (k : ¬ (0 ≤ g ∧ g ≤ 1048576)) : wk a d u g = (0, 1) := by unfold wk; rw [h, if_pos rfl, if_neg k]
theorem wk_at {a d u g x y : Int} (h : wd a d u = (x, y, 0)) (k : 0 ≤ g ∧ g ≤ 1048576) (l : ¬ x - g > a) : wk a d u g = (a, 0) := by unfold wk; rw [h, if_pos rfl, if_pos k]; show (max (x - g) a, (0 : Int)) = _; congr 1; omega
theorem wk_ok {a d u g x y : Int} (h : wd a d u = (x, y, 0)) (k : 0 ≤ g ∧ g ≤ 1048576) (l : x - g > a) : wk a d u g = (x - g, 0) := by unfold wk; rw [h, if_pos rfl, if_pos k]; show (max (x - g) a, (0 : Int)) = _; congr 1; omega
set_option maxHeartbeats 6400000 in
theorem core (a d u g : Int) (w : World) :
    Calls Try.prog 7 #[.int .i64 a, .int .i64 d, .agg #[.int .i64 u, .int .i64 g]] w fun e w' => e = .returned (.bool true) ∧ Below w.heap.size w w' := by
  have HD := Lib.hid (tmwindow_any a d u)
  have HG := Lib.hid (tmwake_any a d u g)
  have HA := Lib.hid (fun W (k : Keeps w W) => awake9_any w W k)
  have HK := Lib.hid ((Keeps.refl w).alloc (.cells #[.int .i64 u, .int .i64 g] 22))
  by_cases h : slot a ∧ (0 ≤ d ∧ d ≤ 4095) ∧ unit u
  · have H1 := Lib.hid (rtmslot_any a true (decide_eq_true h.1))
    have H3 := Lib.hid (rtmunit_any u true (decide_eq_true h.2.2))
    obtain ⟨⟨a1, a2⟩, hd, hu⟩ := id h
    obtain ⟨m0, m1, m2⟩ := mul_bd hd hu
    obtain ⟨b1, b2⟩ := hd
    obtain ⟨c1, c2⟩ := hu
    obtain ⟨m, hm⟩ : ∃ m, d * u = m := ⟨_, rfl⟩
    rw [hm] at m0 m1 m2
    have w1 := wrapI (a := m) (by omega) (by omega)
    have w2 := wrapI (a := a + m) (by omega) (by omega)
    have w3 := wrapI (a := a + m - u) (by omega) (by omega)
    have w4 := wrapI (a := a + m - u + 1) (by omega) (by omega)
    by_cases h4 : d = 0
    · have hw := wd_zero h h4
      subst h4
      have hmz : m = 0 := by rw [← hm, Int.zero_mul]
      subst hmz
      rw [Int.add_zero] at w2 w3 w4
      clear h m2
      by_cases hg : 0 ≤ g ∧ g ≤ 1048576
      · obtain ⟨g0, g1⟩ := id hg
        obtain ⟨G, hG⟩ : ∃ G, a - g = G := ⟨_, rfl⟩
        have wG := wrapI (a := G) (by omega) (by omega)
        by_cases hl : G > a
        · exact absurd hl (by omega)
        · have hM : max a G = a := by omega
          have e := wk_at hw hg (by omega)
          rw [hw] at HD
          rw [e] at HG
          clear hw e hg
          go_enter Try.func7, Try.ntmps7
          go_wp2_with (first | (go_at_call 25; refine (HD.out _).mono ?_; rintro _ _ ⟨rfl, rfl⟩) | (go_at_call 26; refine (HG.out _).mono ?_; rintro _ _ ⟨rfl, rfl⟩) | (go_at_call 22; refine (H1.out _).mono ?_; rintro _ _ ⟨rfl, rfl⟩) | (go_at_call 23; refine (H3.out _).mono ?_; rintro _ _ ⟨rfl, rfl⟩) | (go_at_call 14; refine (HA.out _ HK.out).mono ?_; rintro _ w5 ⟨rfl, k5⟩))
          go_ret
          exact ⟨rfl, k5⟩
      · have e := wk_bad hw hg
        rw [hw] at HD
        rw [e] at HG
        by_cases g0 : g < 0
        · clear hw e hg
          go_enter Try.func7, Try.ntmps7
          go_wp2_with (first | (go_at_call 25; refine (HD.out _).mono ?_; rintro _ _ ⟨rfl, rfl⟩) | (go_at_call 26; refine (HG.out _).mono ?_; rintro _ _ ⟨rfl, rfl⟩) | (go_at_call 22; refine (H1.out _).mono ?_; rintro _ _ ⟨rfl, rfl⟩) | (go_at_call 23; refine (H3.out _).mono ?_; rintro _ _ ⟨rfl, rfl⟩) | (go_at_call 14; refine (HA.out _ HK.out).mono ?_; rintro _ w5 ⟨rfl, k5⟩))
          go_ret
          exact ⟨rfl, k5⟩
        · have g1 : 1048576 < g := by omega
          clear hw e hg
          go_enter Try.func7, Try.ntmps7
          go_wp2_with (first | (go_at_call 25; refine (HD.out _).mono ?_; rintro _ _ ⟨rfl, rfl⟩) | (go_at_call 26; refine (HG.out _).mono ?_; rintro _ _ ⟨rfl, rfl⟩) | (go_at_call 22; refine (H1.out _).mono ?_; rintro _ _ ⟨rfl, rfl⟩) | (go_at_call 23; refine (H3.out _).mono ?_; rintro _ _ ⟨rfl, rfl⟩) | (go_at_call 14; refine (HA.out _ HK.out).mono ?_; rintro _ w5 ⟨rfl, k5⟩))
          go_ret
          exact ⟨rfl, k5⟩
    · have hw := wd_ok h h4
      have m3 := m2 h4
      rw [hm] at hw
      obtain ⟨F, hF⟩ : ∃ F, a + m - u + 1 = F := ⟨_, rfl⟩
      have hw : wd a d u = (F, a + m, 0) := by rw [hw, ← hF]; congr 1; omega
      rw [hF] at w4
      have fb : 0 ≤ F ∧ F ≤ 2000000000000 := by omega
      clear h m2
      by_cases hg : 0 ≤ g ∧ g ≤ 1048576
      · obtain ⟨g0, g1⟩ := id hg
        obtain ⟨G, hG⟩ : ∃ G, F - g = G := ⟨_, rfl⟩
        have wG := wrapI (a := G) (by omega) (by omega)
        by_cases hl : G > a
        · have hM : max a G = G := by omega
          have e := wk_ok hw hg (by omega)
          rw [hG] at e
          rw [hw] at HD
          rw [e] at HG
          clear hw e hg
          go_enter Try.func7, Try.ntmps7
          go_wp2_with (first | (go_at_call 25; refine (HD.out _).mono ?_; rintro _ _ ⟨rfl, rfl⟩) | (go_at_call 26; refine (HG.out _).mono ?_; rintro _ _ ⟨rfl, rfl⟩) | (go_at_call 22; refine (H1.out _).mono ?_; rintro _ _ ⟨rfl, rfl⟩) | (go_at_call 23; refine (H3.out _).mono ?_; rintro _ _ ⟨rfl, rfl⟩) | (go_at_call 14; refine (HA.out _ HK.out).mono ?_; rintro _ w5 ⟨rfl, k5⟩))
          go_ret
          exact ⟨rfl, k5⟩
        · have hM : max a G = a := by omega
          have e := wk_at hw hg (by omega)
          rw [hw] at HD
          rw [e] at HG
          clear hw e hg
          go_enter Try.func7, Try.ntmps7
          go_wp2_with (first | (go_at_call 25; refine (HD.out _).mono ?_; rintro _ _ ⟨rfl, rfl⟩) | (go_at_call 26; refine (HG.out _).mono ?_; rintro _ _ ⟨rfl, rfl⟩) | (go_at_call 22; refine (H1.out _).mono ?_; rintro _ _ ⟨rfl, rfl⟩) | (go_at_call 23; refine (H3.out _).mono ?_; rintro _ _ ⟨rfl, rfl⟩) | (go_at_call 14; refine (HA.out _ HK.out).mono ?_; rintro _ w5 ⟨rfl, k5⟩))
          go_ret
          exact ⟨rfl, k5⟩
      · have e := wk_bad hw hg
        rw [hw] at HD
        rw [e] at HG
        by_cases g0 : g < 0
        · clear hw e hg
          go_enter Try.func7, Try.ntmps7
          go_wp2_with (first | (go_at_call 25; refine (HD.out _).mono ?_; rintro _ _ ⟨rfl, rfl⟩) | (go_at_call 26; refine (HG.out _).mono ?_; rintro _ _ ⟨rfl, rfl⟩) | (go_at_call 22; refine (H1.out _).mono ?_; rintro _ _ ⟨rfl, rfl⟩) | (go_at_call 23; refine (H3.out _).mono ?_; rintro _ _ ⟨rfl, rfl⟩) | (go_at_call 14; refine (HA.out _ HK.out).mono ?_; rintro _ w5 ⟨rfl, k5⟩))
          go_ret
          exact ⟨rfl, k5⟩
        · have g1 : 1048576 < g := by omega
          clear hw e hg
          go_enter Try.func7, Try.ntmps7
          go_wp2_with (first | (go_at_call 25; refine (HD.out _).mono ?_; rintro _ _ ⟨rfl, rfl⟩) | (go_at_call 26; refine (HG.out _).mono ?_; rintro _ _ ⟨rfl, rfl⟩) | (go_at_call 22; refine (H1.out _).mono ?_; rintro _ _ ⟨rfl, rfl⟩) | (go_at_call 23; refine (H3.out _).mono ?_; rintro _ _ ⟨rfl, rfl⟩) | (go_at_call 14; refine (HA.out _ HK.out).mono ?_; rintro _ w5 ⟨rfl, k5⟩))
          go_ret
          exact ⟨rfl, k5⟩
  · have hw := wd_arg h
    have e := wk_arg (g := g) hw
    rw [hw] at HD
    rw [e] at HG
    obtain ⟨b1, e1⟩ : ∃ b, decide (slot a) = b := ⟨_, rfl⟩
    obtain ⟨b3, e3⟩ : ∃ b, decide (unit u) = b := ⟨_, rfl⟩
    have H1 := Lib.hid (rtmslot_any a b1 e1)
    have H3 := Lib.hid (rtmunit_any u b3 e3)
    clear hw e
    cases b1
    · clear e3 e1 h
      go_enter Try.func7, Try.ntmps7
      go_wp2_with (first | (go_at_call 25; refine (HD.out _).mono ?_; rintro _ _ ⟨rfl, rfl⟩) | (go_at_call 26; refine (HG.out _).mono ?_; rintro _ _ ⟨rfl, rfl⟩) | (go_at_call 22; refine (H1.out _).mono ?_; rintro _ _ ⟨rfl, rfl⟩) | (go_at_call 23; refine (H3.out _).mono ?_; rintro _ _ ⟨rfl, rfl⟩) | (go_at_call 14; refine (HA.out _ HK.out).mono ?_; rintro _ w5 ⟨rfl, k5⟩))
      go_ret
      exact ⟨rfl, k5⟩
    · cases b3
      · clear e1 e3 h
        go_enter Try.func7, Try.ntmps7
        go_wp2_with (first | (go_at_call 25; refine (HD.out _).mono ?_; rintro _ _ ⟨rfl, rfl⟩) | (go_at_call 26; refine (HG.out _).mono ?_; rintro _ _ ⟨rfl, rfl⟩) | (go_at_call 22; refine (H1.out _).mono ?_; rintro _ _ ⟨rfl, rfl⟩) | (go_at_call 23; refine (H3.out _).mono ?_; rintro _ _ ⟨rfl, rfl⟩) | (go_at_call 14; refine (HA.out _ HK.out).mono ?_; rintro _ w5 ⟨rfl, k5⟩))
        go_ret
        exact ⟨rfl, k5⟩
      · have s1 : slot a := of_decide_eq_true e1
        have s3 : unit u := of_decide_eq_true e3
        by_cases d0 : d < 0
        · clear e1 e3 h s1 s3
          go_enter Try.func7, Try.ntmps7
          go_wp2_with (first | (go_at_call 25; refine (HD.out _).mono ?_; rintro _ _ ⟨rfl, rfl⟩) | (go_at_call 26; refine (HG.out _).mono ?_; rintro _ _ ⟨rfl, rfl⟩) | (go_at_call 22; refine (H1.out _).mono ?_; rintro _ _ ⟨rfl, rfl⟩) | (go_at_call 23; refine (H3.out _).mono ?_; rintro _ _ ⟨rfl, rfl⟩) | (go_at_call 14; refine (HA.out _ HK.out).mono ?_; rintro _ w5 ⟨rfl, k5⟩))
          go_ret
          exact ⟨rfl, k5⟩
        · have d1 : 4095 < d := by
            rcases Int.lt_or_le 4095 d with x | x
            · exact x
            · exact absurd ⟨s1, ⟨by omega, x⟩, s3⟩ h
          clear e1 e3 h s1 s3
          go_enter Try.func7, Try.ntmps7
          go_wp2_with (first | (go_at_call 25; refine (HD.out _).mono ?_; rintro _ _ ⟨rfl, rfl⟩) | (go_at_call 26; refine (HG.out _).mono ?_; rintro _ _ ⟨rfl, rfl⟩) | (go_at_call 22; refine (H1.out _).mono ?_; rintro _ _ ⟨rfl, rfl⟩) | (go_at_call 23; refine (H3.out _).mono ?_; rintro _ _ ⟨rfl, rfl⟩) | (go_at_call 14; refine (HA.out _ HK.out).mono ?_; rintro _ w5 ⟨rfl, k5⟩))
          go_ret
          exact ⟨rfl, k5⟩
theorem walk (a : Int) (ha : (Lit.int .i64 a).wf = true) (d : Int) (hd : (Lit.int .i64 d).wf = true) (two : List Int) (h2 : two.length = 2) (hw : ∀ x ∈ two, (Lit.int .i64 x).wf = true) (w : World) :
    Calls Try.prog 7 #[.int .i64 a, .int .i64 d, .agg (two.map (.int .i64)).toArray] w fun e w' => e = .returned (.bool true) ∧ Below w.heap.size w w' := by
  match two, h2 with
  | [p, q], _ => exact core a d p q w


theorem own : ownKnob Try.prog.godebug = none := by kernel_rfl
theorem laidOut : laidOutB Try.prog = true := by kernel_rfl
set_option maxRecDepth 100000 in
theorem lifted (os : Os) (started : os.Started) (H : Type) (enc : TypeId × Value → H) :
    ReturnsInHanded {} Try.checked os 7 .any (Rows.timesWindowSpec.pre6 enc Try.prog Try.f7 Rows.timesWindowRow.domain false) (Rows.timesWindowSpec.post enc Try.prog Try.f7 false true false false) := by
  refine returnsInHanded_of_change (C := Try.checked) own started (by kernel_rfl) Try.func7
    (ChangeSpec.witness6 (enc := enc) (C := Try.checked) false ⟨#[], #[.int .i64 0, .int .i64 0, .agg #[.int .i64 0, .int .i64 0]], []⟩ 8 (by kernel_rfl) (by kernel_rfl) (by kernel_rfl) (by kernel_rfl)) ?_
  intro W base args ds gs before hval0 hW hcnd _
  have hval : ∀ (j : Nat) t v, Try.f7.params[j]? = some t → args[j]? = some v → Value.okWide Try.prog W .any base t v := hval0
  have hW' := hW
  obtain ⟨p, q, hA0, hV, rfl, hfz, hnd⟩ := hW
  have hA : DataW.TrodAll enc Try.prog W 0 (fun _ => true) true Try.f7.params.toList args.toList ds p := hA0
  rw [Try.params7] at hA hval
  obtain ⟨v0, vs0, d0, ds0, p0, q0, hargs, rfl, rfl, h0, r0⟩ := trodAll_cons hA
  obtain ⟨v1, vs1, d1, ds1, p1, q1, rfl, rfl, rfl, h1, r1⟩ := trodAll_cons r0
  obtain ⟨v2, vs2, d2, ds2, p2, q2, rfl, rfl, rfl, h2, r2⟩ := trodAll_cons r1
  obtain ⟨rfl, rfl, rfl⟩ := trodAll_nil r2
  obtain rfl : args = #[v0, v1, v2] := by cases args; simp_all
  obtain ⟨rfl, rfl⟩ := trodVars_none hV
  obtain ⟨a0, rfl, rfl, rfl, w0⟩ := open_int Try.underlying3 (hval 0 3 v0 rfl rfl) h0
  obtain ⟨a1, rfl, rfl, rfl, w1⟩ := open_int Try.underlying3 (hval 1 3 v1 rfl rfl) h1
  have k2 := h2
  have lt2 : ∀ x ∈ p2, x.block < W.heap.size := by obtain ⟨m, hm⟩ := k2; exact DataW.trod_lt m _ _ _ hm
  obtain ⟨x2, n2, rfl, wx2⟩ := open_arr Try.underlying22 Try.underlying3 (by kernel_rfl) (by kernel_rfl) (hval 2 22 v2 rfl rfl) h2
  clear hA0 hval0
  refine (walk a0 w0 a1 w1 x2 n2 wx2 W).mono fun e W' ⟨he, bel⟩ => ?_
  subst he
  exact ⟨_, rfl, _, _, _, [], _, [], hW', trodAll_mk1 (shut_bool Try.underlying4 _), (trodAll_cons_mk (shut_int Try.underlying3 w0) (trodAll_cons_mk (shut_int Try.underlying3 w1) (trodAll_cons_mk (Below.trod laidOut (by kernel_rfl) (of_decide_eq_true (by kernel_rfl)) k2 bel lt2) trodAll_mk0))), rfl, bel.frame _, fun h => by cases h⟩

theorem over : Rows.timesWindowRow.holds Try.pinned (OpenSpec.ofChange Rows.timesWindowSpec) :=
  OpenClaim.holds_of_wide 7 Try.f7 rfl rfl rfl rfl rfl rfl rfl ⟨rfl, rfl, rfl, rfl, rfl⟩ rfl rfl rfl rfl rfl (by kernel_rfl) Try.func7 (by kernel_rfl)
    (of_decide_eq_true (by kernel_rfl)) (by unfold Func.isWrapper; first | (rw [if_pos (by decide +kernel)]; kernel_rfl) | (rw [if_neg (by decide +kernel)]; exact ⟨rfl, rfl⟩))
    (fun os started H enc _ => lifted os started H enc)

theorem proved : Rows.TimesWindowSaid := over
#print axioms proved
end Go.Proofs.Ytofnokikjfmfgaa.timesWindow
