/-
  For any array of three numbers and a unit TimesSums returns true: of two ways, one behind the other, the units are no fewer than those of both together, and no more than one more; nothing that was there is changed. No condition.
-/
import Derived.Test.YtofnokikjfmfgaaRows
import Derived.Test.YtofnokikjfmfgaaTmE
namespace Go.Proofs.Ytofnokikjfmfgaa.timesSums
open Go.ChangeShapes Go.WideShapes Go.ChangeAt Go.RowKit Gf Tm
set_option maxRecDepth 100000
set_option linter.unusedVariables false
set_option maxHeartbeats 6400000 in
theorem core (a b c u : Int) (w : World) :
    Calls Try.prog 10 #[.agg #[.int .i64 a, .int .i64 b, .int .i64 c], .int .i64 u] w fun e w' => e = .returned (.bool true) ∧ Below w.heap.size w w' := by
  have HX := Lib.hid (tmdelta_any a b u)
  have HY := Lib.hid (tmdelta_any b c u)
  have HZ := Lib.hid (tmdelta_any a c u)
  have HA := Lib.hid (fun W (k : Keeps w W) => awake9_any w W k)
  have HK := Lib.hid ((Keeps.refl w).alloc (.cells #[.int .i64 a, .int .i64 b, .int .i64 c] 62))
  by_cases h : slot a ∧ slot b ∧ slot c ∧ unit u
  · have H1 := Lib.hid (rtmslot_any a true (decide_eq_true h.1))
    have H2 := Lib.hid (rtmslot_any b true (decide_eq_true h.2.1))
    have H3 := Lib.hid (rtmslot_any c true (decide_eq_true h.2.2.1))
    have H4 := Lib.hid (rtmunit_any u true (decide_eq_true h.2.2.2))
    obtain ⟨sa, sb, sc, su⟩ := h
    by_cases hab : b < a
    · clear sa sb sc su
      go_enter Try.func10, Try.ntmps10
      go_wp2_with (first | (go_at_call 21; (first | with_reducible refine (HX.out _).mono ?_ | with_reducible refine (HY.out _).mono ?_ | with_reducible refine (HZ.out _).mono ?_); rintro _ _ ⟨rfl, rfl⟩) | (go_at_call 22; (first | with_reducible refine (H1.out _).mono ?_ | with_reducible refine (H2.out _).mono ?_ | with_reducible refine (H3.out _).mono ?_); rintro _ _ ⟨rfl, rfl⟩) | (go_at_call 23; refine (H4.out _).mono ?_; rintro _ _ ⟨rfl, rfl⟩) | (go_at_call 14; refine (HA.out _ HK.out).mono ?_; rintro _ w5 ⟨rfl, k5⟩))
      go_ret
      exact ⟨rfl, k5⟩
    by_cases hbc : c < b
    · clear sa sb sc su
      go_enter Try.func10, Try.ntmps10
      go_wp2_with (first | (go_at_call 21; (first | with_reducible refine (HX.out _).mono ?_ | with_reducible refine (HY.out _).mono ?_ | with_reducible refine (HZ.out _).mono ?_); rintro _ _ ⟨rfl, rfl⟩) | (go_at_call 22; (first | with_reducible refine (H1.out _).mono ?_ | with_reducible refine (H2.out _).mono ?_ | with_reducible refine (H3.out _).mono ?_); rintro _ _ ⟨rfl, rfl⟩) | (go_at_call 23; refine (H4.out _).mono ?_; rintro _ _ ⟨rfl, rfl⟩) | (go_at_call 14; refine (HA.out _ HK.out).mono ?_; rintro _ w5 ⟨rfl, k5⟩))
      go_ret
      exact ⟨rfl, k5⟩
    have u1 := su.1
    have hsum := cl_add (b - a) (c - b) u1
    rw [show b - a + (c - b) = c - a by omega] at hsum
    have x0 := cl_nonneg (show 0 ≤ b - a by omega) u1
    have y0 := cl_nonneg (show 0 ≤ c - b by omega) u1
    have zx := cl_mono (show b - a ≤ c - a by omega) u1
    have zy := cl_mono (show c - b ≤ c - a by omega) u1
    have xz := cl_zero (show 0 ≤ b - a by omega) u1
    obtain ⟨x, hx⟩ : ∃ x, cl (b - a) u = x := ⟨_, rfl⟩
    obtain ⟨y, hy⟩ : ∃ y, cl (c - b) u = y := ⟨_, rfl⟩
    obtain ⟨z, hz⟩ : ∃ z, cl (c - a) u = z := ⟨_, rfl⟩
    rw [hx, hy, hz] at hsum
    rw [hx] at x0 zx xz
    rw [hy] at y0 zy
    rw [hz] at zx zy
    obtain ⟨m1, m2⟩ := hsum
    by_cases bz : 4095 < z
    · rw [dl_range ⟨sa, sc, su⟩ (.inr (by rw [hz]; exact bz))] at HZ
      by_cases bx : 4095 < x
      · rw [dl_range ⟨sa, sb, su⟩ (.inr (by rw [hx]; exact bx))] at HX
        by_cases byy : 4095 < y
        · rw [dl_range ⟨sb, sc, su⟩ (.inr (by rw [hy]; exact byy))] at HY
          clear sa sb sc su u1 xz hx hy hz m1 m2
          go_enter Try.func10, Try.ntmps10
          go_wp2_with (first | (go_at_call 21; (first | with_reducible refine (HX.out _).mono ?_ | with_reducible refine (HY.out _).mono ?_ | with_reducible refine (HZ.out _).mono ?_); rintro _ _ ⟨rfl, rfl⟩) | (go_at_call 22; (first | with_reducible refine (H1.out _).mono ?_ | with_reducible refine (H2.out _).mono ?_ | with_reducible refine (H3.out _).mono ?_); rintro _ _ ⟨rfl, rfl⟩) | (go_at_call 23; refine (H4.out _).mono ?_; rintro _ _ ⟨rfl, rfl⟩) | (go_at_call 14; refine (HA.out _ HK.out).mono ?_; rintro _ w5 ⟨rfl, k5⟩))
          go_ret
          exact ⟨rfl, k5⟩
        · rw [dl_ok ⟨sb, sc, su⟩ (by rw [hy]; omega), hy] at HY
          clear sa sb sc su u1 xz hx hy hz m1 m2
          go_enter Try.func10, Try.ntmps10
          go_wp2_with (first | (go_at_call 21; (first | with_reducible refine (HX.out _).mono ?_ | with_reducible refine (HY.out _).mono ?_ | with_reducible refine (HZ.out _).mono ?_); rintro _ _ ⟨rfl, rfl⟩) | (go_at_call 22; (first | with_reducible refine (H1.out _).mono ?_ | with_reducible refine (H2.out _).mono ?_ | with_reducible refine (H3.out _).mono ?_); rintro _ _ ⟨rfl, rfl⟩) | (go_at_call 23; refine (H4.out _).mono ?_; rintro _ _ ⟨rfl, rfl⟩) | (go_at_call 14; refine (HA.out _ HK.out).mono ?_; rintro _ w5 ⟨rfl, k5⟩))
          go_ret
          exact ⟨rfl, k5⟩
      · rw [dl_ok ⟨sa, sb, su⟩ (by rw [hx]; omega), hx] at HX
        by_cases byy : 4095 < y
        · rw [dl_range ⟨sb, sc, su⟩ (.inr (by rw [hy]; exact byy))] at HY
          clear sa sb sc su u1 xz hx hy hz m1 m2
          go_enter Try.func10, Try.ntmps10
          go_wp2_with (first | (go_at_call 21; (first | with_reducible refine (HX.out _).mono ?_ | with_reducible refine (HY.out _).mono ?_ | with_reducible refine (HZ.out _).mono ?_); rintro _ _ ⟨rfl, rfl⟩) | (go_at_call 22; (first | with_reducible refine (H1.out _).mono ?_ | with_reducible refine (H2.out _).mono ?_ | with_reducible refine (H3.out _).mono ?_); rintro _ _ ⟨rfl, rfl⟩) | (go_at_call 23; refine (H4.out _).mono ?_; rintro _ _ ⟨rfl, rfl⟩) | (go_at_call 14; refine (HA.out _ HK.out).mono ?_; rintro _ w5 ⟨rfl, k5⟩))
          go_ret
          exact ⟨rfl, k5⟩
        · rw [dl_ok ⟨sb, sc, su⟩ (by rw [hy]; omega), hy] at HY
          clear sa sb sc su u1 xz hx hy hz m1 m2
          go_enter Try.func10, Try.ntmps10
          go_wp2_with (first | (go_at_call 21; (first | with_reducible refine (HX.out _).mono ?_ | with_reducible refine (HY.out _).mono ?_ | with_reducible refine (HZ.out _).mono ?_); rintro _ _ ⟨rfl, rfl⟩) | (go_at_call 22; (first | with_reducible refine (H1.out _).mono ?_ | with_reducible refine (H2.out _).mono ?_ | with_reducible refine (H3.out _).mono ?_); rintro _ _ ⟨rfl, rfl⟩) | (go_at_call 23; refine (H4.out _).mono ?_; rintro _ _ ⟨rfl, rfl⟩) | (go_at_call 14; refine (HA.out _ HK.out).mono ?_; rintro _ w5 ⟨rfl, k5⟩))
          go_ret
          exact ⟨rfl, k5⟩
    · rw [dl_ok ⟨sa, sc, su⟩ (by rw [hz]; omega), hz] at HZ
      rw [dl_ok ⟨sa, sb, su⟩ (by rw [hx]; omega), hx] at HX
      rw [dl_ok ⟨sb, sc, su⟩ (by rw [hy]; omega), hy] at HY
      have w1 := wrapI (a := x + y) (by omega) (by omega)
      have w2 := wrapI (a := z + 1) (by omega) (by omega)
      by_cases hx0 : x = 0
      · have hb : b = a := by have := xz.1 hx0; omega
        subst hb
        subst hx0
        rw [Int.zero_add] at m1 m2 w1
        clear sa sb sc su u1 xz hx hy hz
        go_enter Try.func10, Try.ntmps10
        go_wp2_with (first | (go_at_call 21; (first | with_reducible refine (HX.out _).mono ?_ | with_reducible refine (HY.out _).mono ?_ | with_reducible refine (HZ.out _).mono ?_); rintro _ _ ⟨rfl, rfl⟩) | (go_at_call 22; (first | with_reducible refine (H1.out _).mono ?_ | with_reducible refine (H2.out _).mono ?_ | with_reducible refine (H3.out _).mono ?_); rintro _ _ ⟨rfl, rfl⟩) | (go_at_call 23; refine (H4.out _).mono ?_; rintro _ _ ⟨rfl, rfl⟩) | (go_at_call 14; refine (HA.out _ HK.out).mono ?_; rintro _ w5 ⟨rfl, k5⟩))
        go_ret
        exact ⟨rfl, k5⟩
      · have hb : ¬ a = b := fun e => hx0 (xz.2 (by omega))
        have hq1 : (x == 0) = false := by rw [beq_eq_false_iff_ne]; exact hx0
        have hq2 : (a == b) = false := by rw [beq_eq_false_iff_ne]; exact hb
        clear sa sb sc su u1 xz hx hy hz
        go_enter Try.func10, Try.ntmps10
        go_wp2_with (first | (go_at_call 21; (first | with_reducible refine (HX.out _).mono ?_ | with_reducible refine (HY.out _).mono ?_ | with_reducible refine (HZ.out _).mono ?_); rintro _ _ ⟨rfl, rfl⟩) | (go_at_call 22; (first | with_reducible refine (H1.out _).mono ?_ | with_reducible refine (H2.out _).mono ?_ | with_reducible refine (H3.out _).mono ?_); rintro _ _ ⟨rfl, rfl⟩) | (go_at_call 23; refine (H4.out _).mono ?_; rintro _ _ ⟨rfl, rfl⟩) | (go_at_call 14; refine (HA.out _ HK.out).mono ?_; rintro _ w5 ⟨rfl, k5⟩))
        go_ret
        exact ⟨rfl, k5⟩
  · obtain ⟨b1, e1⟩ : ∃ b, decide (slot a) = b := ⟨_, rfl⟩
    obtain ⟨b2, e2⟩ : ∃ d, decide (slot b) = d := ⟨_, rfl⟩
    obtain ⟨b3, e3⟩ : ∃ b, decide (slot c) = b := ⟨_, rfl⟩
    obtain ⟨b4, e4⟩ : ∃ b, decide (unit u) = b := ⟨_, rfl⟩
    have H1 := Lib.hid (rtmslot_any a b1 e1)
    have H2 := Lib.hid (rtmslot_any b b2 e2)
    have H3 := Lib.hid (rtmslot_any c b3 e3)
    have H4 := Lib.hid (rtmunit_any u b4 e4)
    have hall : ¬ (b1 = true ∧ b2 = true ∧ b3 = true ∧ b4 = true) := fun x => h ⟨of_decide_eq_true (e1.trans x.1), of_decide_eq_true (e2.trans x.2.1), of_decide_eq_true (e3.trans x.2.2.1), of_decide_eq_true (e4.trans x.2.2.2)⟩
    clear h e1 e2 e3 e4
    cases b1
    · clear hall
      go_enter Try.func10, Try.ntmps10
      go_wp2_with (first | (go_at_call 21; (first | with_reducible refine (HX.out _).mono ?_ | with_reducible refine (HY.out _).mono ?_ | with_reducible refine (HZ.out _).mono ?_); rintro _ _ ⟨rfl, rfl⟩) | (go_at_call 22; (first | with_reducible refine (H1.out _).mono ?_ | with_reducible refine (H2.out _).mono ?_ | with_reducible refine (H3.out _).mono ?_); rintro _ _ ⟨rfl, rfl⟩) | (go_at_call 23; refine (H4.out _).mono ?_; rintro _ _ ⟨rfl, rfl⟩) | (go_at_call 14; refine (HA.out _ HK.out).mono ?_; rintro _ w5 ⟨rfl, k5⟩))
      go_ret
      exact ⟨rfl, k5⟩
    cases b2
    · clear hall
      go_enter Try.func10, Try.ntmps10
      go_wp2_with (first | (go_at_call 21; (first | with_reducible refine (HX.out _).mono ?_ | with_reducible refine (HY.out _).mono ?_ | with_reducible refine (HZ.out _).mono ?_); rintro _ _ ⟨rfl, rfl⟩) | (go_at_call 22; (first | with_reducible refine (H1.out _).mono ?_ | with_reducible refine (H2.out _).mono ?_ | with_reducible refine (H3.out _).mono ?_); rintro _ _ ⟨rfl, rfl⟩) | (go_at_call 23; refine (H4.out _).mono ?_; rintro _ _ ⟨rfl, rfl⟩) | (go_at_call 14; refine (HA.out _ HK.out).mono ?_; rintro _ w5 ⟨rfl, k5⟩))
      go_ret
      exact ⟨rfl, k5⟩
    cases b3
    · clear hall
      go_enter Try.func10, Try.ntmps10
      go_wp2_with (first | (go_at_call 21; (first | with_reducible refine (HX.out _).mono ?_ | with_reducible refine (HY.out _).mono ?_ | with_reducible refine (HZ.out _).mono ?_); rintro _ _ ⟨rfl, rfl⟩) | (go_at_call 22; (first | with_reducible refine (H1.out _).mono ?_ | with_reducible refine (H2.out _).mono ?_ | with_reducible refine (H3.out _).mono ?_); rintro _ _ ⟨rfl, rfl⟩) | (go_at_call 23; refine (H4.out _).mono ?_; rintro _ _ ⟨rfl, rfl⟩) | (go_at_call 14; refine (HA.out _ HK.out).mono ?_; rintro _ w5 ⟨rfl, k5⟩))
      go_ret
      exact ⟨rfl, k5⟩
    cases b4
    · clear hall
      go_enter Try.func10, Try.ntmps10
      go_wp2_with (first | (go_at_call 21; (first | with_reducible refine (HX.out _).mono ?_ | with_reducible refine (HY.out _).mono ?_ | with_reducible refine (HZ.out _).mono ?_); rintro _ _ ⟨rfl, rfl⟩) | (go_at_call 22; (first | with_reducible refine (H1.out _).mono ?_ | with_reducible refine (H2.out _).mono ?_ | with_reducible refine (H3.out _).mono ?_); rintro _ _ ⟨rfl, rfl⟩) | (go_at_call 23; refine (H4.out _).mono ?_; rintro _ _ ⟨rfl, rfl⟩) | (go_at_call 14; refine (HA.out _ HK.out).mono ?_; rintro _ w5 ⟨rfl, k5⟩))
      go_ret
      exact ⟨rfl, k5⟩
    exact absurd ⟨rfl, rfl, rfl, rfl⟩ hall
theorem walk (l : List Int) (hl : l.length = 3) (hw : ∀ x ∈ l, (Lit.int .i64 x).wf = true) (u : Int) (hu : (Lit.int .i64 u).wf = true) (w : World) :
    Calls Try.prog 10 #[.agg (l.map (.int .i64)).toArray, .int .i64 u] w fun e w' => e = .returned (.bool true) ∧ Below w.heap.size w w' := by
  match l, hl with
  | [a, b, c], _ => exact core a b c u w


theorem own : ownKnob Try.prog.godebug = none := by kernel_rfl
theorem laidOut : laidOutB Try.prog = true := by kernel_rfl
set_option maxRecDepth 100000 in
theorem lifted (os : Os) (started : os.Started) (H : Type) (enc : TypeId × Value → H) :
    ReturnsInHanded {} Try.checked os 10 .any (Rows.timesSumsSpec.pre6 enc Try.prog Try.f10 Rows.timesSumsRow.domain false) (Rows.timesSumsSpec.post enc Try.prog Try.f10 false true false false) := by
  refine returnsInHanded_of_change (C := Try.checked) own started (by kernel_rfl) Try.func10
    (ChangeSpec.witness6 (enc := enc) (C := Try.checked) false ⟨#[], #[.agg #[.int .i64 0, .int .i64 0, .int .i64 0], .int .i64 0], []⟩ 8 (by kernel_rfl) (by kernel_rfl) (by kernel_rfl) (by kernel_rfl)) ?_
  intro W base args ds gs before hval0 hW hcnd _
  have hval : ∀ (j : Nat) t v, Try.f10.params[j]? = some t → args[j]? = some v → Value.okWide Try.prog W .any base t v := hval0
  have hW' := hW
  obtain ⟨p, q, hA0, hV, rfl, hfz, hnd⟩ := hW
  have hA : DataW.TrodAll enc Try.prog W 0 (fun _ => true) true Try.f10.params.toList args.toList ds p := hA0
  rw [Try.params10] at hA hval
  obtain ⟨v0, vs0, d0, ds0, p0, q0, hargs, rfl, rfl, h0, r0⟩ := trodAll_cons hA
  obtain ⟨v1, vs1, d1, ds1, p1, q1, rfl, rfl, rfl, h1, r1⟩ := trodAll_cons r0
  obtain ⟨rfl, rfl, rfl⟩ := trodAll_nil r1
  obtain rfl : args = #[v0, v1] := by cases args; simp_all
  obtain ⟨rfl, rfl⟩ := trodVars_none hV
  have k0 := h0
  have lt0 : ∀ x ∈ p0, x.block < W.heap.size := by obtain ⟨m, hm⟩ := k0; exact DataW.trod_lt m _ _ _ hm
  obtain ⟨x0, n0, rfl, wx0⟩ := open_arr Try.underlying62 Try.underlying3 (by kernel_rfl) (by kernel_rfl) (hval 0 62 v0 rfl rfl) h0
  obtain ⟨a1, rfl, rfl, rfl, w1⟩ := open_int Try.underlying3 (hval 1 3 v1 rfl rfl) h1
  clear hA0 hval0
  refine (walk x0 n0 wx0 a1 w1 W).mono fun e W' ⟨he, bel⟩ => ?_
  subst he
  exact ⟨_, rfl, _, _, _, [], _, [], hW', trodAll_mk1 (shut_bool Try.underlying4 _), (trodAll_cons_mk (Below.trod laidOut (by kernel_rfl) (of_decide_eq_true (by kernel_rfl)) k0 bel lt0) (trodAll_cons_mk (shut_int Try.underlying3 w1) trodAll_mk0)), rfl, bel.frame _, fun h => by cases h⟩

theorem over : Rows.timesSumsRow.holds Try.pinned (OpenSpec.ofChange Rows.timesSumsSpec) :=
  OpenClaim.holds_of_wide 10 Try.f10 rfl rfl rfl rfl rfl rfl rfl ⟨rfl, rfl, rfl, rfl, rfl⟩ rfl rfl rfl rfl rfl (by kernel_rfl) Try.func10 (by kernel_rfl)
    (of_decide_eq_true (by kernel_rfl)) (by unfold Func.isWrapper; first | (rw [if_pos (by decide +kernel)]; kernel_rfl) | (rw [if_neg (by decide +kernel)]; exact ⟨rfl, rfl⟩))
    (fun os started H enc _ => lifted os started H enc)

theorem proved : Rows.TimesSumsSaid := over
#print axioms proved
end Go.Proofs.Ytofnokikjfmfgaa.timesSums
