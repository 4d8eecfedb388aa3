/-
  What Delta, Window and Wake of package times answer, and the document's Delta: of all numbers. The memory stays as it was.
-/
import Derived.Test.YtofnokikjfmfgaaTmA
namespace Go.Proofs.Ytofnokikjfmfgaa
open Go.RowKit Gf Tm
set_option maxRecDepth 100000
theorem retD {r : Int × Int} {a b : Int} (e : r = (a, b)) : Ending.returned (.tuple #[.int .i64 a, .int .i64 b]) = .returned (.tuple #[.int .i64 r.1, .int .i64 r.2]) := by rw [e]
set_option maxHeartbeats 1600000 in
theorem tmdelta_any (f t u : Int) (w : World) :
    Calls Try.prog 21 #[.int .i64 f, .int .i64 t, .int .i64 u] w fun e w' => e = .returned (.tuple #[.int .i64 (dl f t u).1, .int .i64 (dl f t u).2]) ∧ w = w' := by
  have HR := Lib.hid (fun a b (e : dl f t u = (a, b)) => retD e)
  by_cases h1 : slot f
  · have H1 := Lib.hid (tmslot_any f true (decide_eq_true h1))
    by_cases h2 : slot t
    · have H2 := Lib.hid (tmslot_any t true (decide_eq_true h2))
      by_cases h3 : unit u
      · have H3 := Lib.hid (tmunit_any u true (decide_eq_true h3))
        have hh := And.intro h1 (And.intro h2 h3)
        obtain ⟨a1, a2⟩ := h1
        obtain ⟨b1, b2⟩ := h2
        obtain ⟨c1, c2⟩ := h3
        have hu0 : ¬ u = 0 := by omega
        have wr1 := wrapI (a := t - f) (by omega) (by omega)
        have wr2 := wrapI (a := t - f + u) (by omega) (by omega)
        have wr3 := wrapI (a := t - f + u - 1) (by omega) (by omega)
        by_cases h4 : t < f
        · have HE := Lib.hid (dl_range hh (.inl h4))
          obtain ⟨n, hn⟩ : ∃ n, (t - f + u - 1).tdiv u = n := ⟨_, rfl⟩
          have hb : -9223372036854775807 ≤ n ∧ n ≤ 9223372036854775807 := by
            have := Int.natAbs_tdiv_le_natAbs (t - f + u - 1) u
            rw [hn] at this
            omega
          have wr4 : IntKind.i64.wrap n = n := by rw [IntKind.wrap_i64]; omega
          clear hh
          go_enter Try.func21, Try.ntmps21
          go_wp2_with (first | (go_at_call 44; (first | with_reducible refine (H1.out _).mono ?_ | with_reducible refine (H2.out _).mono ?_); rintro _ _ ⟨rfl, rfl⟩) | (go_at_call 45; refine (H3.out _).mono ?_; rintro _ _ ⟨rfl, rfl⟩))
          go_ret2
          exact ⟨HR.out _ _ HE.out, rfl⟩
        · have hd : 0 ≤ t - f + u - 1 := by omega
          obtain ⟨n, hn⟩ : ∃ n, (t - f + u - 1) / u = n := ⟨_, rfl⟩
          have hn' : (t - f + u - 1).tdiv u = n := by rw [Int.tdiv_eq_ediv_of_nonneg hd, hn]
          have hcl : cl (t - f) u = n := hn
          have n0 : 0 ≤ n := hcl ▸ cl_nonneg (by omega) c1
          have n1 : n ≤ 1099512676352 := by
            have h5 := Int.ediv_le_self u hd
            rw [hn] at h5; omega
          have wr4 : IntKind.i64.wrap n = n := wrapI (by omega) (by omega)
          by_cases h5 : 4095 < n
          · have HE := Lib.hid (dl_range hh (.inr (hcl ▸ h5)))
            clear hh
            go_enter Try.func21, Try.ntmps21
            go_wp2_with (first | (go_at_call 44; (first | with_reducible refine (H1.out _).mono ?_ | with_reducible refine (H2.out _).mono ?_); rintro _ _ ⟨rfl, rfl⟩) | (go_at_call 45; refine (H3.out _).mono ?_; rintro _ _ ⟨rfl, rfl⟩))
            go_ret2
            exact ⟨HR.out _ _ HE.out, rfl⟩
          · have HE := Lib.hid (show dl f t u = (n, 0) by rw [dl_ok hh (by rw [hcl]; omega), hcl])
            clear hh
            go_enter Try.func21, Try.ntmps21
            go_wp2_with (first | (go_at_call 44; (first | with_reducible refine (H1.out _).mono ?_ | with_reducible refine (H2.out _).mono ?_); rintro _ _ ⟨rfl, rfl⟩) | (go_at_call 45; refine (H3.out _).mono ?_; rintro _ _ ⟨rfl, rfl⟩))
            go_ret2
            exact ⟨HR.out _ _ HE.out, rfl⟩
      · have H3 := Lib.hid (tmunit_any u false (decide_eq_false h3))
        have HE := Lib.hid (dl_arg (f := f) (t := t) (u := u) fun x => h3 x.2.2)
        clear h1 h2 h3
        go_enter Try.func21, Try.ntmps21
        go_wp2_with (first | (go_at_call 44; (first | with_reducible refine (H1.out _).mono ?_ | with_reducible refine (H2.out _).mono ?_); rintro _ _ ⟨rfl, rfl⟩) | (go_at_call 45; refine (H3.out _).mono ?_; rintro _ _ ⟨rfl, rfl⟩))
        go_ret2
        exact ⟨HR.out _ _ HE.out, rfl⟩
    · have H2 := Lib.hid (tmslot_any t false (decide_eq_false h2))
      have HE := Lib.hid (dl_arg (f := f) (t := t) (u := u) fun x => h2 x.2.1)
      clear h1 h2
      go_enter Try.func21, Try.ntmps21
      go_wp2_with (go_at_call 44; (first | with_reducible refine (H1.out _).mono ?_ | with_reducible refine (H2.out _).mono ?_); rintro _ _ ⟨rfl, rfl⟩)
      go_ret2
      exact ⟨HR.out _ _ HE.out, rfl⟩
  · have H1 := Lib.hid (tmslot_any f false (decide_eq_false h1))
    have HE := Lib.hid (dl_arg (f := f) (t := t) (u := u) fun x => h1 x.1)
    clear h1
    go_enter Try.func21, Try.ntmps21
    go_wp2_with (go_at_call 44; refine (H1.out _).mono ?_; rintro _ _ ⟨rfl, rfl⟩)
    go_ret2
    exact ⟨HR.out _ _ HE.out, rfl⟩
/-- The document's Delta, of slots and a unit. -/
def rdl (f t u : Int) : Int := if (dl f t u).2 = 0 then (dl f t u).1 else -1
set_option maxHeartbeats 1600000 in
theorem rtmdelta_any (f t u : Int) (w : World) (hh : slot f ∧ slot t ∧ unit u) :
    Calls Try.prog 24 #[.int .i64 f, .int .i64 t, .int .i64 u] w fun e w' => e = .returned (.int .i64 (rdl f t u)) ∧ w = w' := by
  have HR := Lib.hid (fun a (e : rdl f t u = a) => show Ending.returned (.int .i64 a) = .returned (.int .i64 (rdl f t u)) by rw [e])
  obtain ⟨⟨a1, a2⟩, ⟨b1, b2⟩, c1, c2⟩ := id hh
  have hu0 : ¬ u = 0 := by omega
  have wr1 := wrapI (a := t - f) (by omega) (by omega)
  by_cases h4 : t < f
  · have HE := Lib.hid (show rdl f t u = -1 by unfold rdl; rw [dl_range hh (.inl h4)]; rfl)
    clear hh
    go_enter Try.func24, Try.ntmps24
    go_wp2
    go_ret
    exact ⟨HR.out _ HE.out, rfl⟩
  · have hd : 0 ≤ t - f := by omega
    obtain ⟨q, hq⟩ : ∃ q, (t - f) / u = q := ⟨_, rfl⟩
    have hq' : (t - f).tdiv u = q := by rw [Int.tdiv_eq_ediv_of_nonneg hd, hq]
    obtain ⟨g1, g2, g3⟩ := cl_div (d := t - f) c1
    rw [hq] at g1 g2 g3
    have q0 : 0 ≤ q := hq ▸ Int.ediv_nonneg hd (by omega)
    have q1 : q ≤ 1099511627776 := by
      have h5 := Int.ediv_le_self u hd
      rw [hq] at h5; omega
    obtain ⟨m, hm⟩ : ∃ m, q * u = m := ⟨_, rfl⟩
    rw [hm] at g1 g2 g3
    have m0 : 0 ≤ m := hm ▸ Int.mul_nonneg q0 (by omega)
    have wq : IntKind.i64.wrap q = q := wrapI (by omega) (by omega)
    have wm : IntKind.i64.wrap m = m := wrapI (by omega) (by omega)
    have wq1 : IntKind.i64.wrap (q + 1) = q + 1 := wrapI (by omega) (by omega)
    by_cases h5 : m < t - f
    · rw [if_pos h5] at g3
      by_cases h6 : 4095 < q + 1
      · have HE := Lib.hid (show rdl f t u = -1 by unfold rdl; rw [dl_range hh (.inr (by rw [g3]; exact h6))]; rfl)
        clear hh g3
        go_enter Try.func24, Try.ntmps24
        go_wp2
        go_ret
        exact ⟨HR.out _ HE.out, rfl⟩
      · have HE := Lib.hid (show rdl f t u = q + 1 by unfold rdl; rw [dl_ok hh (by rw [g3]; omega), g3]; rfl)
        clear hh g3
        go_enter Try.func24, Try.ntmps24
        go_wp2
        go_ret
        exact ⟨HR.out _ HE.out, rfl⟩
    · rw [if_neg h5] at g3
      by_cases h6 : 4095 < q
      · have HE := Lib.hid (show rdl f t u = -1 by unfold rdl; rw [dl_range hh (.inr (by rw [g3]; exact h6))]; rfl)
        clear hh g3
        go_enter Try.func24, Try.ntmps24
        go_wp2
        go_ret
        exact ⟨HR.out _ HE.out, rfl⟩
      · have HE := Lib.hid (show rdl f t u = q by unfold rdl; rw [dl_ok hh (by rw [g3]; omega), g3]; rfl)
        clear hh g3
        go_enter Try.func24, Try.ntmps24
        go_wp2
        go_ret
        exact ⟨HR.out _ HE.out, rfl⟩
theorem retW {r : Int × Int × Int} {a b c : Int} (e : r = (a, b, c)) : Ending.returned (.tuple #[.int .i64 a, .int .i64 b, .int .i64 c]) = .returned (.tuple #[.int .i64 r.1, .int .i64 r.2.1, .int .i64 r.2.2]) := by rw [e]
set_option maxHeartbeats 1600000 in
theorem tmwindow_any (a d u : Int) (w : World) :
    Calls Try.prog 25 #[.int .i64 a, .int .i64 d, .int .i64 u] w fun e w' => e = .returned (.tuple #[.int .i64 (wd a d u).1, .int .i64 (wd a d u).2.1, .int .i64 (wd a d u).2.2]) ∧ w = w' := by
  have HR := Lib.hid (fun x y z (e : wd a d u = (x, y, z)) => retW e)
  by_cases h1 : slot a
  · have H1 := Lib.hid (tmslot_any a true (decide_eq_true h1))
    by_cases h2 : 0 ≤ d ∧ d ≤ 4095
    · have H2 := Lib.hid (tmwithin_any d 0 4095 true (decide_eq_true h2))
      by_cases h3 : unit u
      · have H3 := Lib.hid (tmunit_any u true (decide_eq_true h3))
        have hh := And.intro h1 (And.intro h2 h3)
        obtain ⟨m0, m1, _⟩ := mul_bd h2 h3
        obtain ⟨a1, a2⟩ := h1
        obtain ⟨b1, b2⟩ := h2
        obtain ⟨c1, c2⟩ := h3
        by_cases h4 : d = 0
        · have HE := Lib.hid (wd_zero hh h4)
          subst h4
          clear hh m0 m1
          go_enter Try.func25, Try.ntmps25
          go_wp2_with (first | (go_at_call 44; refine (H1.out _).mono ?_; rintro _ _ ⟨rfl, rfl⟩) | (go_at_call 45; refine (H3.out _).mono ?_; rintro _ _ ⟨rfl, rfl⟩) | (go_at_call 46; refine (H2.out _).mono ?_; rintro _ _ ⟨rfl, rfl⟩))
          go_ret3
          exact ⟨HR.out _ _ _ HE.out, rfl⟩
        · have HE := Lib.hid (wd_ok hh h4)
          obtain ⟨m, hm⟩ : ∃ m, d * u = m := ⟨_, rfl⟩
          have hm1 : (d - 1) * u = m - u := by rw [Int.sub_mul, hm]; omega
          rw [hm] at HE m0 m1
          have w1 := wrapI (a := d - 1) (by omega) (by omega)
          have w2 := wrapI (a := m) (by omega) (by omega)
          have w3 := wrapI (a := m - u) (by omega) (by omega)
          have w4 := wrapI (a := a + m) (by omega) (by omega)
          have w5 := wrapI (a := a + (m - u)) (by omega) (by omega)
          have w6 := wrapI (a := a + (m - u) + 1) (by omega) (by omega)
          clear hh
          go_enter Try.func25, Try.ntmps25
          go_wp2_with (first | (go_at_call 44; refine (H1.out _).mono ?_; rintro _ _ ⟨rfl, rfl⟩) | (go_at_call 45; refine (H3.out _).mono ?_; rintro _ _ ⟨rfl, rfl⟩) | (go_at_call 46; refine (H2.out _).mono ?_; rintro _ _ ⟨rfl, rfl⟩))
          go_ret3
          exact ⟨HR.out _ _ _ HE.out, rfl⟩
      · have H3 := Lib.hid (tmunit_any u false (decide_eq_false h3))
        have HE := Lib.hid (wd_arg (a := a) (d := d) (u := u) fun x => h3 x.2.2)
        clear h1 h2 h3
        go_enter Try.func25, Try.ntmps25
        go_wp2_with (first | (go_at_call 44; refine (H1.out _).mono ?_; rintro _ _ ⟨rfl, rfl⟩) | (go_at_call 45; refine (H3.out _).mono ?_; rintro _ _ ⟨rfl, rfl⟩) | (go_at_call 46; refine (H2.out _).mono ?_; rintro _ _ ⟨rfl, rfl⟩))
        go_ret3
        exact ⟨HR.out _ _ _ HE.out, rfl⟩
    · have H2 := Lib.hid (tmwithin_any d 0 4095 false (decide_eq_false h2))
      have HE := Lib.hid (wd_arg (a := a) (d := d) (u := u) fun x => h2 x.2.1)
      clear h1 h2
      go_enter Try.func25, Try.ntmps25
      go_wp2_with (first | (go_at_call 44; refine (H1.out _).mono ?_; rintro _ _ ⟨rfl, rfl⟩) | (go_at_call 46; refine (H2.out _).mono ?_; rintro _ _ ⟨rfl, rfl⟩))
      go_ret3
      exact ⟨HR.out _ _ _ HE.out, rfl⟩
  · have H1 := Lib.hid (tmslot_any a false (decide_eq_false h1))
    have HE := Lib.hid (wd_arg (a := a) (d := d) (u := u) fun x => h1 x.1)
    clear h1
    go_enter Try.func25, Try.ntmps25
    go_wp2_with (go_at_call 44; refine (H1.out _).mono ?_; rintro _ _ ⟨rfl, rfl⟩)
    go_ret3
    exact ⟨HR.out _ _ _ HE.out, rfl⟩
theorem wd_cases (a d u : Int) : (wd a d u = (0, 0, 1)) ∨ (∃ x y, wd a d u = (x, y, 0) ∧ 0 ≤ a ∧ a ≤ 1099511627776 ∧ a ≤ x ∧ x ≤ 2000000000000) := by
  by_cases h : slot a ∧ (0 ≤ d ∧ d ≤ 4095) ∧ unit u
  · obtain ⟨⟨a1, a2⟩, hd, hu⟩ := id h
    obtain ⟨m0, m1, m2⟩ := mul_bd hd hu
    refine .inr ?_
    by_cases h0 : d = 0
    · exact ⟨_, _, wd_zero h h0, a1, by omega, Int.le_refl _, by omega⟩
    · have := m2 h0
      have := hu.1
      exact ⟨_, _, wd_ok h h0, a1, by omega, by omega, by omega⟩
  · exact .inl (wd_arg h)
set_option maxHeartbeats 1600000 in
theorem tmwake_any (a d u g : Int) (w : World) :
    Calls Try.prog 26 #[.int .i64 a, .int .i64 d, .int .i64 u, .int .i64 g] w fun e w' => e = .returned (.tuple #[.int .i64 (wk a d u g).1, .int .i64 (wk a d u g).2]) ∧ w = w' := by
  have HR := Lib.hid (fun x y (e : wk a d u g = (x, y)) => retD e)
  have HW := Lib.hid (tmwindow_any a d u)
  rcases wd_cases a d u with hw | ⟨x, y, hw, a0, a1, ax, x1⟩
  · have HE := Lib.hid (show wk a d u g = (0, 1) by unfold wk; rw [hw]; rfl)
    rw [hw] at HW
    clear hw
    go_enter Try.func26, Try.ntmps26
    go_wp2_with (go_at_call 25; refine (HW.out _).mono ?_; rintro _ _ ⟨rfl, rfl⟩)
    go_ret2
    exact ⟨HR.out _ _ HE.out, rfl⟩
  · rw [hw] at HW
    by_cases h4 : 0 ≤ g ∧ g ≤ 1048576
    · have H4 := Lib.hid (tmwithin_any g 0 1048576 true (decide_eq_true h4))
      have HE := Lib.hid (show wk a d u g = (max (x - g) a, 0) by unfold wk; rw [hw, if_pos rfl, if_pos h4])
      obtain ⟨g0, g1⟩ := h4
      have w1 := wrapI (a := x - g) (by omega) (by omega)
      clear hw
      by_cases h5 : a > x - g
      · have HM := Lib.hid (show max (x - g) a = a by omega)
        go_enter Try.func26, Try.ntmps26
        go_wp2_with (first | (go_at_call 25; refine (HW.out _).mono ?_; rintro _ _ ⟨rfl, rfl⟩) | (go_at_call 46; refine (H4.out _).mono ?_; rintro _ _ ⟨rfl, rfl⟩))
        go_ret2
        exact ⟨HR.out _ _ (HE.out.trans (by rw [HM.out])), rfl⟩
      · have HM := Lib.hid (show max (x - g) a = x - g by omega)
        go_enter Try.func26, Try.ntmps26
        go_wp2_with (first | (go_at_call 25; refine (HW.out _).mono ?_; rintro _ _ ⟨rfl, rfl⟩) | (go_at_call 46; refine (H4.out _).mono ?_; rintro _ _ ⟨rfl, rfl⟩))
        go_ret2
        exact ⟨HR.out _ _ (HE.out.trans (by rw [HM.out])), rfl⟩
    · have H4 := Lib.hid (tmwithin_any g 0 1048576 false (decide_eq_false h4))
      have HE := Lib.hid (show wk a d u g = (0, 1) by unfold wk; rw [hw, if_pos rfl, if_neg h4])
      clear hw h4
      go_enter Try.func26, Try.ntmps26
      go_wp2_with (first | (go_at_call 25; refine (HW.out _).mono ?_; rintro _ _ ⟨rfl, rfl⟩) | (go_at_call 46; refine (H4.out _).mono ?_; rintro _ _ ⟨rfl, rfl⟩))
      go_ret2
      exact ⟨HR.out _ _ HE.out, rfl⟩
end Go.Proofs.Ytofnokikjfmfgaa
