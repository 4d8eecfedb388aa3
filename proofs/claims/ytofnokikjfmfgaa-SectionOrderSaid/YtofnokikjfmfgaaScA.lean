/-
  What the small functions of package section and of its statements answer: beyond, bit, Check, the document's Check, Plain, same, few. The memory that was there stays.
-/
import Derived.Test.YtofnokikjfmfgaaScV
namespace Go.Proofs.Ytofnokikjfmfgaa
open Go.RowKit Gf Sct
set_option maxRecDepth 100000
theorem scbeyond_any (n last : Int) (b : Bool) (h : (decide (n < 0) || decide (last < n)) = b) (w : World) :
    Calls Try.prog 54 #[.int .i64 n, .int .i64 last] w fun e w' => e = .returned (.bool b) ∧ w = w' := by
  by_cases h1 : n < 0
  · have : b = true := by rw [← h, decide_eq_true h1]; rfl
    subst this
    clear h
    go_enter Try.func54, Try.ntmps54
    go_wp2
    go_ret
    exact ⟨rfl, rfl⟩
  · by_cases h2 : last < n
    · have : b = true := by rw [← h, decide_eq_true h2, Bool.or_true]
      subst this
      clear h
      go_enter Try.func54, Try.ntmps54
      go_wp2
      go_ret
      exact ⟨rfl, rfl⟩
    · have : b = false := by rw [← h, decide_eq_false h1, decide_eq_false h2]; rfl
      subst this
      clear h
      go_enter Try.func54, Try.ntmps54
      go_wp2
      go_ret
      exact ⟨rfl, rfl⟩
theorem scbit_any (b : Bool) (w : World) : Calls Try.prog 49 #[.bool b] w fun e w' => e = .returned (.int .i64 (bn b : Int)) ∧ w = w' := by
  cases b
  all_goals
    go_enter Try.func49, Try.ntmps49
    go_wp2
    go_ret
    exact ⟨rfl, rfl⟩
def ChkPost (w0 : World) (s : Sec) (e : Ending) (w' : World) : Prop := e = .returned (.int .i64 (chk s)) ∧ Keeps w0 w'
theorem ChkPost.of {w0 W : World} {s : Sec} {n : Int} (e : chk s = n) (k : Keeps w0 W) : ChkPost w0 s (.returned (.int .i64 n)) W := ⟨by rw [e], k⟩
set_option maxHeartbeats 1600000 in
theorem sccheck_any (w0 : World) (s : Sec) (w : World) (hk : Keeps w0 w) :
    Calls Try.prog 32 #[secV s] w (ChkPost w0 s) := by
  have hf : fit s ↔ (0 ≤ s.tb ∧ s.tb ≤ 255) ∧ (0 ≤ s.ex ∧ s.ex ≤ 65535) ∧ (0 ≤ s.ver ∧ s.ver ≤ 31) ∧ (0 ≤ s.la ∧ s.la ≤ 255) ∧ (0 ≤ s.num ∧ s.num ≤ s.la) := by
    unfold fit; constructor
    · rintro ⟨a, b, c, d, e, f, g, h, i, j⟩; exact ⟨⟨a, b⟩, ⟨c, d⟩, ⟨e, f⟩, ⟨g, h⟩, i, j⟩
    · rintro ⟨⟨a, b⟩, ⟨c, d⟩, ⟨e, f⟩, ⟨g, h⟩, i, j⟩; exact ⟨a, b, c, d, e, f, g, h, i, j⟩
  have HC := Lib.hid (fun n W => ChkPost.of (w0 := w0) (s := s) (n := n) (W := W))
  obtain ⟨b0, h0⟩ : ∃ b, (decide (s.tb < 0) || decide (255 < s.tb)) = b := ⟨_, rfl⟩
  obtain ⟨b1, h1⟩ : ∃ b, (decide (s.ex < 0) || decide (65535 < s.ex)) = b := ⟨_, rfl⟩
  obtain ⟨b2, h2⟩ : ∃ b, (decide (s.ver < 0) || decide (31 < s.ver)) = b := ⟨_, rfl⟩
  obtain ⟨b3, h3⟩ : ∃ b, (decide (s.la < 0) || decide (255 < s.la)) = b := ⟨_, rfl⟩
  obtain ⟨b4, h4⟩ : ∃ b, (decide (s.num < 0) || decide (s.la < s.num)) = b := ⟨_, rfl⟩
  have H0 := Lib.hid (scbeyond_any _ _ b0 h0)
  have H1 := Lib.hid (scbeyond_any _ _ b1 h1)
  have H2 := Lib.hid (scbeyond_any _ _ b2 h2)
  have H3 := Lib.hid (scbeyond_any _ _ b3 h3)
  have H4 := Lib.hid (scbeyond_any _ _ b4 h4)
  by_cases hall : b0 = false ∧ b1 = false ∧ b2 = false ∧ b3 = false ∧ b4 = false
  · obtain ⟨rfl, rfl, rfl, rfl, rfl⟩ := hall
    have hfit : fit s := hf.2 ⟨by simp at h0; omega, by simp at h1; omega, by simp at h2; omega, by simp at h3; omega, by simp at h4; omega⟩
    by_cases hz : 4084 < s.body.size
    · have HK := Lib.hid (chk_big hfit hz)
      obtain ⟨tb, pv, ex, ver, nw, num, la, S⟩ := s
      simp only at hz H0 H1 H2 H3 H4
      clear hf h0 h1 h2 h3 h4 hfit
      go_enter Try.func32, Try.ntmps32
      go_wp2_with (go_at_call 54; (first | with_reducible refine (H0.out _).mono ?_ | with_reducible refine (H1.out _).mono ?_ | with_reducible refine (H2.out _).mono ?_ | with_reducible refine (H3.out _).mono ?_ | with_reducible refine (H4.out _).mono ?_); rintro _ _ ⟨rfl, rfl⟩)
      go_ret
      exact HC.out _ _ HK.out (hk.alloc _)
    · have HK := Lib.hid (chk_ok hfit hz)
      obtain ⟨tb, pv, ex, ver, nw, num, la, S⟩ := s
      simp only at hz H0 H1 H2 H3 H4
      clear hf h0 h1 h2 h3 h4 hfit
      go_enter Try.func32, Try.ntmps32
      go_wp2_with (go_at_call 54; (first | with_reducible refine (H0.out _).mono ?_ | with_reducible refine (H1.out _).mono ?_ | with_reducible refine (H2.out _).mono ?_ | with_reducible refine (H3.out _).mono ?_ | with_reducible refine (H4.out _).mono ?_); rintro _ _ ⟨rfl, rfl⟩)
      go_ret
      exact HC.out _ _ HK.out (hk.alloc _)
  · have HK := Lib.hid (show chk s = 15 from chk_no fun x => hall (by
      obtain ⟨g0, g1, g2, g3, g4⟩ := hf.1 x
      refine ⟨?_, ?_, ?_, ?_, ?_⟩
      · rw [← h0]; simp; omega
      · rw [← h1]; simp; omega
      · rw [← h2]; simp; omega
      · rw [← h3]; simp; omega
      · rw [← h4]; simp; omega))
    obtain ⟨tb, pv, ex, ver, nw, num, la, S⟩ := s
    simp only at H0 H1 H2 H3 H4
    clear hf h0 h1 h2 h3 h4
    cases b0
    · cases b1
      · cases b2
        · cases b3
          · cases b4
            · exact absurd ⟨rfl, rfl, rfl, rfl, rfl⟩ hall
            · clear hall
              go_enter Try.func32, Try.ntmps32
              go_wp2_with (go_at_call 54; (first | with_reducible refine (H0.out _).mono ?_ | with_reducible refine (H1.out _).mono ?_ | with_reducible refine (H2.out _).mono ?_ | with_reducible refine (H3.out _).mono ?_ | with_reducible refine (H4.out _).mono ?_); rintro _ _ ⟨rfl, rfl⟩)
              go_ret
              exact HC.out _ _ HK.out (hk.alloc _)
          · clear hall H4
            go_enter Try.func32, Try.ntmps32
            go_wp2_with (go_at_call 54; (first | with_reducible refine (H0.out _).mono ?_ | with_reducible refine (H1.out _).mono ?_ | with_reducible refine (H2.out _).mono ?_ | with_reducible refine (H3.out _).mono ?_); rintro _ _ ⟨rfl, rfl⟩)
            go_ret
            exact HC.out _ _ HK.out (hk.alloc _)
        · clear hall H4 H3
          go_enter Try.func32, Try.ntmps32
          go_wp2_with (go_at_call 54; (first | with_reducible refine (H0.out _).mono ?_ | with_reducible refine (H1.out _).mono ?_ | with_reducible refine (H2.out _).mono ?_); rintro _ _ ⟨rfl, rfl⟩)
          go_ret
          exact HC.out _ _ HK.out (hk.alloc _)
      · clear hall H4 H3 H2
        go_enter Try.func32, Try.ntmps32
        go_wp2_with (go_at_call 54; (first | with_reducible refine (H0.out _).mono ?_ | with_reducible refine (H1.out _).mono ?_); rintro _ _ ⟨rfl, rfl⟩)
        go_ret
        exact HC.out _ _ HK.out (hk.alloc _)
    · clear hall H4 H3 H2 H1
      go_enter Try.func32, Try.ntmps32
      go_wp2_with (go_at_call 54; (with_reducible refine (H0.out _).mono ?_); rintro _ _ ⟨rfl, rfl⟩)
      go_ret
      exact HC.out _ _ HK.out (hk.alloc _)
end Go.Proofs.Ytofnokikjfmfgaa
