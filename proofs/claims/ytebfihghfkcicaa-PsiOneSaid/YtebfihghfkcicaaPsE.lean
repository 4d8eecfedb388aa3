/-
  What is wrong with a Pat and with a Pmt (package psi's checks), and which bytes they are (encode, by an interface). The memory that was there stays.
-/
import Derived.Test.YtebfihghfkcicaaPsC
namespace Go.Proofs.Ytebfihghfkcicaa
open Go.RowKit Gf Ps Sct
set_option maxRecDepth 100000
namespace Ps
/-- What is wrong with a Pat. -/
def patK (x : Pat) : Int := if ¬ ((0 ≤ x.str ∧ x.str ≤ 65535) ∧ (0 ≤ x.ver ∧ x.ver ≤ 31) ∧ ∀ p ∈ x.l, okPr p) then 15 else if ¬ (x.l.map (·.1)).Nodup then 12 else if 1012 < 4 * x.l.length then 17 else 0
theorem patK_ok (x : Pat) : patK x = 0 ↔ PatOk x := by
  unfold patK PatOk
  by_cases h1 : (0 ≤ x.str ∧ x.str ≤ 65535) ∧ (0 ≤ x.ver ∧ x.ver ≤ 31) ∧ ∀ p ∈ x.l, okPr p
  · rw [if_neg (fun h => h h1)]
    by_cases h2 : (x.l.map (·.1)).Nodup
    · rw [if_neg (fun h => h h2)]
      by_cases h3 : 1012 < 4 * x.l.length
      · rw [if_pos h3]
        exact ⟨fun h => (by cases h), fun h => by have := h.2.2.2.2; omega⟩
      · rw [if_neg h3]
        exact ⟨fun _ => ⟨h1.1, h1.2.1, h1.2.2, h2, by omega⟩, fun _ => rfl⟩
    · rw [if_pos h2]
      exact ⟨fun h => (by cases h), fun h => absurd h.2.2.2.1 h2⟩
  · rw [if_pos h1]
    exact ⟨fun h => (by cases h), fun h => absurd ⟨h.1, h.2.1, h.2.2.1⟩ h1⟩
theorem patK_range {x : Pat} (h : ¬ ((0 ≤ x.str ∧ x.str ≤ 65535) ∧ (0 ≤ x.ver ∧ x.ver ≤ 31) ∧ ∀ p ∈ x.l, okPr p)) : patK x = 15 := by unfold patK; rw [if_pos h]
theorem patK_rest {x : Pat} (h : (0 ≤ x.str ∧ x.str ≤ 65535) ∧ (0 ≤ x.ver ∧ x.ver ≤ 31) ∧ ∀ p ∈ x.l, okPr p) : patK x = if ¬ (x.l.map (·.1)).Nodup then 12 else if 1012 < 4 * x.l.length then 17 else 0 := by unfold patK; rw [if_neg (fun k => k h)]
/-- What is wrong with a Pmt. -/
def pmtK (x : Pmt) : Int := if ¬ ((0 ≤ x.prog ∧ x.prog ≤ 65535) ∧ (0 ≤ x.ver ∧ x.ver ≤ 31) ∧ (0 ≤ x.clock ∧ x.clock ≤ 8191) ∧ ∀ p ∈ x.l, okS3 p) then 15 else if ¬ (x.l.map (·.pid)).Nodup then 12 else if 1012 < (((pmtB x).length : Nat) : Int) then 17 else 0
theorem pmtK_ok (x : Pmt) : pmtK x = 0 ↔ PmtOk x := by
  unfold pmtK PmtOk
  by_cases h1 : (0 ≤ x.prog ∧ x.prog ≤ 65535) ∧ (0 ≤ x.ver ∧ x.ver ≤ 31) ∧ (0 ≤ x.clock ∧ x.clock ≤ 8191) ∧ ∀ p ∈ x.l, okS3 p
  · rw [if_neg (fun h => h h1)]
    by_cases h2 : (x.l.map (·.pid)).Nodup
    · rw [if_neg (fun h => h h2)]
      by_cases h3 : (1012 : Int) < (((pmtB x).length : Nat) : Int)
      · rw [if_pos h3]
        exact ⟨fun h => (by cases h), fun h => by have := h.2.2.2.2.2; omega⟩
      · rw [if_neg h3]
        exact ⟨fun _ => ⟨h1.1, h1.2.1, h1.2.2.1, h1.2.2.2, h2, by omega⟩, fun _ => rfl⟩
    · rw [if_pos h2]
      exact ⟨fun h => (by cases h), fun h => absurd h.2.2.2.2.1 h2⟩
  · rw [if_pos h1]
    exact ⟨fun h => (by cases h), fun h => absurd ⟨h.1, h.2.1, h.2.2.1, h.2.2.2.1⟩ h1⟩
theorem pmtK_range {x : Pmt} (h : ¬ ((0 ≤ x.prog ∧ x.prog ≤ 65535) ∧ (0 ≤ x.ver ∧ x.ver ≤ 31) ∧ (0 ≤ x.clock ∧ x.clock ≤ 8191) ∧ ∀ p ∈ x.l, okS3 p)) : pmtK x = 15 := by unfold pmtK; rw [if_pos h]
theorem pmtK_rest {x : Pmt} (h : (0 ≤ x.prog ∧ x.prog ≤ 65535) ∧ (0 ≤ x.ver ∧ x.ver ≤ 31) ∧ (0 ≤ x.clock ∧ x.clock ≤ 8191) ∧ ∀ p ∈ x.l, okS3 p) : pmtK x = if ¬ (x.l.map (·.pid)).Nodup then 12 else if 1012 < (((pmtB x).length : Nat) : Int) then 17 else 0 := by unfold pmtK; rw [if_neg (fun k => k h)]
theorem bey_false {n last : Int} (h : (decide (n < 0) || decide (last < n)) = false) : 0 ≤ n ∧ n ≤ last := by
  simp only [Bool.or_eq_false_iff, decide_eq_false_iff_not] at h; omega
theorem bey_true {n last : Int} (h : (decide (n < 0) || decide (last < n)) = true) : ¬ (0 ≤ n ∧ n ≤ last) := by
  simp only [Bool.or_eq_true, decide_eq_true_eq] at h; omega
end Ps
def ChkP (w : World) (r : Int) (e : Ending) (w' : World) : Prop := e = .returned (.int .i64 r) ∧ Keeps w w'
theorem ChkP.of {w W : World} {r s : Int} (e : r = s) (k : Keeps w W) : ChkP w r (.returned (.int .i64 s)) W := ⟨by rw [e], k⟩
set_option maxHeartbeats 3200000 in
theorem patchk_any {x : Pat} {a : Option Addr} {cap : Nat} (w : World) (h : IsE rowPr w a x.l.length x.l) (hl : x.l.length ≤ 1000) :
    Calls Try.prog 75 #[patV x a cap] w (ChkP w (patK x)) := by
  have KR := patK_range (x := x)
  have KE := patK_rest (x := x)
  obtain ⟨str, ver, l⟩ := x
  simp only at h hl KR KE
  show Calls Try.prog 75 #[.agg #[.int .i64 str, .int .i64 ver, .slice a l.length cap]] w (ChkP w (patK ⟨str, ver, l⟩))
  obtain ⟨K, hK⟩ : ∃ K, patK ⟨str, ver, l⟩ = K := ⟨_, rfl⟩
  rw [hK] at KR KE ⊢
  obtain ⟨b0, h0⟩ : ∃ x, (decide (str < 0) || decide (65535 < str)) = x := ⟨_, rfl⟩
  obtain ⟨b1, h1⟩ : ∃ x, (decide (ver < 0) || decide (31 < ver)) = x := ⟨_, rfl⟩
  have H0 := Lib.hid (psbeyond_any _ _ b0 h0)
  have H1 := Lib.hid (psbeyond_any _ _ b1 h1)
  obtain ⟨n, hn⟩ : ∃ n, l.length = n := ⟨_, rfl⟩
  rw [hn] at h hl KE ⊢
  obtain ⟨wA, hA⟩ : ∃ wX, w.alloc (.cells #[.int .i64 str, .int .i64 ver, .slice a n cap] 24) = wX := ⟨_, rfl⟩
  obtain ⟨b, hb⟩ : ∃ b, w.heap.size = b := ⟨_, rfl⟩
  have HA := Lib.hid (CsAns.start (Keeps.refl w) (a := #[.int .i64 str, .int .i64 ver, .slice a n cap]) (by simp) hb hA)
  have HC := Lib.hid (fun W (k : Keeps wA W) => copr_any (cap := cap) W ((h.keeps HA.out.k).keeps k) (by omega))
  have HTW := Lib.hid (fun W (k : Keeps wA W) (hk : ∀ p ∈ l, (Lit.int .i64 p.1).wf = true) => twPr_any (cap := cap) W ((h.keeps HA.out.k).keeps k) hl hk)
  have q0 := HA.out.z.cell 0 rfl
  have q1 := HA.out.z.cell 1 rfl
  have q2 := HA.out.z.cell 2 rfl
  have HP := Lib.hid (fun s W (e : K = s) (k : Keeps wA W) => ChkP.of e (HA.out.k.trans k))
  have HK0 := Lib.hid (Keeps.refl wA)
  have wr1 := wrapI (a := (n : Int) * 4) (by omega) (by omega)
  clear hK h
  cases b0 with
  | true =>
    have HE := Lib.hid (KR fun x => bey_true h0 x.1)
    clear KR KE h0 h1 hn hl
    go_enter Try.func75, Try.ntmps75
    go_wp2_with (first | (go_at_call 80; (first | with_reducible refine (H0.out _).mono ?_ | with_reducible refine (H1.out _).mono ?_); rintro _ _ ⟨rfl, rfl⟩))
    go_ret
    exact HP.out _ _ HE.out HK0.out
  | false =>
    cases b1 with
    | true =>
      have HE := Lib.hid (KR fun x => bey_true h1 x.2.1)
      clear KR KE h0 h1 hn hl
      go_enter Try.func75, Try.ntmps75
      go_wp2_with (first | (go_at_call 80; (first | with_reducible refine (H0.out _).mono ?_ | with_reducible refine (H1.out _).mono ?_); rintro _ _ ⟨rfl, rfl⟩))
      go_ret
      exact HP.out _ _ HE.out HK0.out
    | false =>
      by_cases hall : ∀ p ∈ l, okPr p
      · have HR := Lib.hid (KE ⟨bey_false h0, bey_false h1, hall⟩)
        have hcb : (!decide (∀ p ∈ l, okPr p)) = false := by rw [decide_eq_true hall]; rfl
        simp only [hcb] at HC
        replace HTW := Lib.hid (fun W (k : Keeps wA W) => HTW.out W k (fun p hp => by obtain ⟨⟨x1, x2⟩, _⟩ := hall p hp; exact WalkArith.wf_i64 (by omega)))
        by_cases hnd : (l.map (·.1)).Nodup
        · have htb : (!decide (l.map (·.1)).Nodup) = false := by rw [decide_eq_true hnd]; rfl
          simp only [htb] at HTW
          by_cases h5 : 1012 < 4 * n
          · have HE := Lib.hid (show K = 17 by rw [HR.out, if_neg (fun k => k hnd), if_pos h5])
            have h5i : (1012 : Int) < (n : Int) * 4 := by omega
            clear KR KE h0 h1 hn hl hall hcb hnd htb h5 HR
            go_enter Try.func75, Try.ntmps75
            go_wp2_with (first | (go_at_call 80; (first | with_reducible refine (H0.out _).mono ?_ | with_reducible refine (H1.out _).mono ?_); rintro _ _ ⟨rfl, rfl⟩) | (go_at_call 81; refine (HC.out _ (Keeps.refl _)).mono ?_; rintro _ w2 ⟨rfl, k2⟩; have HK2 := Lib.hid k2; have r2 := (HA.out.z.keeps HK2.out).cell 2 rfl; clear k2) | (go_at_call 83; refine (HTW.out _ HK2.out).mono ?_; rintro _ w3 ⟨rfl, k3⟩; have HK3 := Lib.hid (Keeps.trans HK2.out k3); have r3 := (HA.out.z.keeps HK3.out).cell 2 rfl; clear k3))
            go_ret
            exact HP.out _ _ HE.out HK3.out
          · have HE := Lib.hid (show K = 0 by rw [HR.out, if_neg (fun k => k hnd), if_neg h5])
            have h5i : ¬ (1012 : Int) < (n : Int) * 4 := by omega
            clear KR KE h0 h1 hn hl hall hcb hnd htb h5 HR
            go_enter Try.func75, Try.ntmps75
            go_wp2_with (first | (go_at_call 80; (first | with_reducible refine (H0.out _).mono ?_ | with_reducible refine (H1.out _).mono ?_); rintro _ _ ⟨rfl, rfl⟩) | (go_at_call 81; refine (HC.out _ (Keeps.refl _)).mono ?_; rintro _ w2 ⟨rfl, k2⟩; have HK2 := Lib.hid k2; have r2 := (HA.out.z.keeps HK2.out).cell 2 rfl; clear k2) | (go_at_call 83; refine (HTW.out _ HK2.out).mono ?_; rintro _ w3 ⟨rfl, k3⟩; have HK3 := Lib.hid (Keeps.trans HK2.out k3); have r3 := (HA.out.z.keeps HK3.out).cell 2 rfl; clear k3))
            go_ret
            exact HP.out _ _ HE.out HK3.out
        · have htb : (!decide (l.map (·.1)).Nodup) = true := by rw [decide_eq_false hnd]; rfl
          simp only [htb] at HTW
          have HE := Lib.hid (show K = 12 by rw [HR.out, if_pos hnd])
          clear KR KE h0 h1 hn hl hall hcb hnd htb HR
          go_enter Try.func75, Try.ntmps75
          go_wp2_with (first | (go_at_call 80; (first | with_reducible refine (H0.out _).mono ?_ | with_reducible refine (H1.out _).mono ?_); rintro _ _ ⟨rfl, rfl⟩) | (go_at_call 81; refine (HC.out _ (Keeps.refl _)).mono ?_; rintro _ w2 ⟨rfl, k2⟩; have HK2 := Lib.hid k2; have r2 := (HA.out.z.keeps HK2.out).cell 2 rfl; clear k2) | (go_at_call 83; refine (HTW.out _ HK2.out).mono ?_; rintro _ w3 ⟨rfl, k3⟩; have HK3 := Lib.hid (Keeps.trans HK2.out k3); have r3 := (HA.out.z.keeps HK3.out).cell 2 rfl; clear k3))
          go_ret
          exact HP.out _ _ HE.out HK3.out
      · have HE := Lib.hid (KR fun x => hall x.2.2)
        have hcb : (!decide (∀ p ∈ l, okPr p)) = true := by rw [decide_eq_false hall]; rfl
        simp only [hcb] at HC
        clear KR KE h0 h1 hn hl hall hcb
        go_enter Try.func75, Try.ntmps75
        go_wp2_with (first | (go_at_call 80; (first | with_reducible refine (H0.out _).mono ?_ | with_reducible refine (H1.out _).mono ?_); rintro _ _ ⟨rfl, rfl⟩) | (go_at_call 81; refine (HC.out _ (Keeps.refl _)).mono ?_; rintro _ w2 ⟨rfl, k2⟩; have HK2 := Lib.hid k2; have r2 := (HA.out.z.keeps HK2.out).cell 2 rfl; clear k2))
        go_ret
        exact HP.out _ _ HE.out HK2.out
set_option maxHeartbeats 3200000 in
theorem pmtchk_any {x : Pmt} {a : Option Addr} {cap : Nat} (w : World) (h : IsE rowSt w a x.l.length x.l) (hl : x.l.length ≤ 1000) (hs : ∀ s ∈ x.l, s.info.size ≤ 5000) (hi : x.info.size ≤ 5000) :
    Calls Try.prog 89 #[pmtV x a cap] w (ChkP w (pmtK x)) := by
  have KR := pmtK_range (x := x)
  have KE := pmtK_rest (x := x)
  have LO := fun (W : World) (h : IsE rowSt W a x.l.length x.l) => pmtlong_any (cap := cap) W h hl hs hi
  obtain ⟨pr, ve, cl, inf, l⟩ := x
  simp only at h hl KR KE LO
  show Calls Try.prog 89 #[.agg #[.int .i64 pr, .int .i64 ve, .int .i64 cl, .string inf, .slice a l.length cap]] w (ChkP w (pmtK ⟨pr, ve, cl, inf, l⟩))
  obtain ⟨K, hK⟩ : ∃ K, pmtK ⟨pr, ve, cl, inf, l⟩ = K := ⟨_, rfl⟩
  obtain ⟨Z, hZ⟩ : ∃ Z : Int, (((pmtB ⟨pr, ve, cl, inf, l⟩).length : Nat) : Int) = Z := ⟨_, rfl⟩
  rw [hZ] at KE
  replace LO := show ∀ W : World, IsE rowSt W a l.length l → Calls Try.prog 90 #[.agg #[.int .i64 pr, .int .i64 ve, .int .i64 cl, .string inf, .slice a l.length cap]] W fun e w' => e = .returned (.int .i64 (((pmtB ⟨pr, ve, cl, inf, l⟩).length : Nat) : Int)) ∧ Keeps W w' from LO
  rw [hZ] at LO
  rw [hK] at KR KE ⊢
  obtain ⟨b0, h0⟩ : ∃ x, (decide (pr < 0) || decide (65535 < pr)) = x := ⟨_, rfl⟩
  obtain ⟨b1, h1⟩ : ∃ x, (decide (ve < 0) || decide (31 < ve)) = x := ⟨_, rfl⟩
  obtain ⟨b2, h2⟩ : ∃ x, (decide (cl < 0) || decide (8191 < cl)) = x := ⟨_, rfl⟩
  have H0 := Lib.hid (psbeyond_any _ _ b0 h0)
  have H1 := Lib.hid (psbeyond_any _ _ b1 h1)
  have H2 := Lib.hid (psbeyond_any _ _ b2 h2)
  obtain ⟨n, hn⟩ : ∃ n, l.length = n := ⟨_, rfl⟩
  rw [hn] at h hl ⊢
  rw [hn] at LO
  obtain ⟨wA, hA⟩ : ∃ wX, w.alloc (.cells #[.int .i64 pr, .int .i64 ve, .int .i64 cl, .string inf, .slice a n cap] 27) = wX := ⟨_, rfl⟩
  obtain ⟨b, hb⟩ : ∃ b, w.heap.size = b := ⟨_, rfl⟩
  have HA := Lib.hid (CsAns.start (Keeps.refl w) (a := #[.int .i64 pr, .int .i64 ve, .int .i64 cl, .string inf, .slice a n cap]) (by simp) hb hA)
  have HC := Lib.hid (fun W (k : Keeps wA W) => cost_any (cap := cap) W ((h.keeps HA.out.k).keeps k) (by omega))
  have HTW := Lib.hid (fun W (k : Keeps wA W) (hk : ∀ p ∈ l, (Lit.int .i64 p.pid).wf = true) => twSt_any (cap := cap) W ((h.keeps HA.out.k).keeps k) hl hk)
  have HLO := Lib.hid (fun W (k : Keeps wA W) => LO W ((h.keeps HA.out.k).keeps k))
  have q0 := HA.out.z.cell 0 rfl
  have q1 := HA.out.z.cell 1 rfl
  have q2 := HA.out.z.cell 2 rfl
  have q4 := HA.out.z.cell 4 rfl
  have HP := Lib.hid (fun s W (e : K = s) (k : Keeps wA W) => ChkP.of e (HA.out.k.trans k))
  have HK0 := Lib.hid (Keeps.refl wA)
  clear hK hZ h LO hs
  cases b0 with
  | true =>
    have HE := Lib.hid (KR fun x => bey_true h0 x.1)
    clear KR KE h0 h1 h2 hn hl
    go_enter Try.func89, Try.ntmps89
    go_wp2_with (first | (go_at_call 80; (first | with_reducible refine (H0.out _).mono ?_ | with_reducible refine (H1.out _).mono ?_ | with_reducible refine (H2.out _).mono ?_); rintro _ _ ⟨rfl, rfl⟩))
    go_ret
    exact HP.out _ _ HE.out HK0.out
  | false =>
    cases b1 with
    | true =>
      have HE := Lib.hid (KR fun x => bey_true h1 x.2.1)
      clear KR KE h0 h1 h2 hn hl
      go_enter Try.func89, Try.ntmps89
      go_wp2_with (first | (go_at_call 80; (first | with_reducible refine (H0.out _).mono ?_ | with_reducible refine (H1.out _).mono ?_ | with_reducible refine (H2.out _).mono ?_); rintro _ _ ⟨rfl, rfl⟩))
      go_ret
      exact HP.out _ _ HE.out HK0.out
    | false =>
      cases b2 with
      | true =>
        have HE := Lib.hid (KR fun x => bey_true h2 x.2.2.1)
        clear KR KE h0 h1 h2 hn hl
        go_enter Try.func89, Try.ntmps89
        go_wp2_with (first | (go_at_call 80; (first | with_reducible refine (H0.out _).mono ?_ | with_reducible refine (H1.out _).mono ?_ | with_reducible refine (H2.out _).mono ?_); rintro _ _ ⟨rfl, rfl⟩))
        go_ret
        exact HP.out _ _ HE.out HK0.out
      | false =>
        by_cases hall : ∀ p ∈ l, okS3 p
        · have HR := Lib.hid (KE ⟨bey_false h0, bey_false h1, bey_false h2, hall⟩)
          have hcb : (!decide (∀ p ∈ l, okS3 p)) = false := by rw [decide_eq_true hall]; rfl
          simp only [hcb] at HC
          replace HTW := Lib.hid (fun W (k : Keeps wA W) => HTW.out W k (fun p hp => by obtain ⟨_, x1, x2⟩ := hall p hp; exact WalkArith.wf_i64 (by omega)))
          by_cases hnd : (l.map (·.pid)).Nodup
          · have htb : (!decide (l.map (·.pid)).Nodup) = false := by rw [decide_eq_true hnd]; rfl
            simp only [htb] at HTW
            by_cases h5 : (1012 : Int) < Z
            · have HE := Lib.hid (show K = 17 by rw [HR.out, if_neg (fun k => k hnd), if_pos h5])
              clear KR KE h0 h1 h2 hn hl hall hcb hnd htb HR
              go_enter Try.func89, Try.ntmps89
              go_wp2_with (first | (go_at_call 80; (first | with_reducible refine (H0.out _).mono ?_ | with_reducible refine (H1.out _).mono ?_ | with_reducible refine (H2.out _).mono ?_); rintro _ _ ⟨rfl, rfl⟩) | (go_at_call 92; refine (HC.out _ (Keeps.refl _)).mono ?_; rintro _ w2 ⟨rfl, k2⟩; have HK2 := Lib.hid k2; have r2 := (HA.out.z.keeps HK2.out).cell 4 rfl; clear k2) | (go_at_call 94; refine (HTW.out _ HK2.out).mono ?_; rintro _ w3 ⟨rfl, k3⟩; have HK3 := Lib.hid (Keeps.trans HK2.out k3); have R3 := Lib.hid (HA.out.z.keeps HK3.out); clear k3) | (go_at_call 90; refine (HLO.out _ HK3.out).mono ?_; rintro _ w4 ⟨rfl, k4⟩; have HK4 := Lib.hid (Keeps.trans HK3.out k4); clear k4) | (refine wpList_load_mid rfl 27 _ rfl b 0 rfl [.int .i64 pr, .int .i64 ve, .int .i64 cl, .string inf, .slice a n cap] _ R3.out.r Try.underlying27 rfl (by kernel_rfl) ?_))
              go_ret
              exact HP.out _ _ HE.out HK4.out
            · have HE := Lib.hid (show K = 0 by rw [HR.out, if_neg (fun k => k hnd), if_neg h5])
              clear KR KE h0 h1 h2 hn hl hall hcb hnd htb HR
              go_enter Try.func89, Try.ntmps89
              go_wp2_with (first | (go_at_call 80; (first | with_reducible refine (H0.out _).mono ?_ | with_reducible refine (H1.out _).mono ?_ | with_reducible refine (H2.out _).mono ?_); rintro _ _ ⟨rfl, rfl⟩) | (go_at_call 92; refine (HC.out _ (Keeps.refl _)).mono ?_; rintro _ w2 ⟨rfl, k2⟩; have HK2 := Lib.hid k2; have r2 := (HA.out.z.keeps HK2.out).cell 4 rfl; clear k2) | (go_at_call 94; refine (HTW.out _ HK2.out).mono ?_; rintro _ w3 ⟨rfl, k3⟩; have HK3 := Lib.hid (Keeps.trans HK2.out k3); have R3 := Lib.hid (HA.out.z.keeps HK3.out); clear k3) | (go_at_call 90; refine (HLO.out _ HK3.out).mono ?_; rintro _ w4 ⟨rfl, k4⟩; have HK4 := Lib.hid (Keeps.trans HK3.out k4); clear k4) | (refine wpList_load_mid rfl 27 _ rfl b 0 rfl [.int .i64 pr, .int .i64 ve, .int .i64 cl, .string inf, .slice a n cap] _ R3.out.r Try.underlying27 rfl (by kernel_rfl) ?_))
              go_ret
              exact HP.out _ _ HE.out HK4.out
          · have htb : (!decide (l.map (·.pid)).Nodup) = true := by rw [decide_eq_false hnd]; rfl
            simp only [htb] at HTW
            have HE := Lib.hid (show K = 12 by rw [HR.out, if_pos hnd])
            clear KR KE h0 h1 h2 hn hl hall hcb hnd htb HR
            go_enter Try.func89, Try.ntmps89
            go_wp2_with (first | (go_at_call 80; (first | with_reducible refine (H0.out _).mono ?_ | with_reducible refine (H1.out _).mono ?_ | with_reducible refine (H2.out _).mono ?_); rintro _ _ ⟨rfl, rfl⟩) | (go_at_call 92; refine (HC.out _ (Keeps.refl _)).mono ?_; rintro _ w2 ⟨rfl, k2⟩; have HK2 := Lib.hid k2; have r2 := (HA.out.z.keeps HK2.out).cell 4 rfl; clear k2) | (go_at_call 94; refine (HTW.out _ HK2.out).mono ?_; rintro _ w3 ⟨rfl, k3⟩; have HK3 := Lib.hid (Keeps.trans HK2.out k3); have R3 := Lib.hid (HA.out.z.keeps HK3.out); clear k3))
            go_ret
            exact HP.out _ _ HE.out HK3.out
        · have HE := Lib.hid (KR fun x => hall x.2.2.2)
          have hcb : (!decide (∀ p ∈ l, okS3 p)) = true := by rw [decide_eq_false hall]; rfl
          simp only [hcb] at HC
          clear KR KE h0 h1 h2 hn hl hall hcb
          go_enter Try.func89, Try.ntmps89
          go_wp2_with (first | (go_at_call 80; (first | with_reducible refine (H0.out _).mono ?_ | with_reducible refine (H1.out _).mono ?_ | with_reducible refine (H2.out _).mono ?_); rintro _ _ ⟨rfl, rfl⟩) | (go_at_call 92; refine (HC.out _ (Keeps.refl _)).mono ?_; rintro _ w2 ⟨rfl, k2⟩; have HK2 := Lib.hid k2; have r2 := (HA.out.z.keeps HK2.out).cell 4 rfl; clear k2))
          go_ret
          exact HP.out _ _ HE.out HK2.out
end Go.Proofs.Ytebfihghfkcicaa
