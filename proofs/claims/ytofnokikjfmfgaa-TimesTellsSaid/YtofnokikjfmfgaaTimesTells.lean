/-
  For any times and any string TimesTells returns true: which four bytes times are, and which times bytes are, or why none; nothing that was there is changed. No condition.
-/
import Derived.Test.YtofnokikjfmfgaaRows
import Derived.Test.YtofnokikjfmfgaaTmE
namespace Go.Proofs.Ytofnokikjfmfgaa.timesTells
open Go.ChangeShapes Go.WideShapes Go.ChangeAt Go.RowKit Gf Tm
open Go.ChangeMaps (open_string shut_string)
set_option maxRecDepth 100000
set_option linter.unusedVariables false
set_option maxHeartbeats 3200000 in
theorem off (t : Tms) (s : ByteArray) (w : World) (h : 20 < s.size) :
    Calls Try.prog 4 #[tmV t, .string s] w fun e w' => e = .returned (.bool true) ∧ Below w.heap.size w w' := by
  have hi : (20 : Int) < (s.size : Int) := by omega
  have HK := Lib.hid ((Keeps.refl w).alloc (.cells #[.int .i64 t.dt, .bool t.tb, .bool t.fr, .int .i64 t.ad] 34))
  clear h
  obtain ⟨dt, tb, fr, ad⟩ := t
  go_enter Try.func4, Try.ntmps4
  go_wp2_with (go_at_call 14; refine (awake9_any w _ HK.out).mono ?_; rintro _ w5 ⟨rfl, k5⟩)
  go_ret
  exact ⟨rfl, k5⟩
set_option maxHeartbeats 12800000 in
theorem core (t : Tms) (s : ByteArray) (w : World) (h : ¬ 20 < s.size) :
    Calls Try.prog 4 #[tmV t, .string s] w fun e w' => e = .returned (.bool true) ∧ Below w.heap.size w w' := by
  have h1 := TmAt.made w t 34
  obtain ⟨b, hb⟩ : ∃ b, w.heap.size = b := ⟨_, rfl⟩
  obtain ⟨wA, hA⟩ : ∃ wA, w.alloc (.cells #[.int .i64 t.dt, .bool t.tb, .bool t.fr, .int .i64 t.ad] 34) = wA := ⟨_, rfl⟩
  have HK0 := Lib.hid (show Keeps w wA by rw [← hA]; exact (Keeps.refl w).alloc _)
  rw [hA, hb] at h1
  have HS0 := Lib.hid h1
  have HEC := Lib.hid (fun W => tmencode_any W t W (Keeps.refl W))
  have HCK := Lib.hid (fun W => tmcheck_any W t W (Keeps.refl W))
  have HDC := Lib.hid (fun W => tmdecode_any W s W (Keeps.refl W))
  unfold EcPost at HEC
  unfold TckPost at HCK
  unfold DcPost at HDC
  have hi : ¬ (20 : Int) < (s.size : Int) := by omega
  obtain ⟨q0, q1, q2, q3, _⟩ := h1
  clear h
  by_cases hok : okT t
  · rw [ecT_ok hok] at HEC
    rw [ckT_ok hok] at HCK
    have HRC := Lib.hid (fun W => rtmcheck_any t true (decide_eq_true hok) W)
    have HRB := Lib.hid (fun W => rtmbytes_any t hok W)
    obtain ⟨S, hS⟩ : ∃ S, st (by4 (nbr t)) = S := ⟨_, rfl⟩
    simp only [hS] at HEC HRB
    clear hok hS
    obtain ⟨dt, tb, fr, ad⟩ := t
    simp only at hA q0 q1 q2 q3
    by_cases h4 : s.size = 4
    · have hl : (ls s).length = 4 := by rw [← ls_size]; exact h4
      have HOF := Lib.hid (fun W => rtmof_any s h4 W)
      unfold TmPost at HOF
      rw [dcT_ok hl] at HDC
      obtain ⟨⟨m0, m1, m2, m3⟩, hm⟩ : ∃ m, ofN (n4 (ls s)) = m := ⟨_, rfl⟩
      rw [hm] at HDC HOF
      have heq : ∀ W, (binOp .eql 34 (tmV ⟨m0, m1, m2, m3⟩) (tmV ⟨m0, m1, m2, m3⟩)).run Try.prog W = .ok (.bool true) W := fun W => by rw [eqT, sameT_self]
      have heg := egT
      have hsz : (s.size : Int) = 4 := by omega
      clear hl hm h4
      go_enter Try.func4, Try.ntmps4
      go_wp2_with (first | (go_at_call 15; refine (HEC.out _).mono ?_; rintro _ w1 ⟨rfl, k1⟩; have HS1 := Lib.hid (HS0.out.keeps k1); have HK1 := Lib.hid (HK0.out.trans k1); have p0 := HS1.out.c0; have p1 := HS1.out.c1; have p2 := HS1.out.c2; have p3 := HS1.out.c3; clear k1) | (go_at_call 16; refine (HRC.out _).mono ?_; rintro _ w2 ⟨rfl, k2⟩; have HS2 := Lib.hid (HS1.out.keeps k2); have HK2 := Lib.hid (HK1.out.trans k2); have p0 := HS2.out.c0; have p1 := HS2.out.c1; have p2 := HS2.out.c2; have p3 := HS2.out.c3; clear k2) | (go_at_call 17; refine (HCK.out _).mono ?_; rintro _ w3 ⟨rfl, k3⟩; have HS3 := Lib.hid (HS2.out.keeps k3); have HK3 := Lib.hid (HK2.out.trans k3); have p0 := HS3.out.c0; have p1 := HS3.out.c1; have p2 := HS3.out.c2; have p3 := HS3.out.c3; clear k3) | (go_at_call 18; refine (HRB.out _).mono ?_; rintro _ w4 ⟨rfl, k4⟩; have HS4 := Lib.hid (HS3.out.keeps k4); have HK4 := Lib.hid (HK3.out.trans k4); have p0 := HS4.out.c0; have p1 := HS4.out.c1; have p2 := HS4.out.c2; have p3 := HS4.out.c3; clear k4) | (go_at_call 19; refine (HDC.out _).mono ?_; rintro _ w5 ⟨rfl, k5⟩; have HK5 := Lib.hid (HK4.out.trans k5); clear k5))
      obtain ⟨b7, hb7⟩ : ∃ b7, w5.heap.size = b7 := ⟨_, rfl⟩
      obtain ⟨w7, hw7⟩ : ∃ w7, w5.alloc (.cells #[.int .i64 m0, .bool m1, .bool m2, .int .i64 m3] 34) = w7 := ⟨_, rfl⟩
      have hs7 : TmAt b7 ⟨m0, m1, m2, m3⟩ w7 := by have := TmAt.made w5 ⟨m0, m1, m2, m3⟩ 34; rwa [hb7, hw7] at this
      have hk7 : Keeps w w7 := by rw [← hw7]; exact HK5.out.alloc _
      have HK7 := Lib.hid hk7
      have HS7 := Lib.hid hs7
      rw [hb7, hw7]
      clear hb7 hw7 hs7 hk7
      refine wp_draw (by kernel_rfl) [.int .i64 0, .bool true, .bool true, tmV ⟨m0, m1, m2, m3⟩, .string s, tmV ⟨m0, m1, m2, m3⟩, .bool true, .bool true, .bool true, .bool true, .bool true, .bool true]
        (fun _ W => Keeps w7 W) rfl (by kernel_rfl) (fin := ?fina) ?hfina ((Keeps.refl w7).eqv (Eqv.drew w7)) ?eacha ?henda
      case hfina => simp [seqA, dstOf, Act.put]; rfl
      case eacha =>
        refine ⟨?_, ?_, ?_, ?_, ?_, ?_, ?_, ?_, ?_, ?_, ?_, ?_, trivial⟩
        all_goals intro X w6 h0 hd hs hw
        all_goals unfold Does
        all_goals obtain ⟨q0, q1, q2, q3, _⟩ := HS7.out.keeps hw
        all_goals first | rw [if_pos (by rfl)] | skip
        all_goals go_simp
        all_goals first
          | exact fun L' k => hw
          | ((with_reducible refine (HOF.out w6).mono ?_); rintro e w8 ⟨rfl, k8⟩; exact ⟨_, rfl, rfl, fun _ _ => hw.trans k8⟩)
          | ((with_reducible refine (awake9_any w6 w6 (Keeps.refl w6)).mono ?_); rintro e w8 ⟨rfl, k8⟩; exact ⟨_, rfl, rfl, fun _ _ => hw.trans k8⟩)
      case henda =>
      intro X w6 hL hw
      have HKE := Lib.hid (HK7.out.trans hw)
      clear hw hL
      go_wp2
      go_ret
      exact ⟨rfl, HKE.out⟩
    · have heq : ∀ W, (binOp .eql 34 (tmV zt) (tmV zt)).run Try.prog W = .ok (.bool true) W := fun W => by rw [eqT, sameT_self]
      have heg := egT
      unfold zt at heq
      by_cases h5 : s.size < 4
      · have i5 : (s.size : Int) < 4 := by omega
        rw [dcT_short (by rw [← ls_size]; exact h5)] at HDC
        unfold zt at HDC
        clear h4 h5
        go_enter Try.func4, Try.ntmps4
        go_wp2_with (first | (go_at_call 15; refine (HEC.out _).mono ?_; rintro _ w1 ⟨rfl, k1⟩; have HS1 := Lib.hid (HS0.out.keeps k1); have HK1 := Lib.hid (HK0.out.trans k1); have p0 := HS1.out.c0; have p1 := HS1.out.c1; have p2 := HS1.out.c2; have p3 := HS1.out.c3; clear k1) | (go_at_call 16; refine (HRC.out _).mono ?_; rintro _ w2 ⟨rfl, k2⟩; have HS2 := Lib.hid (HS1.out.keeps k2); have HK2 := Lib.hid (HK1.out.trans k2); have p0 := HS2.out.c0; have p1 := HS2.out.c1; have p2 := HS2.out.c2; have p3 := HS2.out.c3; clear k2) | (go_at_call 17; refine (HCK.out _).mono ?_; rintro _ w3 ⟨rfl, k3⟩; have HS3 := Lib.hid (HS2.out.keeps k3); have HK3 := Lib.hid (HK2.out.trans k3); have p0 := HS3.out.c0; have p1 := HS3.out.c1; have p2 := HS3.out.c2; have p3 := HS3.out.c3; clear k3) | (go_at_call 18; refine (HRB.out _).mono ?_; rintro _ w4 ⟨rfl, k4⟩; have HS4 := Lib.hid (HS3.out.keeps k4); have HK4 := Lib.hid (HK3.out.trans k4); have p0 := HS4.out.c0; have p1 := HS4.out.c1; have p2 := HS4.out.c2; have p3 := HS4.out.c3; clear k4) | (go_at_call 19; refine (HDC.out _).mono ?_; rintro _ w5 ⟨rfl, k5⟩; have HK5 := Lib.hid (HK4.out.trans k5); clear k5) | (go_at_call 14; refine (awake9_any w _ (HK5.out.alloc _)).mono ?_; rintro _ w9 ⟨rfl, k9⟩))
        go_ret
        exact ⟨rfl, k9⟩
      · have i5 : ¬ (s.size : Int) < 4 := by omega
        have i6 : (4 : Int) < (s.size : Int) := by omega
        rw [dcT_long (by rw [← ls_size]; omega)] at HDC
        unfold zt at HDC
        clear h4 h5
        go_enter Try.func4, Try.ntmps4
        go_wp2_with (first | (go_at_call 15; refine (HEC.out _).mono ?_; rintro _ w1 ⟨rfl, k1⟩; have HS1 := Lib.hid (HS0.out.keeps k1); have HK1 := Lib.hid (HK0.out.trans k1); have p0 := HS1.out.c0; have p1 := HS1.out.c1; have p2 := HS1.out.c2; have p3 := HS1.out.c3; clear k1) | (go_at_call 16; refine (HRC.out _).mono ?_; rintro _ w2 ⟨rfl, k2⟩; have HS2 := Lib.hid (HS1.out.keeps k2); have HK2 := Lib.hid (HK1.out.trans k2); have p0 := HS2.out.c0; have p1 := HS2.out.c1; have p2 := HS2.out.c2; have p3 := HS2.out.c3; clear k2) | (go_at_call 17; refine (HCK.out _).mono ?_; rintro _ w3 ⟨rfl, k3⟩; have HS3 := Lib.hid (HS2.out.keeps k3); have HK3 := Lib.hid (HK2.out.trans k3); have p0 := HS3.out.c0; have p1 := HS3.out.c1; have p2 := HS3.out.c2; have p3 := HS3.out.c3; clear k3) | (go_at_call 18; refine (HRB.out _).mono ?_; rintro _ w4 ⟨rfl, k4⟩; have HS4 := Lib.hid (HS3.out.keeps k4); have HK4 := Lib.hid (HK3.out.trans k4); have p0 := HS4.out.c0; have p1 := HS4.out.c1; have p2 := HS4.out.c2; have p3 := HS4.out.c3; clear k4) | (go_at_call 19; refine (HDC.out _).mono ?_; rintro _ w5 ⟨rfl, k5⟩; have HK5 := Lib.hid (HK4.out.trans k5); clear k5) | (go_at_call 14; refine (awake9_any w _ (HK5.out.alloc _)).mono ?_; rintro _ w9 ⟨rfl, k9⟩))
        go_ret
        exact ⟨rfl, k9⟩
  · rw [ecT_no hok] at HEC
    rw [ckT_no hok] at HCK
    have HRC := Lib.hid (fun W => rtmcheck_any t false (decide_eq_false hok) W)
    have hst0 : st [] = (⟨#[]⟩ : ByteArray) := by rfl
    simp only [hst0] at HEC
    clear hok
    obtain ⟨dt, tb, fr, ad⟩ := t
    simp only at hA q0 q1 q2 q3
    by_cases h4 : s.size = 4
    · have hl : (ls s).length = 4 := by rw [← ls_size]; exact h4
      have HOF := Lib.hid (fun W => rtmof_any s h4 W)
      unfold TmPost at HOF
      rw [dcT_ok hl] at HDC
      obtain ⟨⟨m0, m1, m2, m3⟩, hm⟩ : ∃ m, ofN (n4 (ls s)) = m := ⟨_, rfl⟩
      rw [hm] at HDC HOF
      have heq : ∀ W, (binOp .eql 34 (tmV ⟨m0, m1, m2, m3⟩) (tmV ⟨m0, m1, m2, m3⟩)).run Try.prog W = .ok (.bool true) W := fun W => by rw [eqT, sameT_self]
      have heg := egT
      have hsz : (s.size : Int) = 4 := by omega
      clear hl hm h4
      go_enter Try.func4, Try.ntmps4
      go_wp2_with (first | (go_at_call 15; refine (HEC.out _).mono ?_; rintro _ w1 ⟨rfl, k1⟩; have HS1 := Lib.hid (HS0.out.keeps k1); have HK1 := Lib.hid (HK0.out.trans k1); have p0 := HS1.out.c0; have p1 := HS1.out.c1; have p2 := HS1.out.c2; have p3 := HS1.out.c3; clear k1) | (go_at_call 16; refine (HRC.out _).mono ?_; rintro _ w2 ⟨rfl, k2⟩; have HS2 := Lib.hid (HS1.out.keeps k2); have HK2 := Lib.hid (HK1.out.trans k2); have p0 := HS2.out.c0; have p1 := HS2.out.c1; have p2 := HS2.out.c2; have p3 := HS2.out.c3; clear k2) | (go_at_call 17; refine (HCK.out _).mono ?_; rintro _ w3 ⟨rfl, k3⟩; have HS3 := Lib.hid (HS2.out.keeps k3); have HK3 := Lib.hid (HK2.out.trans k3); have p0 := HS3.out.c0; have p1 := HS3.out.c1; have p2 := HS3.out.c2; have p3 := HS3.out.c3; clear k3) | (go_at_call 19; refine (HDC.out _).mono ?_; rintro _ w5 ⟨rfl, k5⟩; have HK5 := Lib.hid (HK3.out.trans k5); clear k5))
      obtain ⟨b7, hb7⟩ : ∃ b7, w5.heap.size = b7 := ⟨_, rfl⟩
      obtain ⟨w7, hw7⟩ : ∃ w7, w5.alloc (.cells #[.int .i64 m0, .bool m1, .bool m2, .int .i64 m3] 34) = w7 := ⟨_, rfl⟩
      have hs7 : TmAt b7 ⟨m0, m1, m2, m3⟩ w7 := by have := TmAt.made w5 ⟨m0, m1, m2, m3⟩ 34; rwa [hb7, hw7] at this
      have hk7 : Keeps w w7 := by rw [← hw7]; exact HK5.out.alloc _
      have HK7 := Lib.hid hk7
      have HS7 := Lib.hid hs7
      rw [hb7, hw7]
      clear hb7 hw7 hs7 hk7
      refine wp_draw (by kernel_rfl) [.int .i64 0, .bool true, .bool true, tmV ⟨m0, m1, m2, m3⟩, .string s, tmV ⟨m0, m1, m2, m3⟩, .bool true, .bool true, .bool true, .bool true, .bool true, .bool true]
        (fun _ W => Keeps w7 W) rfl (by kernel_rfl) (fin := ?finb) ?hfinb ((Keeps.refl w7).eqv (Eqv.drew w7)) ?eachb ?hendb
      case hfinb => simp [seqA, dstOf, Act.put]; rfl
      case eachb =>
        refine ⟨?_, ?_, ?_, ?_, ?_, ?_, ?_, ?_, ?_, ?_, ?_, ?_, trivial⟩
        all_goals intro X w6 h0 hd hs hw
        all_goals unfold Does
        all_goals obtain ⟨q0, q1, q2, q3, _⟩ := HS7.out.keeps hw
        all_goals first | rw [if_pos (by rfl)] | skip
        all_goals go_simp
        all_goals first
          | exact fun L' k => hw
          | ((with_reducible refine (HOF.out w6).mono ?_); rintro e w8 ⟨rfl, k8⟩; exact ⟨_, rfl, rfl, fun _ _ => hw.trans k8⟩)
          | ((with_reducible refine (awake9_any w6 w6 (Keeps.refl w6)).mono ?_); rintro e w8 ⟨rfl, k8⟩; exact ⟨_, rfl, rfl, fun _ _ => hw.trans k8⟩)
      case hendb =>
      intro X w6 hL hw
      have HKE := Lib.hid (HK7.out.trans hw)
      clear hw hL
      go_wp2
      go_ret
      exact ⟨rfl, HKE.out⟩
    · have heq : ∀ W, (binOp .eql 34 (tmV zt) (tmV zt)).run Try.prog W = .ok (.bool true) W := fun W => by rw [eqT, sameT_self]
      have heg := egT
      unfold zt at heq
      by_cases h5 : s.size < 4
      · have i5 : (s.size : Int) < 4 := by omega
        rw [dcT_short (by rw [← ls_size]; exact h5)] at HDC
        unfold zt at HDC
        clear h4 h5
        go_enter Try.func4, Try.ntmps4
        go_wp2_with (first | (go_at_call 15; refine (HEC.out _).mono ?_; rintro _ w1 ⟨rfl, k1⟩; have HS1 := Lib.hid (HS0.out.keeps k1); have HK1 := Lib.hid (HK0.out.trans k1); have p0 := HS1.out.c0; have p1 := HS1.out.c1; have p2 := HS1.out.c2; have p3 := HS1.out.c3; clear k1) | (go_at_call 16; refine (HRC.out _).mono ?_; rintro _ w2 ⟨rfl, k2⟩; have HS2 := Lib.hid (HS1.out.keeps k2); have HK2 := Lib.hid (HK1.out.trans k2); have p0 := HS2.out.c0; have p1 := HS2.out.c1; have p2 := HS2.out.c2; have p3 := HS2.out.c3; clear k2) | (go_at_call 17; refine (HCK.out _).mono ?_; rintro _ w3 ⟨rfl, k3⟩; have HS3 := Lib.hid (HS2.out.keeps k3); have HK3 := Lib.hid (HK2.out.trans k3); have p0 := HS3.out.c0; have p1 := HS3.out.c1; have p2 := HS3.out.c2; have p3 := HS3.out.c3; clear k3) | (go_at_call 19; refine (HDC.out _).mono ?_; rintro _ w5 ⟨rfl, k5⟩; have HK5 := Lib.hid (HK3.out.trans k5); clear k5) | (go_at_call 14; refine (awake9_any w _ (HK5.out.alloc _)).mono ?_; rintro _ w9 ⟨rfl, k9⟩))
        go_ret
        exact ⟨rfl, k9⟩
      · have i5 : ¬ (s.size : Int) < 4 := by omega
        have i6 : (4 : Int) < (s.size : Int) := by omega
        rw [dcT_long (by rw [← ls_size]; omega)] at HDC
        unfold zt at HDC
        clear h4 h5
        go_enter Try.func4, Try.ntmps4
        go_wp2_with (first | (go_at_call 15; refine (HEC.out _).mono ?_; rintro _ w1 ⟨rfl, k1⟩; have HS1 := Lib.hid (HS0.out.keeps k1); have HK1 := Lib.hid (HK0.out.trans k1); have p0 := HS1.out.c0; have p1 := HS1.out.c1; have p2 := HS1.out.c2; have p3 := HS1.out.c3; clear k1) | (go_at_call 16; refine (HRC.out _).mono ?_; rintro _ w2 ⟨rfl, k2⟩; have HS2 := Lib.hid (HS1.out.keeps k2); have HK2 := Lib.hid (HK1.out.trans k2); have p0 := HS2.out.c0; have p1 := HS2.out.c1; have p2 := HS2.out.c2; have p3 := HS2.out.c3; clear k2) | (go_at_call 17; refine (HCK.out _).mono ?_; rintro _ w3 ⟨rfl, k3⟩; have HS3 := Lib.hid (HS2.out.keeps k3); have HK3 := Lib.hid (HK2.out.trans k3); have p0 := HS3.out.c0; have p1 := HS3.out.c1; have p2 := HS3.out.c2; have p3 := HS3.out.c3; clear k3) | (go_at_call 19; refine (HDC.out _).mono ?_; rintro _ w5 ⟨rfl, k5⟩; have HK5 := Lib.hid (HK3.out.trans k5); clear k5) | (go_at_call 14; refine (awake9_any w _ (HK5.out.alloc _)).mono ?_; rintro _ w9 ⟨rfl, k9⟩))
        go_ret
        exact ⟨rfl, k9⟩
theorem walk (t : Tms) (s : ByteArray) (hs : s.size ≤ maxLen) (w : World) :
    Calls Try.prog 4 #[tmV t, .string s] w fun e w' => e = .returned (.bool true) ∧ Below w.heap.size w w' := by
  by_cases h : 20 < s.size
  · exact off t s w h
  · exact core t s w h


theorem own : ownKnob Try.prog.godebug = none := by kernel_rfl
theorem laidOut : laidOutB Try.prog = true := by kernel_rfl
set_option maxRecDepth 100000 in
theorem lifted (os : Os) (started : os.Started) (H : Type) (enc : TypeId × Value → H) :
    ReturnsInHanded {} Try.checked os 4 .any (Rows.timesTellsSpec.pre6 enc Try.prog Try.f4 Rows.timesTellsRow.domain false) (Rows.timesTellsSpec.post enc Try.prog Try.f4 false true false false) := by
  refine returnsInHanded_of_change (C := Try.checked) own started (by kernel_rfl) Try.func4
    (ChangeSpec.witness6 (enc := enc) (C := Try.checked) false ⟨#[], #[.agg #[.int .i64 0, .bool false, .bool false, .int .i64 0], .string ByteArray.empty], []⟩ 8 (by kernel_rfl) (by kernel_rfl) (by kernel_rfl) (by kernel_rfl)) ?_
  intro W base args ds gs before hval0 hW hcnd _
  have hval : ∀ (j : Nat) t v, Try.f4.params[j]? = some t → args[j]? = some v → Value.okWide Try.prog W .any base t v := hval0
  have hW' := hW
  obtain ⟨p, q, hA0, hV, rfl, hfz, hnd⟩ := hW
  have hA : DataW.TrodAll enc Try.prog W 0 (fun _ => true) true Try.f4.params.toList args.toList ds p := hA0
  rw [Try.params4] at hA hval
  obtain ⟨v0, vs0, d0, ds0, p0, q0, hargs, rfl, rfl, h0, r0⟩ := trodAll_cons hA
  obtain ⟨v1, vs1, d1, ds1, p1, q1, rfl, rfl, rfl, h1, r1⟩ := trodAll_cons r0
  obtain ⟨rfl, rfl, rfl⟩ := trodAll_nil r1
  obtain rfl : args = #[v0, v1] := by cases args; simp_all
  obtain ⟨rfl, rfl⟩ := trodVars_none hV
  have k0 := h0
  have lt0 : ∀ x ∈ p0, x.block < W.heap.size := by obtain ⟨m, hm⟩ := k0; exact DataW.trod_lt m _ _ _ hm
  obtain ⟨s0, rfl⟩ := open_tms (hval 0 34 v0 rfl rfl) h0
  obtain ⟨a1, rfl, rfl, rfl, w1⟩ := open_string Try.underlying9 (hval 1 9 v1 rfl rfl) h1
  clear hA0 hval0
  refine (walk s0 a1 w1 W).mono fun e W' ⟨he, bel⟩ => ?_
  subst he
  exact ⟨_, rfl, _, _, _, [], _, [], hW', trodAll_mk1 (shut_bool Try.underlying4 _), (trodAll_cons_mk (Below.trod laidOut (by kernel_rfl) (of_decide_eq_true (by kernel_rfl)) k0 bel lt0) (trodAll_cons_mk (shut_string Try.underlying9 w1) trodAll_mk0)), rfl, bel.frame _, fun h => by cases h⟩

theorem over : Rows.timesTellsRow.holds Try.pinned (OpenSpec.ofChange Rows.timesTellsSpec) :=
  OpenClaim.holds_of_wide 4 Try.f4 rfl rfl rfl rfl rfl rfl rfl ⟨rfl, rfl, rfl, rfl, rfl⟩ rfl rfl rfl rfl rfl (by kernel_rfl) Try.func4 (by kernel_rfl)
    (of_decide_eq_true (by kernel_rfl)) (by unfold Func.isWrapper; first | (rw [if_pos (by decide +kernel)]; kernel_rfl) | (rw [if_neg (by decide +kernel)]; exact ⟨rfl, rfl⟩))
    (fun os started H enc _ => lifted os started H enc)

theorem proved : Rows.TimesTellsSaid := over
#print axioms proved
end Go.Proofs.Ytofnokikjfmfgaa.timesTells
