/-
  For any section SectionWrites returns true: what is wrong with it, and which bytes it is; nothing that was there is changed. No condition.
-/
import Derived.Test.YtmfldnflcmbnjaaRows
import Derived.Test.YtmfldnflcmbnjaaScArgs
import Derived.Test.YtmfldnflcmbnjaaScF
namespace Go.Proofs.Ytmfldnflcmbnjaa.sectionWrites
open Go.ChangeShapes Go.WideShapes Go.ChangeAt Go.RowKit Gf Sct
set_option maxRecDepth 100000
open Go.ChangeMaps (open_string shut_string)
set_option linter.unusedVariables false
set_option maxHeartbeats 6400000 in
theorem walk (s : Sec) (w : World) :
    Calls Try.prog 3 #[secV s] w fun e w' => e = .returned (.bool true) ∧ Below w.heap.size w w' := by
  have HS1 := Lib.hid (SecAt.made w s 23)
  have HK1 := Lib.hid ((Keeps.refl w).alloc (.cells (secC s).toArray 23))
  have HFW := Lib.hid (fun W => scfew_any s.body W)
  have HPL := Lib.hid (fun W => scplain_any W s W (Keeps.refl W))
  unfold SecPost at HPL
  have HC := Lib.hid (fun W => sccheck_any W s W (Keeps.refl W))
  have HRC := Lib.hid (fun W => scrcheck_any W s W (Keeps.refl W))
  unfold ChkPost at HC HRC
  have HEN := Lib.hid (fun W => scenc_any W s W (Keeps.refl W))
  unfold EncPost at HEN
  obtain ⟨f, hf⟩ : ∃ f, fewB s.body = f := ⟨_, rfl⟩
  simp only [hf] at HFW
  clear hf
  cases f
  · obtain ⟨tb, pv, ex, ver, nw, num, la, body⟩ := s
    go_enter Try.func3, Try.ntmps3
    go_wp2_with (first | (go_at_call 9; refine (HFW.out _).mono ?_; rintro _ _ ⟨rfl, rfl⟩) | (go_at_call 10; refine (awake8_any w _ HK1.out).mono ?_; rintro _ w5 ⟨rfl, k5⟩))
    go_ret
    exact ⟨rfl, k5⟩
  · obtain ⟨c, hc⟩ : ∃ c, chk s = c := ⟨_, rfl⟩
    by_cases h0 : c = 0
    · subst h0
      have HB := Lib.hid (fun W => scrbytes_any W s W hc (Keeps.refl W))
      simp only [ecd_ok hc] at HEN
      simp only [hc] at HC HRC
      obtain ⟨X, hX⟩ : ∃ X, st (Sct.bytes s) = X := ⟨_, rfl⟩
      simp only [hX] at HEN HB
      clear hc hX
      obtain ⟨tb, pv, ex, ver, nw, num, la, body⟩ := s
      go_enter Try.func3, Try.ntmps3
      go_wp2_with (first | (go_at_call 9; refine (HFW.out _).mono ?_; rintro _ _ ⟨rfl, rfl⟩; have HS := Lib.hid HS1.out; have HK := Lib.hid HK1.out; clear HS1 HK1) | (refine wp_ldS HS.out.range rfl _ rfl rfl ?_) | (go_at_call 12; refine (HPL.out _).mono ?_; rintro _ w2 ⟨rfl, k2⟩; replace HS := Lib.hid (HS.out.keeps k2); replace HK := Lib.hid (HK.out.trans k2); clear k2) | (go_at_call 11; refine (HRC.out _).mono ?_; rintro _ w3 ⟨rfl, k3⟩; replace HS := Lib.hid (HS.out.keeps k3); replace HK := Lib.hid (HK.out.trans k3); clear k3) | (go_at_call 13; refine (HEN.out _).mono ?_; rintro _ w4 ⟨rfl, k4⟩; replace HS := Lib.hid (HS.out.keeps k4); replace HK := Lib.hid (HK.out.trans k4); clear k4) | (go_at_call 14; refine (HC.out _).mono ?_; rintro _ w6 ⟨rfl, k6⟩; replace HS := Lib.hid (HS.out.keeps k6); replace HK := Lib.hid (HK.out.trans k6); clear k6) | (go_at_call 15; refine (HB.out _).mono ?_; rintro _ w7 ⟨rfl, k7⟩; replace HS := Lib.hid (HS.out.keeps k7); replace HK := Lib.hid (HK.out.trans k7); clear k7) | (go_at_call 10; refine (awake8_any w _ HK.out).mono ?_; rintro _ w5 ⟨rfl, k5⟩))
      go_ret
      exact ⟨rfl, k5⟩
    · simp only [ecd_no (show chk s ≠ 0 by rw [hc]; exact h0)] at HEN
      simp only [hc] at HC HRC HEN
      have hcb : (c != 0) = true := by simpa using h0
      have hcb2 : ¬ (c = 0) := h0
      have hEm : (st ([] : List UInt8)).toList.isEmpty = true := by rw [st_toList]; rfl
      clear hc h0
      obtain ⟨tb, pv, ex, ver, nw, num, la, body⟩ := s
      go_enter Try.func3, Try.ntmps3
      go_wp2_with (first | (go_at_call 9; refine (HFW.out _).mono ?_; rintro _ _ ⟨rfl, rfl⟩; have HS := Lib.hid HS1.out; have HK := Lib.hid HK1.out; clear HS1 HK1) | (refine wp_ldS HS.out.range rfl _ rfl rfl ?_) | (go_at_call 12; refine (HPL.out _).mono ?_; rintro _ w2 ⟨rfl, k2⟩; replace HS := Lib.hid (HS.out.keeps k2); replace HK := Lib.hid (HK.out.trans k2); clear k2) | (go_at_call 11; refine (HRC.out _).mono ?_; rintro _ w3 ⟨rfl, k3⟩; replace HS := Lib.hid (HS.out.keeps k3); replace HK := Lib.hid (HK.out.trans k3); clear k3) | (go_at_call 13; refine (HEN.out _).mono ?_; rintro _ w4 ⟨rfl, k4⟩; replace HS := Lib.hid (HS.out.keeps k4); replace HK := Lib.hid (HK.out.trans k4); clear k4) | (go_at_call 14; refine (HC.out _).mono ?_; rintro _ w6 ⟨rfl, k6⟩; replace HS := Lib.hid (HS.out.keeps k6); replace HK := Lib.hid (HK.out.trans k6); clear k6) | (go_at_call 10; refine (awake8_any w _ HK.out).mono ?_; rintro _ w5 ⟨rfl, k5⟩))
      go_ret
      exact ⟨rfl, k5⟩


theorem own : ownKnob Try.prog.godebug = none := by kernel_rfl
theorem laidOut : laidOutB Try.prog = true := by kernel_rfl
set_option maxRecDepth 100000 in
theorem lifted (os : Os) (started : os.Started) (H : Type) (enc : TypeId × Value → H) :
    ReturnsInHanded {} Try.checked os 3 .any (Rows.sectionWritesSpec.pre6 enc Try.prog Try.f3 Rows.sectionWritesRow.domain false) (Rows.sectionWritesSpec.post enc Try.prog Try.f3 false true false false) := by
  refine returnsInHanded_of_change (C := Try.checked) own started (by kernel_rfl) Try.func3
    (ChangeSpec.witness6 (enc := enc) (C := Try.checked) false ⟨#[], #[.agg #[.int .i64 0, .bool false, .int .i64 0, .int .i64 0, .bool false, .int .i64 0, .int .i64 0, .string ByteArray.empty]], []⟩ 8 (by kernel_rfl) (by kernel_rfl) (by kernel_rfl) (by kernel_rfl)) ?_
  intro W base args ds gs before hval0 hW hcnd _
  have hval : ∀ (j : Nat) t v, Try.f3.params[j]? = some t → args[j]? = some v → Value.okWide Try.prog W .any base t v := hval0
  have hW' := hW
  obtain ⟨p, q, hA0, hV, rfl, hfz, hnd⟩ := hW
  have hA : DataW.TrodAll enc Try.prog W 0 (fun _ => true) true Try.f3.params.toList args.toList ds p := hA0
  rw [Try.params3] at hA hval
  obtain ⟨v0, vs0, d0, ds0, p0, q0, hargs, rfl, rfl, h0, r0⟩ := trodAll_cons hA
  obtain ⟨rfl, rfl, rfl⟩ := trodAll_nil r0
  obtain rfl : args = #[v0] := by cases args; simp_all
  obtain ⟨rfl, rfl⟩ := trodVars_none hV
  have k0 := h0
  have lt0 : ∀ x ∈ p0, x.block < W.heap.size := by obtain ⟨m, hm⟩ := k0; exact DataW.trod_lt m _ _ _ hm
  obtain ⟨s0, rfl⟩ := open_sec (hval 0 23 v0 rfl rfl) h0
  clear hA0 hval0
  refine (walk s0 W).mono fun e W' ⟨he, bel⟩ => ?_
  subst he
  exact ⟨_, rfl, _, _, _, [], _, [], hW', trodAll_mk1 (shut_bool Try.underlying4 _), (trodAll_cons_mk (Below.trod laidOut (by kernel_rfl) (of_decide_eq_true (by kernel_rfl)) k0 bel lt0) trodAll_mk0), rfl, bel.frame _, fun h => by cases h⟩

theorem over : Rows.sectionWritesRow.holds Try.pinned (OpenSpec.ofChange Rows.sectionWritesSpec) :=
  OpenClaim.holds_of_wide 3 Try.f3 rfl rfl rfl rfl rfl rfl rfl ⟨rfl, rfl, rfl, rfl, rfl⟩ rfl rfl rfl rfl rfl (by kernel_rfl) Try.func3 (by kernel_rfl)
    (of_decide_eq_true (by kernel_rfl)) (by unfold Func.isWrapper; first | (rw [if_pos (by decide +kernel)]; kernel_rfl) | (rw [if_neg (by decide +kernel)]; exact ⟨rfl, rfl⟩))
    (fun os started H enc _ => lifted os started H enc)

theorem proved : Rows.SectionWritesSaid := over
#print axioms proved
end Go.Proofs.Ytmfldnflcmbnjaa.sectionWrites
