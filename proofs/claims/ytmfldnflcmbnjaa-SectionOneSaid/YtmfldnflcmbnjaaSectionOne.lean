/-
  For any string SectionOne returns true: Encode of Decode is the bytes; nothing that was there is changed. No condition.
-/
import Derived.Test.YtmfldnflcmbnjaaRows
import Derived.Test.YtmfldnflcmbnjaaScArgs
namespace Go.Proofs.Ytmfldnflcmbnjaa.sectionOne
open Go.ChangeShapes Go.WideShapes Go.ChangeAt Go.RowKit Gf Sct
set_option maxRecDepth 100000
open Go.ChangeMaps (open_string shut_string)
set_option linter.unusedVariables false
set_option maxHeartbeats 3200000 in
theorem walk (s : ByteArray) (hw : s.size ≤ maxLen) (w : World) :
    Calls Try.prog 7 #[.string s] w fun e w' => e = .returned (.bool true) ∧ Below w.heap.size w w' := by
  clear hw
  by_cases h : s.size ≤ 1000
  · have HD := Lib.hid (scdec_any w s w (by omega) (Keeps.refl w))
    unfold RdPost at HD
    have hgd := egS
    by_cases he : (dec (ls s)).2 = 0
    · obtain ⟨hc, hb⟩ := bytes_dec he
      obtain ⟨S, hS⟩ : ∃ S, (dec (ls s)).1 = S := ⟨_, rfl⟩
      rw [hS] at hc hb
      rw [hS, he] at HD
      have HEN := Lib.hid (fun W => scenc_any W S W (Keeps.refl W))
      unfold EncPost at HEN
      simp only [ecd_ok hc, hb, st_ls] at HEN
      have HPL := Lib.hid (fun W => scplain_any W S W (Keeps.refl W))
      unfold SecPost at HPL
      have HCK := Lib.hid (fun W => scrcheck_any W S W (Keeps.refl W))
      unfold ChkPost at HCK
      rw [hc] at HCK
      have HM := Lib.hid (fun W => SecAt.made W S 23)
      clear hc hb he hS
      obtain ⟨tb, pv, ex, ver, nw, num, la, body⟩ := S
      go_enter Try.func7, Try.ntmps7
      go_wp2_with (first | (go_at_call 18; refine HD.out.mono ?_; rintro _ w1 ⟨rfl, k1⟩; have HS1 := Lib.hid (HM.out w1); have HK1 := Lib.hid (k1.alloc (.cells (secC ⟨tb, pv, ex, ver, nw, num, la, body⟩).toArray 23)); clear k1) | (go_at_call 13; refine (HEN.out _).mono ?_; rintro _ w2 ⟨rfl, k2⟩; obtain ⟨q0, q1, q2, q3, q4, q5, q6, q7, _⟩ := HS1.out.keeps k2; have HK2 := Lib.hid (HK1.out.trans k2); clear k2) | (go_at_call 12; refine (HPL.out _).mono ?_; rintro _ w3 ⟨rfl, k3⟩; have HK3 := Lib.hid (HK2.out.trans k3); clear k3) | (go_at_call 11; refine (HCK.out _).mono ?_; rintro _ w4 ⟨rfl, k4⟩; have HK4 := Lib.hid (HK3.out.trans k4); clear k4) | (go_at_call 10; refine (awake8_any w _ HK4.out).mono ?_; rintro _ w5 ⟨rfl, k5⟩))
      go_ret
      exact ⟨rfl, k5⟩
    · rw [dec_err he] at HD
      obtain ⟨r, hr⟩ : ∃ r, (dec (ls s)).2 = r := ⟨_, rfl⟩
      rw [hr] at he HD
      have hrb : (r != 0) = true := by simpa using he
      have hEQ : ∀ W, (binOp .eql 23 (secV zs) (secV zs)).run Try.prog W = .ok (.bool true) W := fun W => by rw [eqS, sameB_iff.2 rfl]
      unfold zs at HD hEQ
      clear hr he
      go_enter Try.func7, Try.ntmps7
      go_wp2_with (first | (go_at_call 18; refine HD.out.mono ?_; rintro _ w1 ⟨rfl, k1⟩) | (go_at_call 10; refine (awake8_any w _ (k1.alloc _)).mono ?_; rintro _ w5 ⟨rfl, k5⟩))
      go_ret
      exact ⟨rfl, k5⟩
  · go_enter Try.func7, Try.ntmps7
    go_wp2_with (go_at_call 10; refine (awake8_any w _ (Keeps.refl w)).mono ?_; rintro _ w5 ⟨rfl, k5⟩)
    go_ret
    exact ⟨rfl, k5⟩


theorem own : ownKnob Try.prog.godebug = none := by kernel_rfl
theorem laidOut : laidOutB Try.prog = true := by kernel_rfl
set_option maxRecDepth 100000 in
theorem lifted (os : Os) (started : os.Started) (H : Type) (enc : TypeId × Value → H) :
    ReturnsInHanded {} Try.checked os 7 .any (Rows.sectionOneSpec.pre6 enc Try.prog Try.f7 Rows.sectionOneRow.domain false) (Rows.sectionOneSpec.post enc Try.prog Try.f7 false true false false) := by
  refine returnsInHanded_of_change (C := Try.checked) own started (by kernel_rfl) Try.func7
    (ChangeSpec.witness6 (enc := enc) (C := Try.checked) false ⟨#[], #[.string ByteArray.empty], []⟩ 8 (by kernel_rfl) (by kernel_rfl) (by kernel_rfl) (by kernel_rfl)) ?_
  intro W base args ds gs before hval0 hW hcnd _
  have hval : ∀ (j : Nat) t v, Try.f7.params[j]? = some t → args[j]? = some v → Value.okWide Try.prog W .any base t v := hval0
  have hW' := hW
  obtain ⟨p, q, hA0, hV, rfl, hfz, hnd⟩ := hW
  have hA : DataW.TrodAll enc Try.prog W 0 (fun _ => true) true Try.f7.params.toList args.toList ds p := hA0
  rw [Try.params7] at hA hval
  obtain ⟨v0, vs0, d0, ds0, p0, q0, hargs, rfl, rfl, h0, r0⟩ := trodAll_cons hA
  obtain ⟨rfl, rfl, rfl⟩ := trodAll_nil r0
  obtain rfl : args = #[v0] := by cases args; simp_all
  obtain ⟨rfl, rfl⟩ := trodVars_none hV
  obtain ⟨a0, rfl, rfl, rfl, w0⟩ := open_string Try.underlying9 (hval 0 9 v0 rfl rfl) h0
  clear hA0 hval0
  refine (walk a0 w0 W).mono fun e W' ⟨he, bel⟩ => ?_
  subst he
  exact ⟨_, rfl, _, _, _, [], _, [], hW', trodAll_mk1 (shut_bool Try.underlying4 _), (trodAll_cons_mk (shut_string Try.underlying9 w0) trodAll_mk0), rfl, bel.frame _, fun h => by cases h⟩

theorem over : Rows.sectionOneRow.holds Try.pinned (OpenSpec.ofChange Rows.sectionOneSpec) :=
  OpenClaim.holds_of_wide 7 Try.f7 rfl rfl rfl rfl rfl rfl rfl ⟨rfl, rfl, rfl, rfl, rfl⟩ rfl rfl rfl rfl rfl (by kernel_rfl) Try.func7 (by kernel_rfl)
    (of_decide_eq_true (by kernel_rfl)) (by unfold Func.isWrapper; first | (rw [if_pos (by decide +kernel)]; kernel_rfl) | (rw [if_neg (by decide +kernel)]; exact ⟨rfl, rfl⟩))
    (fun os started H enc _ => lifted os started H enc)

theorem proved : Rows.SectionOneSaid := over
#print axioms proved
end Go.Proofs.Ytmfldnflcmbnjaa.sectionOne
