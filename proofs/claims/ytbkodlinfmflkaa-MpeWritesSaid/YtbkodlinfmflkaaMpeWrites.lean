/-
  For any part MpeWrites returns true: what is wrong with it, and which bytes its section is; nothing that was there is changed. No condition.
-/
import Derived.Test.YtbkodlinfmflkaaRows
import Derived.Test.YtbkodlinfmflkaaMpA
import Derived.Test.YtbkodlinfmflkaaMpD
import Derived.Test.YtbkodlinfmflkaaMpLaw
namespace Go.Proofs.Ytbkodlinfmflkaa.mpeWrites
open Go.ChangeShapes Go.WideShapes Go.ChangeAt Go.RowKit Gf Tm Sct Mpe
set_option maxRecDepth 100000
open Go.ChangeMaps (open_string shut_string)
set_option linter.unusedVariables false
set_option maxHeartbeats 6400000 in
theorem walk (p : Prt) (w : World) :
    Calls Try.prog 3 #[prV p] w fun e w' => e = .returned (.bool true) ∧ Below w.heap.size w w' := by
  obtain ⟨b, hb⟩ : ∃ b, w.heap.size = b := ⟨_, rfl⟩
  obtain ⟨wA, hA⟩ : ∃ wX, w.alloc (.cells #[.int .i64 p.mac, .int .i64 p.tm.dt, .bool p.tm.tb, .bool p.tm.fr, .int .i64 p.tm.ad, .string p.txt] 25) = wX := ⟨_, rfl⟩
  have HA := Lib.hid (show CsAt b (prC p) wA by rw [← hb, ← hA]; exact CsAt.made w #[.int .i64 p.mac, .int .i64 p.tm.dt, .bool p.tm.tb, .bool p.tm.fr, .int .i64 p.tm.ad, .string p.txt] _ (by simp))
  have HK0 := Lib.hid (show Keeps w wA by rw [← hA]; exact (Keeps.refl w).alloc _)
  have HA0 := Lib.hid HA.out
  by_cases h : 5000 < p.txt.size
  · obtain ⟨mac, ⟨dt, tb, fr, ad⟩, txt⟩ := p
    simp only at h hA
    have hi : (5000 : Int) < (txt.size : Int) := by omega
    have q5 := HA.out.cell 5 rfl
    simp only at q5
    go_enter Try.func3, Try.ntmps3
    go_wp2_with (first | (go_at_call 10; refine (awake10_any w _ (HK0.out)).mono ?_; rintro _ w99 ⟨rfl, k99⟩))
    go_ret
    exact ⟨rfl, k99⟩
  · have HPL := Lib.hid (fun W => mpplain_any p W)
    have HRC := Lib.hid (fun W => rmpcheck_any W p W (by omega) (Keeps.refl W))
    unfold RckPost at HRC
    have HEC := Lib.hid (fun W => mpencode_any W p W (by omega) (Keeps.refl W))
    unfold PecPost at HEC
    have HCK := Lib.hid (fun W => mpcheck_any W p W (by omega) (Keeps.refl W))
    unfold PckPost at HCK
    by_cases hc : ckP p = 0
    · rw [ecP_ok hc] at HEC
      rw [hc] at HRC HCK
      have HBY := Lib.hid (fun W => rmpbytes_any W p W hc (Keeps.refl W))
      have HIS := Lib.hid (fun W => mpis_any (st (mby p)) W)
      rw [ls_st, isM_mby] at HIS
      have hne := mby_length p
      obtain ⟨Y, hY⟩ : ∃ Y, st (mby p) = Y := ⟨_, rfl⟩
      simp only [hY] at HEC HBY HIS
      clear hc hne hY
      obtain ⟨mac, ⟨dt, tb, fr, ad⟩, txt⟩ := p
      simp only at h hA
      have hi : ¬ (5000 : Int) < (txt.size : Int) := by omega
      have q5 := HA.out.cell 5 rfl
      simp only at q5
      go_enter Try.func3, Try.ntmps3
      go_wp2_with (first | (refine wp_ldP (b := b) (off := 0) HA0.out.r rfl _ rfl rfl ?_) | (refine wp_ldP (b := b) (off := 0) HA1.out.r rfl _ rfl rfl ?_) | (refine wp_ldP (b := b) (off := 0) HA2.out.r rfl _ rfl rfl ?_) | (refine wp_ldP (b := b) (off := 0) HA3.out.r rfl _ rfl rfl ?_) | (refine wp_ldP (b := b) (off := 0) HA4.out.r rfl _ rfl rfl ?_) | (refine wp_ldP (b := b) (off := 0) HA5.out.r rfl _ rfl rfl ?_) | (go_at_call 12; (refine (HPL.out _).mono ?_); rintro _ w1 ⟨rfl, k1⟩; have HA1 := Lib.hid (HA0.out.keeps k1); have HK1 := Lib.hid (HK0.out.trans k1); clear k1) | (go_at_call 11; (refine (HRC.out _).mono ?_); rintro _ w2 ⟨rfl, k2⟩; have HA2 := Lib.hid (HA1.out.keeps k2); have HK2 := Lib.hid (HK1.out.trans k2); clear k2) | (go_at_call 13; (refine (HEC.out _).mono ?_); rintro _ w3 ⟨rfl, k3⟩; have HA3 := Lib.hid (HA2.out.keeps k3); have HK3 := Lib.hid (HK2.out.trans k3); clear k3) | (go_at_call 14; (refine (HCK.out _).mono ?_); rintro _ w4 ⟨rfl, k4⟩; have HA4 := Lib.hid (HA3.out.keeps k4); have HK4 := Lib.hid (HK3.out.trans k4); clear k4) | (go_at_call 12; (refine (HPL.out _).mono ?_); rintro _ w5 ⟨rfl, k5⟩; have HA5 := Lib.hid (HA4.out.keeps k5); have HK5 := Lib.hid (HK4.out.trans k5); clear k5) | (go_at_call 15; (refine (HBY.out _).mono ?_); rintro _ w6 ⟨rfl, k6⟩; have HA6 := Lib.hid (HA5.out.keeps k6); have HK6 := Lib.hid (HK5.out.trans k6); clear k6) | (go_at_call 16; refine (HIS.out _).mono ?_; rintro _ _ ⟨rfl, rfl⟩) | (go_at_call 10; refine (awake10_any w _ (HK6.out)).mono ?_; rintro _ w99 ⟨rfl, k99⟩))
      go_ret
      exact ⟨rfl, k99⟩
    · rw [ecP_no hc] at HEC
      obtain ⟨n, hn⟩ : ∃ n, ckP p = n := ⟨_, rfl⟩
      have hnb : (n != 0) = true := by rw [← hn]; simpa using hc
      simp only [hn, show st [] = (⟨#[]⟩ : ByteArray) from rfl] at HRC HCK HEC
      clear hc hn
      obtain ⟨mac, ⟨dt, tb, fr, ad⟩, txt⟩ := p
      simp only at h hA
      have hi : ¬ (5000 : Int) < (txt.size : Int) := by omega
      have q5 := HA.out.cell 5 rfl
      simp only at q5
      go_enter Try.func3, Try.ntmps3
      go_wp2_with (first | (refine wp_ldP (b := b) (off := 0) HA0.out.r rfl _ rfl rfl ?_) | (refine wp_ldP (b := b) (off := 0) HA1.out.r rfl _ rfl rfl ?_) | (refine wp_ldP (b := b) (off := 0) HA2.out.r rfl _ rfl rfl ?_) | (refine wp_ldP (b := b) (off := 0) HA3.out.r rfl _ rfl rfl ?_) | (refine wp_ldP (b := b) (off := 0) HA4.out.r rfl _ rfl rfl ?_) | (go_at_call 12; (refine (HPL.out _).mono ?_); rintro _ w1 ⟨rfl, k1⟩; have HA1 := Lib.hid (HA0.out.keeps k1); have HK1 := Lib.hid (HK0.out.trans k1); clear k1) | (go_at_call 11; (refine (HRC.out _).mono ?_); rintro _ w2 ⟨rfl, k2⟩; have HA2 := Lib.hid (HA1.out.keeps k2); have HK2 := Lib.hid (HK1.out.trans k2); clear k2) | (go_at_call 13; (refine (HEC.out _).mono ?_); rintro _ w3 ⟨rfl, k3⟩; have HA3 := Lib.hid (HA2.out.keeps k3); have HK3 := Lib.hid (HK2.out.trans k3); clear k3) | (go_at_call 14; (refine (HCK.out _).mono ?_); rintro _ w4 ⟨rfl, k4⟩; have HA4 := Lib.hid (HA3.out.keeps k4); have HK4 := Lib.hid (HK3.out.trans k4); clear k4) | (go_at_call 10; refine (awake10_any w _ (HK4.out)).mono ?_; rintro _ w99 ⟨rfl, k99⟩))
      go_ret
      exact ⟨rfl, k99⟩


theorem own : ownKnob Try.prog.godebug = none := by kernel_rfl
theorem laidOut : laidOutB Try.prog = true := by kernel_rfl
set_option maxRecDepth 100000 in
theorem lifted (os : Os) (started : os.Started) (H : Type) (enc : TypeId × Value → H) :
    ReturnsInHanded {} Try.checked os 3 .any (Rows.mpeWritesSpec.pre6 enc Try.prog Try.f3 Rows.mpeWritesRow.domain false) (Rows.mpeWritesSpec.post enc Try.prog Try.f3 false true false false) := by
  refine returnsInHanded_of_change (C := Try.checked) own started (by kernel_rfl) Try.func3
    (ChangeSpec.witness6 (enc := enc) (C := Try.checked) false ⟨#[], #[.agg #[.int .i64 0, .int .i64 0, .bool false, .bool false, .int .i64 0, .string ByteArray.empty]], []⟩ 8 (by kernel_rfl) (by kernel_rfl) (by kernel_rfl) (by kernel_rfl)) ?_
  intro W base args ds gs before hval0 hW hcnd _
  have hval : ∀ (j : Nat) t v, Try.f3.params[j]? = some t → args[j]? = some v → Value.okWide Try.prog W .any base t v := hval0
  have hW' := hW
  obtain ⟨p, q, hA0, hV, rfl, hfz, hnd⟩ := hW
  have hA : DataW.TrodAll enc Try.prog W 0 (fun _ => true) true Try.f3.params.toList args.toList ds p := hA0
  rw [Try.params3] at hA hval
  obtain ⟨v0, vs0, d0, ds0, p0, q0, hargs, rfl, rfl, h0, r0⟩ := trodAll_cons hA
  obtain ⟨rfl, rfl, rfl⟩ := trodAll_nil r0
  obtain rfl : args = #[v0] := by cases args; simp_all
  obtain ⟨rfl, rfl⟩ := trodVars_none hV
  have k0 := h0
  have lt0 : ∀ x ∈ p0, x.block < W.heap.size := by obtain ⟨m, hm⟩ := k0; exact DataW.trod_lt m _ _ _ hm
  obtain ⟨P0, rfl⟩ := open_prt (hval 0 25 v0 rfl rfl) h0
  clear hA0 hval0
  refine (walk P0 W).mono fun e W' ⟨he, bel⟩ => ?_
  subst he
  exact ⟨_, rfl, _, _, _, [], _, [], hW', trodAll_mk1 (shut_bool Try.underlying4 _), (trodAll_cons_mk (Below.trod laidOut (by kernel_rfl) (of_decide_eq_true (by kernel_rfl)) k0 bel lt0) trodAll_mk0), rfl, bel.frame _, fun h => by cases h⟩

theorem over : Rows.mpeWritesRow.holds Try.pinned (OpenSpec.ofChange Rows.mpeWritesSpec) :=
  OpenClaim.holds_of_wide 3 Try.f3 rfl rfl rfl rfl rfl rfl rfl ⟨rfl, rfl, rfl, rfl, rfl⟩ rfl rfl rfl rfl rfl (by kernel_rfl) Try.func3 (by kernel_rfl)
    (of_decide_eq_true (by kernel_rfl)) (by unfold Func.isWrapper; first | (rw [if_pos (by decide +kernel)]; kernel_rfl) | (rw [if_neg (by decide +kernel)]; exact ⟨rfl, rfl⟩))
    (fun os started H enc _ => lifted os started H enc)

theorem proved : Rows.MpeWritesSaid := over
#print axioms proved
end Go.Proofs.Ytbkodlinfmflkaa.mpeWrites
