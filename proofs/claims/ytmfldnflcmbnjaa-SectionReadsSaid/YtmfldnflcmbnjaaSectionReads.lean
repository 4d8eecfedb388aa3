/-
  For any string SectionReads returns true: how many bytes the section has that begins so, and which section bytes are, or why none; nothing that was there is changed. No condition.
-/
import Derived.Test.YtmfldnflcmbnjaaRows
import Derived.Test.YtmfldnflcmbnjaaScArgs
namespace Go.Proofs.Ytmfldnflcmbnjaa.sectionReads
open Go.ChangeShapes Go.WideShapes Go.ChangeAt Go.RowKit Gf Sct
set_option maxRecDepth 100000
open Go.ChangeMaps (open_string shut_string)
set_option linter.unusedVariables false
set_option maxHeartbeats 6400000 in
theorem walk (s : ByteArray) (hw : s.size ≤ maxLen) (w : World) :
    Calls Try.prog 4 #[.string s] w fun e w' => e = .returned (.bool true) ∧ Below w.heap.size w w' := by
  clear hw
  by_cases h : s.size ≤ 1000
  · have H1 := Lib.hid (fun W => scneed_any W s W (by omega) (Keeps.refl W))
    have H2 := Lib.hid (fun W => scrneed_any W s W (by omega) (Keeps.refl W))
    have H3 := Lib.hid (fun W => scdec_any W s W (by omega) (Keeps.refl W))
    have H4 := Lib.hid (fun W => scrdec_any W s W (by omega) (Keeps.refl W))
    unfold NeedPost at H1 H2
    unfold RdPost at H3 H4
    obtain ⟨⟨N, E⟩, hn⟩ : ∃ q, need (ls s) = q := ⟨_, rfl⟩
    obtain ⟨⟨S, F⟩, hd⟩ : ∃ q, dec (ls s) = q := ⟨_, rfl⟩
    simp only [hn] at H1 H2
    simp only [hd] at H3 H4
    have HPL := Lib.hid (fun W => scplain_any W S W (Keeps.refl W))
    unfold SecPost at HPL
    have HM := Lib.hid (fun W => SecAt.made W S 23)
    have HR := Lib.hid (fun W => SecAt.made W S 28)
    have hEQ : ∀ W, (binOp .eql 28 (secV S) (secV S)).run Try.prog W = .ok (.bool true) W := fun W => by rw [eqR, sameB_iff.2 rfl]
    have hge := egR
    clear hn hd
    obtain ⟨tb, pv, ex, ver, nw, num, la, body⟩ := S
    go_enter Try.func4, Try.ntmps4
    go_wp2_with (first | (go_at_call 16; refine (H1.out _).mono ?_; rintro _ w1 ⟨rfl, k1⟩; have HK1 := Lib.hid k1; clear k1) | (go_at_call 17; refine (H2.out _).mono ?_; rintro _ w2 ⟨rfl, k2⟩; have HK2 := Lib.hid (Keeps.trans HK1.out k2); clear k2) | (go_at_call 18; refine (H3.out _).mono ?_; rintro _ w3 ⟨rfl, k3⟩; have HS3 := Lib.hid (HM.out w3); have HK3 := Lib.hid ((HK2.out.trans k3).alloc (.cells (secC ⟨tb, pv, ex, ver, nw, num, la, body⟩).toArray 23)); clear k3) | (go_at_call 19; refine (H4.out _).mono ?_; rintro _ w4 ⟨rfl, k4⟩; have HS4 := Lib.hid ((HS3.out.keeps k4).keeps ((Keeps.refl w4).alloc (.cells (secC ⟨tb, pv, ex, ver, nw, num, la, body⟩).toArray 28))); have HR4 := Lib.hid (HR.out w4); have HK4 := Lib.hid ((HK3.out.trans k4).alloc (.cells (secC ⟨tb, pv, ex, ver, nw, num, la, body⟩).toArray 28)); clear k4))
    obtain ⟨b1, hb1⟩ : ∃ b1, w3.heap.size = b1 := ⟨_, rfl⟩
    obtain ⟨b2, hb2⟩ : ∃ b2, w4.heap.size = b2 := ⟨_, rfl⟩
    obtain ⟨w5, hw5⟩ : ∃ w5, w4.alloc (.cells #[.int .i64 tb, .bool pv, .int .i64 ex, .int .i64 ver, .bool nw, .int .i64 num, .int .i64 la, .string body] 28) = w5 := ⟨_, rfl⟩
    have hs4 : SecAt b1 ⟨tb, pv, ex, ver, nw, num, la, body⟩ w5 := by have := HS4.out; rwa [hb1, show w4.alloc (.cells (secC ⟨tb, pv, ex, ver, nw, num, la, body⟩).toArray 28) = w5 from hw5] at this
    have hr4 : SecAt b2 ⟨tb, pv, ex, ver, nw, num, la, body⟩ w5 := by have := HR4.out; rwa [hb2, hw5] at this
    have hk4 : Keeps w w5 := by have := HK4.out; rwa [show w4.alloc (.cells (secC ⟨tb, pv, ex, ver, nw, num, la, body⟩).toArray 28) = w5 from hw5] at this
    rw [hb1, hb2, hw5]
    clear HS3 HS4 HR4 HK1 HK2 HK3 HK4 hb1 hb2 hw5 H1 H2 H3 H4
    refine wp_draw (by kernel_rfl)
      [.int .i64 N, .int .i64 N, .bool true, .bool true, .int .i64 E, .int .i64 E, .bool true, .bool true, .bool true, .int .i64 F, .int .i64 F, .bool true, .bool true, .bool true, secV ⟨tb, pv, ex, ver, nw, num, la, body⟩, secV ⟨tb, pv, ex, ver, nw, num, la, body⟩, secV ⟨tb, pv, ex, ver, nw, num, la, body⟩, .bool true, .bool true, .bool true, .bool true, .bool true, .bool true]
      (fun _ W => Keeps w5 W)
      rfl (by kernel_rfl) (fin := ?fin) ?hfin ((Keeps.refl w5).eqv (Eqv.drew w5)) ?each ?hend
    case hfin => simp [seqA, dstOf, Act.put]; rfl
    case each =>
      refine ⟨?_, ?_, ?_, ?_, ?_, ?_, ?_, ?_, ?_, ?_, ?_, ?_, ?_, ?_, ?_, ?_, ?_, ?_, ?_, ?_, ?_, ?_, ?_, trivial⟩
      all_goals intro L w6 h0 hd hs hw
      all_goals try rw [if_pos (by rfl)]
      all_goals unfold Does
      all_goals obtain ⟨q0, q1, q2, q3, q4, q5, q6, q7, _⟩ := hs4.keeps hw
      all_goals obtain ⟨p0, p1, p2, p3, p4, p5, p6, p7, _⟩ := hr4.keeps hw
      all_goals go_simp
      all_goals first
        | exact fun L' k => hw
        | (refine (HPL.out _).mono ?_; rintro e w7 ⟨rfl, k7⟩; exact ⟨_, rfl, rfl, fun _ _ => hw.trans k7⟩)
        | (refine (awake8_any w6 w6 (Keeps.refl w6)).mono ?_; rintro e w7 ⟨rfl, k7⟩; exact ⟨_, rfl, rfl, fun _ _ => hw.trans k7⟩)
    case hend =>
    intro L w6 hL hw
    have hkw := hk4.trans hw
    clear hw hL
    go_wp2
    go_ret
    exact ⟨rfl, hkw⟩
  · go_enter Try.func4, Try.ntmps4
    go_wp2_with (go_at_call 10; refine (awake8_any w _ (Keeps.refl w)).mono ?_; rintro _ w5 ⟨rfl, k5⟩)
    go_ret
    exact ⟨rfl, k5⟩


theorem own : ownKnob Try.prog.godebug = none := by kernel_rfl
theorem laidOut : laidOutB Try.prog = true := by kernel_rfl
set_option maxRecDepth 100000 in
theorem lifted (os : Os) (started : os.Started) (H : Type) (enc : TypeId × Value → H) :
    ReturnsInHanded {} Try.checked os 4 .any (Rows.sectionReadsSpec.pre6 enc Try.prog Try.f4 Rows.sectionReadsRow.domain false) (Rows.sectionReadsSpec.post enc Try.prog Try.f4 false true false false) := by
  refine returnsInHanded_of_change (C := Try.checked) own started (by kernel_rfl) Try.func4
    (ChangeSpec.witness6 (enc := enc) (C := Try.checked) false ⟨#[], #[.string ByteArray.empty], []⟩ 8 (by kernel_rfl) (by kernel_rfl) (by kernel_rfl) (by kernel_rfl)) ?_
  intro W base args ds gs before hval0 hW hcnd _
  have hval : ∀ (j : Nat) t v, Try.f4.params[j]? = some t → args[j]? = some v → Value.okWide Try.prog W .any base t v := hval0
  have hW' := hW
  obtain ⟨p, q, hA0, hV, rfl, hfz, hnd⟩ := hW
  have hA : DataW.TrodAll enc Try.prog W 0 (fun _ => true) true Try.f4.params.toList args.toList ds p := hA0
  rw [Try.params4] at hA hval
  obtain ⟨v0, vs0, d0, ds0, p0, q0, hargs, rfl, rfl, h0, r0⟩ := trodAll_cons hA
  obtain ⟨rfl, rfl, rfl⟩ := trodAll_nil r0
  obtain rfl : args = #[v0] := by cases args; simp_all
  obtain ⟨rfl, rfl⟩ := trodVars_none hV
  obtain ⟨a0, rfl, rfl, rfl, w0⟩ := open_string Try.underlying9 (hval 0 9 v0 rfl rfl) h0
  clear hA0 hval0
  refine (walk a0 w0 W).mono fun e W' ⟨he, bel⟩ => ?_
  subst he
  exact ⟨_, rfl, _, _, _, [], _, [], hW', trodAll_mk1 (shut_bool Try.underlying4 _), (trodAll_cons_mk (shut_string Try.underlying9 w0) trodAll_mk0), rfl, bel.frame _, fun h => by cases h⟩

theorem over : Rows.sectionReadsRow.holds Try.pinned (OpenSpec.ofChange Rows.sectionReadsSpec) :=
  OpenClaim.holds_of_wide 4 Try.f4 rfl rfl rfl rfl rfl rfl rfl ⟨rfl, rfl, rfl, rfl, rfl⟩ rfl rfl rfl rfl rfl (by kernel_rfl) Try.func4 (by kernel_rfl)
    (of_decide_eq_true (by kernel_rfl)) (by unfold Func.isWrapper; first | (rw [if_pos (by decide +kernel)]; kernel_rfl) | (rw [if_neg (by decide +kernel)]; exact ⟨rfl, rfl⟩))
    (fun os started H enc _ => lifted os started H enc)

theorem proved : Rows.SectionReadsSaid := over
#print axioms proved
end Go.Proofs.Ytmfldnflcmbnjaa.sectionReads
