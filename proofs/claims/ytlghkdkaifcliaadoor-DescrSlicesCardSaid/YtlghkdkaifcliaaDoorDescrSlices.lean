/-
  For any Slice and any descriptor DescrSlices returns true: which descriptor the Slice is, or why none, and which Slice the descriptor is; nothing that was there is changed. The tables of widths of package descr start as the program lays them.
-/
import Derived.SevenTiedAt
import Derived.Test.YtlghkdkaifcliaaDoorRows
import Derived.Test.YtlghkdkaifcliaaDoorCards
import Derived.Test.YtlghkdkaifcliaaDoorTie
import Derived.Test.YtlghkdkaifcliaaDoorDsH
import Derived.Test.YtlghkdkaifcliaaDoorDsI
import Derived.Test.YtlghkdkaifcliaaDoorDsD
import Derived.Test.YtlghkdkaifcliaaDoorDsT
namespace Go.Proofs.YtlghkdkaifcliaaDoor.descrSlices
open Go.ChangeShapes Go.WideShapes Go.ChangeAt Go.RowKit Gf Ds
set_option maxRecDepth 100000
open Go.ChangeMaps (open_string shut_string)
set_option linter.unusedVariables false
set_option linter.unusedSimpArgs false
set_option maxHeartbeats 6400000 in
theorem walk (x : Slc) (hr : inI x.rows) (d : Dsc) (w : World) (tS : TSX w) :
    Calls Tryd.prog 4 #[slV x, dsV d] w fun e w' => e = .returned (.bool true) ∧ Below w.heap.size w w' := by
  have HAW := Lib.hid (fun W (q : Keeps w W) => awake18_any W (tS.keeps q))
  have HM := Lib.hid (fun W (q : Keeps w W) => dmk_any x hr W (tS.keeps q))
  have HR := Lib.hid (fun W => dmake_any x W)
  have HRR := Lib.hid (fun W => drsl_any d W)
  have HRS0 := Lib.hid (fun (h : d.body.size ≤ 1000000) W (q : Keeps w W) => ers_any d W (tS.keeps q) h)
  obtain ⟨Q, hQ⟩ : ∃ Q, mkS x = Q := ⟨_, rfl⟩
  obtain ⟨Y, hY⟩ : ∃ Y, rsl d = Y := ⟨_, rfl⟩
  rw [hQ] at HM HR
  rw [hY] at HRR HRS0
  clear hQ hY tS
  obtain ⟨⟨d1, d2⟩, E⟩ := Q
  obtain ⟨⟨y1, y2, y3, y4, y5, y6, y7⟩, G⟩ := Y
  unfold DmPost at HM HR
  unfold DrsPost at HRR HRS0
  have HLK := Lib.hid (fun W => dlike_any ⟨d1, d2⟩ E W)
  have heq := fun W => eqdSl ⟨y1, y2, y3, y4, y5, y6, y7⟩ ⟨y1, y2, y3, y4, y5, y6, y7⟩ W
  simp only [sameSl_self] at heq
  have heg := egdSl
  obtain ⟨sl, fec, rows, burst, rate, id, more⟩ := x
  obtain ⟨t1, t2⟩ := d
  simp only at HM HR HRR HRS0
  obtain ⟨X, hX⟩ : ∃ X, w.heap.size = X := ⟨_, rfl⟩
  obtain ⟨wA, hA⟩ : ∃ W, w.alloc (.cells #[.bool sl, .bool fec, .int .i64 rows, .int .i64 burst, .int .i64 rate, .int .i64 id, .string more] 42) = W := ⟨_, rfl⟩
  obtain ⟨wB, hB⟩ : ∃ W, wA.alloc (.cells #[.int .i64 t1, .string t2] 37) = W := ⟨_, rfl⟩
  have hz : wA.heap.size = X + 1 := by rw [← hA, World.size_alloc, hX]
  have kA : Keeps w wA := by rw [← hA]; exact (Keeps.refl w).alloc _
  have kB : Keeps wA wB := by rw [← hB]; exact (Keeps.refl wA).alloc _
  have HX_0 := Lib.hid (show CsAt X (slC ⟨sl, fec, rows, burst, rate, id, more⟩) wB from CsAt.keeps (w := wA) (by rw [← hX, ← hA]; exact CsAt.made w #[.bool sl, .bool fec, .int .i64 rows, .int .i64 burst, .int .i64 rate, .int .i64 id, .string more] _ (by simp)) kB)
  have HD_0 := Lib.hid (show CsAt (X + 1) (dsC ⟨t1, t2⟩) wB by rw [← hz, ← hB]; exact CsAt.made wA #[.int .i64 t1, .string t2] _ (by simp))
  have HKK_0 := Lib.hid (kA.trans kB)
  have r6 := HX_0.out.cell 6 rfl
  have r1 := HD_0.out.cell 1 rfl
  clear kA kB
  by_cases h1 : 300 < more.size
  · have i1 : (300 : Int) < (more.size : Int) := by omega
    clear h1
    go_enter Tryd.func4, Tryd.ntmps4
    go_wp2_with (go_at_call 11; refine (HAW.out _ HKK_0.out).mono ?_; rintro _ w9 ⟨rfl, k9⟩; have HK9 := Lib.hid (HKK_0.out.trans k9); clear k9)
    go_ret
    exact ⟨rfl, HK9.out⟩
  have i1 : ¬ (300 : Int) < (more.size : Int) := by omega
  by_cases h2 : 300 < t2.size
  · have i2 : (300 : Int) < (t2.size : Int) := by omega
    clear h1 h2
    go_enter Tryd.func4, Tryd.ntmps4
    go_wp2_with (go_at_call 11; refine (HAW.out _ HKK_0.out).mono ?_; rintro _ w9 ⟨rfl, k9⟩; have HK9 := Lib.hid (HKK_0.out.trans k9); clear k9)
    go_ret
    exact ⟨rfl, HK9.out⟩
  have i2 : ¬ (300 : Int) < (t2.size : Int) := by omega
  have HRS := Lib.hid (HRS0.out (by show t2.size ≤ _; omega))
  clear h1 h2 HRS0
  go_enter Tryd.func4, Tryd.ntmps4
  go_wp2_with (first | (refine dwp_ldSl (b := X) (off := 0) HX_0.out.r rfl _ rfl rfl ?_) | (go_at_call 19; refine (HM.out _ HKK_0.out).mono ?_; rintro _ u1 ⟨rfl, k1⟩; obtain ⟨V1, hV1⟩ : ∃ V, u1.heap.size = V := ⟨_, rfl⟩; obtain ⟨x1, hx1⟩ : ∃ W, u1.alloc (.cells #[.int .i64 d1, .string d2] 37) = W := ⟨_, rfl⟩; have q1 : Keeps u1 x1 := (by rw [← hx1]; exact (Keeps.refl u1).alloc _); have HA_1 := Lib.hid (show CsAt V1 (dsC ⟨d1, d2⟩) x1 from (by rw [← hV1, ← hx1]; exact CsAt.made u1 #[.int .i64 d1, .string d2] _ (by simp))); have HX_1 := Lib.hid (HX_0.out.keeps (Keeps.trans k1 q1)); have HD_1 := Lib.hid (HD_0.out.keeps (Keeps.trans k1 q1)); have HKK_1 := Lib.hid (HKK_0.out.trans (Keeps.trans k1 q1)); have pX0_1 := HX_1.out.cell 0 rfl; have pX1_1 := HX_1.out.cell 1 rfl; have pX2_1 := HX_1.out.cell 2 rfl; have pX3_1 := HX_1.out.cell 3 rfl; have pX4_1 := HX_1.out.cell 4 rfl; have pX5_1 := HX_1.out.cell 5 rfl; have pX6_1 := HX_1.out.cell 6 rfl; clear k1 q1) | (go_at_call 20; refine (HR.out _).mono ?_; rintro _ u2 ⟨rfl, k2⟩; obtain ⟨V2, hV2⟩ : ∃ V, u2.heap.size = V := ⟨_, rfl⟩; obtain ⟨x2, hx2⟩ : ∃ W, u2.alloc (.cells #[.int .i64 d1, .string d2] 44) = W := ⟨_, rfl⟩; have q2 : Keeps u2 x2 := (by rw [← hx2]; exact (Keeps.refl u2).alloc _); have HB_2 := Lib.hid (show CsAt V2 (dsC ⟨d1, d2⟩) x2 from (by rw [← hV2, ← hx2]; exact CsAt.made u2 #[.int .i64 d1, .string d2] _ (by simp))); have HX_2 := Lib.hid (HX_1.out.keeps (Keeps.trans k2 q2)); have HD_2 := Lib.hid (HD_1.out.keeps (Keeps.trans k2 q2)); have HA_2 := Lib.hid (HA_1.out.keeps (Keeps.trans k2 q2)); have HKK_2 := Lib.hid (HKK_1.out.trans (Keeps.trans k2 q2)); clear k2 q2 pX0_1 pX1_1 pX2_1 pX3_1 pX4_1 pX5_1 pX6_1) | (refine dwp_ldP (b := X + 1) (off := 0) HD_2.out.r rfl _ rfl rfl ?_) | (go_at_call 21; refine (HRS.out _ HKK_2.out).mono ?_; rintro _ u3 ⟨rfl, k3⟩; obtain ⟨V3, hV3⟩ : ∃ V, u3.heap.size = V := ⟨_, rfl⟩; obtain ⟨x3, hx3⟩ : ∃ W, u3.alloc (.cells #[.bool y1, .bool y2, .int .i64 y3, .int .i64 y4, .int .i64 y5, .int .i64 y6, .string y7] 42) = W := ⟨_, rfl⟩; have q3 : Keeps u3 x3 := (by rw [← hx3]; exact (Keeps.refl u3).alloc _); have HY_3 := Lib.hid (show CsAt V3 (slC ⟨y1, y2, y3, y4, y5, y6, y7⟩) x3 from (by rw [← hV3, ← hx3]; exact CsAt.made u3 #[.bool y1, .bool y2, .int .i64 y3, .int .i64 y4, .int .i64 y5, .int .i64 y6, .string y7] _ (by simp))); have HX_3 := Lib.hid (HX_2.out.keeps (Keeps.trans k3 q3)); have HD_3 := Lib.hid (HD_2.out.keeps (Keeps.trans k3 q3)); have HA_3 := Lib.hid (HA_2.out.keeps (Keeps.trans k3 q3)); have HB_3 := Lib.hid (HB_2.out.keeps (Keeps.trans k3 q3)); have HKK_3 := Lib.hid (HKK_2.out.trans (Keeps.trans k3 q3)); have pD0_3 := HD_3.out.cell 0 rfl; have pD1_3 := HD_3.out.cell 1 rfl; clear k3 q3) | (go_at_call 22; refine (HRR.out _).mono ?_; rintro _ u4 ⟨rfl, k4⟩; obtain ⟨V4, hV4⟩ : ∃ V, u4.heap.size = V := ⟨_, rfl⟩; obtain ⟨x4, hx4⟩ : ∃ W, u4.alloc (.cells #[.bool y1, .bool y2, .int .i64 y3, .int .i64 y4, .int .i64 y5, .int .i64 y6, .string y7] 47) = W := ⟨_, rfl⟩; have q4 : Keeps u4 x4 := (by rw [← hx4]; exact (Keeps.refl u4).alloc _); have HZ_4 := Lib.hid (show CsAt V4 (slC ⟨y1, y2, y3, y4, y5, y6, y7⟩) x4 from (by rw [← hV4, ← hx4]; exact CsAt.made u4 #[.bool y1, .bool y2, .int .i64 y3, .int .i64 y4, .int .i64 y5, .int .i64 y6, .string y7] _ (by simp))); have HX_4 := Lib.hid (HX_3.out.keeps (Keeps.trans k4 q4)); have HD_4 := Lib.hid (HD_3.out.keeps (Keeps.trans k4 q4)); have HA_4 := Lib.hid (HA_3.out.keeps (Keeps.trans k4 q4)); have HB_4 := Lib.hid (HB_3.out.keeps (Keeps.trans k4 q4)); have HY_4 := Lib.hid (HY_3.out.keeps (Keeps.trans k4 q4)); have HKK_4 := Lib.hid (HKK_3.out.trans (Keeps.trans k4 q4)); have pA0_4 := HA_4.out.cell 0 rfl; have pA1_4 := HA_4.out.cell 1 rfl; have pB0_4 := HB_4.out.cell 0 rfl; have pB1_4 := HB_4.out.cell 1 rfl; clear k4 q4 pD0_3 pD1_3) | (go_at_call 23; refine (HLK.out _).mono ?_; rintro _ u5 ⟨rfl, k5⟩; have HX_5 := Lib.hid (HX_4.out.keeps k5); have HD_5 := Lib.hid (HD_4.out.keeps k5); have HA_5 := Lib.hid (HA_4.out.keeps k5); have HB_5 := Lib.hid (HB_4.out.keeps k5); have HY_5 := Lib.hid (HY_4.out.keeps k5); have HZ_5 := Lib.hid (HZ_4.out.keeps k5); have HKK_5 := Lib.hid (HKK_4.out.trans k5); have pY0_5 := HY_5.out.cell 0 rfl; have pY1_5 := HY_5.out.cell 1 rfl; have pY2_5 := HY_5.out.cell 2 rfl; have pY3_5 := HY_5.out.cell 3 rfl; have pY4_5 := HY_5.out.cell 4 rfl; have pY5_5 := HY_5.out.cell 5 rfl; have pY6_5 := HY_5.out.cell 6 rfl; have pZ0_5 := HZ_5.out.cell 0 rfl; have pZ1_5 := HZ_5.out.cell 1 rfl; have pZ2_5 := HZ_5.out.cell 2 rfl; have pZ3_5 := HZ_5.out.cell 3 rfl; have pZ4_5 := HZ_5.out.cell 4 rfl; have pZ5_5 := HZ_5.out.cell 5 rfl; have pZ6_5 := HZ_5.out.cell 6 rfl; clear k5 pA0_4 pA1_4 pB0_4 pB1_4) | (go_at_call 11; refine (HAW.out _ HKK_5.out).mono ?_; rintro _ u6 ⟨rfl, k6⟩; have HX_6 := Lib.hid (HX_5.out.keeps k6); have HD_6 := Lib.hid (HD_5.out.keeps k6); have HA_6 := Lib.hid (HA_5.out.keeps k6); have HB_6 := Lib.hid (HB_5.out.keeps k6); have HY_6 := Lib.hid (HY_5.out.keeps k6); have HZ_6 := Lib.hid (HZ_5.out.keeps k6); have HKK_6 := Lib.hid (HKK_5.out.trans k6); clear k6 pY0_5 pY1_5 pY2_5 pY3_5 pY4_5 pY5_5 pY6_5 pZ0_5 pZ1_5 pZ2_5 pZ3_5 pZ4_5 pZ5_5 pZ6_5))
  go_ret
  exact ⟨rfl, HKK_6.out⟩

theorem doorMet (os : Os) (args : Array Value) : laidMetH Tryd.prog [("clarion/descr.ofSlice", Rows.laid_clarion_descr_ofSlice)] ((World.doorLaid Tryd.prog 400 os).forCall (fun _ _ => 0) ⟨#[], args, []⟩).memory :=
  laidMetH_of_parts3 (fuel := 8) (laidMet_of_run' 8 (by kernel_rfl) (by kernel_rfl)) (by kernel_rfl) (by kernel_rfl)
theorem own : ownKnob Tryd.prog.godebug = none := by kernel_rfl
theorem laidOut : laidOutB Tryd.prog = true := by kernel_rfl
set_option maxRecDepth 100000 in
theorem lifted (os : Os) (started : os.Started) (H : Type) (enc : TypeId × Value → H) :
    ReturnsInHanded {} Tryd.checked os 4 .any (fun w args => (Rows.descrSlicesSpec.pre enc Tryd.prog Tryd.f4 [] false w args ∧ laidMetH Tryd.prog [("clarion/descr.ofSlice", Rows.laid_clarion_descr_ofSlice)] w) ∧ sizedMet enc Tryd.prog Tryd.f4 (OpenSpec.ofChange Rows.descrSlicesSpec) false w args) (Rows.descrSlicesSpec.post enc Tryd.prog Tryd.f4 false true false false) := by
  refine returnsInHanded_of_change_and (C := Tryd.checked) (X := fun w _ => laidMetH Tryd.prog [("clarion/descr.ofSlice", Rows.laid_clarion_descr_ofSlice)] w) (fun _ _ _ hh h => h.of_heap hh) own started (by kernel_rfl) Tryd.func4
    (ChangeSpec.witness_shaped (enc := enc) (C := Tryd.checked) (os := os) (X := fun w _ => laidMetH Tryd.prog [("clarion/descr.ofSlice", Rows.laid_clarion_descr_ofSlice)] w) false (World.doorLaid Tryd.prog 400 os) #[.agg #[.bool false, .bool false, .int .i64 0, .int .i64 0, .int .i64 0, .int .i64 0, .string ByteArray.empty], .agg #[.int .i64 0, .string ByteArray.empty]] 8 rfl (World.shaped_of_RefB (by kernel_rfl) (by kernel_rfl)) (by kernel_rfl) (by kernel_rfl) (by kernel_rfl) (doorMet os _)) ?_
  intro W base args ds gs before hval0 hW hcnd _ hL _
  have hval : ∀ (j : Nat) t v, Tryd.f4.params[j]? = some t → args[j]? = some v → Value.okWide Tryd.prog W .any base t v := hval0
  have hW' := hW
  obtain ⟨p, q, hA0, hV, rfl, hfz, hnd⟩ := hW
  have hA : DataW.TrodAll enc Tryd.prog W 0 (fun _ => true) true Tryd.f4.params.toList args.toList ds p := hA0
  rw [Tryd.params4] at hA hval
  obtain ⟨v0, vs0, d0, ds0, p0, q0, hargs, rfl, rfl, h0, r0⟩ := trodAll_cons hA
  obtain ⟨v1, vs1, d1, ds1, p1, q1, rfl, rfl, rfl, h1, r1⟩ := trodAll_cons r0
  obtain ⟨rfl, rfl, rfl⟩ := trodAll_nil r1
  obtain rfl : args = #[v0, v1] := by cases args; simp_all
  obtain ⟨rfl, rfl⟩ := trodVars_none hV
  have k0 := h0
  have lt0 : ∀ x ∈ p0, x.block < W.heap.size := by obtain ⟨m, hm⟩ := k0; exact DataW.trod_lt m _ _ _ hm
  obtain ⟨P0, rr0, rfl⟩ := open_slc (hval 0 42 v0 rfl rfl) h0
  have k1 := h1
  have lt1 : ∀ x ∈ p1, x.block < W.heap.size := by obtain ⟨m, hm⟩ := k1; exact DataW.trod_lt m _ _ _ hm
  obtain ⟨P1, rfl⟩ := open_dsc (hval 1 37 v1 rfl rfl) h1
  clear hA0 hval0
  refine (walk P0 rr0 P1 W (tS_of hL (by kernel_rfl) (by simp))).mono fun e W' ⟨he, bel⟩ => ?_
  subst he
  exact ⟨_, rfl, _, _, _, [], _, [], hW', trodAll_mk1 (shut_bool Tryd.underlying4 _), (trodAll_cons_mk (Below.trod laidOut (by kernel_rfl) (of_decide_eq_true (by kernel_rfl)) k0 bel lt0) (trodAll_cons_mk (Below.trod laidOut (by kernel_rfl) (of_decide_eq_true (by kernel_rfl)) k1 bel lt1) trodAll_mk0)), rfl, bel.frame _, fun h => by cases h⟩

theorem over : Rows.descrSlicesRow.holds Tryd.pinned (OpenSpec.ofChange Rows.descrSlicesSpec) :=
  OpenClaim.holds_of_wide 4 Tryd.f4 rfl rfl rfl rfl rfl rfl rfl ⟨rfl, rfl, rfl, rfl, rfl⟩ rfl rfl rfl rfl rfl (by kernel_rfl) Tryd.func4 (by kernel_rfl)
    (of_decide_eq_true (by kernel_rfl)) (by unfold Func.isWrapper; first | (rw [if_pos (by decide +kernel)]; kernel_rfl) | (rw [if_neg (by decide +kernel)]; exact ⟨rfl, rfl⟩))
    (fun os started H enc _ => lifted os started H enc)

set_option maxRecDepth 100000 in
theorem proved : Rows.DescrSlicesCardSaid :=
  Claim7.holds_tied_plain_at .later [] [.wider] true (true, _) false over (fun _ h => by cases h) (by kernel_rfl) (fun _ h => by cases h) descrSlices_row_tie rfl ⟨rfl, rfl⟩ (by kernel_rfl) rfl
    (fun f fn hf hfn => by
      obtain rfl : f = 4 := Option.some.inj ((show Tryd.prog.funcNamed "clarion/clarionlaw18.DescrSlices" = some 4 by kernel_rfl).symm.trans hf) |>.symm
      obtain rfl : fn = Tryd.f4 := (Option.some.inj (Tryd.func4.symm.trans hfn)).symm
      exact ⟨by kernel_rfl, fun j t ht => by
        rw [Tryd.params4] at ht
        have hm : t ∈ [42, 37] := by simpa using Array.mem_of_getElem? ht
        have hall : ([42, 37].all fun u => !Tryd.prog.wantsStandIn u) = true := by kernel_rfl
        exact (show Tryd.prog.wantsStandIn t = false by simpa using List.all_eq_true.1 hall t hm)⟩)
    (by kernel_rfl)
#print axioms proved
end Go.Proofs.YtlghkdkaifcliaaDoor.descrSlices
