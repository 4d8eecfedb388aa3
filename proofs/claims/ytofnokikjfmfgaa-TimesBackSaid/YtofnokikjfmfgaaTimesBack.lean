/-
  For any times and any four bytes TimesBack returns true: Decode of Encode is the times, and Encode of Decode the bytes; nothing that was there is changed. No condition.
-/
import Derived.Test.YtofnokikjfmfgaaRows
import Derived.Test.YtofnokikjfmfgaaTmE
namespace Go.Proofs.Ytofnokikjfmfgaa.timesBack
open Go.ChangeShapes Go.WideShapes Go.ChangeAt Go.RowKit Gf Tm
set_option maxRecDepth 100000
set_option linter.unusedVariables false
theorem byte_of {x : Int} (h : (Lit.int .u8 x).wf = true) : ∃ X : UInt8, x = (X.toNat : Int) := by
  have h0 : IntKind.u8.min ≤ x ∧ x ≤ IntKind.u8.max := by simpa [Lit.wf] using h
  have e : IntKind.u8.max = 255 := by decide
  have e2 : IntKind.u8.min = 0 := by decide
  rw [e, e2] at h0
  exact ⟨UInt8.ofNat x.toNat, by rw [UInt8.toNat_ofNat_of_lt' (by show x.toNat < 256; omega)]; omega⟩
set_option maxHeartbeats 12800000 in
theorem core (t : Tms) (x0 x1 x2 x3 : UInt8) (w : World) :
    Calls Try.prog 5 #[tmV t, .agg #[.int .u8 (x0.toNat : Int), .int .u8 (x1.toNat : Int), .int .u8 (x2.toNat : Int), .int .u8 (x3.toNat : Int)]] w fun e w' => e = .returned (.bool true) ∧ Below w.heap.size w w' := by
  have h0 := TmAt.made w t 34
  obtain ⟨b, hb⟩ : ∃ b, w.heap.size = b := ⟨_, rfl⟩
  obtain ⟨wZ, hZ⟩ : ∃ wZ, w.alloc (.cells #[.int .i64 t.dt, .bool t.tb, .bool t.fr, .int .i64 t.ad] 34) = wZ := ⟨_, rfl⟩
  have hkZ : Keeps w wZ := by rw [← hZ]; exact (Keeps.refl w).alloc _
  have hzZ : wZ.heap.size = b + 1 := by rw [← hZ, ← hb]; simp
  rw [hZ, hb] at h0
  obtain ⟨wA, hA⟩ : ∃ wA, wZ.alloc (.cells #[.int .u8 (x0.toNat : Int), .int .u8 (x1.toNat : Int), .int .u8 (x2.toNat : Int), .int .u8 (x3.toNat : Int)] 43) = wA := ⟨_, rfl⟩
  have hkA : Keeps wZ wA := by rw [← hA]; exact (Keeps.refl wZ).alloc _
  have a0 : wA.cell? ⟨b + 1, 0, none⟩ = some (.int .u8 (x0.toNat : Int)) := by rw [← hA, ← hzZ, World.cell?_alloc_new]; rfl
  have a1 : wA.cell? ⟨b + 1, 1, none⟩ = some (.int .u8 (x1.toNat : Int)) := by rw [← hA, ← hzZ, World.cell?_alloc_new]; rfl
  have a2 : wA.cell? ⟨b + 1, 2, none⟩ = some (.int .u8 (x2.toNat : Int)) := by rw [← hA, ← hzZ, World.cell?_alloc_new]; rfl
  have a3 : wA.cell? ⟨b + 1, 3, none⟩ = some (.int .u8 (x3.toNat : Int)) := by rw [← hA, ← hzZ, World.cell?_alloc_new]; rfl
  have HS0 := Lib.hid (h0.keeps hkA)
  have HK0 := Lib.hid (hkZ.trans hkA)
  have ht := text4 x0 x1 x2 x3
  have hl : (ls (st [x0, x1, x2, x3])).length = 4 := by rw [ls_st]; rfl
  have hdc := dcT_ok hl
  have hec := ecT_dcT hl
  obtain ⟨⟨m0, m1, m2, m3⟩, hm⟩ : ∃ m, ofN (n4 (ls (st [x0, x1, x2, x3]))) = m := ⟨_, rfl⟩
  rw [hm] at hdc hec
  rw [ls_st] at hec
  obtain ⟨S, hS⟩ : ∃ S, st [x0, x1, x2, x3] = S := ⟨_, rfl⟩
  rw [hS] at hdc
  simp only [hS] at ht
  have HD1 := Lib.hid (fun W => tmdecode_any W S W (Keeps.refl W))
  have HE1 := Lib.hid (fun W => tmencode_any W ⟨m0, m1, m2, m3⟩ W (Keeps.refl W))
  unfold DcPost at HD1
  unfold EcPost at HE1
  rw [hdc] at HD1
  simp only [hec, hS] at HE1
  have heg := egT
  clear hl hdc hec hm hS hkZ hkA h0
  by_cases hok : okT t
  · have HRC := Lib.hid (fun W => rtmcheck_any t true (decide_eq_true hok) W)
    have HE2 := Lib.hid (fun W => tmencode_any W t W (Keeps.refl W))
    unfold EcPost at HE2
    rw [ecT_ok hok] at HE2
    have hd2 := dcT_ecT hok
    obtain ⟨Z, hZ2⟩ : ∃ Z, st (by4 (nbr t)) = Z := ⟨_, rfl⟩
    have hz : ls Z = by4 (nbr t) := by rw [← hZ2, ls_st]
    have HD2 := Lib.hid (fun W => tmdecode_any W Z W (Keeps.refl W))
    unfold DcPost at HD2
    rw [hz, hd2] at HD2
    simp only [hZ2] at HE2
    clear hd2 hz hZ2 hok
    have heq : ∀ W, (binOp .eql 34 (tmV t) (tmV t)).run Try.prog W = .ok (.bool true) W := fun W => by rw [eqT, sameT_self]
    obtain ⟨dt, tb, fr, ad⟩ := t
    simp only at hZ
    go_enter Try.func5, Try.ntmps5
    go_wp2_with (first | (go_at_call 19; (with_reducible refine (HD1.out _).mono ?_); rintro _ w1 ⟨rfl, k1⟩; have HS1 := Lib.hid (HS0.out.keeps (((Keeps.refl _).alloc _).trans k1)); have HK1 := Lib.hid (HK0.out.trans (((Keeps.refl _).alloc _).trans k1)); have p0 := HS1.out.c0; have p1 := HS1.out.c1; have p2 := HS1.out.c2; have p3 := HS1.out.c3; clear k1) | (go_at_call 15; (with_reducible refine (HE1.out _).mono ?_); rintro _ w2 ⟨rfl, k2⟩; have HS2 := Lib.hid (HS1.out.keeps (((Keeps.refl _).alloc _).trans k2)); have HK2 := Lib.hid (HK1.out.trans (((Keeps.refl _).alloc _).trans k2)); have p0 := HS2.out.c0; have p1 := HS2.out.c1; have p2 := HS2.out.c2; have p3 := HS2.out.c3; clear k2) | (go_at_call 16; (with_reducible refine (HRC.out _).mono ?_); rintro _ w3 ⟨rfl, k3⟩; have HS3 := Lib.hid (HS2.out.keeps (k3)); have HK3 := Lib.hid (HK2.out.trans (k3)); have p0 := HS3.out.c0; have p1 := HS3.out.c1; have p2 := HS3.out.c2; have p3 := HS3.out.c3; clear k3) | (go_at_call 15; (with_reducible refine (HE2.out _).mono ?_); rintro _ w4 ⟨rfl, k4⟩; have HS4 := Lib.hid (HS3.out.keeps (k4)); have HK4 := Lib.hid (HK3.out.trans (k4)); have p0 := HS4.out.c0; have p1 := HS4.out.c1; have p2 := HS4.out.c2; have p3 := HS4.out.c3; clear k4) | (go_at_call 19; (with_reducible refine (HD2.out _).mono ?_); rintro _ w5 ⟨rfl, k5⟩; have HS5 := Lib.hid (HS4.out.keeps (k5.trans ((Keeps.refl _).alloc (.cells #[.int .i64 dt, .bool tb, .bool fr, .int .i64 ad] 34)))); have HK5 := Lib.hid (HK4.out.trans k5); have p0 := HS5.out.c0; have p1 := HS5.out.c1; have p2 := HS5.out.c2; have p3 := HS5.out.c3; clear k5) | (go_at_call 14; refine (awake9_any w _ (HK5.out.alloc _)).mono ?_; rintro _ w9 ⟨rfl, k9⟩))
    go_ret
    exact ⟨rfl, k9⟩
  · have HRC := Lib.hid (fun W => rtmcheck_any t false (decide_eq_false hok) W)
    clear hok
    obtain ⟨dt, tb, fr, ad⟩ := t
    simp only at hZ
    go_enter Try.func5, Try.ntmps5
    go_wp2_with (first | (go_at_call 19; (with_reducible refine (HD1.out _).mono ?_); rintro _ w1 ⟨rfl, k1⟩; have HS1 := Lib.hid (HS0.out.keeps (((Keeps.refl _).alloc _).trans k1)); have HK1 := Lib.hid (HK0.out.trans (((Keeps.refl _).alloc _).trans k1)); have p0 := HS1.out.c0; have p1 := HS1.out.c1; have p2 := HS1.out.c2; have p3 := HS1.out.c3; clear k1) | (go_at_call 15; (with_reducible refine (HE1.out _).mono ?_); rintro _ w2 ⟨rfl, k2⟩; have HS2 := Lib.hid (HS1.out.keeps (((Keeps.refl _).alloc _).trans k2)); have HK2 := Lib.hid (HK1.out.trans (((Keeps.refl _).alloc _).trans k2)); have p0 := HS2.out.c0; have p1 := HS2.out.c1; have p2 := HS2.out.c2; have p3 := HS2.out.c3; clear k2) | (go_at_call 16; (with_reducible refine (HRC.out _).mono ?_); rintro _ w3 ⟨rfl, k3⟩; have HS3 := Lib.hid (HS2.out.keeps (k3)); have HK3 := Lib.hid (HK2.out.trans (k3)); have p0 := HS3.out.c0; have p1 := HS3.out.c1; have p2 := HS3.out.c2; have p3 := HS3.out.c3; clear k3) | (go_at_call 14; refine (awake9_any w _ HK3.out).mono ?_; rintro _ w9 ⟨rfl, k9⟩))
    go_ret
    exact ⟨rfl, k9⟩
theorem walk (t : Tms) (l : List Int) (hl : l.length = 4) (hw : ∀ x ∈ l, (Lit.int .u8 x).wf = true) (w : World) :
    Calls Try.prog 5 #[tmV t, .agg (l.map (.int .u8)).toArray] w fun e w' => e = .returned (.bool true) ∧ Below w.heap.size w w' := by
  match l, hl with
  | [a, b, c, d], _ =>
    obtain ⟨x0, rfl⟩ := byte_of (hw a (by simp))
    obtain ⟨x1, rfl⟩ := byte_of (hw b (by simp))
    obtain ⟨x2, rfl⟩ := byte_of (hw c (by simp))
    obtain ⟨x3, rfl⟩ := byte_of (hw d (by simp))
    exact core t x0 x1 x2 x3 w


theorem own : ownKnob Try.prog.godebug = none := by kernel_rfl
theorem laidOut : laidOutB Try.prog = true := by kernel_rfl
set_option maxRecDepth 100000 in
theorem lifted (os : Os) (started : os.Started) (H : Type) (enc : TypeId × Value → H) :
    ReturnsInHanded {} Try.checked os 5 .any (Rows.timesBackSpec.pre6 enc Try.prog Try.f5 Rows.timesBackRow.domain false) (Rows.timesBackSpec.post enc Try.prog Try.f5 false true false false) := by
  refine returnsInHanded_of_change (C := Try.checked) own started (by kernel_rfl) Try.func5
    (ChangeSpec.witness6 (enc := enc) (C := Try.checked) false ⟨#[], #[.agg #[.int .i64 0, .bool false, .bool false, .int .i64 0], .agg #[.int .u8 0, .int .u8 0, .int .u8 0, .int .u8 0]], []⟩ 8 (by kernel_rfl) (by kernel_rfl) (by kernel_rfl) (by kernel_rfl)) ?_
  intro W base args ds gs before hval0 hW hcnd _
  have hval : ∀ (j : Nat) t v, Try.f5.params[j]? = some t → args[j]? = some v → Value.okWide Try.prog W .any base t v := hval0
  have hW' := hW
  obtain ⟨p, q, hA0, hV, rfl, hfz, hnd⟩ := hW
  have hA : DataW.TrodAll enc Try.prog W 0 (fun _ => true) true Try.f5.params.toList args.toList ds p := hA0
  rw [Try.params5] at hA hval
  obtain ⟨v0, vs0, d0, ds0, p0, q0, hargs, rfl, rfl, h0, r0⟩ := trodAll_cons hA
  obtain ⟨v1, vs1, d1, ds1, p1, q1, rfl, rfl, rfl, h1, r1⟩ := trodAll_cons r0
  obtain ⟨rfl, rfl, rfl⟩ := trodAll_nil r1
  obtain rfl : args = #[v0, v1] := by cases args; simp_all
  obtain ⟨rfl, rfl⟩ := trodVars_none hV
  have k0 := h0
  have lt0 : ∀ x ∈ p0, x.block < W.heap.size := by obtain ⟨m, hm⟩ := k0; exact DataW.trod_lt m _ _ _ hm
  obtain ⟨s0, rfl⟩ := open_tms (hval 0 34 v0 rfl rfl) h0
  have k1 := h1
  have lt1 : ∀ x ∈ p1, x.block < W.heap.size := by obtain ⟨m, hm⟩ := k1; exact DataW.trod_lt m _ _ _ hm
  obtain ⟨x1, n1, rfl, wx1⟩ := open_arr Try.underlying43 Try.underlying5 (by kernel_rfl) (by kernel_rfl) (hval 1 43 v1 rfl rfl) h1
  clear hA0 hval0
  refine (walk s0 x1 n1 wx1 W).mono fun e W' ⟨he, bel⟩ => ?_
  subst he
  exact ⟨_, rfl, _, _, _, [], _, [], hW', trodAll_mk1 (shut_bool Try.underlying4 _), (trodAll_cons_mk (Below.trod laidOut (by kernel_rfl) (of_decide_eq_true (by kernel_rfl)) k0 bel lt0) (trodAll_cons_mk (Below.trod laidOut (by kernel_rfl) (of_decide_eq_true (by kernel_rfl)) k1 bel lt1) trodAll_mk0)), rfl, bel.frame _, fun h => by cases h⟩

theorem over : Rows.timesBackRow.holds Try.pinned (OpenSpec.ofChange Rows.timesBackSpec) :=
  OpenClaim.holds_of_wide 5 Try.f5 rfl rfl rfl rfl rfl rfl rfl ⟨rfl, rfl, rfl, rfl, rfl⟩ rfl rfl rfl rfl rfl (by kernel_rfl) Try.func5 (by kernel_rfl)
    (of_decide_eq_true (by kernel_rfl)) (by unfold Func.isWrapper; first | (rw [if_pos (by decide +kernel)]; kernel_rfl) | (rw [if_neg (by decide +kernel)]; exact ⟨rfl, rfl⟩))
    (fun os started H enc _ => lifted os started H enc)

theorem proved : Rows.TimesBackSaid := over
#print axioms proved
end Go.Proofs.Ytofnokikjfmfgaa.timesBack
