/-
  For any call BitsNil returns true: a nil writer and a nil reader do nothing; nothing that was there is changed. No condition.
-/
import Derived.Test.YtfkadmcndjohbaaRows
import Derived.Test.YtfkadmcndjohbaaBitsOp
namespace Go.Proofs.Ytfkadmcndjohbaa.bitsNil
open Go.ChangeShapes Go.WideShapes Go.ChangeAt Go.RowKit Gf Bit
set_option maxRecDepth 100000
set_option linter.unusedVariables false
theorem len_nil (w : World) : Calls Try.prog 13 #[.pointer none] w fun e w' => e = .returned (.int .i64 0) ∧ w = w' := by
  go_enter Try.func13, Try.ntmps13
  go_wp2
  go_ret
  exact ⟨rfl, rfl⟩
theorem str_nil (w : World) : Calls Try.prog 14 #[.pointer none] w fun e w' => e = .returned (.string (st [])) ∧ w = w' := by
  go_enter Try.func14, Try.ntmps14
  go_wp2
  go_ret
  exact ⟨rfl, rfl⟩
theorem at_nil (w : World) : Calls Try.prog 21 #[.pointer none] w fun e w' => e = .returned (.int .i64 0) ∧ w = w' := by
  go_enter Try.func21, Try.ntmps21
  go_wp2
  go_ret
  exact ⟨rfl, rfl⟩
theorem left_nil (w : World) : Calls Try.prog 22 #[.pointer none] w fun e w' => e = .returned (.int .i64 0) ∧ w = w' := by
  go_enter Try.func22, Try.ntmps22
  go_wp2
  go_ret
  exact ⟨rfl, rfl⟩
theorem err_nil (w : World) : Calls Try.prog 23 #[.pointer none] w fun e w' => e = .returned (.int .i64 2) ∧ w = w' := by
  go_enter Try.func23, Try.ntmps23
  go_wp2
  go_ret
  exact ⟨rfl, rfl⟩
set_option maxHeartbeats 4000000 in
theorem get_nil (n : Int) (w : World) : Calls Try.prog 20 #[.pointer none, .int .i64 n] w fun e w' => e = .returned (.int .u64 0) ∧ Eqv w w' := by
  go_enter Try.func20, Try.ntmps20
  go_wp2
  refine wp_draw (by kernel_rfl)
    [.pointer none, .bool true, .bool true, undef, undef, undef, undef, undef, undef, undef, undef, undef, undef, .bool true, .bool true, undef, undef, undef, undef, undef, undef, undef, undef, .bool true]
    (fun _ w7 => Eqv w w7) rfl (by kernel_rfl) (fin := ?fin) ?hfin (Eqv.drew w) ?each ?hend
  case hfin => simp [seqA, dstOf, Act.put]; rfl
  case each =>
    refine ⟨?_, ?_, ?_, ?_, ?_, ?_, ?_, ?_, ?_, ?_, ?_, ?_, ?_, ?_, ?_, ?_, ?_, ?_, ?_, ?_, ?_, ?_, ?_, ?_, trivial⟩
    all_goals intro L w7 h0 hd hs hw
    all_goals first | rw [if_pos (by rfl)] | rw [if_neg (by decide)] | skip
    all_goals first | exact ⟨fun _ => rfl, fun L' k => hw⟩ | skip
    all_goals unfold Does
    all_goals go_simp
    all_goals exact fun L' k => hw
  case hend =>
    intro L w7 hL hw
    go_wp2
    go_ret
    exact ⟨rfl, hw⟩
set_option maxHeartbeats 4000000 in
theorem txt_nil (n : Int) (w : World) : Calls Try.prog 19 #[.pointer none, .int .i64 n] w fun e w' => e = .returned (.string (st [])) ∧ Eqv w w' := by
  go_enter Try.func19, Try.ntmps19
  go_wp2
  refine wp_draw (by kernel_rfl)
    [.pointer none, .bool true, .bool true, undef, undef, undef, undef, undef, undef, .bool true, .bool true, undef, undef, undef, undef, undef, undef, undef, undef, undef, .bool true]
    (fun _ w7 => Eqv w w7) rfl (by kernel_rfl) (fin := ?fin) ?hfin (Eqv.drew w) ?each ?hend
  case hfin => simp [seqA, dstOf, Act.put]; rfl
  case each =>
    refine ⟨?_, ?_, ?_, ?_, ?_, ?_, ?_, ?_, ?_, ?_, ?_, ?_, ?_, ?_, ?_, ?_, ?_, ?_, ?_, ?_, ?_, trivial⟩
    all_goals intro L w7 h0 hd hs hw
    all_goals first | rw [if_pos (by rfl)] | rw [if_neg (by decide)] | skip
    all_goals first | exact ⟨fun _ => rfl, fun L' k => hw⟩ | skip
    all_goals unfold Does
    all_goals go_simp
    all_goals exact fun L' k => hw
  case hend =>
    intro L w7 hL hw
    go_wp2
    go_ret
    exact ⟨rfl, hw⟩
set_option maxHeartbeats 8000000 in
theorem walk (o : OpD) (ho : o.ok) (w : World) :
    Calls Try.prog 7 #[.agg o.cells.toArray] w fun e w' => e = .returned (.bool true) ∧ Below w.heap.size w w' := by
  obtain ⟨fb, hfb⟩ : ∃ fb, fewB [o] = fb := ⟨_, rfl⟩
  have hI := few_any (cap := 1) _ (IsO.one (w.alloc (.cells o.cells.toArray 37)) o ho 37) (by decide)
  rw [hfb, World.size_alloc] at hI
  have HI := Lib.hid hI
  clear hI
  clear hfb ho
  obtain ⟨t, x, n, s⟩ := o
  unfold OpD.cells at *
  cases fb
  · go_enter Try.func7, Try.ntmps7
    go_wp2_with (first | (go_at_call 9; refine HI.out.mono ?_; rintro _ _ ⟨rfl, rfl⟩) | (go_at_call 10; refine (awake6_any _).mono ?_; rintro _ w15 ⟨rfl, k15⟩))
    go_ret
    exact ⟨rfl, (((Keeps.refl w).alloc _).alloc _).more k15⟩
  · have HWN := Lib.hid (lwrite_nil ⟨t, x, n, s⟩ ((w.alloc (.cells (OpD.cells ⟨t, x, n, s⟩).toArray 37)).alloc (.cells (OpD.cells ⟨t, x, n, s⟩).toArray 37)))
    unfold OpD.cells at HWN
    have d0 : ((w.alloc (.cells #[.bool t, .int .u64 (un x), .int .i64 n, .string s] 37)).alloc (.cells #[.bool t, .int .u64 (un x), .int .i64 n, .string s] 37)).cell? ⟨w.heap.size, 0, none⟩ = some (.bool t) := cell_alloc1 _ (by rw [World.cell?_alloc_new]; rfl)
    have d2 : ((w.alloc (.cells #[.bool t, .int .u64 (un x), .int .i64 n, .string s] 37)).alloc (.cells #[.bool t, .int .u64 (un x), .int .i64 n, .string s] 37)).cell? ⟨w.heap.size, 2, none⟩ = some (.int .i64 n) := cell_alloc1 _ (by rw [World.cell?_alloc_new]; rfl)
    have hse : ((st []).toList == []) = true := by rw [st_toList]; rfl
    go_enter Try.func7, Try.ntmps7
    cases t
    · go_wp2_with (first | (go_at_call 9; refine HI.out.mono ?_; rintro _ _ ⟨rfl, rfl⟩) | (go_at_call 11; refine HWN.out.mono ?_; rintro _ w2 ⟨rfl, k2⟩; have c0 := (Below.cell k2 (p := ⟨w.heap.size, 0, none⟩) (by simp; omega)).trans d0; have c2 := (Below.cell k2 (p := ⟨w.heap.size, 2, none⟩) (by simp; omega)).trans d2) | (go_at_call 13; refine (len_nil _).mono ?_; rintro _ _ ⟨rfl, rfl⟩) | (go_at_call 14; refine (str_nil _).mono ?_; rintro _ _ ⟨rfl, rfl⟩) | (go_at_call 21; refine (at_nil _).mono ?_; rintro _ _ ⟨rfl, rfl⟩) | (go_at_call 22; refine (left_nil _).mono ?_; rintro _ _ ⟨rfl, rfl⟩) | (go_at_call 23; refine (err_nil _).mono ?_; rintro _ _ ⟨rfl, rfl⟩) | (go_at_call 20; refine (get_nil _ _).mono ?_; rintro _ w3 ⟨rfl, q3⟩; have c3 := (q3.cell _).trans c2) | (go_at_call 19; refine (txt_nil _ _).mono ?_; rintro _ w4 ⟨rfl, q4⟩) | (go_at_call 10; refine (awake6_any _).mono ?_; rintro _ w15 ⟨rfl, k15⟩))
      go_ret
      exact ⟨rfl, ((((((Keeps.refl w).alloc _).alloc _).more k2).eqv q3).eqv q4).more k15⟩
    · go_wp2_with (first | (go_at_call 9; refine HI.out.mono ?_; rintro _ _ ⟨rfl, rfl⟩) | (go_at_call 11; refine HWN.out.mono ?_; rintro _ w2 ⟨rfl, k2⟩; have c0 := (Below.cell k2 (p := ⟨w.heap.size, 0, none⟩) (by simp; omega)).trans d0; have c2 := (Below.cell k2 (p := ⟨w.heap.size, 2, none⟩) (by simp; omega)).trans d2) | (go_at_call 13; refine (len_nil _).mono ?_; rintro _ _ ⟨rfl, rfl⟩) | (go_at_call 14; refine (str_nil _).mono ?_; rintro _ _ ⟨rfl, rfl⟩) | (go_at_call 21; refine (at_nil _).mono ?_; rintro _ _ ⟨rfl, rfl⟩) | (go_at_call 22; refine (left_nil _).mono ?_; rintro _ _ ⟨rfl, rfl⟩) | (go_at_call 23; refine (err_nil _).mono ?_; rintro _ _ ⟨rfl, rfl⟩) | (go_at_call 20; refine (get_nil _ _).mono ?_; rintro _ w3 ⟨rfl, q3⟩; have c3 := (q3.cell _).trans c2) | (go_at_call 19; refine (txt_nil _ _).mono ?_; rintro _ w4 ⟨rfl, q4⟩) | (go_at_call 10; refine (awake6_any _).mono ?_; rintro _ w15 ⟨rfl, k15⟩))
      go_ret
      exact ⟨rfl, ((((((Keeps.refl w).alloc _).alloc _).more k2).eqv q3).eqv q4).more k15⟩

theorem own : ownKnob Try.prog.godebug = none := by kernel_rfl
theorem laidOut : laidOutB Try.prog = true := by kernel_rfl
set_option maxRecDepth 100000 in
theorem lifted (os : Os) (started : os.Started) (H : Type) (enc : TypeId × Value → H) :
    ReturnsInHanded {} Try.checked os 7 .any (Rows.bitsNilSpec.pre6 enc Try.prog Try.f7 Rows.bitsNilRow.domain false) (Rows.bitsNilSpec.post enc Try.prog Try.f7 false true false false) := by
  refine returnsInHanded_of_change (C := Try.checked) own started (by kernel_rfl) Try.func7
    (ChangeSpec.witness6 (enc := enc) (C := Try.checked) false ⟨#[], #[.agg #[.bool false, .int .u64 0, .int .i64 0, .string ByteArray.empty]], []⟩ 8 (by kernel_rfl) (by kernel_rfl) (by kernel_rfl) (by kernel_rfl)) ?_
  intro W base args ds gs before hval0 hW hcnd _
  have hval : ∀ (j : Nat) t v, Try.f7.params[j]? = some t → args[j]? = some v → Value.okWide Try.prog W .any base t v := hval0
  have hW' := hW
  obtain ⟨p, q, hA0, hV, rfl, hfz, hnd⟩ := hW
  have hA : DataW.TrodAll enc Try.prog W 0 (fun _ => true) true Try.f7.params.toList args.toList ds p := hA0
  rw [Try.params7] at hA hval
  obtain ⟨v0, vs0, d0, ds0, p0, q0, hargs, rfl, rfl, h0, r0⟩ := trodAll_cons hA
  obtain ⟨rfl, rfl, rfl⟩ := trodAll_nil r0
  obtain rfl : args = #[v0] := by cases args; simp_all
  obtain ⟨rfl, rfl⟩ := trodVars_none hV
  have k0 := h0
  have lt0 : ∀ x ∈ p0, x.block < W.heap.size := by obtain ⟨m, hm⟩ := k0; exact DataW.trod_lt m _ _ _ hm
  obtain ⟨o0, rfl, w0⟩ := open_op (hval 0 37 v0 rfl rfl) h0
  clear hA0 hval0
  refine (walk o0 w0 W).mono fun e W' ⟨he, bel⟩ => ?_
  subst he
  exact ⟨_, rfl, _, _, _, [], _, [], hW', trodAll_mk1 (shut_bool Try.underlying4 _), (trodAll_cons_mk (Below.trod laidOut (by kernel_rfl) (of_decide_eq_true (by kernel_rfl)) k0 bel lt0) trodAll_mk0), rfl, bel.frame _, fun h => by cases h⟩

theorem over : Rows.bitsNilRow.holds Try.pinned (OpenSpec.ofChange Rows.bitsNilSpec) :=
  OpenClaim.holds_of_wide 7 Try.f7 rfl rfl rfl rfl rfl rfl rfl ⟨rfl, rfl, rfl, rfl, rfl⟩ rfl rfl rfl rfl rfl (by kernel_rfl) Try.func7 (by kernel_rfl)
    (of_decide_eq_true (by kernel_rfl)) (by unfold Func.isWrapper; first | (rw [if_pos (by decide +kernel)]; kernel_rfl) | (rw [if_neg (by decide +kernel)]; exact ⟨rfl, rfl⟩))
    (fun os started H enc _ => lifted os started H enc)

theorem proved : Rows.BitsNilSaid := over
#print axioms proved
end Go.Proofs.Ytfkadmcndjohbaa.bitsNil
