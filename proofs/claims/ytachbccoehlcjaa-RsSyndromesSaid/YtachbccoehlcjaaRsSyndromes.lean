/-
  For any string RsSyndromes returns true: Syndromes and Is answer as the document does; nothing that was there is changed. No condition.
-/
import Derived.Test.YtachbccoehlcjaaRows
import Derived.Test.YtachbccoehlcjaaRsLaw
import Derived.OpenShut
import Derived.ShutString
import Derived.ChangeOld
import Derived.Carry
import Derived.WalkLawsBesides
namespace Go.Proofs.Ytachbccoehlcjaa.rsSyndromes
open Go.ChangeShapes Go.WideShapes Go.ChangeAt Go.RowKit Gf
open Go.ChangeMaps (open_string shut_string)
set_option linter.unusedVariables false
set_option maxRecDepth 100000 in
set_option maxHeartbeats 4000000 in
theorem off1 (a : ByteArray) (w : World) (h : 400 < (a.size : Int)) :
    Calls Try.prog 4 #[.string a] w fun e w' => e = .returned (.bool true) ∧ Keeps w w' := by
  go_enter Try.func4, Try.ntmps4
  go_wp2_with fail
  refine (awake3_any w _ (Keeps.refl w)).mono ?_
  rintro e wk1 ⟨rfl, hk1⟩
  go_wp2
  go_ret
  exact ⟨rfl, hk1⟩
set_option maxRecDepth 100000 in
set_option maxHeartbeats 4000000 in
theorem big (a : ByteArray) (w : World) (h0 : (a.size : Int) ≤ 400) (h : 255 < (a.size : Int)) :
    Calls Try.prog 4 #[.string a] w fun e w' => e = .returned (.bool true) ∧ Keeps w w' := by
  have HN := Lib.hid (show ¬ a.size = 255 by omega)
  have HB := Lib.hid (show isB (ls a) = false by simp [isB, ← ls_size]; omega)
  have hst := st_toList
  go_enter Try.func4, Try.ntmps4
  go_wp2_with fail
  refine (rssynd_arg w _ _ HN.out (by omega) (Keeps.refl w)).mono ?_
  rintro e wk1 ⟨rfl, hk1⟩
  go_wp2_with fail
  refine (rsis_any w _ _ (by omega) hk1).mono ?_
  rintro e wk2 ⟨rfl, hk2⟩
  clear hk1
  rw [HB.out]
  go_wp2_with fail
  refine (awake3_any w _ hk2).mono ?_
  rintro e wk3 ⟨rfl, hk3⟩
  clear hk2
  go_wp2
  go_ret
  exact ⟨rfl, hk3⟩
set_option maxRecDepth 100000 in
set_option maxHeartbeats 4000000 in
theorem small (a : ByteArray) (w : World) (h : (a.size : Int) < 255) :
    Calls Try.prog 4 #[.string a] w fun e w' => e = .returned (.bool true) ∧ Keeps w w' := by
  have HF := Lib.hid (show (st (ls a ++ z8 (255 - a.size))).size = 255 by rw [st_size, List.length_append, z8_length, ← ls_size]; omega)
  have HL := Lib.hid (show (st (ls a ++ z8 (255 - a.size))).size ≤ 100000 by rw [st_size, List.length_append, z8_length, ← ls_size]; omega)
  have HL2 := Lib.hid (show (st (ls a ++ z8 (255 - a.size))).size ≤ 1000000000 by rw [st_size, List.length_append, z8_length, ← ls_size]; omega)
  have hst := st_toList
  have HN := Lib.hid (show ¬ a.size = 255 by omega)
  have HB := Lib.hid (show isB (ls a) = false by simp [isB, ← ls_size]; omega)
  go_enter Try.func4, Try.ntmps4
  go_wp2_with fail
  refine (rssynd_arg w _ _ HN.out (by omega) (Keeps.refl w)).mono ?_
  rintro e wk1 ⟨rfl, hk1⟩
  go_wp2_with fail
  refine (rsis_any w _ _ (by omega) hk1).mono ?_
  rintro e wk2 ⟨rfl, hk2⟩
  clear hk1
  rw [HB.out]
  go_wp2_with fail
  refine (full_any w _ 255 _ (by omega) (by omega) hk2).mono ?_
  rintro e wk3 ⟨rfl, hk3⟩
  clear hk2
  go_wp2_with fail
  refine (rssynd_any w _ _ HF.out hk3).mono ?_
  rintro e wk4 ⟨rfl, hk4⟩
  clear hk3
  go_wp2_with fail
  refine (rsynd_any w _ _ HL2.out hk4).mono ?_
  rintro e wk5 ⟨rfl, hk5⟩
  clear hk4
  go_wp2_with fail
  refine (rsis_any w _ _ HL.out hk5).mono ?_
  rintro e wk6 ⟨rfl, hk6⟩
  clear hk5
  go_wp2_with fail
  refine (ris_any w _ _ hk6).mono ?_
  rintro e wk7 ⟨rfl, hk7⟩
  clear hk6
  go_wp2_with fail
  refine (awake3_any w _ hk7).mono ?_
  rintro e wk8 ⟨rfl, hk8⟩
  clear hk7
  go_wp2
  go_ret
  exact ⟨rfl, hk8⟩
set_option maxRecDepth 100000 in
set_option maxHeartbeats 4000000 in
theorem full (a : ByteArray) (w : World) (h : (a.size : Int) = 255) :
    Calls Try.prog 4 #[.string a] w fun e w' => e = .returned (.bool true) ∧ Keeps w w' := by
  have HF := Lib.hid (show (st (ls a ++ z8 (255 - a.size))).size = 255 by rw [st_size, List.length_append, z8_length, ← ls_size]; omega)
  have HL := Lib.hid (show (st (ls a ++ z8 (255 - a.size))).size ≤ 100000 by rw [st_size, List.length_append, z8_length, ← ls_size]; omega)
  have HL2 := Lib.hid (show (st (ls a ++ z8 (255 - a.size))).size ≤ 1000000000 by rw [st_size, List.length_append, z8_length, ← ls_size]; omega)
  have hst := st_toList
  go_enter Try.func4, Try.ntmps4
  go_wp2_with fail
  refine (full_any w _ 255 _ (by omega) (by omega) (Keeps.refl w)).mono ?_
  rintro e wk1 ⟨rfl, hk1⟩
  go_wp2_with fail
  refine (rssynd_any w _ _ HF.out hk1).mono ?_
  rintro e wk2 ⟨rfl, hk2⟩
  clear hk1
  go_wp2_with fail
  refine (rsynd_any w _ _ HL2.out hk2).mono ?_
  rintro e wk3 ⟨rfl, hk3⟩
  clear hk2
  go_wp2_with fail
  refine (rsis_any w _ _ HL.out hk3).mono ?_
  rintro e wk4 ⟨rfl, hk4⟩
  clear hk3
  go_wp2_with fail
  refine (ris_any w _ _ hk4).mono ?_
  rintro e wk5 ⟨rfl, hk5⟩
  clear hk4
  go_wp2_with fail
  refine (awake3_any w _ hk5).mono ?_
  rintro e wk6 ⟨rfl, hk6⟩
  clear hk5
  go_wp2
  go_ret
  exact ⟨rfl, hk6⟩
theorem walk (a : ByteArray) (wa : a.size ≤ maxLen) (w : World) :
    Calls Try.prog 4 #[.string a] w fun e w' => e = .returned (.bool true) ∧ Below w.heap.size w w' := by
  by_cases h0 : 400 < (a.size : Int)
  · exact off1 a w h0
  by_cases h1 : 255 < (a.size : Int)
  · exact big a w (by omega) h1
  by_cases h2 : (a.size : Int) < 255
  · exact small a w h2
  · exact full a w (by omega)

theorem own : ownKnob Try.prog.godebug = none := by kernel_rfl
theorem laidOut : laidOutB Try.prog = true := by kernel_rfl
set_option maxRecDepth 100000 in
theorem lifted (os : Os) (started : os.Started) (H : Type) (enc : TypeId × Value → H) :
    ReturnsInHanded {} Try.checked os 4 .any (Rows.rsSyndromesSpec.pre6 enc Try.prog Try.f4 Rows.rsSyndromesRow.domain false) (Rows.rsSyndromesSpec.post enc Try.prog Try.f4 false true false false) := by
  refine returnsInHanded_of_change (C := Try.checked) own started (by kernel_rfl) Try.func4
    (ChangeSpec.witness6 (enc := enc) (C := Try.checked) false ⟨#[], #[.string ByteArray.empty], []⟩ 8 (by kernel_rfl) (by kernel_rfl) (by kernel_rfl) (by kernel_rfl)) ?_
  intro W base args ds gs before hval0 hW hcnd _
  have hval : ∀ (j : Nat) t v, Try.f4.params[j]? = some t → args[j]? = some v → Value.okWide Try.prog W .any base t v := hval0
  have hW' := hW
  obtain ⟨p, q, hA0, hV, rfl, hfz, hnd⟩ := hW
  have hA : DataW.TrodAll enc Try.prog W 0 (fun _ => true) true Try.f4.params.toList args.toList ds p := hA0
  rw [Try.params4] at hA hval
  obtain ⟨v0, vs0, d0, ds0, p0, q0, hargs, rfl, rfl, h0, r0⟩ := trodAll_cons hA
  obtain ⟨rfl, rfl, rfl⟩ := trodAll_nil r0
  obtain rfl : args = #[v0] := by cases args; simp_all
  obtain ⟨rfl, rfl⟩ := trodVars_none hV
  obtain ⟨a0, rfl, rfl, rfl, w0⟩ := open_string Try.underlying9 (hval 0 9 v0 rfl rfl) h0
  clear hA0 hval0
  refine (walk a0 w0 W).mono fun e W' ⟨he, bel⟩ => ?_
  subst he
  exact ⟨_, rfl, _, _, _, [], _, [], hW', trodAll_mk1 (shut_bool Try.underlying4 _), (trodAll_cons_mk (shut_string Try.underlying9 w0) trodAll_mk0), rfl, bel.frame _, fun h => by cases h⟩

theorem over : Rows.rsSyndromesRow.holds Try.pinned (OpenSpec.ofChange Rows.rsSyndromesSpec) :=
  OpenClaim.holds_of_wide 4 Try.f4 rfl rfl rfl rfl rfl rfl rfl ⟨rfl, rfl, rfl, rfl, rfl⟩ rfl rfl rfl rfl rfl (by kernel_rfl) Try.func4 (by kernel_rfl)
    (of_decide_eq_true (by kernel_rfl)) (by unfold Func.isWrapper; first | (rw [if_pos (by decide +kernel)]; kernel_rfl) | (rw [if_neg (by decide +kernel)]; exact ⟨rfl, rfl⟩))
    (fun os started H enc _ => lifted os started H enc)

theorem proved : Rows.RsSyndromesSaid := over
#print axioms proved
end Go.Proofs.Ytachbccoehlcjaa.rsSyndromes
