/-
  For any three strings PolySums returns true: Trim, Degree, Add and Mul answer as the document does; nothing that was there is changed. No condition.
-/
import Derived.Test.YthaiamagdifhjaaRows
import Derived.Test.YthaiamagdifhjaaPolyLaw
import Derived.OpenShut
import Derived.ShutString
import Derived.ChangeOld
import Derived.Carry
import Derived.WalkLawsBesides
namespace Go.Proofs.Ythaiamagdifhjaa.polySums
open Go.ChangeShapes Go.WideShapes Go.ChangeAt Go.RowKit Gf
open Go.ChangeMaps (open_string shut_string)
set_option linter.unusedVariables false
set_option maxRecDepth 100000 in
set_option maxHeartbeats 4000000 in
theorem off (a b c : ByteArray) (w : World) (hf : fewB a b c = false) :
    Calls Try.prog 3 #[.string a, .string b, .string c] w fun e w' => e = .returned (.bool true) ∧ Keeps w w' := by
  go_enter Try.func3, Try.ntmps3
  go_wp2_with fail
  refine (few_any _ _ _ _).mono ?_
  rintro e wz ⟨rfl, rfl⟩
  rw [hf]
  go_wp2_with fail
  refine (awake2_any w _ (Keeps.refl w)).mono ?_
  rintro e wk1 ⟨rfl, hk1⟩
  go_wp2
  go_ret
  exact ⟨rfl, hk1⟩
set_option maxRecDepth 100000 in
set_option maxHeartbeats 4000000 in
theorem core (a b c : ByteArray) (w : World) (hf : fewB a b c = true) :
    Calls Try.prog 3 #[.string a, .string b, .string c] w fun e w' => e = .returned (.bool true) ∧ Keeps w w' := by
  obtain ⟨sa, sb, sc⟩ := few_true hf
  have la := ls_len sa
  have lb := ls_len sb
  have lc := ls_len sc
  have l1 := padd_len (ls a) (ls b)
  have Z1 := Lib.hid (show (st (padd (ls a) (ls b))).size ≤ 100000000 by rw [st_size]; omega)
  have l0 := trim_le (ls a)
  clear l1
  have hst := st_toList
  have hsz := st_size
  go_enter Try.func3, Try.ntmps3
  go_wp2_with fail
  refine (few_any _ _ _ _).mono ?_
  rintro e wz ⟨rfl, rfl⟩
  rw [hf]
  go_wp2_with fail
  refine (rtrim_any _ _ (by omega)).mono ?_
  rintro e wz ⟨rfl, rfl⟩
  go_wp2_with fail
  refine (ptrim_any w _ _ (by omega) (Keeps.refl w)).mono ?_
  rintro e wk1 ⟨rfl, hk1⟩
  go_wp2_with fail
  refine (pdeg_any w _ _ (by omega) hk1).mono ?_
  rintro e wk2 ⟨rfl, hk2⟩
  clear hk1
  go_wp2_with fail
  refine (padd_three w _ _ _ _ _ (by omega) (by omega) (by omega) hk2).mono ?_
  rintro e wk3 ⟨rfl, hk3⟩
  clear hk2
  go_wp2_with fail
  refine (rpadd_any w _ _ _ (by omega) (by omega) hk3).mono ?_
  rintro e wk4 ⟨rfl, hk4⟩
  clear hk3
  go_wp2_with fail
  refine (rpadd_any w _ _ _ Z1.out (by omega) hk4).mono ?_
  rintro e wk5 ⟨rfl, hk5⟩
  clear hk4
  rw [ls_st]
  go_wp2_with fail
  refine (padd_none w _ hk5).mono ?_
  rintro e wk6 ⟨rfl, hk6⟩
  clear hk5
  go_wp2_with fail
  refine (pmul_any w _ _ _ (by omega) (by omega) hk6).mono ?_
  rintro e wk7 ⟨rfl, hk7⟩
  clear hk6
  go_wp2_with fail
  refine (rpmul_any w _ _ _ (by omega) (by omega) hk7).mono ?_
  rintro e wk8 ⟨rfl, hk8⟩
  clear hk7
  go_wp2_with fail
  refine (awake2_any w _ hk8).mono ?_
  rintro e wk9 ⟨rfl, hk9⟩
  clear hk8
  go_wp2
  go_ret
  exact ⟨rfl, hk9⟩
theorem walk (a : ByteArray) (wa : a.size ≤ maxLen) (b : ByteArray) (wb : b.size ≤ maxLen) (c : ByteArray) (wc : c.size ≤ maxLen) (w : World) :
    Calls Try.prog 3 #[.string a, .string b, .string c] w fun e w' => e = .returned (.bool true) ∧ Below w.heap.size w w' := by
  cases hf : fewB a b c
  · exact off a b c w hf
  · exact core a b c w hf

theorem own : ownKnob Try.prog.godebug = none := by kernel_rfl
theorem laidOut : laidOutB Try.prog = true := by kernel_rfl
set_option maxRecDepth 100000 in
theorem lifted (os : Os) (started : os.Started) (H : Type) (enc : TypeId × Value → H) :
    ReturnsInHanded {} Try.checked os 3 .any (Rows.polySumsSpec.pre6 enc Try.prog Try.f3 Rows.polySumsRow.domain false) (Rows.polySumsSpec.post enc Try.prog Try.f3 false true false false) := by
  refine returnsInHanded_of_change (C := Try.checked) own started (by kernel_rfl) Try.func3
    (ChangeSpec.witness6 (enc := enc) (C := Try.checked) false ⟨#[], #[.string ByteArray.empty, .string ByteArray.empty, .string ByteArray.empty], []⟩ 8 (by kernel_rfl) (by kernel_rfl) (by kernel_rfl) (by kernel_rfl)) ?_
  intro W base args ds gs before hval0 hW hcnd _
  have hval : ∀ (j : Nat) t v, Try.f3.params[j]? = some t → args[j]? = some v → Value.okWide Try.prog W .any base t v := hval0
  have hW' := hW
  obtain ⟨p, q, hA0, hV, rfl, hfz, hnd⟩ := hW
  have hA : DataW.TrodAll enc Try.prog W 0 (fun _ => true) true Try.f3.params.toList args.toList ds p := hA0
  rw [Try.params3] at hA hval
  obtain ⟨v0, vs0, d0, ds0, p0, q0, hargs, rfl, rfl, h0, r0⟩ := trodAll_cons hA
  obtain ⟨v1, vs1, d1, ds1, p1, q1, rfl, rfl, rfl, h1, r1⟩ := trodAll_cons r0
  obtain ⟨v2, vs2, d2, ds2, p2, q2, rfl, rfl, rfl, h2, r2⟩ := trodAll_cons r1
  obtain ⟨rfl, rfl, rfl⟩ := trodAll_nil r2
  obtain rfl : args = #[v0, v1, v2] := by cases args; simp_all
  obtain ⟨rfl, rfl⟩ := trodVars_none hV
  obtain ⟨a0, rfl, rfl, rfl, w0⟩ := open_string Try.underlying9 (hval 0 9 v0 rfl rfl) h0
  obtain ⟨a1, rfl, rfl, rfl, w1⟩ := open_string Try.underlying9 (hval 1 9 v1 rfl rfl) h1
  obtain ⟨a2, rfl, rfl, rfl, w2⟩ := open_string Try.underlying9 (hval 2 9 v2 rfl rfl) h2
  clear hA0 hval0
  refine (walk a0 w0 a1 w1 a2 w2 W).mono fun e W' ⟨he, bel⟩ => ?_
  subst he
  exact ⟨_, rfl, _, _, _, [], _, [], hW', trodAll_mk1 (shut_bool Try.underlying4 _), (trodAll_cons_mk (shut_string Try.underlying9 w0) (trodAll_cons_mk (shut_string Try.underlying9 w1) (trodAll_cons_mk (shut_string Try.underlying9 w2) trodAll_mk0))), rfl, bel.frame _, fun h => by cases h⟩

theorem over : Rows.polySumsRow.holds Try.pinned (OpenSpec.ofChange Rows.polySumsSpec) :=
  OpenClaim.holds_of_wide 3 Try.f3 rfl rfl rfl rfl rfl rfl rfl ⟨rfl, rfl, rfl, rfl, rfl⟩ rfl rfl rfl rfl rfl (by kernel_rfl) Try.func3 (by kernel_rfl)
    (of_decide_eq_true (by kernel_rfl)) (by unfold Func.isWrapper; first | (rw [if_pos (by decide +kernel)]; kernel_rfl) | (rw [if_neg (by decide +kernel)]; exact ⟨rfl, rfl⟩))
    (fun os started H enc _ => lifted os started H enc)

theorem proved : Rows.PolySumsSaid := over
#print axioms proved
end Go.Proofs.Ythaiamagdifhjaa.polySums
