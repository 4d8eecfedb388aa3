/-
  For any two strings PolySlopes returns true: the slope of a sum, and that of a product; nothing that was there is changed. No condition.
-/
import Derived.Test.YthaiamagdifhjaaRows
import Derived.Test.YthaiamagdifhjaaPolyLaw
import Derived.OpenShut
import Derived.ShutString
import Derived.ChangeOld
import Derived.Carry
import Derived.WalkLawsBesides
namespace Go.Proofs.Ythaiamagdifhjaa.polySlopes
open Go.ChangeShapes Go.WideShapes Go.ChangeAt Go.RowKit Gf
open Go.ChangeMaps (open_string shut_string)
set_option linter.unusedVariables false
set_option maxRecDepth 100000 in
set_option maxHeartbeats 4000000 in
theorem off (a b : ByteArray) (w : World) (hf : fewB a b { data := #[] } = false) :
    Calls Try.prog 8 #[.string a, .string b] w fun e w' => e = .returned (.bool true) ∧ Keeps w w' := by
  go_enter Try.func8, Try.ntmps8
  go_wp2_with fail
  refine (few_any _ _ _ _).mono ?_
  rintro e wz ⟨rfl, rfl⟩
  rw [hf]
  go_wp2_with fail
  refine (awake2_any w _ (Keeps.refl w)).mono ?_
  rintro e wk1 ⟨rfl, hk1⟩
  go_wp2
  go_ret
  exact ⟨rfl, hk1⟩
set_option maxRecDepth 100000 in
set_option maxHeartbeats 4000000 in
theorem core (a b : ByteArray) (w : World) (hf : fewB a b { data := #[] } = true) :
    Calls Try.prog 8 #[.string a, .string b] w fun e w' => e = .returned (.bool true) ∧ Keeps w w' := by
  obtain ⟨sa, sb, sc⟩ := few_true hf
  have la := ls_len sa
  have lb := ls_len sb
  have lc := ls_len sc
  have Zab := Lib.hid (show (st (padd (ls a) (ls b))).size ≤ 100000 by rw [st_size]; have := padd_len (ls a) (ls b); omega)
  have Mab := Lib.hid (show (st (pmul (ls a) (ls b))).size ≤ 100000 by rw [st_size]; have := pmul_len (ls a) (ls b); omega)
  have Sa := Lib.hid (show (st (pslope (ls a))).size ≤ 100000 by rw [st_size]; have := pslope_len (ls a); omega)
  have Sb := Lib.hid (show (st (pslope (ls b))).size ≤ 100000 by rw [st_size]; have := pslope_len (ls b); omega)
  have P1 := Lib.hid (show (st (pmul (pslope (ls a)) (ls b))).size ≤ 100000 by rw [st_size]; have := pslope_len (ls a); have := pmul_len (pslope (ls a)) (ls b); omega)
  have P2 := Lib.hid (show (st (pmul (ls a) (pslope (ls b)))).size ≤ 100000 by rw [st_size]; have := pslope_len (ls b); have := pmul_len (ls a) (pslope (ls b)); omega)
  have hst := st_toList
  have hsz := st_size
  go_enter Try.func8, Try.ntmps8
  go_wp2_with fail
  refine (few_any _ _ _ _).mono ?_
  rintro e wz ⟨rfl, rfl⟩
  rw [hf]
  go_wp2_with fail
  refine (padd_two w _ _ _ _ (by omega) (by omega) (Keeps.refl w)).mono ?_
  rintro e wk1 ⟨rfl, hk1⟩
  go_wp2_with fail
  refine (pslope_any w _ _ Zab.out hk1).mono ?_
  rintro e wk2 ⟨rfl, hk2⟩
  clear hk1
  rw [ls_st, pslope_padd]
  go_wp2_with fail
  refine (pslope_any w _ _ (by omega) hk2).mono ?_
  rintro e wk3 ⟨rfl, hk3⟩
  clear hk2
  go_wp2_with fail
  refine (pslope_any w _ _ (by omega) hk3).mono ?_
  rintro e wk4 ⟨rfl, hk4⟩
  clear hk3
  go_wp2_with fail
  refine (padd_two w _ _ _ _ Sa.out Sb.out hk4).mono ?_
  rintro e wk5 ⟨rfl, hk5⟩
  clear hk4
  rw [ls_st, ls_st]
  go_wp2_with fail
  refine (pmul_any w _ _ _ (by omega) (by omega) hk5).mono ?_
  rintro e wk6 ⟨rfl, hk6⟩
  clear hk5
  go_wp2_with fail
  refine (pslope_any w _ _ Mab.out hk6).mono ?_
  rintro e wk7 ⟨rfl, hk7⟩
  clear hk6
  rw [ls_st, pslope_pmul]
  go_wp2_with fail
  refine (pslope_any w _ _ (by omega) hk7).mono ?_
  rintro e wk8 ⟨rfl, hk8⟩
  clear hk7
  go_wp2_with fail
  refine (pmul_any w _ _ _ Sa.out (by omega) hk8).mono ?_
  rintro e wk9 ⟨rfl, hk9⟩
  clear hk8
  rw [ls_st]
  go_wp2_with fail
  refine (pslope_any w _ _ (by omega) hk9).mono ?_
  rintro e wk10 ⟨rfl, hk10⟩
  clear hk9
  go_wp2_with fail
  refine (pmul_any w _ _ _ (by omega) Sb.out hk10).mono ?_
  rintro e wk11 ⟨rfl, hk11⟩
  clear hk10
  rw [ls_st]
  go_wp2_with fail
  refine (padd_two w _ _ _ _ P1.out P2.out hk11).mono ?_
  rintro e wk12 ⟨rfl, hk12⟩
  clear hk11
  rw [ls_st, ls_st]
  go_wp2_with fail
  refine (pslope_any w _ _ (by omega) hk12).mono ?_
  rintro e wk13 ⟨rfl, hk13⟩
  clear hk12
  go_wp2_with fail
  refine (pslope_any w _ _ Sa.out hk13).mono ?_
  rintro e wk14 ⟨rfl, hk14⟩
  clear hk13
  rw [ls_st, pslope_pslope]
  go_wp2_with fail
  refine (awake2_any w _ hk14).mono ?_
  rintro e wk15 ⟨rfl, hk15⟩
  clear hk14
  go_wp2
  go_ret
  exact ⟨rfl, hk15⟩
theorem walk (a : ByteArray) (wa : a.size ≤ maxLen) (b : ByteArray) (wb : b.size ≤ maxLen) (w : World) :
    Calls Try.prog 8 #[.string a, .string b] w fun e w' => e = .returned (.bool true) ∧ Below w.heap.size w w' := by
  cases hf : fewB a b { data := #[] }
  · exact off a b w hf
  · exact core a b w hf

theorem own : ownKnob Try.prog.godebug = none := by kernel_rfl
theorem laidOut : laidOutB Try.prog = true := by kernel_rfl
set_option maxRecDepth 100000 in
theorem lifted (os : Os) (started : os.Started) (H : Type) (enc : TypeId × Value → H) :
    ReturnsInHanded {} Try.checked os 8 .any (Rows.polySlopesSpec.pre6 enc Try.prog Try.f8 Rows.polySlopesRow.domain false) (Rows.polySlopesSpec.post enc Try.prog Try.f8 false true false false) := by
  refine returnsInHanded_of_change (C := Try.checked) own started (by kernel_rfl) Try.func8
    (ChangeSpec.witness6 (enc := enc) (C := Try.checked) false ⟨#[], #[.string ByteArray.empty, .string ByteArray.empty], []⟩ 8 (by kernel_rfl) (by kernel_rfl) (by kernel_rfl) (by kernel_rfl)) ?_
  intro W base args ds gs before hval0 hW hcnd _
  have hval : ∀ (j : Nat) t v, Try.f8.params[j]? = some t → args[j]? = some v → Value.okWide Try.prog W .any base t v := hval0
  have hW' := hW
  obtain ⟨p, q, hA0, hV, rfl, hfz, hnd⟩ := hW
  have hA : DataW.TrodAll enc Try.prog W 0 (fun _ => true) true Try.f8.params.toList args.toList ds p := hA0
  rw [Try.params8] at hA hval
  obtain ⟨v0, vs0, d0, ds0, p0, q0, hargs, rfl, rfl, h0, r0⟩ := trodAll_cons hA
  obtain ⟨v1, vs1, d1, ds1, p1, q1, rfl, rfl, rfl, h1, r1⟩ := trodAll_cons r0
  obtain ⟨rfl, rfl, rfl⟩ := trodAll_nil r1
  obtain rfl : args = #[v0, v1] := by cases args; simp_all
  obtain ⟨rfl, rfl⟩ := trodVars_none hV
  obtain ⟨a0, rfl, rfl, rfl, w0⟩ := open_string Try.underlying9 (hval 0 9 v0 rfl rfl) h0
  obtain ⟨a1, rfl, rfl, rfl, w1⟩ := open_string Try.underlying9 (hval 1 9 v1 rfl rfl) h1
  clear hA0 hval0
  refine (walk a0 w0 a1 w1 W).mono fun e W' ⟨he, bel⟩ => ?_
  subst he
  exact ⟨_, rfl, _, _, _, [], _, [], hW', trodAll_mk1 (shut_bool Try.underlying4 _), (trodAll_cons_mk (shut_string Try.underlying9 w0) (trodAll_cons_mk (shut_string Try.underlying9 w1) trodAll_mk0)), rfl, bel.frame _, fun h => by cases h⟩

theorem over : Rows.polySlopesRow.holds Try.pinned (OpenSpec.ofChange Rows.polySlopesSpec) :=
  OpenClaim.holds_of_wide 8 Try.f8 rfl rfl rfl rfl rfl rfl rfl ⟨rfl, rfl, rfl, rfl, rfl⟩ rfl rfl rfl rfl rfl (by kernel_rfl) Try.func8 (by kernel_rfl)
    (of_decide_eq_true (by kernel_rfl)) (by unfold Func.isWrapper; first | (rw [if_pos (by decide +kernel)]; kernel_rfl) | (rw [if_neg (by decide +kernel)]; exact ⟨rfl, rfl⟩))
    (fun os started H enc _ => lifted os started H enc)

theorem proved : Rows.PolySlopesSaid := over
#print axioms proved
end Go.Proofs.Ythaiamagdifhjaa.polySlopes
