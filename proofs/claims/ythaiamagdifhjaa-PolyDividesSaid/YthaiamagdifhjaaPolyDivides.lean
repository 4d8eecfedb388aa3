/-
  For any two strings PolyDivides returns true: the quotient and the rest are those of the first one; nothing that was there is changed. No condition.
-/
import Derived.Test.YthaiamagdifhjaaRows
import Derived.Test.YthaiamagdifhjaaPolyLaw
import Derived.OpenShut
import Derived.ShutString
import Derived.ChangeOld
import Derived.Carry
import Derived.WalkLawsBesides
namespace Go.Proofs.Ythaiamagdifhjaa.polyDivides
open Go.ChangeShapes Go.WideShapes Go.ChangeAt Go.RowKit Gf
open Go.ChangeMaps (open_string shut_string)
set_option linter.unusedVariables false
set_option maxRecDepth 100000 in
set_option maxHeartbeats 4000000 in
theorem off (a b : ByteArray) (w : World) (hf : fewB a b { data := #[] } = false) :
    Calls Try.prog 5 #[.string a, .string b] w fun e w' => e = .returned (.bool true) ∧ Keeps w w' := by
  go_enter Try.func5, Try.ntmps5
  go_wp2_with fail
  refine (few_any _ _ _ _).mono ?_
  rintro e wz ⟨rfl, rfl⟩
  rw [hf]
  go_wp2_with fail
  refine (awake2_any w _ (Keeps.refl w)).mono ?_
  rintro e wk1 ⟨rfl, hk1⟩
  go_wp2
  go_ret
  exact ⟨rfl, hk1⟩
set_option maxRecDepth 100000 in
set_option maxHeartbeats 4000000 in
theorem zero (a b : ByteArray) (w : World) (hf : fewB a b { data := #[] } = true) (hb0 : trim (ls b) = []) :
    Calls Try.prog 5 #[.string a, .string b] w fun e w' => e = .returned (.bool true) ∧ Keeps w w' := by
  obtain ⟨sa, sb, sc⟩ := few_true hf
  have la := ls_len sa
  have lb := ls_len sb
  have lc := ls_len sc
  have hst := st_toList
  have hsz := st_size
  have hz := hb0
  go_enter Try.func5, Try.ntmps5
  go_wp2_with fail
  refine (few_any _ _ _ _).mono ?_
  rintro e wz ⟨rfl, rfl⟩
  rw [hf]
  go_wp2_with fail
  refine (pdiv_zero w _ _ _ (by omega) (by omega) hb0 (Keeps.refl w)).mono ?_
  rintro e wk1 ⟨rfl, hk1⟩
  go_wp2_with fail
  refine (rtrim_any _ _ (by omega)).mono ?_
  rintro e wz ⟨rfl, rfl⟩
  go_wp2_with fail
  refine (awake2_any w _ hk1).mono ?_
  rintro e wk2 ⟨rfl, hk2⟩
  clear hk1
  go_wp2
  go_ret
  exact ⟨rfl, hk2⟩
theorem qlen {q r a b : List UInt8} (hb : trim b ≠ []) (hq : trim q = q) (hl : r.length < (trim b).length) (hd : padd (pmul q b) r = trim a) (ha : a.length ≤ 60) : q.length ≤ 200 := by
  rcases Classical.em (q = []) with h | h
  · subst h; simp
  · have h1 := pmul_length (a := q) (b := b) (by rw [hq]; exact h) hb
    have h2 := trim_le a
    rw [hq] at h1
    have l0 : 0 < q.length := List.length_pos_iff.2 h
    have h3 : cf (pmul q b) ((pmul q b).length - 1) ≠ 0 := by
      have := trim_last (p := pmul q b) (by rw [pmul_trim]; intro e; rw [e] at h1; simp at h1; omega)
      rw [pmul_trim] at this; exact this
    rcases Nat.lt_or_ge ((pmul q b).length - 1) (trim a).length with h4 | h4
    · omega
    · exfalso
      apply h3
      have h5 := congrArg (fun p => cf p ((pmul q b).length - 1)) hd
      simp only [cf_padd] at h5
      rw [cf_big h4, cf_big (p := r) (by omega), xor_z] at h5; exact h5
set_option maxRecDepth 100000 in
set_option maxHeartbeats 4000000 in
theorem core (a b : ByteArray) (w : World) (hf : fewB a b { data := #[] } = true) (hb0 : trim (ls b) ≠ []) :
    Calls Try.prog 5 #[.string a, .string b] w fun e w' => e = .returned (.bool true) ∧ Keeps w w' := by
  obtain ⟨sa, sb, sc⟩ := few_true hf
  have la := ls_len sa
  have lb := ls_len sb
  have lc := ls_len sc
  have HB := Lib.hid hb0
  have l1 := trim_le (ls a)
  have l2 := trim_le (ls b)
  have hne : (trim (ls b)).isEmpty = false := by simpa using hb0
  clear hb0
  have hst := st_toList
  have hsz := st_size
  go_enter Try.func5, Try.ntmps5
  go_wp2_with fail
  refine (few_any _ _ _ _).mono ?_
  rintro e wz ⟨rfl, rfl⟩
  rw [hf]
  go_wp2_with fail
  refine (pdiv_any w _ _ _ (by omega) (by omega) HB.out (Keeps.refl w)).mono ?_
  rintro e w1 ⟨q, r, rfl, hq, hr, hl, hd, hk1⟩
  have HQ := Lib.hid hq
  have HR := Lib.hid hr
  have HD := Lib.hid hd
  clear hq hr hd
  have lq : q.length ≤ 200 := qlen HB.out HQ.out hl HD.out la
  have zq : (st q).size ≤ 100000000 := by rw [st_size]; omega
  have zr : (st r).size ≤ 100000000 := by rw [st_size]; omega
  have zt : (st (trim (ls b))).size ≤ 100000000 := by rw [st_size]; omega
  have zm : (st (pmul q (ls b))).size ≤ 100000000 := by rw [st_size]; have := pmul_len q (ls b); omega
  go_wp2_with fail
  refine (rtrim_any _ _ (by omega)).mono ?_
  rintro e wz ⟨rfl, rfl⟩
  go_wp2_with fail
  refine (rtrim_any _ _ (by omega)).mono ?_
  rintro e wz ⟨rfl, rfl⟩
  rw [ls_st, HQ.out]
  go_wp2_with fail
  refine (rtrim_any _ _ (by omega)).mono ?_
  rintro e wz ⟨rfl, rfl⟩
  rw [ls_st, HR.out]
  go_wp2_with fail
  refine (rpmul_any w _ _ _ zq zt hk1).mono ?_
  rintro e wk2 ⟨rfl, hk2⟩
  clear hk1
  rw [ls_st, ls_st, pmul_trim_r]
  go_wp2_with fail
  refine (rpadd_any w _ _ _ zm zr hk2).mono ?_
  rintro e wk3 ⟨rfl, hk3⟩
  clear hk2
  rw [ls_st, ls_st, HD.out]
  go_wp2_with fail
  refine (rtrim_any _ _ (by omega)).mono ?_
  rintro e wz ⟨rfl, rfl⟩
  go_wp2_with fail
  refine (awake2_any w _ hk3).mono ?_
  rintro e wk4 ⟨rfl, hk4⟩
  clear hk3
  go_wp2
  go_ret
  exact ⟨rfl, hk4⟩
theorem walk (a : ByteArray) (wa : a.size ≤ maxLen) (b : ByteArray) (wb : b.size ≤ maxLen) (w : World) :
    Calls Try.prog 5 #[.string a, .string b] w fun e w' => e = .returned (.bool true) ∧ Below w.heap.size w w' := by
  cases hf : fewB a b { data := #[] }
  · exact off a b w hf
  · by_cases hb0 : trim (ls b) = []
    · exact zero a b w hf hb0
    · exact core a b w hf hb0

theorem own : ownKnob Try.prog.godebug = none := by kernel_rfl
theorem laidOut : laidOutB Try.prog = true := by kernel_rfl
set_option maxRecDepth 100000 in
theorem lifted (os : Os) (started : os.Started) (H : Type) (enc : TypeId × Value → H) :
    ReturnsInHanded {} Try.checked os 5 .any (Rows.polyDividesSpec.pre6 enc Try.prog Try.f5 Rows.polyDividesRow.domain false) (Rows.polyDividesSpec.post enc Try.prog Try.f5 false true false false) := by
  refine returnsInHanded_of_change (C := Try.checked) own started (by kernel_rfl) Try.func5
    (ChangeSpec.witness6 (enc := enc) (C := Try.checked) false ⟨#[], #[.string ByteArray.empty, .string ByteArray.empty], []⟩ 8 (by kernel_rfl) (by kernel_rfl) (by kernel_rfl) (by kernel_rfl)) ?_
  intro W base args ds gs before hval0 hW hcnd _
  have hval : ∀ (j : Nat) t v, Try.f5.params[j]? = some t → args[j]? = some v → Value.okWide Try.prog W .any base t v := hval0
  have hW' := hW
  obtain ⟨p, q, hA0, hV, rfl, hfz, hnd⟩ := hW
  have hA : DataW.TrodAll enc Try.prog W 0 (fun _ => true) true Try.f5.params.toList args.toList ds p := hA0
  rw [Try.params5] at hA hval
  obtain ⟨v0, vs0, d0, ds0, p0, q0, hargs, rfl, rfl, h0, r0⟩ := trodAll_cons hA
  obtain ⟨v1, vs1, d1, ds1, p1, q1, rfl, rfl, rfl, h1, r1⟩ := trodAll_cons r0
  obtain ⟨rfl, rfl, rfl⟩ := trodAll_nil r1
  obtain rfl : args = #[v0, v1] := by cases args; simp_all
  obtain ⟨rfl, rfl⟩ := trodVars_none hV
  obtain ⟨a0, rfl, rfl, rfl, w0⟩ := open_string Try.underlying9 (hval 0 9 v0 rfl rfl) h0
  obtain ⟨a1, rfl, rfl, rfl, w1⟩ := open_string Try.underlying9 (hval 1 9 v1 rfl rfl) h1
  clear hA0 hval0
  refine (walk a0 w0 a1 w1 W).mono fun e W' ⟨he, bel⟩ => ?_
  subst he
  exact ⟨_, rfl, _, _, _, [], _, [], hW', trodAll_mk1 (shut_bool Try.underlying4 _), (trodAll_cons_mk (shut_string Try.underlying9 w0) (trodAll_cons_mk (shut_string Try.underlying9 w1) trodAll_mk0)), rfl, bel.frame _, fun h => by cases h⟩

theorem over : Rows.polyDividesRow.holds Try.pinned (OpenSpec.ofChange Rows.polyDividesSpec) :=
  OpenClaim.holds_of_wide 5 Try.f5 rfl rfl rfl rfl rfl rfl rfl ⟨rfl, rfl, rfl, rfl, rfl⟩ rfl rfl rfl rfl rfl (by kernel_rfl) Try.func5 (by kernel_rfl)
    (of_decide_eq_true (by kernel_rfl)) (by unfold Func.isWrapper; first | (rw [if_pos (by decide +kernel)]; kernel_rfl) | (rw [if_neg (by decide +kernel)]; exact ⟨rfl, rfl⟩))
    (fun os started H enc _ => lifted os started H enc)

theorem proved : Rows.PolyDividesSaid := over
#print axioms proved
end Go.Proofs.Ythaiamagdifhjaa.polyDivides
