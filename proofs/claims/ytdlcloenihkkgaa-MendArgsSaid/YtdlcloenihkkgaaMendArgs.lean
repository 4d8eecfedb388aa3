/-
  For any string and any list of places MendArgs returns true: a text that has not 255 bytes is none; nothing that was there is changed. No condition.
-/
import Derived.Test.YtdlcloenihkkgaaRows
import Derived.Test.YtdlcloenihkkgaaMendLaw
import Derived.Deep.RegionWith
import Derived.OpenShut
import Derived.ShutString
import Derived.ChangeOld
import Derived.Carry
import Derived.WalkLawsBesides
namespace Go.Proofs.Ytdlcloenihkkgaa.mendArgs
open Go.ChangeShapes Go.WideShapes Go.ChangeAt Go.RowKit Gf
set_option maxRecDepth 100000
open Go.ChangeMaps (open_string shut_string)
set_option linter.unusedVariables false
set_option maxRecDepth 100000 in
set_option maxHeartbeats 4000000 in
theorem off (a : Option Addr) (len cap : Nat) (d : ByteArray) (w : World) (h : 400 < (d.size : Int) ∨ ((d.size : Int) ≤ 400 ∧ (d.size : Int) = 255) ∨ ((d.size : Int) ≤ 400 ∧ ¬ (d.size : Int) = 255 ∧ 80 < (len : Int))) :
    Calls Try.prog 6 #[.string d, .slice a len cap] w fun e w' => e = .returned (.bool true) ∧ Keeps w w' := by
  rcases h with h | ⟨h1, h⟩ | ⟨h1, h2, h⟩
  all_goals
    try have hb : (((d.size : Nat) : Int) == 255) = true := by rw [beq_iff_eq]; omega
    try have hb : (((d.size : Nat) : Int) == 255) = false := by rw [beq_eq_false_iff_ne]; omega
    go_enter Try.func6, Try.ntmps6
    go_wp2_with fail
    refine (awake4_any w _ (Keeps.refl w)).mono ?_
    rintro e wk1 ⟨rfl, hk1⟩
    go_wp2
    go_ret
    exact ⟨rfl, hk1⟩
set_option maxRecDepth 100000 in
set_option maxHeartbeats 4000000 in
theorem core (a : Option Addr) (len cap : Nat) (l : List Int) (d : ByteArray) (w : World) (hr : IsI w a len l) (h0 : (d.size : Int) ≤ 400) (h1 : ¬ (d.size : Int) = 255) (h2 : (len : Int) ≤ 80) :
    Calls Try.prog 6 #[.string d, .slice a len cap] w fun e w' => e = .returned (.bool true) ∧ Keeps w w' := by
  have hb : (((d.size : Nat) : Int) == 255) = false := by rw [beq_eq_false_iff_ne]; omega
  have HN := Lib.hid (show ¬ ((ls d).length = 255 ∧ OkP l l.length) by rw [← ls_size]; omega)
  have hst := st_toList
  go_enter Try.func6, Try.ntmps6
  go_wp2_with fail
  refine (mword_any d a len cap l w hr (by omega) (by omega)).mono ?_
  rintro e w1 ⟨r, ps, er, b, n, c, rfl, hm, hi, hk1⟩
  obtain ⟨rfl, rfl, rfl⟩ := hm.args HN.out
  obtain rfl : n = 0 := hi.1.symm
  have HR := Lib.hid (hr.kept hk1)
  clear hm hi hr
  go_wp2_with fail
  refine (mdata_any d a len cap l w1 HR.out (by omega) (by omega)).mono ?_
  rintro e w2 ⟨r, ps, er, rfl, hm, hk2⟩
  obtain ⟨rfl, rfl, rfl⟩ := hm.args HN.out
  clear hm
  have ht : ([] : List UInt8).take 191 = [] := rfl
  rw [ht]
  go_wp2_with fail
  refine (awake4_any w w2 (hk1.over hk2)).mono ?_
  rintro e w3 ⟨rfl, hk3⟩
  go_wp2
  go_ret
  exact ⟨rfl, hk3⟩
theorem walk (d : ByteArray) (wd : d.size ≤ maxLen) (a : Option Addr) (len cap : Nat) (l : List Int) (w : World) (hr : IsA w a len cap l) :
    Calls Try.prog 6 #[.string d, .slice a len cap] w fun e w' => e = .returned (.bool true) ∧ Below w.heap.size w w' := by
  by_cases h : (d.size : Int) ≤ 400 ∧ ¬ (d.size : Int) = 255 ∧ (len : Int) ≤ 80
  · exact core a len cap l d w hr.1 h.1 h.2.1 h.2.2
  · exact off a len cap d w (by omega)

theorem own : ownKnob Try.prog.godebug = none := by kernel_rfl
theorem laidOut : laidOutB Try.prog = true := by kernel_rfl
set_option maxRecDepth 100000 in
theorem lifted (os : Os) (started : os.Started) (H : Type) (enc : TypeId × Value → H) :
    ReturnsInHanded {} Try.checked os 6 .any (Rows.mendArgsSpec.pre6 enc Try.prog Try.f6 Rows.mendArgsRow.domain false) (Rows.mendArgsSpec.post enc Try.prog Try.f6 false true false false) := by
  refine returnsInHanded_of_change (C := Try.checked) own started (by kernel_rfl) Try.func6
    (ChangeSpec.witness6 (enc := enc) (C := Try.checked) false ⟨#[], #[.string ByteArray.empty, .slice none 0 0], []⟩ 8 (by kernel_rfl) (by kernel_rfl) (by kernel_rfl) (by kernel_rfl)) ?_
  intro W base args ds gs before hval0 hW hcnd _
  have hval : ∀ (j : Nat) t v, Try.f6.params[j]? = some t → args[j]? = some v → Value.okWide Try.prog W .any base t v := hval0
  have hW' := hW
  obtain ⟨p, q, hA0, hV, rfl, hfz, hnd⟩ := hW
  have hA : DataW.TrodAll enc Try.prog W 0 (fun _ => true) true Try.f6.params.toList args.toList ds p := hA0
  rw [Try.params6] at hA hval
  obtain ⟨v0, vs0, d0, ds0, p0, q0, hargs, rfl, rfl, h0, r0⟩ := trodAll_cons hA
  obtain ⟨v1, vs1, d1, ds1, p1, q1, rfl, rfl, rfl, h1, r1⟩ := trodAll_cons r0
  obtain ⟨rfl, rfl, rfl⟩ := trodAll_nil r1
  obtain rfl : args = #[v0, v1] := by cases args; simp_all
  obtain ⟨rfl, rfl⟩ := trodVars_none hV
  obtain ⟨a0, rfl, rfl, rfl, w0⟩ := open_string Try.underlying9 (hval 0 9 v0 rfl rfl) h0
  obtain ⟨a1, len1, cap1, rfl⟩ := okWide_slice Try.underlying22 (hval 1 22 v1 rfl rfl)
  have k1 := h1
  have lt1 : ∀ x ∈ p1, x.block < W.heap.size := by obtain ⟨m, hm⟩ := k1; exact DataW.trod_lt m _ _ _ hm
  obtain ⟨z1, w1⟩ := open_irow h1
  clear hA0 hval0
  refine (walk a0 w0 a1 len1 cap1 z1 W w1).mono fun e W' ⟨he, bel⟩ => ?_
  subst he
  exact ⟨_, rfl, _, _, _, [], _, [], hW', trodAll_mk1 (shut_bool Try.underlying4 _), (trodAll_cons_mk (shut_string Try.underlying9 w0) (trodAll_cons_mk (Below.trod laidOut (by kernel_rfl) (of_decide_eq_true (by kernel_rfl)) k1 bel lt1) trodAll_mk0)), rfl, bel.frame _, fun h => by cases h⟩

theorem over : Rows.mendArgsRow.holds Try.pinned (OpenSpec.ofChange Rows.mendArgsSpec) :=
  OpenClaim.holds_of_wide 6 Try.f6 rfl rfl rfl rfl rfl rfl rfl ⟨rfl, rfl, rfl, rfl, rfl⟩ rfl rfl rfl rfl rfl (by kernel_rfl) Try.func6 (by kernel_rfl)
    (of_decide_eq_true (by kernel_rfl)) (by unfold Func.isWrapper; first | (rw [if_pos (by decide +kernel)]; kernel_rfl) | (rw [if_neg (by decide +kernel)]; exact ⟨rfl, rfl⟩))
    (fun os started H enc _ => lifted os started H enc)

theorem proved : Rows.MendArgsSaid := over
#print axioms proved
end Go.Proofs.Ytdlcloenihkkgaa.mendArgs
