/-
  For any number and any list of places MendRoom returns true: how many errors may be mended beside what is lost, and which polynomial tells places; nothing that was there is changed. No condition.
-/
import Derived.Test.YtdlcloenihkkgaaRows
import Derived.Test.YtdlcloenihkkgaaMendLaw
import Derived.Deep.RegionWith
import Derived.OpenShut
import Derived.ShutString
import Derived.ChangeOld
import Derived.Carry
import Derived.WalkLawsBesides
namespace Go.Proofs.Ytdlcloenihkkgaa.mendRoom
open Go.ChangeShapes Go.WideShapes Go.ChangeAt Go.RowKit Gf
set_option maxRecDepth 100000
open Go.ChangeMaps (open_string shut_string)
set_option linter.unusedVariables false
set_option maxRecDepth 100000 in
set_option maxHeartbeats 4000000 in
theorem off (n : Int) (a : Option Addr) (len cap : Nat) (w : World) (h : 80 < (len : Int)) :
    Calls Try.prog 3 #[.int .i64 n, .slice a len cap] w fun e w' => e = .returned (.bool true) ∧ Keeps w w' := by
  go_enter Try.func3, Try.ntmps3
  go_wp2_with fail
  refine (awake4_any w _ (Keeps.refl w)).mono ?_
  rintro e wk1 ⟨rfl, hk1⟩
  go_wp2
  go_ret
  exact ⟨rfl, hk1⟩
set_option maxRecDepth 100000 in
set_option maxHeartbeats 4000000 in
theorem core (n : Int) (a : Option Addr) (len cap : Nat) (l : List Int) (w : World) (hr : IsI w a len l) (h : (len : Int) ≤ 80) :
    Calls Try.prog 3 #[.int .i64 n, .slice a len cap] w fun e w' => e = .returned (.bool true) ∧ Keeps w w' := by
  have hst := st_toList
  by_cases hok : OkP l l.length
  · have HOK := Lib.hid hok
    have hb : placesB l = true := places_yes hok
    clear hok
    go_enter Try.func3, Try.ntmps3
    go_wp2_with fail
    refine (mloc_any a len cap l w hr (by omega) HOK.out).mono ?_
    rintro e w1 ⟨rfl, hk1⟩
    have HR := Lib.hid hr
    clear hr
    go_wp2_with fail
    refine (mroom_any n w1).mono ?_
    rintro e w2 ⟨rfl, hk2⟩
    go_wp2_with fail
    refine (rroom_any n w2).mono ?_
    rintro e w2' ⟨rfl, rfl⟩
    go_wp2_with fail
    refine (rplaces_any a len cap l w2 ((HR.out.kept hk1).kept hk2) (by omega)).mono ?_
    rintro e w3 ⟨rfl, he3⟩
    rw [hb]
    go_wp2_with fail
    refine (rloc_any a len cap l w3 (((HR.out.kept hk1).kept hk2).eqv he3) (by omega) HOK.out).mono ?_
    rintro e w4 ⟨rfl, hk4⟩
    go_wp2_with fail
    refine (awake4_any w w4 (((hk1.over hk2).eqv he3).over hk4)).mono ?_
    rintro e w5 ⟨rfl, hk5⟩
    go_wp2
    go_ret
    exact ⟨rfl, hk5⟩
  · have HOK := Lib.hid hok
    have hb : placesB l = false := places_no hok
    clear hok
    go_enter Try.func3, Try.ntmps3
    go_wp2_with fail
    refine (mloc_arg a len cap l w hr (by omega) HOK.out).mono ?_
    rintro e w1 ⟨rfl, hk1⟩
    have HR := Lib.hid hr
    clear hr
    go_wp2_with fail
    refine (mroom_any n w1).mono ?_
    rintro e w2 ⟨rfl, hk2⟩
    go_wp2_with fail
    refine (rroom_any n w2).mono ?_
    rintro e w2' ⟨rfl, rfl⟩
    go_wp2_with fail
    refine (rplaces_any a len cap l w2 ((HR.out.kept hk1).kept hk2) (by omega)).mono ?_
    rintro e w3 ⟨rfl, he3⟩
    rw [hb]
    go_wp2_with fail
    refine (awake4_any w w3 ((hk1.over hk2).eqv he3)).mono ?_
    rintro e w5 ⟨rfl, hk5⟩
    go_wp2
    go_ret
    exact ⟨rfl, hk5⟩
theorem walk (n : Int) (wn : (Lit.int .i64 n).wf = true) (a : Option Addr) (len cap : Nat) (l : List Int) (w : World) (hr : IsA w a len cap l) :
    Calls Try.prog 3 #[.int .i64 n, .slice a len cap] w fun e w' => e = .returned (.bool true) ∧ Below w.heap.size w w' := by
  by_cases h : (len : Int) ≤ 80
  · exact core n a len cap l w hr.1 h
  · exact off n a len cap w (by omega)

theorem own : ownKnob Try.prog.godebug = none := by kernel_rfl
theorem laidOut : laidOutB Try.prog = true := by kernel_rfl
set_option maxRecDepth 100000 in
theorem lifted (os : Os) (started : os.Started) (H : Type) (enc : TypeId × Value → H) :
    ReturnsInHanded {} Try.checked os 3 .any (Rows.mendRoomSpec.pre6 enc Try.prog Try.f3 Rows.mendRoomRow.domain false) (Rows.mendRoomSpec.post enc Try.prog Try.f3 false true false false) := by
  refine returnsInHanded_of_change (C := Try.checked) own started (by kernel_rfl) Try.func3
    (ChangeSpec.witness6 (enc := enc) (C := Try.checked) false ⟨#[], #[.int .i64 0, .slice none 0 0], []⟩ 8 (by kernel_rfl) (by kernel_rfl) (by kernel_rfl) (by kernel_rfl)) ?_
  intro W base args ds gs before hval0 hW hcnd _
  have hval : ∀ (j : Nat) t v, Try.f3.params[j]? = some t → args[j]? = some v → Value.okWide Try.prog W .any base t v := hval0
  have hW' := hW
  obtain ⟨p, q, hA0, hV, rfl, hfz, hnd⟩ := hW
  have hA : DataW.TrodAll enc Try.prog W 0 (fun _ => true) true Try.f3.params.toList args.toList ds p := hA0
  rw [Try.params3] at hA hval
  obtain ⟨v0, vs0, d0, ds0, p0, q0, hargs, rfl, rfl, h0, r0⟩ := trodAll_cons hA
  obtain ⟨v1, vs1, d1, ds1, p1, q1, rfl, rfl, rfl, h1, r1⟩ := trodAll_cons r0
  obtain ⟨rfl, rfl, rfl⟩ := trodAll_nil r1
  obtain rfl : args = #[v0, v1] := by cases args; simp_all
  obtain ⟨rfl, rfl⟩ := trodVars_none hV
  obtain ⟨a0, rfl, rfl, rfl, w0⟩ := open_int Try.underlying3 (hval 0 3 v0 rfl rfl) h0
  obtain ⟨a1, len1, cap1, rfl⟩ := okWide_slice Try.underlying22 (hval 1 22 v1 rfl rfl)
  have k1 := h1
  have lt1 : ∀ x ∈ p1, x.block < W.heap.size := by obtain ⟨m, hm⟩ := k1; exact DataW.trod_lt m _ _ _ hm
  obtain ⟨z1, w1⟩ := open_irow h1
  clear hA0 hval0
  refine (walk a0 w0 a1 len1 cap1 z1 W w1).mono fun e W' ⟨he, bel⟩ => ?_
  subst he
  exact ⟨_, rfl, _, _, _, [], _, [], hW', trodAll_mk1 (shut_bool Try.underlying4 _), (trodAll_cons_mk (shut_int Try.underlying3 w0) (trodAll_cons_mk (Below.trod laidOut (by kernel_rfl) (of_decide_eq_true (by kernel_rfl)) k1 bel lt1) trodAll_mk0)), rfl, bel.frame _, fun h => by cases h⟩

theorem over : Rows.mendRoomRow.holds Try.pinned (OpenSpec.ofChange Rows.mendRoomSpec) :=
  OpenClaim.holds_of_wide 3 Try.f3 rfl rfl rfl rfl rfl rfl rfl ⟨rfl, rfl, rfl, rfl, rfl⟩ rfl rfl rfl rfl rfl (by kernel_rfl) Try.func3 (by kernel_rfl)
    (of_decide_eq_true (by kernel_rfl)) (by unfold Func.isWrapper; first | (rw [if_pos (by decide +kernel)]; kernel_rfl) | (rw [if_neg (by decide +kernel)]; exact ⟨rfl, rfl⟩))
    (fun os started H enc _ => lifted os started H enc)

theorem proved : Rows.MendRoomSaid := over
#print axioms proved
end Go.Proofs.Ytdlcloenihkkgaa.mendRoom
