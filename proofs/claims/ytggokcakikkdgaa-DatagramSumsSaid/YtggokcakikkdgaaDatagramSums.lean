/-
  For any list of strings DatagramSums returns true: which sum bytes have, however they are parted; nothing that was there is changed. No condition.
-/
import Derived.Test.YtggokcakikkdgaaRows
import Derived.Test.YtggokcakikkdgaaDgArgs
namespace Go.Proofs.Ytggokcakikkdgaa.datagramSums
open Go.ChangeShapes Go.WideShapes Go.ChangeAt Go.RowKit Gf Dg
set_option maxRecDepth 100000
open Go.ChangeMaps (open_string shut_string)
set_option linter.unusedVariables false
set_option maxHeartbeats 1600000 in
theorem walk (a : Option Addr) (len cap : Nat) (L : List (List UInt8)) (w : World) (hw : IsT w a len L ∧ len ≤ cap ∧ ∀ t ∈ L, t.length ≤ big) :
    Calls Try.prog 4 #[.slice a len cap] w fun e w' => e = .returned (.bool true) ∧ Below w.heap.size w w' := by
  obtain ⟨hI, _, hb⟩ := hw
  obtain ⟨rfl, _⟩ := id hI
  cases hf : fewB L
  · go_enter Try.func4, Try.ntmps4
    go_wp2_with fail
    refine (dgfew_any a _ cap L w hI hb).mono ?_
    rintro e w1 ⟨rfl, rfl⟩
    rw [hf]
    go_wp2_with fail
    refine (awake7_any w w (Keeps.refl w)).mono ?_
    rintro e w1 ⟨rfl, hk1⟩
    go_wp2
    go_ret
    exact ⟨rfl, hk1⟩
  · have hl : L.length ≤ 30 ∧ L.flatten.length ≤ 10000 := by
      unfold fewB at hf; rw [Bool.and_eq_true] at hf; exact ⟨of_decide_eq_true hf.1, of_decide_eq_true hf.2⟩
    obtain ⟨hl1, hl2⟩ := hl
    have hz : (st L.flatten).size ≤ 10000 := by rw [st_size]; exact hl2
    have HF := Lib.hid hf
    clear hf
    go_enter Try.func4, Try.ntmps4
    go_wp2_with fail
    refine (dgfew_any a _ cap L w hI hb).mono ?_
    rintro e w1 ⟨rfl, rfl⟩
    rw [HF.out]
    go_wp2_with fail
    refine (dgjoined_any a _ cap L w hI (by omega) hb).mono ?_
    rintro e w1 ⟨rfl, rfl⟩
    go_wp2_with fail
    refine (dgsum_any a _ cap L w hI (by omega) (by omega)).mono ?_
    rintro e w1 ⟨rfl, he1⟩
    go_wp2_with fail
    refine (dgrsum_any (st L.flatten) w1 (by omega)).mono ?_
    rintro e w2 ⟨rfl, rfl⟩
    rw [ls_st]
    have hk1 := (Keeps.refl w).eqv he1
    clear he1
    obtain ⟨c, hc⟩ : ∃ c, csum L.flatten = c := ⟨_, rfl⟩
    have HC := Lib.hid hc
    rw [hc]
    clear hc
    go_wp2_with fail
    refine (dgsum_any _ _ _ [L.flatten] _ (by have := IsT.oneAt (w := w1) rfl (st L.flatten) 9; rwa [ls_st] at this) (by simp) (by rw [show [L.flatten].flatten = L.flatten by simp]; omega)).mono ?_
    rintro e w3 ⟨rfl, he3⟩
    rw [show [L.flatten].flatten = L.flatten by simp, HC.out]
    have hk3 := (hk1.alloc (.cells #[.string (st L.flatten)] 9)).eqv he3
    clear he3
    go_wp2_with fail
    refine (dgrsum_any (st L.flatten) w3 (by omega)).mono ?_
    rintro e w4 ⟨rfl, rfl⟩
    rw [ls_st, HC.out]
    go_wp2_with fail
    refine (awake7_any w w3 hk3).mono ?_
    rintro e w5 ⟨rfl, hk5⟩
    go_wp2
    go_ret
    exact ⟨rfl, hk5⟩


theorem own : ownKnob Try.prog.godebug = none := by kernel_rfl
theorem laidOut : laidOutB Try.prog = true := by kernel_rfl
set_option maxRecDepth 100000 in
theorem lifted (os : Os) (started : os.Started) (H : Type) (enc : TypeId × Value → H) :
    ReturnsInHanded {} Try.checked os 4 .any (Rows.datagramSumsSpec.pre6 enc Try.prog Try.f4 Rows.datagramSumsRow.domain false) (Rows.datagramSumsSpec.post enc Try.prog Try.f4 false true false false) := by
  refine returnsInHanded_of_change_sized (C := Try.checked) own started (by kernel_rfl) Try.func4
    (ChangeSpec.witness6 (enc := enc) (C := Try.checked) false ⟨#[], #[.slice none 0 0], []⟩ 8 (by kernel_rfl) (by kernel_rfl) (by kernel_rfl) (by kernel_rfl)) ?_
  intro W base args ds gs before hval0 hW hcnd hsz _
  have hval : ∀ (j : Nat) t v, Try.f4.params[j]? = some t → args[j]? = some v → Value.okWide Try.prog W .any base t v := hval0
  have hW' := hW
  obtain ⟨p, q, hA0, hV, rfl, hfz, hnd⟩ := hW
  have hA : DataW.TrodAll enc Try.prog W 0 (fun _ => true) true Try.f4.params.toList args.toList ds p := hA0
  rw [Try.params4] at hA hval
  obtain ⟨v0, vs0, d0, ds0, p0, q0, hargs, rfl, rfl, h0, r0⟩ := trodAll_cons hA
  obtain ⟨rfl, rfl, rfl⟩ := trodAll_nil r0
  obtain rfl : args = #[v0] := by cases args; simp_all
  obtain ⟨rfl, rfl⟩ := trodVars_none hV
  obtain ⟨a0, len0, cap0, rfl⟩ := okWide_slice Try.underlying33 (hval 0 33 v0 rfl rfl)
  have k0 := h0
  have lt0 : ∀ x ∈ p0, x.block < W.heap.size := by obtain ⟨m, hm⟩ := k0; exact DataW.trod_lt m _ _ _ hm
  have hz0 : ∀ n ∈ d0.weights Try.prog 33, n ≤ reachBytes := fun n hn => by simpa using List.all_eq_true.1 hsz n (DataW.weights_mem_each (j := 0) (t := 33) (d := d0) (by rw [Try.params4]; rfl) rfl n hn)
  obtain ⟨z0, w0⟩ := open_trow_big h0 hz0
  clear hA0 hval0
  refine (walk a0 len0 cap0 z0 W w0).mono fun e W' ⟨he, bel⟩ => ?_
  subst he
  exact ⟨_, rfl, _, _, _, [], _, [], hW', trodAll_mk1 (shut_bool Try.underlying4 _), (trodAll_cons_mk (Below.trod laidOut (by kernel_rfl) (of_decide_eq_true (by kernel_rfl)) k0 bel lt0) trodAll_mk0), rfl, bel.frame _, fun h => by cases h⟩

theorem over : Rows.datagramSumsRow.holds Try.pinned (OpenSpec.ofChange Rows.datagramSumsSpec) :=
  OpenClaim.holds_of_wide 4 Try.f4 rfl rfl rfl rfl rfl rfl rfl ⟨rfl, rfl, rfl, rfl, rfl⟩ rfl rfl rfl rfl rfl (by kernel_rfl) Try.func4 (by kernel_rfl)
    (of_decide_eq_true (by kernel_rfl)) (by unfold Func.isWrapper; first | (rw [if_pos (by decide +kernel)]; kernel_rfl) | (rw [if_neg (by decide +kernel)]; exact ⟨rfl, rfl⟩))
    (fun os started H enc _ => lifted os started H enc)

theorem proved : Rows.DatagramSumsSaid := over
#print axioms proved
end Go.Proofs.Ytggokcakikkdgaa.datagramSums
