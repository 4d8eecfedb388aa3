/-
  For any slice of bytes GfMuls returns true: Add and Mul answer as the document does; nothing that was there is changed. No condition.
-/
import Derived.Test.YtbckkjamcdpfdaaRows
import Derived.Test.YtbckkjamcdpfdaaGfE
import Derived.Test.YtbckkjamcdpfdaaGfF
import Derived.Test.YtbckkjamcdpfdaaGfJ
import Derived.OpenShut
import Derived.ShutString
import Derived.ChangeOld
import Derived.Carry
namespace Go.Proofs.Ytbckkjamcdpfdaa.gfMuls
open Go.ChangeShapes Go.WideShapes Go.ChangeAt Go.RowKit Gf
open Go.ChangeMaps (open_string shut_string)
set_option linter.unusedVariables false
set_option maxRecDepth 100000 in
set_option maxHeartbeats 4000000 in
theorem off1 (a : Option Addr) (len cap : Nat) (w : World) (h : 40 < (len : Int)) :
    Calls Try.prog 3 #[.slice a len cap] w fun e w' => e = .returned (.bool true) ∧ Keeps w w' := by
  go_enter Try.func3, Try.ntmps3
  go_wp2_with fail
  refine (awake_any w _ (Keeps.refl w)).mono ?_
  rintro e wk1 ⟨rfl, hk1⟩
  go_wp2
  go_ret
  exact ⟨rfl, hk1⟩
set_option maxRecDepth 100000 in
set_option maxHeartbeats 4000000 in
theorem empty (a : Option Addr) (cap : Nat) (w : World) :
    Calls Try.prog 3 #[.slice a 0 cap] w fun e w' => e = .returned (.bool true) ∧ Keeps w w' := by
  go_enter Try.func3, Try.ntmps3
  go_wp2
  go_loop [3, 4, 5] (fun s p i => s = .int .u8 0 ∧ p = .int .u8 1 ∧ i = .int .i64 0) (fun _ _ _ => 0)
  case atStart => exact ⟨rfl, rfl, rfl⟩
  case round =>
    obtain ⟨rfl, rfl, rfl⟩ := hrel
    go_wp2_with fail
    refine (add_empty _ _ _).mono ?_
    rintro e wz ⟨rfl, rfl⟩
    go_wp2_with fail
    refine (mul_empty _ _ _).mono ?_
    rintro e wz ⟨rfl, rfl⟩
    go_wp2_with fail
    refine (awake_any w _ (Keeps.refl w)).mono ?_
    rintro e wk1 ⟨rfl, hk1⟩
    go_wp2
    go_ret
    exact ⟨rfl, hk1⟩
def mRel (l : List Int) (s p i : Value) : Prop := ∃ k : Nat, k ≤ l.length ∧ i = .int .i64 k ∧ s = .int .u8 (xsum (l.take k)) ∧ p = .int .u8 (gprod (l.take k))
set_option maxRecDepth 100000 in
set_option maxHeartbeats 4000000 in
theorem core (b off cap : Nat) (l : List Int) (w : World) (h40 : l.length ≤ 40) (hB : ∀ x ∈ l, Byte x) (hc : Row w b off l) :
    Calls Try.prog 3 #[.slice (some ⟨b, off, none⟩) l.length cap] w fun e w' => e = .returned (.bool true) ∧ Keeps w w' := by
  have HB := Lib.hid hB
  have HC := Lib.hid hc
  clear hB hc
  go_enter Try.func3, Try.ntmps3
  go_wp2
  go_loop [3, 4, 5] (fun s p i => mRel l s p i) (fun _ _ i => l.length - (intOf i).toNat)
  case atStart => exact ⟨0, by omega, rfl, rfl, rfl⟩
  case round =>
    obtain ⟨k, hk, rfl, rfl, rfl⟩ := hrel
    by_cases hlt : k < l.length
    · have hcell := HC.out k hlt
      have b1 : Byte (xsum (l.take k)) := xsum_byte fun x hx => HB.out x (List.mem_of_mem_take hx)
      have b3 : Byte (gprod (l.take k)) := gprod_byte fun x hx => HB.out x (List.mem_of_mem_take hx)
      have b2 := getD_byte HB.out hlt
      have HN := Lib.hid (xsum_next hlt)
      have HM := Lib.hid (gprod_next hlt)
      generalize xsum (l.take k) = s at *
      generalize gprod (l.take k) = p at *
      generalize l.getD k 0 = y at *
      go_wp2_with fail
      refine (refadd_any _ _ _ b1.1 b1.2 b2.1 b2.2).mono ?_
      rintro e wz ⟨rfl, rfl⟩
      rw [← HN.out]
      generalize hs2 : xsum (l.take (k + 1)) = s2 at *
      have HS2 := Lib.hid hs2
      clear hs2
      go_wp2_with fail
      refine (refmul_any _ _ _ b3.1 b3.2 b2.1 b2.2).mono ?_
      rintro e wz ⟨rfl, rfl⟩
      rw [← HM.out]
      go_wp2
      go_round
      case rel => exact ⟨k + 1, by omega, by go_num, by rw [HS2.out], rfl⟩
      case measure => simp [intOf]; omega
    · have HE := Lib.hid (show l.take k = l from List.take_of_length_le (by omega))
      rw [HE.out]
      generalize hs : xsum l = s at *
      have HS := Lib.hid hs
      generalize hp : gprod l = p at *
      have HP := Lib.hid hp
      clear hs hp
      go_wp2_with fail
      refine (add_row b off l.length cap l _ rfl (by omega) HB.out HC.out).mono ?_
      rintro e wz ⟨rfl, rfl⟩
      rw [HS.out]
      go_wp2_with fail
      refine (mul_row b off l.length cap l _ rfl (by omega) HB.out HC.out).mono ?_
      rintro e wz ⟨rfl, rfl⟩
      rw [HP.out]
      go_wp2_with fail
      refine (awake_any w _ (Keeps.refl w)).mono ?_
      rintro e wk1 ⟨rfl, hk1⟩
      go_wp2
      go_ret
      exact ⟨rfl, hk1⟩
theorem walk (a : Option Addr) (len cap : Nat) (l : List Int) (w : World) (hr : IsRow w a len l) :
    Calls Try.prog 3 #[.slice a len cap] w fun e w' => e = .returned (.bool true) ∧ Below w.heap.size w w' := by
  obtain ⟨hl, hm, hB, hc⟩ := hr
  unfold maxLen at hm
  by_cases h1 : 40 < (len : Int)
  · exact off1 a len cap w h1
  by_cases h0 : len = 0
  · subst h0; exact empty a cap w
  · obtain ⟨b, off, rfl, hrow⟩ := hc (by omega)
    subst hl
    exact core b off cap l w (by omega) hB hrow

theorem own : ownKnob Try.prog.godebug = none := by kernel_rfl
theorem laidOut : laidOutB Try.prog = true := by kernel_rfl
set_option maxRecDepth 100000 in
theorem lifted (os : Os) (started : os.Started) (H : Type) (enc : TypeId × Value → H) :
    ReturnsInHanded {} Try.checked os 3 .any (Rows.gfMulsSpec.pre6 enc Try.prog Try.f3 Rows.gfMulsRow.domain false) (Rows.gfMulsSpec.post enc Try.prog Try.f3 false true false false) := by
  refine returnsInHanded_of_change (C := Try.checked) own started (by kernel_rfl) Try.func3
    (ChangeSpec.witness6 (enc := enc) (C := Try.checked) false ⟨#[], #[.slice none 0 0], []⟩ 8 (by kernel_rfl) (by kernel_rfl) (by kernel_rfl) (by kernel_rfl)) ?_
  intro W base args ds gs before hval0 hW hcnd _
  have hval : ∀ (j : Nat) t v, Try.f3.params[j]? = some t → args[j]? = some v → Value.okWide Try.prog W .any base t v := hval0
  have hW' := hW
  obtain ⟨p, q, hA0, hV, rfl, hfz, hnd⟩ := hW
  have hA : DataW.TrodAll enc Try.prog W 0 (fun _ => true) true Try.f3.params.toList args.toList ds p := hA0
  rw [Try.params3] at hA hval
  obtain ⟨v0, vs0, d0, ds0, p0, q0, hargs, rfl, rfl, h0, r0⟩ := trodAll_cons hA
  obtain ⟨rfl, rfl, rfl⟩ := trodAll_nil r0
  obtain rfl : args = #[v0] := by cases args; simp_all
  obtain ⟨rfl, rfl⟩ := trodVars_none hV
  obtain ⟨a0, len0, cap0, rfl⟩ := okWide_slice Try.underlying22 (hval 0 22 v0 rfl rfl)
  have k0 := h0
  have lt0 : ∀ x ∈ p0, x.block < W.heap.size := by obtain ⟨m, hm⟩ := k0; exact DataW.trod_lt m _ _ _ hm
  obtain ⟨z0, w0⟩ := open_row h0
  clear hA0 hval0
  refine (walk a0 len0 cap0 z0 W w0).mono fun e W' ⟨he, bel⟩ => ?_
  subst he
  exact ⟨_, rfl, _, _, _, [], _, [], hW', trodAll_mk1 (shut_bool Try.underlying4 _), (trodAll_cons_mk (Below.trod laidOut (by kernel_rfl) (of_decide_eq_true (by kernel_rfl)) k0 bel lt0) trodAll_mk0), rfl, bel.frame _, fun h => by cases h⟩

theorem over : Rows.gfMulsRow.holds Try.pinned (OpenSpec.ofChange Rows.gfMulsSpec) :=
  OpenClaim.holds_of_wide 3 Try.f3 rfl rfl rfl rfl rfl rfl rfl ⟨rfl, rfl, rfl, rfl, rfl⟩ rfl rfl rfl rfl rfl (by kernel_rfl) Try.func3 (by kernel_rfl)
    (of_decide_eq_true (by kernel_rfl)) (by unfold Func.isWrapper; first | (rw [if_pos (by decide +kernel)]; kernel_rfl) | (rw [if_neg (by decide +kernel)]; exact ⟨rfl, rfl⟩))
    (fun os started H enc _ => lifted os started H enc)

theorem proved : Rows.GfMulsSaid := over
#print axioms proved
end Go.Proofs.Ytbckkjamcdpfdaa.gfMuls
