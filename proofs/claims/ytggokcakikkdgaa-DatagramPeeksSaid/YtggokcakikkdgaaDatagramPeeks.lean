/-
  For any string DatagramPeeks returns true: what a beginning tells, and what is wrong with bytes; nothing that was there is changed. No condition.
-/
import Derived.Test.YtggokcakikkdgaaRows
import Derived.Test.YtggokcakikkdgaaDgLaw
namespace Go.Proofs.Ytggokcakikkdgaa.datagramPeeks
open Go.ChangeShapes Go.WideShapes Go.ChangeAt Go.RowKit Gf Dg
set_option maxRecDepth 100000
open Go.ChangeMaps (open_string shut_string)
set_option linter.unusedVariables false
set_option maxHeartbeats 1600000 in
theorem walk (s : ByteArray) (hw : s.size ≤ maxLen) (w : World) :
    Calls Try.prog 3 #[.string s] w fun e w' => e = .returned (.bool true) ∧ Below w.heap.size w w' := by
  clear hw
  by_cases h : s.size ≤ 5000
  · obtain ⟨⟨⟨v, h2, l, p⟩, r⟩, hr⟩ : ∃ q, peek (ls s) = q := ⟨_, rfl⟩
    have p1 := dgpeek_any w s w (by omega) (Keeps.refl w)
    unfold PkPost HdPost at p1
    rw [hr] at p1
    have P1 := Lib.hid p1
    have P2 := Lib.hid (show ∀ W : World, Calls Try.prog 11 #[.string s] W fun e w' => e = .returned (hdR (⟨v, h2, l, p⟩, r)) ∧ Keeps W w' by
      intro W
      have := dgrpeek_any W s W (by omega) (Keeps.refl W)
      unfold PkPost HdPost at this
      rwa [hr] at this)
    have C1 := Lib.hid (fun W => dgcheck_any W s W (by omega) (Keeps.refl W))
    have C2 := Lib.hid (fun W => dgrcheck_any W s W (by omega) (Keeps.refl W))
    unfold ChPost at C1 C2
    generalize check (ls s) = c at *
    clear p1 hr
    go_enter Try.func3, Try.ntmps3
    go_wp2_with fail
    refine P1.out.mono ?_
    rintro e w1 ⟨rfl, hk1⟩
    unfold hdR
    go_wp2_with fail
    have hm1 := Hd4.made w1 ⟨v, h2, l, p⟩ 24
    obtain ⟨wA, hwA⟩ : ∃ wA, w1.alloc (.cells #[.int .i64 v, .int .i64 h2, .int .i64 l, .int .i64 p] 24) = wA := ⟨_, rfl⟩
    have hkA := hk1.alloc (.cells #[.int .i64 v, .int .i64 h2, .int .i64 l, .int .i64 p] 24)
    simp only at hm1
    rw [hwA] at hm1 hkA
    rw [hwA]
    clear hwA hk1
    refine (P2.out wA).mono ?_
    rintro e w2 ⟨rfl, hk2⟩
    unfold hdR
    have hm2 := hm1.keeps hk2
    have hm3 := hm2.keeps ((Keeps.refl w2).alloc (.cells #[.int .i64 v, .int .i64 h2, .int .i64 l, .int .i64 p] 28))
    have hn3 := Hd4.made w2 ⟨v, h2, l, p⟩ 28
    have HK2 := Lib.hid (hkA.trans hk2)
    clear hm1 hm2 hkA hk2
    obtain ⟨a0, a1, a2, a3, _⟩ := hm3
    go_wp2_with fail
    refine (C1.out _).mono ?_
    rintro e w4 ⟨rfl, hk4⟩
    go_wp2_with fail
    refine (C2.out _).mono ?_
    rintro e w5 ⟨rfl, hk5⟩
    have hk6 := ((HK2.out.alloc (.cells #[.int .i64 v, .int .i64 h2, .int .i64 l, .int .i64 p] 28)).trans hk4).trans hk5
    go_wp2_with fail
    refine (awake7_any w w5 hk6).mono ?_
    rintro e w7 ⟨rfl, hk7⟩
    go_wp2
    go_ret
    exact ⟨rfl, hk7⟩
  · go_enter Try.func3, Try.ntmps3
    go_wp2_with fail
    refine (awake7_any w w (Keeps.refl w)).mono ?_
    rintro e w5 ⟨rfl, hk5⟩
    go_wp2
    go_ret
    exact ⟨rfl, hk5⟩


theorem own : ownKnob Try.prog.godebug = none := by kernel_rfl
theorem laidOut : laidOutB Try.prog = true := by kernel_rfl
set_option maxRecDepth 100000 in
theorem lifted (os : Os) (started : os.Started) (H : Type) (enc : TypeId × Value → H) :
    ReturnsInHanded {} Try.checked os 3 .any (Rows.datagramPeeksSpec.pre6 enc Try.prog Try.f3 Rows.datagramPeeksRow.domain false) (Rows.datagramPeeksSpec.post enc Try.prog Try.f3 false true false false) := by
  refine returnsInHanded_of_change (C := Try.checked) own started (by kernel_rfl) Try.func3
    (ChangeSpec.witness6 (enc := enc) (C := Try.checked) false ⟨#[], #[.string ByteArray.empty], []⟩ 8 (by kernel_rfl) (by kernel_rfl) (by kernel_rfl) (by kernel_rfl)) ?_
  intro W base args ds gs before hval0 hW hcnd _
  have hval : ∀ (j : Nat) t v, Try.f3.params[j]? = some t → args[j]? = some v → Value.okWide Try.prog W .any base t v := hval0
  have hW' := hW
  obtain ⟨p, q, hA0, hV, rfl, hfz, hnd⟩ := hW
  have hA : DataW.TrodAll enc Try.prog W 0 (fun _ => true) true Try.f3.params.toList args.toList ds p := hA0
  rw [Try.params3] at hA hval
  obtain ⟨v0, vs0, d0, ds0, p0, q0, hargs, rfl, rfl, h0, r0⟩ := trodAll_cons hA
  obtain ⟨rfl, rfl, rfl⟩ := trodAll_nil r0
  obtain rfl : args = #[v0] := by cases args; simp_all
  obtain ⟨rfl, rfl⟩ := trodVars_none hV
  obtain ⟨a0, rfl, rfl, rfl, w0⟩ := open_string Try.underlying9 (hval 0 9 v0 rfl rfl) h0
  clear hA0 hval0
  refine (walk a0 w0 W).mono fun e W' ⟨he, bel⟩ => ?_
  subst he
  exact ⟨_, rfl, _, _, _, [], _, [], hW', trodAll_mk1 (shut_bool Try.underlying4 _), (trodAll_cons_mk (shut_string Try.underlying9 w0) trodAll_mk0), rfl, bel.frame _, fun h => by cases h⟩

theorem over : Rows.datagramPeeksRow.holds Try.pinned (OpenSpec.ofChange Rows.datagramPeeksSpec) :=
  OpenClaim.holds_of_wide 3 Try.f3 rfl rfl rfl rfl rfl rfl rfl ⟨rfl, rfl, rfl, rfl, rfl⟩ rfl rfl rfl rfl rfl (by kernel_rfl) Try.func3 (by kernel_rfl)
    (of_decide_eq_true (by kernel_rfl)) (by unfold Func.isWrapper; first | (rw [if_pos (by decide +kernel)]; kernel_rfl) | (rw [if_neg (by decide +kernel)]; exact ⟨rfl, rfl⟩))
    (fun os started H enc _ => lifted os started H enc)

theorem proved : Rows.DatagramPeeksSaid := over
#print axioms proved
end Go.Proofs.Ytggokcakikkdgaa.datagramPeeks
