/-
  For any packet JoinerNil returns true: a nil joiner has nothing; nothing that was there is changed. The table of widths of package packet starts as the program lays it.
-/
import Derived.SevenTiedAt
import Derived.Test.YtifbomppgflkfaaDoorRows
import Derived.Test.YtifbomppgflkfaaDoorCards
import Derived.Test.YtifbomppgflkfaaDoorTie
import Derived.Test.YtifbomppgflkfaaDoorPkLaid
import Derived.Test.YtifbomppgflkfaaDoorJnImp
import Derived.Test.YtifbomppgflkfaaDoorJnLaw
namespace Go.Proofs.YtifbomppgflkfaaDoor.joinerNil
open Go.ChangeShapes Go.WideShapes Go.ChangeAt Go.RowKit Gf Pk Jn
set_option maxRecDepth 100000
open Go.ChangeMaps (open_string shut_string)
set_option linter.unusedVariables false
set_option maxHeartbeats 6400000 in
theorem core (A : JnApi) (p : Pkt) (w : World) (hO : A.Ok w) :
    Calls Tryd.prog 6 #[pkV p] w fun e w' => e = .returned (.bool true) ∧ Below w.heap.size w w' := by
  obtain ⟨pid, start, count, bad, body⟩ := p
  obtain ⟨b, hb⟩ : ∃ b, w.heap.size = b := ⟨_, rfl⟩
  obtain ⟨wA, hA⟩ : ∃ wX, w.alloc (.cells #[.int .i64 pid, .bool start, .int .i64 count, .bool bad, .string body] 32) = wX := ⟨_, rfl⟩
  have HA := Lib.hid (show CsAt b (pkC ⟨pid, start, count, bad, body⟩) wA by rw [← hb, ← hA]; exact CsAt.made w #[.int .i64 pid, .bool start, .int .i64 count, .bool bad, .string body] _ (by simp))
  have HK := Lib.hid (show Keeps w wA by rw [← hA]; exact (Keeps.refl w).alloc _)
  have HW := Lib.hid (fun W (k : Keeps w W) => awake16_any A W W (Keeps.refl W) (A.okK hO k))
  have q4 := HA.out.cell 4 rfl
  by_cases h : 300 < body.size
  · have hi : (300 : Int) < (body.size : Int) := by omega
    go_enter Tryd.func6, Tryd.ntmps6
    go_wp2_with (go_at_call 9; refine (HW.out _ HK.out).mono ?_; rintro _ w9 ⟨rfl, k9⟩; have HK := Lib.hid (HK.out.trans k9); clear k9)
    go_ret
    exact ⟨rfl, HK.out⟩
  · have hi : ¬ (300 : Int) < (body.size : Int) := by omega
    have HF := Lib.hid (fun W => A.nFeed ⟨pid, start, count, bad, body⟩ W (by show body.size ≤ 1000; omega))
    have HB := Lib.hid (fun W => A.nBytes body W (by omega))
    have HD := Lib.hid (fun W => A.nDrop W)
    have HH := Lib.hid (fun W => A.nHeld W)
    have HL := Lib.hid (fun W => A.nLost W)
    go_enter Tryd.func6, Tryd.ntmps6
    go_wp2_with (first | (refine wp_ldP (b := b) (off := 0) HA.out.r rfl _ rfl rfl ?_) | (go_at_call 10; refine (HF.out _).mono ?_; rintro _ w1 ⟨⟨a1, c1, rfl⟩, k1⟩; have HA := Lib.hid (HA.out.keeps k1); have HK := Lib.hid (HK.out.trans k1); clear k1; have q4 := HA.out.cell 4 rfl) | (go_at_call 17; refine (HB.out _).mono ?_; rintro _ w2 ⟨⟨a2, c2, rfl⟩, k2⟩; have HK := Lib.hid (HK.out.trans k2); clear k2) | (go_at_call 16; refine (HD.out _).mono ?_; rintro _ w3 ⟨⟨v3, rfl⟩, k3⟩; have HK := Lib.hid (HK.out.trans k3); clear k3) | (go_at_call 14; refine (HH.out _).mono ?_; rintro _ w4 ⟨rfl, k4⟩; have HK := Lib.hid (HK.out.trans k4); clear k4) | (go_at_call 15; refine (HL.out _).mono ?_; rintro _ w5 ⟨rfl, k5⟩; have HK := Lib.hid (HK.out.trans k5); clear k5) | (go_at_call 9; refine (HW.out _ HK.out).mono ?_; rintro _ w9 ⟨rfl, k9⟩; have HK := Lib.hid (HK.out.trans k9); clear k9))
    go_ret
    exact ⟨rfl, HK.out⟩
theorem walk (p : Pkt) (w : World) (hW : Wd w) :
    Calls Tryd.prog 6 #[pkV p] w fun e w' => e = .returned (.bool true) ∧ Below w.heap.size w w' := core joinerApi p w hW

theorem own : ownKnob Tryd.prog.godebug = none := by kernel_rfl
theorem laidOut : laidOutB Tryd.prog = true := by kernel_rfl
set_option maxRecDepth 100000 in
theorem lifted (os : Os) (started : os.Started) (H : Type) (enc : TypeId × Value → H) :
    ReturnsInHanded {} Tryd.checked os 6 .any (fun w args => (Rows.joinerNilSpec.pre enc Tryd.prog Tryd.f6 [] false w args ∧ laidMetH Tryd.prog [("clarion/packet.wide", Rows.laid_clarion_packet_wide)] w) ∧ sizedMet enc Tryd.prog Tryd.f6 (OpenSpec.ofChange Rows.joinerNilSpec) false w args) (Rows.joinerNilSpec.post enc Tryd.prog Tryd.f6 false true false false) := by
  refine returnsInHanded_of_change_and (C := Tryd.checked) (X := fun w _ => laidMetH Tryd.prog [("clarion/packet.wide", Rows.laid_clarion_packet_wide)] w) (fun _ _ _ hh h => h.of_heap hh) own started (by kernel_rfl) Tryd.func6
    (ChangeSpec.witness_shaped (enc := enc) (C := Tryd.checked) (os := os) (X := fun w _ => laidMetH Tryd.prog [("clarion/packet.wide", Rows.laid_clarion_packet_wide)] w) false (World.doorLaid Tryd.prog 400 os) #[.agg #[.int .i64 0, .bool false, .int .i64 0, .bool false, .string ByteArray.empty]] 8 rfl (World.shaped_of_RefB (by kernel_rfl) (by kernel_rfl)) (by kernel_rfl) (by kernel_rfl) (by kernel_rfl) (door_met os _)) ?_
  intro W base args ds gs before hval0 hW hcnd _ hL _
  have hval : ∀ (j : Nat) t v, Tryd.f6.params[j]? = some t → args[j]? = some v → Value.okWide Tryd.prog W .any base t v := hval0
  have hW' := hW
  obtain ⟨p, q, hA0, hV, rfl, hfz, hnd⟩ := hW
  have hA : DataW.TrodAll enc Tryd.prog W 0 (fun _ => true) true Tryd.f6.params.toList args.toList ds p := hA0
  rw [Tryd.params6] at hA hval
  obtain ⟨v0, vs0, d0, ds0, p0, q0, hargs, rfl, rfl, h0, r0⟩ := trodAll_cons hA
  obtain ⟨rfl, rfl, rfl⟩ := trodAll_nil r0
  obtain rfl : args = #[v0] := by cases args; simp_all
  obtain ⟨rfl, rfl⟩ := trodVars_none hV
  have k0 := h0
  have lt0 : ∀ x ∈ p0, x.block < W.heap.size := by obtain ⟨m, hm⟩ := k0; exact DataW.trod_lt m _ _ _ hm
  obtain ⟨P0, rfl⟩ := open_pkt (hval 0 32 v0 rfl rfl) h0
  clear hA0 hval0
  refine (walk P0 W (wd_of_laid hL)).mono fun e W' ⟨he, bel⟩ => ?_
  subst he
  exact ⟨_, rfl, _, _, _, [], _, [], hW', trodAll_mk1 (shut_bool Tryd.underlying4 _), (trodAll_cons_mk (Below.trod laidOut (by kernel_rfl) (of_decide_eq_true (by kernel_rfl)) k0 bel lt0) trodAll_mk0), rfl, bel.frame _, fun h => by cases h⟩

theorem over : Rows.joinerNilRow.holds Tryd.pinned (OpenSpec.ofChange Rows.joinerNilSpec) :=
  OpenClaim.holds_of_wide 6 Tryd.f6 rfl rfl rfl rfl rfl rfl rfl ⟨rfl, rfl, rfl, rfl, rfl⟩ rfl rfl rfl rfl rfl (by kernel_rfl) Tryd.func6 (by kernel_rfl)
    (of_decide_eq_true (by kernel_rfl)) (by unfold Func.isWrapper; first | (rw [if_pos (by decide +kernel)]; kernel_rfl) | (rw [if_neg (by decide +kernel)]; exact ⟨rfl, rfl⟩))
    (fun os started H enc _ => lifted os started H enc)

set_option maxRecDepth 100000 in
theorem proved : Rows.JoinerNilCardSaid :=
  Claim7.holds_tied_plain_at .later [] [.data] true (true, _) false over (fun _ h => by cases h) (by kernel_rfl) (fun _ h => by cases h) joinerNil_row_tie rfl ⟨rfl, rfl⟩ (by kernel_rfl) rfl
    (fun f fn hf hfn => by
      obtain rfl : f = 6 := Option.some.inj ((show Tryd.prog.funcNamed "clarion/clarionlaw16.JoinerNil" = some 6 by kernel_rfl).symm.trans hf) |>.symm
      obtain rfl : fn = Tryd.f6 := (Option.some.inj (Tryd.func6.symm.trans hfn)).symm
      exact ⟨by kernel_rfl, fun j t ht => by
        rw [Tryd.params6] at ht
        have hm : t ∈ [32] := by simpa using Array.mem_of_getElem? ht
        have hall : ([32].all fun u => !Tryd.prog.wantsStandIn u) = true := by kernel_rfl
        exact (show Tryd.prog.wantsStandIn t = false by simpa using List.all_eq_true.1 hall t hm)⟩)
    (by kernel_rfl)
#print axioms proved
end Go.Proofs.YtifbomppgflkfaaDoor.joinerNil
