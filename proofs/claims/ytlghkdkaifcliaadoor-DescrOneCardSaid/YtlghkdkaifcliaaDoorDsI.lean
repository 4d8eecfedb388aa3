/-
  The example of layer 18. The memory that was there stays.
-/
import Derived.Test.YtlghkdkaifcliaaDoorDsC
import Derived.Test.YtlghkdkaifcliaaDoorDsG
namespace Go.Proofs.YtlghkdkaifcliaaDoor
open Go.RowKit Gf Ds
set_option maxRecDepth 100000
set_option linter.unusedVariables false
def exS18 : Slc := ⟨true, true, 512, 9, 2, 1, ⟨#[]⟩⟩
theorem exS18_ok : okSl exS18 := by decide
theorem exS18_loop : loop [slD exS18] = ([119, 3, 185, 9, 33], 0) := by decide
set_option maxHeartbeats 1600000 in
theorem awake18_any (w : World) (hT : TS w) : Calls Tryd.prog 11 #[] w fun e w' => e = .returned (.bool true) ∧ Keeps w w' := by
  have HM := Lib.hid (dmk_any exS18 (by unfold inI exS18; decide) w hT)
  rw [mkS_ok exS18_ok] at HM
  have HL := Lib.hid (fun W a (h : IsE rowD W a 1 [slD exS18]) => eloop_any (cap := 1) W h (by decide))
  rw [exS18_loop] at HL
  obtain ⟨BX, hBX⟩ : ∃ BX, (slD exS18).body = BX := ⟨_, rfl⟩
  have hsd : slD exS18 = ⟨119, BX⟩ := by rw [← hBX]; rfl
  rw [hsd] at HM HL
  unfold exS18 at HM
  unfold DmPost at HM
  unfold DlPost at HL
  rw [show st [119, 3, 185, 9, 33] = (⟨#[119, 3, 185, 9, 33]⟩ : ByteArray) from rfl] at HL
  clear hsd hBX hT
  go_enter Tryd.func11, Tryd.ntmps11
  go_wp2_with (first | (go_at_call 19; refine HM.out.mono ?_; rintro _ w1 ⟨rfl, k1⟩; obtain ⟨wC, hC⟩ : ∃ W, w1.alloc (.cells #[.int .i64 119, .string BX] 37) = W := ⟨_, rfl⟩; obtain ⟨V, hV⟩ : ∃ V, w1.heap.size = V := ⟨_, rfl⟩; have HV := (show CsAt V (dsC ⟨119, BX⟩) wC from (by rw [← hV, ← hC]; exact CsAt.made w1 #[.int .i64 119, .string BX] _ (by simp))); have p0 := HV.cell 0 rfl; have p1 := HV.cell 1 rfl; obtain ⟨X, hX⟩ : ∃ X, wC.heap.size = X := ⟨_, rfl⟩; have HI := Lib.hid (show IsE rowD (wC.alloc (.cells #[.int .i64 119, .string BX] 37)) (some ⟨X, 0, none⟩) 1 [⟨119, BX⟩] from IsE.lit (T := rowD) wC [⟨119, BX⟩] #[.int .i64 119, .string BX] _ rfl hX); have HK1 := Lib.hid (show Keeps w wC from (by rw [← hC]; exact k1.alloc _)); clear k1 HV) | (go_at_call 12; refine (HL.out _ _ HI.out).mono ?_; rintro _ w2 ⟨rfl, k2⟩; have HK2 := Lib.hid ((HK1.out.alloc (.cells #[.int .i64 119, .string BX] 37)).trans k2); clear k2))
  go_ret
  exact ⟨rfl, HK2.out⟩
end Go.Proofs.YtlghkdkaifcliaaDoor
