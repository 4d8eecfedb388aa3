/-
  The condition of a row that lists the table of widths of package packet: it lies where the program's text lays it; and the heap that the program's own start leaves meets the condition.
-/
import Derived.Test.YtifbomppgflkfaaDoorRows
import Derived.Test.YtifbomppgflkfaaDoorPkA
import Derived.ProofKit
import Derived.LaidMore
import Derived.OpenShut
import Derived.Stop.Joined
namespace Go.Proofs.YtifbomppgflkfaaDoor
open Go.ChangeShapes Go.WideShapes Go.ChangeAt Go.WideMaps Go.WideElems Go.RowKit
set_option maxRecDepth 100000
theorem gWide : Tryd.prog.globalNamed "clarion/packet.wide" = some 0 := by kernel_rfl
theorem tWide : (Tryd.prog.globals[0]?).map (·.type) = some 73 := by kernel_rfl
/-- The heap that the program's own start leaves meets the condition. -/
theorem door_met (os : Os) (args : Array Value) : laidMetH Tryd.prog [("clarion/packet.wide", Rows.laid_clarion_packet_wide)] ((World.doorLaid Tryd.prog 400 os).forCall (fun _ _ => 0) ⟨#[], args, []⟩).memory :=
  laidMetH_of_parts3 (fuel := 8) (laidMet_of_run' 8 (by kernel_rfl) (by kernel_rfl)) (by kernel_rfl) (by kernel_rfl)
theorem wd_of_laid {W : World} (h : laidMetH Tryd.prog [("clarion/packet.wide", Rows.laid_clarion_packet_wide)] W) : Wd W := by
  rw [MakeChecks.laidMetH_plain _ _ _ (by kernel_rfl)] at h
  obtain ⟨ps, ⟨g0, t0, cs0, f0, p0, q0, hg0, ht0, hv0, hd0, _, _⟩, _, _⟩ := h
  obtain rfl := Option.some.inj (gWide.symm.trans hg0)
  obtain rfl := Option.some.inj (tWide.symm.trans ht0)
  obtain ⟨xs, m1, rfl, hx1, hlen, hn3, hel⟩ := DataW.trod_array Tryd.underlying73 hd0
  have c3 : Tryd.prog.cellsOf 3 = 1 := by kernel_rfl
  have c8 : Tryd.prog.cellsOf 73 = 8 := by kernel_rfl
  intro j v hj
  have hj8 : j < 8 := (List.getElem?_eq_some_iff.1 hj).1
  have h0 := hel j hj8
  obtain ⟨x, hx⟩ : ∃ x, xs[j]? = some x := ⟨_, List.getElem?_eq_getElem (by omega)⟩
  rw [hx] at h0
  obtain ⟨k, e1, e2, _⟩ := DataW.trod_int Tryd.underlying3 h0
  rw [c3, Nat.mul_one] at e1
  have hc : cs0[j]? = some (.int .i64 k) := by
    have : (List.take 1 (List.drop j cs0.toList))[0]? = some (.int .i64 k) := by rw [e1]; rfl
    rw [List.getElem?_take_of_lt (by decide), List.getElem?_drop, Nat.add_zero, Array.getElem?_toList] at this
    exact this
  rw [Nat.zero_add, World.var?_cell hg0 hv0 j, hc]
  have hm : (xs.map (·.1))[j]? = some (DataW.lit (.int .i64 k)) := by rw [List.getElem?_map, hx, e2]; rfl
  have hx2 : (DataW.agg (xs.map (·.1)) : DataW Unit) = Rows.laid_clarion_packet_wide := ((Prod.mk.inj hx1).1).symm
  unfold Rows.laid_clarion_packet_wide at hx2
  have hx3 := DataW.agg.inj hx2
  rw [hx3] at hm
  have hk' : j = 0 ∨ j = 1 ∨ j = 2 ∨ j = 3 ∨ j = 4 ∨ j = 5 ∨ j = 6 ∨ j = 7 := by omega
  clear hel h0 hx e1 e2 hc hx1 hx2 hx3
  rcases hk' with rfl | rfl | rfl | rfl | rfl | rfl | rfl | rfl
  all_goals
    simp [wdC] at hj
    subst hj
    simp at hm
    rw [hm]
end Go.Proofs.YtifbomppgflkfaaDoor
