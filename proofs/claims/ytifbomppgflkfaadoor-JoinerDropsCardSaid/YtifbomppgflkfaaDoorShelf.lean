/-
  The shelf's strings.Clone and strings.Builder, laid for this program. Of all values.
-/
import Derived.Shelf.Pu.Clone
import Derived.Shelf.Abstract
import Derived.Shelf.Strings.Builder1
import Derived.Test.YtifbomppgflkfaaDoorBase
namespace Go.Proofs.YtifbomppgflkfaaDoor
open Go.RowKit Go.Shelf Gf
set_option maxRecDepth 100000
def renC : Ren where
  f := fun n => if n = 25 then 41 else 0
  t := fun n => if n = 0 then 0 else if n = 3 then 3 else if n = 4 then 4 else if n = 5 then 5 else if n = 9 then 9 else if n = 37 then 79 else if n = 47 then 88 else 0
  g := fun _ => 0
theorem laysC : LaysPu.n25 Tryd.prog renC where
  mixed := by kernel_rfl
  f25 := by kernel_rfl
  t0 := by kernel_rfl
  a0 := fun w => by exact Tryd.isAgg0 w
  z0 := fun w => by exact Tryd.sizeOf0 w
  v0 := fun w => by exact Tryd.zeroValue0 w
  i0 := by kernel_rfl
  t3 := by kernel_rfl
  a3 := fun w => by exact Tryd.isAgg3 w
  z3 := fun w => by exact Tryd.sizeOf3 w
  v3 := fun w => by exact Tryd.zeroValue3 w
  i3 := by kernel_rfl
  t4 := by kernel_rfl
  a4 := fun w => by exact Tryd.isAgg4 w
  z4 := fun w => by exact Tryd.sizeOf4 w
  v4 := fun w => by exact Tryd.zeroValue4 w
  i4 := by kernel_rfl
  t5 := by kernel_rfl
  a5 := fun w => by exact Tryd.isAgg5 w
  z5 := fun w => by exact Tryd.sizeOf5 w
  v5 := fun w => by exact Tryd.zeroValue5 w
  i5 := by kernel_rfl
  t9 := by kernel_rfl
  a9 := fun w => by exact Tryd.isAgg9 w
  z9 := fun w => by exact Tryd.sizeOf9 w
  v9 := fun w => by exact Tryd.zeroValue9 w
  i9 := by kernel_rfl
  t37 := by kernel_rfl
  a37 := fun w => by exact Tryd.isAgg79 w
  z37 := fun w => by exact Tryd.sizeOf79 w
  v37 := fun w => by exact Tryd.zeroValue79 w
  i37 := by kernel_rfl
  t47 := by kernel_rfl
  a47 := fun w => by exact Tryd.isAgg88 w
  z47 := fun w => by exact Tryd.sizeOf88 w
  v47 := fun w => by exact Tryd.zeroValue88 w
  i47 := by kernel_rfl
theorem lclone_any (s : ByteArray) (w : World) (hlim : s.size ≤ 1000000000) :
    Calls Tryd.prog 41 #[.string s] w fun e w' => e = .returned (.string s) ∧ Below w.heap.size w w' := AnyPu.stringslite_Clone laysC s w (by omega)
set_option maxHeartbeats 400000 in
theorem clone_any (s : ByteArray) (w : World) (hlim : s.size ≤ 1000000000) :
    Calls Tryd.prog 33 #[.string s] w fun e w' => e = .returned (.string s) ∧ Below w.heap.size w w' := by
  go_enter Tryd.func33, Tryd.ntmps33
  go_wp2_with fail
  refine (lclone_any s w hlim).mono ?_
  rintro e w1 ⟨rfl, hb⟩
  go_wp2
  go_ret
  exact ⟨rfl, hb⟩
end Go.Proofs.YtifbomppgflkfaaDoor
namespace Go.Proofs.YtifbomppgflkfaaDoor
open Go.RowKit Go.Shelf Gf
set_option maxRecDepth 100000
theorem byteCells_append (l r : List UInt8) : Lib.byteCells (l ++ r) = Lib.byteCells l ++ Lib.byteCells r := by unfold Lib.byteCells; rw [List.map_append]
theorem strCells_ls (s : ByteArray) : Lib.strCells s = Lib.byteCells (ls s) := by unfold Lib.strCells; rfl
theorem Keeps.on {w0 w w' : World} {b : Nat} (h : Keeps w0 w) (hb : w0.heap.size = b) (k : Below b w w') : Keeps w0 w' := by subst hb; exact Below.trans h k
theorem ownsRow_keeps {w w' : World} {base : Nat} {e : TypeId} {size : Nat} {v : Value} {n : Nat} {xs : List Value} (h : w.ownsRow base e size v n xs) (k : Keeps w w') : w'.ownsRow base e size v n xs := by
  obtain ⟨hl, h⟩ := h
  refine ⟨hl, ?_⟩
  rcases h with h | ⟨g, cap, cur, hv, hb, hh, h5⟩
  · exact .inl h
  · exact .inr ⟨g, cap, cur, hv, hb, (Below.block k g (Array.getElem?_eq_some_iff.1 hh).1).trans hh, h5⟩
end Go.Proofs.YtifbomppgflkfaaDoor
