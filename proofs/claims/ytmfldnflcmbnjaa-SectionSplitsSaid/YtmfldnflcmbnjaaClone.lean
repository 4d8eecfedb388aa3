/-
  What strings.Clone answers: the same bytes; the memory that was there stays. For texts of up to a billion bytes.
-/
import Derived.Shelf.Pu.Clone
import Derived.Shelf.Abstract
import Derived.Test.YtmfldnflcmbnjaaBas
namespace Go.Proofs.Ytmfldnflcmbnjaa
open Go.RowKit Go.Shelf Gf
set_option maxRecDepth 100000
def renC : Ren where
  f := fun n => if n = 25 then 63 else 0
  t := fun n => if n = 0 then 0 else if n = 3 then 3 else if n = 4 then 4 else if n = 5 then 5 else if n = 9 then 9 else if n = 37 then 53 else if n = 47 then 101 else 0
  g := fun _ => 0
theorem laysC : LaysPu.n25 Try.prog renC where
  mixed := by kernel_rfl
  f25 := by kernel_rfl
  t0 := by kernel_rfl
  a0 := fun w => by exact Try.isAgg0 w
  z0 := fun w => by exact Try.sizeOf0 w
  v0 := fun w => by exact Try.zeroValue0 w
  i0 := by kernel_rfl
  t3 := by kernel_rfl
  a3 := fun w => by exact Try.isAgg3 w
  z3 := fun w => by exact Try.sizeOf3 w
  v3 := fun w => by exact Try.zeroValue3 w
  i3 := by kernel_rfl
  t4 := by kernel_rfl
  a4 := fun w => by exact Try.isAgg4 w
  z4 := fun w => by exact Try.sizeOf4 w
  v4 := fun w => by exact Try.zeroValue4 w
  i4 := by kernel_rfl
  t5 := by kernel_rfl
  a5 := fun w => by exact Try.isAgg5 w
  z5 := fun w => by exact Try.sizeOf5 w
  v5 := fun w => by exact Try.zeroValue5 w
  i5 := by kernel_rfl
  t9 := by kernel_rfl
  a9 := fun w => by exact Try.isAgg9 w
  z9 := fun w => by exact Try.sizeOf9 w
  v9 := fun w => by exact Try.zeroValue9 w
  i9 := by kernel_rfl
  t37 := by kernel_rfl
  a37 := fun w => by exact Try.isAgg53 w
  z37 := fun w => by exact Try.sizeOf53 w
  v37 := fun w => by exact Try.zeroValue53 w
  i37 := by kernel_rfl
  t47 := by kernel_rfl
  a47 := fun w => by exact Try.isAgg101 w
  z47 := fun w => by exact Try.sizeOf101 w
  v47 := fun w => by exact Try.zeroValue101 w
  i47 := by kernel_rfl
theorem lclone_any (s : ByteArray) (w : World) (hlim : s.size ≤ 1000000000) :
    Calls Try.prog 63 #[.string s] w fun e w' => e = .returned (.string s) ∧ Below w.heap.size w w' := AnyPu.stringslite_Clone laysC s w (by omega)
set_option maxHeartbeats 400000 in
theorem clone_any (s : ByteArray) (w : World) (hlim : s.size ≤ 1000000000) :
    Calls Try.prog 58 #[.string s] w fun e w' => e = .returned (.string s) ∧ Below w.heap.size w w' := by
  go_enter Try.func58, Try.ntmps58
  go_wp2_with fail
  refine (lclone_any s w hlim).mono ?_
  rintro e w1 ⟨rfl, hb⟩
  go_wp2
  go_ret
  exact ⟨rfl, hb⟩
end Go.Proofs.Ytmfldnflcmbnjaa
