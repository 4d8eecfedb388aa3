/-
  What (*strings.Builder).Grow of a new builder, WriteByte, and strings.Join with nothing between answer. The memory that was there stays.
-/
import Derived.Shelf.Strings.OnBuilder
import Derived.Test.YtlghkdkaifcliaaDoorShelf
namespace Go.Proofs.YtlghkdkaifcliaaDoor
open Go.RowKit Go.Shelf Gf
set_option maxRecDepth 100000
def renWb : Ren where
  f := fun n => if n = 167 then 39 else if n = 240 then 57 else if n = 276 then 62 else 0
  t := fun n => if n = 0 then 0 else if n = 4 then 4 else if n = 5 then 5 else if n = 9 then 9 else if n = 20 then 20 else if n = 37 then 74 else if n = 70 then 96 else if n = 72 then 98 else if n = 75 then 100 else if n = 80 then 104 else if n = 164 then 129 else 0
  g := fun _ => 0
theorem laysWb : Lays.n167 Tryd.prog renWb where
  mixed := by kernel_rfl
  f167 := by kernel_rfl
  f240 := by kernel_rfl
  f276 := by kernel_rfl
  t0 := by kernel_rfl
  a0 := fun w => by exact Tryd.isAgg0 w
  z0 := fun w => by exact Tryd.sizeOf0 w
  v0 := fun w => by exact Tryd.zeroValue0 w
  t4 := by kernel_rfl
  a4 := fun w => by exact Tryd.isAgg4 w
  z4 := fun w => by exact Tryd.sizeOf4 w
  v4 := fun w => by exact Tryd.zeroValue4 w
  t5 := by kernel_rfl
  a5 := fun w => by exact Tryd.isAgg5 w
  z5 := fun w => by exact Tryd.sizeOf5 w
  v5 := fun w => by exact Tryd.zeroValue5 w
  t9 := by kernel_rfl
  a9 := fun w => by exact Tryd.isAgg9 w
  z9 := fun w => by exact Tryd.sizeOf9 w
  v9 := fun w => by exact Tryd.zeroValue9 w
  t20 := by kernel_rfl
  a20 := fun w => by exact Tryd.isAgg20 w
  z20 := fun w => by exact Tryd.sizeOf20 w
  v20 := fun w => by exact Tryd.zeroValue20 w
  t37 := by kernel_rfl
  a37 := fun w => by exact Tryd.isAgg74 w
  z37 := fun w => by exact Tryd.sizeOf74 w
  v37 := fun w => by exact Tryd.zeroValue74 w
  t70 := by kernel_rfl
  a70 := fun w => by exact Tryd.isAgg96 w
  z70 := fun w => by exact Tryd.sizeOf96 w
  v70 := fun w => by exact Tryd.zeroValue96 w
  t72 := by kernel_rfl
  a72 := fun w => by exact Tryd.isAgg98 w
  z72 := fun w => by exact Tryd.sizeOf98 w
  v72 := fun w => by exact Tryd.zeroValue98 w
  t75 := by kernel_rfl
  a75 := fun w => by exact Tryd.isAgg100 w
  z75 := fun w => by exact Tryd.sizeOf100 w
  v75 := fun w => by exact Tryd.zeroValue100 w
  t164 := by kernel_rfl
  a164 := fun w => by exact Tryd.isAgg129 w
  z164 := fun w => by exact Tryd.sizeOf129 w
  v164 := fun w => by exact Tryd.zeroValue129 w
theorem extraWb : Builder.Extra Tryd.prog renWb where
  sizeBuilder := by kernel_rfl
  liesBuilder := by kernel_rfl
  t5 := by kernel_rfl
  a5 := fun w => by exact Tryd.isAgg5 w
  z5 := fun w => by exact Tryd.sizeOf5 w
  v5 := fun w => by exact Tryd.zeroValue5 w
  infoByte := by kernel_rfl
  cellsByte := by kernel_rfl
  sizeByte := by kernel_rfl
  neB5 := by decide
theorem wbyte_any (base b : Nat) (l : List UInt8) (c : UInt8) (w : World) (h : IsBd base b l w) (hl : l.length ≤ 1000000000) (hb : base ≤ w.heap.size) :
    Calls Tryd.prog 39 #[.pointer (some ⟨b, 0, none⟩), .int .u8 (c.toNat : Int)] w fun e w' => e = .returned .nilIface ∧ IsBd base b (l ++ [c]) w' ∧ Below base w w' := by
  have h1 := Any.Builder_WriteByte laysWb extraWb base b (Lib.byteCells l) (c.toNat : Int) w h (by rw [show (Lib.byteCells l).length = l.length from List.length_map _]; omega) hb
  refine Calls.mono h1 fun e w' ⟨he, hA, hB⟩ => ⟨he, .inr ?_, hB⟩
  rw [byteCells_append]; exact hA
theorem joinTail_nil (r : List (List UInt8)) : Lib.joinTail [] r = r.flatten := by
  unfold Lib.joinTail
  congr 1
  rw [show ((fun x : List UInt8 => [] ++ x)) = id from rfl, List.map_id]
theorem join_flat (xs : List (List UInt8)) : Lib.join xs [] = xs.flatten := by
  cases xs with
  | nil => rfl
  | cons x r => rw [Lib.join_cons, joinTail_nil, List.flatten_cons]
end Go.Proofs.YtlghkdkaifcliaaDoor
