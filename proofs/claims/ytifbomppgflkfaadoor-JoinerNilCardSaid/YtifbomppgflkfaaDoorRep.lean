/-
  What strings.Repeat of the library answers. The memory that was there stays.
-/
import Derived.Shelf.Strings.Repeat
import Derived.Test.YtifbomppgflkfaaDoorBase
namespace Go.Proofs.YtifbomppgflkfaaDoor
open Go.RowKit Go.Shelf Gf
set_option maxRecDepth 100000
/-- One byte, again and again. -/
theorem repeat_byte (x : UInt8) (c : Nat) : Lib.repeatL [x] c = List.replicate c x := by
  induction c with
  | zero => rfl
  | succ c ih => rw [List.replicate_succ, ← ih]; rfl
end Go.Proofs.YtifbomppgflkfaaDoor
