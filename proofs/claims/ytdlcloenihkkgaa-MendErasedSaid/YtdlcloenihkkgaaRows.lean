/-
  No cell of these rows narrows 'for every input' (looked for: loops, veiled, ifaces, maps, wideKeys, modest, calm, conditions, laid).
  DERIVED. THE GIVEN ROWS OF THIS SEAT. 6 by the template 'for every input the law returns true; each argument reads behind the call as it read before'; 0 by the template 'total and deterministic' (their statements: YtdlcloenihkkgaaTotals.lean).
  GIVEN WITH THE SEED: the statements are not yours to turn. If you find one false, say at which input.
  Laid BY PROGRAM, IN A SANDBOX (cutbox-rows.mjs): the forced cells as the released guide's own fill.sh prints them over the translation f91c796dc20127aa… (all of the seat's roots in one cut). By AI agents, Wed Nov 11 2026. No macro, syntax, notation, axiom, sorry.
-/
import Derived.Test.YtdlcloenihkkgaaChecked
import GoSem.Claim
import GoSem.ClaimJoined
import GoSem.ClaimMapViews
import Derived.JoinedTies
import Derived.KernelRfl
namespace Go.Proofs.Ytdlcloenihkkgaa
/- THE CELL 'sum', in the pinned program and in every row, IS THE sha256 OF THE DUMP (.gsa) THAT YtdlcloenihkkgaaProg.lean LOADS. Nothing in Lean hashes anything: it is a label: what it is worth is what the hold of that sum in a sandbox is worth. -/
noncomputable def Try.pinned : Pinned := { name := "ytdlcloenihkkgaa", sum := "f91c796dc20127aa1b1b4f5d8808d0dbb8dc665d5718c38476373d46aa586208", checked := Try.checked }
namespace Rows
def none {H : Type} : Left H := { results := [], args := [] }

/-- 'clarionlaw04.MendRoom': WHATEVER THE INPUT: true; the input reads as it did. -/
def mendRoomSpec : ChangeSpec := { name := "mendRoom", fn := fun _ => fun
  | [d1, d2] => { results := [.lit (.bool true)], args := [d1, d2] }
  | _ => none }
def mendRoomRow : OpenClaim := { program := "ytdlcloenihkkgaa", sum := "f91c796dc20127aa1b1b4f5d8808d0dbb8dc665d5718c38476373d46aa586208", func := "clarion/clarionlaw04.MendRoom", spec := "mendRoom", inPlace := ["internal/abi.NoEscape", "internal/bytealg.MakeNoZero"], unfollowed := true, recurses := true, apart := false }
def MendRoomSaid : Prop := mendRoomRow.holds Try.pinned (OpenSpec.ofChange mendRoomSpec)

/-- ITS FALSE NEIGHBOUR: 'it returns false'. Refute it at one input. -/
def mendRoomWrong : ChangeSpec := { name := "mendRoom", fn := fun _ => fun
  | [d1, d2] => { results := [.lit (.bool false)], args := [d1, d2] }
  | _ => none }
def MendRoomWrongFalsely : Prop := mendRoomRow.holds Try.pinned (OpenSpec.ofChange mendRoomWrong)

/-- 'clarionlaw04.MendFinds': WHATEVER THE INPUT: true; the input reads as it did. -/
def mendFindsSpec : ChangeSpec := { name := "mendFinds", fn := fun _ => fun
  | [d1, d2, d3] => { results := [.lit (.bool true)], args := [d1, d2, d3] }
  | _ => none }
def mendFindsRow : OpenClaim := { program := "ytdlcloenihkkgaa", sum := "f91c796dc20127aa1b1b4f5d8808d0dbb8dc665d5718c38476373d46aa586208", func := "clarion/clarionlaw04.MendFinds", spec := "mendFinds", inPlace := ["internal/abi.NoEscape", "internal/bytealg.MakeNoZero"], unfollowed := true, recurses := true, apart := false }
def MendFindsSaid : Prop := mendFindsRow.holds Try.pinned (OpenSpec.ofChange mendFindsSpec)

/-- ITS FALSE NEIGHBOUR: 'it returns false'. Refute it at one input. -/
def mendFindsWrong : ChangeSpec := { name := "mendFinds", fn := fun _ => fun
  | [d1, d2, d3] => { results := [.lit (.bool false)], args := [d1, d2, d3] }
  | _ => none }
def MendFindsWrongFalsely : Prop := mendFindsRow.holds Try.pinned (OpenSpec.ofChange mendFindsWrong)

/-- 'clarionlaw04.MendSure': WHATEVER THE INPUT: true; the input reads as it did. -/
def mendSureSpec : ChangeSpec := { name := "mendSure", fn := fun _ => fun
  | [d1, d2] => { results := [.lit (.bool true)], args := [d1, d2] }
  | _ => none }
def mendSureRow : OpenClaim := { program := "ytdlcloenihkkgaa", sum := "f91c796dc20127aa1b1b4f5d8808d0dbb8dc665d5718c38476373d46aa586208", func := "clarion/clarionlaw04.MendSure", spec := "mendSure", inPlace := ["internal/abi.NoEscape", "internal/bytealg.MakeNoZero"], unfollowed := true, recurses := true, apart := false }
def MendSureSaid : Prop := mendSureRow.holds Try.pinned (OpenSpec.ofChange mendSureSpec)

/-- ITS FALSE NEIGHBOUR: 'it returns false'. Refute it at one input. -/
def mendSureWrong : ChangeSpec := { name := "mendSure", fn := fun _ => fun
  | [d1, d2] => { results := [.lit (.bool false)], args := [d1, d2] }
  | _ => none }
def MendSureWrongFalsely : Prop := mendSureRow.holds Try.pinned (OpenSpec.ofChange mendSureWrong)

/-- 'clarionlaw04.MendArgs': WHATEVER THE INPUT: true; the input reads as it did. -/
def mendArgsSpec : ChangeSpec := { name := "mendArgs", fn := fun _ => fun
  | [d1, d2] => { results := [.lit (.bool true)], args := [d1, d2] }
  | _ => none }
def mendArgsRow : OpenClaim := { program := "ytdlcloenihkkgaa", sum := "f91c796dc20127aa1b1b4f5d8808d0dbb8dc665d5718c38476373d46aa586208", func := "clarion/clarionlaw04.MendArgs", spec := "mendArgs", inPlace := ["internal/abi.NoEscape", "internal/bytealg.MakeNoZero"], unfollowed := true, recurses := true, apart := false }
def MendArgsSaid : Prop := mendArgsRow.holds Try.pinned (OpenSpec.ofChange mendArgsSpec)

/-- ITS FALSE NEIGHBOUR: 'it returns false'. Refute it at one input. -/
def mendArgsWrong : ChangeSpec := { name := "mendArgs", fn := fun _ => fun
  | [d1, d2] => { results := [.lit (.bool false)], args := [d1, d2] }
  | _ => none }
def MendArgsWrongFalsely : Prop := mendArgsRow.holds Try.pinned (OpenSpec.ofChange mendArgsWrong)

/-- 'clarionlaw04.MendMore': WHATEVER THE INPUT: true; the input reads as it did. -/
def mendMoreSpec : ChangeSpec := { name := "mendMore", fn := fun _ => fun
  | [d1, d2, d3] => { results := [.lit (.bool true)], args := [d1, d2, d3] }
  | _ => none }
def mendMoreRow : OpenClaim := { program := "ytdlcloenihkkgaa", sum := "f91c796dc20127aa1b1b4f5d8808d0dbb8dc665d5718c38476373d46aa586208", func := "clarion/clarionlaw04.MendMore", spec := "mendMore", inPlace := ["internal/abi.NoEscape", "internal/bytealg.MakeNoZero"], unfollowed := true, recurses := true, apart := false }
def MendMoreSaid : Prop := mendMoreRow.holds Try.pinned (OpenSpec.ofChange mendMoreSpec)

/-- ITS FALSE NEIGHBOUR: 'it returns false'. Refute it at one input. -/
def mendMoreWrong : ChangeSpec := { name := "mendMore", fn := fun _ => fun
  | [d1, d2, d3] => { results := [.lit (.bool false)], args := [d1, d2, d3] }
  | _ => none }
def MendMoreWrongFalsely : Prop := mendMoreRow.holds Try.pinned (OpenSpec.ofChange mendMoreWrong)

/-- 'clarionlaw04.MendErased': WHATEVER THE INPUT: true; the input reads as it did. -/
def mendErasedSpec : ChangeSpec := { name := "mendErased", fn := fun _ => fun
  | [d1, d2, d3] => { results := [.lit (.bool true)], args := [d1, d2, d3] }
  | _ => none }
def mendErasedRow : OpenClaim := { program := "ytdlcloenihkkgaa", sum := "f91c796dc20127aa1b1b4f5d8808d0dbb8dc665d5718c38476373d46aa586208", func := "clarion/clarionlaw04.MendErased", spec := "mendErased", inPlace := ["internal/abi.NoEscape", "internal/bytealg.MakeNoZero"], unfollowed := true, recurses := true, apart := false }
def MendErasedSaid : Prop := mendErasedRow.holds Try.pinned (OpenSpec.ofChange mendErasedSpec)

/-- ITS FALSE NEIGHBOUR: 'it returns false'. Refute it at one input. -/
def mendErasedWrong : ChangeSpec := { name := "mendErased", fn := fun _ => fun
  | [d1, d2, d3] => { results := [.lit (.bool false)], args := [d1, d2, d3] }
  | _ => none }
def MendErasedWrongFalsely : Prop := mendErasedRow.holds Try.pinned (OpenSpec.ofChange mendErasedWrong)

/- THE SECOND FORM. 'bulk': how many values and letters a reading holds, each counted each time it is reached (what is shared counts as often as it is met; a slice's spare places count too). A statement '..UptoSaid' is the law's where the arguments, and the package variables that the reading takes, are together of bulk at most 1048576: NARROWER than '..Said'. Prove '..Said' where nothing that the law and all that it calls make is longer than what came in: it says more and counts as full. Else prove '..UptoSaid'. A law counts once. -/
mutual
def uptoBulk {H : Type} : DataW H → Nat
  | .lit (.string bytes) => bytes.length + 1
  | .lit _ => 1
  | .nil => 1
  | .ptr d => uptoBulk d + 1
  | .slice elems spare => uptoBulkAll elems + uptoBulkAll spare + 1
  | .agg parts => uptoBulkAll parts + 1
  | .iface _ d => uptoBulk d + 1
  | .map entries => uptoBulkEntries entries + 1
  | .held _ => 1
def uptoBulkAll {H : Type} : List (DataW H) → Nat
  | [] => 0
  | d :: r => uptoBulk d + uptoBulkAll r
def uptoBulkEntries {H : Type} : List (Lit × DataW H) → Nat
  | [] => 0
  | x :: r => uptoBulkEntry x + uptoBulkEntries r
def uptoBulkEntry {H : Type} : Lit × DataW H → Nat
  | (.string bytes, d) => bytes.length + uptoBulk d + 1
  | (_, d) => uptoBulk d + 1
 end
def uptoSmall : (H : Type) → List (DataW H) → Bool := fun _ ds => decide (uptoBulkAll ds ≤ 1048576)
def OpenSpec.upto (s : _root_.Go.ChangeSpec) : _root_.Go.OpenSpec := { _root_.Go.OpenSpec.ofChange s with cond := some uptoSmall }

/-- 'clarionlaw04.MendRoom', WHERE WHAT IT READS IS OF BULK AT MOST 1048576: true; the input reads as it did. -/
def mendRoomUptoRow : OpenClaim := { program := "ytdlcloenihkkgaa", sum := "f91c796dc20127aa1b1b4f5d8808d0dbb8dc665d5718c38476373d46aa586208", func := "clarion/clarionlaw04.MendRoom", spec := "mendRoom", inPlace := ["internal/abi.NoEscape", "internal/bytealg.MakeNoZero"], unfollowed := true, recurses := true, apart := false, narrowed := true }
def MendRoomUptoSaid : Prop := mendRoomUptoRow.holds Try.pinned (OpenSpec.upto mendRoomSpec)

/-- 'clarionlaw04.MendFinds', WHERE WHAT IT READS IS OF BULK AT MOST 1048576: true; the input reads as it did. -/
def mendFindsUptoRow : OpenClaim := { program := "ytdlcloenihkkgaa", sum := "f91c796dc20127aa1b1b4f5d8808d0dbb8dc665d5718c38476373d46aa586208", func := "clarion/clarionlaw04.MendFinds", spec := "mendFinds", inPlace := ["internal/abi.NoEscape", "internal/bytealg.MakeNoZero"], unfollowed := true, recurses := true, apart := false, narrowed := true }
def MendFindsUptoSaid : Prop := mendFindsUptoRow.holds Try.pinned (OpenSpec.upto mendFindsSpec)

/-- 'clarionlaw04.MendSure', WHERE WHAT IT READS IS OF BULK AT MOST 1048576: true; the input reads as it did. -/
def mendSureUptoRow : OpenClaim := { program := "ytdlcloenihkkgaa", sum := "f91c796dc20127aa1b1b4f5d8808d0dbb8dc665d5718c38476373d46aa586208", func := "clarion/clarionlaw04.MendSure", spec := "mendSure", inPlace := ["internal/abi.NoEscape", "internal/bytealg.MakeNoZero"], unfollowed := true, recurses := true, apart := false, narrowed := true }
def MendSureUptoSaid : Prop := mendSureUptoRow.holds Try.pinned (OpenSpec.upto mendSureSpec)

/-- 'clarionlaw04.MendArgs', WHERE WHAT IT READS IS OF BULK AT MOST 1048576: true; the input reads as it did. -/
def mendArgsUptoRow : OpenClaim := { program := "ytdlcloenihkkgaa", sum := "f91c796dc20127aa1b1b4f5d8808d0dbb8dc665d5718c38476373d46aa586208", func := "clarion/clarionlaw04.MendArgs", spec := "mendArgs", inPlace := ["internal/abi.NoEscape", "internal/bytealg.MakeNoZero"], unfollowed := true, recurses := true, apart := false, narrowed := true }
def MendArgsUptoSaid : Prop := mendArgsUptoRow.holds Try.pinned (OpenSpec.upto mendArgsSpec)

/-- 'clarionlaw04.MendMore', WHERE WHAT IT READS IS OF BULK AT MOST 1048576: true; the input reads as it did. -/
def mendMoreUptoRow : OpenClaim := { program := "ytdlcloenihkkgaa", sum := "f91c796dc20127aa1b1b4f5d8808d0dbb8dc665d5718c38476373d46aa586208", func := "clarion/clarionlaw04.MendMore", spec := "mendMore", inPlace := ["internal/abi.NoEscape", "internal/bytealg.MakeNoZero"], unfollowed := true, recurses := true, apart := false, narrowed := true }
def MendMoreUptoSaid : Prop := mendMoreUptoRow.holds Try.pinned (OpenSpec.upto mendMoreSpec)

/-- 'clarionlaw04.MendErased', WHERE WHAT IT READS IS OF BULK AT MOST 1048576: true; the input reads as it did. -/
def mendErasedUptoRow : OpenClaim := { program := "ytdlcloenihkkgaa", sum := "f91c796dc20127aa1b1b4f5d8808d0dbb8dc665d5718c38476373d46aa586208", func := "clarion/clarionlaw04.MendErased", spec := "mendErased", inPlace := ["internal/abi.NoEscape", "internal/bytealg.MakeNoZero"], unfollowed := true, recurses := true, apart := false, narrowed := true }
def MendErasedUptoSaid : Prop := mendErasedUptoRow.holds Try.pinned (OpenSpec.upto mendErasedSpec)

end Rows
end Go.Proofs.Ytdlcloenihkkgaa
