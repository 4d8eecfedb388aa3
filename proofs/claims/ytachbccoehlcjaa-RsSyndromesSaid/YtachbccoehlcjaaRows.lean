/-
  No cell of these rows narrows 'for every input' (looked for: loops, veiled, ifaces, maps, wideKeys, modest, calm, conditions, laid).
  DERIVED. THE GIVEN ROWS OF THIS SEAT. 5 by the template 'for every input the law returns true; each argument reads behind the call as it read before'; 0 by the template 'total and deterministic' (their statements: YtachbccoehlcjaaTotals.lean).
  GIVEN WITH THE SEED: the statements are not yours to turn. If you find one false, say at which input.
  Laid BY PROGRAM, IN A SANDBOX (cutbox-rows.mjs): the forced cells as the released guide's own fill.sh prints them over the translation 1316e289941fb052… (all of the seat's roots in one cut). By AI agents, Wed Nov 11 2026. No macro, syntax, notation, axiom, sorry.
-/
import Derived.Test.YtachbccoehlcjaaChecked
import GoSem.Claim
import GoSem.ClaimJoined
import GoSem.ClaimMapViews
import Derived.JoinedTies
import Derived.KernelRfl
namespace Go.Proofs.Ytachbccoehlcjaa
/- THE CELL 'sum', in the pinned program and in every row, IS THE sha256 OF THE DUMP (.gsa) THAT YtachbccoehlcjaaProg.lean LOADS. Nothing in Lean hashes anything: it is a label: what it is worth is what the hold of that sum in a sandbox is worth. -/
noncomputable def Try.pinned : Pinned := { name := "ytachbccoehlcjaa", sum := "1316e289941fb052ac13c4b1c877dfdba3bfc28d96b1440e260ae932a313d055", checked := Try.checked }
namespace Rows
def none {H : Type} : Left H := { results := [], args := [] }

/-- 'clarionlaw03.RsEncodes': WHATEVER THE INPUT: true; the input reads as it did. -/
def rsEncodesSpec : ChangeSpec := { name := "rsEncodes", fn := fun _ => fun
  | [d1, d2] => { results := [.lit (.bool true)], args := [d1, d2] }
  | _ => none }
def rsEncodesRow : OpenClaim := { program := "ytachbccoehlcjaa", sum := "1316e289941fb052ac13c4b1c877dfdba3bfc28d96b1440e260ae932a313d055", func := "clarion/clarionlaw03.RsEncodes", spec := "rsEncodes", inPlace := ["internal/abi.NoEscape", "internal/bytealg.MakeNoZero"], unfollowed := true, recurses := true, apart := false }
def RsEncodesSaid : Prop := rsEncodesRow.holds Try.pinned (OpenSpec.ofChange rsEncodesSpec)

/-- ITS FALSE NEIGHBOUR: 'it returns false'. Refute it at one input. -/
def rsEncodesWrong : ChangeSpec := { name := "rsEncodes", fn := fun _ => fun
  | [d1, d2] => { results := [.lit (.bool false)], args := [d1, d2] }
  | _ => none }
def RsEncodesWrongFalsely : Prop := rsEncodesRow.holds Try.pinned (OpenSpec.ofChange rsEncodesWrong)

/-- 'clarionlaw03.RsSyndromes': WHATEVER THE INPUT: true; the input reads as it did. -/
def rsSyndromesSpec : ChangeSpec := { name := "rsSyndromes", fn := fun _ => fun
  | [d] => { results := [.lit (.bool true)], args := [d] }
  | _ => none }
def rsSyndromesRow : OpenClaim := { program := "ytachbccoehlcjaa", sum := "1316e289941fb052ac13c4b1c877dfdba3bfc28d96b1440e260ae932a313d055", func := "clarion/clarionlaw03.RsSyndromes", spec := "rsSyndromes", inPlace := ["internal/abi.NoEscape", "internal/bytealg.MakeNoZero"], unfollowed := true, recurses := true, apart := false }
def RsSyndromesSaid : Prop := rsSyndromesRow.holds Try.pinned (OpenSpec.ofChange rsSyndromesSpec)

/-- ITS FALSE NEIGHBOUR: 'it returns false'. Refute it at one input. -/
def rsSyndromesWrong : ChangeSpec := { name := "rsSyndromes", fn := fun _ => fun
  | [d] => { results := [.lit (.bool false)], args := [d] }
  | _ => none }
def RsSyndromesWrongFalsely : Prop := rsSyndromesRow.holds Try.pinned (OpenSpec.ofChange rsSyndromesWrong)

/-- 'clarionlaw03.RsLinear': WHATEVER THE INPUT: true; the input reads as it did. -/
def rsLinearSpec : ChangeSpec := { name := "rsLinear", fn := fun _ => fun
  | [d1, d2, d3] => { results := [.lit (.bool true)], args := [d1, d2, d3] }
  | _ => none }
def rsLinearRow : OpenClaim := { program := "ytachbccoehlcjaa", sum := "1316e289941fb052ac13c4b1c877dfdba3bfc28d96b1440e260ae932a313d055", func := "clarion/clarionlaw03.RsLinear", spec := "rsLinear", inPlace := ["internal/abi.NoEscape", "internal/bytealg.MakeNoZero"], unfollowed := true, recurses := true, apart := false }
def RsLinearSaid : Prop := rsLinearRow.holds Try.pinned (OpenSpec.ofChange rsLinearSpec)

/-- ITS FALSE NEIGHBOUR: 'it returns false'. Refute it at one input. -/
def rsLinearWrong : ChangeSpec := { name := "rsLinear", fn := fun _ => fun
  | [d1, d2, d3] => { results := [.lit (.bool false)], args := [d1, d2, d3] }
  | _ => none }
def RsLinearWrongFalsely : Prop := rsLinearRow.holds Try.pinned (OpenSpec.ofChange rsLinearWrong)

/-- 'clarionlaw03.RsApart': WHATEVER THE INPUT: true; the input reads as it did. -/
def rsApartSpec : ChangeSpec := { name := "rsApart", fn := fun _ => fun
  | [d1, d2, d3] => { results := [.lit (.bool true)], args := [d1, d2, d3] }
  | _ => none }
def rsApartRow : OpenClaim := { program := "ytachbccoehlcjaa", sum := "1316e289941fb052ac13c4b1c877dfdba3bfc28d96b1440e260ae932a313d055", func := "clarion/clarionlaw03.RsApart", spec := "rsApart", inPlace := ["internal/abi.NoEscape", "internal/bytealg.MakeNoZero"], unfollowed := true, recurses := true, apart := false }
def RsApartSaid : Prop := rsApartRow.holds Try.pinned (OpenSpec.ofChange rsApartSpec)

/-- ITS FALSE NEIGHBOUR: 'it returns false'. Refute it at one input. -/
def rsApartWrong : ChangeSpec := { name := "rsApart", fn := fun _ => fun
  | [d1, d2, d3] => { results := [.lit (.bool false)], args := [d1, d2, d3] }
  | _ => none }
def RsApartWrongFalsely : Prop := rsApartRow.holds Try.pinned (OpenSpec.ofChange rsApartWrong)

/-- 'clarionlaw03.RsShorts': WHATEVER THE INPUT: true; the input reads as it did. -/
def rsShortsSpec : ChangeSpec := { name := "rsShorts", fn := fun _ => fun
  | [d1, d2, d3] => { results := [.lit (.bool true)], args := [d1, d2, d3] }
  | _ => none }
def rsShortsRow : OpenClaim := { program := "ytachbccoehlcjaa", sum := "1316e289941fb052ac13c4b1c877dfdba3bfc28d96b1440e260ae932a313d055", func := "clarion/clarionlaw03.RsShorts", spec := "rsShorts", inPlace := ["internal/abi.NoEscape", "internal/bytealg.MakeNoZero"], unfollowed := true, recurses := true, apart := false }
def RsShortsSaid : Prop := rsShortsRow.holds Try.pinned (OpenSpec.ofChange rsShortsSpec)

/-- ITS FALSE NEIGHBOUR: 'it returns false'. Refute it at one input. -/
def rsShortsWrong : ChangeSpec := { name := "rsShorts", fn := fun _ => fun
  | [d1, d2, d3] => { results := [.lit (.bool false)], args := [d1, d2, d3] }
  | _ => none }
def RsShortsWrongFalsely : Prop := rsShortsRow.holds Try.pinned (OpenSpec.ofChange rsShortsWrong)

/- THE SECOND FORM. 'bulk': how many values and letters a reading holds, each counted each time it is reached (what is shared counts as often as it is met; a slice's spare places count too). A statement '..UptoSaid' is the law's where the arguments, and the package variables that the reading takes, are together of bulk at most 1048576: NARROWER than '..Said'. Prove '..Said' where nothing that the law and all that it calls make is longer than what came in: it says more and counts as full. Else prove '..UptoSaid'. A law counts once. -/
mutual
def uptoBulk {H : Type} : DataW H → Nat
  | .lit (.string bytes) => bytes.length + 1
  | .lit _ => 1
  | .nil => 1
  | .ptr d => uptoBulk d + 1
  | .slice elems spare => uptoBulkAll elems + uptoBulkAll spare + 1
  | .agg parts => uptoBulkAll parts + 1
  | .iface _ d => uptoBulk d + 1
  | .map entries => uptoBulkEntries entries + 1
  | .held _ => 1
def uptoBulkAll {H : Type} : List (DataW H) → Nat
  | [] => 0
  | d :: r => uptoBulk d + uptoBulkAll r
def uptoBulkEntries {H : Type} : List (Lit × DataW H) → Nat
  | [] => 0
  | x :: r => uptoBulkEntry x + uptoBulkEntries r
def uptoBulkEntry {H : Type} : Lit × DataW H → Nat
  | (.string bytes, d) => bytes.length + uptoBulk d + 1
  | (_, d) => uptoBulk d + 1
 end
def uptoSmall : (H : Type) → List (DataW H) → Bool := fun _ ds => decide (uptoBulkAll ds ≤ 1048576)
def OpenSpec.upto (s : _root_.Go.ChangeSpec) : _root_.Go.OpenSpec := { _root_.Go.OpenSpec.ofChange s with cond := some uptoSmall }

/-- 'clarionlaw03.RsEncodes', WHERE WHAT IT READS IS OF BULK AT MOST 1048576: true; the input reads as it did. -/
def rsEncodesUptoRow : OpenClaim := { program := "ytachbccoehlcjaa", sum := "1316e289941fb052ac13c4b1c877dfdba3bfc28d96b1440e260ae932a313d055", func := "clarion/clarionlaw03.RsEncodes", spec := "rsEncodes", inPlace := ["internal/abi.NoEscape", "internal/bytealg.MakeNoZero"], unfollowed := true, recurses := true, apart := false, narrowed := true }
def RsEncodesUptoSaid : Prop := rsEncodesUptoRow.holds Try.pinned (OpenSpec.upto rsEncodesSpec)

/-- 'clarionlaw03.RsSyndromes', WHERE WHAT IT READS IS OF BULK AT MOST 1048576: true; the input reads as it did. -/
def rsSyndromesUptoRow : OpenClaim := { program := "ytachbccoehlcjaa", sum := "1316e289941fb052ac13c4b1c877dfdba3bfc28d96b1440e260ae932a313d055", func := "clarion/clarionlaw03.RsSyndromes", spec := "rsSyndromes", inPlace := ["internal/abi.NoEscape", "internal/bytealg.MakeNoZero"], unfollowed := true, recurses := true, apart := false, narrowed := true }
def RsSyndromesUptoSaid : Prop := rsSyndromesUptoRow.holds Try.pinned (OpenSpec.upto rsSyndromesSpec)

/-- 'clarionlaw03.RsLinear', WHERE WHAT IT READS IS OF BULK AT MOST 1048576: true; the input reads as it did. -/
def rsLinearUptoRow : OpenClaim := { program := "ytachbccoehlcjaa", sum := "1316e289941fb052ac13c4b1c877dfdba3bfc28d96b1440e260ae932a313d055", func := "clarion/clarionlaw03.RsLinear", spec := "rsLinear", inPlace := ["internal/abi.NoEscape", "internal/bytealg.MakeNoZero"], unfollowed := true, recurses := true, apart := false, narrowed := true }
def RsLinearUptoSaid : Prop := rsLinearUptoRow.holds Try.pinned (OpenSpec.upto rsLinearSpec)

/-- 'clarionlaw03.RsApart', WHERE WHAT IT READS IS OF BULK AT MOST 1048576: true; the input reads as it did. -/
def rsApartUptoRow : OpenClaim := { program := "ytachbccoehlcjaa", sum := "1316e289941fb052ac13c4b1c877dfdba3bfc28d96b1440e260ae932a313d055", func := "clarion/clarionlaw03.RsApart", spec := "rsApart", inPlace := ["internal/abi.NoEscape", "internal/bytealg.MakeNoZero"], unfollowed := true, recurses := true, apart := false, narrowed := true }
def RsApartUptoSaid : Prop := rsApartUptoRow.holds Try.pinned (OpenSpec.upto rsApartSpec)

/-- 'clarionlaw03.RsShorts', WHERE WHAT IT READS IS OF BULK AT MOST 1048576: true; the input reads as it did. -/
def rsShortsUptoRow : OpenClaim := { program := "ytachbccoehlcjaa", sum := "1316e289941fb052ac13c4b1c877dfdba3bfc28d96b1440e260ae932a313d055", func := "clarion/clarionlaw03.RsShorts", spec := "rsShorts", inPlace := ["internal/abi.NoEscape", "internal/bytealg.MakeNoZero"], unfollowed := true, recurses := true, apart := false, narrowed := true }
def RsShortsUptoSaid : Prop := rsShortsUptoRow.holds Try.pinned (OpenSpec.upto rsShortsSpec)

end Rows
end Go.Proofs.Ytachbccoehlcjaa
