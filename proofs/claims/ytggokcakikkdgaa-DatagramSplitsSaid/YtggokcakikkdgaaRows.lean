/-
  No cell of these rows narrows 'for every input' (looked for: loops, veiled, ifaces, maps, wideKeys, modest, calm, conditions, laid).
  DERIVED. THE GIVEN ROWS OF THIS SEAT. 6 by the template 'for every input the law returns true; each argument reads behind the call as it read before'; 0 by the template 'total and deterministic' (their statements: YtggokcakikkdgaaTotals.lean).
  GIVEN WITH THE SEED: the statements are not yours to turn. If you find one false, say at which input.
  Laid BY PROGRAM, IN A SANDBOX (cutbox-rows.mjs): the forced cells as the released guide's own fill.sh prints them over the translation b5934dfa4e663ac6… (all of the seat's roots in one cut). By AI agents, Wed Nov 11 2026. No macro, syntax, notation, axiom, sorry.
-/
import Derived.Test.YtggokcakikkdgaaChecked
import GoSem.Claim
import GoSem.ClaimJoined
import GoSem.ClaimMapViews
import Derived.JoinedTies
import Derived.KernelRfl
namespace Go.Proofs.Ytggokcakikkdgaa
/- THE CELL 'sum', in the pinned program and in every row, IS THE sha256 OF THE DUMP (.gsa) THAT YtggokcakikkdgaaProg.lean LOADS. Nothing in Lean hashes anything: it is a label: what it is worth is what the hold of that sum in a sandbox is worth. -/
noncomputable def Try.pinned : Pinned := { name := "ytggokcakikkdgaa", sum := "b5934dfa4e663ac67eeb0af3c2f41fda43283a8460600b2ed16b3aadb3411225", checked := Try.checked }
namespace Rows
def none {H : Type} : Left H := { results := [], args := [] }

/-- 'clarionlaw07.DatagramPeeks': WHATEVER THE INPUT: true; the input reads as it did. -/
def datagramPeeksSpec : ChangeSpec := { name := "datagramPeeks", fn := fun _ => fun
  | [d] => { results := [.lit (.bool true)], args := [d] }
  | _ => none }
def datagramPeeksRow : OpenClaim := { program := "ytggokcakikkdgaa", sum := "b5934dfa4e663ac67eeb0af3c2f41fda43283a8460600b2ed16b3aadb3411225", func := "clarion/clarionlaw07.DatagramPeeks", spec := "datagramPeeks", apart := false }
def DatagramPeeksSaid : Prop := datagramPeeksRow.holds Try.pinned (OpenSpec.ofChange datagramPeeksSpec)

/-- ITS FALSE NEIGHBOUR: 'it returns false'. Refute it at one input. -/
def datagramPeeksWrong : ChangeSpec := { name := "datagramPeeks", fn := fun _ => fun
  | [d] => { results := [.lit (.bool false)], args := [d] }
  | _ => none }
def DatagramPeeksWrongFalsely : Prop := datagramPeeksRow.holds Try.pinned (OpenSpec.ofChange datagramPeeksWrong)

/-- 'clarionlaw07.DatagramSums': WHATEVER THE INPUT: true; the input reads as it did. -/
def datagramSumsSpec : ChangeSpec := { name := "datagramSums", fn := fun _ => fun
  | [d] => { results := [.lit (.bool true)], args := [d] }
  | _ => none }
def datagramSumsRow : OpenClaim := { program := "ytggokcakikkdgaa", sum := "b5934dfa4e663ac67eeb0af3c2f41fda43283a8460600b2ed16b3aadb3411225", func := "clarion/clarionlaw07.DatagramSums", spec := "datagramSums", apart := false }
def DatagramSumsSaid : Prop := datagramSumsRow.holds Try.pinned (OpenSpec.ofChange datagramSumsSpec)

/-- ITS FALSE NEIGHBOUR: 'it returns false'. Refute it at one input. -/
def datagramSumsWrong : ChangeSpec := { name := "datagramSums", fn := fun _ => fun
  | [d] => { results := [.lit (.bool false)], args := [d] }
  | _ => none }
def DatagramSumsWrongFalsely : Prop := datagramSumsRow.holds Try.pinned (OpenSpec.ofChange datagramSumsWrong)

/-- 'clarionlaw07.DatagramMakes': WHATEVER THE INPUT: true; the input reads as it did. -/
def datagramMakesSpec : ChangeSpec := { name := "datagramMakes", fn := fun _ => fun
  | [d1, d2, d3] => { results := [.lit (.bool true)], args := [d1, d2, d3] }
  | _ => none }
def datagramMakesRow : OpenClaim := { program := "ytggokcakikkdgaa", sum := "b5934dfa4e663ac67eeb0af3c2f41fda43283a8460600b2ed16b3aadb3411225", func := "clarion/clarionlaw07.DatagramMakes", spec := "datagramMakes", apart := false }
def DatagramMakesSaid : Prop := datagramMakesRow.holds Try.pinned (OpenSpec.ofChange datagramMakesSpec)

/-- ITS FALSE NEIGHBOUR: 'it returns false'. Refute it at one input. -/
def datagramMakesWrong : ChangeSpec := { name := "datagramMakes", fn := fun _ => fun
  | [d1, d2, d3] => { results := [.lit (.bool false)], args := [d1, d2, d3] }
  | _ => none }
def DatagramMakesWrongFalsely : Prop := datagramMakesRow.holds Try.pinned (OpenSpec.ofChange datagramMakesWrong)

/-- 'clarionlaw07.DatagramSplits': WHATEVER THE INPUT: true; the input reads as it did. -/
def datagramSplitsSpec : ChangeSpec := { name := "datagramSplits", fn := fun _ => fun
  | [d1, d2] => { results := [.lit (.bool true)], args := [d1, d2] }
  | _ => none }
def datagramSplitsRow : OpenClaim := { program := "ytggokcakikkdgaa", sum := "b5934dfa4e663ac67eeb0af3c2f41fda43283a8460600b2ed16b3aadb3411225", func := "clarion/clarionlaw07.DatagramSplits", spec := "datagramSplits", inPlace := ["internal/abi.NoEscape"], apart := false }
def DatagramSplitsSaid : Prop := datagramSplitsRow.holds Try.pinned (OpenSpec.ofChange datagramSplitsSpec)

/-- ITS FALSE NEIGHBOUR: 'it returns false'. Refute it at one input. -/
def datagramSplitsWrong : ChangeSpec := { name := "datagramSplits", fn := fun _ => fun
  | [d1, d2] => { results := [.lit (.bool false)], args := [d1, d2] }
  | _ => none }
def DatagramSplitsWrongFalsely : Prop := datagramSplitsRow.holds Try.pinned (OpenSpec.ofChange datagramSplitsWrong)

/-- 'clarionlaw07.DatagramBack': WHATEVER THE INPUT: true; the input reads as it did. -/
def datagramBackSpec : ChangeSpec := { name := "datagramBack", fn := fun _ => fun
  | [d1, d2] => { results := [.lit (.bool true)], args := [d1, d2] }
  | _ => none }
def datagramBackRow : OpenClaim := { program := "ytggokcakikkdgaa", sum := "b5934dfa4e663ac67eeb0af3c2f41fda43283a8460600b2ed16b3aadb3411225", func := "clarion/clarionlaw07.DatagramBack", spec := "datagramBack", inPlace := ["internal/abi.NoEscape"], apart := false }
def DatagramBackSaid : Prop := datagramBackRow.holds Try.pinned (OpenSpec.ofChange datagramBackSpec)

/-- ITS FALSE NEIGHBOUR: 'it returns false'. Refute it at one input. -/
def datagramBackWrong : ChangeSpec := { name := "datagramBack", fn := fun _ => fun
  | [d1, d2] => { results := [.lit (.bool false)], args := [d1, d2] }
  | _ => none }
def DatagramBackWrongFalsely : Prop := datagramBackRow.holds Try.pinned (OpenSpec.ofChange datagramBackWrong)

/-- 'clarionlaw07.DatagramTurned': WHATEVER THE INPUT: true; the input reads as it did. -/
def datagramTurnedSpec : ChangeSpec := { name := "datagramTurned", fn := fun _ => fun
  | [d1, d2, d3] => { results := [.lit (.bool true)], args := [d1, d2, d3] }
  | _ => none }
def datagramTurnedRow : OpenClaim := { program := "ytggokcakikkdgaa", sum := "b5934dfa4e663ac67eeb0af3c2f41fda43283a8460600b2ed16b3aadb3411225", func := "clarion/clarionlaw07.DatagramTurned", spec := "datagramTurned", apart := false }
def DatagramTurnedSaid : Prop := datagramTurnedRow.holds Try.pinned (OpenSpec.ofChange datagramTurnedSpec)

/-- ITS FALSE NEIGHBOUR: 'it returns false'. Refute it at one input. -/
def datagramTurnedWrong : ChangeSpec := { name := "datagramTurned", fn := fun _ => fun
  | [d1, d2, d3] => { results := [.lit (.bool false)], args := [d1, d2, d3] }
  | _ => none }
def DatagramTurnedWrongFalsely : Prop := datagramTurnedRow.holds Try.pinned (OpenSpec.ofChange datagramTurnedWrong)

/- THE SECOND FORM. 'bulk': how many values and letters a reading holds, each counted each time it is reached (what is shared counts as often as it is met; a slice's spare places count too). A statement '..UptoSaid' is the law's where the arguments, and the package variables that the reading takes, are together of bulk at most 1048576: NARROWER than '..Said'. Prove '..Said' where nothing that the law and all that it calls make is longer than what came in: it says more and counts as full. Else prove '..UptoSaid'. A law counts once. -/
mutual
def uptoBulk {H : Type} : DataW H → Nat
  | .lit (.string bytes) => bytes.length + 1
  | .lit _ => 1
  | .nil => 1
  | .ptr d => uptoBulk d + 1
  | .slice elems spare => uptoBulkAll elems + uptoBulkAll spare + 1
  | .agg parts => uptoBulkAll parts + 1
  | .iface _ d => uptoBulk d + 1
  | .map entries => uptoBulkEntries entries + 1
  | .held _ => 1
def uptoBulkAll {H : Type} : List (DataW H) → Nat
  | [] => 0
  | d :: r => uptoBulk d + uptoBulkAll r
def uptoBulkEntries {H : Type} : List (Lit × DataW H) → Nat
  | [] => 0
  | x :: r => uptoBulkEntry x + uptoBulkEntries r
def uptoBulkEntry {H : Type} : Lit × DataW H → Nat
  | (.string bytes, d) => bytes.length + uptoBulk d + 1
  | (_, d) => uptoBulk d + 1
 end
def uptoSmall : (H : Type) → List (DataW H) → Bool := fun _ ds => decide (uptoBulkAll ds ≤ 1048576)
def OpenSpec.upto (s : _root_.Go.ChangeSpec) : _root_.Go.OpenSpec := { _root_.Go.OpenSpec.ofChange s with cond := some uptoSmall }

/-- 'clarionlaw07.DatagramPeeks', WHERE WHAT IT READS IS OF BULK AT MOST 1048576: true; the input reads as it did. -/
def datagramPeeksUptoRow : OpenClaim := { program := "ytggokcakikkdgaa", sum := "b5934dfa4e663ac67eeb0af3c2f41fda43283a8460600b2ed16b3aadb3411225", func := "clarion/clarionlaw07.DatagramPeeks", spec := "datagramPeeks", apart := false, narrowed := true }
def DatagramPeeksUptoSaid : Prop := datagramPeeksUptoRow.holds Try.pinned (OpenSpec.upto datagramPeeksSpec)

/-- 'clarionlaw07.DatagramSums', WHERE WHAT IT READS IS OF BULK AT MOST 1048576: true; the input reads as it did. -/
def datagramSumsUptoRow : OpenClaim := { program := "ytggokcakikkdgaa", sum := "b5934dfa4e663ac67eeb0af3c2f41fda43283a8460600b2ed16b3aadb3411225", func := "clarion/clarionlaw07.DatagramSums", spec := "datagramSums", apart := false, narrowed := true }
def DatagramSumsUptoSaid : Prop := datagramSumsUptoRow.holds Try.pinned (OpenSpec.upto datagramSumsSpec)

/-- 'clarionlaw07.DatagramMakes', WHERE WHAT IT READS IS OF BULK AT MOST 1048576: true; the input reads as it did. -/
def datagramMakesUptoRow : OpenClaim := { program := "ytggokcakikkdgaa", sum := "b5934dfa4e663ac67eeb0af3c2f41fda43283a8460600b2ed16b3aadb3411225", func := "clarion/clarionlaw07.DatagramMakes", spec := "datagramMakes", apart := false, narrowed := true }
def DatagramMakesUptoSaid : Prop := datagramMakesUptoRow.holds Try.pinned (OpenSpec.upto datagramMakesSpec)

/-- 'clarionlaw07.DatagramSplits', WHERE WHAT IT READS IS OF BULK AT MOST 1048576: true; the input reads as it did. -/
def datagramSplitsUptoRow : OpenClaim := { program := "ytggokcakikkdgaa", sum := "b5934dfa4e663ac67eeb0af3c2f41fda43283a8460600b2ed16b3aadb3411225", func := "clarion/clarionlaw07.DatagramSplits", spec := "datagramSplits", inPlace := ["internal/abi.NoEscape"], apart := false, narrowed := true }
def DatagramSplitsUptoSaid : Prop := datagramSplitsUptoRow.holds Try.pinned (OpenSpec.upto datagramSplitsSpec)

/-- 'clarionlaw07.DatagramBack', WHERE WHAT IT READS IS OF BULK AT MOST 1048576: true; the input reads as it did. -/
def datagramBackUptoRow : OpenClaim := { program := "ytggokcakikkdgaa", sum := "b5934dfa4e663ac67eeb0af3c2f41fda43283a8460600b2ed16b3aadb3411225", func := "clarion/clarionlaw07.DatagramBack", spec := "datagramBack", inPlace := ["internal/abi.NoEscape"], apart := false, narrowed := true }
def DatagramBackUptoSaid : Prop := datagramBackUptoRow.holds Try.pinned (OpenSpec.upto datagramBackSpec)

/-- 'clarionlaw07.DatagramTurned', WHERE WHAT IT READS IS OF BULK AT MOST 1048576: true; the input reads as it did. -/
def datagramTurnedUptoRow : OpenClaim := { program := "ytggokcakikkdgaa", sum := "b5934dfa4e663ac67eeb0af3c2f41fda43283a8460600b2ed16b3aadb3411225", func := "clarion/clarionlaw07.DatagramTurned", spec := "datagramTurned", apart := false, narrowed := true }
def DatagramTurnedUptoSaid : Prop := datagramTurnedUptoRow.holds Try.pinned (OpenSpec.upto datagramTurnedSpec)

end Rows
end Go.Proofs.Ytggokcakikkdgaa
