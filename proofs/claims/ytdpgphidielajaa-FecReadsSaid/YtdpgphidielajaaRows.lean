/-
  No cell of these rows narrows 'for every input' (looked for: loops, veiled, ifaces, maps, wideKeys, modest, calm, conditions, laid).
  DERIVED. THE GIVEN ROWS OF THIS SEAT. 5 by the template 'for every input the law returns true; each argument reads behind the call as it read before'; 0 by the template 'total and deterministic' (their statements: YtdpgphidielajaaTotals.lean).
  GIVEN WITH THE SEED: the statements are not yours to turn. If you find one false, say at which input.
  Laid BY PROGRAM, IN A SANDBOX (cutbox-rows.mjs): the forced cells as the released guide's own fill.sh prints them over the translation 3b34bdc381952a3d… (all of the seat's roots in one cut). By AI agents, Wed Nov 11 2026. No macro, syntax, notation, axiom, sorry.
-/
import Derived.Test.YtdpgphidielajaaChecked
import GoSem.Claim
import GoSem.ClaimJoined
import GoSem.ClaimMapViews
import Derived.JoinedTies
import Derived.KernelRfl
namespace Go.Proofs.Ytdpgphidielajaa
/- THE CELL 'sum', in the pinned program and in every row, IS THE sha256 OF THE DUMP (.gsa) THAT YtdpgphidielajaaProg.lean LOADS. Nothing in Lean hashes anything: it is a label: what it is worth is what the hold of that sum in a sandbox is worth. -/
noncomputable def Try.pinned : Pinned := { name := "ytdpgphidielajaa", sum := "3b34bdc381952a3dd769dc530741d751594bc3c50b76a697ad75785c87ab908b", checked := Try.checked }
namespace Rows
def none {H : Type} : Left H := { results := [], args := [] }

/-- 'clarionlaw11.FecWrites': WHATEVER THE INPUT: true; the input reads as it did. -/
def fecWritesSpec : ChangeSpec := { name := "fecWrites", fn := fun _ => fun
  | [d] => { results := [.lit (.bool true)], args := [d] }
  | _ => none }
def fecWritesRow : OpenClaim := { program := "ytdpgphidielajaa", sum := "3b34bdc381952a3dd769dc530741d751594bc3c50b76a697ad75785c87ab908b", func := "clarion/clarionlaw11.FecWrites", spec := "fecWrites", unfollowed := true, recurses := true, apart := false }
def FecWritesSaid : Prop := fecWritesRow.holds Try.pinned (OpenSpec.ofChange fecWritesSpec)

/-- ITS FALSE NEIGHBOUR: 'it returns false'. Refute it at one input. -/
def fecWritesWrong : ChangeSpec := { name := "fecWrites", fn := fun _ => fun
  | [d] => { results := [.lit (.bool false)], args := [d] }
  | _ => none }
def FecWritesWrongFalsely : Prop := fecWritesRow.holds Try.pinned (OpenSpec.ofChange fecWritesWrong)

/-- 'clarionlaw11.FecReads': WHATEVER THE INPUT: true; the input reads as it did. -/
def fecReadsSpec : ChangeSpec := { name := "fecReads", fn := fun _ => fun
  | [d1, d2] => { results := [.lit (.bool true)], args := [d1, d2] }
  | _ => none }
def fecReadsRow : OpenClaim := { program := "ytdpgphidielajaa", sum := "3b34bdc381952a3dd769dc530741d751594bc3c50b76a697ad75785c87ab908b", func := "clarion/clarionlaw11.FecReads", spec := "fecReads", unfollowed := true, recurses := true, apart := false }
def FecReadsSaid : Prop := fecReadsRow.holds Try.pinned (OpenSpec.ofChange fecReadsSpec)

/-- ITS FALSE NEIGHBOUR: 'it returns false'. Refute it at one input. -/
def fecReadsWrong : ChangeSpec := { name := "fecReads", fn := fun _ => fun
  | [d1, d2] => { results := [.lit (.bool false)], args := [d1, d2] }
  | _ => none }
def FecReadsWrongFalsely : Prop := fecReadsRow.holds Try.pinned (OpenSpec.ofChange fecReadsWrong)

/-- 'clarionlaw11.FecBack': WHATEVER THE INPUT: true; the input reads as it did. -/
def fecBackSpec : ChangeSpec := { name := "fecBack", fn := fun _ => fun
  | [d1, d2] => { results := [.lit (.bool true)], args := [d1, d2] }
  | _ => none }
def fecBackRow : OpenClaim := { program := "ytdpgphidielajaa", sum := "3b34bdc381952a3dd769dc530741d751594bc3c50b76a697ad75785c87ab908b", func := "clarion/clarionlaw11.FecBack", spec := "fecBack", unfollowed := true, recurses := true, apart := false }
def FecBackSaid : Prop := fecBackRow.holds Try.pinned (OpenSpec.ofChange fecBackSpec)

/-- ITS FALSE NEIGHBOUR: 'it returns false'. Refute it at one input. -/
def fecBackWrong : ChangeSpec := { name := "fecBack", fn := fun _ => fun
  | [d1, d2] => { results := [.lit (.bool false)], args := [d1, d2] }
  | _ => none }
def FecBackWrongFalsely : Prop := fecBackRow.holds Try.pinned (OpenSpec.ofChange fecBackWrong)

/-- 'clarionlaw11.FecTurned': WHATEVER THE INPUT: true; the input reads as it did. -/
def fecTurnedSpec : ChangeSpec := { name := "fecTurned", fn := fun _ => fun
  | [d1, d2, d3] => { results := [.lit (.bool true)], args := [d1, d2, d3] }
  | _ => none }
def fecTurnedRow : OpenClaim := { program := "ytdpgphidielajaa", sum := "3b34bdc381952a3dd769dc530741d751594bc3c50b76a697ad75785c87ab908b", func := "clarion/clarionlaw11.FecTurned", spec := "fecTurned", unfollowed := true, recurses := true, apart := false }
def FecTurnedSaid : Prop := fecTurnedRow.holds Try.pinned (OpenSpec.ofChange fecTurnedSpec)

/-- ITS FALSE NEIGHBOUR: 'it returns false'. Refute it at one input. -/
def fecTurnedWrong : ChangeSpec := { name := "fecTurned", fn := fun _ => fun
  | [d1, d2, d3] => { results := [.lit (.bool false)], args := [d1, d2, d3] }
  | _ => none }
def FecTurnedWrongFalsely : Prop := fecTurnedRow.holds Try.pinned (OpenSpec.ofChange fecTurnedWrong)

/-- 'clarionlaw11.FecApart': WHATEVER THE INPUT: true; the input reads as it did. -/
def fecApartSpec : ChangeSpec := { name := "fecApart", fn := fun _ => fun
  | [d1, d2] => { results := [.lit (.bool true)], args := [d1, d2] }
  | _ => none }
def fecApartRow : OpenClaim := { program := "ytdpgphidielajaa", sum := "3b34bdc381952a3dd769dc530741d751594bc3c50b76a697ad75785c87ab908b", func := "clarion/clarionlaw11.FecApart", spec := "fecApart", unfollowed := true, recurses := true, apart := false }
def FecApartSaid : Prop := fecApartRow.holds Try.pinned (OpenSpec.ofChange fecApartSpec)

/-- ITS FALSE NEIGHBOUR: 'it returns false'. Refute it at one input. -/
def fecApartWrong : ChangeSpec := { name := "fecApart", fn := fun _ => fun
  | [d1, d2] => { results := [.lit (.bool false)], args := [d1, d2] }
  | _ => none }
def FecApartWrongFalsely : Prop := fecApartRow.holds Try.pinned (OpenSpec.ofChange fecApartWrong)

/- THE SECOND FORM. 'bulk': how many values and letters a reading holds, each counted each time it is reached (what is shared counts as often as it is met; a slice's spare places count too). A statement '..UptoSaid' is the law's where the arguments, and the package variables that the reading takes, are together of bulk at most 1048576: NARROWER than '..Said'. Prove '..Said' where nothing that the law and all that it calls make is longer than what came in: it says more and counts as full. Else prove '..UptoSaid'. A law counts once. -/
mutual
def uptoBulk {H : Type} : DataW H → Nat
  | .lit (.string bytes) => bytes.length + 1
  | .lit _ => 1
  | .nil => 1
  | .ptr d => uptoBulk d + 1
  | .slice elems spare => uptoBulkAll elems + uptoBulkAll spare + 1
  | .agg parts => uptoBulkAll parts + 1
  | .iface _ d => uptoBulk d + 1
  | .map entries => uptoBulkEntries entries + 1
  | .held _ => 1
def uptoBulkAll {H : Type} : List (DataW H) → Nat
  | [] => 0
  | d :: r => uptoBulk d + uptoBulkAll r
def uptoBulkEntries {H : Type} : List (Lit × DataW H) → Nat
  | [] => 0
  | x :: r => uptoBulkEntry x + uptoBulkEntries r
def uptoBulkEntry {H : Type} : Lit × DataW H → Nat
  | (.string bytes, d) => bytes.length + uptoBulk d + 1
  | (_, d) => uptoBulk d + 1
 end
def uptoSmall : (H : Type) → List (DataW H) → Bool := fun _ ds => decide (uptoBulkAll ds ≤ 1048576)
def OpenSpec.upto (s : _root_.Go.ChangeSpec) : _root_.Go.OpenSpec := { _root_.Go.OpenSpec.ofChange s with cond := some uptoSmall }

/-- 'clarionlaw11.FecWrites', WHERE WHAT IT READS IS OF BULK AT MOST 1048576: true; the input reads as it did. -/
def fecWritesUptoRow : OpenClaim := { program := "ytdpgphidielajaa", sum := "3b34bdc381952a3dd769dc530741d751594bc3c50b76a697ad75785c87ab908b", func := "clarion/clarionlaw11.FecWrites", spec := "fecWrites", unfollowed := true, recurses := true, apart := false, narrowed := true }
def FecWritesUptoSaid : Prop := fecWritesUptoRow.holds Try.pinned (OpenSpec.upto fecWritesSpec)

/-- 'clarionlaw11.FecReads', WHERE WHAT IT READS IS OF BULK AT MOST 1048576: true; the input reads as it did. -/
def fecReadsUptoRow : OpenClaim := { program := "ytdpgphidielajaa", sum := "3b34bdc381952a3dd769dc530741d751594bc3c50b76a697ad75785c87ab908b", func := "clarion/clarionlaw11.FecReads", spec := "fecReads", unfollowed := true, recurses := true, apart := false, narrowed := true }
def FecReadsUptoSaid : Prop := fecReadsUptoRow.holds Try.pinned (OpenSpec.upto fecReadsSpec)

/-- 'clarionlaw11.FecBack', WHERE WHAT IT READS IS OF BULK AT MOST 1048576: true; the input reads as it did. -/
def fecBackUptoRow : OpenClaim := { program := "ytdpgphidielajaa", sum := "3b34bdc381952a3dd769dc530741d751594bc3c50b76a697ad75785c87ab908b", func := "clarion/clarionlaw11.FecBack", spec := "fecBack", unfollowed := true, recurses := true, apart := false, narrowed := true }
def FecBackUptoSaid : Prop := fecBackUptoRow.holds Try.pinned (OpenSpec.upto fecBackSpec)

/-- 'clarionlaw11.FecTurned', WHERE WHAT IT READS IS OF BULK AT MOST 1048576: true; the input reads as it did. -/
def fecTurnedUptoRow : OpenClaim := { program := "ytdpgphidielajaa", sum := "3b34bdc381952a3dd769dc530741d751594bc3c50b76a697ad75785c87ab908b", func := "clarion/clarionlaw11.FecTurned", spec := "fecTurned", unfollowed := true, recurses := true, apart := false, narrowed := true }
def FecTurnedUptoSaid : Prop := fecTurnedUptoRow.holds Try.pinned (OpenSpec.upto fecTurnedSpec)

/-- 'clarionlaw11.FecApart', WHERE WHAT IT READS IS OF BULK AT MOST 1048576: true; the input reads as it did. -/
def fecApartUptoRow : OpenClaim := { program := "ytdpgphidielajaa", sum := "3b34bdc381952a3dd769dc530741d751594bc3c50b76a697ad75785c87ab908b", func := "clarion/clarionlaw11.FecApart", spec := "fecApart", unfollowed := true, recurses := true, apart := false, narrowed := true }
def FecApartUptoSaid : Prop := fecApartUptoRow.holds Try.pinned (OpenSpec.upto fecApartSpec)

end Rows
end Go.Proofs.Ytdpgphidielajaa
