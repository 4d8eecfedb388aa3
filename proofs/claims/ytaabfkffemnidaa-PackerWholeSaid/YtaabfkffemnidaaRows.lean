/-
  No cell of these rows narrows 'for every input' (looked for: loops, veiled, ifaces, maps, wideKeys, modest, calm, conditions, laid).
  DERIVED. THE GIVEN ROWS OF THIS SEAT. 3 by the template 'for every input the law returns true; each argument reads behind the call as it read before'; 0 by the template 'total and deterministic' (their statements: YtaabfkffemnidaaTotals.lean).
  GIVEN WITH THE SEED: the statements are not yours to turn. If you find one false, say at which input.
  Laid BY PROGRAM, IN A SANDBOX (cutbox-rows.mjs): the forced cells as the released guide's own fill.sh prints them over the translation a6860f6cbb474ca3… (all of the seat's roots in one cut). By AI agents, Wed Nov 11 2026. No macro, syntax, notation, axiom, sorry.
-/
import Derived.Test.YtaabfkffemnidaaChecked
import GoSem.Claim
import GoSem.ClaimJoined
import GoSem.ClaimMapViews
import Derived.JoinedTies
import Derived.KernelRfl
namespace Go.Proofs.Ytaabfkffemnidaa
/- THE CELL 'sum', in the pinned program and in every row, IS THE sha256 OF THE DUMP (.gsa) THAT YtaabfkffemnidaaProg.lean LOADS. Nothing in Lean hashes anything: it is a label: what it is worth is what the hold of that sum in a sandbox is worth. -/
noncomputable def Try.pinned : Pinned := { name := "ytaabfkffemnidaa", sum := "a6860f6cbb474ca307b0dd074ba1f80608eff2677772a88f05e7e4642fbc4caa", checked := Try.checked }
namespace Rows
def none {H : Type} : Left H := { results := [], args := [] }

/-- 'clarionlaw15.PackerPacks': WHATEVER THE INPUT: true; the input reads as it did. -/
def packerPacksSpec : ChangeSpec := { name := "packerPacks", fn := fun _ => fun
  | [d1, d2, d3] => { results := [.lit (.bool true)], args := [d1, d2, d3] }
  | _ => none }
def packerPacksRow : OpenClaim := { program := "ytaabfkffemnidaa", sum := "a6860f6cbb474ca307b0dd074ba1f80608eff2677772a88f05e7e4642fbc4caa", func := "clarion/clarionlaw15.PackerPacks", spec := "packerPacks", inPlace := ["internal/abi.NoEscape", "internal/bytealg.MakeNoZero"], unfollowed := true, recurses := true, apart := false }
def PackerPacksSaid : Prop := packerPacksRow.holds Try.pinned (OpenSpec.ofChange packerPacksSpec)

/-- ITS FALSE NEIGHBOUR: 'it returns false'. Refute it at one input. -/
def packerPacksWrong : ChangeSpec := { name := "packerPacks", fn := fun _ => fun
  | [d1, d2, d3] => { results := [.lit (.bool false)], args := [d1, d2, d3] }
  | _ => none }
def PackerPacksWrongFalsely : Prop := packerPacksRow.holds Try.pinned (OpenSpec.ofChange packerPacksWrong)

/-- 'clarionlaw15.PackerWhole': WHATEVER THE INPUT: true; the input reads as it did. -/
def packerWholeSpec : ChangeSpec := { name := "packerWhole", fn := fun _ => fun
  | [d1, d2] => { results := [.lit (.bool true)], args := [d1, d2] }
  | _ => none }
def packerWholeRow : OpenClaim := { program := "ytaabfkffemnidaa", sum := "a6860f6cbb474ca307b0dd074ba1f80608eff2677772a88f05e7e4642fbc4caa", func := "clarion/clarionlaw15.PackerWhole", spec := "packerWhole", inPlace := ["internal/abi.NoEscape", "internal/bytealg.MakeNoZero"], unfollowed := true, recurses := true, apart := false }
def PackerWholeSaid : Prop := packerWholeRow.holds Try.pinned (OpenSpec.ofChange packerWholeSpec)

/-- ITS FALSE NEIGHBOUR: 'it returns false'. Refute it at one input. -/
def packerWholeWrong : ChangeSpec := { name := "packerWhole", fn := fun _ => fun
  | [d1, d2] => { results := [.lit (.bool false)], args := [d1, d2] }
  | _ => none }
def PackerWholeWrongFalsely : Prop := packerWholeRow.holds Try.pinned (OpenSpec.ofChange packerWholeWrong)

/-- 'clarionlaw15.PackerSum': WHATEVER THE INPUT: true; the input reads as it did. -/
def packerSumSpec : ChangeSpec := { name := "packerSum", fn := fun _ => fun
  | [d1, d2] => { results := [.lit (.bool true)], args := [d1, d2] }
  | _ => none }
def packerSumRow : OpenClaim := { program := "ytaabfkffemnidaa", sum := "a6860f6cbb474ca307b0dd074ba1f80608eff2677772a88f05e7e4642fbc4caa", func := "clarion/clarionlaw15.PackerSum", spec := "packerSum", inPlace := ["internal/abi.NoEscape", "internal/bytealg.MakeNoZero"], unfollowed := true, recurses := true, apart := false }
def PackerSumSaid : Prop := packerSumRow.holds Try.pinned (OpenSpec.ofChange packerSumSpec)

/-- ITS FALSE NEIGHBOUR: 'it returns false'. Refute it at one input. -/
def packerSumWrong : ChangeSpec := { name := "packerSum", fn := fun _ => fun
  | [d1, d2] => { results := [.lit (.bool false)], args := [d1, d2] }
  | _ => none }
def PackerSumWrongFalsely : Prop := packerSumRow.holds Try.pinned (OpenSpec.ofChange packerSumWrong)

/- THE SECOND FORM. 'bulk': how many values and letters a reading holds, each counted each time it is reached (what is shared counts as often as it is met; a slice's spare places count too). A statement '..UptoSaid' is the law's where the arguments, and the package variables that the reading takes, are together of bulk at most 1048576: NARROWER than '..Said'. Prove '..Said' where nothing that the law and all that it calls make is longer than what came in: it says more and counts as full. Else prove '..UptoSaid'. A law counts once. -/
mutual
def uptoBulk {H : Type} : DataW H → Nat
  | .lit (.string bytes) => bytes.length + 1
  | .lit _ => 1
  | .nil => 1
  | .ptr d => uptoBulk d + 1
  | .slice elems spare => uptoBulkAll elems + uptoBulkAll spare + 1
  | .agg parts => uptoBulkAll parts + 1
  | .iface _ d => uptoBulk d + 1
  | .map entries => uptoBulkEntries entries + 1
  | .held _ => 1
def uptoBulkAll {H : Type} : List (DataW H) → Nat
  | [] => 0
  | d :: r => uptoBulk d + uptoBulkAll r
def uptoBulkEntries {H : Type} : List (Lit × DataW H) → Nat
  | [] => 0
  | x :: r => uptoBulkEntry x + uptoBulkEntries r
def uptoBulkEntry {H : Type} : Lit × DataW H → Nat
  | (.string bytes, d) => bytes.length + uptoBulk d + 1
  | (_, d) => uptoBulk d + 1
 end
def uptoSmall : (H : Type) → List (DataW H) → Bool := fun _ ds => decide (uptoBulkAll ds ≤ 1048576)
def OpenSpec.upto (s : _root_.Go.ChangeSpec) : _root_.Go.OpenSpec := { _root_.Go.OpenSpec.ofChange s with cond := some uptoSmall }

/-- 'clarionlaw15.PackerPacks', WHERE WHAT IT READS IS OF BULK AT MOST 1048576: true; the input reads as it did. -/
def packerPacksUptoRow : OpenClaim := { program := "ytaabfkffemnidaa", sum := "a6860f6cbb474ca307b0dd074ba1f80608eff2677772a88f05e7e4642fbc4caa", func := "clarion/clarionlaw15.PackerPacks", spec := "packerPacks", inPlace := ["internal/abi.NoEscape", "internal/bytealg.MakeNoZero"], unfollowed := true, recurses := true, apart := false, narrowed := true }
def PackerPacksUptoSaid : Prop := packerPacksUptoRow.holds Try.pinned (OpenSpec.upto packerPacksSpec)

/-- 'clarionlaw15.PackerWhole', WHERE WHAT IT READS IS OF BULK AT MOST 1048576: true; the input reads as it did. -/
def packerWholeUptoRow : OpenClaim := { program := "ytaabfkffemnidaa", sum := "a6860f6cbb474ca307b0dd074ba1f80608eff2677772a88f05e7e4642fbc4caa", func := "clarion/clarionlaw15.PackerWhole", spec := "packerWhole", inPlace := ["internal/abi.NoEscape", "internal/bytealg.MakeNoZero"], unfollowed := true, recurses := true, apart := false, narrowed := true }
def PackerWholeUptoSaid : Prop := packerWholeUptoRow.holds Try.pinned (OpenSpec.upto packerWholeSpec)

/-- 'clarionlaw15.PackerSum', WHERE WHAT IT READS IS OF BULK AT MOST 1048576: true; the input reads as it did. -/
def packerSumUptoRow : OpenClaim := { program := "ytaabfkffemnidaa", sum := "a6860f6cbb474ca307b0dd074ba1f80608eff2677772a88f05e7e4642fbc4caa", func := "clarion/clarionlaw15.PackerSum", spec := "packerSum", inPlace := ["internal/abi.NoEscape", "internal/bytealg.MakeNoZero"], unfollowed := true, recurses := true, apart := false, narrowed := true }
def PackerSumUptoSaid : Prop := packerSumUptoRow.holds Try.pinned (OpenSpec.upto packerSumSpec)

end Rows
end Go.Proofs.Ytaabfkffemnidaa
