/-
  NARROWER THAN 'FOR EVERY INPUT', by the rows' own cells (each row's printed sentence says how): DescrLoops: laid · DescrSlices: laid · DescrPlaces: laid · DescrBack: laid · DescrOne: laid · DescrJoins: laid · DescrApart: laid.
  DERIVED. THE GIVEN ROWS OF THIS SEAT. 7 by the template 'for every input the law returns true; each argument reads behind the call as it read before'; 0 by the template 'total and deterministic' (their statements: YtlghkdkaifcliaaDoorTotals.lean).
  GIVEN WITH THE SEED: the statements are not yours to turn. If you find one false, say at which input.
  Laid BY PROGRAM, IN A SANDBOX (cutbox-rows.mjs): the forced cells as the released guide's own fill.sh prints them over the translation 49229ab3243c2b6c… (all of the seat's roots in one cut). By AI agents, Wed Nov 11 2026. No macro, syntax, notation, axiom, sorry.
-/
import Derived.Test.YtlghkdkaifcliaaDoorChecked
import GoSem.Claim
import GoSem.ClaimJoined
import GoSem.ClaimMapViews
import Derived.JoinedTies
import Derived.KernelRfl
namespace Go.Proofs.YtlghkdkaifcliaaDoor
/- THE CELL 'sum', in the pinned program and in every row, IS THE sha256 OF THE DUMP (.gsa) THAT YtlghkdkaifcliaaDoorProg.lean LOADS. Nothing in Lean hashes anything: it is a label: what it is worth is what the hold of that sum in a sandbox is worth. -/
noncomputable def Tryd.pinned : Pinned := { name := "ytlghkdkaifcliaadoor", sum := "49229ab3243c2b6cdc8f35312430dfd32296718f845ec0cfbcc7c2d1a223d5b3", checked := Tryd.checked }
namespace Rows
def none {H : Type} : Left H := { results := [], args := [] }

/- WHAT THE LISTED PACKAGE-LEVEL VARIABLES READ AS WHEN THE CALL BEGINS. Each datum BY PROGRAM (the guide's laid-datum.mjs) off the statement by which the dump's own 'gosem.cut.vars' lays the variable. In a bare row this is a premise. The card (YtlghkdkaifcliaaDoorCards.lean) ties it to the program's text. -/
def laid_clarion_descr_ofSlice {H : Type} : DataW H := .agg [.lit (.int .i64 1), .lit (.int .i64 1), .lit (.int .i64 1), .lit (.int .i64 2), .lit (.int .i64 1), .lit (.int .i64 2), .lit (.int .i64 8), .lit (.int .i64 4), .lit (.int .i64 4)]
def laid_clarion_descr_ofPlace {H : Type} : DataW H := .agg [.lit (.int .i64 16), .lit (.int .i64 16), .lit (.int .i64 16), .lit (.int .i64 16), .lit (.int .i64 8), .lit (.int .i64 0), .lit (.int .i64 0), .lit (.int .i64 0), .lit (.int .i64 0)]
def laid_clarion_descr_ofTarget {H : Type} : DataW H := .agg [.lit (.int .i64 8), .lit (.int .i64 8), .lit (.int .i64 8), .lit (.int .i64 8), .lit (.int .i64 8), .lit (.int .i64 0), .lit (.int .i64 0), .lit (.int .i64 0), .lit (.int .i64 0)]
def laid_clarion_descr_ofInt {H : Type} : DataW H := .agg [.lit (.int .i64 24), .lit (.int .i64 8), .lit (.int .i64 8), .lit (.int .i64 0), .lit (.int .i64 0), .lit (.int .i64 0), .lit (.int .i64 0), .lit (.int .i64 0), .lit (.int .i64 0)]
def laid_clarion_descr_ofHead {H : Type} : DataW H := .agg [.lit (.int .i64 24), .lit (.int .i64 8), .lit (.int .i64 0), .lit (.int .i64 0), .lit (.int .i64 0), .lit (.int .i64 0), .lit (.int .i64 0), .lit (.int .i64 0), .lit (.int .i64 0)]
def laid_clarion_descr_ofLong {H : Type} : DataW H := .agg [.lit (.int .i64 4), .lit (.int .i64 12), .lit (.int .i64 0), .lit (.int .i64 0), .lit (.int .i64 0), .lit (.int .i64 0), .lit (.int .i64 0), .lit (.int .i64 0), .lit (.int .i64 0)]

/-- 'clarionlaw18.DescrLoops': WHATEVER THE INPUT: true; the input reads as it did. -/
def descrLoopsSpec : ChangeSpec := { name := "descrLoops", fn := fun _ => fun
  | [d1, d2, d3] => { results := [.lit (.bool true)], args := [d1, d2, d3] }
  | _ => none }
def descrLoopsRow : OpenClaim := { program := "ytlghkdkaifcliaadoor", sum := "49229ab3243c2b6cdc8f35312430dfd32296718f845ec0cfbcc7c2d1a223d5b3", func := "clarion/clarionlaw18.DescrLoops", spec := "descrLoops", inPlace := ["internal/abi.NoEscape"], named := ["clarion/descr.ofSlice"], apart := false, laid := [("clarion/descr.ofSlice", laid_clarion_descr_ofSlice)] }
def DescrLoopsSaid : Prop := descrLoopsRow.holds Tryd.pinned (OpenSpec.ofChange descrLoopsSpec)

/-- ITS FALSE NEIGHBOUR: 'it returns false'. Refute it at one input. -/
def descrLoopsWrong : ChangeSpec := { name := "descrLoops", fn := fun _ => fun
  | [d1, d2, d3] => { results := [.lit (.bool false)], args := [d1, d2, d3] }
  | _ => none }
def DescrLoopsWrongFalsely : Prop := descrLoopsRow.holds Tryd.pinned (OpenSpec.ofChange descrLoopsWrong)

/-- 'clarionlaw18.DescrSlices': WHATEVER THE INPUT: true; the input reads as it did. -/
def descrSlicesSpec : ChangeSpec := { name := "descrSlices", fn := fun _ => fun
  | [d1, d2] => { results := [.lit (.bool true)], args := [d1, d2] }
  | _ => none }
def descrSlicesRow : OpenClaim := { program := "ytlghkdkaifcliaadoor", sum := "49229ab3243c2b6cdc8f35312430dfd32296718f845ec0cfbcc7c2d1a223d5b3", func := "clarion/clarionlaw18.DescrSlices", spec := "descrSlices", inPlace := ["internal/abi.NoEscape"], named := ["clarion/descr.ofSlice"], apart := false, laid := [("clarion/descr.ofSlice", laid_clarion_descr_ofSlice)] }
def DescrSlicesSaid : Prop := descrSlicesRow.holds Tryd.pinned (OpenSpec.ofChange descrSlicesSpec)

/-- ITS FALSE NEIGHBOUR: 'it returns false'. Refute it at one input. -/
def descrSlicesWrong : ChangeSpec := { name := "descrSlices", fn := fun _ => fun
  | [d1, d2] => { results := [.lit (.bool false)], args := [d1, d2] }
  | _ => none }
def DescrSlicesWrongFalsely : Prop := descrSlicesRow.holds Tryd.pinned (OpenSpec.ofChange descrSlicesWrong)

/-- 'clarionlaw18.DescrPlaces': WHATEVER THE INPUT: true; the input reads as it did. -/
def descrPlacesSpec : ChangeSpec := { name := "descrPlaces", fn := fun _ => fun
  | [d1, d2, d3] => { results := [.lit (.bool true)], args := [d1, d2, d3] }
  | _ => none }
def descrPlacesRow : OpenClaim := { program := "ytlghkdkaifcliaadoor", sum := "49229ab3243c2b6cdc8f35312430dfd32296718f845ec0cfbcc7c2d1a223d5b3", func := "clarion/clarionlaw18.DescrPlaces", spec := "descrPlaces", inPlace := ["internal/abi.NoEscape"], named := ["clarion/descr.ofSlice", "clarion/descr.ofPlace", "clarion/descr.ofTarget"], apart := false, laid := [("clarion/descr.ofSlice", laid_clarion_descr_ofSlice), ("clarion/descr.ofPlace", laid_clarion_descr_ofPlace), ("clarion/descr.ofTarget", laid_clarion_descr_ofTarget)] }
def DescrPlacesSaid : Prop := descrPlacesRow.holds Tryd.pinned (OpenSpec.ofChange descrPlacesSpec)

/-- ITS FALSE NEIGHBOUR: 'it returns false'. Refute it at one input. -/
def descrPlacesWrong : ChangeSpec := { name := "descrPlaces", fn := fun _ => fun
  | [d1, d2, d3] => { results := [.lit (.bool false)], args := [d1, d2, d3] }
  | _ => none }
def DescrPlacesWrongFalsely : Prop := descrPlacesRow.holds Tryd.pinned (OpenSpec.ofChange descrPlacesWrong)

/-- 'clarionlaw18.DescrBack': WHATEVER THE INPUT: true; the input reads as it did. -/
def descrBackSpec : ChangeSpec := { name := "descrBack", fn := fun _ => fun
  | [d1, d2, d3] => { results := [.lit (.bool true)], args := [d1, d2, d3] }
  | _ => none }
def descrBackRow : OpenClaim := { program := "ytlghkdkaifcliaadoor", sum := "49229ab3243c2b6cdc8f35312430dfd32296718f845ec0cfbcc7c2d1a223d5b3", func := "clarion/clarionlaw18.DescrBack", spec := "descrBack", inPlace := ["internal/abi.NoEscape"], named := ["clarion/descr.ofSlice", "clarion/descr.ofPlace", "clarion/descr.ofHead", "clarion/descr.ofInt", "clarion/descr.ofLong"], apart := false, laid := [("clarion/descr.ofSlice", laid_clarion_descr_ofSlice), ("clarion/descr.ofPlace", laid_clarion_descr_ofPlace), ("clarion/descr.ofInt", laid_clarion_descr_ofInt), ("clarion/descr.ofHead", laid_clarion_descr_ofHead), ("clarion/descr.ofLong", laid_clarion_descr_ofLong)] }
def DescrBackSaid : Prop := descrBackRow.holds Tryd.pinned (OpenSpec.ofChange descrBackSpec)

/-- ITS FALSE NEIGHBOUR: 'it returns false'. Refute it at one input. -/
def descrBackWrong : ChangeSpec := { name := "descrBack", fn := fun _ => fun
  | [d1, d2, d3] => { results := [.lit (.bool false)], args := [d1, d2, d3] }
  | _ => none }
def DescrBackWrongFalsely : Prop := descrBackRow.holds Tryd.pinned (OpenSpec.ofChange descrBackWrong)

/-- 'clarionlaw18.DescrOne': WHATEVER THE INPUT: true; the input reads as it did. -/
def descrOneSpec : ChangeSpec := { name := "descrOne", fn := fun _ => fun
  | [d1, d2, d3] => { results := [.lit (.bool true)], args := [d1, d2, d3] }
  | _ => none }
def descrOneRow : OpenClaim := { program := "ytlghkdkaifcliaadoor", sum := "49229ab3243c2b6cdc8f35312430dfd32296718f845ec0cfbcc7c2d1a223d5b3", func := "clarion/clarionlaw18.DescrOne", spec := "descrOne", inPlace := ["internal/abi.NoEscape"], named := ["clarion/descr.ofSlice", "clarion/descr.ofPlace", "clarion/descr.ofTarget", "clarion/descr.ofHead", "clarion/descr.ofLong", "clarion/descr.ofInt"], apart := false, laid := [("clarion/descr.ofSlice", laid_clarion_descr_ofSlice), ("clarion/descr.ofPlace", laid_clarion_descr_ofPlace), ("clarion/descr.ofTarget", laid_clarion_descr_ofTarget), ("clarion/descr.ofInt", laid_clarion_descr_ofInt), ("clarion/descr.ofHead", laid_clarion_descr_ofHead), ("clarion/descr.ofLong", laid_clarion_descr_ofLong)] }
def DescrOneSaid : Prop := descrOneRow.holds Tryd.pinned (OpenSpec.ofChange descrOneSpec)

/-- ITS FALSE NEIGHBOUR: 'it returns false'. Refute it at one input. -/
def descrOneWrong : ChangeSpec := { name := "descrOne", fn := fun _ => fun
  | [d1, d2, d3] => { results := [.lit (.bool false)], args := [d1, d2, d3] }
  | _ => none }
def DescrOneWrongFalsely : Prop := descrOneRow.holds Tryd.pinned (OpenSpec.ofChange descrOneWrong)

/-- 'clarionlaw18.DescrJoins': WHATEVER THE INPUT: true; the input reads as it did. -/
def descrJoinsSpec : ChangeSpec := { name := "descrJoins", fn := fun _ => fun
  | [d1, d2] => { results := [.lit (.bool true)], args := [d1, d2] }
  | _ => none }
def descrJoinsRow : OpenClaim := { program := "ytlghkdkaifcliaadoor", sum := "49229ab3243c2b6cdc8f35312430dfd32296718f845ec0cfbcc7c2d1a223d5b3", func := "clarion/clarionlaw18.DescrJoins", spec := "descrJoins", inPlace := ["internal/abi.NoEscape"], named := ["clarion/descr.ofSlice"], apart := false, laid := [("clarion/descr.ofSlice", laid_clarion_descr_ofSlice)] }
def DescrJoinsSaid : Prop := descrJoinsRow.holds Tryd.pinned (OpenSpec.ofChange descrJoinsSpec)

/-- ITS FALSE NEIGHBOUR: 'it returns false'. Refute it at one input. -/
def descrJoinsWrong : ChangeSpec := { name := "descrJoins", fn := fun _ => fun
  | [d1, d2] => { results := [.lit (.bool false)], args := [d1, d2] }
  | _ => none }
def DescrJoinsWrongFalsely : Prop := descrJoinsRow.holds Tryd.pinned (OpenSpec.ofChange descrJoinsWrong)

/-- 'clarionlaw18.DescrApart': WHATEVER THE INPUT: true; the input reads as it did. -/
def descrApartSpec : ChangeSpec := { name := "descrApart", fn := fun _ => fun
  | [d1, d2] => { results := [.lit (.bool true)], args := [d1, d2] }
  | _ => none }
def descrApartRow : OpenClaim := { program := "ytlghkdkaifcliaadoor", sum := "49229ab3243c2b6cdc8f35312430dfd32296718f845ec0cfbcc7c2d1a223d5b3", func := "clarion/clarionlaw18.DescrApart", spec := "descrApart", inPlace := ["internal/abi.NoEscape"], named := ["clarion/descr.ofSlice", "clarion/descr.ofPlace"], apart := false, laid := [("clarion/descr.ofSlice", laid_clarion_descr_ofSlice), ("clarion/descr.ofPlace", laid_clarion_descr_ofPlace)] }
def DescrApartSaid : Prop := descrApartRow.holds Tryd.pinned (OpenSpec.ofChange descrApartSpec)

/-- ITS FALSE NEIGHBOUR: 'it returns false'. Refute it at one input. -/
def descrApartWrong : ChangeSpec := { name := "descrApart", fn := fun _ => fun
  | [d1, d2] => { results := [.lit (.bool false)], args := [d1, d2] }
  | _ => none }
def DescrApartWrongFalsely : Prop := descrApartRow.holds Tryd.pinned (OpenSpec.ofChange descrApartWrong)

/- THE SECOND FORM. 'bulk': how many values and letters a reading holds, each counted each time it is reached (what is shared counts as often as it is met; a slice's spare places count too). A statement '..UptoSaid' is the law's where the arguments, and the package variables that the reading takes, are together of bulk at most 1048576: NARROWER than '..Said'. Prove '..Said' where nothing that the law and all that it calls make is longer than what came in: it says more and counts as full. Else prove '..UptoSaid'. A law counts once. -/
mutual
def uptoBulk {H : Type} : DataW H → Nat
  | .lit (.string bytes) => bytes.length + 1
  | .lit _ => 1
  | .nil => 1
  | .ptr d => uptoBulk d + 1
  | .slice elems spare => uptoBulkAll elems + uptoBulkAll spare + 1
  | .agg parts => uptoBulkAll parts + 1
  | .iface _ d => uptoBulk d + 1
  | .map entries => uptoBulkEntries entries + 1
  | .held _ => 1
def uptoBulkAll {H : Type} : List (DataW H) → Nat
  | [] => 0
  | d :: r => uptoBulk d + uptoBulkAll r
def uptoBulkEntries {H : Type} : List (Lit × DataW H) → Nat
  | [] => 0
  | x :: r => uptoBulkEntry x + uptoBulkEntries r
def uptoBulkEntry {H : Type} : Lit × DataW H → Nat
  | (.string bytes, d) => bytes.length + uptoBulk d + 1
  | (_, d) => uptoBulk d + 1
 end
def uptoSmall : (H : Type) → List (DataW H) → Bool := fun _ ds => decide (uptoBulkAll ds ≤ 1048576)
def OpenSpec.upto (s : _root_.Go.ChangeSpec) : _root_.Go.OpenSpec := { _root_.Go.OpenSpec.ofChange s with cond := some uptoSmall }

/-- 'clarionlaw18.DescrLoops', WHERE WHAT IT READS IS OF BULK AT MOST 1048576: true; the input reads as it did. -/
def descrLoopsUptoRow : OpenClaim := { program := "ytlghkdkaifcliaadoor", sum := "49229ab3243c2b6cdc8f35312430dfd32296718f845ec0cfbcc7c2d1a223d5b3", func := "clarion/clarionlaw18.DescrLoops", spec := "descrLoops", inPlace := ["internal/abi.NoEscape"], named := ["clarion/descr.ofSlice"], apart := false, laid := [("clarion/descr.ofSlice", laid_clarion_descr_ofSlice)], narrowed := true }
def DescrLoopsUptoSaid : Prop := descrLoopsUptoRow.holds Tryd.pinned (OpenSpec.upto descrLoopsSpec)

/-- 'clarionlaw18.DescrSlices', WHERE WHAT IT READS IS OF BULK AT MOST 1048576: true; the input reads as it did. -/
def descrSlicesUptoRow : OpenClaim := { program := "ytlghkdkaifcliaadoor", sum := "49229ab3243c2b6cdc8f35312430dfd32296718f845ec0cfbcc7c2d1a223d5b3", func := "clarion/clarionlaw18.DescrSlices", spec := "descrSlices", inPlace := ["internal/abi.NoEscape"], named := ["clarion/descr.ofSlice"], apart := false, laid := [("clarion/descr.ofSlice", laid_clarion_descr_ofSlice)], narrowed := true }
def DescrSlicesUptoSaid : Prop := descrSlicesUptoRow.holds Tryd.pinned (OpenSpec.upto descrSlicesSpec)

/-- 'clarionlaw18.DescrPlaces', WHERE WHAT IT READS IS OF BULK AT MOST 1048576: true; the input reads as it did. -/
def descrPlacesUptoRow : OpenClaim := { program := "ytlghkdkaifcliaadoor", sum := "49229ab3243c2b6cdc8f35312430dfd32296718f845ec0cfbcc7c2d1a223d5b3", func := "clarion/clarionlaw18.DescrPlaces", spec := "descrPlaces", inPlace := ["internal/abi.NoEscape"], named := ["clarion/descr.ofSlice", "clarion/descr.ofPlace", "clarion/descr.ofTarget"], apart := false, laid := [("clarion/descr.ofSlice", laid_clarion_descr_ofSlice), ("clarion/descr.ofPlace", laid_clarion_descr_ofPlace), ("clarion/descr.ofTarget", laid_clarion_descr_ofTarget)], narrowed := true }
def DescrPlacesUptoSaid : Prop := descrPlacesUptoRow.holds Tryd.pinned (OpenSpec.upto descrPlacesSpec)

/-- 'clarionlaw18.DescrBack', WHERE WHAT IT READS IS OF BULK AT MOST 1048576: true; the input reads as it did. -/
def descrBackUptoRow : OpenClaim := { program := "ytlghkdkaifcliaadoor", sum := "49229ab3243c2b6cdc8f35312430dfd32296718f845ec0cfbcc7c2d1a223d5b3", func := "clarion/clarionlaw18.DescrBack", spec := "descrBack", inPlace := ["internal/abi.NoEscape"], named := ["clarion/descr.ofSlice", "clarion/descr.ofPlace", "clarion/descr.ofHead", "clarion/descr.ofInt", "clarion/descr.ofLong"], apart := false, laid := [("clarion/descr.ofSlice", laid_clarion_descr_ofSlice), ("clarion/descr.ofPlace", laid_clarion_descr_ofPlace), ("clarion/descr.ofInt", laid_clarion_descr_ofInt), ("clarion/descr.ofHead", laid_clarion_descr_ofHead), ("clarion/descr.ofLong", laid_clarion_descr_ofLong)], narrowed := true }
def DescrBackUptoSaid : Prop := descrBackUptoRow.holds Tryd.pinned (OpenSpec.upto descrBackSpec)

/-- 'clarionlaw18.DescrOne', WHERE WHAT IT READS IS OF BULK AT MOST 1048576: true; the input reads as it did. -/
def descrOneUptoRow : OpenClaim := { program := "ytlghkdkaifcliaadoor", sum := "49229ab3243c2b6cdc8f35312430dfd32296718f845ec0cfbcc7c2d1a223d5b3", func := "clarion/clarionlaw18.DescrOne", spec := "descrOne", inPlace := ["internal/abi.NoEscape"], named := ["clarion/descr.ofSlice", "clarion/descr.ofPlace", "clarion/descr.ofTarget", "clarion/descr.ofHead", "clarion/descr.ofLong", "clarion/descr.ofInt"], apart := false, laid := [("clarion/descr.ofSlice", laid_clarion_descr_ofSlice), ("clarion/descr.ofPlace", laid_clarion_descr_ofPlace), ("clarion/descr.ofTarget", laid_clarion_descr_ofTarget), ("clarion/descr.ofInt", laid_clarion_descr_ofInt), ("clarion/descr.ofHead", laid_clarion_descr_ofHead), ("clarion/descr.ofLong", laid_clarion_descr_ofLong)], narrowed := true }
def DescrOneUptoSaid : Prop := descrOneUptoRow.holds Tryd.pinned (OpenSpec.upto descrOneSpec)

/-- 'clarionlaw18.DescrJoins', WHERE WHAT IT READS IS OF BULK AT MOST 1048576: true; the input reads as it did. -/
def descrJoinsUptoRow : OpenClaim := { program := "ytlghkdkaifcliaadoor", sum := "49229ab3243c2b6cdc8f35312430dfd32296718f845ec0cfbcc7c2d1a223d5b3", func := "clarion/clarionlaw18.DescrJoins", spec := "descrJoins", inPlace := ["internal/abi.NoEscape"], named := ["clarion/descr.ofSlice"], apart := false, laid := [("clarion/descr.ofSlice", laid_clarion_descr_ofSlice)], narrowed := true }
def DescrJoinsUptoSaid : Prop := descrJoinsUptoRow.holds Tryd.pinned (OpenSpec.upto descrJoinsSpec)

/-- 'clarionlaw18.DescrApart', WHERE WHAT IT READS IS OF BULK AT MOST 1048576: true; the input reads as it did. -/
def descrApartUptoRow : OpenClaim := { program := "ytlghkdkaifcliaadoor", sum := "49229ab3243c2b6cdc8f35312430dfd32296718f845ec0cfbcc7c2d1a223d5b3", func := "clarion/clarionlaw18.DescrApart", spec := "descrApart", inPlace := ["internal/abi.NoEscape"], named := ["clarion/descr.ofSlice", "clarion/descr.ofPlace"], apart := false, laid := [("clarion/descr.ofSlice", laid_clarion_descr_ofSlice), ("clarion/descr.ofPlace", laid_clarion_descr_ofPlace)], narrowed := true }
def DescrApartUptoSaid : Prop := descrApartUptoRow.holds Tryd.pinned (OpenSpec.upto descrApartSpec)

end Rows
end Go.Proofs.YtlghkdkaifcliaaDoor
