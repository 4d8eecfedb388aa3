/-
  NARROWER THAN 'FOR EVERY INPUT', by the rows' own cells (each row's printed sentence says how): PacketTells: laid · PacketReads: laid · PacketFinds: laid · PacketBack: laid · PacketAhead: laid · PacketFields: laid.
  DERIVED. THE GIVEN ROWS OF THIS SEAT. 6 by the template 'for every input the law returns true; each argument reads behind the call as it read before'; 0 by the template 'total and deterministic' (their statements: YtikknojhoejciaaDoorTotals.lean).
  GIVEN WITH THE SEED: the statements are not yours to turn. If you find one false, say at which input.
  Laid BY PROGRAM, IN A SANDBOX (cutbox-rows.mjs): the forced cells as the released guide's own fill.sh prints them over the translation 6179d5b06a7d8dc4… (all of the seat's roots in one cut). By AI agents, Wed Nov 11 2026. No macro, syntax, notation, axiom, sorry.
-/
import Derived.Test.YtikknojhoejciaaDoorChecked
import GoSem.Claim
import GoSem.ClaimJoined
import GoSem.ClaimMapViews
import Derived.JoinedTies
import Derived.KernelRfl
namespace Go.Proofs.YtikknojhoejciaaDoor
/- THE CELL 'sum', in the pinned program and in every row, IS THE sha256 OF THE DUMP (.gsa) THAT YtikknojhoejciaaDoorProg.lean LOADS. Nothing in Lean hashes anything: it is a label: what it is worth is what the hold of that sum in a sandbox is worth. -/
noncomputable def Tryd.pinned : Pinned := { name := "ytikknojhoejciaadoor", sum := "6179d5b06a7d8dc430ea66047363cd691a63ecd007a09caf2ee27e0dbf5019a9", checked := Tryd.checked }
namespace Rows
def none {H : Type} : Left H := { results := [], args := [] }

/- WHAT THE LISTED PACKAGE-LEVEL VARIABLES READ AS WHEN THE CALL BEGINS. Each datum BY PROGRAM (the guide's laid-datum.mjs) off the statement by which the dump's own 'gosem.cut.vars' lays the variable. In a bare row this is a premise. The card (YtikknojhoejciaaDoorCards.lean) ties it to the program's text. -/
def laid_clarion_packet_wide {H : Type} : DataW H := .agg [.lit (.int .i64 8), .lit (.int .i64 1), .lit (.int .i64 1), .lit (.int .i64 1), .lit (.int .i64 13), .lit (.int .i64 2), .lit (.int .i64 2), .lit (.int .i64 4)]

/-- 'clarionlaw14.PacketTells': WHATEVER THE INPUT: true; the input reads as it did. -/
def packetTellsSpec : ChangeSpec := { name := "packetTells", fn := fun _ => fun
  | [d] => { results := [.lit (.bool true)], args := [d] }
  | _ => none }
def packetTellsRow : OpenClaim := { program := "ytikknojhoejciaadoor", sum := "6179d5b06a7d8dc430ea66047363cd691a63ecd007a09caf2ee27e0dbf5019a9", func := "clarion/clarionlaw14.PacketTells", spec := "packetTells", inPlace := ["internal/abi.NoEscape", "internal/bytealg.MakeNoZero"], unfollowed := true, recurses := true, named := ["clarion/packet.wide"], apart := false, laid := [("clarion/packet.wide", laid_clarion_packet_wide)] }
def PacketTellsSaid : Prop := packetTellsRow.holds Tryd.pinned (OpenSpec.ofChange packetTellsSpec)

/-- ITS FALSE NEIGHBOUR: 'it returns false'. Refute it at one input. -/
def packetTellsWrong : ChangeSpec := { name := "packetTells", fn := fun _ => fun
  | [d] => { results := [.lit (.bool false)], args := [d] }
  | _ => none }
def PacketTellsWrongFalsely : Prop := packetTellsRow.holds Tryd.pinned (OpenSpec.ofChange packetTellsWrong)

/-- 'clarionlaw14.PacketReads': WHATEVER THE INPUT: true; the input reads as it did. -/
def packetReadsSpec : ChangeSpec := { name := "packetReads", fn := fun _ => fun
  | [d] => { results := [.lit (.bool true)], args := [d] }
  | _ => none }
def packetReadsRow : OpenClaim := { program := "ytikknojhoejciaadoor", sum := "6179d5b06a7d8dc430ea66047363cd691a63ecd007a09caf2ee27e0dbf5019a9", func := "clarion/clarionlaw14.PacketReads", spec := "packetReads", inPlace := ["internal/abi.NoEscape", "internal/bytealg.MakeNoZero"], unfollowed := true, recurses := true, named := ["clarion/packet.wide"], apart := false, laid := [("clarion/packet.wide", laid_clarion_packet_wide)] }
def PacketReadsSaid : Prop := packetReadsRow.holds Tryd.pinned (OpenSpec.ofChange packetReadsSpec)

/-- ITS FALSE NEIGHBOUR: 'it returns false'. Refute it at one input. -/
def packetReadsWrong : ChangeSpec := { name := "packetReads", fn := fun _ => fun
  | [d] => { results := [.lit (.bool false)], args := [d] }
  | _ => none }
def PacketReadsWrongFalsely : Prop := packetReadsRow.holds Tryd.pinned (OpenSpec.ofChange packetReadsWrong)

/-- 'clarionlaw14.PacketFinds': WHATEVER THE INPUT: true; the input reads as it did. -/
def packetFindsSpec : ChangeSpec := { name := "packetFinds", fn := fun _ => fun
  | [d] => { results := [.lit (.bool true)], args := [d] }
  | _ => none }
def packetFindsRow : OpenClaim := { program := "ytikknojhoejciaadoor", sum := "6179d5b06a7d8dc430ea66047363cd691a63ecd007a09caf2ee27e0dbf5019a9", func := "clarion/clarionlaw14.PacketFinds", spec := "packetFinds", inPlace := ["internal/abi.NoEscape", "internal/bytealg.MakeNoZero"], unfollowed := true, recurses := true, named := ["clarion/packet.wide"], apart := false, laid := [("clarion/packet.wide", laid_clarion_packet_wide)] }
def PacketFindsSaid : Prop := packetFindsRow.holds Tryd.pinned (OpenSpec.ofChange packetFindsSpec)

/-- ITS FALSE NEIGHBOUR: 'it returns false'. Refute it at one input. -/
def packetFindsWrong : ChangeSpec := { name := "packetFinds", fn := fun _ => fun
  | [d] => { results := [.lit (.bool false)], args := [d] }
  | _ => none }
def PacketFindsWrongFalsely : Prop := packetFindsRow.holds Tryd.pinned (OpenSpec.ofChange packetFindsWrong)

/-- 'clarionlaw14.PacketBack': WHATEVER THE INPUT: true; the input reads as it did. -/
def packetBackSpec : ChangeSpec := { name := "packetBack", fn := fun _ => fun
  | [d1, d2] => { results := [.lit (.bool true)], args := [d1, d2] }
  | _ => none }
def packetBackRow : OpenClaim := { program := "ytikknojhoejciaadoor", sum := "6179d5b06a7d8dc430ea66047363cd691a63ecd007a09caf2ee27e0dbf5019a9", func := "clarion/clarionlaw14.PacketBack", spec := "packetBack", inPlace := ["internal/abi.NoEscape", "internal/bytealg.MakeNoZero"], unfollowed := true, recurses := true, named := ["clarion/packet.wide"], apart := false, laid := [("clarion/packet.wide", laid_clarion_packet_wide)] }
def PacketBackSaid : Prop := packetBackRow.holds Tryd.pinned (OpenSpec.ofChange packetBackSpec)

/-- ITS FALSE NEIGHBOUR: 'it returns false'. Refute it at one input. -/
def packetBackWrong : ChangeSpec := { name := "packetBack", fn := fun _ => fun
  | [d1, d2] => { results := [.lit (.bool false)], args := [d1, d2] }
  | _ => none }
def PacketBackWrongFalsely : Prop := packetBackRow.holds Tryd.pinned (OpenSpec.ofChange packetBackWrong)

/-- 'clarionlaw14.PacketAhead': WHATEVER THE INPUT: true; the input reads as it did. -/
def packetAheadSpec : ChangeSpec := { name := "packetAhead", fn := fun _ => fun
  | [d1, d2] => { results := [.lit (.bool true)], args := [d1, d2] }
  | _ => none }
def packetAheadRow : OpenClaim := { program := "ytikknojhoejciaadoor", sum := "6179d5b06a7d8dc430ea66047363cd691a63ecd007a09caf2ee27e0dbf5019a9", func := "clarion/clarionlaw14.PacketAhead", spec := "packetAhead", inPlace := ["internal/abi.NoEscape", "internal/bytealg.MakeNoZero"], unfollowed := true, recurses := true, named := ["clarion/packet.wide"], apart := false, laid := [("clarion/packet.wide", laid_clarion_packet_wide)] }
def PacketAheadSaid : Prop := packetAheadRow.holds Tryd.pinned (OpenSpec.ofChange packetAheadSpec)

/-- ITS FALSE NEIGHBOUR: 'it returns false'. Refute it at one input. -/
def packetAheadWrong : ChangeSpec := { name := "packetAhead", fn := fun _ => fun
  | [d1, d2] => { results := [.lit (.bool false)], args := [d1, d2] }
  | _ => none }
def PacketAheadWrongFalsely : Prop := packetAheadRow.holds Tryd.pinned (OpenSpec.ofChange packetAheadWrong)

/-- 'clarionlaw14.PacketFields': WHATEVER THE INPUT: true; the input reads as it did. -/
def packetFieldsSpec : ChangeSpec := { name := "packetFields", fn := fun _ => fun
  | [d] => { results := [.lit (.bool true)], args := [d] }
  | _ => none }
def packetFieldsRow : OpenClaim := { program := "ytikknojhoejciaadoor", sum := "6179d5b06a7d8dc430ea66047363cd691a63ecd007a09caf2ee27e0dbf5019a9", func := "clarion/clarionlaw14.PacketFields", spec := "packetFields", inPlace := ["internal/abi.NoEscape", "internal/bytealg.MakeNoZero"], unfollowed := true, recurses := true, named := ["clarion/packet.wide"], apart := false, laid := [("clarion/packet.wide", laid_clarion_packet_wide)] }
def PacketFieldsSaid : Prop := packetFieldsRow.holds Tryd.pinned (OpenSpec.ofChange packetFieldsSpec)

/-- ITS FALSE NEIGHBOUR: 'it returns false'. Refute it at one input. -/
def packetFieldsWrong : ChangeSpec := { name := "packetFields", fn := fun _ => fun
  | [d] => { results := [.lit (.bool false)], args := [d] }
  | _ => none }
def PacketFieldsWrongFalsely : Prop := packetFieldsRow.holds Tryd.pinned (OpenSpec.ofChange packetFieldsWrong)

/- THE SECOND FORM. 'bulk': how many values and letters a reading holds, each counted each time it is reached (what is shared counts as often as it is met; a slice's spare places count too). A statement '..UptoSaid' is the law's where the arguments, and the package variables that the reading takes, are together of bulk at most 1048576: NARROWER than '..Said'. Prove '..Said' where nothing that the law and all that it calls make is longer than what came in: it says more and counts as full. Else prove '..UptoSaid'. A law counts once. -/
mutual
def uptoBulk {H : Type} : DataW H → Nat
  | .lit (.string bytes) => bytes.length + 1
  | .lit _ => 1
  | .nil => 1
  | .ptr d => uptoBulk d + 1
  | .slice elems spare => uptoBulkAll elems + uptoBulkAll spare + 1
  | .agg parts => uptoBulkAll parts + 1
  | .iface _ d => uptoBulk d + 1
  | .map entries => uptoBulkEntries entries + 1
  | .held _ => 1
def uptoBulkAll {H : Type} : List (DataW H) → Nat
  | [] => 0
  | d :: r => uptoBulk d + uptoBulkAll r
def uptoBulkEntries {H : Type} : List (Lit × DataW H) → Nat
  | [] => 0
  | x :: r => uptoBulkEntry x + uptoBulkEntries r
def uptoBulkEntry {H : Type} : Lit × DataW H → Nat
  | (.string bytes, d) => bytes.length + uptoBulk d + 1
  | (_, d) => uptoBulk d + 1
 end
def uptoSmall : (H : Type) → List (DataW H) → Bool := fun _ ds => decide (uptoBulkAll ds ≤ 1048576)
def OpenSpec.upto (s : _root_.Go.ChangeSpec) : _root_.Go.OpenSpec := { _root_.Go.OpenSpec.ofChange s with cond := some uptoSmall }

/-- 'clarionlaw14.PacketTells', WHERE WHAT IT READS IS OF BULK AT MOST 1048576: true; the input reads as it did. -/
def packetTellsUptoRow : OpenClaim := { program := "ytikknojhoejciaadoor", sum := "6179d5b06a7d8dc430ea66047363cd691a63ecd007a09caf2ee27e0dbf5019a9", func := "clarion/clarionlaw14.PacketTells", spec := "packetTells", inPlace := ["internal/abi.NoEscape", "internal/bytealg.MakeNoZero"], unfollowed := true, recurses := true, named := ["clarion/packet.wide"], apart := false, laid := [("clarion/packet.wide", laid_clarion_packet_wide)], narrowed := true }
def PacketTellsUptoSaid : Prop := packetTellsUptoRow.holds Tryd.pinned (OpenSpec.upto packetTellsSpec)

/-- 'clarionlaw14.PacketReads', WHERE WHAT IT READS IS OF BULK AT MOST 1048576: true; the input reads as it did. -/
def packetReadsUptoRow : OpenClaim := { program := "ytikknojhoejciaadoor", sum := "6179d5b06a7d8dc430ea66047363cd691a63ecd007a09caf2ee27e0dbf5019a9", func := "clarion/clarionlaw14.PacketReads", spec := "packetReads", inPlace := ["internal/abi.NoEscape", "internal/bytealg.MakeNoZero"], unfollowed := true, recurses := true, named := ["clarion/packet.wide"], apart := false, laid := [("clarion/packet.wide", laid_clarion_packet_wide)], narrowed := true }
def PacketReadsUptoSaid : Prop := packetReadsUptoRow.holds Tryd.pinned (OpenSpec.upto packetReadsSpec)

/-- 'clarionlaw14.PacketFinds', WHERE WHAT IT READS IS OF BULK AT MOST 1048576: true; the input reads as it did. -/
def packetFindsUptoRow : OpenClaim := { program := "ytikknojhoejciaadoor", sum := "6179d5b06a7d8dc430ea66047363cd691a63ecd007a09caf2ee27e0dbf5019a9", func := "clarion/clarionlaw14.PacketFinds", spec := "packetFinds", inPlace := ["internal/abi.NoEscape", "internal/bytealg.MakeNoZero"], unfollowed := true, recurses := true, named := ["clarion/packet.wide"], apart := false, laid := [("clarion/packet.wide", laid_clarion_packet_wide)], narrowed := true }
def PacketFindsUptoSaid : Prop := packetFindsUptoRow.holds Tryd.pinned (OpenSpec.upto packetFindsSpec)

/-- 'clarionlaw14.PacketBack', WHERE WHAT IT READS IS OF BULK AT MOST 1048576: true; the input reads as it did. -/
def packetBackUptoRow : OpenClaim := { program := "ytikknojhoejciaadoor", sum := "6179d5b06a7d8dc430ea66047363cd691a63ecd007a09caf2ee27e0dbf5019a9", func := "clarion/clarionlaw14.PacketBack", spec := "packetBack", inPlace := ["internal/abi.NoEscape", "internal/bytealg.MakeNoZero"], unfollowed := true, recurses := true, named := ["clarion/packet.wide"], apart := false, laid := [("clarion/packet.wide", laid_clarion_packet_wide)], narrowed := true }
def PacketBackUptoSaid : Prop := packetBackUptoRow.holds Tryd.pinned (OpenSpec.upto packetBackSpec)

/-- 'clarionlaw14.PacketAhead', WHERE WHAT IT READS IS OF BULK AT MOST 1048576: true; the input reads as it did. -/
def packetAheadUptoRow : OpenClaim := { program := "ytikknojhoejciaadoor", sum := "6179d5b06a7d8dc430ea66047363cd691a63ecd007a09caf2ee27e0dbf5019a9", func := "clarion/clarionlaw14.PacketAhead", spec := "packetAhead", inPlace := ["internal/abi.NoEscape", "internal/bytealg.MakeNoZero"], unfollowed := true, recurses := true, named := ["clarion/packet.wide"], apart := false, laid := [("clarion/packet.wide", laid_clarion_packet_wide)], narrowed := true }
def PacketAheadUptoSaid : Prop := packetAheadUptoRow.holds Tryd.pinned (OpenSpec.upto packetAheadSpec)

/-- 'clarionlaw14.PacketFields', WHERE WHAT IT READS IS OF BULK AT MOST 1048576: true; the input reads as it did. -/
def packetFieldsUptoRow : OpenClaim := { program := "ytikknojhoejciaadoor", sum := "6179d5b06a7d8dc430ea66047363cd691a63ecd007a09caf2ee27e0dbf5019a9", func := "clarion/clarionlaw14.PacketFields", spec := "packetFields", inPlace := ["internal/abi.NoEscape", "internal/bytealg.MakeNoZero"], unfollowed := true, recurses := true, named := ["clarion/packet.wide"], apart := false, laid := [("clarion/packet.wide", laid_clarion_packet_wide)], narrowed := true }
def PacketFieldsUptoSaid : Prop := packetFieldsUptoRow.holds Tryd.pinned (OpenSpec.upto packetFieldsSpec)

end Rows
end Go.Proofs.YtikknojhoejciaaDoor
