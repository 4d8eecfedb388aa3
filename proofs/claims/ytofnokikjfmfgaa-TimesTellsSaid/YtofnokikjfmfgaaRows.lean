/-
  No cell of these rows narrows 'for every input' (looked for: loops, veiled, ifaces, maps, wideKeys, modest, calm, conditions, laid).
  DERIVED. THE GIVEN ROWS OF THIS SEAT. 8 by the template 'for every input the law returns true; each argument reads behind the call as it read before'; 0 by the template 'total and deterministic' (their statements: YtofnokikjfmfgaaTotals.lean).
  GIVEN WITH THE SEED: the statements are not yours to turn. If you find one false, say at which input.
  Laid BY PROGRAM, IN A SANDBOX (cutbox-rows.mjs): the forced cells as the released guide's own fill.sh prints them over the translation 0dffce87ddc65634… (all of the seat's roots in one cut). By AI agents, Wed Nov 11 2026. No macro, syntax, notation, axiom, sorry.
-/
import Derived.Test.YtofnokikjfmfgaaChecked
import GoSem.Claim
import GoSem.ClaimJoined
import GoSem.ClaimMapViews
import Derived.JoinedTies
import Derived.KernelRfl
namespace Go.Proofs.Ytofnokikjfmfgaa
/- THE CELL 'sum', in the pinned program and in every row, IS THE sha256 OF THE DUMP (.gsa) THAT YtofnokikjfmfgaaProg.lean LOADS. Nothing in Lean hashes anything: it is a label: what it is worth is what the hold of that sum in a sandbox is worth. -/
noncomputable def Try.pinned : Pinned := { name := "ytofnokikjfmfgaa", sum := "0dffce87ddc656348a30879805fe31842cc8fc6e1f39bbff476d0ba0457c4797", checked := Try.checked }
namespace Rows
def none {H : Type} : Left H := { results := [], args := [] }

/-- 'clarionlaw08.SectionOrder': WHATEVER THE INPUT: true; the input reads as it did. -/
def sectionOrderSpec : ChangeSpec := { name := "sectionOrder", fn := fun _ => fun
  | [d1, d2] => { results := [.lit (.bool true)], args := [d1, d2] }
  | _ => none }
def sectionOrderRow : OpenClaim := { program := "ytofnokikjfmfgaa", sum := "0dffce87ddc656348a30879805fe31842cc8fc6e1f39bbff476d0ba0457c4797", func := "clarion/clarionlaw08.SectionOrder", spec := "sectionOrder", inPlace := ["internal/abi.NoEscape"], unfollowed := true, recurses := true, apart := false }
def SectionOrderSaid : Prop := sectionOrderRow.holds Try.pinned (OpenSpec.ofChange sectionOrderSpec)

/-- ITS FALSE NEIGHBOUR: 'it returns false'. Refute it at one input. -/
def sectionOrderWrong : ChangeSpec := { name := "sectionOrder", fn := fun _ => fun
  | [d1, d2] => { results := [.lit (.bool false)], args := [d1, d2] }
  | _ => none }
def SectionOrderWrongFalsely : Prop := sectionOrderRow.holds Try.pinned (OpenSpec.ofChange sectionOrderWrong)

/-- 'clarionlaw09.TimesTells': WHATEVER THE INPUT: true; the input reads as it did. -/
def timesTellsSpec : ChangeSpec := { name := "timesTells", fn := fun _ => fun
  | [d1, d2] => { results := [.lit (.bool true)], args := [d1, d2] }
  | _ => none }
def timesTellsRow : OpenClaim := { program := "ytofnokikjfmfgaa", sum := "0dffce87ddc656348a30879805fe31842cc8fc6e1f39bbff476d0ba0457c4797", func := "clarion/clarionlaw09.TimesTells", spec := "timesTells", unfollowed := true, recurses := true, apart := false }
def TimesTellsSaid : Prop := timesTellsRow.holds Try.pinned (OpenSpec.ofChange timesTellsSpec)

/-- ITS FALSE NEIGHBOUR: 'it returns false'. Refute it at one input. -/
def timesTellsWrong : ChangeSpec := { name := "timesTells", fn := fun _ => fun
  | [d1, d2] => { results := [.lit (.bool false)], args := [d1, d2] }
  | _ => none }
def TimesTellsWrongFalsely : Prop := timesTellsRow.holds Try.pinned (OpenSpec.ofChange timesTellsWrong)

/-- 'clarionlaw09.TimesBack': WHATEVER THE INPUT: true; the input reads as it did. -/
def timesBackSpec : ChangeSpec := { name := "timesBack", fn := fun _ => fun
  | [d1, d2] => { results := [.lit (.bool true)], args := [d1, d2] }
  | _ => none }
def timesBackRow : OpenClaim := { program := "ytofnokikjfmfgaa", sum := "0dffce87ddc656348a30879805fe31842cc8fc6e1f39bbff476d0ba0457c4797", func := "clarion/clarionlaw09.TimesBack", spec := "timesBack", unfollowed := true, recurses := true, apart := false }
def TimesBackSaid : Prop := timesBackRow.holds Try.pinned (OpenSpec.ofChange timesBackSpec)

/-- ITS FALSE NEIGHBOUR: 'it returns false'. Refute it at one input. -/
def timesBackWrong : ChangeSpec := { name := "timesBack", fn := fun _ => fun
  | [d1, d2] => { results := [.lit (.bool false)], args := [d1, d2] }
  | _ => none }
def TimesBackWrongFalsely : Prop := timesBackRow.holds Try.pinned (OpenSpec.ofChange timesBackWrong)

/-- 'clarionlaw09.TimesDelta': WHATEVER THE INPUT: true; the input reads as it did. -/
def timesDeltaSpec : ChangeSpec := { name := "timesDelta", fn := fun _ => fun
  | [d1, d2, d3] => { results := [.lit (.bool true)], args := [d1, d2, d3] }
  | _ => none }
def timesDeltaRow : OpenClaim := { program := "ytofnokikjfmfgaa", sum := "0dffce87ddc656348a30879805fe31842cc8fc6e1f39bbff476d0ba0457c4797", func := "clarion/clarionlaw09.TimesDelta", spec := "timesDelta", unfollowed := true, recurses := true, apart := false }
def TimesDeltaSaid : Prop := timesDeltaRow.holds Try.pinned (OpenSpec.ofChange timesDeltaSpec)

/-- ITS FALSE NEIGHBOUR: 'it returns false'. Refute it at one input. -/
def timesDeltaWrong : ChangeSpec := { name := "timesDelta", fn := fun _ => fun
  | [d1, d2, d3] => { results := [.lit (.bool false)], args := [d1, d2, d3] }
  | _ => none }
def TimesDeltaWrongFalsely : Prop := timesDeltaRow.holds Try.pinned (OpenSpec.ofChange timesDeltaWrong)

/-- 'clarionlaw09.TimesWindow': WHATEVER THE INPUT: true; the input reads as it did. -/
def timesWindowSpec : ChangeSpec := { name := "timesWindow", fn := fun _ => fun
  | [d1, d2, d3] => { results := [.lit (.bool true)], args := [d1, d2, d3] }
  | _ => none }
def timesWindowRow : OpenClaim := { program := "ytofnokikjfmfgaa", sum := "0dffce87ddc656348a30879805fe31842cc8fc6e1f39bbff476d0ba0457c4797", func := "clarion/clarionlaw09.TimesWindow", spec := "timesWindow", unfollowed := true, recurses := true, apart := false }
def TimesWindowSaid : Prop := timesWindowRow.holds Try.pinned (OpenSpec.ofChange timesWindowSpec)

/-- ITS FALSE NEIGHBOUR: 'it returns false'. Refute it at one input. -/
def timesWindowWrong : ChangeSpec := { name := "timesWindow", fn := fun _ => fun
  | [d1, d2, d3] => { results := [.lit (.bool false)], args := [d1, d2, d3] }
  | _ => none }
def TimesWindowWrongFalsely : Prop := timesWindowRow.holds Try.pinned (OpenSpec.ofChange timesWindowWrong)

/-- 'clarionlaw09.TimesSure': WHATEVER THE INPUT: true; the input reads as it did. -/
def timesSureSpec : ChangeSpec := { name := "timesSure", fn := fun _ => fun
  | [d1, d2, d3] => { results := [.lit (.bool true)], args := [d1, d2, d3] }
  | _ => none }
def timesSureRow : OpenClaim := { program := "ytofnokikjfmfgaa", sum := "0dffce87ddc656348a30879805fe31842cc8fc6e1f39bbff476d0ba0457c4797", func := "clarion/clarionlaw09.TimesSure", spec := "timesSure", unfollowed := true, recurses := true, apart := false }
def TimesSureSaid : Prop := timesSureRow.holds Try.pinned (OpenSpec.ofChange timesSureSpec)

/-- ITS FALSE NEIGHBOUR: 'it returns false'. Refute it at one input. -/
def timesSureWrong : ChangeSpec := { name := "timesSure", fn := fun _ => fun
  | [d1, d2, d3] => { results := [.lit (.bool false)], args := [d1, d2, d3] }
  | _ => none }
def TimesSureWrongFalsely : Prop := timesSureRow.holds Try.pinned (OpenSpec.ofChange timesSureWrong)

/-- 'clarionlaw09.TimesPlaces': WHATEVER THE INPUT: true; the input reads as it did. -/
def timesPlacesSpec : ChangeSpec := { name := "timesPlaces", fn := fun _ => fun
  | [d1, d2, d3] => { results := [.lit (.bool true)], args := [d1, d2, d3] }
  | _ => none }
def timesPlacesRow : OpenClaim := { program := "ytofnokikjfmfgaa", sum := "0dffce87ddc656348a30879805fe31842cc8fc6e1f39bbff476d0ba0457c4797", func := "clarion/clarionlaw09.TimesPlaces", spec := "timesPlaces", inPlace := ["math.archTrunc", "math.Float64bits", "math.Float64frombits"], unfollowed := true, recurses := true, apart := false }
def TimesPlacesSaid : Prop := timesPlacesRow.holds Try.pinned (OpenSpec.ofChange timesPlacesSpec)

/-- ITS FALSE NEIGHBOUR: 'it returns false'. Refute it at one input. -/
def timesPlacesWrong : ChangeSpec := { name := "timesPlaces", fn := fun _ => fun
  | [d1, d2, d3] => { results := [.lit (.bool false)], args := [d1, d2, d3] }
  | _ => none }
def TimesPlacesWrongFalsely : Prop := timesPlacesRow.holds Try.pinned (OpenSpec.ofChange timesPlacesWrong)

/-- 'clarionlaw09.TimesSums': WHATEVER THE INPUT: true; the input reads as it did. -/
def timesSumsSpec : ChangeSpec := { name := "timesSums", fn := fun _ => fun
  | [d1, d2] => { results := [.lit (.bool true)], args := [d1, d2] }
  | _ => none }
def timesSumsRow : OpenClaim := { program := "ytofnokikjfmfgaa", sum := "0dffce87ddc656348a30879805fe31842cc8fc6e1f39bbff476d0ba0457c4797", func := "clarion/clarionlaw09.TimesSums", spec := "timesSums", unfollowed := true, recurses := true, apart := false }
def TimesSumsSaid : Prop := timesSumsRow.holds Try.pinned (OpenSpec.ofChange timesSumsSpec)

/-- ITS FALSE NEIGHBOUR: 'it returns false'. Refute it at one input. -/
def timesSumsWrong : ChangeSpec := { name := "timesSums", fn := fun _ => fun
  | [d1, d2] => { results := [.lit (.bool false)], args := [d1, d2] }
  | _ => none }
def TimesSumsWrongFalsely : Prop := timesSumsRow.holds Try.pinned (OpenSpec.ofChange timesSumsWrong)

/- THE SECOND FORM. 'bulk': how many values and letters a reading holds, each counted each time it is reached (what is shared counts as often as it is met; a slice's spare places count too). A statement '..UptoSaid' is the law's where the arguments, and the package variables that the reading takes, are together of bulk at most 1048576: NARROWER than '..Said'. Prove '..Said' where nothing that the law and all that it calls make is longer than what came in: it says more and counts as full. Else prove '..UptoSaid'. A law counts once. -/
mutual
def uptoBulk {H : Type} : DataW H → Nat
  | .lit (.string bytes) => bytes.length + 1
  | .lit _ => 1
  | .nil => 1
  | .ptr d => uptoBulk d + 1
  | .slice elems spare => uptoBulkAll elems + uptoBulkAll spare + 1
  | .agg parts => uptoBulkAll parts + 1
  | .iface _ d => uptoBulk d + 1
  | .map entries => uptoBulkEntries entries + 1
  | .held _ => 1
def uptoBulkAll {H : Type} : List (DataW H) → Nat
  | [] => 0
  | d :: r => uptoBulk d + uptoBulkAll r
def uptoBulkEntries {H : Type} : List (Lit × DataW H) → Nat
  | [] => 0
  | x :: r => uptoBulkEntry x + uptoBulkEntries r
def uptoBulkEntry {H : Type} : Lit × DataW H → Nat
  | (.string bytes, d) => bytes.length + uptoBulk d + 1
  | (_, d) => uptoBulk d + 1
 end
def uptoSmall : (H : Type) → List (DataW H) → Bool := fun _ ds => decide (uptoBulkAll ds ≤ 1048576)
def OpenSpec.upto (s : _root_.Go.ChangeSpec) : _root_.Go.OpenSpec := { _root_.Go.OpenSpec.ofChange s with cond := some uptoSmall }

/-- 'clarionlaw08.SectionOrder', WHERE WHAT IT READS IS OF BULK AT MOST 1048576: true; the input reads as it did. -/
def sectionOrderUptoRow : OpenClaim := { program := "ytofnokikjfmfgaa", sum := "0dffce87ddc656348a30879805fe31842cc8fc6e1f39bbff476d0ba0457c4797", func := "clarion/clarionlaw08.SectionOrder", spec := "sectionOrder", inPlace := ["internal/abi.NoEscape"], unfollowed := true, recurses := true, apart := false, narrowed := true }
def SectionOrderUptoSaid : Prop := sectionOrderUptoRow.holds Try.pinned (OpenSpec.upto sectionOrderSpec)

/-- 'clarionlaw09.TimesTells', WHERE WHAT IT READS IS OF BULK AT MOST 1048576: true; the input reads as it did. -/
def timesTellsUptoRow : OpenClaim := { program := "ytofnokikjfmfgaa", sum := "0dffce87ddc656348a30879805fe31842cc8fc6e1f39bbff476d0ba0457c4797", func := "clarion/clarionlaw09.TimesTells", spec := "timesTells", unfollowed := true, recurses := true, apart := false, narrowed := true }
def TimesTellsUptoSaid : Prop := timesTellsUptoRow.holds Try.pinned (OpenSpec.upto timesTellsSpec)

/-- 'clarionlaw09.TimesBack', WHERE WHAT IT READS IS OF BULK AT MOST 1048576: true; the input reads as it did. -/
def timesBackUptoRow : OpenClaim := { program := "ytofnokikjfmfgaa", sum := "0dffce87ddc656348a30879805fe31842cc8fc6e1f39bbff476d0ba0457c4797", func := "clarion/clarionlaw09.TimesBack", spec := "timesBack", unfollowed := true, recurses := true, apart := false, narrowed := true }
def TimesBackUptoSaid : Prop := timesBackUptoRow.holds Try.pinned (OpenSpec.upto timesBackSpec)

/-- 'clarionlaw09.TimesDelta', WHERE WHAT IT READS IS OF BULK AT MOST 1048576: true; the input reads as it did. -/
def timesDeltaUptoRow : OpenClaim := { program := "ytofnokikjfmfgaa", sum := "0dffce87ddc656348a30879805fe31842cc8fc6e1f39bbff476d0ba0457c4797", func := "clarion/clarionlaw09.TimesDelta", spec := "timesDelta", unfollowed := true, recurses := true, apart := false, narrowed := true }
def TimesDeltaUptoSaid : Prop := timesDeltaUptoRow.holds Try.pinned (OpenSpec.upto timesDeltaSpec)

/-- 'clarionlaw09.TimesWindow', WHERE WHAT IT READS IS OF BULK AT MOST 1048576: true; the input reads as it did. -/
def timesWindowUptoRow : OpenClaim := { program := "ytofnokikjfmfgaa", sum := "0dffce87ddc656348a30879805fe31842cc8fc6e1f39bbff476d0ba0457c4797", func := "clarion/clarionlaw09.TimesWindow", spec := "timesWindow", unfollowed := true, recurses := true, apart := false, narrowed := true }
def TimesWindowUptoSaid : Prop := timesWindowUptoRow.holds Try.pinned (OpenSpec.upto timesWindowSpec)

/-- 'clarionlaw09.TimesSure', WHERE WHAT IT READS IS OF BULK AT MOST 1048576: true; the input reads as it did. -/
def timesSureUptoRow : OpenClaim := { program := "ytofnokikjfmfgaa", sum := "0dffce87ddc656348a30879805fe31842cc8fc6e1f39bbff476d0ba0457c4797", func := "clarion/clarionlaw09.TimesSure", spec := "timesSure", unfollowed := true, recurses := true, apart := false, narrowed := true }
def TimesSureUptoSaid : Prop := timesSureUptoRow.holds Try.pinned (OpenSpec.upto timesSureSpec)

/-- 'clarionlaw09.TimesPlaces', WHERE WHAT IT READS IS OF BULK AT MOST 1048576: true; the input reads as it did. -/
def timesPlacesUptoRow : OpenClaim := { program := "ytofnokikjfmfgaa", sum := "0dffce87ddc656348a30879805fe31842cc8fc6e1f39bbff476d0ba0457c4797", func := "clarion/clarionlaw09.TimesPlaces", spec := "timesPlaces", inPlace := ["math.archTrunc", "math.Float64bits", "math.Float64frombits"], unfollowed := true, recurses := true, apart := false, narrowed := true }
def TimesPlacesUptoSaid : Prop := timesPlacesUptoRow.holds Try.pinned (OpenSpec.upto timesPlacesSpec)

/-- 'clarionlaw09.TimesSums', WHERE WHAT IT READS IS OF BULK AT MOST 1048576: true; the input reads as it did. -/
def timesSumsUptoRow : OpenClaim := { program := "ytofnokikjfmfgaa", sum := "0dffce87ddc656348a30879805fe31842cc8fc6e1f39bbff476d0ba0457c4797", func := "clarion/clarionlaw09.TimesSums", spec := "timesSums", unfollowed := true, recurses := true, apart := false, narrowed := true }
def TimesSumsUptoSaid : Prop := timesSumsUptoRow.holds Try.pinned (OpenSpec.upto timesSumsSpec)

end Rows
end Go.Proofs.Ytofnokikjfmfgaa
