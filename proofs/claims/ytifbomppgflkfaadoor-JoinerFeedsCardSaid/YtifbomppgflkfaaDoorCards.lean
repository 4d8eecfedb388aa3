/-
  DERIVED. GIVEN WITH THE SEED: THE CARDS: each row of YtifbomppgflkfaaDoorRows.lean that lists a variable, with what it lists TIED to the program's text (the seventh form; the later family's looks); each row that meets fmt, with fmt's text TOLD by the authors' own Lean function (tested against real Go, not proved from fmt's source: count such statements apart). THE CARD IS WHAT COUNTS. Prove the row's statement (the work); the ties are given (YtifbomppgflkfaaDoorTie.lean); close each card by the builder's one call (the guide's Derived/Test/ToyasCard.lean, 'card_holds'). Laid BY PROGRAM, IN A SANDBOX (cutbox-door.mjs). By AI agents, Wed Nov 11 2026. No macro, syntax, notation, axiom, sorry.
-/
import Derived.Test.YtifbomppgflkfaaDoorRows
import GoSem.ClaimSeven
namespace Go.Proofs.YtifbomppgflkfaaDoor
namespace Rows

/-- THE TIED CARD OF 'clarionlaw16.JoinerFeeds'. -/
def joinerFeedsCard : Claim7 := { stood := { row := joinerFeedsRow, standIns := [], harness := (true, "d6646568fab1202c37b2a24bb2b5cbf738fbe060ed647780cd8d5ad49d51c533"), looks := false }, kinds := [], alts := [], laidByText := true, laidKinds := [.data], laidTests := true, laidLooks := .later }
def JoinerFeedsCardSaid : Prop := Claim7.holds Tryd.pinned (.plain (OpenSpec.ofChange joinerFeedsSpec)) joinerFeedsCard

/-- THE TIED CARD OF 'clarionlaw16.JoinerBytes'. -/
def joinerBytesCard : Claim7 := { stood := { row := joinerBytesRow, standIns := [], harness := (true, "d6646568fab1202c37b2a24bb2b5cbf738fbe060ed647780cd8d5ad49d51c533"), looks := false }, kinds := [], alts := [], laidByText := true, laidKinds := [.data], laidTests := true, laidLooks := .later }
def JoinerBytesCardSaid : Prop := Claim7.holds Tryd.pinned (.plain (OpenSpec.ofChange joinerBytesSpec)) joinerBytesCard

/-- THE TIED CARD OF 'clarionlaw16.JoinerBack'. -/
def joinerBackCard : Claim7 := { stood := { row := joinerBackRow, standIns := [], harness := (true, "d6646568fab1202c37b2a24bb2b5cbf738fbe060ed647780cd8d5ad49d51c533"), looks := false }, kinds := [], alts := [], laidByText := true, laidKinds := [.data], laidTests := true, laidLooks := .later }
def JoinerBackCardSaid : Prop := Claim7.holds Tryd.pinned (.plain (OpenSpec.ofChange joinerBackSpec)) joinerBackCard

/-- THE TIED CARD OF 'clarionlaw16.JoinerNil'. -/
def joinerNilCard : Claim7 := { stood := { row := joinerNilRow, standIns := [], harness := (true, "d6646568fab1202c37b2a24bb2b5cbf738fbe060ed647780cd8d5ad49d51c533"), looks := false }, kinds := [], alts := [], laidByText := true, laidKinds := [.data], laidTests := true, laidLooks := .later }
def JoinerNilCardSaid : Prop := Claim7.holds Tryd.pinned (.plain (OpenSpec.ofChange joinerNilSpec)) joinerNilCard

/-- THE TIED CARD OF 'clarionlaw16.JoinerDrops'. -/
def joinerDropsCard : Claim7 := { stood := { row := joinerDropsRow, standIns := [], harness := (true, "d6646568fab1202c37b2a24bb2b5cbf738fbe060ed647780cd8d5ad49d51c533"), looks := false }, kinds := [], alts := [], laidByText := true, laidKinds := [.data], laidTests := true, laidLooks := .later }
def JoinerDropsCardSaid : Prop := Claim7.holds Tryd.pinned (.plain (OpenSpec.ofChange joinerDropsSpec)) joinerDropsCard

/-- THE SECOND FORM's CARD OF 'clarionlaw16.JoinerFeeds'. -/
def joinerFeedsUptoCard : Claim7 := { stood := { row := joinerFeedsUptoRow, standIns := [], harness := (true, "d6646568fab1202c37b2a24bb2b5cbf738fbe060ed647780cd8d5ad49d51c533"), looks := false }, kinds := [], alts := [], laidByText := true, laidKinds := [.data], laidTests := true, laidLooks := .later }
def JoinerFeedsUptoCardSaid : Prop := Claim7.holds Tryd.pinned (.plain (OpenSpec.upto joinerFeedsSpec)) joinerFeedsUptoCard

/-- THE SECOND FORM's CARD OF 'clarionlaw16.JoinerBytes'. -/
def joinerBytesUptoCard : Claim7 := { stood := { row := joinerBytesUptoRow, standIns := [], harness := (true, "d6646568fab1202c37b2a24bb2b5cbf738fbe060ed647780cd8d5ad49d51c533"), looks := false }, kinds := [], alts := [], laidByText := true, laidKinds := [.data], laidTests := true, laidLooks := .later }
def JoinerBytesUptoCardSaid : Prop := Claim7.holds Tryd.pinned (.plain (OpenSpec.upto joinerBytesSpec)) joinerBytesUptoCard

/-- THE SECOND FORM's CARD OF 'clarionlaw16.JoinerBack'. -/
def joinerBackUptoCard : Claim7 := { stood := { row := joinerBackUptoRow, standIns := [], harness := (true, "d6646568fab1202c37b2a24bb2b5cbf738fbe060ed647780cd8d5ad49d51c533"), looks := false }, kinds := [], alts := [], laidByText := true, laidKinds := [.data], laidTests := true, laidLooks := .later }
def JoinerBackUptoCardSaid : Prop := Claim7.holds Tryd.pinned (.plain (OpenSpec.upto joinerBackSpec)) joinerBackUptoCard

/-- THE SECOND FORM's CARD OF 'clarionlaw16.JoinerNil'. -/
def joinerNilUptoCard : Claim7 := { stood := { row := joinerNilUptoRow, standIns := [], harness := (true, "d6646568fab1202c37b2a24bb2b5cbf738fbe060ed647780cd8d5ad49d51c533"), looks := false }, kinds := [], alts := [], laidByText := true, laidKinds := [.data], laidTests := true, laidLooks := .later }
def JoinerNilUptoCardSaid : Prop := Claim7.holds Tryd.pinned (.plain (OpenSpec.upto joinerNilSpec)) joinerNilUptoCard

/-- THE SECOND FORM's CARD OF 'clarionlaw16.JoinerDrops'. -/
def joinerDropsUptoCard : Claim7 := { stood := { row := joinerDropsUptoRow, standIns := [], harness := (true, "d6646568fab1202c37b2a24bb2b5cbf738fbe060ed647780cd8d5ad49d51c533"), looks := false }, kinds := [], alts := [], laidByText := true, laidKinds := [.data], laidTests := true, laidLooks := .later }
def JoinerDropsUptoCardSaid : Prop := Claim7.holds Tryd.pinned (.plain (OpenSpec.upto joinerDropsSpec)) joinerDropsUptoCard
end Rows
end Go.Proofs.YtifbomppgflkfaaDoor
