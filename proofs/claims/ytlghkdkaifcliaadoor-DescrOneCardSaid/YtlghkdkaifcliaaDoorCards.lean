/-
  DERIVED. GIVEN WITH THE SEED: THE CARDS: each row of YtlghkdkaifcliaaDoorRows.lean that lists a variable, with what it lists TIED to the program's text (the seventh form; the later family's looks); each row that meets fmt, with fmt's text TOLD by the authors' own Lean function (tested against real Go, not proved from fmt's source: count such statements apart). THE CARD IS WHAT COUNTS. Prove the row's statement (the work); the ties are given (YtlghkdkaifcliaaDoorTie.lean); close each card by the builder's one call (the guide's Derived/Test/ToyasCard.lean, 'card_holds'). Laid BY PROGRAM, IN A SANDBOX (cutbox-door.mjs). By AI agents, Wed Nov 11 2026. No macro, syntax, notation, axiom, sorry.
-/
import Derived.Test.YtlghkdkaifcliaaDoorRows
import GoSem.ClaimSeven
namespace Go.Proofs.YtlghkdkaifcliaaDoor
namespace Rows

/-- THE TIED CARD OF 'clarionlaw18.DescrLoops'. -/
def descrLoopsCard : Claim7 := { stood := { row := descrLoopsRow, standIns := [], harness := (true, "db73126a9281cbb21c18b5ad49b9b6bfb968c41082b5869085130509b4b51451"), looks := false }, kinds := [], alts := [], laidByText := true, laidKinds := [.wider], laidTests := true, laidLooks := .later }
def DescrLoopsCardSaid : Prop := Claim7.holds Tryd.pinned (.plain (OpenSpec.ofChange descrLoopsSpec)) descrLoopsCard

/-- THE TIED CARD OF 'clarionlaw18.DescrSlices'. -/
def descrSlicesCard : Claim7 := { stood := { row := descrSlicesRow, standIns := [], harness := (true, "db73126a9281cbb21c18b5ad49b9b6bfb968c41082b5869085130509b4b51451"), looks := false }, kinds := [], alts := [], laidByText := true, laidKinds := [.wider], laidTests := true, laidLooks := .later }
def DescrSlicesCardSaid : Prop := Claim7.holds Tryd.pinned (.plain (OpenSpec.ofChange descrSlicesSpec)) descrSlicesCard

/-- THE TIED CARD OF 'clarionlaw18.DescrPlaces'. -/
def descrPlacesCard : Claim7 := { stood := { row := descrPlacesRow, standIns := [], harness := (true, "db73126a9281cbb21c18b5ad49b9b6bfb968c41082b5869085130509b4b51451"), looks := false }, kinds := [], alts := [], laidByText := true, laidKinds := [.wider, .wider, .wider], laidTests := true, laidLooks := .later }
def DescrPlacesCardSaid : Prop := Claim7.holds Tryd.pinned (.plain (OpenSpec.ofChange descrPlacesSpec)) descrPlacesCard

/-- THE TIED CARD OF 'clarionlaw18.DescrBack'. -/
def descrBackCard : Claim7 := { stood := { row := descrBackRow, standIns := [], harness := (true, "db73126a9281cbb21c18b5ad49b9b6bfb968c41082b5869085130509b4b51451"), looks := false }, kinds := [], alts := [], laidByText := true, laidKinds := [.wider, .wider, .wider, .wider, .wider], laidTests := true, laidLooks := .later }
def DescrBackCardSaid : Prop := Claim7.holds Tryd.pinned (.plain (OpenSpec.ofChange descrBackSpec)) descrBackCard

/-- THE TIED CARD OF 'clarionlaw18.DescrOne'. -/
def descrOneCard : Claim7 := { stood := { row := descrOneRow, standIns := [], harness := (true, "db73126a9281cbb21c18b5ad49b9b6bfb968c41082b5869085130509b4b51451"), looks := false }, kinds := [], alts := [], laidByText := true, laidKinds := [.wider, .wider, .wider, .wider, .wider, .wider], laidTests := true, laidLooks := .later }
def DescrOneCardSaid : Prop := Claim7.holds Tryd.pinned (.plain (OpenSpec.ofChange descrOneSpec)) descrOneCard

/-- THE TIED CARD OF 'clarionlaw18.DescrJoins'. -/
def descrJoinsCard : Claim7 := { stood := { row := descrJoinsRow, standIns := [], harness := (true, "db73126a9281cbb21c18b5ad49b9b6bfb968c41082b5869085130509b4b51451"), looks := false }, kinds := [], alts := [], laidByText := true, laidKinds := [.wider], laidTests := true, laidLooks := .later }
def DescrJoinsCardSaid : Prop := Claim7.holds Tryd.pinned (.plain (OpenSpec.ofChange descrJoinsSpec)) descrJoinsCard

/-- THE TIED CARD OF 'clarionlaw18.DescrApart'. -/
def descrApartCard : Claim7 := { stood := { row := descrApartRow, standIns := [], harness := (true, "db73126a9281cbb21c18b5ad49b9b6bfb968c41082b5869085130509b4b51451"), looks := false }, kinds := [], alts := [], laidByText := true, laidKinds := [.wider, .wider], laidTests := true, laidLooks := .later }
def DescrApartCardSaid : Prop := Claim7.holds Tryd.pinned (.plain (OpenSpec.ofChange descrApartSpec)) descrApartCard

/-- THE SECOND FORM's CARD OF 'clarionlaw18.DescrLoops'. -/
def descrLoopsUptoCard : Claim7 := { stood := { row := descrLoopsUptoRow, standIns := [], harness := (true, "db73126a9281cbb21c18b5ad49b9b6bfb968c41082b5869085130509b4b51451"), looks := false }, kinds := [], alts := [], laidByText := true, laidKinds := [.wider], laidTests := true, laidLooks := .later }
def DescrLoopsUptoCardSaid : Prop := Claim7.holds Tryd.pinned (.plain (OpenSpec.upto descrLoopsSpec)) descrLoopsUptoCard

/-- THE SECOND FORM's CARD OF 'clarionlaw18.DescrSlices'. -/
def descrSlicesUptoCard : Claim7 := { stood := { row := descrSlicesUptoRow, standIns := [], harness := (true, "db73126a9281cbb21c18b5ad49b9b6bfb968c41082b5869085130509b4b51451"), looks := false }, kinds := [], alts := [], laidByText := true, laidKinds := [.wider], laidTests := true, laidLooks := .later }
def DescrSlicesUptoCardSaid : Prop := Claim7.holds Tryd.pinned (.plain (OpenSpec.upto descrSlicesSpec)) descrSlicesUptoCard

/-- THE SECOND FORM's CARD OF 'clarionlaw18.DescrPlaces'. -/
def descrPlacesUptoCard : Claim7 := { stood := { row := descrPlacesUptoRow, standIns := [], harness := (true, "db73126a9281cbb21c18b5ad49b9b6bfb968c41082b5869085130509b4b51451"), looks := false }, kinds := [], alts := [], laidByText := true, laidKinds := [.wider, .wider, .wider], laidTests := true, laidLooks := .later }
def DescrPlacesUptoCardSaid : Prop := Claim7.holds Tryd.pinned (.plain (OpenSpec.upto descrPlacesSpec)) descrPlacesUptoCard

/-- THE SECOND FORM's CARD OF 'clarionlaw18.DescrBack'. -/
def descrBackUptoCard : Claim7 := { stood := { row := descrBackUptoRow, standIns := [], harness := (true, "db73126a9281cbb21c18b5ad49b9b6bfb968c41082b5869085130509b4b51451"), looks := false }, kinds := [], alts := [], laidByText := true, laidKinds := [.wider, .wider, .wider, .wider, .wider], laidTests := true, laidLooks := .later }
def DescrBackUptoCardSaid : Prop := Claim7.holds Tryd.pinned (.plain (OpenSpec.upto descrBackSpec)) descrBackUptoCard

/-- THE SECOND FORM's CARD OF 'clarionlaw18.DescrOne'. -/
def descrOneUptoCard : Claim7 := { stood := { row := descrOneUptoRow, standIns := [], harness := (true, "db73126a9281cbb21c18b5ad49b9b6bfb968c41082b5869085130509b4b51451"), looks := false }, kinds := [], alts := [], laidByText := true, laidKinds := [.wider, .wider, .wider, .wider, .wider, .wider], laidTests := true, laidLooks := .later }
def DescrOneUptoCardSaid : Prop := Claim7.holds Tryd.pinned (.plain (OpenSpec.upto descrOneSpec)) descrOneUptoCard

/-- THE SECOND FORM's CARD OF 'clarionlaw18.DescrJoins'. -/
def descrJoinsUptoCard : Claim7 := { stood := { row := descrJoinsUptoRow, standIns := [], harness := (true, "db73126a9281cbb21c18b5ad49b9b6bfb968c41082b5869085130509b4b51451"), looks := false }, kinds := [], alts := [], laidByText := true, laidKinds := [.wider], laidTests := true, laidLooks := .later }
def DescrJoinsUptoCardSaid : Prop := Claim7.holds Tryd.pinned (.plain (OpenSpec.upto descrJoinsSpec)) descrJoinsUptoCard

/-- THE SECOND FORM's CARD OF 'clarionlaw18.DescrApart'. -/
def descrApartUptoCard : Claim7 := { stood := { row := descrApartUptoRow, standIns := [], harness := (true, "db73126a9281cbb21c18b5ad49b9b6bfb968c41082b5869085130509b4b51451"), looks := false }, kinds := [], alts := [], laidByText := true, laidKinds := [.wider, .wider], laidTests := true, laidLooks := .later }
def DescrApartUptoCardSaid : Prop := Claim7.holds Tryd.pinned (.plain (OpenSpec.upto descrApartSpec)) descrApartUptoCard
end Rows
end Go.Proofs.YtlghkdkaifcliaaDoor
