/-
  DERIVED. GIVEN WITH THE SEED: THE CARDS: each row of YtaabfkffemnidaaDoorRows.lean that lists a variable, with what it lists TIED to the program's text (the seventh form; the later family's looks); each row that meets fmt, with fmt's text TOLD by the authors' own Lean function (tested against real Go, not proved from fmt's source: count such statements apart). THE CARD IS WHAT COUNTS. Prove the row's statement (the work); the ties are given (YtaabfkffemnidaaDoorTie.lean); close each card by the builder's one call (the guide's Derived/Test/ToyasCard.lean, 'card_holds'). Laid BY PROGRAM, IN A SANDBOX (cutbox-door.mjs). By AI agents, Wed Nov 11 2026. No macro, syntax, notation, axiom, sorry.
-/
import Derived.Test.YtaabfkffemnidaaDoorRows
import GoSem.ClaimSeven
namespace Go.Proofs.YtaabfkffemnidaaDoor
namespace Rows

/-- THE TIED CARD OF 'clarionlaw15.PackerBytes'. -/
def packerBytesCard : Claim7 := { stood := { row := packerBytesRow, standIns := [], harness := (true, "2281633d1c60e3c8a8849b88fa3d67e704902b4c97170248be63c681ef645020"), looks := false }, kinds := [], alts := [], laidByText := true, laidKinds := [.data], laidTests := true, laidLooks := .later }
def PackerBytesCardSaid : Prop := Claim7.holds Tryd.pinned (.plain (OpenSpec.ofChange packerBytesSpec)) packerBytesCard

/-- THE TIED CARD OF 'clarionlaw15.PackerMany'. -/
def packerManyCard : Claim7 := { stood := { row := packerManyRow, standIns := [], harness := (true, "2281633d1c60e3c8a8849b88fa3d67e704902b4c97170248be63c681ef645020"), looks := false }, kinds := [], alts := [], laidByText := true, laidKinds := [.data], laidTests := true, laidLooks := .later }
def PackerManyCardSaid : Prop := Claim7.holds Tryd.pinned (.plain (OpenSpec.ofChange packerManySpec)) packerManyCard

/-- THE SECOND FORM's CARD OF 'clarionlaw15.PackerBytes'. -/
def packerBytesUptoCard : Claim7 := { stood := { row := packerBytesUptoRow, standIns := [], harness := (true, "2281633d1c60e3c8a8849b88fa3d67e704902b4c97170248be63c681ef645020"), looks := false }, kinds := [], alts := [], laidByText := true, laidKinds := [.data], laidTests := true, laidLooks := .later }
def PackerBytesUptoCardSaid : Prop := Claim7.holds Tryd.pinned (.plain (OpenSpec.upto packerBytesSpec)) packerBytesUptoCard

/-- THE SECOND FORM's CARD OF 'clarionlaw15.PackerMany'. -/
def packerManyUptoCard : Claim7 := { stood := { row := packerManyUptoRow, standIns := [], harness := (true, "2281633d1c60e3c8a8849b88fa3d67e704902b4c97170248be63c681ef645020"), looks := false }, kinds := [], alts := [], laidByText := true, laidKinds := [.data], laidTests := true, laidLooks := .later }
def PackerManyUptoCardSaid : Prop := Claim7.holds Tryd.pinned (.plain (OpenSpec.upto packerManySpec)) packerManyUptoCard
end Rows
end Go.Proofs.YtaabfkffemnidaaDoor
