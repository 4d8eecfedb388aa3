/-
  DERIVED. GIVEN WITH THE SEED: THE CARDS: each row of YtikknojhoejciaaDoorRows.lean that lists a variable, with what it lists TIED to the program's text (the seventh form; the later family's looks); each row that meets fmt, with fmt's text TOLD by the authors' own Lean function (tested against real Go, not proved from fmt's source: count such statements apart). THE CARD IS WHAT COUNTS. Prove the row's statement (the work); the ties are given (YtikknojhoejciaaDoorTie.lean); close each card by the builder's one call (the guide's Derived/Test/ToyasCard.lean, 'card_holds'). Laid BY PROGRAM, IN A SANDBOX (cutbox-door.mjs). By AI agents, Wed Nov 11 2026. No macro, syntax, notation, axiom, sorry.
-/
import Derived.Test.YtikknojhoejciaaDoorRows
import GoSem.ClaimSeven
namespace Go.Proofs.YtikknojhoejciaaDoor
namespace Rows

/-- THE TIED CARD OF 'clarionlaw14.PacketTells'. -/
def packetTellsCard : Claim7 := { stood := { row := packetTellsRow, standIns := [], harness := (true, "6a4414aeff60e8984be4fb9df90843ed1f2f713a0523aa3e9346333ac62f231b"), looks := false }, kinds := [], alts := [], laidByText := true, laidKinds := [.data], laidTests := true, laidLooks := .later }
def PacketTellsCardSaid : Prop := Claim7.holds Tryd.pinned (.plain (OpenSpec.ofChange packetTellsSpec)) packetTellsCard

/-- THE TIED CARD OF 'clarionlaw14.PacketReads'. -/
def packetReadsCard : Claim7 := { stood := { row := packetReadsRow, standIns := [], harness := (true, "6a4414aeff60e8984be4fb9df90843ed1f2f713a0523aa3e9346333ac62f231b"), looks := false }, kinds := [], alts := [], laidByText := true, laidKinds := [.data], laidTests := true, laidLooks := .later }
def PacketReadsCardSaid : Prop := Claim7.holds Tryd.pinned (.plain (OpenSpec.ofChange packetReadsSpec)) packetReadsCard

/-- THE TIED CARD OF 'clarionlaw14.PacketFinds'. -/
def packetFindsCard : Claim7 := { stood := { row := packetFindsRow, standIns := [], harness := (true, "6a4414aeff60e8984be4fb9df90843ed1f2f713a0523aa3e9346333ac62f231b"), looks := false }, kinds := [], alts := [], laidByText := true, laidKinds := [.data], laidTests := true, laidLooks := .later }
def PacketFindsCardSaid : Prop := Claim7.holds Tryd.pinned (.plain (OpenSpec.ofChange packetFindsSpec)) packetFindsCard

/-- THE TIED CARD OF 'clarionlaw14.PacketBack'. -/
def packetBackCard : Claim7 := { stood := { row := packetBackRow, standIns := [], harness := (true, "6a4414aeff60e8984be4fb9df90843ed1f2f713a0523aa3e9346333ac62f231b"), looks := false }, kinds := [], alts := [], laidByText := true, laidKinds := [.data], laidTests := true, laidLooks := .later }
def PacketBackCardSaid : Prop := Claim7.holds Tryd.pinned (.plain (OpenSpec.ofChange packetBackSpec)) packetBackCard

/-- THE TIED CARD OF 'clarionlaw14.PacketAhead'. -/
def packetAheadCard : Claim7 := { stood := { row := packetAheadRow, standIns := [], harness := (true, "6a4414aeff60e8984be4fb9df90843ed1f2f713a0523aa3e9346333ac62f231b"), looks := false }, kinds := [], alts := [], laidByText := true, laidKinds := [.data], laidTests := true, laidLooks := .later }
def PacketAheadCardSaid : Prop := Claim7.holds Tryd.pinned (.plain (OpenSpec.ofChange packetAheadSpec)) packetAheadCard

/-- THE TIED CARD OF 'clarionlaw14.PacketFields'. -/
def packetFieldsCard : Claim7 := { stood := { row := packetFieldsRow, standIns := [], harness := (true, "6a4414aeff60e8984be4fb9df90843ed1f2f713a0523aa3e9346333ac62f231b"), looks := false }, kinds := [], alts := [], laidByText := true, laidKinds := [.data], laidTests := true, laidLooks := .later }
def PacketFieldsCardSaid : Prop := Claim7.holds Tryd.pinned (.plain (OpenSpec.ofChange packetFieldsSpec)) packetFieldsCard

/-- THE SECOND FORM's CARD OF 'clarionlaw14.PacketTells'. -/
def packetTellsUptoCard : Claim7 := { stood := { row := packetTellsUptoRow, standIns := [], harness := (true, "6a4414aeff60e8984be4fb9df90843ed1f2f713a0523aa3e9346333ac62f231b"), looks := false }, kinds := [], alts := [], laidByText := true, laidKinds := [.data], laidTests := true, laidLooks := .later }
def PacketTellsUptoCardSaid : Prop := Claim7.holds Tryd.pinned (.plain (OpenSpec.upto packetTellsSpec)) packetTellsUptoCard

/-- THE SECOND FORM's CARD OF 'clarionlaw14.PacketReads'. -/
def packetReadsUptoCard : Claim7 := { stood := { row := packetReadsUptoRow, standIns := [], harness := (true, "6a4414aeff60e8984be4fb9df90843ed1f2f713a0523aa3e9346333ac62f231b"), looks := false }, kinds := [], alts := [], laidByText := true, laidKinds := [.data], laidTests := true, laidLooks := .later }
def PacketReadsUptoCardSaid : Prop := Claim7.holds Tryd.pinned (.plain (OpenSpec.upto packetReadsSpec)) packetReadsUptoCard

/-- THE SECOND FORM's CARD OF 'clarionlaw14.PacketFinds'. -/
def packetFindsUptoCard : Claim7 := { stood := { row := packetFindsUptoRow, standIns := [], harness := (true, "6a4414aeff60e8984be4fb9df90843ed1f2f713a0523aa3e9346333ac62f231b"), looks := false }, kinds := [], alts := [], laidByText := true, laidKinds := [.data], laidTests := true, laidLooks := .later }
def PacketFindsUptoCardSaid : Prop := Claim7.holds Tryd.pinned (.plain (OpenSpec.upto packetFindsSpec)) packetFindsUptoCard

/-- THE SECOND FORM's CARD OF 'clarionlaw14.PacketBack'. -/
def packetBackUptoCard : Claim7 := { stood := { row := packetBackUptoRow, standIns := [], harness := (true, "6a4414aeff60e8984be4fb9df90843ed1f2f713a0523aa3e9346333ac62f231b"), looks := false }, kinds := [], alts := [], laidByText := true, laidKinds := [.data], laidTests := true, laidLooks := .later }
def PacketBackUptoCardSaid : Prop := Claim7.holds Tryd.pinned (.plain (OpenSpec.upto packetBackSpec)) packetBackUptoCard

/-- THE SECOND FORM's CARD OF 'clarionlaw14.PacketAhead'. -/
def packetAheadUptoCard : Claim7 := { stood := { row := packetAheadUptoRow, standIns := [], harness := (true, "6a4414aeff60e8984be4fb9df90843ed1f2f713a0523aa3e9346333ac62f231b"), looks := false }, kinds := [], alts := [], laidByText := true, laidKinds := [.data], laidTests := true, laidLooks := .later }
def PacketAheadUptoCardSaid : Prop := Claim7.holds Tryd.pinned (.plain (OpenSpec.upto packetAheadSpec)) packetAheadUptoCard

/-- THE SECOND FORM's CARD OF 'clarionlaw14.PacketFields'. -/
def packetFieldsUptoCard : Claim7 := { stood := { row := packetFieldsUptoRow, standIns := [], harness := (true, "6a4414aeff60e8984be4fb9df90843ed1f2f713a0523aa3e9346333ac62f231b"), looks := false }, kinds := [], alts := [], laidByText := true, laidKinds := [.data], laidTests := true, laidLooks := .later }
def PacketFieldsUptoCardSaid : Prop := Claim7.holds Tryd.pinned (.plain (OpenSpec.upto packetFieldsSpec)) packetFieldsUptoCard
end Rows
end Go.Proofs.YtikknojhoejciaaDoor
