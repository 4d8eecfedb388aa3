/-
  DERIVED. GIVEN WITH THE SEED: THE PROGRAM's TIES (one call each: nine closed facts by the kernel) AND EACH ROW's TIE, after the 31st guide's Derived/Test/Toyas{Tie, Card}.lean. No idea stands in it: it is a product of the set-up. Laid BY PROGRAM, IN A SANDBOX (cutbox-door.mjs). By AI agents, Wed Nov 11 2026. No macro, syntax, notation, axiom, sorry.
-/
import Derived.Test.YtlghkdkaifcliaaDoorRows
import Derived.LaidByTextLater
import Derived.SevenTiedAt
import Derived.LaidSub
import Derived.LaidOnce
namespace Go.Proofs.YtlghkdkaifcliaaDoor
open Go
set_option maxRecDepth 100000
theorem seatTie1 : Tryd.prog.laidByTextLater [("clarion/descr.ofSlice", Rows.laid_clarion_descr_ofSlice), ("clarion/descr.ofPlace", Rows.laid_clarion_descr_ofPlace), ("clarion/descr.ofTarget", Rows.laid_clarion_descr_ofTarget), ("clarion/descr.ofInt", Rows.laid_clarion_descr_ofInt), ("clarion/descr.ofHead", Rows.laid_clarion_descr_ofHead), ("clarion/descr.ofLong", Rows.laid_clarion_descr_ofLong)] [.wider, .wider, .wider, .wider, .wider, .wider] true :=
  Program.laidByTextLater_by_one 39 8 10 (by kernel_rfl) (by kernel_rfl) (by kernel_rfl) (by kernel_rfl) (by kernel_rfl) (by kernel_rfl) (fun _ _ => by kernel_rfl)
theorem noOwnUnsafe : Tryd.pinned.checked.prog.headLifts.contains "ownunsafe" = false := by kernel_rfl
theorem tie : Tryd.prog.laidByTextLater [("clarion/descr.ofSlice", Rows.laid_clarion_descr_ofSlice)] [.wider] true :=
  Program.laidByTextLater.sub seatTie1 ["clarion/descr.ofSlice"] (by kernel_rfl) (by kernel_rfl)
theorem descrLoops_row_tie : Rows.descrLoopsRow.laidByTextAt .later Tryd.pinned [.wider] true :=
  OpenClaim.laidByTextAt_later rfl rfl tie noOwnUnsafe
theorem descrSlices_row_tie : Rows.descrSlicesRow.laidByTextAt .later Tryd.pinned [.wider] true :=
  OpenClaim.laidByTextAt_later rfl rfl tie noOwnUnsafe
theorem descrJoins_row_tie : Rows.descrJoinsRow.laidByTextAt .later Tryd.pinned [.wider] true :=
  OpenClaim.laidByTextAt_later rfl rfl tie noOwnUnsafe
theorem tie2 : Tryd.prog.laidByTextLater [("clarion/descr.ofSlice", Rows.laid_clarion_descr_ofSlice), ("clarion/descr.ofPlace", Rows.laid_clarion_descr_ofPlace), ("clarion/descr.ofTarget", Rows.laid_clarion_descr_ofTarget)] [.wider, .wider, .wider] true :=
  Program.laidByTextLater.sub seatTie1 ["clarion/descr.ofSlice", "clarion/descr.ofPlace", "clarion/descr.ofTarget"] (by kernel_rfl) (by kernel_rfl)
theorem descrPlaces_row_tie : Rows.descrPlacesRow.laidByTextAt .later Tryd.pinned [.wider, .wider, .wider] true :=
  OpenClaim.laidByTextAt_later rfl rfl tie2 noOwnUnsafe
theorem tie3 : Tryd.prog.laidByTextLater [("clarion/descr.ofSlice", Rows.laid_clarion_descr_ofSlice), ("clarion/descr.ofPlace", Rows.laid_clarion_descr_ofPlace), ("clarion/descr.ofInt", Rows.laid_clarion_descr_ofInt), ("clarion/descr.ofHead", Rows.laid_clarion_descr_ofHead), ("clarion/descr.ofLong", Rows.laid_clarion_descr_ofLong)] [.wider, .wider, .wider, .wider, .wider] true :=
  Program.laidByTextLater.sub seatTie1 ["clarion/descr.ofSlice", "clarion/descr.ofPlace", "clarion/descr.ofInt", "clarion/descr.ofHead", "clarion/descr.ofLong"] (by kernel_rfl) (by kernel_rfl)
theorem descrBack_row_tie : Rows.descrBackRow.laidByTextAt .later Tryd.pinned [.wider, .wider, .wider, .wider, .wider] true :=
  OpenClaim.laidByTextAt_later rfl rfl tie3 noOwnUnsafe
theorem tie4 : Tryd.prog.laidByTextLater [("clarion/descr.ofSlice", Rows.laid_clarion_descr_ofSlice), ("clarion/descr.ofPlace", Rows.laid_clarion_descr_ofPlace), ("clarion/descr.ofTarget", Rows.laid_clarion_descr_ofTarget), ("clarion/descr.ofInt", Rows.laid_clarion_descr_ofInt), ("clarion/descr.ofHead", Rows.laid_clarion_descr_ofHead), ("clarion/descr.ofLong", Rows.laid_clarion_descr_ofLong)] [.wider, .wider, .wider, .wider, .wider, .wider] true :=
  Program.laidByTextLater.sub seatTie1 ["clarion/descr.ofSlice", "clarion/descr.ofPlace", "clarion/descr.ofTarget", "clarion/descr.ofInt", "clarion/descr.ofHead", "clarion/descr.ofLong"] (by kernel_rfl) (by kernel_rfl)
theorem descrOne_row_tie : Rows.descrOneRow.laidByTextAt .later Tryd.pinned [.wider, .wider, .wider, .wider, .wider, .wider] true :=
  OpenClaim.laidByTextAt_later rfl rfl tie4 noOwnUnsafe
theorem tie5 : Tryd.prog.laidByTextLater [("clarion/descr.ofSlice", Rows.laid_clarion_descr_ofSlice), ("clarion/descr.ofPlace", Rows.laid_clarion_descr_ofPlace)] [.wider, .wider] true :=
  Program.laidByTextLater.sub seatTie1 ["clarion/descr.ofSlice", "clarion/descr.ofPlace"] (by kernel_rfl) (by kernel_rfl)
theorem descrApart_row_tie : Rows.descrApartRow.laidByTextAt .later Tryd.pinned [.wider, .wider] true :=
  OpenClaim.laidByTextAt_later rfl rfl tie5 noOwnUnsafe
theorem descrLoopsUpto_row_tie : Rows.descrLoopsUptoRow.laidByTextAt .later Tryd.pinned [.wider] true :=
  OpenClaim.laidByTextAt_later rfl rfl tie noOwnUnsafe
theorem descrSlicesUpto_row_tie : Rows.descrSlicesUptoRow.laidByTextAt .later Tryd.pinned [.wider] true :=
  OpenClaim.laidByTextAt_later rfl rfl tie noOwnUnsafe
theorem descrPlacesUpto_row_tie : Rows.descrPlacesUptoRow.laidByTextAt .later Tryd.pinned [.wider, .wider, .wider] true :=
  OpenClaim.laidByTextAt_later rfl rfl tie2 noOwnUnsafe
theorem descrBackUpto_row_tie : Rows.descrBackUptoRow.laidByTextAt .later Tryd.pinned [.wider, .wider, .wider, .wider, .wider] true :=
  OpenClaim.laidByTextAt_later rfl rfl tie3 noOwnUnsafe
theorem descrOneUpto_row_tie : Rows.descrOneUptoRow.laidByTextAt .later Tryd.pinned [.wider, .wider, .wider, .wider, .wider, .wider] true :=
  OpenClaim.laidByTextAt_later rfl rfl tie4 noOwnUnsafe
theorem descrJoinsUpto_row_tie : Rows.descrJoinsUptoRow.laidByTextAt .later Tryd.pinned [.wider] true :=
  OpenClaim.laidByTextAt_later rfl rfl tie noOwnUnsafe
theorem descrApartUpto_row_tie : Rows.descrApartUptoRow.laidByTextAt .later Tryd.pinned [.wider, .wider] true :=
  OpenClaim.laidByTextAt_later rfl rfl tie5 noOwnUnsafe
end Go.Proofs.YtlghkdkaifcliaaDoor
