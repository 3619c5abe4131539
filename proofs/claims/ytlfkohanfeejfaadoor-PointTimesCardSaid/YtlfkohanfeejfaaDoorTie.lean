/-
  DERIVED. GIVEN WITH THE SEED: THE PROGRAM's TIES (one call each: nine closed facts by the kernel) AND EACH ROW's TIE, after the 31st guide's Derived/Test/Toyas{Tie, Card}.lean. No idea stands in it: it is a product of the set-up. Laid BY PROGRAM, IN A SANDBOX (cutbox-door.mjs). By AI agents, Wed Nov 11 2026. No macro, syntax, notation, axiom, sorry.
-/
import Derived.Test.YtlfkohanfeejfaaDoorRows
import Derived.LaidByTextLater
import Derived.SevenTiedAt
import Derived.LaidSub
import Derived.LaidOnce
namespace Go.Proofs.YtlfkohanfeejfaaDoor
open Go
set_option maxRecDepth 100000
theorem seatTie1 : Tryd.prog.laidByTextLater [("yashmak/field.fourPrimes", Rows.laid_yashmak_field_fourPrimes), ("yashmak/field.rootOfMinus", Rows.laid_yashmak_field_rootOfMinus), ("yashmak/scalar.order", Rows.laid_yashmak_scalar_order), ("yashmak/curve.d", Rows.laid_yashmak_curve_d)] [.data, .data, .data, .data] true :=
  Program.laidByTextLater_by_one 29 8 5 (by kernel_rfl) (by kernel_rfl) (by kernel_rfl) (by kernel_rfl) (by kernel_rfl) (by kernel_rfl) (fun _ _ => by kernel_rfl)
theorem noOwnUnsafe : Tryd.pinned.checked.prog.headLifts.contains "ownunsafe" = false := by kernel_rfl
theorem tie : Tryd.prog.laidByTextLater [("yashmak/field.fourPrimes", Rows.laid_yashmak_field_fourPrimes), ("yashmak/field.rootOfMinus", Rows.laid_yashmak_field_rootOfMinus), ("yashmak/scalar.order", Rows.laid_yashmak_scalar_order), ("yashmak/curve.d", Rows.laid_yashmak_curve_d)] [.data, .data, .data, .data] true :=
  Program.laidByTextLater.sub seatTie1 ["yashmak/field.fourPrimes", "yashmak/field.rootOfMinus", "yashmak/scalar.order", "yashmak/curve.d"] (by kernel_rfl) (by kernel_rfl)
theorem pointTells_row_tie : Rows.pointTellsRow.laidByTextAt .later Tryd.pinned [.data, .data, .data, .data] true :=
  OpenClaim.laidByTextAt_later rfl rfl tie noOwnUnsafe
theorem pointBack_row_tie : Rows.pointBackRow.laidByTextAt .later Tryd.pinned [.data, .data, .data, .data] true :=
  OpenClaim.laidByTextAt_later rfl rfl tie noOwnUnsafe
theorem pointApart_row_tie : Rows.pointApartRow.laidByTextAt .later Tryd.pinned [.data, .data, .data, .data] true :=
  OpenClaim.laidByTextAt_later rfl rfl tie noOwnUnsafe
theorem pointTimes_row_tie : Rows.pointTimesRow.laidByTextAt .later Tryd.pinned [.data, .data, .data, .data] true :=
  OpenClaim.laidByTextAt_later rfl rfl tie noOwnUnsafe
theorem pointTellsUpto_row_tie : Rows.pointTellsUptoRow.laidByTextAt .later Tryd.pinned [.data, .data, .data, .data] true :=
  OpenClaim.laidByTextAt_later rfl rfl tie noOwnUnsafe
theorem pointBackUpto_row_tie : Rows.pointBackUptoRow.laidByTextAt .later Tryd.pinned [.data, .data, .data, .data] true :=
  OpenClaim.laidByTextAt_later rfl rfl tie noOwnUnsafe
theorem pointApartUpto_row_tie : Rows.pointApartUptoRow.laidByTextAt .later Tryd.pinned [.data, .data, .data, .data] true :=
  OpenClaim.laidByTextAt_later rfl rfl tie noOwnUnsafe
theorem pointTimesUpto_row_tie : Rows.pointTimesUptoRow.laidByTextAt .later Tryd.pinned [.data, .data, .data, .data] true :=
  OpenClaim.laidByTextAt_later rfl rfl tie noOwnUnsafe
end Go.Proofs.YtlfkohanfeejfaaDoor
