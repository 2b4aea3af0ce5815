/- PlacesMatch: what its row says of the program, piece by piece. -/
import Derived.Test.YtemanednddhfaaaGreatDoorWbt
import Derived.Test.YtemanednddhfaaaGreatDoorTie
import Derived.Test.YtemanednddhfaaaGreatDoorCards
import Derived.SevenTiedAt
namespace Go.Proofs.YtemanednddhfaaaGreatDoor
open Go.ChangeShapes Go.WideShapes Go.ChangeAt Go.RowKit
theorem match_f1 : (Rows.placesMatchRow.inPlace == Tryz.pinned.checked.prog.inPlace 7) = true := by kernel_rfl
theorem match_f2 : (Rows.placesMatchRow.unfollowed == Tryz.pinned.checked.prog.unfollowed 7) = true := by kernel_rfl
theorem match_f3 : (Rows.placesMatchRow.recurses == Tryz.pinned.checked.prog.recurses 7) = true := by kernel_rfl
theorem match_f4 : (Rows.placesMatchRow.named == Tryz.pinned.checked.prog.varsNamed 7) = true := by kernel_rfl
theorem match_facts : joinedFacts Tryz.pinned.checked.prog 7 Tryz.f7 Rows.placesMatchSpec Rows.placesMatchRow = true := by
  unfold joinedFacts
  rw [match_f1, match_f2, match_f3, match_f4]
  kernel_rfl
theorem match_g1 : Rows.placesMatchRow.wfByText (OpenSpec.ofChange Rows.placesMatchSpec) = true := by kernel_rfl
theorem match_g2 : Tryz.pinned.checked.prog.mainIs = some (true, "3b88c1e0a524869b7836d0d96696908482ba902c5506b549e750c1ebc2fff995".toList) := by kernel_rfl
theorem match_g3 : true = Tryz.pinned.checked.prog.looks [] := by kernel_rfl
theorem match_g4 : false = Rows.placesMatchRow.goesBy Tryz.pinned.checked.prog := by kernel_rfl
theorem match_g5 : Tryz.pinned.checked.prog.funcNamed "hornbook/hornbooklaw13.PlacesMatch" = some 7 := by kernel_rfl
theorem match_g6 : ([26, 53].all fun u => !Tryz.pinned.checked.prog.wantsStandIn u) = true := by kernel_rfl
end Go.Proofs.YtemanednddhfaaaGreatDoor
