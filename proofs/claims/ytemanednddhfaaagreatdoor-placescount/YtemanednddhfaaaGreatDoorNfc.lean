/- PlacesCount: what its row says of the program, piece by piece. -/
import Derived.Test.YtemanednddhfaaaGreatDoorWbt
import Derived.Test.YtemanednddhfaaaGreatDoorTie
import Derived.Test.YtemanednddhfaaaGreatDoorCards
import Derived.SevenTiedAt
namespace Go.Proofs.YtemanednddhfaaaGreatDoor
open Go.ChangeShapes Go.WideShapes Go.ChangeAt Go.RowKit
theorem count_f1 : (Rows.placesCountRow.inPlace == Tryz.pinned.checked.prog.inPlace 3) = true := by kernel_rfl
theorem count_f2 : (Rows.placesCountRow.unfollowed == Tryz.pinned.checked.prog.unfollowed 3) = true := by kernel_rfl
theorem count_f3 : (Rows.placesCountRow.recurses == Tryz.pinned.checked.prog.recurses 3) = true := by kernel_rfl
theorem count_f4 : (Rows.placesCountRow.named == Tryz.pinned.checked.prog.varsNamed 3) = true := by kernel_rfl
theorem count_facts : joinedFacts Tryz.pinned.checked.prog 3 Tryz.f3 Rows.placesCountSpec Rows.placesCountRow = true := by
  unfold joinedFacts
  rw [count_f1, count_f2, count_f3, count_f4]
  kernel_rfl
theorem count_g1 : Rows.placesCountRow.wfByText (OpenSpec.ofChange Rows.placesCountSpec) = true := by kernel_rfl
theorem count_g2 : Tryz.pinned.checked.prog.mainIs = some (true, "3b88c1e0a524869b7836d0d96696908482ba902c5506b549e750c1ebc2fff995".toList) := by kernel_rfl
theorem count_g3 : true = Tryz.pinned.checked.prog.looks [] := by kernel_rfl
theorem count_g4 : false = Rows.placesCountRow.goesBy Tryz.pinned.checked.prog := by kernel_rfl
theorem count_g5 : Tryz.pinned.checked.prog.funcNamed "hornbook/hornbooklaw13.PlacesCount" = some 3 := by kernel_rfl
theorem count_g6 : ([5, 4].all fun u => !Tryz.pinned.checked.prog.wantsStandIn u) = true := by kernel_rfl
end Go.Proofs.YtemanednddhfaaaGreatDoor
