/- PlacesJoin: what its row says of the program, piece by piece. -/
import Derived.Test.YtemanednddhfaaaGreatDoorWbt
import Derived.Test.YtemanednddhfaaaGreatDoorTie
import Derived.Test.YtemanednddhfaaaGreatDoorCards
import Derived.SevenTiedAt
namespace Go.Proofs.YtemanednddhfaaaGreatDoor
open Go.ChangeShapes Go.WideShapes Go.ChangeAt Go.RowKit
theorem join_f1 : (Rows.placesJoinRow.inPlace == Tryz.pinned.checked.prog.inPlace 5) = true := by kernel_rfl
theorem join_f2 : (Rows.placesJoinRow.unfollowed == Tryz.pinned.checked.prog.unfollowed 5) = true := by kernel_rfl
theorem join_f3 : (Rows.placesJoinRow.recurses == Tryz.pinned.checked.prog.recurses 5) = true := by kernel_rfl
theorem join_f4 : (Rows.placesJoinRow.named == Tryz.pinned.checked.prog.varsNamed 5) = true := by kernel_rfl
theorem join_facts : joinedFacts Tryz.pinned.checked.prog 5 Tryz.f5 Rows.placesJoinSpec Rows.placesJoinRow = true := by
  unfold joinedFacts
  rw [join_f1, join_f2, join_f3, join_f4]
  kernel_rfl
theorem join_g1 : Rows.placesJoinRow.wfByText (OpenSpec.ofChange Rows.placesJoinSpec) = true := by kernel_rfl
theorem join_g2 : Tryz.pinned.checked.prog.mainIs = some (true, "3b88c1e0a524869b7836d0d96696908482ba902c5506b549e750c1ebc2fff995".toList) := by kernel_rfl
theorem join_g3 : true = Tryz.pinned.checked.prog.looks [] := by kernel_rfl
theorem join_g4 : false = Rows.placesJoinRow.goesBy Tryz.pinned.checked.prog := by kernel_rfl
theorem join_g5 : Tryz.pinned.checked.prog.funcNamed "hornbook/hornbooklaw13.PlacesJoin" = some 5 := by kernel_rfl
theorem join_g6 : ([26, 33, 21].all fun u => !Tryz.pinned.checked.prog.wantsStandIn u) = true := by kernel_rfl
end Go.Proofs.YtemanednddhfaaaGreatDoor
