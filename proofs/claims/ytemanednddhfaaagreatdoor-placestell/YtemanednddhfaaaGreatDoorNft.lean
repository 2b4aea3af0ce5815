/- PlacesTell: what its row says of the program, piece by piece. -/
import Derived.Test.YtemanednddhfaaaGreatDoorWbt
import Derived.Test.YtemanednddhfaaaGreatDoorTie
import Derived.Test.YtemanednddhfaaaGreatDoorCards
import Derived.SevenTiedAt
namespace Go.Proofs.YtemanednddhfaaaGreatDoor
open Go.ChangeShapes Go.WideShapes Go.ChangeAt Go.RowKit
theorem tell_f1 : (Rows.placesTellRow.inPlace == Tryz.pinned.checked.prog.inPlace 6) = true := by kernel_rfl
theorem tell_f2 : (Rows.placesTellRow.unfollowed == Tryz.pinned.checked.prog.unfollowed 6) = true := by kernel_rfl
theorem tell_f3 : (Rows.placesTellRow.recurses == Tryz.pinned.checked.prog.recurses 6) = true := by kernel_rfl
theorem tell_f4 : (Rows.placesTellRow.named == Tryz.pinned.checked.prog.varsNamed 6) = true := by kernel_rfl
theorem tell_facts : joinedFacts Tryz.pinned.checked.prog 6 Tryz.f6 Rows.placesTellSpec Rows.placesTellRow = true := by
  unfold joinedFacts
  rw [tell_f1, tell_f2, tell_f3, tell_f4]
  kernel_rfl
theorem tell_g1 : Rows.placesTellRow.wfByText (OpenSpec.ofChange Rows.placesTellSpec) = true := by kernel_rfl
theorem tell_g2 : Tryz.pinned.checked.prog.mainIs = some (true, "3b88c1e0a524869b7836d0d96696908482ba902c5506b549e750c1ebc2fff995".toList) := by kernel_rfl
theorem tell_g3 : true = Tryz.pinned.checked.prog.looks [] := by kernel_rfl
theorem tell_g4 : false = Rows.placesTellRow.goesBy Tryz.pinned.checked.prog := by kernel_rfl
theorem tell_g5 : Tryz.pinned.checked.prog.funcNamed "hornbook/hornbooklaw13.PlacesTell" = some 6 := by kernel_rfl
theorem tell_g6 : ([26, 33, 21].all fun u => !Tryz.pinned.checked.prog.wantsStandIn u) = true := by kernel_rfl
end Go.Proofs.YtemanednddhfaaaGreatDoor
