/- PlacesStars: what its row says of the program, piece by piece. -/
import Derived.Test.YtemanednddhfaaaGreatDoorWbt
import Derived.Test.YtemanednddhfaaaGreatDoorTie
import Derived.Test.YtemanednddhfaaaGreatDoorCards
import Derived.SevenTiedAt
namespace Go.Proofs.YtemanednddhfaaaGreatDoor
open Go.ChangeShapes Go.WideShapes Go.ChangeAt Go.RowKit
theorem stars_f1 : (Rows.placesStarsRow.inPlace == Tryz.pinned.checked.prog.inPlace 4) = true := by kernel_rfl
theorem stars_f2 : (Rows.placesStarsRow.unfollowed == Tryz.pinned.checked.prog.unfollowed 4) = true := by kernel_rfl
theorem stars_f3 : (Rows.placesStarsRow.recurses == Tryz.pinned.checked.prog.recurses 4) = true := by kernel_rfl
theorem stars_f4 : (Rows.placesStarsRow.named == Tryz.pinned.checked.prog.varsNamed 4) = true := by kernel_rfl
theorem stars_facts : joinedFacts Tryz.pinned.checked.prog 4 Tryz.f4 Rows.placesStarsSpec Rows.placesStarsRow = true := by
  unfold joinedFacts
  rw [stars_f1, stars_f2, stars_f3, stars_f4]
  kernel_rfl
theorem stars_g1 : Rows.placesStarsRow.wfByText (OpenSpec.ofChange Rows.placesStarsSpec) = true := by kernel_rfl
theorem stars_g2 : Tryz.pinned.checked.prog.mainIs = some (true, "3b88c1e0a524869b7836d0d96696908482ba902c5506b549e750c1ebc2fff995".toList) := by kernel_rfl
theorem stars_g3 : true = Tryz.pinned.checked.prog.looks [] := by kernel_rfl
theorem stars_g4 : false = Rows.placesStarsRow.goesBy Tryz.pinned.checked.prog := by kernel_rfl
theorem stars_g5 : Tryz.pinned.checked.prog.funcNamed "hornbook/hornbooklaw13.PlacesStars" = some 4 := by kernel_rfl
theorem stars_g6 : ([5, 4].all fun u => !Tryz.pinned.checked.prog.wantsStandIn u) = true := by kernel_rfl
end Go.Proofs.YtemanednddhfaaaGreatDoor
