/- MatchPlaces: what its row says of the program, piece by piece. -/
import Derived.Test.YteaaijhppmkfeaaGreatDoorTWbt
import Derived.Test.YteaaijhppmkfeaaGreatDoorTie
import Derived.Test.YteaaijhppmkfeaaGreatDoorCards
import Derived.SevenTiedAt
namespace Go.Proofs.YteaaijhppmkfeaaGreatDoor
open Go.ChangeShapes Go.WideShapes Go.ChangeAt Go.RowKit
theorem places_f1 : (Rows.matchPlacesRow.inPlace == Tryz.pinned.checked.prog.inPlace 9) = true := by kernel_rfl
theorem places_f2 : (Rows.matchPlacesRow.unfollowed == Tryz.pinned.checked.prog.unfollowed 9) = true := by kernel_rfl
theorem places_f3 : (Rows.matchPlacesRow.recurses == Tryz.pinned.checked.prog.recurses 9) = true := by kernel_rfl
theorem places_f4 : (Rows.matchPlacesRow.named == Tryz.pinned.checked.prog.varsNamed 9) = true := by kernel_rfl
theorem places_facts : joinedFacts Tryz.pinned.checked.prog 9 Tryz.f9 Rows.matchPlacesSpec Rows.matchPlacesRow = true := by
  unfold joinedFacts
  rw [places_f1, places_f2, places_f3, places_f4]
  kernel_rfl
theorem places_g1 : Rows.matchPlacesRow.wfByText (OpenSpec.ofChange Rows.matchPlacesSpec) = true := by kernel_rfl
theorem places_g2 : Tryz.pinned.checked.prog.mainIs = some (true, "80850bd2cc7d9ae1b8a748ddf4039f74a96b99c4a343cc0fc5d3eb535a9139b4".toList) := by kernel_rfl
theorem places_g3 : true = Tryz.pinned.checked.prog.looks [] := by kernel_rfl
theorem places_g4 : false = Rows.matchPlacesRow.goesBy Tryz.pinned.checked.prog := by kernel_rfl
theorem places_g5 : Tryz.pinned.checked.prog.funcNamed "hornbook/hornbooklaw8.MatchPlaces" = some 9 := by kernel_rfl
theorem places_g6 : ([26, 44, 5].all fun u => !Tryz.pinned.checked.prog.wantsStandIn u) = true := by kernel_rfl
end Go.Proofs.YteaaijhppmkfeaaGreatDoor
