/- MatchParts: what its row says of the program, piece by piece. -/
import Derived.Test.YteaaijhppmkfeaaGreatDoorTWbt
import Derived.Test.YteaaijhppmkfeaaGreatDoorTie
import Derived.Test.YteaaijhppmkfeaaGreatDoorCards
import Derived.SevenTiedAt
namespace Go.Proofs.YteaaijhppmkfeaaGreatDoor
open Go.ChangeShapes Go.WideShapes Go.ChangeAt Go.RowKit
theorem parts_f1 : (Rows.matchPartsRow.inPlace == Tryz.pinned.checked.prog.inPlace 8) = true := by kernel_rfl
theorem parts_f2 : (Rows.matchPartsRow.unfollowed == Tryz.pinned.checked.prog.unfollowed 8) = true := by kernel_rfl
theorem parts_f3 : (Rows.matchPartsRow.recurses == Tryz.pinned.checked.prog.recurses 8) = true := by kernel_rfl
theorem parts_f4 : (Rows.matchPartsRow.named == Tryz.pinned.checked.prog.varsNamed 8) = true := by kernel_rfl
theorem parts_facts : joinedFacts Tryz.pinned.checked.prog 8 Tryz.f8 Rows.matchPartsSpec Rows.matchPartsRow = true := by
  unfold joinedFacts
  rw [parts_f1, parts_f2, parts_f3, parts_f4]
  kernel_rfl
theorem parts_g1 : Rows.matchPartsRow.wfByText (OpenSpec.ofChange Rows.matchPartsSpec) = true := by kernel_rfl
theorem parts_g2 : Tryz.pinned.checked.prog.mainIs = some (true, "80850bd2cc7d9ae1b8a748ddf4039f74a96b99c4a343cc0fc5d3eb535a9139b4".toList) := by kernel_rfl
theorem parts_g3 : true = Tryz.pinned.checked.prog.looks [] := by kernel_rfl
theorem parts_g4 : false = Rows.matchPartsRow.goesBy Tryz.pinned.checked.prog := by kernel_rfl
theorem parts_g5 : Tryz.pinned.checked.prog.funcNamed "hornbook/hornbooklaw8.MatchParts" = some 8 := by kernel_rfl
theorem parts_g6 : ([26, 44].all fun u => !Tryz.pinned.checked.prog.wantsStandIn u) = true := by kernel_rfl
end Go.Proofs.YteaaijhppmkfeaaGreatDoor
