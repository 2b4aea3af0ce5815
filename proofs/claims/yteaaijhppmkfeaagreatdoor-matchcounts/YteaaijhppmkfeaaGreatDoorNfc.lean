/- MatchCounts: what its row says of the program, piece by piece. -/
import Derived.Test.YteaaijhppmkfeaaGreatDoorTWbt
import Derived.Test.YteaaijhppmkfeaaGreatDoorTie
import Derived.Test.YteaaijhppmkfeaaGreatDoorCards
import Derived.SevenTiedAt
namespace Go.Proofs.YteaaijhppmkfeaaGreatDoor
open Go.ChangeShapes Go.WideShapes Go.ChangeAt Go.RowKit
theorem counts_f1 : (Rows.matchCountsRow.inPlace == Tryz.pinned.checked.prog.inPlace 12) = true := by kernel_rfl
theorem counts_f2 : (Rows.matchCountsRow.unfollowed == Tryz.pinned.checked.prog.unfollowed 12) = true := by kernel_rfl
theorem counts_f3 : (Rows.matchCountsRow.recurses == Tryz.pinned.checked.prog.recurses 12) = true := by kernel_rfl
theorem counts_f4 : (Rows.matchCountsRow.named == Tryz.pinned.checked.prog.varsNamed 12) = true := by kernel_rfl
theorem counts_facts : joinedFacts Tryz.pinned.checked.prog 12 Tryz.f12 Rows.matchCountsSpec Rows.matchCountsRow = true := by
  unfold joinedFacts
  rw [counts_f1, counts_f2, counts_f3, counts_f4]
  kernel_rfl
theorem counts_g1 : Rows.matchCountsRow.wfByText (OpenSpec.ofChange Rows.matchCountsSpec) = true := by kernel_rfl
theorem counts_g2 : Tryz.pinned.checked.prog.mainIs = some (true, "80850bd2cc7d9ae1b8a748ddf4039f74a96b99c4a343cc0fc5d3eb535a9139b4".toList) := by kernel_rfl
theorem counts_g3 : true = Tryz.pinned.checked.prog.looks [] := by kernel_rfl
theorem counts_g4 : false = Rows.matchCountsRow.goesBy Tryz.pinned.checked.prog := by kernel_rfl
theorem counts_g5 : Tryz.pinned.checked.prog.funcNamed "hornbook/hornbooklaw8.MatchCounts" = some 12 := by kernel_rfl
theorem counts_g6 : ([5].all fun u => !Tryz.pinned.checked.prog.wantsStandIn u) = true := by kernel_rfl
end Go.Proofs.YteaaijhppmkfeaaGreatDoor
