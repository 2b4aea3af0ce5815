/- SubsetMany: what its row says of the program, piece by piece. -/
import Derived.Test.YtgngaldoemopjaaGreatDoorDWbt
import Derived.Test.YtgngaldoemopjaaGreatDoorTie
import Derived.Test.YtgngaldoemopjaaGreatDoorCards
import Derived.SevenTiedAt
namespace Go.Proofs.YtgngaldoemopjaaGreatDoor
open Go.ChangeShapes Go.WideShapes Go.ChangeAt Go.RowKit
theorem many_f1 : (Rows.subsetManyRow.inPlace == Tryz.pinned.checked.prog.inPlace 6) = true := by kernel_rfl
theorem many_f2 : (Rows.subsetManyRow.unfollowed == Tryz.pinned.checked.prog.unfollowed 6) = true := by kernel_rfl
theorem many_f3 : (Rows.subsetManyRow.recurses == Tryz.pinned.checked.prog.recurses 6) = true := by kernel_rfl
theorem many_f4 : (Rows.subsetManyRow.named == Tryz.pinned.checked.prog.varsNamed 6) = true := by kernel_rfl
theorem many_facts : joinedFacts Tryz.pinned.checked.prog 6 Tryz.f6 Rows.subsetManySpec Rows.subsetManyRow = true := by
  unfold joinedFacts
  rw [many_f1, many_f2, many_f3, many_f4]
  kernel_rfl
theorem many_g1 : Rows.subsetManyRow.wfByText (OpenSpec.ofChange Rows.subsetManySpec) = true := by kernel_rfl
theorem many_g2 : Tryz.pinned.checked.prog.mainIs = some (true, "9cadb913c3df5cd22fc853ab64821f718f6daee1cd8cf9cf671f367539602c50".toList) := by kernel_rfl
theorem many_g3 : true = Tryz.pinned.checked.prog.looks [] := by kernel_rfl
theorem many_g4 : false = Rows.subsetManyRow.goesBy Tryz.pinned.checked.prog := by kernel_rfl
theorem many_g5 : Tryz.pinned.checked.prog.funcNamed "hornbook/hornbooklaw14.SubsetMany" = some 6 := by kernel_rfl
theorem many_g6 : ([5].all fun u => !Tryz.pinned.checked.prog.wantsStandIn u) = true := by kernel_rfl
end Go.Proofs.YtgngaldoemopjaaGreatDoor
