/- Joined: Nfd. -/
import Derived.Test.YtgngaldoemopjaaGreatDoorDWbt
import Derived.Test.YtgngaldoemopjaaGreatDoorTie
import Derived.Test.YtgngaldoemopjaaGreatDoorCards
import Derived.SevenTiedAt
namespace Go.Proofs.YtgngaldoemopjaaGreatDoor
open Go.ChangeShapes Go.WideShapes Go.ChangeAt Go.RowKit
theorem dead_f1 : (Rows.subsetDeadRow.inPlace == Tryz.pinned.checked.prog.inPlace 3) = true := by kernel_rfl
theorem dead_f2 : (Rows.subsetDeadRow.unfollowed == Tryz.pinned.checked.prog.unfollowed 3) = true := by kernel_rfl
theorem dead_f3 : (Rows.subsetDeadRow.recurses == Tryz.pinned.checked.prog.recurses 3) = true := by kernel_rfl
theorem dead_f4 : (Rows.subsetDeadRow.named == Tryz.pinned.checked.prog.varsNamed 3) = true := by kernel_rfl
theorem dead_facts : joinedFacts Tryz.pinned.checked.prog 3 Tryz.f3 Rows.subsetDeadSpec Rows.subsetDeadRow = true := by
 unfold joinedFacts
 rw [dead_f1, dead_f2, dead_f3, dead_f4]
 kernel_rfl
theorem dead_g1 : Rows.subsetDeadRow.wfByText (OpenSpec.ofChange Rows.subsetDeadSpec) = true := by kernel_rfl
theorem dead_g2 : Tryz.pinned.checked.prog.mainIs = some (true, "9cadb913c3df5cd22fc853ab64821f718f6daee1cd8cf9cf671f367539602c50".toList) := by kernel_rfl
theorem dead_g3 : true = Tryz.pinned.checked.prog.looks [] := by kernel_rfl
theorem dead_g4 : false = Rows.subsetDeadRow.goesBy Tryz.pinned.checked.prog := by kernel_rfl
theorem dead_g5 : Tryz.pinned.checked.prog.funcNamed "hornbook/hornbooklaw14.SubsetDead" = some 3 := by kernel_rfl
theorem dead_g6 : ([25].all fun u => !Tryz.pinned.checked.prog.wantsStandIn u) = true := by kernel_rfl
end Go.Proofs.YtgngaldoemopjaaGreatDoor
