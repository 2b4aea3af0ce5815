/- Joined: Nfz. -/
import Derived.Test.YtgngaldoemopjaaGreatDoorEWbr
import Derived.Test.YtgngaldoemopjaaGreatDoorTie
import Derived.Test.YtgngaldoemopjaaGreatDoorCards
import Derived.SevenTiedAt
namespace Go.Proofs.YtgngaldoemopjaaGreatDoor
open Go.ChangeShapes Go.WideShapes Go.ChangeAt Go.RowKit
theorem same_f1 : (Rows.subsetSameRow.inPlace == Tryz.pinned.checked.prog.inPlace 5) = true := by kernel_rfl
theorem same_f2 : (Rows.subsetSameRow.unfollowed == Tryz.pinned.checked.prog.unfollowed 5) = true := by kernel_rfl
theorem same_f3 : (Rows.subsetSameRow.recurses == Tryz.pinned.checked.prog.recurses 5) = true := by kernel_rfl
theorem same_f4 : (Rows.subsetSameRow.named == Tryz.pinned.checked.prog.varsNamed 5) = true := by kernel_rfl
theorem same_facts : joinedFacts Tryz.pinned.checked.prog 5 Tryz.f5 Rows.subsetSameSpec Rows.subsetSameRow = true := by
 unfold joinedFacts
 rw [same_f1, same_f2, same_f3, same_f4]
 kernel_rfl
theorem same_g1 : Rows.subsetSameRow.wfByText (OpenSpec.ofChange Rows.subsetSameSpec) = true := by kernel_rfl
theorem same_g2 : Tryz.pinned.checked.prog.mainIs = some (true, "9cadb913c3df5cd22fc853ab64821f718f6daee1cd8cf9cf671f367539602c50".toList) := by kernel_rfl
theorem same_g3 : true = Tryz.pinned.checked.prog.looks [] := by kernel_rfl
theorem same_g4 : false = Rows.subsetSameRow.goesBy Tryz.pinned.checked.prog := by kernel_rfl
theorem same_g5 : Tryz.pinned.checked.prog.funcNamed "hornbook/hornbooklaw14.SubsetSame" = some 5 := by kernel_rfl
theorem same_g6 : ([25, 39].all fun u => !Tryz.pinned.checked.prog.wantsStandIn u) = true := by kernel_rfl
end Go.Proofs.YtgngaldoemopjaaGreatDoor
