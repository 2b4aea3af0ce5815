/- Joined: Nfw. -/
import Derived.Test.YtgngaldoemopjaaGreatDoorFBsb
import Derived.Test.YtgngaldoemopjaaGreatDoorTie
import Derived.Test.YtgngaldoemopjaaGreatDoorCards
import Derived.SevenTiedAt
namespace Go.Proofs.YtgngaldoemopjaaGreatDoor
open Go.ChangeShapes Go.WideShapes Go.ChangeAt Go.RowKit
theorem word_f1 : (Rows.subsetWordRow.inPlace == Tryz.pinned.checked.prog.inPlace 7) = true := by kernel_rfl
theorem word_f2 : (Rows.subsetWordRow.unfollowed == Tryz.pinned.checked.prog.unfollowed 7) = true := by kernel_rfl
theorem word_f3 : (Rows.subsetWordRow.recurses == Tryz.pinned.checked.prog.recurses 7) = true := by kernel_rfl
theorem word_f4 : (Rows.subsetWordRow.named == Tryz.pinned.checked.prog.varsNamed 7) = true := by kernel_rfl
theorem word_facts : joinedFacts Tryz.pinned.checked.prog 7 Tryz.f7 Rows.subsetWordSpec Rows.subsetWordRow = true := by
 unfold joinedFacts
 rw [word_f1, word_f2, word_f3, word_f4]
 kernel_rfl
theorem word_g1 : Rows.subsetWordRow.wfByText (OpenSpec.ofChange Rows.subsetWordSpec) = true := by kernel_rfl
theorem word_g2 : Tryz.pinned.checked.prog.mainIs = some (true, "9cadb913c3df5cd22fc853ab64821f718f6daee1cd8cf9cf671f367539602c50".toList) := by kernel_rfl
theorem word_g3 : true = Tryz.pinned.checked.prog.looks [] := by kernel_rfl
theorem word_g4 : false = Rows.subsetWordRow.goesBy Tryz.pinned.checked.prog := by kernel_rfl
theorem word_g5 : Tryz.pinned.checked.prog.funcNamed "hornbook/hornbooklaw14.SubsetWord" = some 7 := by kernel_rfl
theorem word_g6 : ([63].all fun u => !Tryz.pinned.checked.prog.wantsStandIn u) = true := by kernel_rfl
end Go.Proofs.YtgngaldoemopjaaGreatDoor
