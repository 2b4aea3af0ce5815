/- MatchLaws: what its row says of the program, piece by piece. -/
import Derived.Test.YteaaijhppmkfeaaGreatDoorTWbt
import Derived.Test.YteaaijhppmkfeaaGreatDoorTie
import Derived.Test.YteaaijhppmkfeaaGreatDoorCards
import Derived.SevenTiedAt
namespace Go.Proofs.YteaaijhppmkfeaaGreatDoor
open Go.ChangeShapes Go.WideShapes Go.ChangeAt Go.RowKit
theorem laws_f1 : (Rows.matchLawsRow.inPlace == Tryz.pinned.checked.prog.inPlace 10) = true := by kernel_rfl
theorem laws_f2 : (Rows.matchLawsRow.unfollowed == Tryz.pinned.checked.prog.unfollowed 10) = true := by kernel_rfl
theorem laws_f3 : (Rows.matchLawsRow.recurses == Tryz.pinned.checked.prog.recurses 10) = true := by kernel_rfl
theorem laws_f4 : (Rows.matchLawsRow.named == Tryz.pinned.checked.prog.varsNamed 10) = true := by kernel_rfl
theorem laws_facts : joinedFacts Tryz.pinned.checked.prog 10 Tryz.f10 Rows.matchLawsSpec Rows.matchLawsRow = true := by
  unfold joinedFacts
  rw [laws_f1, laws_f2, laws_f3, laws_f4]
  kernel_rfl
theorem laws_g1 : Rows.matchLawsRow.wfByText (OpenSpec.ofChange Rows.matchLawsSpec) = true := by kernel_rfl
theorem laws_g2 : Tryz.pinned.checked.prog.mainIs = some (true, "80850bd2cc7d9ae1b8a748ddf4039f74a96b99c4a343cc0fc5d3eb535a9139b4".toList) := by kernel_rfl
theorem laws_g3 : true = Tryz.pinned.checked.prog.looks [] := by kernel_rfl
theorem laws_g4 : false = Rows.matchLawsRow.goesBy Tryz.pinned.checked.prog := by kernel_rfl
theorem laws_g5 : Tryz.pinned.checked.prog.funcNamed "hornbook/hornbooklaw8.MatchLaws" = some 10 := by kernel_rfl
theorem laws_g6 : ([26, 44].all fun u => !Tryz.pinned.checked.prog.wantsStandIn u) = true := by kernel_rfl
end Go.Proofs.YteaaijhppmkfeaaGreatDoor
