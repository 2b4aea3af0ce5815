/- Joined: Nfn. -/
import Derived.Test.YtemanednddhfaaaGreatDoorMWbr
import Derived.Test.YtemanednddhfaaaGreatDoorTie
import Derived.Test.YtemanednddhfaaaGreatDoorCards
import Derived.SevenTiedAt
namespace Go.Proofs.YtemanednddhfaaaGreatDoor
open Go.ChangeShapes Go.WideShapes Go.ChangeAt Go.RowKit
theorem mtells_f1 : (Rows.matchTellsRow.inPlace == Tryz.pinned.checked.prog.inPlace 8) = true := by kernel_rfl
theorem mtells_f2 : (Rows.matchTellsRow.unfollowed == Tryz.pinned.checked.prog.unfollowed 8) = true := by kernel_rfl
theorem mtells_f3 : (Rows.matchTellsRow.recurses == Tryz.pinned.checked.prog.recurses 8) = true := by kernel_rfl
theorem mtells_f4 : (Rows.matchTellsRow.named == Tryz.pinned.checked.prog.varsNamed 8) = true := by kernel_rfl
theorem mtells_facts : joinedFacts Tryz.pinned.checked.prog 8 Tryz.f8 Rows.matchTellsSpec Rows.matchTellsRow = true := by
 unfold joinedFacts
 rw [mtells_f1, mtells_f2, mtells_f3, mtells_f4]
 kernel_rfl
theorem mtells_g1 : Rows.matchTellsRow.wfByText (OpenSpec.ofChange Rows.matchTellsSpec) = true := by kernel_rfl
theorem mtells_g2 : Tryz.pinned.checked.prog.mainIs = some (true, "3b88c1e0a524869b7836d0d96696908482ba902c5506b549e750c1ebc2fff995".toList) := by kernel_rfl
theorem mtells_g3 : true = Tryz.pinned.checked.prog.looks [] := by kernel_rfl
theorem mtells_g4 : false = Rows.matchTellsRow.goesBy Tryz.pinned.checked.prog := by kernel_rfl
theorem mtells_g5 : Tryz.pinned.checked.prog.funcNamed "hornbook/hornbooklaw8.MatchTells" = some 8 := by kernel_rfl
theorem mtells_g6 : ([26, 53, 3].all fun u => !Tryz.pinned.checked.prog.wantsStandIn u) = true := by kernel_rfl
end Go.Proofs.YtemanednddhfaaaGreatDoor
