/- RegexNames: what its card says of the program, piece by piece. -/
import Derived.Test.YteaaijhppmkfeaaGreatDoorBase
import Derived.Test.YteaaijhppmkfeaaGreatDoorTie
import Derived.Test.YteaaijhppmkfeaaGreatDoorCards
import Derived.SevenTiedAt
namespace Go.Proofs.YteaaijhppmkfeaaGreatDoor
open Go.ChangeShapes Go.WideShapes Go.ChangeAt Go.RowKit
theorem names_g1 : Rows.regexNamesRow.wfByText (OpenSpec.ofChange Rows.regexNamesSpec) = true := by kernel_rfl
theorem names_g2 : Tryz.pinned.checked.prog.mainIs = some (true, "80850bd2cc7d9ae1b8a748ddf4039f74a96b99c4a343cc0fc5d3eb535a9139b4".toList) := by kernel_rfl
theorem names_g3 : true = Tryz.pinned.checked.prog.looks [] := by kernel_rfl
theorem names_g4 : false = Rows.regexNamesRow.goesBy Tryz.pinned.checked.prog := by kernel_rfl
theorem names_g5 : Tryz.pinned.checked.prog.funcNamed "hornbook/hornbooklaw7.RegexNames" = some 5 := by kernel_rfl
theorem names_g6 : ([41].all fun u => !Tryz.pinned.checked.prog.wantsStandIn u) = true := by kernel_rfl
end Go.Proofs.YteaaijhppmkfeaaGreatDoor
