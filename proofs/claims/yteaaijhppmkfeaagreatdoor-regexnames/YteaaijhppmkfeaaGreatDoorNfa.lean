/- RegexNames: what its row says of the program, piece by piece. -/
import Derived.Test.YteaaijhppmkfeaaGreatDoorBase
import Derived.Test.YteaaijhppmkfeaaGreatDoorTie
import Derived.Test.YteaaijhppmkfeaaGreatDoorCards
import Derived.SevenTiedAt
namespace Go.Proofs.YteaaijhppmkfeaaGreatDoor
open Go.ChangeShapes Go.WideShapes Go.ChangeAt Go.RowKit
theorem names_f1 : (Rows.regexNamesRow.inPlace == Tryz.pinned.checked.prog.inPlace 5) = true := by kernel_rfl
theorem names_f2 : (Rows.regexNamesRow.unfollowed == Tryz.pinned.checked.prog.unfollowed 5) = true := by kernel_rfl
theorem names_f3 : (Rows.regexNamesRow.recurses == Tryz.pinned.checked.prog.recurses 5) = true := by kernel_rfl
theorem names_f4 : (Rows.regexNamesRow.named == Tryz.pinned.checked.prog.varsNamed 5) = true := by kernel_rfl
theorem names_facts : joinedFacts Tryz.pinned.checked.prog 5 Tryz.f5 Rows.regexNamesSpec Rows.regexNamesRow = true := by
  unfold joinedFacts
  rw [names_f1, names_f2, names_f3, names_f4]
  kernel_rfl
end Go.Proofs.YteaaijhppmkfeaaGreatDoor
