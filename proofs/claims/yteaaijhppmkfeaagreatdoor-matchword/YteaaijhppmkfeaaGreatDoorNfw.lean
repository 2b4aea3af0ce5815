/- MatchWord: what its row says of the program, piece by piece. -/
import Derived.Test.YteaaijhppmkfeaaGreatDoorTWbt
import Derived.Test.YteaaijhppmkfeaaGreatDoorTie
import Derived.Test.YteaaijhppmkfeaaGreatDoorCards
import Derived.SevenTiedAt
namespace Go.Proofs.YteaaijhppmkfeaaGreatDoor
open Go.ChangeShapes Go.WideShapes Go.ChangeAt Go.RowKit
theorem word_f1 : (Rows.matchWordRow.inPlace == Tryz.pinned.checked.prog.inPlace 11) = true := by kernel_rfl
theorem word_f2 : (Rows.matchWordRow.unfollowed == Tryz.pinned.checked.prog.unfollowed 11) = true := by kernel_rfl
theorem word_f3 : (Rows.matchWordRow.recurses == Tryz.pinned.checked.prog.recurses 11) = true := by kernel_rfl
theorem word_f4 : (Rows.matchWordRow.named == Tryz.pinned.checked.prog.varsNamed 11) = true := by kernel_rfl
theorem word_facts : joinedFacts Tryz.pinned.checked.prog 11 Tryz.f11 Rows.matchWordSpec Rows.matchWordRow = true := by
  unfold joinedFacts
  rw [word_f1, word_f2, word_f3, word_f4]
  kernel_rfl
theorem word_g1 : Rows.matchWordRow.wfByText (OpenSpec.ofChange Rows.matchWordSpec) = true := by kernel_rfl
theorem word_g2 : Tryz.pinned.checked.prog.mainIs = some (true, "80850bd2cc7d9ae1b8a748ddf4039f74a96b99c4a343cc0fc5d3eb535a9139b4".toList) := by kernel_rfl
theorem word_g3 : true = Tryz.pinned.checked.prog.looks [] := by kernel_rfl
theorem word_g4 : false = Rows.matchWordRow.goesBy Tryz.pinned.checked.prog := by kernel_rfl
theorem word_g5 : Tryz.pinned.checked.prog.funcNamed "hornbook/hornbooklaw8.MatchWord" = some 11 := by kernel_rfl
theorem word_g6 : ([44].all fun u => !Tryz.pinned.checked.prog.wantsStandIn u) = true := by kernel_rfl
end Go.Proofs.YteaaijhppmkfeaaGreatDoor
