/- What Same answers (slices.Equal of two sets). -/
import Derived.Test.YteaaijhppmkfeaaGreatDoorRUIs
namespace Go.Proofs.YteaaijhppmkfeaaGreatDoor.U
open Go.RowKit Go.Shelf
end Go.Proofs.YteaaijhppmkfeaaGreatDoor.U
