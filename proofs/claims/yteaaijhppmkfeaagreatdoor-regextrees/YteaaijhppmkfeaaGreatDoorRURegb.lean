/- More operations in a region that draws: a load of one cell, an index into an array, a new slice. -/
import Derived.Test.YteaaijhppmkfeaaGreatDoorRUIs
namespace Go.Proofs.YteaaijhppmkfeaaGreatDoor.U
namespace Reg
open Go.RowKit
end Reg
end Go.Proofs.YteaaijhppmkfeaaGreatDoor.U
