/- What RegexSets says: plain facts. -/
import Derived.Test.YteaaijhppmkfeaaGreatDoorRPsp
namespace Go.Proofs.YteaaijhppmkfeaaGreatDoor
open Go.RowKit
namespace X
end X
def sl (nt : Bool) (x y z : Int) : List E.Tok := if nt = true then [(⟨6, [91], 0⟩, 0), (⟨6, [94], 0⟩, 1), (⟨4, [], x⟩, 2), (⟨6, [45], 0⟩, 4), (⟨4, [], y⟩, 5), (⟨4, [], z⟩, 8), (⟨6, [93], 0⟩, 10), (⟨0, [], 0⟩, 11)]
 else [(⟨6, [91], 0⟩, 0), (⟨4, [], x⟩, 1), (⟨6, [45], 0⟩, 3), (⟨4, [], y⟩, 4), (⟨4, [], z⟩, 7), (⟨6, [93], 0⟩, 9), (⟨0, [], 0⟩, 10)]
end Go.Proofs.YteaaijhppmkfeaaGreatDoor
