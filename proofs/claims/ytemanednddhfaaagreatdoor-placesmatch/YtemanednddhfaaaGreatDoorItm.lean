/- item of regex's reader. -/
import Derived.Test.YtemanednddhfaaaGreatDoorSpn
import Derived.Test.YtemanednddhfaaaGreatDoorJG
namespace Go.Proofs.YtemanednddhfaaaGreatDoor
open Go.RowKit
open E (T tk isS rpt beg)
end Go.Proofs.YtemanednddhfaaaGreatDoor
