/-
  DERIVED. GIVEN WITH THE SEED: THE CARDS: each row of YtgngaldoemopjaaGreatDoorRows.lean that lists a variable, with what it lists TIED to the program's text (the seventh form; the later family's looks); each row that meets fmt, with fmt's text TOLD by the authors' own Lean function (tested against real Go, not proved from fmt's source: count such statements apart). THE CARD IS WHAT COUNTS. Prove the row's statement (the work); the ties are given (YtgngaldoemopjaaGreatDoorTie.lean); close each card by the builder's one call (the guide's Derived/Test/ToyasCard.lean, 'card_holds'). Laid BY PROGRAM, IN A SANDBOX (cutbox-door.mjs). By AI agents, Wed Nov 11 2026. No macro, syntax, notation, axiom, sorry.
-/
import Derived.Test.YtgngaldoemopjaaGreatDoorRows
import GoSem.ClaimSeven
namespace Go.Proofs.YtgngaldoemopjaaGreatDoor
namespace Rows

/-- THE TIED CARD OF 'hornbooklaw14.SubsetDead'. -/
def subsetDeadCard : Claim7 := { stood := { row := subsetDeadRow, standIns := [], harness := (true, "9cadb913c3df5cd22fc853ab64821f718f6daee1cd8cf9cf671f367539602c50"), looks := true }, kinds := [], alts := [], laidByText := true, laidKinds := [.data, .data, .data, .data, .sentinel, .sentinel, .pinned], laidTests := true, laidLooks := .later }
def SubsetDeadCardSaid : Prop := Claim7.holds Tryz.pinned (.plain (OpenSpec.ofChange subsetDeadSpec)) subsetDeadCard

/-- THE TIED CARD OF 'hornbooklaw14.SubsetTells'. -/
def subsetTellsCard : Claim7 := { stood := { row := subsetTellsRow, standIns := [], harness := (true, "9cadb913c3df5cd22fc853ab64821f718f6daee1cd8cf9cf671f367539602c50"), looks := true }, kinds := [], alts := [], laidByText := true, laidKinds := [.data, .data, .data, .data, .sentinel, .sentinel, .pinned], laidTests := true, laidLooks := .later }
def SubsetTellsCardSaid : Prop := Claim7.holds Tryz.pinned (.plain (OpenSpec.ofChange subsetTellsSpec)) subsetTellsCard

/-- THE TIED CARD OF 'hornbooklaw14.SubsetSame'. -/
def subsetSameCard : Claim7 := { stood := { row := subsetSameRow, standIns := [], harness := (true, "9cadb913c3df5cd22fc853ab64821f718f6daee1cd8cf9cf671f367539602c50"), looks := true }, kinds := [], alts := [], laidByText := true, laidKinds := [.data, .data, .data, .data, .sentinel, .sentinel, .pinned], laidTests := true, laidLooks := .later }
def SubsetSameCardSaid : Prop := Claim7.holds Tryz.pinned (.plain (OpenSpec.ofChange subsetSameSpec)) subsetSameCard

/-- THE TIED CARD OF 'hornbooklaw14.SubsetMany'. -/
def subsetManyCard : Claim7 := { stood := { row := subsetManyRow, standIns := [], harness := (true, "9cadb913c3df5cd22fc853ab64821f718f6daee1cd8cf9cf671f367539602c50"), looks := true }, kinds := [], alts := [], laidByText := true, laidKinds := [.data, .data, .data, .data, .sentinel, .sentinel, .pinned], laidTests := true, laidLooks := .later }
def SubsetManyCardSaid : Prop := Claim7.holds Tryz.pinned (.plain (OpenSpec.ofChange subsetManySpec)) subsetManyCard

/-- THE TIED CARD OF 'hornbooklaw14.SubsetWord'. -/
def subsetWordCard : Claim7 := { stood := { row := subsetWordRow, standIns := [], harness := (true, "9cadb913c3df5cd22fc853ab64821f718f6daee1cd8cf9cf671f367539602c50"), looks := true }, kinds := [], alts := [], laidByText := true, laidKinds := [.data, .data, .data, .data, .sentinel, .sentinel, .pinned], laidTests := true, laidLooks := .later }
def SubsetWordCardSaid : Prop := Claim7.holds Tryz.pinned (.plain (OpenSpec.ofChange subsetWordSpec)) subsetWordCard

/-- THE SECOND FORM's CARD OF 'hornbooklaw14.SubsetDead'. -/
def subsetDeadUptoCard : Claim7 := { stood := { row := subsetDeadUptoRow, standIns := [], harness := (true, "9cadb913c3df5cd22fc853ab64821f718f6daee1cd8cf9cf671f367539602c50"), looks := true }, kinds := [], alts := [], laidByText := true, laidKinds := [.data, .data, .data, .data, .sentinel, .sentinel, .pinned], laidTests := true, laidLooks := .later }
def SubsetDeadUptoCardSaid : Prop := Claim7.holds Tryz.pinned (.plain (OpenSpec.upto subsetDeadSpec)) subsetDeadUptoCard

/-- THE SECOND FORM's CARD OF 'hornbooklaw14.SubsetTells'. -/
def subsetTellsUptoCard : Claim7 := { stood := { row := subsetTellsUptoRow, standIns := [], harness := (true, "9cadb913c3df5cd22fc853ab64821f718f6daee1cd8cf9cf671f367539602c50"), looks := true }, kinds := [], alts := [], laidByText := true, laidKinds := [.data, .data, .data, .data, .sentinel, .sentinel, .pinned], laidTests := true, laidLooks := .later }
def SubsetTellsUptoCardSaid : Prop := Claim7.holds Tryz.pinned (.plain (OpenSpec.upto subsetTellsSpec)) subsetTellsUptoCard

/-- THE SECOND FORM's CARD OF 'hornbooklaw14.SubsetSame'. -/
def subsetSameUptoCard : Claim7 := { stood := { row := subsetSameUptoRow, standIns := [], harness := (true, "9cadb913c3df5cd22fc853ab64821f718f6daee1cd8cf9cf671f367539602c50"), looks := true }, kinds := [], alts := [], laidByText := true, laidKinds := [.data, .data, .data, .data, .sentinel, .sentinel, .pinned], laidTests := true, laidLooks := .later }
def SubsetSameUptoCardSaid : Prop := Claim7.holds Tryz.pinned (.plain (OpenSpec.upto subsetSameSpec)) subsetSameUptoCard

/-- THE SECOND FORM's CARD OF 'hornbooklaw14.SubsetMany'. -/
def subsetManyUptoCard : Claim7 := { stood := { row := subsetManyUptoRow, standIns := [], harness := (true, "9cadb913c3df5cd22fc853ab64821f718f6daee1cd8cf9cf671f367539602c50"), looks := true }, kinds := [], alts := [], laidByText := true, laidKinds := [.data, .data, .data, .data, .sentinel, .sentinel, .pinned], laidTests := true, laidLooks := .later }
def SubsetManyUptoCardSaid : Prop := Claim7.holds Tryz.pinned (.plain (OpenSpec.upto subsetManySpec)) subsetManyUptoCard

/-- THE SECOND FORM's CARD OF 'hornbooklaw14.SubsetWord'. -/
def subsetWordUptoCard : Claim7 := { stood := { row := subsetWordUptoRow, standIns := [], harness := (true, "9cadb913c3df5cd22fc853ab64821f718f6daee1cd8cf9cf671f367539602c50"), looks := true }, kinds := [], alts := [], laidByText := true, laidKinds := [.data, .data, .data, .data, .sentinel, .sentinel, .pinned], laidTests := true, laidLooks := .later }
def SubsetWordUptoCardSaid : Prop := Claim7.holds Tryz.pinned (.plain (OpenSpec.upto subsetWordSpec)) subsetWordUptoCard
end Rows
end Go.Proofs.YtgngaldoemopjaaGreatDoor
