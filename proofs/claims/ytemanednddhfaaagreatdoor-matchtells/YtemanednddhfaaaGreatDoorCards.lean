/-
  DERIVED. GIVEN WITH THE SEED: THE CARDS: each row of YtemanednddhfaaaGreatDoorRows.lean that lists a variable, with what it lists TIED to the program's text (the seventh form; the later family's looks); each row that meets fmt, with fmt's text TOLD by the authors' own Lean function (tested against real Go, not proved from fmt's source: count such statements apart). THE CARD IS WHAT COUNTS. Prove the row's statement (the work); the ties are given (YtemanednddhfaaaGreatDoorTie.lean); close each card by the builder's one call (the guide's Derived/Test/ToyasCard.lean, 'card_holds'). Laid BY PROGRAM, IN A SANDBOX (cutbox-door.mjs). By AI agents, Wed Nov 11 2026. No macro, syntax, notation, axiom, sorry.
-/
import Derived.Test.YtemanednddhfaaaGreatDoorRows
import GoSem.ClaimSeven
namespace Go.Proofs.YtemanednddhfaaaGreatDoor
namespace Rows

/-- THE TIED CARD OF 'hornbooklaw13.PlacesCount'. -/
def placesCountCard : Claim7 := { stood := { row := placesCountRow, standIns := [], harness := (true, "3b88c1e0a524869b7836d0d96696908482ba902c5506b549e750c1ebc2fff995"), looks := true }, kinds := [], alts := [], laidByText := true, laidKinds := [.data, .data, .data, .data, .sentinel, .sentinel, .pinned], laidTests := true, laidLooks := .later }
def PlacesCountCardSaid : Prop := Claim7.holds Tryz.pinned (.plain (OpenSpec.ofChange placesCountSpec)) placesCountCard

/-- THE TIED CARD OF 'hornbooklaw13.PlacesStars'. -/
def placesStarsCard : Claim7 := { stood := { row := placesStarsRow, standIns := [], harness := (true, "3b88c1e0a524869b7836d0d96696908482ba902c5506b549e750c1ebc2fff995"), looks := true }, kinds := [], alts := [], laidByText := true, laidKinds := [.data, .data, .data, .data, .sentinel, .sentinel, .pinned], laidTests := true, laidLooks := .later }
def PlacesStarsCardSaid : Prop := Claim7.holds Tryz.pinned (.plain (OpenSpec.ofChange placesStarsSpec)) placesStarsCard

/-- THE TIED CARD OF 'hornbooklaw13.PlacesJoin'. -/
def placesJoinCard : Claim7 := { stood := { row := placesJoinRow, standIns := [], harness := (true, "3b88c1e0a524869b7836d0d96696908482ba902c5506b549e750c1ebc2fff995"), looks := true }, kinds := [], alts := [], laidByText := true, laidKinds := [.data, .data, .data, .data, .sentinel, .sentinel, .pinned], laidTests := true, laidLooks := .later }
def PlacesJoinCardSaid : Prop := Claim7.holds Tryz.pinned (.plain (OpenSpec.ofChange placesJoinSpec)) placesJoinCard

/-- THE TIED CARD OF 'hornbooklaw13.PlacesTell'. -/
def placesTellCard : Claim7 := { stood := { row := placesTellRow, standIns := [], harness := (true, "3b88c1e0a524869b7836d0d96696908482ba902c5506b549e750c1ebc2fff995"), looks := true }, kinds := [], alts := [], laidByText := true, laidKinds := [.data, .data, .data, .data, .sentinel, .sentinel, .pinned], laidTests := true, laidLooks := .later }
def PlacesTellCardSaid : Prop := Claim7.holds Tryz.pinned (.plain (OpenSpec.ofChange placesTellSpec)) placesTellCard

/-- THE TIED CARD OF 'hornbooklaw13.PlacesMatch'. -/
def placesMatchCard : Claim7 := { stood := { row := placesMatchRow, standIns := [], harness := (true, "3b88c1e0a524869b7836d0d96696908482ba902c5506b549e750c1ebc2fff995"), looks := true }, kinds := [], alts := [], laidByText := true, laidKinds := [.data, .data, .data, .data, .sentinel, .sentinel, .pinned], laidTests := true, laidLooks := .later }
def PlacesMatchCardSaid : Prop := Claim7.holds Tryz.pinned (.plain (OpenSpec.ofChange placesMatchSpec)) placesMatchCard

/-- THE TIED CARD OF 'hornbooklaw8.MatchTells'. -/
def matchTellsCard : Claim7 := { stood := { row := matchTellsRow, standIns := [], harness := (true, "3b88c1e0a524869b7836d0d96696908482ba902c5506b549e750c1ebc2fff995"), looks := true }, kinds := [], alts := [], laidByText := true, laidKinds := [.data, .data, .data, .data, .sentinel, .sentinel, .pinned], laidTests := true, laidLooks := .later }
def MatchTellsCardSaid : Prop := Claim7.holds Tryz.pinned (.plain (OpenSpec.ofChange matchTellsSpec)) matchTellsCard

/-- THE TIED CARD OF 'hornbooklaw8.MatchFills'. -/
def matchFillsCard : Claim7 := { stood := { row := matchFillsRow, standIns := [], harness := (true, "3b88c1e0a524869b7836d0d96696908482ba902c5506b549e750c1ebc2fff995"), looks := true }, kinds := [], alts := [], laidByText := true, laidKinds := [.data, .data, .data, .data, .sentinel, .sentinel, .pinned], laidTests := true, laidLooks := .later }
def MatchFillsCardSaid : Prop := Claim7.holds Tryz.pinned (.plain (OpenSpec.ofChange matchFillsSpec)) matchFillsCard

/-- THE SECOND FORM's CARD OF 'hornbooklaw13.PlacesCount'. -/
def placesCountUptoCard : Claim7 := { stood := { row := placesCountUptoRow, standIns := [], harness := (true, "3b88c1e0a524869b7836d0d96696908482ba902c5506b549e750c1ebc2fff995"), looks := true }, kinds := [], alts := [], laidByText := true, laidKinds := [.data, .data, .data, .data, .sentinel, .sentinel, .pinned], laidTests := true, laidLooks := .later }
def PlacesCountUptoCardSaid : Prop := Claim7.holds Tryz.pinned (.plain (OpenSpec.upto placesCountSpec)) placesCountUptoCard

/-- THE SECOND FORM's CARD OF 'hornbooklaw13.PlacesStars'. -/
def placesStarsUptoCard : Claim7 := { stood := { row := placesStarsUptoRow, standIns := [], harness := (true, "3b88c1e0a524869b7836d0d96696908482ba902c5506b549e750c1ebc2fff995"), looks := true }, kinds := [], alts := [], laidByText := true, laidKinds := [.data, .data, .data, .data, .sentinel, .sentinel, .pinned], laidTests := true, laidLooks := .later }
def PlacesStarsUptoCardSaid : Prop := Claim7.holds Tryz.pinned (.plain (OpenSpec.upto placesStarsSpec)) placesStarsUptoCard

/-- THE SECOND FORM's CARD OF 'hornbooklaw13.PlacesJoin'. -/
def placesJoinUptoCard : Claim7 := { stood := { row := placesJoinUptoRow, standIns := [], harness := (true, "3b88c1e0a524869b7836d0d96696908482ba902c5506b549e750c1ebc2fff995"), looks := true }, kinds := [], alts := [], laidByText := true, laidKinds := [.data, .data, .data, .data, .sentinel, .sentinel, .pinned], laidTests := true, laidLooks := .later }
def PlacesJoinUptoCardSaid : Prop := Claim7.holds Tryz.pinned (.plain (OpenSpec.upto placesJoinSpec)) placesJoinUptoCard

/-- THE SECOND FORM's CARD OF 'hornbooklaw13.PlacesTell'. -/
def placesTellUptoCard : Claim7 := { stood := { row := placesTellUptoRow, standIns := [], harness := (true, "3b88c1e0a524869b7836d0d96696908482ba902c5506b549e750c1ebc2fff995"), looks := true }, kinds := [], alts := [], laidByText := true, laidKinds := [.data, .data, .data, .data, .sentinel, .sentinel, .pinned], laidTests := true, laidLooks := .later }
def PlacesTellUptoCardSaid : Prop := Claim7.holds Tryz.pinned (.plain (OpenSpec.upto placesTellSpec)) placesTellUptoCard

/-- THE SECOND FORM's CARD OF 'hornbooklaw13.PlacesMatch'. -/
def placesMatchUptoCard : Claim7 := { stood := { row := placesMatchUptoRow, standIns := [], harness := (true, "3b88c1e0a524869b7836d0d96696908482ba902c5506b549e750c1ebc2fff995"), looks := true }, kinds := [], alts := [], laidByText := true, laidKinds := [.data, .data, .data, .data, .sentinel, .sentinel, .pinned], laidTests := true, laidLooks := .later }
def PlacesMatchUptoCardSaid : Prop := Claim7.holds Tryz.pinned (.plain (OpenSpec.upto placesMatchSpec)) placesMatchUptoCard

/-- THE SECOND FORM's CARD OF 'hornbooklaw8.MatchTells'. -/
def matchTellsUptoCard : Claim7 := { stood := { row := matchTellsUptoRow, standIns := [], harness := (true, "3b88c1e0a524869b7836d0d96696908482ba902c5506b549e750c1ebc2fff995"), looks := true }, kinds := [], alts := [], laidByText := true, laidKinds := [.data, .data, .data, .data, .sentinel, .sentinel, .pinned], laidTests := true, laidLooks := .later }
def MatchTellsUptoCardSaid : Prop := Claim7.holds Tryz.pinned (.plain (OpenSpec.upto matchTellsSpec)) matchTellsUptoCard

/-- THE SECOND FORM's CARD OF 'hornbooklaw8.MatchFills'. -/
def matchFillsUptoCard : Claim7 := { stood := { row := matchFillsUptoRow, standIns := [], harness := (true, "3b88c1e0a524869b7836d0d96696908482ba902c5506b549e750c1ebc2fff995"), looks := true }, kinds := [], alts := [], laidByText := true, laidKinds := [.data, .data, .data, .data, .sentinel, .sentinel, .pinned], laidTests := true, laidLooks := .later }
def MatchFillsUptoCardSaid : Prop := Claim7.holds Tryz.pinned (.plain (OpenSpec.upto matchFillsSpec)) matchFillsUptoCard
end Rows
end Go.Proofs.YtemanednddhfaaaGreatDoor
