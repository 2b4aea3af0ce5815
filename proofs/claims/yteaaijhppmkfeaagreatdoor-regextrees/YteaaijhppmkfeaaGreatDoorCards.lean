/-
  DERIVED. GIVEN WITH THE SEED: THE CARDS: each row of YteaaijhppmkfeaaGreatDoorRows.lean that lists a variable, with what it lists TIED to the program's text (the seventh form; the later family's looks); each row that meets fmt, with fmt's text TOLD by the authors' own Lean function (tested against real Go, not proved from fmt's source: count such statements apart). THE CARD IS WHAT COUNTS. Prove the row's statement (the work); the ties are given (YteaaijhppmkfeaaGreatDoorTie.lean); close each card by the builder's one call (the guide's Derived/Test/ToyasCard.lean, 'card_holds'). Laid BY PROGRAM, IN A SANDBOX (cutbox-door.mjs). By AI agents, Wed Nov 11 2026. No macro, syntax, notation, axiom, sorry.
-/
import Derived.Test.YteaaijhppmkfeaaGreatDoorRows
import GoSem.ClaimSeven
namespace Go.Proofs.YteaaijhppmkfeaaGreatDoor
namespace Rows

/-- THE TIED CARD OF 'hornbooklaw7.RegexTells'. -/
def regexTellsCard : Claim7 := { stood := { row := regexTellsRow, standIns := [], harness := (true, "80850bd2cc7d9ae1b8a748ddf4039f74a96b99c4a343cc0fc5d3eb535a9139b4"), looks := true }, kinds := [], alts := [], laidByText := true, laidKinds := [.data, .data, .data, .data, .sentinel, .sentinel, .pinned, .pinned], laidTests := true, laidLooks := .later }
def RegexTellsCardSaid : Prop := Claim7.holds Tryz.pinned (.plain (OpenSpec.ofChange regexTellsSpec)) regexTellsCard

/-- THE TIED CARD OF 'hornbooklaw7.RegexTrees'. -/
def regexTreesCard : Claim7 := { stood := { row := regexTreesRow, standIns := [], harness := (true, "80850bd2cc7d9ae1b8a748ddf4039f74a96b99c4a343cc0fc5d3eb535a9139b4"), looks := true }, kinds := [], alts := [], laidByText := true, laidKinds := [.data, .data, .data, .data, .sentinel, .sentinel, .pinned, .pinned], laidTests := true, laidLooks := .later }
def RegexTreesCardSaid : Prop := Claim7.holds Tryz.pinned (.plain (OpenSpec.ofChange regexTreesSpec)) regexTreesCard

/-- THE TIED CARD OF 'hornbooklaw7.RegexNames'. -/
def regexNamesCard : Claim7 := { stood := { row := regexNamesRow, standIns := [], harness := (true, "80850bd2cc7d9ae1b8a748ddf4039f74a96b99c4a343cc0fc5d3eb535a9139b4"), looks := true }, kinds := [], alts := [], laidByText := true, laidKinds := [.data, .data, .data, .data, .sentinel, .sentinel, .pinned, .pinned], laidTests := true, laidLooks := .later }
def RegexNamesCardSaid : Prop := Claim7.holds Tryz.pinned (.plain (OpenSpec.ofChange regexNamesSpec)) regexNamesCard

/-- THE TIED CARD OF 'hornbooklaw8.MatchTells'. -/
def matchTellsCard : Claim7 := { stood := { row := matchTellsRow, standIns := [], harness := (true, "80850bd2cc7d9ae1b8a748ddf4039f74a96b99c4a343cc0fc5d3eb535a9139b4"), looks := true }, kinds := [], alts := [], laidByText := true, laidKinds := [.data, .data, .data, .data, .sentinel, .sentinel, .pinned], laidTests := true, laidLooks := .later }
def MatchTellsCardSaid : Prop := Claim7.holds Tryz.pinned (.plain (OpenSpec.ofChange matchTellsSpec)) matchTellsCard

/-- THE TIED CARD OF 'hornbooklaw8.MatchFills'. -/
def matchFillsCard : Claim7 := { stood := { row := matchFillsRow, standIns := [], harness := (true, "80850bd2cc7d9ae1b8a748ddf4039f74a96b99c4a343cc0fc5d3eb535a9139b4"), looks := true }, kinds := [], alts := [], laidByText := true, laidKinds := [.data, .data, .data, .data, .sentinel, .sentinel, .pinned], laidTests := true, laidLooks := .later }
def MatchFillsCardSaid : Prop := Claim7.holds Tryz.pinned (.plain (OpenSpec.ofChange matchFillsSpec)) matchFillsCard

/-- THE TIED CARD OF 'hornbooklaw8.MatchParts'. -/
def matchPartsCard : Claim7 := { stood := { row := matchPartsRow, standIns := [], harness := (true, "80850bd2cc7d9ae1b8a748ddf4039f74a96b99c4a343cc0fc5d3eb535a9139b4"), looks := true }, kinds := [], alts := [], laidByText := true, laidKinds := [.data, .data, .data, .data, .sentinel, .sentinel, .pinned], laidTests := true, laidLooks := .later }
def MatchPartsCardSaid : Prop := Claim7.holds Tryz.pinned (.plain (OpenSpec.ofChange matchPartsSpec)) matchPartsCard

/-- THE TIED CARD OF 'hornbooklaw8.MatchPlaces'. -/
def matchPlacesCard : Claim7 := { stood := { row := matchPlacesRow, standIns := [], harness := (true, "80850bd2cc7d9ae1b8a748ddf4039f74a96b99c4a343cc0fc5d3eb535a9139b4"), looks := true }, kinds := [], alts := [], laidByText := true, laidKinds := [.data, .data, .data, .data, .sentinel, .sentinel, .pinned], laidTests := true, laidLooks := .later }
def MatchPlacesCardSaid : Prop := Claim7.holds Tryz.pinned (.plain (OpenSpec.ofChange matchPlacesSpec)) matchPlacesCard

/-- THE TIED CARD OF 'hornbooklaw8.MatchLaws'. -/
def matchLawsCard : Claim7 := { stood := { row := matchLawsRow, standIns := [], harness := (true, "80850bd2cc7d9ae1b8a748ddf4039f74a96b99c4a343cc0fc5d3eb535a9139b4"), looks := true }, kinds := [], alts := [], laidByText := true, laidKinds := [.data, .data, .data, .data, .sentinel, .sentinel, .pinned], laidTests := true, laidLooks := .later }
def MatchLawsCardSaid : Prop := Claim7.holds Tryz.pinned (.plain (OpenSpec.ofChange matchLawsSpec)) matchLawsCard

/-- THE TIED CARD OF 'hornbooklaw8.MatchWord'. -/
def matchWordCard : Claim7 := { stood := { row := matchWordRow, standIns := [], harness := (true, "80850bd2cc7d9ae1b8a748ddf4039f74a96b99c4a343cc0fc5d3eb535a9139b4"), looks := true }, kinds := [], alts := [], laidByText := true, laidKinds := [.data, .data, .data, .data, .sentinel, .sentinel, .pinned], laidTests := true, laidLooks := .later }
def MatchWordCardSaid : Prop := Claim7.holds Tryz.pinned (.plain (OpenSpec.ofChange matchWordSpec)) matchWordCard

/-- THE TIED CARD OF 'hornbooklaw8.MatchCounts'. -/
def matchCountsCard : Claim7 := { stood := { row := matchCountsRow, standIns := [], harness := (true, "80850bd2cc7d9ae1b8a748ddf4039f74a96b99c4a343cc0fc5d3eb535a9139b4"), looks := true }, kinds := [], alts := [], laidByText := true, laidKinds := [.data, .data, .data, .data, .sentinel, .sentinel, .pinned], laidTests := true, laidLooks := .later }
def MatchCountsCardSaid : Prop := Claim7.holds Tryz.pinned (.plain (OpenSpec.ofChange matchCountsSpec)) matchCountsCard

/-- THE SECOND FORM's CARD OF 'hornbooklaw7.RegexTells'. -/
def regexTellsUptoCard : Claim7 := { stood := { row := regexTellsUptoRow, standIns := [], harness := (true, "80850bd2cc7d9ae1b8a748ddf4039f74a96b99c4a343cc0fc5d3eb535a9139b4"), looks := true }, kinds := [], alts := [], laidByText := true, laidKinds := [.data, .data, .data, .data, .sentinel, .sentinel, .pinned, .pinned], laidTests := true, laidLooks := .later }
def RegexTellsUptoCardSaid : Prop := Claim7.holds Tryz.pinned (.plain (OpenSpec.upto regexTellsSpec)) regexTellsUptoCard

/-- THE SECOND FORM's CARD OF 'hornbooklaw7.RegexTrees'. -/
def regexTreesUptoCard : Claim7 := { stood := { row := regexTreesUptoRow, standIns := [], harness := (true, "80850bd2cc7d9ae1b8a748ddf4039f74a96b99c4a343cc0fc5d3eb535a9139b4"), looks := true }, kinds := [], alts := [], laidByText := true, laidKinds := [.data, .data, .data, .data, .sentinel, .sentinel, .pinned, .pinned], laidTests := true, laidLooks := .later }
def RegexTreesUptoCardSaid : Prop := Claim7.holds Tryz.pinned (.plain (OpenSpec.upto regexTreesSpec)) regexTreesUptoCard

/-- THE SECOND FORM's CARD OF 'hornbooklaw7.RegexNames'. -/
def regexNamesUptoCard : Claim7 := { stood := { row := regexNamesUptoRow, standIns := [], harness := (true, "80850bd2cc7d9ae1b8a748ddf4039f74a96b99c4a343cc0fc5d3eb535a9139b4"), looks := true }, kinds := [], alts := [], laidByText := true, laidKinds := [.data, .data, .data, .data, .sentinel, .sentinel, .pinned, .pinned], laidTests := true, laidLooks := .later }
def RegexNamesUptoCardSaid : Prop := Claim7.holds Tryz.pinned (.plain (OpenSpec.upto regexNamesSpec)) regexNamesUptoCard

/-- THE SECOND FORM's CARD OF 'hornbooklaw8.MatchTells'. -/
def matchTellsUptoCard : Claim7 := { stood := { row := matchTellsUptoRow, standIns := [], harness := (true, "80850bd2cc7d9ae1b8a748ddf4039f74a96b99c4a343cc0fc5d3eb535a9139b4"), looks := true }, kinds := [], alts := [], laidByText := true, laidKinds := [.data, .data, .data, .data, .sentinel, .sentinel, .pinned], laidTests := true, laidLooks := .later }
def MatchTellsUptoCardSaid : Prop := Claim7.holds Tryz.pinned (.plain (OpenSpec.upto matchTellsSpec)) matchTellsUptoCard

/-- THE SECOND FORM's CARD OF 'hornbooklaw8.MatchFills'. -/
def matchFillsUptoCard : Claim7 := { stood := { row := matchFillsUptoRow, standIns := [], harness := (true, "80850bd2cc7d9ae1b8a748ddf4039f74a96b99c4a343cc0fc5d3eb535a9139b4"), looks := true }, kinds := [], alts := [], laidByText := true, laidKinds := [.data, .data, .data, .data, .sentinel, .sentinel, .pinned], laidTests := true, laidLooks := .later }
def MatchFillsUptoCardSaid : Prop := Claim7.holds Tryz.pinned (.plain (OpenSpec.upto matchFillsSpec)) matchFillsUptoCard

/-- THE SECOND FORM's CARD OF 'hornbooklaw8.MatchParts'. -/
def matchPartsUptoCard : Claim7 := { stood := { row := matchPartsUptoRow, standIns := [], harness := (true, "80850bd2cc7d9ae1b8a748ddf4039f74a96b99c4a343cc0fc5d3eb535a9139b4"), looks := true }, kinds := [], alts := [], laidByText := true, laidKinds := [.data, .data, .data, .data, .sentinel, .sentinel, .pinned], laidTests := true, laidLooks := .later }
def MatchPartsUptoCardSaid : Prop := Claim7.holds Tryz.pinned (.plain (OpenSpec.upto matchPartsSpec)) matchPartsUptoCard

/-- THE SECOND FORM's CARD OF 'hornbooklaw8.MatchPlaces'. -/
def matchPlacesUptoCard : Claim7 := { stood := { row := matchPlacesUptoRow, standIns := [], harness := (true, "80850bd2cc7d9ae1b8a748ddf4039f74a96b99c4a343cc0fc5d3eb535a9139b4"), looks := true }, kinds := [], alts := [], laidByText := true, laidKinds := [.data, .data, .data, .data, .sentinel, .sentinel, .pinned], laidTests := true, laidLooks := .later }
def MatchPlacesUptoCardSaid : Prop := Claim7.holds Tryz.pinned (.plain (OpenSpec.upto matchPlacesSpec)) matchPlacesUptoCard

/-- THE SECOND FORM's CARD OF 'hornbooklaw8.MatchLaws'. -/
def matchLawsUptoCard : Claim7 := { stood := { row := matchLawsUptoRow, standIns := [], harness := (true, "80850bd2cc7d9ae1b8a748ddf4039f74a96b99c4a343cc0fc5d3eb535a9139b4"), looks := true }, kinds := [], alts := [], laidByText := true, laidKinds := [.data, .data, .data, .data, .sentinel, .sentinel, .pinned], laidTests := true, laidLooks := .later }
def MatchLawsUptoCardSaid : Prop := Claim7.holds Tryz.pinned (.plain (OpenSpec.upto matchLawsSpec)) matchLawsUptoCard

/-- THE SECOND FORM's CARD OF 'hornbooklaw8.MatchWord'. -/
def matchWordUptoCard : Claim7 := { stood := { row := matchWordUptoRow, standIns := [], harness := (true, "80850bd2cc7d9ae1b8a748ddf4039f74a96b99c4a343cc0fc5d3eb535a9139b4"), looks := true }, kinds := [], alts := [], laidByText := true, laidKinds := [.data, .data, .data, .data, .sentinel, .sentinel, .pinned], laidTests := true, laidLooks := .later }
def MatchWordUptoCardSaid : Prop := Claim7.holds Tryz.pinned (.plain (OpenSpec.upto matchWordSpec)) matchWordUptoCard

/-- THE SECOND FORM's CARD OF 'hornbooklaw8.MatchCounts'. -/
def matchCountsUptoCard : Claim7 := { stood := { row := matchCountsUptoRow, standIns := [], harness := (true, "80850bd2cc7d9ae1b8a748ddf4039f74a96b99c4a343cc0fc5d3eb535a9139b4"), looks := true }, kinds := [], alts := [], laidByText := true, laidKinds := [.data, .data, .data, .data, .sentinel, .sentinel, .pinned], laidTests := true, laidLooks := .later }
def MatchCountsUptoCardSaid : Prop := Claim7.holds Tryz.pinned (.plain (OpenSpec.upto matchCountsSpec)) matchCountsUptoCard
end Rows
end Go.Proofs.YteaaijhppmkfeaaGreatDoor
