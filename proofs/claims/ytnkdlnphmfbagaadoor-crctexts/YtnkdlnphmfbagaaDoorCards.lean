/-
  DERIVED. GIVEN WITH THE SEED: THE CARDS: each row of YtnkdlnphmfbagaaDoorRows.lean that lists a variable, with what it lists TIED to the program's text (the seventh form; the later family's looks); each row that meets fmt, with fmt's text TOLD by the authors' own Lean function (tested against real Go, not proved from fmt's source: count such statements apart). THE CARD IS WHAT COUNTS. Prove the row's statement (the work); the ties are given (YtnkdlnphmfbagaaDoorTie.lean); close each card by the builder's one call (the guide's Derived/Test/ToyasCard.lean, 'card_holds'). Laid BY PROGRAM, IN A SANDBOX (cutbox-door.mjs). By AI agents, Wed Nov 11 2026. No macro, syntax, notation, axiom, sorry.
-/
import Derived.Test.YtnkdlnphmfbagaaDoorRows
import GoSem.ClaimSeven
namespace Go.Proofs.YtnkdlnphmfbagaaDoor
namespace Rows

/-- THE TIED CARD OF 'hornbooklaw1.CrcTells'. -/
def crcTellsCard : Claim7 := { stood := { row := crcTellsRow, standIns := [], harness := (true, "212d652ddf80a3a4a6953a339bf27e7d5aef141b7fb82d8b5fb3d40a6565baa6"), looks := false }, kinds := [], alts := [], laidByText := true, laidKinds := [.data], laidTests := true, laidLooks := .later }
def CrcTellsCardSaid : Prop := Claim7.holds Tryd.pinned (.plain (OpenSpec.ofChange crcTellsSpec)) crcTellsCard

/-- THE TIED CARD OF 'hornbooklaw1.CrcTexts'. -/
def crcTextsCard : Claim7 := { stood := { row := crcTextsRow, standIns := [], harness := (true, "212d652ddf80a3a4a6953a339bf27e7d5aef141b7fb82d8b5fb3d40a6565baa6"), looks := false }, kinds := [], alts := [], laidByText := true, laidKinds := [.data], laidTests := true, laidLooks := .later }
def CrcTextsCardSaid : Prop := Claim7.holds Tryd.pinned (.plain (OpenSpec.ofChange crcTextsSpec)) crcTextsCard

/-- THE TIED CARD OF 'hornbooklaw1.CrcFinds'. -/
def crcFindsCard : Claim7 := { stood := { row := crcFindsRow, standIns := [], harness := (true, "212d652ddf80a3a4a6953a339bf27e7d5aef141b7fb82d8b5fb3d40a6565baa6"), looks := false }, kinds := [], alts := [], laidByText := true, laidKinds := [.data], laidTests := true, laidLooks := .later }
def CrcFindsCardSaid : Prop := Claim7.holds Tryd.pinned (.plain (OpenSpec.ofChange crcFindsSpec)) crcFindsCard

/-- THE TIED CARD OF 'hornbooklaw1.CrcRows'. -/
def crcRowsCard : Claim7 := { stood := { row := crcRowsRow, standIns := [], harness := (true, "212d652ddf80a3a4a6953a339bf27e7d5aef141b7fb82d8b5fb3d40a6565baa6"), looks := false }, kinds := [], alts := [], laidByText := true, laidKinds := [.data], laidTests := true, laidLooks := .later }
def CrcRowsCardSaid : Prop := Claim7.holds Tryd.pinned (.plain (OpenSpec.ofChange crcRowsSpec)) crcRowsCard

/-- THE TIED CARD OF 'hornbooklaw1.CrcParts'. -/
def crcPartsCard : Claim7 := { stood := { row := crcPartsRow, standIns := [], harness := (true, "212d652ddf80a3a4a6953a339bf27e7d5aef141b7fb82d8b5fb3d40a6565baa6"), looks := false }, kinds := [], alts := [], laidByText := true, laidKinds := [.data], laidTests := true, laidLooks := .later }
def CrcPartsCardSaid : Prop := Claim7.holds Tryd.pinned (.plain (OpenSpec.ofChange crcPartsSpec)) crcPartsCard

/-- THE TIED CARD OF 'hornbooklaw1.CrcShort'. -/
def crcShortCard : Claim7 := { stood := { row := crcShortRow, standIns := [], harness := (true, "212d652ddf80a3a4a6953a339bf27e7d5aef141b7fb82d8b5fb3d40a6565baa6"), looks := false }, kinds := [], alts := [], laidByText := true, laidKinds := [.data], laidTests := true, laidLooks := .later }
def CrcShortCardSaid : Prop := Claim7.holds Tryd.pinned (.plain (OpenSpec.ofChange crcShortSpec)) crcShortCard

/-- THE SECOND FORM's CARD OF 'hornbooklaw1.CrcTells'. -/
def crcTellsUptoCard : Claim7 := { stood := { row := crcTellsUptoRow, standIns := [], harness := (true, "212d652ddf80a3a4a6953a339bf27e7d5aef141b7fb82d8b5fb3d40a6565baa6"), looks := false }, kinds := [], alts := [], laidByText := true, laidKinds := [.data], laidTests := true, laidLooks := .later }
def CrcTellsUptoCardSaid : Prop := Claim7.holds Tryd.pinned (.plain (OpenSpec.upto crcTellsSpec)) crcTellsUptoCard

/-- THE SECOND FORM's CARD OF 'hornbooklaw1.CrcTexts'. -/
def crcTextsUptoCard : Claim7 := { stood := { row := crcTextsUptoRow, standIns := [], harness := (true, "212d652ddf80a3a4a6953a339bf27e7d5aef141b7fb82d8b5fb3d40a6565baa6"), looks := false }, kinds := [], alts := [], laidByText := true, laidKinds := [.data], laidTests := true, laidLooks := .later }
def CrcTextsUptoCardSaid : Prop := Claim7.holds Tryd.pinned (.plain (OpenSpec.upto crcTextsSpec)) crcTextsUptoCard

/-- THE SECOND FORM's CARD OF 'hornbooklaw1.CrcFinds'. -/
def crcFindsUptoCard : Claim7 := { stood := { row := crcFindsUptoRow, standIns := [], harness := (true, "212d652ddf80a3a4a6953a339bf27e7d5aef141b7fb82d8b5fb3d40a6565baa6"), looks := false }, kinds := [], alts := [], laidByText := true, laidKinds := [.data], laidTests := true, laidLooks := .later }
def CrcFindsUptoCardSaid : Prop := Claim7.holds Tryd.pinned (.plain (OpenSpec.upto crcFindsSpec)) crcFindsUptoCard

/-- THE SECOND FORM's CARD OF 'hornbooklaw1.CrcRows'. -/
def crcRowsUptoCard : Claim7 := { stood := { row := crcRowsUptoRow, standIns := [], harness := (true, "212d652ddf80a3a4a6953a339bf27e7d5aef141b7fb82d8b5fb3d40a6565baa6"), looks := false }, kinds := [], alts := [], laidByText := true, laidKinds := [.data], laidTests := true, laidLooks := .later }
def CrcRowsUptoCardSaid : Prop := Claim7.holds Tryd.pinned (.plain (OpenSpec.upto crcRowsSpec)) crcRowsUptoCard

/-- THE SECOND FORM's CARD OF 'hornbooklaw1.CrcParts'. -/
def crcPartsUptoCard : Claim7 := { stood := { row := crcPartsUptoRow, standIns := [], harness := (true, "212d652ddf80a3a4a6953a339bf27e7d5aef141b7fb82d8b5fb3d40a6565baa6"), looks := false }, kinds := [], alts := [], laidByText := true, laidKinds := [.data], laidTests := true, laidLooks := .later }
def CrcPartsUptoCardSaid : Prop := Claim7.holds Tryd.pinned (.plain (OpenSpec.upto crcPartsSpec)) crcPartsUptoCard

/-- THE SECOND FORM's CARD OF 'hornbooklaw1.CrcShort'. -/
def crcShortUptoCard : Claim7 := { stood := { row := crcShortUptoRow, standIns := [], harness := (true, "212d652ddf80a3a4a6953a339bf27e7d5aef141b7fb82d8b5fb3d40a6565baa6"), looks := false }, kinds := [], alts := [], laidByText := true, laidKinds := [.data], laidTests := true, laidLooks := .later }
def CrcShortUptoCardSaid : Prop := Claim7.holds Tryd.pinned (.plain (OpenSpec.upto crcShortSpec)) crcShortUptoCard
end Rows
end Go.Proofs.YtnkdlnphmfbagaaDoor
