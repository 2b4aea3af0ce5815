/-
  DERIVED. GIVEN WITH THE SEED: THE CARDS: each row of YtamhjnemmdcniabGreatDoorRows.lean that lists a variable, with what it lists TIED to the program's text (the seventh form; the later family's looks); each row that meets fmt, with fmt's text TOLD by the authors' own Lean function (tested against real Go, not proved from fmt's source: count such statements apart). THE CARD IS WHAT COUNTS. Prove the row's statement (the work); the ties are given (YtamhjnemmdcniabGreatDoorTie.lean); close each card by the builder's one call (the guide's Derived/Test/ToyasCard.lean, 'card_holds'). Laid BY PROGRAM, IN A SANDBOX (cutbox-door.mjs). By AI agents, Wed Nov 11 2026. No macro, syntax, notation, axiom, sorry.
-/
import Derived.Test.YtamhjnemmdcniabGreatDoorRows
import GoSem.ClaimSeven
namespace Go.Proofs.YtamhjnemmdcniabGreatDoor
namespace Rows

/-- THE TIED CARD OF 'hornbooklaw7.RegexBinds'. -/
def regexBindsCard : Claim7 := { stood := { row := regexBindsRow, standIns := [], harness := (true, "b452184e2929de52f6a4ae1a6079d38b3bac20b167c1d4a3b6406edc92358521"), looks := true }, kinds := [], alts := [], laidByText := true, laidKinds := [.data, .data, .data, .data, .sentinel, .sentinel, .pinned, .pinned], laidTests := true, laidLooks := .later }
def RegexBindsCardSaid : Prop := Claim7.holds Tryz.pinned (.plain (OpenSpec.ofChange regexBindsSpec)) regexBindsCard

/-- THE TIED CARD OF 'hornbooklaw7.RegexNames'. -/
def regexNamesCard : Claim7 := { stood := { row := regexNamesRow, standIns := [], harness := (true, "b452184e2929de52f6a4ae1a6079d38b3bac20b167c1d4a3b6406edc92358521"), looks := true }, kinds := [], alts := [], laidByText := true, laidKinds := [.data, .data, .data, .data, .sentinel, .sentinel, .pinned, .pinned], laidTests := true, laidLooks := .later }
def RegexNamesCardSaid : Prop := Claim7.holds Tryz.pinned (.plain (OpenSpec.ofChange regexNamesSpec)) regexNamesCard

/-- THE SECOND FORM's CARD OF 'hornbooklaw7.RegexBinds'. -/
def regexBindsUptoCard : Claim7 := { stood := { row := regexBindsUptoRow, standIns := [], harness := (true, "b452184e2929de52f6a4ae1a6079d38b3bac20b167c1d4a3b6406edc92358521"), looks := true }, kinds := [], alts := [], laidByText := true, laidKinds := [.data, .data, .data, .data, .sentinel, .sentinel, .pinned, .pinned], laidTests := true, laidLooks := .later }
def RegexBindsUptoCardSaid : Prop := Claim7.holds Tryz.pinned (.plain (OpenSpec.upto regexBindsSpec)) regexBindsUptoCard

/-- THE SECOND FORM's CARD OF 'hornbooklaw7.RegexNames'. -/
def regexNamesUptoCard : Claim7 := { stood := { row := regexNamesUptoRow, standIns := [], harness := (true, "b452184e2929de52f6a4ae1a6079d38b3bac20b167c1d4a3b6406edc92358521"), looks := true }, kinds := [], alts := [], laidByText := true, laidKinds := [.data, .data, .data, .data, .sentinel, .sentinel, .pinned, .pinned], laidTests := true, laidLooks := .later }
def RegexNamesUptoCardSaid : Prop := Claim7.holds Tryz.pinned (.plain (OpenSpec.upto regexNamesSpec)) regexNamesUptoCard
end Rows
end Go.Proofs.YtamhjnemmdcniabGreatDoor
