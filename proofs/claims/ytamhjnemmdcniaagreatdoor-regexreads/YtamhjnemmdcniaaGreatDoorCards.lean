/-
  DERIVED. GIVEN WITH THE SEED: THE CARDS: each row of YtamhjnemmdcniaaGreatDoorRows.lean that lists a variable, with what it lists TIED to the program's text (the seventh form; the later family's looks); each row that meets fmt, with fmt's text TOLD by the authors' own Lean function (tested against real Go, not proved from fmt's source: count such statements apart). THE CARD IS WHAT COUNTS. Prove the row's statement (the work); the ties are given (YtamhjnemmdcniaaGreatDoorTie.lean); close each card by the builder's one call (the guide's Derived/Test/ToyasCard.lean, 'card_holds'). Laid BY PROGRAM, IN A SANDBOX (cutbox-door.mjs). By AI agents, Wed Nov 11 2026. No macro, syntax, notation, axiom, sorry.
-/
import Derived.Test.YtamhjnemmdcniaaGreatDoorRows
import GoSem.ClaimSeven
namespace Go.Proofs.YtamhjnemmdcniaaGreatDoor
namespace Rows

/-- THE TIED CARD OF 'hornbooklaw7.RegexTells'. -/
def regexTellsCard : Claim7 := { stood := { row := regexTellsRow, standIns := [], harness := (true, "ab3084b6926dec0a5690d3ad6cad66af65ebfa12f298846ded5f118d6ce75873"), looks := true }, kinds := [], alts := [], laidByText := true, laidKinds := [.data, .data, .data, .data, .sentinel, .sentinel, .pinned, .pinned], laidTests := true, laidLooks := .later }
def RegexTellsCardSaid : Prop := Claim7.holds Tryz.pinned (.plain (OpenSpec.ofChange regexTellsSpec)) regexTellsCard

/-- THE TIED CARD OF 'hornbooklaw7.RegexReads'. -/
def regexReadsCard : Claim7 := { stood := { row := regexReadsRow, standIns := [], harness := (true, "ab3084b6926dec0a5690d3ad6cad66af65ebfa12f298846ded5f118d6ce75873"), looks := true }, kinds := [], alts := [], laidByText := true, laidKinds := [.data, .data, .data, .data, .sentinel, .sentinel, .pinned, .pinned], laidTests := true, laidLooks := .later }
def RegexReadsCardSaid : Prop := Claim7.holds Tryz.pinned (.plain (OpenSpec.ofChange regexReadsSpec)) regexReadsCard

/-- THE TIED CARD OF 'hornbooklaw7.RegexTrees'. -/
def regexTreesCard : Claim7 := { stood := { row := regexTreesRow, standIns := [], harness := (true, "ab3084b6926dec0a5690d3ad6cad66af65ebfa12f298846ded5f118d6ce75873"), looks := true }, kinds := [], alts := [], laidByText := true, laidKinds := [.data, .data, .data, .data, .sentinel, .sentinel, .pinned, .pinned], laidTests := true, laidLooks := .later }
def RegexTreesCardSaid : Prop := Claim7.holds Tryz.pinned (.plain (OpenSpec.ofChange regexTreesSpec)) regexTreesCard

/-- THE TIED CARD OF 'hornbooklaw7.RegexBack'. -/
def regexBackCard : Claim7 := { stood := { row := regexBackRow, standIns := [], harness := (true, "ab3084b6926dec0a5690d3ad6cad66af65ebfa12f298846ded5f118d6ce75873"), looks := true }, kinds := [], alts := [], laidByText := true, laidKinds := [.data, .data, .data, .data, .sentinel, .sentinel, .pinned, .pinned], laidTests := true, laidLooks := .later }
def RegexBackCardSaid : Prop := Claim7.holds Tryz.pinned (.plain (OpenSpec.ofChange regexBackSpec)) regexBackCard

/-- THE TIED CARD OF 'hornbooklaw7.RegexNests'. -/
def regexNestsCard : Claim7 := { stood := { row := regexNestsRow, standIns := [], harness := (true, "ab3084b6926dec0a5690d3ad6cad66af65ebfa12f298846ded5f118d6ce75873"), looks := true }, kinds := [], alts := [], laidByText := true, laidKinds := [.data, .data, .data, .data, .sentinel, .sentinel, .pinned, .pinned], laidTests := true, laidLooks := .later }
def RegexNestsCardSaid : Prop := Claim7.holds Tryz.pinned (.plain (OpenSpec.ofChange regexNestsSpec)) regexNestsCard

/-- THE TIED CARD OF 'hornbooklaw7.RegexSets'. -/
def regexSetsCard : Claim7 := { stood := { row := regexSetsRow, standIns := [], harness := (true, "ab3084b6926dec0a5690d3ad6cad66af65ebfa12f298846ded5f118d6ce75873"), looks := true }, kinds := [], alts := [], laidByText := true, laidKinds := [.data, .data, .data, .data, .sentinel, .sentinel, .pinned, .pinned], laidTests := true, laidLooks := .later }
def RegexSetsCardSaid : Prop := Claim7.holds Tryz.pinned (.plain (OpenSpec.ofChange regexSetsSpec)) regexSetsCard

/-- THE SECOND FORM's CARD OF 'hornbooklaw7.RegexTells'. -/
def regexTellsUptoCard : Claim7 := { stood := { row := regexTellsUptoRow, standIns := [], harness := (true, "ab3084b6926dec0a5690d3ad6cad66af65ebfa12f298846ded5f118d6ce75873"), looks := true }, kinds := [], alts := [], laidByText := true, laidKinds := [.data, .data, .data, .data, .sentinel, .sentinel, .pinned, .pinned], laidTests := true, laidLooks := .later }
def RegexTellsUptoCardSaid : Prop := Claim7.holds Tryz.pinned (.plain (OpenSpec.upto regexTellsSpec)) regexTellsUptoCard

/-- THE SECOND FORM's CARD OF 'hornbooklaw7.RegexReads'. -/
def regexReadsUptoCard : Claim7 := { stood := { row := regexReadsUptoRow, standIns := [], harness := (true, "ab3084b6926dec0a5690d3ad6cad66af65ebfa12f298846ded5f118d6ce75873"), looks := true }, kinds := [], alts := [], laidByText := true, laidKinds := [.data, .data, .data, .data, .sentinel, .sentinel, .pinned, .pinned], laidTests := true, laidLooks := .later }
def RegexReadsUptoCardSaid : Prop := Claim7.holds Tryz.pinned (.plain (OpenSpec.upto regexReadsSpec)) regexReadsUptoCard

/-- THE SECOND FORM's CARD OF 'hornbooklaw7.RegexTrees'. -/
def regexTreesUptoCard : Claim7 := { stood := { row := regexTreesUptoRow, standIns := [], harness := (true, "ab3084b6926dec0a5690d3ad6cad66af65ebfa12f298846ded5f118d6ce75873"), looks := true }, kinds := [], alts := [], laidByText := true, laidKinds := [.data, .data, .data, .data, .sentinel, .sentinel, .pinned, .pinned], laidTests := true, laidLooks := .later }
def RegexTreesUptoCardSaid : Prop := Claim7.holds Tryz.pinned (.plain (OpenSpec.upto regexTreesSpec)) regexTreesUptoCard

/-- THE SECOND FORM's CARD OF 'hornbooklaw7.RegexBack'. -/
def regexBackUptoCard : Claim7 := { stood := { row := regexBackUptoRow, standIns := [], harness := (true, "ab3084b6926dec0a5690d3ad6cad66af65ebfa12f298846ded5f118d6ce75873"), looks := true }, kinds := [], alts := [], laidByText := true, laidKinds := [.data, .data, .data, .data, .sentinel, .sentinel, .pinned, .pinned], laidTests := true, laidLooks := .later }
def RegexBackUptoCardSaid : Prop := Claim7.holds Tryz.pinned (.plain (OpenSpec.upto regexBackSpec)) regexBackUptoCard

/-- THE SECOND FORM's CARD OF 'hornbooklaw7.RegexNests'. -/
def regexNestsUptoCard : Claim7 := { stood := { row := regexNestsUptoRow, standIns := [], harness := (true, "ab3084b6926dec0a5690d3ad6cad66af65ebfa12f298846ded5f118d6ce75873"), looks := true }, kinds := [], alts := [], laidByText := true, laidKinds := [.data, .data, .data, .data, .sentinel, .sentinel, .pinned, .pinned], laidTests := true, laidLooks := .later }
def RegexNestsUptoCardSaid : Prop := Claim7.holds Tryz.pinned (.plain (OpenSpec.upto regexNestsSpec)) regexNestsUptoCard

/-- THE SECOND FORM's CARD OF 'hornbooklaw7.RegexSets'. -/
def regexSetsUptoCard : Claim7 := { stood := { row := regexSetsUptoRow, standIns := [], harness := (true, "ab3084b6926dec0a5690d3ad6cad66af65ebfa12f298846ded5f118d6ce75873"), looks := true }, kinds := [], alts := [], laidByText := true, laidKinds := [.data, .data, .data, .data, .sentinel, .sentinel, .pinned, .pinned], laidTests := true, laidLooks := .later }
def RegexSetsUptoCardSaid : Prop := Claim7.holds Tryz.pinned (.plain (OpenSpec.upto regexSetsSpec)) regexSetsUptoCard
end Rows
end Go.Proofs.YtamhjnemmdcniaaGreatDoor
