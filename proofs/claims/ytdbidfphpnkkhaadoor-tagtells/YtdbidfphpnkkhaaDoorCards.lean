/-
  DERIVED. GIVEN WITH THE SEED: THE CARDS: each row of YtdbidfphpnkkhaaDoorRows.lean that lists a variable, with what it lists TIED to the program's text (the seventh form; the later family's looks); each row that meets fmt, with fmt's text TOLD by the authors' own Lean function (tested against real Go, not proved from fmt's source: count such statements apart). THE CARD IS WHAT COUNTS. Prove the row's statement (the work); the ties are given (YtdbidfphpnkkhaaDoorTie.lean); close each card by the builder's one call (the guide's Derived/Test/ToyasCard.lean, 'card_holds'). Laid BY PROGRAM, IN A SANDBOX (cutbox-door.mjs). By AI agents, Wed Nov 11 2026. No macro, syntax, notation, axiom, sorry.
-/
import Derived.Test.YtdbidfphpnkkhaaDoorRows
import GoSem.ClaimSeven
namespace Go.Proofs.YtdbidfphpnkkhaaDoor
namespace Rows

/-- THE TIED CARD OF 'hornbooklaw9.TagTells'. -/
def tagTellsCard : Claim7 := { stood := { row := tagTellsRow, standIns := [], harness := (true, "6c85d1d82f82e62edb5cc28a52c31225ff3ad83db0ef21af95e8993a500d0fcc"), looks := false }, kinds := [], alts := [], laidByText := true, laidKinds := [.data, .data, .data, .pinned, .pinned], laidTests := true, laidLooks := .later }
def TagTellsCardSaid : Prop := Claim7.holds Tryd.pinned (.plain (OpenSpec.ofChange tagTellsSpec)) tagTellsCard

/-- THE TIED CARD OF 'hornbooklaw9.TagClimbs'. -/
def tagClimbsCard : Claim7 := { stood := { row := tagClimbsRow, standIns := [], harness := (true, "6c85d1d82f82e62edb5cc28a52c31225ff3ad83db0ef21af95e8993a500d0fcc"), looks := false }, kinds := [], alts := [], laidByText := true, laidKinds := [.data, .data, .data, .pinned, .pinned], laidTests := true, laidLooks := .later }
def TagClimbsCardSaid : Prop := Claim7.holds Tryd.pinned (.plain (OpenSpec.ofChange tagClimbsSpec)) tagClimbsCard

/-- THE TIED CARD OF 'hornbooklaw9.TagBuilt'. -/
def tagBuiltCard : Claim7 := { stood := { row := tagBuiltRow, standIns := [], harness := (true, "6c85d1d82f82e62edb5cc28a52c31225ff3ad83db0ef21af95e8993a500d0fcc"), looks := false }, kinds := [], alts := [], laidByText := true, laidKinds := [.data, .data, .data, .pinned, .pinned], laidTests := true, laidLooks := .later }
def TagBuiltCardSaid : Prop := Claim7.holds Tryd.pinned (.plain (OpenSpec.ofChange tagBuiltSpec)) tagBuiltCard

/-- THE TIED CARD OF 'hornbooklaw9.TagRefuses'. -/
def tagRefusesCard : Claim7 := { stood := { row := tagRefusesRow, standIns := [], harness := (true, "6c85d1d82f82e62edb5cc28a52c31225ff3ad83db0ef21af95e8993a500d0fcc"), looks := false }, kinds := [], alts := [], laidByText := true, laidKinds := [.data, .data, .data, .pinned, .pinned], laidTests := true, laidLooks := .later }
def TagRefusesCardSaid : Prop := Claim7.holds Tryd.pinned (.plain (OpenSpec.ofChange tagRefusesSpec)) tagRefusesCard

/-- THE TIED CARD OF 'hornbooklaw9.TagRoots'. -/
def tagRootsCard : Claim7 := { stood := { row := tagRootsRow, standIns := [], harness := (true, "6c85d1d82f82e62edb5cc28a52c31225ff3ad83db0ef21af95e8993a500d0fcc"), looks := false }, kinds := [], alts := [], laidByText := true, laidKinds := [.data, .data, .data, .pinned, .pinned], laidTests := true, laidLooks := .later }
def TagRootsCardSaid : Prop := Claim7.holds Tryd.pinned (.plain (OpenSpec.ofChange tagRootsSpec)) tagRootsCard

/-- THE SECOND FORM's CARD OF 'hornbooklaw9.TagTells'. -/
def tagTellsUptoCard : Claim7 := { stood := { row := tagTellsUptoRow, standIns := [], harness := (true, "6c85d1d82f82e62edb5cc28a52c31225ff3ad83db0ef21af95e8993a500d0fcc"), looks := false }, kinds := [], alts := [], laidByText := true, laidKinds := [.data, .data, .data, .pinned, .pinned], laidTests := true, laidLooks := .later }
def TagTellsUptoCardSaid : Prop := Claim7.holds Tryd.pinned (.plain (OpenSpec.upto tagTellsSpec)) tagTellsUptoCard

/-- THE SECOND FORM's CARD OF 'hornbooklaw9.TagClimbs'. -/
def tagClimbsUptoCard : Claim7 := { stood := { row := tagClimbsUptoRow, standIns := [], harness := (true, "6c85d1d82f82e62edb5cc28a52c31225ff3ad83db0ef21af95e8993a500d0fcc"), looks := false }, kinds := [], alts := [], laidByText := true, laidKinds := [.data, .data, .data, .pinned, .pinned], laidTests := true, laidLooks := .later }
def TagClimbsUptoCardSaid : Prop := Claim7.holds Tryd.pinned (.plain (OpenSpec.upto tagClimbsSpec)) tagClimbsUptoCard

/-- THE SECOND FORM's CARD OF 'hornbooklaw9.TagBuilt'. -/
def tagBuiltUptoCard : Claim7 := { stood := { row := tagBuiltUptoRow, standIns := [], harness := (true, "6c85d1d82f82e62edb5cc28a52c31225ff3ad83db0ef21af95e8993a500d0fcc"), looks := false }, kinds := [], alts := [], laidByText := true, laidKinds := [.data, .data, .data, .pinned, .pinned], laidTests := true, laidLooks := .later }
def TagBuiltUptoCardSaid : Prop := Claim7.holds Tryd.pinned (.plain (OpenSpec.upto tagBuiltSpec)) tagBuiltUptoCard

/-- THE SECOND FORM's CARD OF 'hornbooklaw9.TagRefuses'. -/
def tagRefusesUptoCard : Claim7 := { stood := { row := tagRefusesUptoRow, standIns := [], harness := (true, "6c85d1d82f82e62edb5cc28a52c31225ff3ad83db0ef21af95e8993a500d0fcc"), looks := false }, kinds := [], alts := [], laidByText := true, laidKinds := [.data, .data, .data, .pinned, .pinned], laidTests := true, laidLooks := .later }
def TagRefusesUptoCardSaid : Prop := Claim7.holds Tryd.pinned (.plain (OpenSpec.upto tagRefusesSpec)) tagRefusesUptoCard

/-- THE SECOND FORM's CARD OF 'hornbooklaw9.TagRoots'. -/
def tagRootsUptoCard : Claim7 := { stood := { row := tagRootsUptoRow, standIns := [], harness := (true, "6c85d1d82f82e62edb5cc28a52c31225ff3ad83db0ef21af95e8993a500d0fcc"), looks := false }, kinds := [], alts := [], laidByText := true, laidKinds := [.data, .data, .data, .pinned, .pinned], laidTests := true, laidLooks := .later }
def TagRootsUptoCardSaid : Prop := Claim7.holds Tryd.pinned (.plain (OpenSpec.upto tagRootsSpec)) tagRootsUptoCard
end Rows
end Go.Proofs.YtdbidfphpnkkhaaDoor
