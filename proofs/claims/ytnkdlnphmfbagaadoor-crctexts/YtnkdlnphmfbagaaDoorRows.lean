/-
  NARROWER THAN 'FOR EVERY INPUT', by the rows' own cells (each row's printed sentence says how): CrcTells: laid · CrcTexts: laid · CrcFinds: laid · CrcRows: laid · CrcParts: laid · CrcShort: laid.
  DERIVED. THE GIVEN ROWS OF THIS SEAT. 6 by the template 'for every input the law returns true; each argument reads behind the call as it read before'; 0 by the template 'total and deterministic' (their statements: YtnkdlnphmfbagaaDoorTotals.lean).
  GIVEN WITH THE SEED: the statements are not yours to turn. If you find one false, say at which input.
  Laid BY PROGRAM, IN A SANDBOX (cutbox-rows.mjs): the forced cells as the released guide's own fill.sh prints them over the translation 812c570be445e53e… (all of the seat's roots in one cut). By AI agents, Wed Nov 11 2026. No macro, syntax, notation, axiom, sorry.
-/
import Derived.Test.YtnkdlnphmfbagaaDoorChecked
import GoSem.Claim
import GoSem.ClaimJoined
import GoSem.ClaimMapViews
import Derived.JoinedTies
import Derived.KernelRfl
namespace Go.Proofs.YtnkdlnphmfbagaaDoor
/- THE CELL 'sum', in the pinned program and in every row, IS THE sha256 OF THE DUMP (.gsa) THAT YtnkdlnphmfbagaaDoorProg.lean LOADS. Nothing in Lean hashes anything: it is a label: what it is worth is what the hold of that sum in a sandbox is worth. -/
noncomputable def Tryd.pinned : Pinned := { name := "ytnkdlnphmfbagaadoor", sum := "812c570be445e53e393a68b35edc1e88e68fbde39cce4ec7c26350a6c7f53f3a", checked := Tryd.checked }
namespace Rows
def none {H : Type} : Left H := { results := [], args := [] }

/- WHAT THE LISTED PACKAGE-LEVEL VARIABLES READ AS WHEN THE CALL BEGINS. Each datum BY PROGRAM (the guide's laid-datum.mjs) off the statement by which the dump's own 'gosem.cut.vars' lays the variable. In a bare row this is a premise. The card (YtnkdlnphmfbagaaDoorCards.lean) ties it to the program's text. -/
def laid_hornbook_crc_fourShifts {H : Type} : DataW H := .agg [.lit (.int .u32 0), .lit (.int .u32 498536548), .lit (.int .u32 997073096), .lit (.int .u32 651767980), .lit (.int .u32 1994146192), .lit (.int .u32 1802195444), .lit (.int .u32 1303535960), .lit (.int .u32 1342533948), .lit (.int .u32 3988292384), .lit (.int .u32 4027552580), .lit (.int .u32 3604390888), .lit (.int .u32 3412177804), .lit (.int .u32 2607071920), .lit (.int .u32 2262029012), .lit (.int .u32 2685067896), .lit (.int .u32 3183342108)]

/-- 'hornbooklaw1.CrcTells': WHATEVER THE INPUT: true; the input reads as it did. -/
def crcTellsSpec : ChangeSpec := { name := "crcTells", fn := fun _ => fun
  | [d1, d2, d3, d4] => { results := [.lit (.bool true)], args := [d1, d2, d3, d4] }
  | _ => none }
def crcTellsRow : OpenClaim := { program := "ytnkdlnphmfbagaadoor", sum := "812c570be445e53e393a68b35edc1e88e68fbde39cce4ec7c26350a6c7f53f3a", func := "hornbook/hornbooklaw1.CrcTells", spec := "crcTells", named := ["hornbook/crc.fourShifts"], apart := false, laid := [("hornbook/crc.fourShifts", laid_hornbook_crc_fourShifts)] }
def CrcTellsSaid : Prop := crcTellsRow.holds Tryd.pinned (OpenSpec.ofChange crcTellsSpec)

/-- ITS FALSE NEIGHBOUR: 'it returns false'. Refute it at one input. -/
def crcTellsWrong : ChangeSpec := { name := "crcTells", fn := fun _ => fun
  | [d1, d2, d3, d4] => { results := [.lit (.bool false)], args := [d1, d2, d3, d4] }
  | _ => none }
def CrcTellsWrongFalsely : Prop := crcTellsRow.holds Tryd.pinned (OpenSpec.ofChange crcTellsWrong)

/-- 'hornbooklaw1.CrcTexts': WHATEVER THE INPUT: true; the input reads as it did. -/
def crcTextsSpec : ChangeSpec := { name := "crcTexts", fn := fun _ => fun
  | [d1, d2, d3] => { results := [.lit (.bool true)], args := [d1, d2, d3] }
  | _ => none }
def crcTextsRow : OpenClaim := { program := "ytnkdlnphmfbagaadoor", sum := "812c570be445e53e393a68b35edc1e88e68fbde39cce4ec7c26350a6c7f53f3a", func := "hornbook/hornbooklaw1.CrcTexts", spec := "crcTexts", named := ["hornbook/crc.fourShifts"], apart := false, laid := [("hornbook/crc.fourShifts", laid_hornbook_crc_fourShifts)] }
def CrcTextsSaid : Prop := crcTextsRow.holds Tryd.pinned (OpenSpec.ofChange crcTextsSpec)

/-- ITS FALSE NEIGHBOUR: 'it returns false'. Refute it at one input. -/
def crcTextsWrong : ChangeSpec := { name := "crcTexts", fn := fun _ => fun
  | [d1, d2, d3] => { results := [.lit (.bool false)], args := [d1, d2, d3] }
  | _ => none }
def CrcTextsWrongFalsely : Prop := crcTextsRow.holds Tryd.pinned (OpenSpec.ofChange crcTextsWrong)

/-- 'hornbooklaw1.CrcFinds': WHATEVER THE INPUT: true; the input reads as it did. -/
def crcFindsSpec : ChangeSpec := { name := "crcFinds", fn := fun _ => fun
  | [d1, d2, d3] => { results := [.lit (.bool true)], args := [d1, d2, d3] }
  | _ => none }
def crcFindsRow : OpenClaim := { program := "ytnkdlnphmfbagaadoor", sum := "812c570be445e53e393a68b35edc1e88e68fbde39cce4ec7c26350a6c7f53f3a", func := "hornbook/hornbooklaw1.CrcFinds", spec := "crcFinds", named := ["hornbook/crc.fourShifts"], apart := false, laid := [("hornbook/crc.fourShifts", laid_hornbook_crc_fourShifts)] }
def CrcFindsSaid : Prop := crcFindsRow.holds Tryd.pinned (OpenSpec.ofChange crcFindsSpec)

/-- ITS FALSE NEIGHBOUR: 'it returns false'. Refute it at one input. -/
def crcFindsWrong : ChangeSpec := { name := "crcFinds", fn := fun _ => fun
  | [d1, d2, d3] => { results := [.lit (.bool false)], args := [d1, d2, d3] }
  | _ => none }
def CrcFindsWrongFalsely : Prop := crcFindsRow.holds Tryd.pinned (OpenSpec.ofChange crcFindsWrong)

/-- 'hornbooklaw1.CrcRows': WHATEVER THE INPUT: true; the input reads as it did. -/
def crcRowsSpec : ChangeSpec := { name := "crcRows", fn := fun _ => fun
  | [d1, d2] => { results := [.lit (.bool true)], args := [d1, d2] }
  | _ => none }
def crcRowsRow : OpenClaim := { program := "ytnkdlnphmfbagaadoor", sum := "812c570be445e53e393a68b35edc1e88e68fbde39cce4ec7c26350a6c7f53f3a", func := "hornbook/hornbooklaw1.CrcRows", spec := "crcRows", named := ["hornbook/crc.fourShifts"], apart := false, laid := [("hornbook/crc.fourShifts", laid_hornbook_crc_fourShifts)] }
def CrcRowsSaid : Prop := crcRowsRow.holds Tryd.pinned (OpenSpec.ofChange crcRowsSpec)

/-- ITS FALSE NEIGHBOUR: 'it returns false'. Refute it at one input. -/
def crcRowsWrong : ChangeSpec := { name := "crcRows", fn := fun _ => fun
  | [d1, d2] => { results := [.lit (.bool false)], args := [d1, d2] }
  | _ => none }
def CrcRowsWrongFalsely : Prop := crcRowsRow.holds Tryd.pinned (OpenSpec.ofChange crcRowsWrong)

/-- 'hornbooklaw1.CrcParts': WHATEVER THE INPUT: true; the input reads as it did. -/
def crcPartsSpec : ChangeSpec := { name := "crcParts", fn := fun _ => fun
  | [d1, d2] => { results := [.lit (.bool true)], args := [d1, d2] }
  | _ => none }
def crcPartsRow : OpenClaim := { program := "ytnkdlnphmfbagaadoor", sum := "812c570be445e53e393a68b35edc1e88e68fbde39cce4ec7c26350a6c7f53f3a", func := "hornbook/hornbooklaw1.CrcParts", spec := "crcParts", named := ["hornbook/crc.fourShifts"], apart := false, laid := [("hornbook/crc.fourShifts", laid_hornbook_crc_fourShifts)] }
def CrcPartsSaid : Prop := crcPartsRow.holds Tryd.pinned (OpenSpec.ofChange crcPartsSpec)

/-- ITS FALSE NEIGHBOUR: 'it returns false'. Refute it at one input. -/
def crcPartsWrong : ChangeSpec := { name := "crcParts", fn := fun _ => fun
  | [d1, d2] => { results := [.lit (.bool false)], args := [d1, d2] }
  | _ => none }
def CrcPartsWrongFalsely : Prop := crcPartsRow.holds Tryd.pinned (OpenSpec.ofChange crcPartsWrong)

/-- 'hornbooklaw1.CrcShort': WHATEVER THE INPUT: true; the input reads as it did. -/
def crcShortSpec : ChangeSpec := { name := "crcShort", fn := fun _ => fun
  | [d1, d2, d3, d4] => { results := [.lit (.bool true)], args := [d1, d2, d3, d4] }
  | _ => none }
def crcShortRow : OpenClaim := { program := "ytnkdlnphmfbagaadoor", sum := "812c570be445e53e393a68b35edc1e88e68fbde39cce4ec7c26350a6c7f53f3a", func := "hornbook/hornbooklaw1.CrcShort", spec := "crcShort", named := ["hornbook/crc.fourShifts"], apart := false, laid := [("hornbook/crc.fourShifts", laid_hornbook_crc_fourShifts)] }
def CrcShortSaid : Prop := crcShortRow.holds Tryd.pinned (OpenSpec.ofChange crcShortSpec)

/-- ITS FALSE NEIGHBOUR: 'it returns false'. Refute it at one input. -/
def crcShortWrong : ChangeSpec := { name := "crcShort", fn := fun _ => fun
  | [d1, d2, d3, d4] => { results := [.lit (.bool false)], args := [d1, d2, d3, d4] }
  | _ => none }
def CrcShortWrongFalsely : Prop := crcShortRow.holds Tryd.pinned (OpenSpec.ofChange crcShortWrong)

/- THE SECOND FORM. 'bulk': how many values and letters a reading holds, each counted each time it is reached (what is shared counts as often as it is met; a slice's spare places count too). A statement '..UptoSaid' is the law's where the arguments, and the package variables that the reading takes, are together of bulk at most 1048576: NARROWER than '..Said'. Prove '..Said' where nothing that the law and all that it calls make is longer than what came in: it says more and counts as full. Else prove '..UptoSaid'. A law counts once. -/
mutual
def uptoBulk {H : Type} : DataW H → Nat
  | .lit (.string bytes) => bytes.length + 1
  | .lit _ => 1
  | .nil => 1
  | .ptr d => uptoBulk d + 1
  | .slice elems spare => uptoBulkAll elems + uptoBulkAll spare + 1
  | .agg parts => uptoBulkAll parts + 1
  | .iface _ d => uptoBulk d + 1
  | .map entries => uptoBulkEntries entries + 1
  | .held _ => 1
def uptoBulkAll {H : Type} : List (DataW H) → Nat
  | [] => 0
  | d :: r => uptoBulk d + uptoBulkAll r
def uptoBulkEntries {H : Type} : List (Lit × DataW H) → Nat
  | [] => 0
  | x :: r => uptoBulkEntry x + uptoBulkEntries r
def uptoBulkEntry {H : Type} : Lit × DataW H → Nat
  | (.string bytes, d) => bytes.length + uptoBulk d + 1
  | (_, d) => uptoBulk d + 1
 end
def uptoSmall : (H : Type) → List (DataW H) → Bool := fun _ ds => decide (uptoBulkAll ds ≤ 1048576)
def OpenSpec.upto (s : _root_.Go.ChangeSpec) : _root_.Go.OpenSpec := { _root_.Go.OpenSpec.ofChange s with cond := some uptoSmall }

/-- 'hornbooklaw1.CrcTells', WHERE WHAT IT READS IS OF BULK AT MOST 1048576: true; the input reads as it did. -/
def crcTellsUptoRow : OpenClaim := { program := "ytnkdlnphmfbagaadoor", sum := "812c570be445e53e393a68b35edc1e88e68fbde39cce4ec7c26350a6c7f53f3a", func := "hornbook/hornbooklaw1.CrcTells", spec := "crcTells", named := ["hornbook/crc.fourShifts"], apart := false, laid := [("hornbook/crc.fourShifts", laid_hornbook_crc_fourShifts)], narrowed := true }
def CrcTellsUptoSaid : Prop := crcTellsUptoRow.holds Tryd.pinned (OpenSpec.upto crcTellsSpec)

/-- 'hornbooklaw1.CrcTexts', WHERE WHAT IT READS IS OF BULK AT MOST 1048576: true; the input reads as it did. -/
def crcTextsUptoRow : OpenClaim := { program := "ytnkdlnphmfbagaadoor", sum := "812c570be445e53e393a68b35edc1e88e68fbde39cce4ec7c26350a6c7f53f3a", func := "hornbook/hornbooklaw1.CrcTexts", spec := "crcTexts", named := ["hornbook/crc.fourShifts"], apart := false, laid := [("hornbook/crc.fourShifts", laid_hornbook_crc_fourShifts)], narrowed := true }
def CrcTextsUptoSaid : Prop := crcTextsUptoRow.holds Tryd.pinned (OpenSpec.upto crcTextsSpec)

/-- 'hornbooklaw1.CrcFinds', WHERE WHAT IT READS IS OF BULK AT MOST 1048576: true; the input reads as it did. -/
def crcFindsUptoRow : OpenClaim := { program := "ytnkdlnphmfbagaadoor", sum := "812c570be445e53e393a68b35edc1e88e68fbde39cce4ec7c26350a6c7f53f3a", func := "hornbook/hornbooklaw1.CrcFinds", spec := "crcFinds", named := ["hornbook/crc.fourShifts"], apart := false, laid := [("hornbook/crc.fourShifts", laid_hornbook_crc_fourShifts)], narrowed := true }
def CrcFindsUptoSaid : Prop := crcFindsUptoRow.holds Tryd.pinned (OpenSpec.upto crcFindsSpec)

/-- 'hornbooklaw1.CrcRows', WHERE WHAT IT READS IS OF BULK AT MOST 1048576: true; the input reads as it did. -/
def crcRowsUptoRow : OpenClaim := { program := "ytnkdlnphmfbagaadoor", sum := "812c570be445e53e393a68b35edc1e88e68fbde39cce4ec7c26350a6c7f53f3a", func := "hornbook/hornbooklaw1.CrcRows", spec := "crcRows", named := ["hornbook/crc.fourShifts"], apart := false, laid := [("hornbook/crc.fourShifts", laid_hornbook_crc_fourShifts)], narrowed := true }
def CrcRowsUptoSaid : Prop := crcRowsUptoRow.holds Tryd.pinned (OpenSpec.upto crcRowsSpec)

/-- 'hornbooklaw1.CrcParts', WHERE WHAT IT READS IS OF BULK AT MOST 1048576: true; the input reads as it did. -/
def crcPartsUptoRow : OpenClaim := { program := "ytnkdlnphmfbagaadoor", sum := "812c570be445e53e393a68b35edc1e88e68fbde39cce4ec7c26350a6c7f53f3a", func := "hornbook/hornbooklaw1.CrcParts", spec := "crcParts", named := ["hornbook/crc.fourShifts"], apart := false, laid := [("hornbook/crc.fourShifts", laid_hornbook_crc_fourShifts)], narrowed := true }
def CrcPartsUptoSaid : Prop := crcPartsUptoRow.holds Tryd.pinned (OpenSpec.upto crcPartsSpec)

/-- 'hornbooklaw1.CrcShort', WHERE WHAT IT READS IS OF BULK AT MOST 1048576: true; the input reads as it did. -/
def crcShortUptoRow : OpenClaim := { program := "ytnkdlnphmfbagaadoor", sum := "812c570be445e53e393a68b35edc1e88e68fbde39cce4ec7c26350a6c7f53f3a", func := "hornbook/hornbooklaw1.CrcShort", spec := "crcShort", named := ["hornbook/crc.fourShifts"], apart := false, laid := [("hornbook/crc.fourShifts", laid_hornbook_crc_fourShifts)], narrowed := true }
def CrcShortUptoSaid : Prop := crcShortUptoRow.holds Tryd.pinned (OpenSpec.upto crcShortSpec)

end Rows
end Go.Proofs.YtnkdlnphmfbagaaDoor
