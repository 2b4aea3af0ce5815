/- What every row of this seat takes of its start: the library's table of cases lies as listed. -/
import Derived.Test.YtbeihgjonhgfmaaGreatDoorRows
import Derived.Test.YtbeihgjonhgfmaaGreatDoorTgf
import Derived.ProofKit
import Derived.LaidMore
import Derived.Lay
import Derived.OpenShut
import Derived.Stop.Joined
import Derived.Lib.LaidTab
import Derived.Lib.LaidU8T
namespace Go.Proofs.YtbeihgjonhgfmaaGreatDoor
open Go.ChangeShapes Go.WideShapes Go.ChangeAt Go.RowKit

theorem own : ownKnob Tryz.prog.godebug = none := by kernel_rfl
theorem laidOut : laidOutB Tryz.prog = true := by kernel_rfl
def laid1 : List (String × DataW Unit) := [("unicode/utf8.acceptRanges", Rows.laid_unicode_utf8_acceptRanges), ("unicode.asciiFold", Rows.laid_unicode_asciiFold), ("unicode.caseOrbit", Rows.laid_unicode_caseOrbit), ("unicode.CaseRanges", Rows.laid_unicode_CaseRanges), ("unicode/utf8.first", Rows.laid_unicode_utf8_first)]

set_option maxRecDepth 100000 in
/-- A world that holds the listed tables. -/
theorem laid_met (os : Os) (args : Array Value) : laidMetH Tryz.prog laid1 ((World.laidAll Tryz.prog os laid1).forCall (fun _ _ => 0) ⟨#[], args, []⟩).memory := by
  rw [MakeChecks.laidMetH_plain _ _ _ (by kernel_rfl)]
  exact laidMet_laidAll _ (by kernel_rfl) (by kernel_rfl)
def foldT : List Int := [0, 1, 2, 3, 4, 5, 6, 7, 8, 9, 10, 11, 12, 13, 14, 15, 16, 17, 18, 19, 20, 21, 22, 23, 24, 25, 26, 27, 28, 29, 30, 31, 32, 33, 34, 35, 36, 37, 38, 39, 40, 41, 42, 43, 44, 45, 46, 47, 48, 49, 50, 51, 52, 53, 54, 55, 56, 57, 58, 59, 60, 61, 62, 63, 64, 97, 98, 99, 100, 101, 102, 103, 104, 105, 106, 107, 108, 109, 110, 111, 112, 113, 114, 115, 116, 117, 118, 119, 120, 121, 122, 91, 92, 93, 94, 95, 96, 65, 66, 67, 68, 69, 70, 71, 72, 73, 74, 8490, 76, 77, 78, 79, 80, 81, 82, 383, 84, 85, 86, 87, 88, 89, 90, 123, 124, 125, 126, 127]
theorem fold_eq : (Rows.laid_unicode_asciiFold : DataW Unit) = Lib.tabData .u16 foldT := by kernel_rfl
set_option maxRecDepth 100000 in
/-- What the condition gives the walks: the table's cells. -/
theorem af_of_laid {W : World} (h : laidMetH Tryz.prog laid1 W) : AF W := by
  rw [MakeChecks.laidMetH_plain _ _ _ (by kernel_rfl)] at h
  have h1 := Lib.laidMet.reads h (n := "unicode.asciiFold") (d := Rows.laid_unicode_asciiFold) (by simp [laid1])
  rw [fold_eq] at h1
  obtain ⟨g, t, cs, fuel, p, hg, hty, hvar, hd⟩ := h1
  obtain rfl := Option.some.inj ((show Tryz.prog.globalNamed "unicode.asciiFold" = some 0 by kernel_rfl).symm.trans hg)
  obtain rfl := Option.some.inj ((show (Tryz.prog.globals[0]?).map (·.type) = some 114 by kernel_rfl).symm.trans hty)
  have hcs := Lib.cells_of_tab (n := 128) Tryz.underlying114 Tryz.underlying113 (by kernel_rfl) (by kernel_rfl) hd
  have key : ∀ k v, (foldT.map (Value.int .u16))[k]? = some v → W.cell? ⟨0, k, none⟩ = some v := fun k v hk => by
    have := World.var?_cell hg hvar k
    rw [this, ← Array.getElem?_toList, hcs]
    exact hk
  exact ⟨key 114 _ rfl, key 82 _ rfl, key 111 _ rfl, key 79 _ rfl, key 116 _ rfl, key 84 _ rfl⟩
end Go.Proofs.YtbeihgjonhgfmaaGreatDoor
