/- Joined: Wbt Wbr. -/
import Derived.Test.YtemanednddhfaaaGreatDoorRows
import Derived.Test.YtemanednddhfaaaGreatDoorMJE
import Derived.Test.YtemanednddhfaaaGreatDoorMLf1
import Derived.Lib.TrailingZeros
import Derived.Shelf.Spec.TrailingZeros
import Derived.Laws.Bits64b
import Derived.ProofKit
import Derived.LaidMore
import Derived.Lay
import Derived.OpenShut
import Derived.Stop.Joined
import Derived.Lib.LaidU8T
import Derived.Lib.LaidTab
import Derived.Test.YtemanednddhfaaaGreatDoorMPlm
namespace Go.Proofs.YtemanednddhfaaaGreatDoor
open Go.ChangeShapes Go.WideShapes Go.ChangeAt Go.RowKit
theorem own : ownKnob Tryz.prog.godebug = none := by kernel_rfl
theorem laidOut : laidOutB Tryz.prog = true := by kernel_rfl
def tabsRen : Go.Shelf.Ren := ⟨fun n => n, fun | 5 => 5 | 119 => 254 | 138 => 256 | 139 => 257 | n => n, fun | 3 => 2 | 4 => 3 | n => n⟩
theorem tabsTypes : U8Types Tryz.prog tabsRen := { t5 := Tryz.underlying5, t119 := Tryz.underlying254, t138 := Tryz.underlying256, t139 := Tryz.underlying257 }
theorem tabsExtra : U8Extra Tryz.prog tabsRen := { n3 := by kernel_rfl, n4 := by kernel_rfl, y3 := by kernel_rfl, y4 := by kernel_rfl, c5 := by kernel_rfl, c119 := by kernel_rfl, c138 := by kernel_rfl }
set_option maxRecDepth 100000 in
theorem first_eq : Rows.laid_unicode_utf8_first = Lib.firstData := by kernel_rfl
theorem accept_eq : (Rows.laid_unicode_utf8_acceptRanges : DataW Unit) = Lib.acceptData := by kernel_rfl
def laid2 : List (String × DataW Unit) := [("math/bits.deBruijn32tab", Rows.laid_math_bits_deBruijn32tab), ("math/bits.deBruijn64tab", Rows.laid_math_bits_deBruijn64tab), ("internal/strconv.uint64pow10", Rows.laid_internal_strconv_uint64pow10), ("unicode/utf8.acceptRanges", Rows.laid_unicode_utf8_acceptRanges), ("strconv.ErrRange", Rows.laid_strconv_ErrRange), ("strconv.ErrSyntax", Rows.laid_strconv_ErrSyntax), ("unicode/utf8.first", Rows.laid_unicode_utf8_first)]
set_option maxRecDepth 100000 in
theorem laid_met2 (os : Os) (args : Array Value) : laidMetH Tryz.prog laid2 ((World.laidAll Tryz.prog os laid2).forCall (fun _ _ => 0) ⟨#[], args, []⟩).memory := by
 rw [MakeChecks.laidMetH_plain _ _ _ (by kernel_rfl)]
 exact laidMet_laidAll _ (by kernel_rfl) (by kernel_rfl)
theorem tabs_of_laid2 {W : World} (h : laidMetH Tryz.prog laid2 W) : Tabs W := by
 rw [MakeChecks.laidMetH_plain _ _ _ (by kernel_rfl)] at h
 have h1 := Lib.laidMet.reads h (n := "unicode/utf8.first") (d := Rows.laid_unicode_utf8_first) (by simp [laid2])
 have h2 := Lib.laidMet.reads h (n := "unicode/utf8.acceptRanges") (d := Rows.laid_unicode_utf8_acceptRanges) (by simp [laid2])
 rw [first_eq] at h1
 rw [accept_eq] at h2
 exact utf8Tabs_of_readsT tabsTypes tabsExtra h1 h2
end Go.Proofs.YtemanednddhfaaaGreatDoor
namespace Go.Proofs.YtemanednddhfaaaGreatDoor
open Go.ChangeShapes Go.WideShapes Go.ChangeAt Go.RowKit
theorem rdi_of_trod {H : Type} {enc : TypeId × Value → H} {W : World} {base : Nat} {sp : Nat → Bool} {held : Bool} {a0 : Option Addr} {len cap : Nat} {d : DataW H} {p : List MemPlace}
   (h : DataW.Trod enc Tryz.prog W base sp held 53 (.slice a0 len cap) d p) : ∃ xs : List Int, len = xs.length ∧ xs.length ≤ cap ∧ xs.length ≤ 9223372036854775807 ∧ (RdC32 W a0 xs ∧ (a0 = none → cap = 0) ∧ ∀ x ∈ xs, -2147483648 ≤ x ∧ x ≤ 2147483647) := by
 obtain ⟨fuel, hf⟩ := h
 rcases open_ints Tryz.underlying53 Tryz.underlying21 (by kernel_rfl) hf with ⟨hcs, _⟩ | ⟨x, l, c, zs, hcs, _, hl, hm, hz, _, hcell, hwz⟩
 · simp [Value.cells] at hcs
   obtain ⟨rfl, rfl, rfl⟩ := hcs
   exact ⟨[], rfl, Nat.zero_le _, Nat.zero_le _, fun i hi => by simp at hi, fun _ => rfl, fun x hx => by cases hx⟩
 · simp [Value.cells] at hcs
   obtain ⟨rfl, rfl, rfl⟩ := hcs
   have hzl : len ≤ zs.length := by split at hz <;> omega
   refine ⟨zs.take len, by simp; omega, by simp; omega, by simp; unfold maxLen at hm; omega, ?_, (fun e => by cases e), ?_⟩
   · intro i hi
     have hi' : i < len := by simp at hi; omega
     obtain ⟨b, off, rfl, hc⟩ := ints_at hcell (show 0 < zs.length by omega)
     refine ⟨b, off, rfl, ?_⟩
     have hiz : i < zs.length := by omega
     rw [hc i hiz]
     simp only [List.getD_eq_getElem?_getD, List.getElem?_eq_getElem hiz, Option.getD_some, List.getElem_take]
   · intro x hx
     exact bounds_i32 (hwz x (List.mem_of_mem_take hx))
end Go.Proofs.YtemanednddhfaaaGreatDoor
