/- What every row of this seat takes of its start: the library's two tables lie as listed; a slice that came in reads as its values. -/
import Derived.Test.YtncmepcgafimjaaDoorRows
import Derived.Test.YtncmepcgafimjaaDoorShelf
import Derived.ProofKit
import Derived.LaidMore
import Derived.Lay
import Derived.OpenShut
import Derived.Stop.Joined
import Derived.Lib.LaidU8T
namespace Go.Proofs.YtncmepcgafimjaaDoor
open Go.ChangeShapes Go.WideShapes Go.ChangeAt Go.RowKit

theorem own : ownKnob Tryd.prog.godebug = none := by kernel_rfl
theorem laidOut : laidOutB Tryd.prog = true := by kernel_rfl
def laid1 : List (String × DataW Unit) := [("unicode/utf8.acceptRanges", Rows.laid_unicode_utf8_acceptRanges), ("unicode/utf8.first", Rows.laid_unicode_utf8_first)]

set_option maxRecDepth 100000 in
/-- A world that holds the listed tables. -/
theorem laid_met (os : Os) (args : Array Value) : laidMetH Tryd.prog laid1 ((World.laidAll Tryd.prog os laid1).forCall (fun _ _ => 0) ⟨#[], args, []⟩).memory := by
  rw [MakeChecks.laidMetH_plain _ _ _ (by kernel_rfl)]
  exact laidMet_laidAll _ (by kernel_rfl) (by kernel_rfl)

def tabsRen : Go.Shelf.Ren := ⟨fun n => n, fun | 5 => 5 | 119 => 49 | 138 => 51 | 139 => 52 | n => n, fun | 3 => 0 | 4 => 1 | n => n⟩
theorem tabsTypes : U8Types Tryd.prog tabsRen := { t5 := Tryd.underlying5, t119 := Tryd.underlying49, t138 := Tryd.underlying51, t139 := Tryd.underlying52 }
theorem tabsExtra : U8Extra Tryd.prog tabsRen := { n3 := by kernel_rfl, n4 := by kernel_rfl, y3 := by kernel_rfl, y4 := by kernel_rfl, c5 := by kernel_rfl, c119 := by kernel_rfl, c138 := by kernel_rfl }
set_option maxRecDepth 100000 in
theorem first_eq : Rows.laid_unicode_utf8_first = Lib.firstData := by kernel_rfl
theorem accept_eq : (Rows.laid_unicode_utf8_acceptRanges : DataW Unit) = Lib.acceptData := by kernel_rfl

/-- What the condition gives the walks: the tables' cells. -/
theorem tabs_of_laid {W : World} (h : laidMetH Tryd.prog laid1 W) : Tabs W := by
  rw [MakeChecks.laidMetH_plain _ _ _ (by kernel_rfl)] at h
  have h1 := Lib.laidMet.reads h (n := "unicode/utf8.first") (d := Rows.laid_unicode_utf8_first) (by simp [laid1])
  have h2 := Lib.laidMet.reads h (n := "unicode/utf8.acceptRanges") (d := Rows.laid_unicode_utf8_acceptRanges) (by simp [laid1])
  rw [first_eq] at h1
  rw [accept_eq] at h2
  exact utf8Tabs_of_readsT tabsTypes tabsExtra h1 h2

/-- A slice of bytes that came in. -/
theorem rd_of_trod {H : Type} {enc : TypeId × Value → H} {W : World} {base : Nat} {sp : Nat → Bool} {held : Bool} {a0 : Option Addr} {len cap : Nat} {d : DataW H} {p : List MemPlace}
    (h : DataW.Trod enc Tryd.prog W base sp held 22 (.slice a0 len cap) d p) : ∃ bs : List UInt8, len = bs.length ∧ bs.length ≤ cap ∧ bs.length ≤ 9223372036854775807 ∧ (Rd W a0 (cB bs) ∧ (a0 = none → cap = 0)) := by
  obtain ⟨fuel, hf⟩ := h
  rcases open_ints Tryd.underlying22 Tryd.underlying5 (by kernel_rfl) hf with ⟨hcs, _⟩ | ⟨x, l, c, zs, hcs, _, hl, hm, hz, _, hcell, hwz⟩
  · simp [Value.cells] at hcs
    obtain ⟨rfl, rfl, rfl⟩ := hcs
    exact ⟨[], rfl, Nat.zero_le _, Nat.zero_le _, rd_nil _ _, fun _ => rfl⟩
  · simp [Value.cells] at hcs
    obtain ⟨rfl, rfl, rfl⟩ := hcs
    have hzl : len ≤ zs.length := by split at hz <;> omega
    refine ⟨(zs.take len).map fun z => UInt8.ofNat z.toNat, by simp; omega, by simp; omega, by simp; unfold maxLen at hm; omega, ?_, fun e => by cases e⟩
    intro i hi
    rw [cB_length] at hi
    have hi' : i < len := by simp at hi; omega
    obtain ⟨b, off, rfl, hc⟩ := ints_at hcell (show 0 < zs.length by omega)
    refine ⟨b, off, rfl, ?_⟩
    have hiz : i < zs.length := by omega
    rw [hc i hiz]
    have hb := bounds_u8 (hwz zs[i] (List.getElem_mem hiz))
    simp only [cB, List.getD_eq_getElem?_getD, List.getElem?_eq_getElem hiz, Option.getD_some, List.getElem_map, List.getElem_take, UInt8.toNat_ofNat']
    congr 2
    omega

/-- A slice of code points that came in. -/
theorem rdi_of_trod {H : Type} {enc : TypeId × Value → H} {W : World} {base : Nat} {sp : Nat → Bool} {held : Bool} {a0 : Option Addr} {len cap : Nat} {d : DataW H} {p : List MemPlace}
    (h : DataW.Trod enc Tryd.prog W base sp held 23 (.slice a0 len cap) d p) : ∃ xs : List Int, len = xs.length ∧ xs.length ≤ cap ∧ xs.length ≤ 9223372036854775807 ∧ (Rd W a0 (cI xs) ∧ (a0 = none → cap = 0) ∧ ∀ x ∈ xs, -2147483648 ≤ x ∧ x ≤ 2147483647) := by
  obtain ⟨fuel, hf⟩ := h
  rcases open_ints Tryd.underlying23 Tryd.underlying21 (by kernel_rfl) hf with ⟨hcs, _⟩ | ⟨x, l, c, zs, hcs, _, hl, hm, hz, _, hcell, hwz⟩
  · simp [Value.cells] at hcs
    obtain ⟨rfl, rfl, rfl⟩ := hcs
    exact ⟨[], rfl, Nat.zero_le _, Nat.zero_le _, rd_nil _ _, fun _ => rfl, fun x hx => by cases hx⟩
  · simp [Value.cells] at hcs
    obtain ⟨rfl, rfl, rfl⟩ := hcs
    have hzl : len ≤ zs.length := by split at hz <;> omega
    refine ⟨zs.take len, by simp; omega, by simp; omega, by simp; unfold maxLen at hm; omega, ?_, (fun e => by cases e), ?_⟩
    · intro i hi
      rw [cI_length] at hi
      have hi' : i < len := by simp at hi; omega
      obtain ⟨b, off, rfl, hc⟩ := ints_at hcell (show 0 < zs.length by omega)
      refine ⟨b, off, rfl, ?_⟩
      have hiz : i < zs.length := by omega
      rw [hc i hiz]
      simp only [cI, List.getD_eq_getElem?_getD, List.getElem?_eq_getElem hiz, Option.getD_some, List.getElem_map, List.getElem_take]
    · intro x hx
      exact bounds_i32 (hwz x (List.mem_of_mem_take hx))
end Go.Proofs.YtncmepcgafimjaaDoor
