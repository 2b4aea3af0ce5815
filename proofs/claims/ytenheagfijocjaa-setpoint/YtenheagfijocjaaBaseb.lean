/- A slice of bytes that came in reads as its bytes. -/
import Derived.Test.YtenheagfijocjaaBase
import Derived.Test.YtenheagfijocjaaPointw
namespace Go.Proofs.Ytenheagfijocjaa
open Go.ChangeShapes Go.WideShapes Go.ChangeAt Go.RowKit

theorem rdb_of_trod {H : Type} {enc : TypeId × Value → H} {W : World} {base : Nat} {sp : Nat → Bool} {held : Bool} {a0 : Option Addr} {len cap : Nat} {d : DataW H} {p : List MemPlace}
    (h : DataW.Trod enc Try.prog W base sp held 41 (.slice a0 len cap) d p) : ∃ bs : List UInt8, len = bs.length ∧ bs.length ≤ cap ∧ bs.length ≤ 9223372036854775807 ∧ RdB W a0 bs := by
  obtain ⟨fuel, hf⟩ := h
  rcases open_ints Try.underlying41 Try.underlying5 (by kernel_rfl) hf with ⟨hcs, _⟩ | ⟨x, l, c, zs, hcs, _, hl, hm, hz, _, hcell, hwz⟩
  · simp [Value.cells] at hcs
    obtain ⟨rfl, rfl, rfl⟩ := hcs
    exact ⟨[], rfl, Nat.zero_le _, Nat.zero_le _, fun i hi => by cases hi⟩
  · simp [Value.cells] at hcs
    obtain ⟨rfl, rfl, rfl⟩ := hcs
    have hzl : len ≤ zs.length := by split at hz <;> omega
    refine ⟨(zs.take len).map fun z => UInt8.ofNat z.toNat, by simp; omega, by simp; omega, by simp; unfold maxLen at hm; omega, ?_⟩
    intro i hi
    have hi' : i < len := by simp at hi; omega
    obtain ⟨b, off, rfl, hc⟩ := ints_at hcell (show 0 < zs.length by omega)
    refine ⟨b, off, rfl, ?_⟩
    have hiz : i < zs.length := by omega
    rw [hc i hiz]
    have hb := bounds_u8 (hwz zs[i] (List.getElem_mem hiz))
    simp only [List.getD_eq_getElem?_getD, List.getElem?_eq_getElem hiz, Option.getD_some, List.getElem_map, List.getElem_take, UInt8.toNat_ofNat']
    congr 2
    omega
end Go.Proofs.Ytenheagfijocjaa
