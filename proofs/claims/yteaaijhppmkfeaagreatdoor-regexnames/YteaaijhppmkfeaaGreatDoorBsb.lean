/- A row of bytes, as it is given. -/
import Derived.Test.YteaaijhppmkfeaaGreatDoorBase
namespace Go.Proofs.YteaaijhppmkfeaaGreatDoor
open Go.ChangeShapes Go.WideShapes Go.ChangeAt Go.RowKit
theorem rd_of_trod {H : Type} {enc : TypeId × Value → H} {W : World} {base : Nat} {sp : Nat → Bool} {held : Bool} {a0 : Option Addr} {len cap : Nat} {d : DataW H} {p : List MemPlace}
    (h : DataW.Trod enc Tryz.prog W base sp held 41 (.slice a0 len cap) d p) : ∃ bs : List UInt8, len = bs.length ∧ bs.length ≤ cap ∧ bs.length ≤ 9223372036854775807 ∧ (Rd W a0 (cB bs) ∧ (a0 = none → cap = 0)) := by
  obtain ⟨fuel, hf⟩ := h
  rcases open_ints Tryz.underlying41 Tryz.underlying5 (by kernel_rfl) hf with ⟨hcs, _⟩ | ⟨x, l, c, zs, hcs, _, hl, hm, hz, _, hcell, hwz⟩
  · simp [Value.cells] at hcs
    obtain ⟨rfl, rfl, rfl⟩ := hcs
    exact ⟨[], rfl, Nat.zero_le _, Nat.zero_le _, rd_nil _ _, fun _ => rfl⟩
  · simp [Value.cells] at hcs
    obtain ⟨rfl, rfl, rfl⟩ := hcs
    have hzl : len ≤ zs.length := by split at hz <;> omega
    refine ⟨(zs.take len).map fun z => UInt8.ofNat z.toNat, by simp; omega, by simp; omega, by simp; unfold maxLen at hm; omega, ?_, fun e => by cases e⟩
    intro i hi
    rw [cB_length] at hi
    have hi' : i < len := by simp at hi; omega
    obtain ⟨b, off, rfl, hc⟩ := ints_at hcell (show 0 < zs.length by omega)
    refine ⟨b, off, rfl, ?_⟩
    have hiz : i < zs.length := by omega
    rw [hc i hiz]
    have hb := bounds_u8 (hwz zs[i] (List.getElem_mem hiz))
    simp only [cB, List.getD_eq_getElem?_getD, List.getElem?_eq_getElem hiz, Option.getD_some, List.getElem_map, List.getElem_take, UInt8.toNat_ofNat']
    congr 2
    omega
end Go.Proofs.YteaaijhppmkfeaaGreatDoor
