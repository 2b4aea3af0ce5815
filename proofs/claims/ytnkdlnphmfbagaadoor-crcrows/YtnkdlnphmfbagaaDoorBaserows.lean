/- A slice of numbers and a slice of texts that came in: what the walk of CrcRows is told of them. -/
import Derived.Test.YtnkdlnphmfbagaaDoorBase
import Derived.Test.YtnkdlnphmfbagaaDoorRowsw
import Derived.SliceStrings
namespace Go.Proofs.YtnkdlnphmfbagaaDoor
open Go.ChangeShapes Go.WideShapes Go.ChangeAt Go.RowKit

theorem rdn_of_trod {H : Type} {enc : TypeId × Value → H} {W : World} {base : Nat} {sp : Nat → Bool} {held : Bool} {a0 : Option Addr} {len cap : Nat} {d : DataW H} {p : List MemPlace}
    (h : DataW.Trod enc Tryd.prog W base sp held 44 (.slice a0 len cap) d p) : ∃ ns : List Nat, len = ns.length ∧ ns.length ≤ cap ∧ ns.length ≤ 9223372036854775807 ∧ (Rdn W a0 ns ∧ ∀ i, ns.getD i 0 < 18446744073709551616) := by
  obtain ⟨fuel, hf⟩ := h
  rcases open_ints Tryd.underlying44 Tryd.underlying23 (by kernel_rfl) hf with ⟨hcs, _⟩ | ⟨x, l, c, zs, hcs, _, hl, hm, hz, _, hcell, hwz⟩
  · simp [Value.cells] at hcs
    obtain ⟨rfl, rfl, rfl⟩ := hcs
    exact ⟨[], rfl, Nat.zero_le _, Nat.zero_le _, fun i hi => by simp at hi, fun i => by simp⟩
  · simp [Value.cells] at hcs
    obtain ⟨rfl, rfl, rfl⟩ := hcs
    have hzl : len ≤ zs.length := by split at hz <;> omega
    refine ⟨(zs.take len).map Int.toNat, by simp; omega, by simp; omega, by simp; unfold maxLen at hm; omega, ?_, ?_⟩
    · intro i hi
      have hi' : i < len := by simp at hi; omega
      obtain ⟨b, off, rfl, hc⟩ := ints_at hcell (show 0 < zs.length by omega)
      refine ⟨b, off, rfl, ?_⟩
      have hiz : i < zs.length := by omega
      rw [hc i hiz]
      have hb := bounds_u64 (hwz zs[i] (List.getElem_mem hiz))
      have e : ((zs.take len).map Int.toNat).getD i 0 = zs[i].toNat := by
        rw [List.getD_eq_getElem?_getD, List.getElem?_map, List.getElem?_take, if_pos hi', List.getElem?_eq_getElem hiz]; rfl
      rw [e, List.getD_eq_getElem?_getD, List.getElem?_eq_getElem hiz, Option.getD_some]
      congr 2
      omega
    · intro i
      by_cases hi' : i < len
      · have hiz : i < zs.length := by omega
        have hb := bounds_u64 (hwz zs[i] (List.getElem_mem hiz))
        have e : ((zs.take len).map Int.toNat).getD i 0 = zs[i].toNat := by
          rw [List.getD_eq_getElem?_getD, List.getElem?_map, List.getElem?_take, if_pos hi', List.getElem?_eq_getElem hiz]; rfl
        rw [e]
        omega
      · rw [List.getD_eq_getElem?_getD, List.getElem?_map, List.getElem?_take, if_neg hi']
        simp

theorem strs_at {W : World} {a : Addr} {ss : List ByteArray} (h : ∀ i, i < ss.length → W.cell? (a.add i) = some (.string (ss.getD i ByteArray.empty))) (hp : 0 < ss.length) :
    ∃ b off, a = ⟨b, off, none⟩ ∧ ∀ j, j < ss.length → W.cell? ⟨b, off + j, none⟩ = some (.string (ss.getD j ByteArray.empty)) := by
  obtain ⟨b, off, spot⟩ := a
  have hspot : spot = none := by simpa [Addr.add] using World.cell?_spot (h 0 hp)
  subst hspot
  exact ⟨b, off, rfl, fun j hj => by rw [← Go.WideShapes.add_plain]; exact h j hj⟩

theorem rds_of_trod {H : Type} {enc : TypeId × Value → H} {W : World} {base : Nat} {sp : Nat → Bool} {held : Bool} {a0 : Option Addr} {len cap : Nat} {d : DataW H} {p : List MemPlace}
    (h : DataW.Trod enc Tryd.prog W base sp held 45 (.slice a0 len cap) d p) : ∃ ss : List ByteArray, len = ss.length ∧ ss.length ≤ cap ∧ ss.length ≤ 9223372036854775807 ∧ (Rds W a0 ss ∧ ∀ i, (ss.getD i ByteArray.empty).size ≤ 9223372036854775807) := by
  obtain ⟨fuel, hf⟩ := h
  rcases open_strings Tryd.underlying45 Tryd.underlying9 (by kernel_rfl) hf with ⟨hcs, _⟩ | ⟨x, l, c, zs, hcs, _, hl, hm, hz, _, hcell, hwz⟩
  · simp [Value.cells] at hcs
    obtain ⟨rfl, rfl, rfl⟩ := hcs
    exact ⟨[], rfl, Nat.zero_le _, Nat.zero_le _, fun i hi => by simp at hi, fun i => by simp⟩
  · simp [Value.cells] at hcs
    obtain ⟨rfl, rfl, rfl⟩ := hcs
    have hzl : len ≤ zs.length := by split at hz <;> omega
    refine ⟨zs.take len, by simp; omega, by simp; omega, by simp; unfold maxLen at hm; omega, ?_, ?_⟩
    · intro i hi
      have hi' : i < len := by simp at hi; omega
      obtain ⟨b, off, rfl, hc⟩ := strs_at hcell (show 0 < zs.length by omega)
      refine ⟨b, off, rfl, ?_⟩
      rw [hc i (by omega), List.getD_eq_getElem?_getD, List.getD_eq_getElem?_getD, List.getElem?_take, if_pos hi']
    · intro i
      rw [List.getD_eq_getElem?_getD, List.getElem?_take]
      split
      · by_cases hiz : i < zs.length
        · rw [List.getElem?_eq_getElem hiz, Option.getD_some]
          have := hwz zs[i] (List.getElem_mem hiz)
          unfold maxLen at this
          omega
        · rw [List.getElem?_eq_none (by omega)]
          simp
      · simp
end Go.Proofs.YtnkdlnphmfbagaaDoor
