/- What every row of this seat takes of its start: the table lies as the program's text lays it; a slice of bytes that came in reads as bytes. -/
import Derived.Test.YtnkdlnphmfbagaaDoorRows
import Derived.Test.YtnkdlnphmfbagaaDoorFresh
import Derived.ProofKit
import Derived.LaidMore
import Derived.OpenShut
import Derived.ShutString
import Derived.Stop.Joined
import Derived.Lib.LaidTab
import Derived.Laws.IdiomArrays
namespace Go.Proofs.YtnkdlnphmfbagaaDoor
open Go.ChangeShapes Go.WideShapes Go.ChangeAt Go.RowKit

theorem own : ownKnob Tryd.prog.godebug = none := by kernel_rfl
theorem laidOut : laidOutB Tryd.prog = true := by kernel_rfl
def laid1 : List (String × DataW Unit) := [("hornbook/crc.fourShifts", Rows.laid_hornbook_crc_fourShifts)]
theorem gTab : Tryd.prog.globalNamed "hornbook/crc.fourShifts" = some 0 := by kernel_rfl
theorem tTab : (Tryd.prog.globals[0]?).map (·.type) = some 53 := by kernel_rfl

/-- The door's own heap meets the condition. -/
theorem door_met (os : Os) (args : Array Value) : laidMetH Tryd.prog laid1 ((World.doorLaid Tryd.prog 400 os).forCall (fun _ _ => 0) ⟨#[], args, []⟩).memory :=
  laidMetH_of_parts3 (fuel := 8) (laidMet_of_run' 8 (by kernel_rfl) (by kernel_rfl)) (by kernel_rfl) (by kernel_rfl)

/-- What the condition gives the walks: the table's cells. -/
theorem tab_of_laid {W : World} (h : laidMetH Tryd.prog laid1 W) : Tab W := by
  rw [MakeChecks.laidMetH_plain _ _ _ (by kernel_rfl)] at h
  have hT := Lib.tabIs_of_head (k := .u32) (zs := [0, 498536548, 997073096, 651767980, 1994146192, 1802195444, 1303535960, 1342533948, 3988292384, 4027552580, 3604390888, 3412177804, 2607071920, 2262029012, 2685067896, 3183342108]) gTab tTab Tryd.underlying53 Tryd.underlying30 (by kernel_rfl) (by kernel_rfl) h
  intro i hi
  rw [hT.cell gTab i hi]
  congr 2
  match i, hi with
  | 0, _ | 1, _ | 2, _ | 3, _ | 4, _ | 5, _ | 6, _ | 7, _ | 8, _ | 9, _ | 10, _ | 11, _ | 12, _ | 13, _ | 14, _ | 15, _ => rfl
  | n + 16, h => exact absurd h (by omega)

/-- A slice of bytes that came in: what the walks are told of it. -/
theorem rd_of_trod {H : Type} {enc : TypeId × Value → H} {W : World} {base : Nat} {sp : Nat → Bool} {held : Bool} {a0 : Option Addr} {len cap : Nat} {d : DataW H} {p : List MemPlace}
    (h : DataW.Trod enc Tryd.prog W base sp held 22 (.slice a0 len cap) d p) : ∃ bs : List UInt8, len = bs.length ∧ bs.length ≤ cap ∧ bs.length ≤ 9223372036854775807 ∧ Rd W a0 bs := by
  obtain ⟨fuel, hf⟩ := h
  rcases open_ints Tryd.underlying22 Tryd.underlying5 (by kernel_rfl) hf with ⟨hcs, _⟩ | ⟨x, l, c, zs, hcs, _, hl, hm, hz, _, hcell, hwz⟩
  · simp [Value.cells] at hcs
    obtain ⟨rfl, rfl, rfl⟩ := hcs
    exact ⟨[], rfl, Nat.zero_le _, Nat.zero_le _, fun i hi => by simp at hi⟩
  · simp [Value.cells] at hcs
    obtain ⟨rfl, rfl, rfl⟩ := hcs
    have hzl : len ≤ zs.length := by split at hz <;> omega
    refine ⟨(zs.take len).map fun z => UInt8.ofNat z.toNat, by simp; omega, by simp; omega, by simp; unfold maxLen at hm; omega, ?_⟩
    intro i hi
    have hi' : i < len := by simp at hi; omega
    obtain ⟨b, off, rfl, hc⟩ := ints_at hcell (show 0 < zs.length by omega)
    refine ⟨b, off, rfl, ?_⟩
    have hiz : i < zs.length := by omega
    rw [hc i hiz]
    have hb := bounds_u8 (hwz zs[i] (List.getElem_mem hiz))
    simp only [List.getD_eq_getElem?_getD, List.getElem?_eq_getElem hiz, Option.getD_some, List.getElem_map, List.getElem_take, UInt8.toNat_ofNat']
    congr 2
    omega

theorem nil_cap {H : Type} {enc : TypeId × Value → H} {W : World} {base : Nat} {sp : Nat → Bool} {held : Bool} {a0 : Option Addr} {len cap : Nat} {d : DataW H} {p : List MemPlace}
    (h : DataW.Trod enc Tryd.prog W base sp held 22 (.slice a0 len cap) d p) : a0 = none → cap = 0 := by
  intro e
  subst e
  obtain ⟨fuel, hf⟩ := h
  rcases open_ints Tryd.underlying22 Tryd.underlying5 (by kernel_rfl) hf with ⟨hcs, _⟩ | ⟨x, l, c, zs, hcs, _⟩
  · simp [Value.cells] at hcs
    exact hcs.2
  · simp [Value.cells] at hcs

theorem byte_of {n : Int} (h : (Lit.int .u8 n).wf = true) : ∃ y : UInt8, n = (y.toNat : Int) := by
  have hb := bounds_u8 h
  exact ⟨UInt8.ofNat n.toNat, by rw [UInt8.toNat_ofNat']; omega⟩

/-- An array of four bytes that came in. -/
theorem arr_of_trod {H : Type} {enc : TypeId × Value → H} {W : World} {b0 base : Nat} {r : Reach} {sp : Nat → Bool} {held : Bool} {v : Value} {d : DataW H} {p : List MemPlace}
    (hv : Value.okWide Tryd.prog W r b0 42 v) (h : DataW.Trod enc Tryd.prog W base sp held 42 v d p) :
    ∃ y0 y1 y2 y3 : UInt8, v = .agg #[.int .u8 (y0.toNat : Int), .int .u8 (y1.toNat : Int), .int .u8 (y2.toNat : Int), .int .u8 (y3.toNat : Int)] := by
  have c42 : Tryd.prog.cellsOf 42 = 4 := by kernel_rfl
  have c5 : Tryd.prog.cellsOf 5 = 1 := by kernel_rfl
  obtain ⟨cs, rfl, hsz, _⟩ : ∃ cs, v = .agg cs ∧ cs.size = Tryd.prog.cellsOf 42 ∧ Row.okWide Tryd.prog W r b0 42 cs := by
    simpa [Value.okWide, Tryd.underlying42] using hv
  rw [c42] at hsz
  obtain ⟨l⟩ := cs
  match l, hsz with
  | [c0, c1, c2, c3], _ =>
    obtain ⟨fuel, hf⟩ := h
    obtain ⟨z0, z1, z2, z3, m, _, hy0, hy1, hy2, hy3⟩ := trod_array4 Tryd.underlying42 c5 hf
    obtain ⟨x0, e0, _, w0⟩ := DataW.trod_int Tryd.underlying5 hy0
    obtain ⟨x1, e1, _, w1⟩ := DataW.trod_int Tryd.underlying5 hy1
    obtain ⟨x2, e2, _, w2⟩ := DataW.trod_int Tryd.underlying5 hy2
    obtain ⟨x3, e3, _, w3⟩ := DataW.trod_int Tryd.underlying5 hy3
    simp at e0 e1 e2 e3
    obtain ⟨y0, rfl⟩ := byte_of w0
    obtain ⟨y1, rfl⟩ := byte_of w1
    obtain ⟨y2, rfl⟩ := byte_of w2
    obtain ⟨y3, rfl⟩ := byte_of w3
    exact ⟨y0, y1, y2, y3, by rw [e0, e1, e2, e3]⟩
end Go.Proofs.YtnkdlnphmfbagaaDoor
