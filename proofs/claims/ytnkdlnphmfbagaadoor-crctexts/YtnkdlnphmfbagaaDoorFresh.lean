/- What crc.freshCopy answers: a new row that holds the bytes, with room behind them; nothing that was there has turned. -/
import Derived.Test.YtnkdlnphmfbagaaDoorMore
import Derived.Laws.CopyOwn
namespace Go.Proofs.YtnkdlnphmfbagaaDoor
open Go.RowKit

def cellsOf (bs : List UInt8) : List Value := bs.map fun c => Value.int .u8 (c.toNat : Int)
theorem cellsOf_length (bs : List UInt8) : (cellsOf bs).length = bs.length := by simp [cellsOf]
theorem cellsOf_one (bs : List UInt8) : ∀ u ∈ cellsOf bs, u.oneCell' = true := by
  intro u hu
  obtain ⟨_, _, rfl⟩ := List.mem_map.1 hu
  rfl
theorem cellsOf_append (xs bs : List UInt8) : cellsOf (xs ++ bs) = cellsOf xs ++ cellsOf bs := by simp [cellsOf]
theorem cellsOf_get {bs : List UInt8} {j : Nat} {v : Value} (h : (cellsOf bs)[j]? = some v) : ∃ hj : j < bs.length, v = .int .u8 (bs[j].toNat : Int) := by
  unfold cellsOf at h
  rw [List.getElem?_map] at h
  by_cases hj : j < bs.length
  · rw [List.getElem?_eq_getElem hj] at h
    simp at h
    exact ⟨hj, h.symm⟩
  · rw [List.getElem?_eq_none (by omega)] at h
    simp at h

/-- The value v owns a row of bytes that the call itself made, from block base on. -/
def Own (w : World) (base : Nat) (v : Value) (bs : List UInt8) : Prop := w.ownsRow base 5 1 v bs.length (cellsOf bs)

theorem Rd.cell {w : World} {ao : Option Addr} {bs : List UInt8} (h : Rd w ao bs) (hp : 0 < bs.length) : ∃ ad, ao = some ad ∧ ∀ j v, (cellsOf bs)[j]? = some v → w.cell? (ad.add j) = some v := by
  obtain ⟨b, off, rfl, _⟩ := h 0 hp
  refine ⟨_, rfl, fun j v hv => ?_⟩
  obtain ⟨hj, rfl⟩ := cellsOf_get hv
  obtain ⟨b', off', e, hc⟩ := h j hj
  simp only [Option.some.injEq, Addr.mk.injEq] at e
  obtain ⟨rfl, rfl, _⟩ := e
  unfold Addr.add
  split
  · simp_all
  · exact hc

theorem Rd.later {w wx : World} {ao : Option Addr} {bs : List UInt8} (h : Rd w ao bs) (hb : Below w.heap.size w wx) : Rd wx ao bs := fun i hi =>
  let ⟨b, off, e, hc⟩ := h i hi
  ⟨b, off, e, cell_later hb hc⟩

theorem Tab.later {w wx : World} (h : Tab w) (hb : Below w.heap.size w wx) : Tab wx := fun i hi => cell_later hb (h i hi)

theorem Own.rd {w : World} {base : Nat} {v : Value} {bs : List UInt8} (h : Own w base v bs) : ∃ ao cap, v = .slice ao bs.length cap ∧ bs.length ≤ cap ∧ Rd w ao bs := by
  obtain ⟨_, h | ⟨g, cap, cur, rfl, _, hg, hle, _, hsz, hxs⟩⟩ := h
  · obtain ⟨rfl, hn⟩ := h
    have : bs = [] := List.eq_nil_of_length_eq_zero hn
    subst this
    exact ⟨none, 0, rfl, Nat.le_refl _, fun i h => by simp at h⟩
  · refine ⟨_, cap, rfl, hle, fun i hi => ⟨g, 0, rfl, ?_⟩⟩
    have e : cur.toList[i]? = some (.int .u8 (bs[i].toNat : Int)) := by
      have h1 : (cur.toList.take (bs.length * 1))[i]? = (cellsOf bs)[i]? := by rw [hxs]
      rw [List.getElem?_take, if_pos (by omega)] at h1
      rw [h1]
      simp [cellsOf, hi]
    simp only [World.cell?, hg, Nat.zero_add]
    simpa using e

theorem mk_len (n : Nat) : (madeCells #[Value.int .u8 0] n).toList.length = n := by rw [Array.length_toList, size_madeCells]
theorem Tryd.info5 : (Tryd.prog.info? 5).map (fun i => (i.zero, i.size, i.bytes)) = some (some (.int .u8 0), 1, 1) := by kernel_rfl

set_option maxHeartbeats 400000 in
theorem fresh_any (ao : Option Addr) (cap r : Nat) (bs : List UInt8) (w : World) (hl : bs.length ≤ 1000000) (hr : r ≤ 1000000) (hc : Rd w ao bs) :
    Calls Tryd.prog 22 #[.slice ao bs.length cap, .int .i64 r] w fun e w' => e = .returned (.slice (some ⟨w.heap.size, 0, none⟩) bs.length (bs.length + r)) ∧
      Own w' w.heap.size (.slice (some ⟨w.heap.size, 0, none⟩) bs.length (bs.length + r)) bs ∧ Below w.heap.size w w' := by
  obtain ⟨i0, hi, hz0, hz1, hz2⟩ := info_parts Tryd.info5
  have hmk : ∀ wx : World, (Instr.makeSlice 22 (.int .i64 (bs.length : Int)) (.int .i64 ((bs.length : Int) + (r : Int)))).run Tryd.prog wx = .ok (.slice (some ⟨wx.heap.size, 0, none⟩) bs.length (bs.length + r)) (wx.alloc (.cells (madeCells #[.int .u8 0] (bs.length + r)) 5)) := by
    intro wx
    have := run_make (P := Tryd.prog) (w := wx) 22 5 i0 (.int .u8 0) Tryd.underlying22 hi hz0 .i64 .i64 (bs.length : Int) ((bs.length : Int) + (r : Int)) (by omega) (by omega) (by rw [hz2]; omega) (by omega)
    rw [this, hz1, show ((bs.length : Int) + (r : Int)).toNat = bs.length + r from by omega, Int.toNat_natCast, Nat.mul_one]
    rfl
  obtain ⟨cs, hcs⟩ : ∃ cs, cs = cellsOf bs := ⟨_, rfl⟩
  have hcl : cs.length = bs.length := by rw [hcs, cellsOf_length]
  have hc1 : ∀ u ∈ cs, u.oneCell' = true := by rw [hcs]; exact cellsOf_one bs
  have hcr : 0 < bs.length → ∃ ad, ao = some ad ∧ ∀ j v, cs[j]? = some v → (w.alloc (.cells (madeCells #[.int .u8 0] (bs.length + r)) 5)).cell? (ad.add j) = some v := by
    intro hp
    obtain ⟨ad, e, h⟩ := hc.cell hp
    refine ⟨ad, e, fun j v hv => ?_⟩
    rw [hcs] at hv
    exact cell_later ((Below.refl _ _).alloc (Nat.le_refl _) _) (h j v hv)
  have HCS : Hid (cs = cellsOf bs) := hcs
  clear hcs
  go_enter Tryd.func22, Tryd.ntmps22
  go_wp2_with (refine wpList_copy_splice rfl (.tmp 13) (.tmp 14) 22 22 rfl 5 Tryd.underlying22 (by kernel_rfl) (some ⟨w.heap.size, 0, none⟩) ao bs.length (bs.length + r) bs.length cap rfl rfl w.heap.size 0 (madeCells #[.int .u8 0] (bs.length + r)).toList 5 ?_ cs ?_ ?_ ?_ hc1 w.heap.size w ?_ (Nat.le_refl _) ?_)
  · rw [Array.toArray_toList]; exact heap_alloc_new _ _
  · rw [hcl]; exact (Nat.min_self _).symm
  · exact hcr
  · rw [mk_len]; omega
  · exact (Below.refl _ _).alloc (Nat.le_refl _) _
  · intro w' hg hb
    go_wp2
    go_ret
    refine ⟨rfl, ?_, hb⟩
    have hsp : (splice (madeCells #[.int .u8 0] (bs.length + r)).toList 0 cs).length = bs.length + r := by
      rw [length_splice _ _ _ (by rw [mk_len]; omega), mk_len]
    refine ⟨by rw [cellsOf_length, Nat.mul_one], .inr ⟨w.heap.size, bs.length + r, _, rfl, Nat.le_refl _, hg.out, by omega, by unfold maxLen; omega, by simpa using hsp, ?_⟩⟩
    rw [← HCS.out]
    simp [splice, hcl]
end Go.Proofs.YtnkdlnphmfbagaaDoor
