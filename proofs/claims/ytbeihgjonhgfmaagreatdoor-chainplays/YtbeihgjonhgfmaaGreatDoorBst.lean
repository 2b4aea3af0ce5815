/- A slice of steps that came in reads as its steps. -/
import Derived.Test.YtbeihgjonhgfmaaGreatDoorBase
import Derived.Test.YtbeihgjonhgfmaaGreatDoorCho
import Derived.Deep.SlicePairs
namespace Go.Proofs.YtbeihgjonhgfmaaGreatDoor
open Go.ChangeShapes Go.WideShapes Go.ChangeAt Go.RowKit
theorem fields29 : ∃ f0 f1 f2 : Field, Tryz.prog.underlying 29 = some (.struct #[f0, f1, f2]) ∧ (f0.offset = 0 ∧ f1.offset = 1 ∧ f2.offset = 2) ∧ (f0.type = 4 ∧ f1.type = 9 ∧ f2.type = 9) := ⟨_, _, _, Tryz.underlying29, ⟨rfl, rfl, rfl⟩, ⟨rfl, rfl, rfl⟩⟩
theorem cells29 : Tryz.prog.cellsOf 29 = 3 ∧ Tryz.prog.cellsOf 4 = 1 ∧ Tryz.prog.cellsOf 9 = 1 := ⟨by kernel_rfl, by kernel_rfl, by kernel_rfl⟩
set_option maxRecDepth 100000 in
theorem sts_of_trod {H : Type} {enc : TypeId × Value → H} {W : World} {sp : Nat → Bool} {held : Bool} {a0 : Option Addr} {len cap : Nat} {d : DataW H} {p : List MemPlace}
    (h : DataW.Trod enc Tryz.prog W 0 sp held 22 (.slice a0 len cap) d p) : ∃ l : List C.Stp, len = l.length ∧ l.length ≤ cap ∧ l.length ≤ 9223372036854775807 ∧ (0 < l.length → ∃ sb sof, a0 = some ⟨sb, sof, none⟩ ∧ C.RdS W sb sof l) := by
  obtain ⟨fuel, hf⟩ := h
  obtain ⟨f0, f1, f2, hu, ⟨o0, o1, o2⟩, t0, t1, t2⟩ := fields29
  obtain ⟨ce, c4, c9⟩ := cells29
  rcases Go.Deep.open_slice Tryz.underlying22 hf with ⟨hcs, _⟩ | ⟨a, l', c', m, n, D, Pl, hcs, hb, hl, hm, hmm, _, hx⟩
  · simp [Value.cells] at hcs
    obtain ⟨rfl, rfl, rfl⟩ := hcs
    exact ⟨[], rfl, Nat.zero_le _, Nat.zero_le _, fun h => by simp at h⟩
  · simp [Value.cells] at hcs
    obtain ⟨rfl, rfl, rfl⟩ := hcs
    have hlm : len ≤ m := by rw [hmm]; split <;> omega
    have each : ∀ i, i < m → ∃ q : C.Stp, W.cell? (a.add (i * 3)) = some (.bool q.1) ∧ W.cell? (a.add (i * 3 + 1)) = some (tx q.2.1) ∧ W.cell? (a.add (i * 3 + 2)) = some (tx q.2.2) ∧ q.2.1.length ≤ 9223372036854775807 ∧ q.2.2.length ≤ 9223372036854775807 := by
      intro i hi
      obtain ⟨cs', h1, h2⟩ := hx i hi
      rw [ce] at h1
      obtain ⟨_, hlen, hcell⟩ := World.cells?_some h1
      obtain ⟨xs, k, hk, hxy, _, hxl, hf⟩ := DataW.trod_struct hu h2
      match xs, hxl, cs', hlen with
      | [y0, y1, y2], _, [v0, v1, v2], _ =>
        have g0 := hf 0 f0 rfl
        have g1 := hf 1 f1 rfl
        have g2 := hf 2 f2 rfl
        simp [o0, o1, o2, t0, t1, t2, c4, c9] at g0 g1 g2
        have e0 := hcell 0 (by omega)
        have e1 := hcell 1 (by omega)
        have e2 := hcell 2 (by omega)
        rw [Go.Deep.add_add] at e0 e1 e2
        simp at e0 e1 e2
        obtain ⟨b0, eb, _⟩ := DataW.trod_bool Tryz.underlying4 g0
        obtain ⟨s1, es1, _, w1⟩ := DataW.trod_string Tryz.underlying9 g1
        obtain ⟨s2, es2, _, w2⟩ := DataW.trod_string Tryz.underlying9 g2
        simp at eb es1 es2
        subst eb es1 es2
        refine ⟨(b0, s1.data.toList, s2.data.toList), by simpa using e0, by simpa using e1, by simpa using e2, ?_, ?_⟩
        · unfold maxLen at w1; exact w1
        · unfold maxLen at w2; exact w2
    obtain ⟨f, hf⟩ := Go.Deep.choose_lt each
    refine ⟨(List.range len).map f, by simp, by simp; omega, by simp; unfold maxLen at hm; omega, fun hp => ?_⟩
    have hlen0 : 0 < len := by simpa using hp
    have hspot : a.spot = none := by
      have := World.cell?_spot (hf 0 (by omega)).1
      simpa [Addr.add] using this
    obtain ⟨b, off, spot⟩ := a
    simp only at hspot
    subst hspot
    refine ⟨b, off, rfl, ?_, fun i hi => ?_⟩
    · have h0 := (hf 0 (by omega)).1
      rw [Addr.add_mid] at h0
      unfold World.cell? at h0
      cases hh : W.heap[b]? with
      | none => simp [hh] at h0
      | some o => exact (Array.getElem?_eq_some_iff.1 hh).1
    · have hi' : i < len := by simpa using hi
      have hs := hf i (by omega)
      rw [Addr.add_mid, Addr.add_mid, Addr.add_mid, ← Nat.add_assoc, ← Nat.add_assoc] at hs
      simp only [List.getElem_map, List.getElem_range]
      exact hs
end Go.Proofs.YtbeihgjonhgfmaaGreatDoor
