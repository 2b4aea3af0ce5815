/- What every row of this seat takes of its start: a slice of ranges that came in reads as its ranges. -/
import Derived.Test.YtbkcbclloemajaaRows
import Derived.Test.YtbkcbclloemajaaEnds
import Derived.Deep.Slices
import Derived.ProofKit
import Derived.OpenShut
import Derived.Stop.Joined
import Derived.Deep.SlicePairs
namespace Go.Proofs.Ytbkcbclloemajaa
open Go.ChangeShapes Go.WideShapes Go.ChangeAt Go.RowKit

theorem own : ownKnob Try.prog.godebug = none := by kernel_rfl
theorem laidOut : laidOutB Try.prog = true := by kernel_rfl

theorem fields48 : ∃ f0 f1 : Field, Try.prog.underlying 48 = some (.struct #[f0, f1]) ∧ f0.offset = 0 ∧ f1.offset = 1 ∧ f0.type = 21 ∧ f1.type = 21 := ⟨_, _, Try.underlying48, rfl, rfl, rfl, rfl⟩

/-- A slice of ranges that came in. -/
theorem rdr_of_trod {H : Type} {enc : TypeId × Value → H} {W : World} {base : Nat} {sp : Nat → Bool} {held : Bool} {a0 : Option Addr} {len cap : Nat} {d : DataW H} {p : List MemPlace}
    (h : DataW.Trod enc Try.prog W base sp held 35 (.slice a0 len cap) d p) : ∃ xs : List S.R, len = xs.length ∧ xs.length ≤ cap ∧ xs.length ≤ 9223372036854775807 ∧ (RdR W a0 xs ∧ (a0 = none → cap = 0) ∧ ∀ r ∈ xs, -2147483648 ≤ r.1 ∧ r.1 ≤ 2147483647 ∧ -2147483648 ≤ r.2 ∧ r.2 ≤ 2147483647) := by
  obtain ⟨fuel, hf⟩ := h
  obtain ⟨f0, f1, hu, o0, o1, t0, t1⟩ := fields48
  rcases Go.Deep.open_slice_pairs Try.underlying35 hu (by kernel_rfl) o0 o1 (by rw [t0]; kernel_rfl) (by rw [t1]; kernel_rfl) hf with ⟨hcs, _⟩ | ⟨a, l, c, m, n, V0, V1, D0, D1, P0, P1, hcs, _, hl, hm, hmm, _, hcell⟩
  · simp [Value.cells] at hcs
    obtain ⟨rfl, rfl, rfl⟩ := hcs
    exact ⟨[], rfl, Nat.zero_le _, Nat.zero_le _, rdr_nil _ _, fun _ => rfl, fun r hr => by cases hr⟩
  · simp [Value.cells] at hcs
    obtain ⟨rfl, rfl, rfl⟩ := hcs
    have hlm : len ≤ m := by rw [hmm]; split <;> omega
    have hint : ∀ i, i < m → ∃ x y : Int, W.cell? (a.add (i * 2)) = some (.int .i32 x) ∧ W.cell? (a.add (i * 2 + 1)) = some (.int .i32 y) ∧ (-2147483648 ≤ x ∧ x ≤ 2147483647 ∧ -2147483648 ≤ y ∧ y ≤ 2147483647) := by
      intro i hi
      obtain ⟨h0, h1, e0, e1⟩ := hcell i hi
      rw [t0] at e0
      rw [t1] at e1
      obtain ⟨x, ex, _, wx⟩ := DataW.trod_int Try.underlying21 e0
      obtain ⟨y, ey, _, wy⟩ := DataW.trod_int Try.underlying21 e1
      simp at ex ey
      rw [ex] at h0
      rw [ey] at h1
      have bx := bounds_i32 wx
      have byy := bounds_i32 wy
      exact ⟨x, y, h0, h1, bx.1, bx.2, byy.1, byy.2⟩
    refine ⟨(List.range len).map fun i => if hi : i < m then (Classical.choose (hint i hi), Classical.choose (Classical.choose_spec (hint i hi))) else (0, 0), by simp, by simp; omega, by simp; unfold maxLen at hm; omega, ?_, (fun e => by cases e), ?_⟩
    · intro i hi
      have hi' : i < len := by simpa using hi
      have him : i < m := by omega
      have hs := Classical.choose_spec (Classical.choose_spec (hint i him))
      have hspot : a.spot = none := by
        obtain ⟨x0, y0, h00, _⟩ := hint 0 (by omega)
        have := World.cell?_spot h00
        simpa [Addr.add] using this
      obtain ⟨b, off, spot⟩ := a
      simp only at hspot
      subst hspot
      refine ⟨b, off, rfl, ?_, ?_⟩
      · rw [← Addr.add_mid]
        simp only [List.getElem_map, List.getElem_range, him, dif_pos]
        exact hs.1
      · rw [Nat.add_assoc, ← Addr.add_mid]
        simp only [List.getElem_map, List.getElem_range, him, dif_pos]
        exact hs.2.1
    · intro r hr
      obtain ⟨i, hi, rfl⟩ := List.mem_map.1 hr
      have him : i < m := by have := List.mem_range.1 hi; omega
      have hs := Classical.choose_spec (Classical.choose_spec (hint i him))
      simp only [him, dif_pos]
      exact hs.2.2

/-- A slice of slices of ranges that came in. -/
theorem rds_of_trod {H : Type} {enc : TypeId × Value → H} {W : World} {base : Nat} {sp : Nat → Bool} {held : Bool} {a0 : Option Addr} {len cap : Nat} {d : DataW H} {p : List MemPlace}
    (h : DataW.Trod enc Try.prog W base sp held 22 (.slice a0 len cap) d p) : ∃ ls : List L3, len = ls.length ∧ ls.length ≤ cap ∧ ls.length ≤ 9223372036854775807 ∧ (RdS W a0 ls ∧ (a0 = none → cap = 0) ∧ ∀ q ∈ ls, q.2.2.length ≤ 9223372036854775807) := by
  obtain ⟨fuel, hf⟩ := h
  rcases Go.Deep.open_slice1 Try.underlying22 (by kernel_rfl) hf with ⟨hcs, _⟩ | ⟨a, l, c, m, n, V, D, Pl, hcs, _, hl, hm, hmm, _, hcell⟩
  · simp [Value.cells] at hcs
    obtain ⟨rfl, rfl, rfl⟩ := hcs
    exact ⟨[], rfl, Nat.zero_le _, Nat.zero_le _, fun i hi => by simp at hi, fun _ => rfl, fun r hr => by cases hr⟩
  · simp [Value.cells] at hcs
    obtain ⟨rfl, rfl, rfl⟩ := hcs
    have hlm : len ≤ m := by rw [hmm]; split <;> omega
    have hint : ∀ i, i < m → ∃ q : L3, W.cell? (a.add i) = some (.slice q.1 q.2.2.length q.2.1) ∧ RdR W q.1 q.2.2 ∧ q.2.2.length ≤ 9223372036854775807 := by
      intro i hi
      obtain ⟨h0, e0⟩ := hcell i hi
      have hform : ∃ ao l c, V i = .slice ao l c := by
        rcases DataW.trod_slice Try.underlying35 e0 with ⟨h1, _⟩ | ⟨a, l, c, _, _, _, _, h1, _⟩
        · simp at h1; exact ⟨_, _, _, h1⟩
        · simp at h1; exact ⟨_, _, _, h1⟩
      obtain ⟨ao, l, c, hv⟩ := hform
      rw [hv] at h0 e0
      obtain ⟨xs, rfl, _, h2, h3, _, _⟩ := rdr_of_trod (a0 := ao) (len := l) (cap := c) (d := D i) (p := Pl i) ⟨n, e0⟩
      exact ⟨(ao, c, xs), h0, h3, h2⟩
    refine ⟨(List.range len).map fun i => if hi : i < m then Classical.choose (hint i hi) else (none, 0, []), by simp, by simp; omega, by simp; unfold maxLen at hm; omega, ?_, (fun e => by cases e), ?_⟩
    · intro i hi
      have hi' : i < len := by simpa using hi
      have him : i < m := by omega
      have hs := Classical.choose_spec (hint i him)
      have hspot : a.spot = none := by
        obtain ⟨q, h00, _⟩ := hint 0 (by omega)
        have := World.cell?_spot h00
        simpa [Addr.add] using this
      obtain ⟨b, off, spot⟩ := a
      simp only at hspot
      subst hspot
      refine ⟨b, off, rfl, ?_, ?_⟩
      · rw [← Addr.add_mid]
        simp only [List.getElem_map, List.getElem_range, him, dif_pos]
        exact hs.1
      · simp only [List.getElem_map, List.getElem_range, him, dif_pos]
        exact hs.2.1
    · intro r hr
      obtain ⟨i, hi, rfl⟩ := List.mem_map.1 hr
      have him : i < m := by have := List.mem_range.1 hi; omega
      have hs := Classical.choose_spec (hint i him)
      simp only [him, dif_pos]
      exact hs.2.2
end Go.Proofs.Ytbkcbclloemajaa
