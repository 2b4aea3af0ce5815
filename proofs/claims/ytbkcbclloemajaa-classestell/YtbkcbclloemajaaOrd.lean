/- The library's sort of numbers of 32 bits, its first parts: what lies in the row, and cmp.Less. -/
import Derived.WalkKit
import Derived.WalkSpells
import Derived.WalkLawsBesides
import Derived.WalkSmall
import Derived.BigGuard
import Derived.BigCall
import Derived.CellFam
import Derived.Deep.Draws
import Derived.Deep.QuietTactic
import Derived.BigQuiet
import Derived.Sort.AtCall
import Derived.Sort.Row
import Derived.Sort.LotA
import Derived.Sort.LotB
import Derived.Sort.LotC
import Derived.Sort.LotD3
import Derived.Sort.WalkA
import Derived.Sort.WalkB3
import Derived.Test.YtbkcbclloemajaaProg
namespace Go.Proofs.Ytbkcbclloemajaa
open Go.RowKit

/-- W is w0 but for the cells of one row, which hold d, and for what was made since. -/
structure Rw (w0 : World) (b off : Nat) (d : Array Int) (W : World) : Prop where
  cell : ∀ j, j < d.size → W.cell? ⟨b, off + j, none⟩ = some (.int .i32 d[j]!)
  froz : ∀ j, j < d.size → W.frozen? ⟨b, off + j, none⟩ = false
  grown : w0.grownBy W (some b)
  lt : b < w0.heap.size
  rest : ∃ c0 c t fr, w0.heap[b]? = some (.cells c0 t fr) ∧ W.heap[b]? = some (.cells c t fr) ∧ c.size = c0.size

theorem Rw.start {w : World} {b off : Nat} {d : Array Int} {c : Array Value} {t : TypeId} {fr : Nat × Nat} (hb : w.heap[b]? = some (.cells c t fr))
    (h1 : ∀ j, j < d.size → w.cell? ⟨b, off + j, none⟩ = some (.int .i32 d[j]!)) (h2 : ∀ j, j < d.size → w.frozen? ⟨b, off + j, none⟩ = false) : Rw w b off d w :=
  ⟨h1, h2, ⟨rfl, rfl, rfl, Nat.le_refl _, fun _ _ _ => rfl⟩, (Array.getElem?_eq_some_iff.1 hb).1, c, c, t, fr, hb, hb, rfl⟩
theorem Rw.draw {w0 : World} {b off : Nat} {d : Array Int} {W : World} (h : Rw w0 b off d W) (n : Nat) : Rw w0 b off d (W.drewN n) :=
  ⟨h.cell, h.froz, ⟨h.grown.os, h.grown.tape, h.grown.output, h.grown.size, h.grown.block⟩, h.lt, h.rest⟩
theorem Rw.draw1 {w0 : World} {b off : Nat} {d : Array Int} {W : World} (h : Rw w0 b off d W) : Rw w0 b off d W.drew :=
  ⟨h.cell, h.froz, ⟨h.grown.os, h.grown.tape, h.grown.output, h.grown.size, h.grown.block⟩, h.lt, h.rest⟩
/-- What is made, and what turns behind the row's beginning, leaves the row. -/
theorem Rw.later {w0 : World} {b off : Nat} {d : Array Int} {W W' : World} (h : Rw w0 b off d W) (hg : RowKit.Below w0.heap.size W W') : Rw w0 b off d W' := by
  obtain ⟨c0, c, t, fr, h1, h2, h3⟩ := h.rest
  have hb := hg.block b h.lt
  exact ⟨fun j hj => (World.cell?_of_block (a := ⟨b, off + j, none⟩) hb).trans (h.cell j hj), fun j hj => (World.frozen?_of_block (a := ⟨b, off + j, none⟩) hb).trans (h.froz j hj),
    ⟨hg.os.trans h.grown.os, hg.tape.trans h.grown.tape, hg.output.trans h.grown.output, Nat.le_trans h.grown.size hg.size, fun k hk hn => (hg.block k hk).trans (h.grown.block k hk hn)⟩, h.lt,
    c0, c, t, fr, h1, hb.trans h2, h3⟩
theorem Rw.alloc {w0 : World} {b off : Nat} {d : Array Int} {W : World} (h : Rw w0 b off d W) (o : Obj) : Rw w0 b off d (W.alloc o) :=
  h.later ((RowKit.Below.refl _ W).alloc h.grown.size o)
theorem Rw.set {w0 : World} {b off : Nat} {d : Array Int} {W : World} (h : Rw w0 b off d W) {i : Nat} (hi : i < d.size) (x : Int) :
    Rw w0 b off (d.setIfInBounds i x) (W.setCell ⟨b, off + i, none⟩ (.int .i32 x)) := by
  obtain ⟨c0, c, t, fr, h1, h2, h3⟩ := h.rest
  rw [Sort.setCell_eq]
  have hs : (d.setIfInBounds i x).size = d.size := Array.size_setIfInBounds
  have hci : ∀ j, j < d.size → c[off + j]? = some (.int .i32 d[j]!) := by
    intro j hj
    have := h.cell j hj
    simp [World.cell?, h2] at this
    exact this
  refine ⟨fun j hj => ?_, fun j hj => ?_, ⟨h.grown.os, h.grown.tape, h.grown.output, by simp [Sort.mapBlock]; exact h.grown.size, fun k hk hn => ?_⟩, h.lt, c0, c.setIfInBounds (off + i) (.int .i32 x), t, fr, h1, ?_, by simpa using h3⟩
  · rw [hs] at hj
    rw [Sort.cell?_mapBlock W b _ _ h2, Array.getElem?_setIfInBounds]
    by_cases hij : off + i = off + j
    · obtain rfl : i = j := by omega
      have hlt : off + i < c.size := (Array.getElem?_eq_some_iff.1 (hci i hi)).1
      rw [if_pos rfl, if_pos hlt, Sort.getElem!_set_same d i x hi]
    · rw [if_neg hij, hci j hj, Sort.getElem!_set_other d i j x (by omega)]
  · rw [hs] at hj
    rw [Sort.frozen?_mapBlock]
    exact h.froz j hj
  · have hne : b ≠ k := fun e => hn (by rw [e])
    rw [← h.grown.block k hk hn]
    simp [Sort.mapBlock, Array.getElem?_modify, hne]
  · simp [Sort.mapBlock, Array.getElem?_modify, h2, Sort.onCells]
/-- Two change places. -/
theorem Rw.swap {w0 : World} {b off : Nat} {d : Array Int} {W : World} (h : Rw w0 b off d W) {i j : Nat} (hi : i < d.size) (hj : j < d.size) {x y : Int} (hx : x = d[j]!) (hy : y = d[i]!) :
    Rw w0 b off (Sort.swp d i j) ((W.setCell ⟨b, off + i, none⟩ (.int .i32 x)).setCell ⟨b, off + j, none⟩ (.int .i32 y)).drew := by
  subst hx hy
  exact ((h.set hi _).set (by rw [Array.size_setIfInBounds]; exact hj) _).draw1
/-- The row's cells under a letter. -/
theorem Rw.fam {w0 : World} {b off : Nat} {d : Array Int} {W : World} (h : Rw w0 b off d W) {n : Nat} (hn : d.size = n) :
    ∃ G : Nat → Int, Hid (∀ t, G t = d[t]!) ∧ (∀ t, t < n → W.cell? ⟨b, off + t, none⟩ = some (.int .i32 (G t))) ∧ ∀ t, t < n → W.frozen? ⟨b, off + t, none⟩ = false := by
  subst hn
  exact ⟨fun t => d[t]!, fun _ => rfl, h.cell, h.froz⟩

abbrev lt32 : Int → Int → Bool := Sort.ltInt

set_option maxHeartbeats 1000000 in
theorem nan_any (x : Int) (w : World) : Calls Try.prog 60 #[.int .i32 x] w fun e w' => e = .returned (.bool false) ∧ w' = w := by
  go_enter Try.func60, Try.ntmps60
  go_wp2
  go_ret
  exact ⟨by simp, rfl⟩
set_option maxHeartbeats 1000000 in
theorem less_any (x y : Int) (w : World) : Calls Try.prog 72 #[.int .i32 x, .int .i32 y] w fun e w' => e = .returned (.bool (Sort.ltInt x y)) ∧ w' = w := by
  go_enter Try.func72, Try.ntmps72
  go_wp2_with (go_at_call 60; refine (nan_any _ _).mono ?_; rintro e w' ⟨rfl, rfl⟩)
  go_ret
  exact ⟨rfl, rfl⟩

theorem hid {p : Prop} (h : p) : Hid p := h

set_option maxRecDepth 100000 in
set_option maxHeartbeats 4000000 in
theorem ins_any (w0 : World) (b off cap : Nat) (d : Array Int) (i0 j0 : Nat) (W : World) (h : Rw w0 b off d W) (hij : i0 ≤ j0) (hj : j0 ≤ d.size) (hs : d.size ≤ 1000000) :
    Calls Try.prog 66 #[.slice (some ⟨b, off, none⟩) d.size cap, .int .i64 i0, .int .i64 j0] W fun e W' => e = .returned (.tuple #[]) ∧ Rw w0 b off (Sort.insertionSort Sort.ltInt d i0 j0) W' := by
  have hn : Hid (d.size = d.size) := rfl
  generalize hN : d.size = N at hj hs hn ⊢
  go_enter Try.func66, Try.ntmps66
  go_wp2
  go_loopw [6] (fun v wr => ∃ (i : Nat) (dk : Array Int), v = .int .i64 (i : Int) ∧ i0 < i ∧ i ≤ j0 + 1 ∧ Hid (dk.size = N) ∧ Rw w0 b off dk wr ∧ Hid (Sort.insOuter Sort.ltInt i0 j0 i dk = Sort.insertionSort Sort.ltInt d i0 j0)) (fun v _ => j0 + 1 - (intOf v).toNat)
  case atStart => exact ⟨i0 + 1, d, by go_num, by omega, by omega, hN, h, rfl⟩
  case round =>
    obtain ⟨i, dk, rfl, h1, h2, hk, hr, HO⟩ := hrel
    by_cases hlt : i < j0
    · go_wp2
      go_loopw [7] (fun v wq => ∃ (j : Nat) (dj : Array Int), v = .int .i64 (j : Int) ∧ i0 ≤ j ∧ j ≤ i ∧ Hid (dj.size = N) ∧ Rw w0 b off dj wq ∧ Hid (Sort.insInner Sort.ltInt i0 j dj = Sort.insInner Sort.ltInt i0 i dk)) (fun v _ => (intOf v).toNat)
      case atStart => exact ⟨i, dk, rfl, by omega, Nat.le_refl _, hk, hr, rfl⟩
      case round =>
        obtain ⟨j, dj, rfl, h3, h4, hk2, hr2, HI⟩ := hrel
        obtain ⟨G, HG, hc, hf⟩ := hr2.fam hk2.out
        have out : Hid ((j ≤ i0 ∨ Sort.ltInt (G j) (G (j - 1)) = false) → Sort.insOuter Sort.ltInt i0 j0 (i + 1) dj = Sort.insertionSort Sort.ltInt d i0 j0) := by
          refine hid fun hs => ?_
          rw [← HO.out, Proofs.insOuter_go _ _ _ _ _ hlt, ← HI.out, Proofs.insInner_stop _ _ _ _ (by rw [← HG.out, ← HG.out]; exact hs)]
        by_cases hja : i0 < j
        · go_wp2_with fail
          go_big_quiet (first | (go_at_call 72; refine Calls.quiet_of_same (less_any _ _ _)))
          go_wp2_with fail
          · have hl : Hid (Sort.ltInt (G j) (G (j - 1)) = true) := by assumption
            replace hr2 := hr2.draw nq
            replace hc : ∀ t, t < N → (wr.drewN nq).cell? ⟨b, off + t, none⟩ = some (.int .i32 (G t)) := hc
            replace hf : ∀ t, t < N → (wr.drewN nq).frozen? ⟨b, off + t, none⟩ = false := hf
            generalize wr.drewN nq = wq at *
            go_region
            have hr3 := hr2.swap (i := j) (j := j - 1) (by rw [hk2.out]; omega) (by rw [hk2.out]; omega) (HG.out (j - 1)) (HG.out j)
            generalize ((wq.setCell ⟨b, off + j, none⟩ (.int .i32 (G (j - 1)))).setCell ⟨b, off + (j - 1), none⟩ (.int .i32 (G j))).drew = wn at *
            go_wp2
            go_roundw
            case rel => exact ⟨j - 1, Sort.swp dj j (j - 1), by go_num, by omega, by omega, hid (by rw [Sort.size_swp]; exact hk2.out), hr3, hid (by rw [← HI.out, Proofs.insInner_go _ _ _ _ hja (by rw [← HG.out, ← HG.out]; exact hl.out)])⟩
            case measure => simp [intOf]; omega
          · have hl : Sort.ltInt (G j) (G (j - 1)) = false := by assumption
            go_wp2
            go_roundw
            case rel => exact ⟨i + 1, dj, by go_num, by omega, by omega, hk2, hr2.draw nq, out.out (.inr hl)⟩
            case measure => simp [intOf]; omega
        · have hd : decide ((i0 : Int) < (j : Int)) = false := by simp; omega
          go_wp2_with fail
          go_big_quiet (first | (go_at_call 72; refine Calls.quiet_of_same (less_any _ _ _)))
          go_wp2
          go_roundw
          case rel => exact ⟨i + 1, dj, by go_num, by omega, by omega, hk2, hr2.draw nq, out.out (.inl (by omega))⟩
          case measure => simp [intOf]; omega
    · go_wp2
      go_end0
      refine ⟨rfl, ?_⟩
      rw [← HO.out, Proofs.insOuter_stop _ _ _ _ _ hlt]
      exact hr
end Go.Proofs.Ytbkcbclloemajaa
