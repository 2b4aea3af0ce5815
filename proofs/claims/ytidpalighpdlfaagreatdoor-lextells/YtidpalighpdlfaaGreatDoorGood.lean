/- What utf.Good, At and Bytes answer, and the statements' own comparison of two lists. -/
import Derived.Test.YtidpalighpdlfaaGreatDoorRunes
import Derived.Deep.QuietTactic
import Derived.BigQuiet
import Derived.WalkSmall
namespace Go.Proofs.YtidpalighpdlfaaGreatDoor
open Go.RowKit Go.Shelf
attribute [local go_sem] Oper.semAt_some

set_option maxRecDepth 100000 in
set_option maxHeartbeats 4000000 in
theorem good_any (ao : Option Addr) (cap : Nat) (bs : List UInt8) (hl : bs.length ≤ 100000) (hcap : bs.length ≤ cap) (hnil : ao = none → cap = 0) (w : World) (ht : Tabs w) (hc : Rd w ao (cB bs)) :
    Calls Tryz.prog 52 #[.slice ao bs.length cap] w fun e W' => e = .returned (.bool (M.good bs)) ∧ Below w.heap.size w W' := by
  refine (callsIn_wide (n := 5)).1 ?_
  refine callsIn_of_wp_marks Tryz.func52 rfl trivial ?_ rfl
  simp only [Tryz.ntmps52, List.size_toArray, List.length_cons, List.length_nil, Nat.reduceAdd, Nat.reduceSub, Array.replicate_succ, Array.replicate_zero, List.push_toArray, List.append_toArray, List.nil_append, List.cons_append]
  gi_wp2_with (refine ⟨trivial, ?_⟩; gi_at_call 65; refine (seq_in _ _ _ _ _).mono ?_; rintro e w' ⟨rfl, rfl⟩)
  have bR := (Boxed.new w 4 (.bool false)).alloc (.cells #[.slice ao bs.length cap] 40)
  have bB := Boxed.new (w.alloc (.cells #[.bool false] 4)) 40 (.slice ao bs.length cap)
  simp only [World.size_alloc] at bB
  have hB0 : Below w.heap.size w ((w.alloc (.cells #[.bool false] 4)).alloc (.cells #[.slice ao bs.length cap] 40)) := ((Below.refl _ w).alloc (Nat.le_refl _) _).alloc (by simp) _
  have hsz : ((w.alloc (.cells #[.bool false] 4)).alloc (.cells #[.slice ao bs.length cap] 40)).heap.size = w.heap.size + 2 := by simp
  obtain ⟨W0, hW0⟩ : ∃ W0, (w.alloc (.cells #[.bool false] 4)).alloc (.cells #[.slice ao bs.length cap] 40) = W0 := ⟨_, rfl⟩
  rw [hW0] at bR bB hB0 hsz ⊢
  clear hW0
  have hrl := M.rs_length bs 0
  refine wpIn_rangeFunc_ownH rfl (by omega) (gf := 82) (lb := #[.pointer (some ⟨w.heap.size + 1, 0, none⟩)]) rfl trivial (enters_of Tryz.func82 (by kernel_rfl) rfl)
    (seq_stops 4 (by omega) (w.heap.size + 1) ao cap bs (by omega) hcap hnil W0 (st_of hc ht hB0 bB)) (fun h1 h2 s => h2 (h1 s)) (stK_b (w := W0)) (Below.refl _ _) (fun _ => rfl)
    (fun pre W => (((∀ s ∈ pre, s.2.2 = true) ∧ Boxed W w.heap.size 4 (.bool false)) ∧ Boxed W (w.heap.size + 1) 40 (.slice ao bs.length cap)) ∧ Below w.heap.size w W)
    (fun c pre W => ((c = .ret ∧ (∃ s ∈ pre, s.2.2 = false)) ∧ Boxed W w.heap.size 4 (.bool false)) ∧ Below w.heap.size w W)
    (OwnFrom.and (OwnFrom.and (OwnFrom.and (ownFrom_pure _ _) (Own.from (boxed_own _ _ _) _)) (Own.from (boxed_own _ _ _) _)) (ownFrom_below (Nat.le_refl _) (by omega)))
    (fun c => OwnFrom.and (OwnFrom.and (ownFrom_pure _ _) (Own.from (boxed_own _ _ _) _)) (ownFrom_below (Nat.le_refl _) (by omega)))
    ⟨⟨⟨fun s h => (by cases h), bR⟩, bB⟩, hB0⟩
    (fun x a' W => ∃ Bx, w.heap.size + 1 < Bx ∧ W.heap[Bx]? = some (.cells #[.int .i64 (x.1 : Int), .int .i32 (x.2.1 : Int), .bool x.2.2] 89 (0, 0)) ∧ a' = { tmps := #[.slice ao bs.length cap, undef, .pointer (some ⟨w.heap.size, 0, none⟩), .pointer (some ⟨Bx, 0, none⟩), .slice ao bs.length cap, .func (.func 82) #[] #[.pointer (some ⟨w.heap.size + 1, 0, none⟩)], .agg #[.int .i64 (x.1 : Int), .int .i32 (x.2.1 : Int), .bool x.2.2], undef, undef, undef], defers := [] })
    (fun x a' _ X Y row hs hg hr => by
      obtain ⟨Bx, h1, h2, h3⟩ := hs
      exact ⟨Bx, h1, (grownBy_keeps_cells hg (fun r e => (hr r e).2) h2 rfl).trans h2, h3⟩)
    ?assign ?body ?done ?stop
  case assign =>
    rintro l pre x W K ⟨⟨⟨hp, bR1⟩, bB1⟩, hB1⟩ hK
    obtain ⟨xs, xp, xg⟩ := x
    simp only [encS]
    gi_wp2
    refine hK _ _ ((KeepsOthers.alloc _ _).from _) (fun s => s.kept (World.grownBy_alloc W _ none) (fun r e => by cases e)) ⟨⟨⟨hp, bR1.alloc _⟩, bB1.alloc _⟩, hB1.alloc hB1.size _⟩ ⟨W.heap.size, bB1.lt, World.alloc_heap_new W _, rfl⟩
  case body =>
    rintro l pre x a' W hl ⟨r, hr⟩ ⟨⟨⟨hp, bR1⟩, bB1⟩, hB1⟩ ⟨Bx, hBx, bX, rfl⟩ hlt
    obtain ⟨xs, xp, xg⟩ := x
    simp only at bX
    have cR := bR1.cell
    have fR := bR1.frozen
    have cX : W.cell? ⟨Bx, 2, none⟩ = some (.bool xg) := by simp [World.cell?, bX]
    cases xg with
    | true =>
      gi_wp2
      refine ⟨KeepsFrom.refl _ _, id, ⟨⟨fun s hs => ?_, bR1⟩, bB1⟩, hB1⟩
      rcases List.mem_append.1 hs with h | h
      · exact hp s h
      · obtain rfl : s = (xs, xp, true) := by simpa using h
        rfl
    | false =>
      gi_wp2
      exact ⟨(KeepsOthers.setCell _ _ _).from _, ⟨⟨rfl, (xs, xp, false), by simp, rfl⟩, bR1.set _⟩, hB1.setCell (p := ⟨w.heap.size, 0, none⟩) (Nat.le_refl _) _⟩
  case done =>
    rintro D ys W hD rfl ⟨⟨⟨hp, bR1⟩, bB1⟩, hB1⟩ hK
    have cR := bR1.cell
    have fR := bR1.frozen
    gi_wp2
    have hK' := (KeepsOthers.setCell W ⟨w.heap.size, 0, none⟩ (.bool true)).same D _ hK rfl
    refine ⟨by simp, .inl ⟨_, _, rfl, run_takeDeferred hK', ?_⟩⟩
    have hc5 := cell_kept (bR1.set (.bool true)).cell (grownBy_putObj' _ D (.deferred none)) (fun r e => by cases e; exact ⟨_, hK', rfl⟩)
    have hg : M.good bs = true := List.all_eq_true.2 fun s hs => hp s hs
    refine ⟨.bool true, ?_, by rw [hg], (hB1.setCell (p := ⟨w.heap.size, 0, none⟩) (Nat.le_refl _) _).trans (belowK_b (w := w) (Nat.le_refl _) _ D _ _ (by omega) hK' rfl rfl)⟩
    simp [results, Tryz.f52, go_sem, hc5]
  case stop =>
    rintro D c pre W hD hpre ⟨⟨⟨rfl, s, hs, hsg⟩, bR1⟩, hB1⟩ hK
    gi_wp2
    refine ⟨by simp, .inl ⟨_, _, rfl, run_takeDeferred hK, ?_⟩⟩
    have hc5 := cell_kept bR1.cell (grownBy_putObj' _ D (.deferred none)) (fun r e => by cases e; exact ⟨_, hK, rfl⟩)
    have hg : M.good bs = false := by
      cases h : M.good bs with
      | false => rfl
      | true =>
        have := List.all_eq_true.1 h s (hpre.subset hs)
        rw [hsg] at this
        cases this
    refine ⟨.bool false, ?_, by rw [hg], hB1.trans (belowK_b (w := w) (Nat.le_refl _) W D _ _ (by omega) hK rfl rfl)⟩
    simp [results, Tryz.f52, go_sem, hc5]

/-- At. -/
def M.at (sts : List Int) (size i : Int) : Int := if i < 0 ∨ (sts.length : Int) < i then -1 else if i = sts.length then size else sts.getD i.toNat 0

theorem at_any (ao : Option Addr) (cap : Nat) (xs : List Int) (size i : Int) (w : World) (hl : xs.length ≤ 100000) (hc : Rd w ao (cN xs)) :
    Calls Tryz.prog 56 #[.slice ao xs.length cap, .int .i64 size, .int .i64 i] w fun e w' => e = .returned (.int .i64 (M.at xs size i)) ∧ w = w' := by
  by_cases h1 : i < 0
  · have HM : Hid (M.at xs size i = -1) := if_pos (.inl h1)
    go_enter Tryz.func56, Tryz.ntmps56
    go_wp2
    go_ret
    exact ⟨by rw [HM.out]; rfl, rfl⟩
  by_cases h2 : (xs.length : Int) < i
  · have HM : Hid (M.at xs size i = -1) := if_pos (.inr h2)
    go_enter Tryz.func56, Tryz.ntmps56
    go_wp2
    go_ret
    exact ⟨by rw [HM.out]; rfl, rfl⟩
  obtain ⟨k, rfl⟩ := Int.eq_ofNat_of_zero_le (show 0 ≤ i by omega)
  by_cases h3 : k = xs.length
  · have HM : Hid (M.at xs size (k : Int) = size) := by show _ = _; unfold M.at; rw [if_neg (by omega), if_pos (by omega)]
    subst h3
    go_enter Tryz.func56, Tryz.ntmps56
    go_wp2
    go_ret
    exact ⟨by rw [HM.out]; rfl, rfl⟩
  have hk : k < xs.length := by omega
  obtain ⟨b, off, rfl, hcell⟩ := hc.num k hk
  have HM : Hid (M.at xs size (k : Int) = xs[k]) := by show _ = _; unfold M.at; rw [if_neg (by omega), if_neg (by omega), Int.toNat_natCast, List.getD_eq_getElem?_getD, List.getElem?_eq_getElem hk]; rfl
  generalize xs[k] = y at *
  have h4 : ¬ ((k : Int) = (xs.length : Int)) := by omega
  go_enter Tryz.func56, Tryz.ntmps56
  go_wp2
  go_ret
  exact ⟨by rw [HM.out]; rfl, rfl⟩

end Go.Proofs.YtidpalighpdlfaaGreatDoor
