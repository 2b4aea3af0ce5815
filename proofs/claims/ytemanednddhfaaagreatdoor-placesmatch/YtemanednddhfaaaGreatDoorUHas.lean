/- What Has and Least answer. -/
import Derived.Test.YtemanednddhfaaaGreatDoorJG
namespace Go.Proofs.YtemanednddhfaaaGreatDoor.U
open Go.RowKit Go.Shelf
attribute [local go_sem] Oper.semAt_some
def S.hB (l : List S.R) (p : Int) : Bool := S.hasB (S.goods l) p
theorem S.hB_iff (l : List S.R) (p : Int) : S.hB l p = true ↔ S.hs l p := S.hasB_iff _ _
def S.miss (pre : List S.R) (r : Int) : Prop := ∀ s ∈ pre, ¬ (s.1 ≤ r ∧ r ≤ s.2)
theorem S.miss_snoc {pre : List S.R} {r x1 x2 : Int} (h : S.miss pre r) (hx : ¬ (x1 ≤ r ∧ r ≤ x2)) : S.miss (pre ++ [(x1, x2)]) r := by
 intro s hs
 rcases List.mem_append.1 hs with h' | h'
 · exact h s h'
 · obtain rfl : s = (x1, x2) := by simpa using h'
   exact hx
theorem mine_none (n0 n1 : Nat) : Mine n0 n1 (fun _ => True) (fun _ _ => False) where
 lt _ _ _ h := h.elim
 grow _ _ _ _ := ⟨trivial, fun _ h => h⟩
 turn _ _ _ _ _ _ _ _ := ⟨trivial, fun _ h => h⟩
set_option maxRecDepth 100000 in
set_option maxHeartbeats 4000000 in
theorem has_any (ao : Option Addr) (ca : Nat) (xs : List S.R) (r : Int) (hl : xs.length ≤ 1000000) (w : World) (h : RdR w ao xs) :
   Calls Tryz.prog 53 #[.slice ao xs.length ca, .int .i32 r] w fun e W' => e = .returned (.bool (S.hB xs r)) ∧ Below w.heap.size w W' := by
 refine (callsIn_wide (n := 5)).1 ?_
 refine callsIn_of_wp_marks Tryz.func53 rfl trivial ?_ rfl
 simp only [Tryz.ntmps53, List.size_toArray, List.length_cons, List.length_nil, Nat.reduceAdd, Nat.reduceSub, Array.replicate_succ, Array.replicate_zero, List.push_toArray, List.append_toArray, List.nil_append, List.cons_append]
 have hb2 := al2 w (.cells #[.int .i32 r] 21) (.cells #[.bool false] 4)
 have hgo := fun T => goodSpans_gives (w.heap.size + 2) 0 1 [(ao, ca, xs)] (by simp) (fun p hp => by simp at hp; subst hp; exact hl) _ (by
   have := rdl_one (ca := ca) T (h.later hb2)
   simp only [World.size_alloc] at this
   exact this)
 rw [show flat [(ao, ca, xs)] = xs by simp [flat]] at hgo
 gi_wp2_with (refine ⟨trivial, ?_⟩; gi_at_call 89; refine (callsIn_wide.2 (hgo _)).mono ?_; rintro e wi ⟨v, rfl, hit, hbi⟩; obtain ⟨gf, lb, rfl, heg, hgives⟩ := hit)
 have b3 : Boxed wi w.heap.size 21 (.int .i32 r) := (hbi.block w.heap.size (by simp; omega)).trans (((Boxed.new w 21 (.int .i32 r)).alloc (.cells #[.bool false] 4)).alloc (.cells #[.slice ao xs.length ca] 23))
 have b4 : Boxed wi (w.heap.size + 1) 4 (.bool false) := by
   have := (Boxed.new (w.alloc (.cells #[.int .i32 r] 21)) 4 (.bool false)).alloc (.cells #[.slice ao xs.length ca] 23)
   rw [World.size_alloc] at this
   exact (hbi.block (w.heap.size + 1) (by simp)).trans this
 have hB0 : Below w.heap.size w wi := nx (nx hb2 (al1 _ _)) hbi
 have hsz : w.heap.size + 3 ≤ wi.heap.size := by have := hbi.size; simp at this; omega
 clear hgo hbi hb2
 have HG : Hid (S.hB xs r = S.hasB (S.goods xs) r) := rfl
 refine wpIn_rangeFunc_ownH rfl (by omega) (gf := gf) (lb := lb) rfl trivial heg (hgives 4 (by omega) wi (Below.refl _ _) wi.heap.size _ _ (mine_none _ _) trivial) kpM_t (kpM_b (mine_none wi.heap.size wi.heap.size)) (Below.refl _ _) (fun _ => rfl)
   (fun pre W => ((S.miss pre r ∧ Boxed W w.heap.size 21 (.int .i32 r)) ∧ Boxed W (w.heap.size + 1) 4 (.bool false)) ∧ Below w.heap.size w W)
   (fun c pre W => ((c = .ret ∧ (∃ s ∈ pre, s.1 ≤ r ∧ r ≤ s.2)) ∧ Boxed W (w.heap.size + 1) 4 (.bool true)) ∧ Below w.heap.size w W)
   (OwnFrom.and (OwnFrom.and (OwnFrom.and (ownFrom_pure _ _) (Own.from (boxed_own _ _ _) _)) (Own.from (boxed_own _ _ _) _)) (ownFrom_below (Nat.le_refl _) (by omega)))
   (fun c => OwnFrom.and (OwnFrom.and (ownFrom_pure _ _) (Own.from (boxed_own _ _ _) _)) (ownFrom_below (Nat.le_refl _) (by omega)))
   ⟨⟨⟨fun s h => (by cases h), b3⟩, b4⟩, hB0⟩
   (fun x a' W => ∃ Bx, w.heap.size + 1 < Bx ∧ W.heap[Bx]? = some (.cells #[.int .i32 x.1, .int .i32 x.2] 142 (0, 0)) ∧ a' = { tmps := #[.slice ao xs.length ca, .int .i32 r, undef, .pointer (some ⟨w.heap.size, 0, none⟩), .pointer (some ⟨w.heap.size + 1, 0, none⟩), .pointer (some ⟨Bx, 0, none⟩), .slice ao xs.length ca, .slice (some ⟨w.heap.size + 1 + 1, 0, none⟩) 1 1, .func (.func gf) #[] lb, .agg #[.int .i32 x.1, .int .i32 x.2], undef, undef, undef, undef, undef, undef, undef, undef, undef, undef], defers := [] })
   (fun x a' _ X Y row hs hg hr => by
     obtain ⟨Bx, h1, h2, h3⟩ := hs
     exact ⟨Bx, h1, (grownBy_keeps_cells hg (fun r e => (hr r e).2) h2 rfl).trans h2, h3⟩)
   ?assign ?body ?done ?stop
 case assign =>
   rintro l pre x W K ⟨⟨⟨hp, b31⟩, b41⟩, hB1⟩ hK
   simp only [encP]
   gi_wp2
   exact hK _ _ ((KeepsOthers.alloc _ _).from _) (kpM_below (mine_none 0 0) (al1 W _)) ⟨⟨⟨hp, b31.alloc _⟩, b41.alloc _⟩, hB1.alloc hB1.size _⟩ ⟨W.heap.size, b41.lt, World.alloc_heap_new W _, rfl⟩
 case body =>
   rintro l pre x a' W hl ⟨r', hr⟩ ⟨⟨⟨hp, b31⟩, b41⟩, hB1⟩ ⟨Bx, hBx, bX, rfl⟩ hlt
   obtain ⟨x1, x2⟩ := x
   simp only at bX
   have c3 := b31.cell
   have c4 := b41.cell
   have f4 := b41.frozen
   obtain ⟨cX0, cX1⟩ := cells_two bX
   by_cases h1 : x1 ≤ r
   · by_cases h2 : r ≤ x2
     · gi_wp2
       exact ⟨(KeepsOthers.setCell _ _ _).from _, ⟨⟨rfl, (x1, x2), by simp, h1, h2⟩, b41.set _⟩, hB1.setCell (p := ⟨w.heap.size + 1, 0, none⟩) (by simp) _⟩
     · have h2' : x2 < r := by omega
       gi_wp2
       exact ⟨KeepsFrom.refl _ _, kpM_below (mine_none 0 0) (Below.refl _ _), ⟨⟨S.miss_snoc hp (by omega), b31⟩, b41⟩, hB1⟩
   · have h1' : r < x1 := by omega
     gi_wp2
     exact ⟨KeepsFrom.refl _ _, kpM_below (mine_none 0 0) (Below.refl _ _), ⟨⟨S.miss_snoc hp (by omega), b31⟩, b41⟩, hB1⟩
 case done =>
   rintro D ys W hD rfl ⟨⟨⟨hp, b31⟩, b41⟩, hB1⟩ hK
   have c4 := b41.cell
   have f4 := b41.frozen
   gi_wp2
   have hK' := (KeepsOthers.setCell W ⟨w.heap.size + 1, 0, none⟩ (.bool false)).same D _ hK rfl
   refine ⟨by simp, .inl ⟨_, _, rfl, run_takeDeferred hK', ?_⟩⟩
   have hc5 := cell_kept (b41.set (.bool false)).cell (grownBy_putObj' _ D (.deferred none)) (fun r e => by cases e; exact ⟨_, hK', rfl⟩)
   have hg : S.hB xs r = false := by
     cases hh : S.hB xs r with
     | false => rfl
     | true =>
       obtain ⟨s, hs, h1⟩ := (S.hB_iff xs r).1 hh
       exact absurd h1 (hp s hs)
   refine ⟨.bool false, ?_, by rw [hg], (hB1.setCell (p := ⟨w.heap.size + 1, 0, none⟩) (by simp) _).trans (belowK_b (w := w) (Nat.le_refl _) _ D _ _ (by omega) hK' rfl rfl)⟩
   simp [results, Tryz.f53, go_sem, hc5]
 case stop =>
   rintro D c pre W hD hpre ⟨⟨⟨rfl, s, hs, hsg⟩, b41⟩, hB1⟩ hK
   gi_wp2
   refine ⟨by simp, .inl ⟨_, _, rfl, run_takeDeferred hK, ?_⟩⟩
   have hc5 := cell_kept b41.cell (grownBy_putObj' _ D (.deferred none)) (fun r e => by cases e; exact ⟨_, hK, rfl⟩)
   have hg : S.hB xs r = true := (S.hB_iff xs r).2 ⟨s, hpre.subset hs, hsg⟩
   refine ⟨.bool true, ?_, by rw [hg], hB1.trans (belowK_b (w := w) (Nat.le_refl _) W D _ _ (by omega) hK rfl rfl)⟩
   simp [results, Tryz.f53, go_sem, hc5]
end Go.Proofs.YtemanednddhfaaaGreatDoor.U
