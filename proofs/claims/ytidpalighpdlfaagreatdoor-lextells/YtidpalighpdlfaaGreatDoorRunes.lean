/- What utf.Runes answers: the code points and their places, in rows of the call's own; nothing that was there has turned. -/
import Derived.Test.YtidpalighpdlfaaGreatDoorSeq
namespace Go.Proofs.YtidpalighpdlfaaGreatDoor
open Go.RowKit Go.Shelf
attribute [local go_sem] Oper.semAt_some


/-- Another block stays through an append and the store of its answer. -/
theorem blk_kept {W w1 : World} {n₀ B' B : Nat} {cs : Array Value} {t e : TypeId} {fz : Nat × Nat} {v : Value} {k : Nat} {xs : List Value} {tmp : Obj} (h : W.heap[B']? = some (.cells cs t fz)) (hte : t ≠ e) (hrow : W.ownsRow n₀ e 1 v k xs)
    (hgrow : (W.alloc tmp).grownBy w1 v.ownBlock) (hne : B' ≠ B) (v' : Value) : w1.heap[B']? = some (.cells cs t fz) ∧ (w1.setCell ⟨B, 0, none⟩ v').heap[B']? = some (.cells cs t fz) := by
  have hlt : B' < W.heap.size := (Array.getElem?_eq_some_iff.1 h).1
  have h1 : w1.heap[B']? = some (.cells cs t fz) := by
    rw [hgrow.block B' (by simp; omega) (not_row h hte hrow), Below.heap_alloc W tmp B' hlt]
    exact h
  refine ⟨h1, ?_⟩
  rw [(grownBy_setCell' w1 B v').block B' (Array.getElem?_eq_some_iff.1 h1).1 (by simpa using hne)]
  exact h1
/-- Another row stays so. -/
theorem row_kept {W w1 : World} {n₀ B : Nat} {t e e' : TypeId} {v u : Value} {k k' : Nat} {xs ys : List Value} {tmp : Obj} (hu : W.ownsRow n₀ e' 1 u k' ys) (hee : e' ≠ e) (hrow : W.ownsRow n₀ e 1 v k xs)
    (hgrow : (W.alloc tmp).grownBy w1 v.ownBlock) (hv : Boxed W B t v) (ht : t ≠ e') (ht2 : t ≠ e) (v' : Value) : (w1.setCell ⟨B, 0, none⟩ v').ownsRow n₀ e' 1 u k' ys := by
  have h1 : w1.ownsRow n₀ e' 1 u k' ys := by
    refine (hu.alloc tmp).kept hgrow ?_
    rcases hu.2 with ⟨rfl, _⟩ | ⟨g, cap, cur, rfl, _, hgb, _⟩
    · exact .inl rfl
    · exact .inr (not_row hgb hee hrow)
  have hv1 := (blk_kept (B := B + 1) hv ht2 hrow hgrow (by omega) v').1
  exact h1.kept (grownBy_setCell' w1 B v') (.inr (fun e2 => not_row hv1 ht h1 e2.symm))


theorem st_of {w W : World} {Bn : Nat} {ao : Option Addr} {cap : Nat} {bs : List UInt8} (hc : Rd w ao (cB bs)) (ht : Tabs w) (hB : Below w.heap.size w W) (hbox : Boxed W Bn 40 (.slice ao bs.length cap)) : St Bn ao cap bs W :=
  ⟨hbox.cell, hc.later hB, ht.later hB⟩

theorem stK_b {w : World} {Bn : Nat} {ao : Option Addr} {cap : Nat} {bs : List UInt8} (W : World) (l : Nat) (o o' : Obj) (_ : w.heap.size ≤ l) (hl : W.heap[l]? = some o) (ho : o.isCells = false) (_ : o.isWalk = false) : St Bn ao cap bs W → St Bn ao cap bs (W.putObj l o') :=
  fun h => h.kept (grownBy_putObj' W l o') (fun r e => by cases e; exact ⟨o, hl, ho⟩)

/-- Behind the first append of a round and the store of its answer. -/
theorem after_points {W w1 : World} {n₀ Bx k : Nat} {v u : Value} {g cap' : Nat} {xs ys : List Value} {x : Int} {s p : Int} {b : Bool} {tmp : Obj} {sv : Value}
    (bP : Boxed W n₀ 60 v) (rP : W.ownsRow n₀ 21 1 v k xs) (bS : Boxed W (n₀ + 1) 61 u) (rS : W.ownsRow n₀ 3 1 u k ys) (bB : Boxed W (n₀ + 1 + 1) 40 sv) (hBx : n₀ + 1 + 1 < Bx) (bX : W.heap[Bx]? = some (.cells #[.int .i64 s, .int .i32 p, .bool b] 89 (0, 0)))
    (hn : n₀ ≤ W.heap.size) (ho : w1.ownsRow n₀ 21 1 (.slice (some ⟨g, 0, none⟩) (k + 1) cap') (k + 1) (xs ++ [.int .i32 x])) (hg : (W.alloc tmp).grownBy w1 v.ownBlock) :
    w1.cell? ⟨n₀, 0, none⟩ = some v ∧ w1.frozen? ⟨n₀, 0, none⟩ = false ∧ ∃ W2, w1.setCell ⟨n₀, 0, none⟩ (.slice (some ⟨g, 0, none⟩) (k + 1) cap') = W2 ∧ Boxed W2 n₀ 60 (.slice (some ⟨g, 0, none⟩) (k + 1) cap') ∧ W2.ownsRow n₀ 21 1 (.slice (some ⟨g, 0, none⟩) (k + 1) cap') (k + 1) (xs ++ [.int .i32 x]) ∧
      Boxed W2 (n₀ + 1) 61 u ∧ W2.ownsRow n₀ 3 1 u k ys ∧ Boxed W2 (n₀ + 1 + 1) 40 sv ∧ W2.cell? ⟨n₀ + 1, 0, none⟩ = some u ∧ W2.cell? ⟨Bx, 0, none⟩ = some (.int .i64 s) ∧ KeepsOthers W W2 ∧ Below n₀ W W2 ∧ w1.heap.size = W2.heap.size := by
  obtain ⟨hv1, hv2, hr2, hk2, hb2⟩ := bP.appended (by decide) rP hn (Nat.le_refl _) ho hg
  obtain ⟨_, kS2⟩ := blk_kept (B := n₀) bS (by decide) rP hg (by omega) (.slice (some ⟨g, 0, none⟩) (k + 1) cap')
  obtain ⟨_, kX2⟩ := blk_kept (B := n₀) bX (by decide) rP hg (by omega) (.slice (some ⟨g, 0, none⟩) (k + 1) cap')
  obtain ⟨_, kB2⟩ := blk_kept (B := n₀) bB (by decide) rP hg (by omega) (.slice (some ⟨g, 0, none⟩) (k + 1) cap')
  refine ⟨hv1.cell, hv1.frozen, _, rfl, hv2, hr2, kS2, row_kept rS (by decide) rP hg bP (by decide) (by decide) _, kB2, Boxed.cell kS2, ?_, hk2, hb2, ?_⟩
  · simp only [World.cell?, kX2]; rfl
  · simp

/-- Behind the second one. -/
theorem after_places {W w1 : World} {n₀ k k' : Nat} {v u : Value} {g cap' : Nat} {xs ys : List Value} {x : Int} {tmp : Obj} {sv : Value}
    (bP : Boxed W n₀ 60 v) (rP : W.ownsRow n₀ 21 1 v k' xs) (bS : Boxed W (n₀ + 1) 61 u) (rS : W.ownsRow n₀ 3 1 u k ys) (bB : Boxed W (n₀ + 1 + 1) 40 sv)
    (hn : n₀ ≤ W.heap.size) (ho : w1.ownsRow n₀ 3 1 (.slice (some ⟨g, 0, none⟩) (k + 1) cap') (k + 1) (ys ++ [.int .i64 x])) (hg : (W.alloc tmp).grownBy w1 u.ownBlock) :
    w1.cell? ⟨n₀ + 1, 0, none⟩ = some u ∧ w1.frozen? ⟨n₀ + 1, 0, none⟩ = false ∧ ∃ W2, w1.setCell ⟨n₀ + 1, 0, none⟩ (.slice (some ⟨g, 0, none⟩) (k + 1) cap') = W2 ∧ Boxed W2 (n₀ + 1) 61 (.slice (some ⟨g, 0, none⟩) (k + 1) cap') ∧ W2.ownsRow n₀ 3 1 (.slice (some ⟨g, 0, none⟩) (k + 1) cap') (k + 1) (ys ++ [.int .i64 x]) ∧
      Boxed W2 n₀ 60 v ∧ W2.ownsRow n₀ 21 1 v k' xs ∧ Boxed W2 (n₀ + 1 + 1) 40 sv ∧ KeepsOthers W W2 ∧ Below n₀ W W2 := by
  obtain ⟨hv1, hv2, hr2, hk2, hb2⟩ := bS.appended (by decide) rS hn (by omega) ho hg
  obtain ⟨_, kP2⟩ := blk_kept (B := n₀ + 1) bP (by decide) rS hg (by omega) (.slice (some ⟨g, 0, none⟩) (k + 1) cap')
  obtain ⟨_, kB2⟩ := blk_kept (B := n₀ + 1) bB (by decide) rS hg (by omega) (.slice (some ⟨g, 0, none⟩) (k + 1) cap')
  exact ⟨hv1.cell, hv1.frozen, _, rfl, hv2, hr2, kP2, row_kept rP (by decide) rS hg bS (by decide) (by decide) _, kB2, hk2, hb2⟩

set_option maxRecDepth 100000 in
set_option maxHeartbeats 4000000 in
theorem runes_any (ao : Option Addr) (cap : Nat) (bs : List UInt8) (hl : bs.length ≤ 100000) (hcap : bs.length ≤ cap) (hnil : ao = none → cap = 0) (w : World) (ht : Tabs w) (hc : Rd w ao (cB bs)) :
    Calls Tryz.prog 55 #[.slice ao bs.length cap] w fun e W' => ∃ v u, e = .returned (.tuple #[v, u]) ∧ Own W' w.heap.size 21 v (cI (M.pts bs)) ∧ Own W' w.heap.size 3 u (cN (M.sts bs)) ∧ Below w.heap.size w W' := by
  obtain ⟨i0, hi, hz0, hz1, hz2⟩ := info_parts info21
  obtain ⟨j0, hj, hy0, hy1, hy2⟩ := info_parts info3
  refine (callsIn_wide (n := 5)).1 ?_
  refine callsIn_of_wp_marks Tryz.func55 rfl trivial ?_ rfl
  simp only [Tryz.ntmps55, List.size_toArray, List.length_cons, List.length_nil, Nat.reduceAdd, Nat.reduceSub, Array.replicate_succ, Array.replicate_zero, List.push_toArray, List.append_toArray, List.nil_append, List.cons_append]
  gi_wp2_with (refine ⟨trivial, ?_⟩; gi_at_call 65; refine (seq_in _ _ _ _ _).mono ?_; rintro e w' ⟨rfl, rfl⟩)
  have bP := ((Boxed.new w 60 (.slice none 0 0)).alloc (.cells #[.slice none 0 0] 61)).alloc (.cells #[.slice ao bs.length cap] 40)
  have bS := (Boxed.new (w.alloc (.cells #[.slice none 0 0] 60)) 61 (.slice none 0 0)).alloc (.cells #[.slice ao bs.length cap] 40)
  have bB := Boxed.new ((w.alloc (.cells #[.slice none 0 0] 60)).alloc (.cells #[.slice none 0 0] 61)) 40 (.slice ao bs.length cap)
  simp only [World.size_alloc] at bS bB
  have hB0 : Below w.heap.size w (((w.alloc (.cells #[.slice none 0 0] 60)).alloc (.cells #[.slice none 0 0] 61)).alloc (.cells #[.slice ao bs.length cap] 40)) := (((Below.refl _ w).alloc (Nat.le_refl _) _).alloc (by simp) _).alloc (by simp; omega) _
  have hsz : (((w.alloc (.cells #[.slice none 0 0] 60)).alloc (.cells #[.slice none 0 0] 61)).alloc (.cells #[.slice ao bs.length cap] 40)).heap.size = w.heap.size + 3 := by simp
  obtain ⟨W0, hW0⟩ : ∃ W0, ((w.alloc (.cells #[.slice none 0 0] 60)).alloc (.cells #[.slice none 0 0] 61)).alloc (.cells #[.slice ao bs.length cap] 40) = W0 := ⟨_, rfl⟩
  rw [hW0] at bP bS bB hB0 hsz ⊢
  clear hW0
  have hrl := M.rs_length bs 0
  refine wpIn_rangeFunc_ownH rfl (by omega) (gf := 82) (lb := #[.pointer (some ⟨w.heap.size + 1 + 1, 0, none⟩)]) rfl trivial (enters_of Tryz.func82 (by kernel_rfl) rfl)
    (seq_stops 4 (by omega) (w.heap.size + 1 + 1) ao cap bs (by omega) hcap hnil W0 (st_of hc ht hB0 bB)) (fun h1 h2 s => h2 (h1 s)) (stK_b (w := W0)) (Below.refl _ _) (fun _ => rfl)
    (fun pre W => (((∃ v, Boxed W w.heap.size 60 v ∧ W.ownsRow w.heap.size 21 1 v pre.length (cI (ptsOf pre)) ∧ True) ∧ (∃ u, Boxed W (w.heap.size + 1) 61 u ∧ W.ownsRow w.heap.size 3 1 u pre.length (cN (stsOf pre)) ∧ True)) ∧ Boxed W (w.heap.size + 1 + 1) 40 (.slice ao bs.length cap)) ∧ Below w.heap.size w W)
    (fun _ _ _ => False)
    (OwnFrom.and (OwnFrom.and (OwnFrom.and (Own.from (holdsRow_own w.heap.size w.heap.size 60 21 1 (fun pre => pre.length) (fun pre => cI (ptsOf pre)) (fun _ _ => True)) _) (Own.from (holdsRow_own w.heap.size (w.heap.size + 1) 61 3 1 (fun pre => pre.length) (fun pre => cN (stsOf pre)) (fun _ _ => True)) _)) (Own.from (boxed_own _ _ _) _)) (ownFrom_below (Nat.le_refl _) (by omega)))
    (fun _ _ _ _ _ hs _ _ => hs)
    ⟨⟨⟨⟨_, bP, World.ownsRow_nil _ _ _ _, trivial⟩, ⟨_, bS, World.ownsRow_nil _ _ _ _, trivial⟩⟩, bB⟩, hB0⟩
    (fun x a' W => ∃ Bx, w.heap.size + 1 + 1 < Bx ∧ W.heap[Bx]? = some (.cells #[.int .i64 (x.1 : Int), .int .i32 (x.2.1 : Int), .bool x.2.2] 89 (0, 0)) ∧ a' = { tmps := #[.slice ao bs.length cap, undef, .slice none 0 0, .slice none 0 0, .pointer (some ⟨w.heap.size, 0, none⟩), .pointer (some ⟨w.heap.size + 1, 0, none⟩), .pointer (some ⟨Bx, 0, none⟩), .slice ao bs.length cap, .func (.func 82) #[] #[.pointer (some ⟨w.heap.size + 1 + 1, 0, none⟩)], .agg #[.int .i64 (x.1 : Int), .int .i32 (x.2.1 : Int), .bool x.2.2], undef, undef, undef, undef, undef, undef, undef, undef, undef, undef, undef, undef], defers := [] })
    (fun x a' _ X Y row hs hg hr => by
      obtain ⟨Bx, h1, h2, h3⟩ := hs
      exact ⟨Bx, h1, (grownBy_keeps_cells hg (fun r e => (hr r e).2) h2 rfl).trans h2, h3⟩)
    ?assign ?body ?done ?stop
  case assign =>
    rintro l pre x W K ⟨⟨⟨⟨v, bP1, rP1, _⟩, ⟨u, bS1, rS1, _⟩⟩, bB1⟩, hB1⟩ hK
    obtain ⟨xs, xp, xg⟩ := x
    simp only [encS]
    gi_wp2
    refine hK _ _ ((KeepsOthers.alloc _ _).from _) (fun s => s.kept (World.grownBy_alloc W _ none) (fun r e => by cases e)) ⟨⟨⟨⟨v, bP1.alloc _, rP1.alloc _, trivial⟩, ⟨u, bS1.alloc _, rS1.alloc _, trivial⟩⟩, bB1.alloc _⟩, hB1.alloc hB1.size _⟩ ⟨W.heap.size, bB1.lt, World.alloc_heap_new W _, rfl⟩
  case body =>
    rintro l pre x a' W hl ⟨r, hr⟩ ⟨⟨⟨⟨v, bP1, rP1, _⟩, ⟨u, bS1, rS1, _⟩⟩, bB1⟩, hB1⟩ ⟨Bx, hBx, bX, rfl⟩ hlt
    obtain ⟨xs, xp, xg⟩ := x
    simp only at bX
    have cP := bP1.cell
    have cX1 : W.cell? ⟨Bx, 1, none⟩ = some (.int .i32 (xp : Int)) := by simp [World.cell?, bX]
    gi_wp2_with (first
      | (gi_at_builtin; refine wpListIn_append_own _ rfl _ _ 60 rfl w.heap.size 21 i0 (.int .i32 0) 1 4 Tryz.underlying60 hi hz0 hz1 hz2 rfl (by decide) _ _ _ rfl (rP1.alloc _) ⟨W.heap.size, 0, none⟩ 1 1 [.int .i32 (xp : Int)] rfl rfl (cell_one_new _ _ _) (by simp [Value.oneCell']) (by unfold maxLen; omega) (by omega) (by have := hB1.size; simp; omega) ?_; intro v' w1 hown' hgrow _; obtain ⟨g', cap', rfl⟩ := ownsRow_succ hown'; obtain ⟨hc1, hf1, W2, hW2, bP2, rP2, bS2, rS2, bB2, cS2, cX2, hk2, hb2, hs2⟩ := after_points bP1 rP1 bS1 rS1 bB1 hBx bX hB1.size hown' hgrow; clear cP cX1)
      | (gi_at_builtin; refine wpListIn_append_own _ rfl _ _ 61 rfl w.heap.size 3 j0 (.int .i64 0) 1 8 Tryz.underlying61 hj hy0 hy1 hy2 rfl (by decide) _ _ _ rfl (rS2.alloc _) ⟨W2.heap.size, 0, none⟩ 1 1 [.int .i64 (xs : Int)] rfl rfl (cell_one_new _ _ _) (by simp [Value.oneCell']) (by unfold maxLen; omega) (by omega) (by have := hB1.size; have := hb2.size; simp; omega) ?_; intro v' w3 hown3 hgrow3 _; obtain ⟨g3, cap3, rfl⟩ := ownsRow_succ hown3; obtain ⟨hc3, hf3, W4, hW4, bS4, rS4, bP4, rP4, bB4, hk4, hb4⟩ := after_places bP2 rP2 bS2 rS2 bB2 (by have := hB1.size; have := hb2.size; omega) hown3 hgrow3; clear cS2 cX2))
    have hB4 := hB1.trans (hb2.trans hb4)
    refine ⟨(hk2.trans hk4).from _, fun _ => st_of hc ht hB4 bB4, ⟨⟨⟨_, bP4, ?_⟩, ⟨_, bS4, ?_⟩⟩, bB4⟩, hB4⟩
    · rw [ptsOf_snoc, cI_append, List.length_append]; exact rP4
    · rw [stsOf_snoc, cN_append, List.length_append]; exact rS4
  case done =>
    rintro D ys W hD rfl ⟨⟨⟨⟨v, bP1, rP1, _⟩, ⟨u, bS1, rS1, _⟩⟩, bB1⟩, hB1⟩ hK
    have c1 := bP1.cell
    have c2 := bS1.cell
    gi_wp2
    gi_region
    all_goals gi_wp2
    have hK' : W.drew.heap[D]? = some (.deferred (some [])) := hK
    have hbd : Below w.heap.size w W.drew := hB1.drew
    refine ⟨by simp, .inl ⟨_, _, rfl, run_takeDeferred hK', ?_⟩⟩
    refine ⟨_, results_tmp2 rfl _ _ _, v, u, rfl, ?_, ?_, hbd.trans (belowK_b (w := w) (Nat.le_refl _) _ D _ _ (by omega) hK' rfl rfl)⟩
    · unfold Own
      rw [cI_length, show (M.pts bs).length = (M.rs 0 bs).length from ptsOf_length _]
      exact ownsRow_putObj (W := W.drew) rP1 _ hK' rfl
    · unfold Own
      rw [cN_length, show (M.sts bs).length = (M.rs 0 bs).length from stsOf_length _]
      exact ownsRow_putObj (W := W.drew) rS1 _ hK' rfl
  case stop =>
    rintro D c pre W _ _ h _
    exact h.elim
end Go.Proofs.YtidpalighpdlfaaGreatDoor
