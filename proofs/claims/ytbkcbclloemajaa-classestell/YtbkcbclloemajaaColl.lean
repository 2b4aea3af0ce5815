/- What an iterator gives, collected: slices.AppendSeq, slices.Collect, listOf. -/
import Derived.Maps.OwnIn
import Derived.Test.YtbkcbclloemajaaComm
namespace Go.Proofs.Ytbkcbclloemajaa
open Go.RowKit Go.Shelf
attribute [local go_sem] Oper.semAt_some

/-- The caller's own: a box, and the row of the slice that lies in it. -/
def okB (n0 Bx : Nat) (t : TypeId) (W : World) : Prop := ∃ v, Boxed W Bx t v ∧ ∀ g, v.ownBlock = some g → n0 ≤ g ∧ g < W.heap.size
def mineB (Bx : Nat) (W : World) (k : Nat) : Prop := k = Bx ∨ ∃ v, W.cell? ⟨Bx, 0, none⟩ = some v ∧ v.ownBlock = some k
theorem mine_box (n0 n1 Bx : Nat) (t : TypeId) (h0 : n0 ≤ Bx) (h1 : Bx < n1) : Mine n0 n1 (okB n0 Bx t) (mineB Bx) where
  lt A k h hm := by
    obtain ⟨v, hv, hg⟩ := h
    rcases hm with rfl | ⟨v', hc, hb⟩
    · exact ⟨h0, hv.lt⟩
    · rw [hv.cell] at hc
      cases hc
      exact hg k hb
  grow A B h hb := by
    obtain ⟨v, hv, hg⟩ := h
    have hc : B.heap[Bx]? = A.heap[Bx]? := hb.block Bx hv.lt
    refine ⟨⟨v, hc.trans hv, fun g e => ⟨(hg g e).1, Nat.lt_of_lt_of_le (hg g e).2 hb.size⟩⟩, fun k hm => ?_⟩
    rcases hm with rfl | ⟨v', hc', hb'⟩
    · exact .inl rfl
    · exact .inr ⟨v', by rw [← World.cell?_of_block (w := A) (a := ⟨Bx, 0, none⟩) hc]; exact hc', hb'⟩
  turn A l o o' h hl ho hoc := by
    obtain ⟨v, hv, hg⟩ := h
    have hc : (A.putObj l o').heap[Bx]? = A.heap[Bx]? := (grownBy_putObj' A l o').block Bx hv.lt (by simp; omega)
    refine ⟨⟨v, hc.trans hv, fun g e => ⟨(hg g e).1, by simp [World.putObj]; exact (hg g e).2⟩⟩, fun k hm => ?_⟩
    rcases hm with rfl | ⟨v', hc', hb'⟩
    · exact .inl rfl
    · exact .inr ⟨v', by rw [← World.cell?_of_block (w := A) (a := ⟨Bx, 0, none⟩) hc]; exact hc', hb'⟩

/-- An append and the store of its answer keep all but the caller's own. -/
theorem kpM_appended {W w1 : World} {n0 n₀ B : Nat} {t e : TypeId} {size : Nat} {v v' : Value} {k m : Nat} {xs ys : List Value} {tmp : Obj} (hv : Boxed W B t v) (hte : t ≠ e) (hrow : W.ownsRow n₀ e size v k xs) (hn : n0 ≤ n₀)
    (hown' : w1.ownsRow n₀ e size v' m ys) (hgrow : (W.alloc tmp).grownBy w1 v.ownBlock) (hat : v'.ownBlock = v.ownBlock ∨ v'.ownBlock = some (W.alloc tmp).heap.size) :
    KpM (okB n0 B t) (mineB B) W (w1.setCell ⟨B, 0, none⟩ v') := by
  rintro -
  have hv1 : Boxed w1 B t v := (hv.alloc tmp).kept hgrow (hv.not_row hte hrow)
  have hv2 := hv1.set v'
  have hs1 : W.heap.size ≤ w1.heap.size := Nat.le_trans (by simp) hgrow.size
  have hs2 : w1.heap.size ≤ (w1.setCell ⟨B, 0, none⟩ v').heap.size := (grownBy_setCell' w1 B v').size
  refine ⟨⟨v', hv2, fun g hg => ?_⟩, Nat.le_trans hs1 hs2, fun j o hj ho hm => ?_, fun j hm => ?_⟩
  · rcases hown'.2 with ⟨rfl, _⟩ | ⟨g', cap, cur, rfl, hb, hgb, _⟩
    · simp [Value.ownBlock] at hg
    · obtain rfl : g' = g := by simpa [Value.ownBlock] using hg
      exact ⟨Nat.le_trans hn hb, Nat.lt_of_lt_of_le (Array.getElem?_eq_some_iff.1 hgb).1 hs2⟩
  · have hlt : j < W.heap.size := (Array.getElem?_eq_some_iff.1 hj).1
    have hne : j ≠ B := fun e => hm (.inl e)
    have hne2 : some j ≠ v.ownBlock := fun e => hm (.inr ⟨v, hv.cell, e.symm⟩)
    rw [(grownBy_setCell' w1 B v').block j (Nat.lt_of_lt_of_le hlt hs1) (by simpa using hne), hgrow.block j (by simp; omega) hne2, Below.heap_alloc W tmp j hlt]
    exact hj
  · rcases hm with rfl | ⟨u, hc, hb⟩
    · exact .inl (.inl rfl)
    · rw [hv2.cell] at hc
      cases hc
      rcases hat with e | e
      · exact .inl (.inr ⟨v, hv.cell, by rw [← e]; exact hb⟩)
      · rw [hb] at e
        simp at e
        exact .inr (by omega)

theorem kpM_below {n0 n1 : Nat} {Ok : World → Prop} {mine : World → Nat → Prop} (hM : Mine n0 n1 Ok mine) {A B : World} (hb : Below A.heap.size A B) : KpM Ok mine A B := by
  intro hA
  obtain ⟨h1, h2⟩ := hM.grow A B hA hb
  exact ⟨h1, hb.size, fun k o hk _ _ => (hb.block k (Array.getElem?_eq_some_iff.1 hk).1).trans hk, fun k hk => .inl (h2 k hk)⟩

theorem cells_two_new (w : World) (x y : Value) (t : TypeId) : ∀ j u, [x, y][j]? = some u → (w.alloc (.cells #[x, y] t)).cell? ((⟨w.heap.size, 0, none⟩ : Addr).add j) = some u := by
  intro j u hj
  rw [Addr.add_mid]
  have h := cells_two (World.alloc_heap_new w (.cells #[x, y] t))
  match j, hj with
  | 0, hj => simp at hj; subst hj; exact h.1
  | 1, hj => simp at hj; subst hj; exact h.2
  | j + 2, hj => simp at hj

set_option maxRecDepth 100000 in
set_option maxHeartbeats 4000000 in
theorem appendSeq_any (v0 : Value) (zs : List S.R) (hl : zs.length ≤ 1000000) (wi w : World) (hit : Iter v0 zs wi) (hwi : Below wi.heap.size wi w) :
    Calls Try.prog 64 #[.slice none 0 0, v0] w fun e W' => ∃ u, e = .returned u ∧ OwnR W' w.heap.size 76 u zs ∧ Below w.heap.size w W' := by
  obtain ⟨i0, hi, hz0, hz1, hz2⟩ := info_parts2 info56
  obtain ⟨gf, lb, rfl, heg, hgives⟩ := hit
  refine (callsIn_wide (n := 5)).1 ?_
  refine callsIn_of_wp_marks Try.func64 rfl trivial ?_ rfl
  simp only [Try.ntmps64, List.size_toArray, List.length_cons, List.length_nil, Nat.reduceAdd, Nat.reduceSub, Array.replicate_succ, Array.replicate_zero, List.push_toArray, List.append_toArray, List.nil_append, List.cons_append]
  gi_wp2
  have bP := Boxed.new w 79 (.slice none 0 0)
  have hB0 := al1 w (.cells #[.slice none 0 0] 79)
  have hsz : (w.alloc (.cells #[.slice none 0 0] 79)).heap.size = w.heap.size + 1 := by simp
  obtain ⟨W0, hW0⟩ : ∃ W0, w.alloc (.cells #[.slice none 0 0] 79) = W0 := ⟨_, rfl⟩
  rw [hW0] at bP hB0 hsz ⊢
  clear hW0
  have hM := mine_box wi.heap.size W0.heap.size w.heap.size 79 hwi.size (by omega)
  have hok0 : okB wi.heap.size w.heap.size 79 W0 := ⟨_, bP, fun g hg => by simp [Value.ownBlock] at hg⟩
  refine wpIn_rangeFunc_ownH rfl (by omega) (gf := gf) (lb := lb) rfl trivial heg (hgives 4 (by omega) W0 (hwi.trans (hB0.mono hwi.size)) _ _ _ hM hok0) kpM_t (kpM_b hM) (Below.refl _ _) (fun _ => rfl)
    (fun pre W => (∃ v, Boxed W w.heap.size 79 v ∧ W.ownsRow w.heap.size 76 2 v pre.length (cR pre) ∧ True) ∧ Below w.heap.size w W)
    (fun _ _ _ => False)
    (OwnFrom.and (Own.from (holdsRow_own w.heap.size w.heap.size 79 76 2 (fun pre => pre.length) (fun pre => cR pre) (fun _ _ => True)) _) (ownFrom_below (Nat.le_refl _) (by omega)))
    (fun _ _ _ _ _ hs _ _ => hs)
    ⟨⟨_, bP, World.ownsRow_nil _ _ _ _, trivial⟩, hB0⟩
    (fun x a' W => ∃ Bx, w.heap.size < Bx ∧ W.heap[Bx]? = some (.cells #[.int .i32 x.1, .int .i32 x.2] 76 (0, 0)) ∧ a' = { tmps := #[.slice none 0 0, .func (.func gf) #[] lb, .pointer (some ⟨w.heap.size, 0, none⟩), undef, .slice none 0 0, .pointer (some ⟨Bx, 0, none⟩), .func (.func gf) #[] lb, .agg #[.int .i32 x.1, .int .i32 x.2], undef, undef, undef, undef, undef], defers := [] })
    (fun x a' _ X Y row hs hg hr => by
      obtain ⟨Bx, h1, h2, h3⟩ := hs
      exact ⟨Bx, h1, (grownBy_keeps_cells hg (fun r e => (hr r e).2) h2 rfl).trans h2, h3⟩)
    ?assign ?body ?done ?stop
  case assign =>
    rintro l pre x W K ⟨⟨v, bP1, rP1, _⟩, hB1⟩ hK
    simp only [encP]
    gi_wp2
    exact hK _ _ ((KeepsOthers.alloc _ _).from _) (kpM_below hM (al1 W _)) ⟨⟨v, bP1.alloc _, rP1.alloc _, trivial⟩, hB1.alloc hB1.size _⟩ ⟨W.heap.size, bP1.lt, World.alloc_heap_new W _, rfl⟩
  case body =>
    rintro l pre x a' W hl ⟨r, hr⟩ ⟨⟨v, bP1, rP1, _⟩, hB1⟩ ⟨Bx, hBx, bX, rfl⟩ hlt
    have cP := bP1.cell
    obtain ⟨cX0, cX1⟩ := cells_two bX
    gi_wp2_with (gi_at_builtin; refine wpListIn_append_own_at _ rfl _ _ 79 rfl w.heap.size 76 i0 (.agg #[.int .i32 0, .int .i32 0]) 2 8 Try.underlying79 hi hz0 hz1 hz2 rfl (by decide) _ _ _ rfl (rP1.alloc _) ⟨W.heap.size, 0, none⟩ 1 1 [.int .i32 x.1, .int .i32 x.2] rfl rfl (cells_two_new _ _ _ _) (by simp [Value.oneCell']) (by unfold maxLen; omega) (by omega) (by have := hB1.size; simp; omega) ?_; intro v' w1 hown' hgrow _ hat; obtain ⟨g', cap', rfl⟩ := ownsRow_succ hown'; obtain ⟨hv1, hv2, hr2, hk2, hb2⟩ := bP1.appended (by decide) rP1 hB1.size (Nat.le_refl _) hown' hgrow; have hKp := kpM_appended (n0 := wi.heap.size) bP1 (by decide) rP1 hwi.size hown' hgrow hat; have hc1 := hv1.cell; have hf1 := hv1.frozen; clear cP cX0 cX1)
    refine ⟨hk2.from _, hKp, ⟨_, hv2, ?_, trivial⟩, hB1.trans hb2⟩
    rw [cR_append, List.length_append]
    exact hr2
  case done =>
    rintro D ys W hD rfl ⟨⟨v, bP1, rP1, _⟩, hB1⟩ hK
    have c1 := bP1.cell
    gi_wp2
    refine ⟨by simp, .inl ⟨_, _, rfl, run_takeDeferred hK, ?_⟩⟩
    exact ⟨_, results_tmp rfl _ _ _, v, rfl, ownsRow_putObj rP1 _ hK rfl, hB1.trans (belowK_b (w := w) (Nat.le_refl _) _ D _ _ (by omega) hK rfl rfl)⟩
  case stop =>
    rintro D c pre W _ _ h _
    exact h.elim

set_option maxHeartbeats 1000000 in
theorem collect_any (v0 : Value) (zs : List S.R) (hl : zs.length ≤ 1000000) (w : World) (hit : Iter v0 zs w) :
    Calls Try.prog 58 #[v0] w fun e W' => ∃ u, e = .returned u ∧ OwnR W' w.heap.size 76 u zs ∧ Below w.heap.size w W' := by
  have h := appendSeq_any v0 zs hl w w hit (Below.refl _ _)
  obtain ⟨gf, lb, rfl, _, _⟩ := hit
  go_enter Try.func58, Try.ntmps58
  go_wp2_with (go_at_call 64; refine h.mono ?_; rintro e W' ⟨u, rfl, ho, hb⟩)
  go_ret
  exact ⟨_, rfl, ho, hb⟩
set_option maxRecDepth 100000 in
set_option maxHeartbeats 4000000 in
theorem listOf_any (v0 : Value) (zs : List S.R) (hl : zs.length ≤ 1000000) (wi w : World) (hit : Iter v0 zs wi) (hwi : Below wi.heap.size wi w) :
    Calls Try.prog 36 #[v0] w fun e W' => ∃ u, e = .returned u ∧ OwnR W' w.heap.size 48 u zs ∧ Below w.heap.size w W' := by
  obtain ⟨i0, hi, hz0, hz1, hz2⟩ := info_parts2 info34
  obtain ⟨gf, lb, rfl, heg, hgives⟩ := hit
  refine (callsIn_wide (n := 5)).1 ?_
  refine callsIn_of_wp_marks Try.func36 rfl trivial ?_ rfl
  simp only [Try.ntmps36, List.size_toArray, List.length_cons, List.length_nil, Nat.reduceAdd, Nat.reduceSub, Array.replicate_succ, Array.replicate_zero, List.push_toArray, List.append_toArray, List.nil_append, List.cons_append]
  gi_wp2
  have bP := Boxed.new w 35 (.slice none 0 0)
  have hB0 := al1 w (.cells #[.slice none 0 0] 35)
  have hsz : (w.alloc (.cells #[.slice none 0 0] 35)).heap.size = w.heap.size + 1 := by simp
  obtain ⟨W0, hW0⟩ : ∃ W0, w.alloc (.cells #[.slice none 0 0] 35) = W0 := ⟨_, rfl⟩
  rw [hW0] at bP hB0 hsz ⊢
  clear hW0
  have hM := mine_box wi.heap.size W0.heap.size w.heap.size 35 hwi.size (by omega)
  have hok0 : okB wi.heap.size w.heap.size 35 W0 := ⟨_, bP, fun g hg => by simp [Value.ownBlock] at hg⟩
  refine wpIn_rangeFunc_ownH rfl (by omega) (gf := gf) (lb := lb) rfl trivial heg (hgives 4 (by omega) W0 (hwi.trans (hB0.mono hwi.size)) _ _ _ hM hok0) kpM_t (kpM_b hM) (Below.refl _ _) (fun _ => rfl)
    (fun pre W => (∃ v, Boxed W w.heap.size 35 v ∧ W.ownsRow w.heap.size 48 2 v pre.length (cR pre) ∧ True) ∧ Below w.heap.size w W)
    (fun _ _ _ => False)
    (OwnFrom.and (Own.from (holdsRow_own w.heap.size w.heap.size 35 48 2 (fun pre => pre.length) (fun pre => cR pre) (fun _ _ => True)) _) (ownFrom_below (Nat.le_refl _) (by omega)))
    (fun _ _ _ _ _ hs _ _ => hs)
    ⟨⟨_, bP, World.ownsRow_nil _ _ _ _, trivial⟩, hB0⟩
    (fun x a' W => ∃ Bx, w.heap.size < Bx ∧ W.heap[Bx]? = some (.cells #[.int .i32 x.1, .int .i32 x.2] 76 (0, 0)) ∧ a' = { tmps := #[.func (.func gf) #[] lb, undef, .slice none 0 0, .pointer (some ⟨w.heap.size, 0, none⟩), .pointer (some ⟨Bx, 0, none⟩), .func (.func gf) #[] lb, .agg #[.int .i32 x.1, .int .i32 x.2], undef, undef, undef, undef, undef, undef, undef, undef, undef], defers := [] })
    (fun x a' _ X Y row hs hg hr => by
      obtain ⟨Bx, h1, h2, h3⟩ := hs
      exact ⟨Bx, h1, (grownBy_keeps_cells hg (fun r e => (hr r e).2) h2 rfl).trans h2, h3⟩)
    ?assign ?body ?done ?stop
  case assign =>
    rintro l pre x W K ⟨⟨v, bP1, rP1, _⟩, hB1⟩ hK
    simp only [encP]
    gi_wp2
    exact hK _ _ ((KeepsOthers.alloc _ _).from _) (kpM_below hM (al1 W _)) ⟨⟨v, bP1.alloc _, rP1.alloc _, trivial⟩, hB1.alloc hB1.size _⟩ ⟨W.heap.size, bP1.lt, World.alloc_heap_new W _, rfl⟩
  case body =>
    rintro l pre x a' W hl ⟨r, hr⟩ ⟨⟨v, bP1, rP1, _⟩, hB1⟩ ⟨Bx, hBx, bX, rfl⟩ hlt
    have cP := bP1.cell
    obtain ⟨cX0, cX1⟩ := cells_two bX
    gi_wp2_with (gi_at_builtin; refine wpListIn_append_own_at _ rfl _ _ 35 rfl w.heap.size 48 i0 (.agg #[.int .i32 0, .int .i32 0]) 2 8 Try.underlying35 hi hz0 hz1 hz2 rfl (by decide) _ _ _ rfl (rP1.alloc _) ⟨W.heap.size, 0, none⟩ 1 1 [.int .i32 x.1, .int .i32 x.2] rfl rfl (cells_two_new _ _ _ _) (by simp [Value.oneCell']) (by unfold maxLen; omega) (by omega) (by have := hB1.size; simp; omega) ?_; intro v' w1 hown' hgrow _ hat; obtain ⟨g', cap', rfl⟩ := ownsRow_succ hown'; obtain ⟨hv1, hv2, hr2, hk2, hb2⟩ := bP1.appended (by decide) rP1 hB1.size (Nat.le_refl _) hown' hgrow; have hKp := kpM_appended (n0 := wi.heap.size) bP1 (by decide) rP1 hwi.size hown' hgrow hat; have hc1 := hv1.cell; have hf1 := hv1.frozen; clear cP cX0 cX1)
    refine ⟨hk2.from _, hKp, ⟨_, hv2, ?_, trivial⟩, hB1.trans hb2⟩
    rw [cR_append, List.length_append]
    exact hr2
  case done =>
    rintro D ys W hD rfl ⟨⟨v, bP1, rP1, _⟩, hB1⟩ hK
    have c1 := bP1.cell
    gi_wp2
    refine ⟨by simp, .inl ⟨_, _, rfl, run_takeDeferred hK, ?_⟩⟩
    exact ⟨_, results_tmp rfl _ _ _, v, rfl, ownsRow_putObj rP1 _ hK rfl, hB1.trans (belowK_b (w := w) (Nat.le_refl _) _ D _ _ (by omega) hK rfl rfl)⟩
  case stop =>
    rintro D c pre W _ _ h _
    exact h.elim

end Go.Proofs.Ytbkcbclloemajaa
