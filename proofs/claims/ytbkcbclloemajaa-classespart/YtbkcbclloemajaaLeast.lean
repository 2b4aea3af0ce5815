/- What Least answers. -/
import Derived.Test.YtbkcbclloemajaaHas
namespace Go.Proofs.Ytbkcbclloemajaa
open Go.RowKit Go.Shelf
attribute [local go_sem] Oper.semAt_some

/-- The first code point of these, and whether there is one. -/
def S.low : List S.R → Int × Bool
  | l => l.foldl (fun a s => if !a.2 || decide (s.1 < a.1) then (s.1, true) else a) (0, false)
theorem S.low_nil : S.low [] = (0, false) := rfl
theorem S.low_snoc (l : List S.R) (x : S.R) : S.low (l ++ [x]) = if !(S.low l).2 || decide (x.1 < (S.low l).1) then (x.1, true) else S.low l := by simp [S.low]
theorem S.low_spec (l : List S.R) : ((S.low l).2 = true ↔ l ≠ []) ∧ ((S.low l).2 = false → (S.low l).1 = 0) ∧ ((S.low l).2 = true → (∃ r ∈ l, r.1 = (S.low l).1) ∧ ∀ r ∈ l, (S.low l).1 ≤ r.1) := by
  suffices h : ∀ m : List S.R, ((S.low m.reverse).2 = true ↔ m.reverse ≠ []) ∧ ((S.low m.reverse).2 = false → (S.low m.reverse).1 = 0) ∧ ((S.low m.reverse).2 = true → (∃ r ∈ m.reverse, r.1 = (S.low m.reverse).1) ∧ ∀ r ∈ m.reverse, (S.low m.reverse).1 ≤ r.1) by
    have := h l.reverse
    rwa [List.reverse_reverse] at this
  intro m
  induction m with
  | nil => simp [S.low_nil]
  | cons x m ih =>
    rw [List.reverse_cons, S.low_snoc]
    obtain ⟨i1, i2, i3⟩ := ih
    generalize S.low m.reverse = a at *
    generalize m.reverse = l at *
    obtain ⟨v, f⟩ := a
    cases f with
    | false =>
      have : l = [] := by
        cases l with
        | nil => rfl
        | cons y l => exact absurd (i1.2 (by simp)) (by simp)
      subst this
      simp
    | true =>
      obtain ⟨⟨r, hr, e⟩, hm⟩ := i3 rfl
      simp only at e hm
      by_cases hx : x.1 < v
      · rw [if_pos (by simp [hx])]
        refine ⟨by simp, by simp, fun _ => ⟨⟨x, by simp, rfl⟩, fun r' hr' => ?_⟩⟩
        rcases List.mem_append.1 hr' with h' | h'
        · have := hm r' h'; simp only; omega
        · obtain rfl : r' = x := by simpa using h'
          exact Int.le_refl _
      · rw [if_neg (by simp [hx])]
        refine ⟨by simp, by simp, fun _ => ⟨⟨r, by simp [hr], e⟩, fun r' hr' => ?_⟩⟩
        rcases List.mem_append.1 hr' with h' | h'
        · exact hm r' h'
        · obtain rfl : r' = x := by simpa using h'
          simp only; omega

/-- A round keeps all that lies there but two boxes. -/
def KpL (B1 B2 : Nat) (A B : World) : Prop := A.heap.size ≤ B.heap.size ∧ ∀ (k : Nat) (o : Obj), A.heap[k]? = some o → o.isCells = true → k ≠ B1 → k ≠ B2 → B.heap[k]? = some o
theorem kpL_t {B1 B2 : Nat} {A B C : World} (h1 : KpL B1 B2 A B) (h2 : KpL B1 B2 B C) : KpL B1 B2 A C :=
  ⟨Nat.le_trans h1.1 h2.1, fun k o hk ho e1 e2 => h2.2 k o (h1.2 k o hk ho e1 e2) ho e1 e2⟩
theorem kpL_b {B1 B2 n1 : Nat} (W : World) (l : Nat) (o o' : Obj) (_ : n1 ≤ l) (h : W.heap[l]? = some o) (ho : o.isCells = false) (_ : o.isWalk = false) : KpL B1 B2 W (W.putObj l o') := by
  refine ⟨by simp [World.putObj], fun k ob hk hob _ _ => ?_⟩
  have hne : k ≠ l := by
    rintro rfl
    rw [h] at hk
    cases hk
    rw [ho] at hob
    cases hob
  rw [(grownBy_putObj' W l o').block k (Array.getElem?_eq_some_iff.1 hk).1 (by simpa using hne)]
  exact hk
theorem kpL_below {B1 B2 : Nat} {A B : World} (hb : Below A.heap.size A B) : KpL B1 B2 A B :=
  ⟨hb.size, fun k _ hk _ _ _ => (hb.block k (Array.getElem?_eq_some_iff.1 hk).1).trans hk⟩
theorem KpL.cell {B1 B2 : Nat} {A B : World} (h : KpL B1 B2 A B) {a : Addr} {v : Value} (h1 : a.block ≠ B1) (h2 : a.block ≠ B2) (hc : A.cell? a = some v) : B.cell? a = some v := by
  cases hq : A.heap[a.block]? with
  | none => unfold World.cell? at hc; simp [hq] at hc
  | some o =>
    have ho : o.isCells = true := by
      unfold World.cell? at hc
      rw [hq] at hc
      cases o <;> simp_all [Obj.isCells]
    rw [World.cell?_of_block (w := A) ((h.2 a.block o hq ho h1 h2).trans hq.symm)]
    exact hc
theorem hold_two {B1 B2 : Nat} {St : World → Prop} (hg : ∀ A B, St A → Below A.heap.size A B → St B)
    (hs : ∀ A B, St A → (∀ a v, a.block ≠ B1 → a.block ≠ B2 → A.cell? a = some v → B.cell? a = some v) → St B) : Hold (KpL B1 B2) (fun W => (B1 < W.heap.size ∧ B2 < W.heap.size) ∧ St W) where
  grow A B h hb := ⟨⟨Nat.lt_of_lt_of_le h.1.1 hb.size, Nat.lt_of_lt_of_le h.1.2 hb.size⟩, hg A B h.2 hb⟩
  step A B h hk := ⟨⟨Nat.lt_of_lt_of_le h.1.1 hk.1, Nat.lt_of_lt_of_le h.1.2 hk.1⟩, hs A B h.2 (fun _ _ h1 h2 hc => hk.cell h1 h2 hc)⟩
  fresh A cs t B h hk := hk.2 A.heap.size _ (World.alloc_heap_new A _) rfl (by have := h.1.1; omega) (by have := h.1.2; omega)

theorem kpL_set {B1 B2 : Nat} (W : World) (a b : Value) : KpL B1 B2 W ((W.setCell ⟨B1, 0, none⟩ a).setCell ⟨B2, 0, none⟩ b) := by
  have h1 := grownBy_setCell' W B1 a
  have h2 := grownBy_setCell' (W.setCell ⟨B1, 0, none⟩ a) B2 b
  refine ⟨Nat.le_trans h1.size h2.size, fun k o hk _ e1 e2 => ?_⟩
  have hlt := (Array.getElem?_eq_some_iff.1 hk).1
  rw [h2.block k (Nat.lt_of_lt_of_le hlt h1.size) (by simpa using e2), h1.block k hlt (by simpa using e1)]
  exact hk

set_option maxRecDepth 100000 in
set_option maxHeartbeats 4000000 in
theorem least_any (ao : Option Addr) (ca : Nat) (xs : List S.R) (hl : xs.length ≤ 1000000) (w : World) (h : RdR w ao xs) :
    Calls Try.prog 22 #[.slice ao xs.length ca] w fun e W' => e = .returned (.tuple #[.int .i32 (S.low (S.goods xs)).1, .bool (S.low (S.goods xs)).2]) ∧ Below w.heap.size w W' := by
  refine (callsIn_wide (n := 5)).1 ?_
  refine callsIn_of_wp_marks Try.func22 rfl trivial ?_ rfl
  simp only [Try.ntmps22, List.size_toArray, List.length_cons, List.length_nil, Nat.reduceAdd, Nat.reduceSub, Array.replicate_succ, Array.replicate_zero, List.push_toArray, List.append_toArray, List.nil_append, List.cons_append]
  have hb2 := al2 w (.cells #[.int .i32 0] 21) (.cells #[.bool false] 4)
  have hrl := rdl_one (ca := ca) 35 (h.later hb2)
  simp only [World.size_alloc] at hrl
  have hlo := h.lo
  gi_wp2_with (refine ⟨trivial, ?_⟩; gi_at_call 30; refine (callsIn_wide.2 (goodMake_any _ _ _ _)).mono ?_; rintro e wi ⟨rfl, hwi⟩; simp only [World.size_alloc])
  have hbi : Below (((w.alloc (.cells #[.int .i32 0] 21)).alloc (.cells #[.bool false] 4)).alloc (.cells #[.slice ao xs.length ca] 35)).heap.size (((w.alloc (.cells #[.int .i32 0] 21)).alloc (.cells #[.bool false] 4)).alloc (.cells #[.slice ao xs.length ca] 35)) wi := by rw [hwi]; exact al1 _ _
  have hbox : Boxed wi (w.heap.size + 1 + 1 + 1) 22 (.slice (some ⟨w.heap.size + 1 + 1, 0, none⟩) 1 1) := by
    rw [hwi]
    have := Boxed.new (((w.alloc (.cells #[.int .i32 0] 21)).alloc (.cells #[.bool false] 4)).alloc (.cells #[.slice ao xs.length ca] 35)) 22 (.slice (some ⟨w.heap.size + 1 + 1, 0, none⟩) 1 1)
    simp only [World.size_alloc] at this
    exact this
  have b3 : Boxed wi w.heap.size 21 (.int .i32 0) := (hbi.block w.heap.size (by simp; omega)).trans (((Boxed.new w 21 (.int .i32 0)).alloc (.cells #[.bool false] 4)).alloc (.cells #[.slice ao xs.length ca] 35))
  have b4 : Boxed wi (w.heap.size + 1) 4 (.bool false) := by
    have := (Boxed.new (w.alloc (.cells #[.int .i32 0] 21)) 4 (.bool false)).alloc (.cells #[.slice ao xs.length ca] 35)
    rw [World.size_alloc] at this
    exact (hbi.block (w.heap.size + 1) (by simp)).trans this
  have hB0 : Below w.heap.size w wi := nx (nx hb2 (al1 _ _)) hbi
  have hsz : wi.heap.size = w.heap.size + 4 := by rw [hwi]; simp
  have hrl2 := hrl.later hbi
  clear hwi hbi hrl
  have hS : SL (w.heap.size + 1 + 1 + 1) (w.heap.size + 1 + 1) 0 1 [(ao, ca, xs)] wi := ⟨hbox.cell, hrl2.cells, hrl2.rd⟩
  have hund : ∀ A B, SL (w.heap.size + 1 + 1 + 1) (w.heap.size + 1 + 1) 0 1 [(ao, ca, xs)] A → (∀ a v, a.block ≠ w.heap.size → a.block ≠ w.heap.size + 1 → A.cell? a = some v → B.cell? a = some v) → SL (w.heap.size + 1 + 1 + 1) (w.heap.size + 1 + 1) 0 1 [(ao, ca, xs)] B := fun A B hA hc =>
    ⟨hc _ _ (by simp only; omega) (by simp only; omega) hA.box, fun i hi => hc _ _ (by simp only; omega) (by simp only; omega) (hA.cells i hi), fun p hp => by
      obtain rfl : p = (ao, ca, xs) := by simpa using hp
      intro i hi
      obtain ⟨b, off, e, c1, c2⟩ := hA.rd _ hp i hi
      have := hlo b off e (by simp only at hi ⊢; omega)
      exact ⟨b, off, e, hc _ _ (by simp only; omega) (by simp only; omega) c1, hc _ _ (by simp only; omega) (by simp only; omega) c2⟩⟩
  have hseq : SeqStopsK Fence.wide 4 Try.prog 44 #[.pointer (some ⟨w.heap.size + 1 + 1 + 1, 0, none⟩)] encP (KpL w.heap.size (w.heap.size + 1)) (fun ys => ys = S.goods (flat [(ao, ca, xs)])) (fun pre => pre <+: S.goods (flat [(ao, ca, xs)])) (S.goods (flat [(ao, ca, xs)])).length wi := fun l J Jx W hW hJ _ hY h0 =>
    good1_in 4 (by omega) l (w.heap.size + 1 + 1 + 1) (w.heap.size + 1 + 1) 0 1 [(ao, ca, xs)] (by simp) (fun p hp => by obtain rfl : p = (ao, ca, xs) := (by simpa using hp); exact hl) (KpL w.heap.size (w.heap.size + 1)) _ (hold_two (fun _ _ h hb => h.later hb) hund) (fun _ h => h.2) J Jx W hJ hY ⟨⟨by have := hW.size; omega, by have := hW.size; omega⟩, hS.later hW⟩ h0
  rw [show flat [(ao, ca, xs)] = xs by simp [flat]] at hseq
  clear hS hund hbox hrl2
  refine wpIn_rangeFunc_ownH rfl (by omega) (gf := 44) (lb := #[.pointer (some ⟨w.heap.size + 1 + 1 + 1, 0, none⟩)]) rfl trivial (enters_of Try.func44 (by kernel_rfl) rfl) hseq kpL_t (kpL_b (n1 := wi.heap.size)) (Below.refl _ _) (fun _ => rfl)
    (fun pre W => (Boxed W w.heap.size 21 (.int .i32 (S.low pre).1) ∧ Boxed W (w.heap.size + 1) 4 (.bool (S.low pre).2)) ∧ Below w.heap.size w W)
    (fun _ _ _ => False)
    (OwnFrom.and (OwnFrom.and (Own.from (boxed_own w.heap.size 21 (fun pre => .int .i32 (S.low pre).1)) _) (Own.from (boxed_own (w.heap.size + 1) 4 (fun pre => .bool (S.low pre).2)) _)) (ownFrom_below (Nat.le_refl _) (by omega)))
    (fun _ _ _ _ _ hs _ _ => hs)
    ⟨⟨b3, b4⟩, hB0⟩
    (fun x a' W => ∃ Bx, w.heap.size + 1 < Bx ∧ W.heap[Bx]? = some (.cells #[.int .i32 x.1, .int .i32 x.2] 76 (0, 0)) ∧ a' = { tmps := #[.slice ao xs.length ca, undef, .int .i32 0, .bool false, .pointer (some ⟨w.heap.size, 0, none⟩), .pointer (some ⟨w.heap.size + 1, 0, none⟩), .pointer (some ⟨Bx, 0, none⟩), .slice ao xs.length ca, .slice (some ⟨w.heap.size + 1 + 1, 0, none⟩) 1 1, .func (.func 44) #[] #[.pointer (some ⟨w.heap.size + 1 + 1 + 1, 0, none⟩)], .agg #[.int .i32 x.1, .int .i32 x.2], undef, undef, undef, undef, undef, undef, undef, undef, undef, undef, undef, undef], defers := [] })
    (fun x a' _ X Y row hs hg hr => by
      obtain ⟨Bx, h1, h2, h3⟩ := hs
      exact ⟨Bx, h1, (grownBy_keeps_cells hg (fun r e => (hr r e).2) h2 rfl).trans h2, h3⟩)
    ?assign ?body ?done ?stop
  case assign =>
    rintro l pre x W K ⟨⟨b31, b41⟩, hB1⟩ hK
    simp only [encP]
    gi_wp2
    exact hK _ _ ((KeepsOthers.alloc _ _).from _) (kpL_below (al1 W _)) ⟨⟨b31.alloc _, b41.alloc _⟩, hB1.alloc hB1.size _⟩ ⟨W.heap.size, b41.lt, World.alloc_heap_new W _, rfl⟩
  case body =>
    rintro l pre x a' W hl ⟨r', hr⟩ ⟨⟨b31, b41⟩, hB1⟩ ⟨Bx, hBx, bX, rfl⟩ hlt
    obtain ⟨x1, x2⟩ := x
    simp only at bX
    have HS := hide (S.low_snoc pre (x1, x2))
    generalize S.low pre = a at *
    obtain ⟨lv, lf⟩ := a
    simp only at b31 b41
    have c3 := b31.cell
    have c4 := b41.cell
    have f3 := b31.frozen
    have f4 := b41.frozen
    obtain ⟨cX0, cX1⟩ := cells_two bX
    have hset : ∀ v : Value, (W.setCell ⟨w.heap.size, 0, none⟩ v).cell? ⟨w.heap.size + 1, 0, none⟩ = some (.bool lf) ∧ (W.setCell ⟨w.heap.size, 0, none⟩ v).frozen? ⟨w.heap.size + 1, 0, none⟩ = false := fun v =>
      ⟨((b41.kept (grownBy_setCell' W w.heap.size v) (by simp)).cell), ((b41.kept (grownBy_setCell' W w.heap.size v) (by simp)).frozen)⟩
    have hset1 := (hset (.int .i32 x1)).1
    have hset2 := (hset (.int .i32 x1)).2
    have hnew : Boxed ((W.setCell ⟨w.heap.size, 0, none⟩ (.int .i32 x1)).setCell ⟨w.heap.size + 1, 0, none⟩ (.bool true)) w.heap.size 21 (.int .i32 x1) ∧ Boxed ((W.setCell ⟨w.heap.size, 0, none⟩ (.int .i32 x1)).setCell ⟨w.heap.size + 1, 0, none⟩ (.bool true)) (w.heap.size + 1) 4 (.bool true) :=
      ⟨(b31.set _).kept (grownBy_setCell' _ (w.heap.size + 1) _) (by simp), (b41.kept (grownBy_setCell' W w.heap.size _) (by simp)).set _⟩
    have hBn : Below w.heap.size w ((W.setCell ⟨w.heap.size, 0, none⟩ (.int .i32 x1)).setCell ⟨w.heap.size + 1, 0, none⟩ (.bool true)) := (hB1.setCell (p := ⟨w.heap.size, 0, none⟩) (Nat.le_refl _) _).setCell (p := ⟨w.heap.size + 1, 0, none⟩) (by simp) _
    have hkn := kpL_set (B1 := w.heap.size) (B2 := w.heap.size + 1) W (.int .i32 x1) (.bool true)
    have hko : ∀ n, KeepsFrom n W ((W.setCell ⟨w.heap.size, 0, none⟩ (.int .i32 x1)).setCell ⟨w.heap.size + 1, 0, none⟩ (.bool true)) := fun n => ((KeepsOthers.setCell _ _ _).trans (KeepsOthers.setCell _ _ _)).from n
    clear hset
    cases lf with
    | false =>
      have HQ : Hid (S.low (pre ++ [(x1, x2)]) = (x1, true)) := by show _ = _; rw [HS.out]; simp
      gi_wp2
      exact ⟨hko _, hkn, by rw [HQ.out]; exact hnew, hBn⟩
    | true =>
      by_cases hlt2 : x1 < lv
      · have HQ : Hid (S.low (pre ++ [(x1, x2)]) = (x1, true)) := by show _ = _; rw [HS.out]; simp [hlt2]
        gi_wp2
        exact ⟨hko _, hkn, by rw [HQ.out]; exact hnew, hBn⟩
      · have HQ : Hid (S.low (pre ++ [(x1, x2)]) = (lv, true)) := by show _ = _; rw [HS.out]; simp [hlt2]
        have hlt3 : lv ≤ x1 := by omega
        gi_wp2
        exact ⟨KeepsFrom.refl _ _, kpL_below (Below.refl _ _), by rw [HQ.out]; exact ⟨b31, b41⟩, hB1⟩
  case done =>
    rintro D ys W hD rfl ⟨⟨b31, b41⟩, hB1⟩ hK
    have c3 := b31.cell
    have c4 := b41.cell
    gi_wp2
    gi_region
    all_goals gi_wp2
    have hK' : W.drew.heap[D]? = some (.deferred (some [])) := hK
    have hbd : Below w.heap.size w W.drew := hB1.drew
    refine ⟨by simp, .inl ⟨_, _, rfl, run_takeDeferred hK', ?_⟩⟩
    exact ⟨_, results_tmp2 rfl _ _ _, rfl, hbd.trans (belowK_b (w := w) (Nat.le_refl _) _ D _ _ (by omega) hK' rfl rfl)⟩
  case stop =>
    rintro D c pre W _ _ h _
    exact h.elim
end Go.Proofs.Ytbkcbclloemajaa
