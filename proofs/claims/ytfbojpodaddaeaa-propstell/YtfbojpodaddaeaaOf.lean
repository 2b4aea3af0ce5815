/- props.Of: the names that have a code point. -/
import Derived.Test.YtfbojpodaddaeaaNames
import Derived.Test.YtfbojpodaddaeaaToldw
import Derived.Test.YtfbojpodaddaeaaHas
namespace Go.Proofs.Ytfbojpodaddaeaa
open Go.RowKit Go.Shelf
attribute [local go_sem] Oper.semAt_some

theorem hT_all : HT := told_any
theorem ite_len {c : Prop} [Decidable c] {a b : List S.R} {n : Nat} (h1 : a.length ≤ n) (h2 : b.length ≤ n) : (if c then a else b).length ≤ n := by split <;> assumption
theorem tl_len (s : List UInt8) : (tl s).length ≤ 7 := by
  unfold tl
  exact ite_len (by decide) (ite_len (by decide) (ite_len (by decide) (ite_len (by decide) (ite_len (by decide) (ite_len (by decide) (ite_len (by decide) (ite_len (by decide) (ite_len (by decide) (ite_len (by decide) (ite_len (by decide) (by decide)))))))))))
/-- Whether a name has the code point. -/
def hb (r : Int) (s : ByteArray) : Bool := S.hB (tl s.toList) r
def ofL (r : Int) : List ByteArray := nm.filter (hb r)

theorem no_low {A1 w1 : World} {Bx e0 l : Nat} {r : Loop} {ss : List ByteArray} {v v' : Value} {tmp : Obj} {i : Nat} {o : Obj} (hi : i < e0) (h1 : i ≠ Bx) (h2 : i ≠ l + 1) (hle : e0 ≤ A1.heap.size) (rP : OwnT A1 e0 v ss) (hg : (A1.alloc tmp).grownBy w1 v.ownBlock) (h : A1.heap[i]? = some o) :
    ((w1.setCell ⟨Bx, 0, none⟩ v').putObj (l + 1) (.loop r)).heap[i]? = some o := by
  rw [World.putObj_heap_other h2]
  exact ((chg_set w1 Bx 0 v').block i (by have : A1.heap.size ≤ w1.heap.size := Nat.le_trans (by simp) hg.size; omega) h1).trans ((row_low rP hg hi hle).trans h)

set_option maxRecDepth 100000 in
set_option maxHeartbeats 4000000 in
theorem of_in (rr : Int) (w : World) :
    CallsIn Fence.wide 5 Try.prog 13 #[.int .i32 rr] w fun e W' => ∃ u, e = .returned u ∧ OwnT W' w.heap.size u (ofL rr) ∧ Below w.heap.size w W' := by
  obtain ⟨i0, hi, hz0, hz1, hz2⟩ := info_parts2 info9
  refine callsIn_of_wp_marks Try.func13 rfl trivial ?_ rfl
  simp only [Try.ntmps13, List.size_toArray, List.length_cons, List.length_nil, Nat.reduceAdd, Nat.reduceSub, Array.replicate_succ, Array.replicate_zero, List.push_toArray, List.append_toArray, List.nil_append, List.cons_append]
  gi_wp2_with (refine ⟨trivial, ?_⟩; gi_at_call 18; refine (callsIn_wide.2 (all_any _)).mono ?_; rintro e w2 ⟨rfl, rfl⟩)
  have a0 := al1 w (.cells #[.int .i32 rr] 21)
  have n0 := World.alloc_heap_new w (.cells #[.int .i32 rr] 21)
  have s0 := World.size_alloc w (.cells #[.int .i32 rr] 21)
  generalize w.alloc (.cells #[.int .i32 rr] 21) = w0 at *
  have a1 := al1 w0 (.cells #[.slice none 0 0] 23)
  have n1 := World.alloc_heap_new w0 (.cells #[.slice none 0 0] 23)
  have s1 := World.size_alloc w0 (.cells #[.slice none 0 0] 23)
  generalize w0.alloc (.cells #[.slice none 0 0] 23) = w1 at *
  have e0 : w0.heap.size = w.heap.size + 1 := by omega
  rw [e0] at n1
  have z0 : w.heap.size < w0.heap.size := by omega
  have z1 : w.heap.size + 1 < w1.heap.size := by omega
  clear s1 s0 e0
  refine enter_law2 (gf := 33) (lb := #[]) rfl (enters_of Try.func33 (by kernel_rfl) rfl) ?_
  intro r We hr hrec hdef hszE hbE
  have b1 := nx a1 hbE
  have b0 := nx a0 b1
  have hE : w1.heap.size + 2 ≤ We.heap.size := by omega
  clear hszE
  simp only [List.append_toArray, List.append_nil]
  refine (all1_in 4 (by omega) (w1.heap.size + 1) (fun k A => NO w (w.heap.size + 1) We.heap.size w1.heap.size r ((nm.take k).filter (hb rr)) A ∧ A.heap[w.heap.size]? = some (.cells #[.int .i32 rr] 21 (0, 0))) hT_all (fun k A B h hb => ⟨h.1.grow hb, (hb.block _ (Array.getElem?_eq_some_iff.1 h.2).1).trans h.2⟩) We ?round ?start).mono ?_
  case start => exact ⟨⟨⟨_, (hbE.block _ z1).trans n1, World.ownsRow_nil _ _ _ _⟩, hrec.out, hdef.out, b0, Nat.le_refl _⟩, (b1.block _ z0).trans n0⟩
  case round =>
    clear hrec hdef b0 b1 a1 a0 n0 n1 hbE
    rintro k ao cap s A ⟨hNO, hR⟩ hk HS hrd
    have HT2 : Hid ((nm.take (k + 1)).filter (hb rr) = (nm.take k).filter (hb rr) ++ (if hb rr s = true then [s] else [])) := hide (by
      rw [List.take_succ_eq_append_getElem hk, HS.out, List.filter_append]
      congr 1
      by_cases h : hb rr s = true
      · rw [if_pos h, List.filter_cons_of_pos h, List.filter_nil]
      · rw [if_neg h, List.filter_cons_of_neg h, List.filter_nil])
    have hlen : ((nm.take k).filter (hb rr)).length ≤ 11 := Nat.le_trans (List.length_filter_le _ _) (by rw [List.length_take]; exact Nat.min_le_right _ _)
    rw [HT2.out]
    generalize (nm.take k).filter (hb rr) = ss at *
    generalize hq : (ss ++ if hb rr s = true then [s] else []) = s2
    have HQ := hide hq
    clear hq
    have hl : w.heap.size + 1 < w1.heap.size := z1
    generalize w1.heap.size = l at *
    clear HS hk HT2
    have j5 := hNO.rec_
    have hhas := has_any ao cap (tl s.toList) rr (Nat.le_trans (tl_len _) (by decide))
    have HB : Hid (hb rr s = S.hB (tl s.toList) rr) := hide rfl
    refine yield_law2 hr j5 rfl ?_
    gi_wp2
    intro rb
    have hN1 := hNO.busy (rb := rb) (Nat.le_succ _) hl
    have hR1 : (A.putObj (l + 1) (.loop rb)).heap[w.heap.size]? = some (.cells #[.int .i32 rr] 21 (0, 0)) := (World.putObj_heap_other (by omega)).trans hR
    have hrd1 : RdR (A.putObj (l + 1) (.loop rb)) ao (tl s.toList) := hrd.kept (grownBy_putObj' A (l + 1) (.loop rb)) (fun q e => by cases e; exact ⟨_, j5, rfl⟩)
    clear hNO j5 hr hR hrd
    generalize A.putObj (l + 1) (.loop rb) = A1 at *
    replace hhas := hhas A1 hrd1
    rw [← HB.out] at hhas
    clear HB hrd1
    generalize (tl s.toList).length = tlen at *
    have cR := cell_at hR1 (j := 0) rfl
    cases hbs : hb rr s with
    | true =>
      have h2 : s2 = ss ++ [s] := by rw [← HQ.out, if_pos hbs]
      subst h2
      clear HQ
      rw [hbs] at hhas
      clear hbs
      gi_wp2_with (first
        | (refine ⟨trivial, ?_⟩; gi_at_call 16; refine (CallsIn.inRound _ (callsIn_wide.2 hhas)).mono ?_; rintro e w2 ⟨rfl, hb2⟩; have hN2 := hN1.grow hb2; have hR2 := (hb2.block _ (Array.getElem?_eq_some_iff.1 hR1).1).trans hR1; obtain ⟨⟨v, bP, rP⟩, j5, j6, hB, hle⟩ := hN2; have cP := bP.cell; have rO : w2.ownsRow We.heap.size 9 1 v ss.length (ss.map Value.string) := rP; clear hhas hN1 hR1 cR hb2)
        | (gi_at_builtin; refine wpListIn_append_own_at _ rfl _ _ 23 rfl We.heap.size 9 i0 (.string ByteArray.empty) 1 16 Try.underlying23 hi hz0 hz1 hz2 rfl (by decide) _ _ _ rfl (rO.alloc _) ⟨w2.heap.size, 0, none⟩ 1 1 [.string s] rfl rfl (one_new _ _ _) (by simp [Value.oneCell']) (by unfold maxLen; omega) (by omega) (by simp; omega) ?_; intro v' w9 hown' hgrow _ hat; obtain ⟨g', cap', rfl⟩ := ownsRow_succ hown'; have hv1 : Boxed w9 (w.heap.size + 1) 23 v := ((row_low rP hgrow (by omega) hle).trans bP); have fin2 := no_app (r := r) (Nat.le_succ w.heap.size) hl hE hle bP rP j5 j6 hB hown' hgrow; have fin3 := no_low (r := r) (v' := .slice (some ⟨g', 0, none⟩) (ss.length + 1) cap') (show w.heap.size < We.heap.size by omega) (show w.heap.size ≠ w.heap.size + 1 by omega) (show w.heap.size ≠ l + 1 by omega) hle rP hgrow hR2; have hc1 := hv1.cell; have hf1 := hv1.frozen; clear cP))
      exact ⟨fin2.1, fin2.2, fin3⟩
    | false =>
      have h2 : s2 = ss := by rw [← HQ.out, if_neg (by rw [hbs]; decide), List.append_nil]
      subst h2
      clear HQ
      rw [hbs] at hhas
      clear hbs
      gi_wp2_with (refine ⟨trivial, ?_⟩; gi_at_call 16; refine (CallsIn.inRound _ (callsIn_wide.2 hhas)).mono ?_; rintro e w2 ⟨rfl, hb2⟩; have hN2 := hN1.grow hb2; have hR2 := (hb2.block _ (Array.getElem?_eq_some_iff.1 hR1).1).trans hR1; clear hhas hN1 hR1 cR hb2)
      exact ⟨hN2.rec_, hN2.busy (Nat.le_succ _) hl, (World.putObj_heap_other (by omega)).trans hR2⟩
  rintro e W' ⟨hv, h, _⟩
  refine ⟨hv, h.rec_, fun r' => ?_⟩
  have hl : w.heap.size + 1 < w1.heap.size := z1
  have hN1 := h.busy (rb := r') (Nat.le_succ _) hl
  clear h hrec hdef b0 a1 n1 a0 n0 b1 hbE hr hv
  generalize w1.heap.size = l at *
  generalize W'.putObj (l + 1) (.loop r') = W9 at *
  obtain ⟨⟨v, bP, rP⟩, j5, j6, hB, hle⟩ := hN1
  have HN : Hid (nm.take 11 = nm) := hide rfl
  rw [HN.out] at rP
  have c1 := bP.cell
  gi_wp2
  refine ⟨by simp, .inl ⟨_, _, rfl, run_takeDeferred j6, ?_⟩⟩
  exact ⟨_, results_tmp rfl _ _ _, v, rfl, (show OwnT _ We.heap.size v (ofL rr) from ownsRow_putObj rP _ j6 rfl).low (by omega), hB.trans (belowK_b (w := w) (Nat.le_refl _) _ l _ _ (by omega) j6 rfl rfl)⟩
theorem of_any (rr : Int) (w : World) : Calls Try.prog 13 #[.int .i32 rr] w fun e W' => ∃ u, e = .returned u ∧ OwnT W' w.heap.size u (ofL rr) ∧ Below w.heap.size w W' := callsIn_wide.1 (of_in rr w)
end Go.Proofs.Ytfbojpodaddaeaa
