/- props.Names: the names, byte by byte. -/
import Derived.Test.YtfbojpodaddaeaaAll
namespace Go.Proofs.Ytfbojpodaddaeaa
open Go.RowKit Go.Shelf
attribute [local go_sem] Oper.semAt_some

/-- A row of texts that the call itself made. -/
def OwnT (w : World) (B : Nat) (v : Value) (ss : List ByteArray) : Prop := w.ownsRow B 9 1 v ss.length (ss.map Value.string)
theorem OwnT.later {w w' : World} {B : Nat} {v : Value} {ss : List ByteArray} (h : OwnT w B v ss) (hb : Below w.heap.size w w') : OwnT w' B v ss := by
  obtain ⟨h1, h2 | ⟨g, cap, cur, rfl, h3, h4, h5⟩⟩ := h
  · exact ⟨h1, .inl h2⟩
  · exact ⟨h1, .inr ⟨g, cap, cur, rfl, h3, (hb.block g (Array.getElem?_eq_some_iff.1 h4).1).trans h4, h5⟩⟩
theorem OwnT.low {w : World} {B B' : Nat} {v : Value} {xs : List ByteArray} (h : OwnT w B v xs) (hb : B' ≤ B) : OwnT w B' v xs := by
  obtain ⟨h1, h2 | ⟨g, cap, cur, rfl, h3, h4⟩⟩ := h
  · exact ⟨h1, .inl h2⟩
  · exact ⟨h1, .inr ⟨g, cap, cur, rfl, Nat.le_trans hb h3, h4⟩⟩
theorem OwnT.block {w : World} {B : Nat} {v : Value} {xs : List ByteArray} (h : OwnT w B v xs) : ∀ k, v.ownBlock = some k → B ≤ k := by
  intro g hg
  obtain ⟨_, ⟨rfl, _⟩ | ⟨g', cap', cur', rfl, hg', _⟩⟩ := h
  · simp [Value.ownBlock] at hg
  · simp [Value.ownBlock] at hg; omega
/-- The slice reads as these texts. -/
def RdT (w : World) (ao : Option Addr) (ss : List ByteArray) : Prop := ∀ i (h : i < ss.length), ∃ b off, ao = some ⟨b, off, none⟩ ∧ w.cell? ⟨b, off + i, none⟩ = some (.string ss[i])
theorem RdT.later {w wx : World} {ao : Option Addr} {xs : List ByteArray} (h : RdT w ao xs) (hb : Below w.heap.size w wx) : RdT wx ao xs := fun i hi =>
  let ⟨b, off, e, h1⟩ := h i hi
  ⟨b, off, e, cell_later hb h1⟩
theorem OwnT.rd {w : World} {B : Nat} {v : Value} {xs : List ByteArray} (h : OwnT w B v xs) : ∃ ao cap, v = .slice ao xs.length cap ∧ xs.length ≤ cap ∧ RdT w ao xs := by
  obtain ⟨_, h | ⟨g, cap, cur, rfl, _, hg, hle, _, hsz, hxs⟩⟩ := h
  · obtain ⟨rfl, hn⟩ := h
    have : xs = [] := List.eq_nil_of_length_eq_zero hn
    subst this
    exact ⟨none, 0, rfl, Nat.le_refl _, fun i hi => by simp at hi⟩
  · refine ⟨_, cap, rfl, hle, fun i hi => ⟨g, 0, rfl, ?_⟩⟩
    simp only [World.cell?, hg, Nat.zero_add]
    have h1 : (cur.toList.take (xs.length * 1))[i]? = (xs.map Value.string)[i]? := by rw [hxs]
    rw [List.getElem?_take, if_pos (by omega)] at h1
    simpa [hi] using h1

/-- A box of texts between the rounds. -/
structure NO (w : World) (Bx e0 l : Nat) (r : Loop) (ss : List ByteArray) (A : World) : Prop where
  own : ∃ v, Boxed A Bx 23 v ∧ OwnT A e0 v ss
  rec_ : A.heap[l + 1]? = some (.loop r)
  def_ : A.heap[l]? = some (.deferred (some []))
  below : Below w.heap.size w A
  le : e0 ≤ A.heap.size
theorem NO.grow {w : World} {Bx e0 l : Nat} {r : Loop} {ss : List ByteArray} {A B : World} (h : NO w Bx e0 l r ss A) (hb : Below A.heap.size A B) : NO w Bx e0 l r ss B := by
  obtain ⟨⟨v, h1, h1'⟩, h2, h3, h7, h8⟩ := h
  have hk : ∀ (i : Nat) (o : Obj), A.heap[i]? = some o → B.heap[i]? = some o := fun i o hi => (hb.block i (Array.getElem?_eq_some_iff.1 hi).1).trans hi
  exact ⟨⟨v, hk _ _ h1, h1'.later hb⟩, hk _ _ h2, hk _ _ h3, nx h7 hb, Nat.le_trans h8 hb.size⟩
theorem info9 : (Try.prog.info? 9).map (fun i => (i.zero, i.size, i.bytes)) = some (some (.string ByteArray.empty), 1, 16) := by kernel_rfl

theorem row_low {A1 w1 : World} {e0 : Nat} {v : Value} {ss : List ByteArray} {tmp : Obj} (rP : OwnT A1 e0 v ss) (hg : (A1.alloc tmp).grownBy w1 v.ownBlock) {i : Nat} (hi : i < e0) (hle : e0 ≤ A1.heap.size) : w1.heap[i]? = A1.heap[i]? :=
  (hg.block i (by simp; omega) (fun e => by have := rP.block i e.symm; omega)).trans (Below.heap_alloc _ _ _ (by omega))
theorem no_app {w A1 w1 : World} {Bx e0 l : Nat} {rb r : Loop} {ss : List ByteArray} {s : ByteArray} {v v' : Value} {tmp : Obj} (hBx : w.heap.size ≤ Bx) (hl : Bx < l) (he : l + 2 ≤ e0) (hle : e0 ≤ A1.heap.size) (bP : Boxed A1 Bx 23 v) (rP : OwnT A1 e0 v ss) (j5 : A1.heap[l + 1]? = some (.loop rb)) (j6 : A1.heap[l]? = some (.deferred (some []))) (hB : Below w.heap.size w A1)
    (hown' : w1.ownsRow e0 9 1 v' (ss.length + 1) (ss.map Value.string ++ [.string s])) (hg : (A1.alloc tmp).grownBy w1 v.ownBlock) :
    (w1.setCell ⟨Bx, 0, none⟩ v').heap[l + 1]? = some (.loop rb) ∧ NO w Bx e0 l r (ss ++ [s]) ((w1.setCell ⟨Bx, 0, none⟩ v').putObj (l + 1) (.loop r)) := by
  have hlow : ∀ i, i < e0 → w1.heap[i]? = A1.heap[i]? := fun i hi => row_low rP hg hi hle
  have hv1 : Boxed w1 Bx 23 v := (hlow Bx (by omega)).trans bP
  have hs1 : A1.heap.size ≤ w1.heap.size := Nat.le_trans (by simp) hg.size
  have hc := chg_set w1 Bx 0 v'
  have l9 : (w1.setCell ⟨Bx, 0, none⟩ v').heap[l + 1]? = some (.loop rb) := (hc.block _ (by omega) (by omega)).trans ((hlow _ (by omega)).trans j5)
  have d9 : (w1.setCell ⟨Bx, 0, none⟩ v').heap[l]? = some (.deferred (some [])) := (hc.block _ (by omega) (by omega)).trans ((hlow _ (by omega)).trans j6)
  have p9 : Boxed (w1.setCell ⟨Bx, 0, none⟩ v') Bx 23 v' := hv1.set v'
  have o9 : OwnT (w1.setCell ⟨Bx, 0, none⟩ v') e0 v' (ss ++ [s]) := by
    unfold OwnT
    rw [List.map_append, List.length_append]
    refine World.ownsRow.kept hown' (w' := w1.setCell ⟨Bx, 0, none⟩ v') (row := some Bx) ⟨hc.os, hc.tape, hc.output, hc.size, fun k hk hn => hc.block k hk (fun e => hn (by rw [e]))⟩ (.inr fun e => ?_)
    rcases hown'.2 with ⟨h, _⟩ | ⟨g', cap', cur', h, hg', _⟩
    · rw [h] at e; cases e
    · rw [h] at e; simp [Value.ownBlock] at e; omega
  have b9 : Below w.heap.size w (w1.setCell ⟨Bx, 0, none⟩ v') := ⟨(hc.os.trans hg.os).trans hB.os, (hc.tape.trans hg.tape).trans hB.tape, (hc.output.trans hg.output).trans hB.output, Nat.le_trans hB.size (Nat.le_trans hs1 hc.size), fun i hi => (hc.block i (by omega) (by omega)).trans ((hlow i (by omega)).trans (hB.block i hi))⟩
  have z9 : e0 ≤ (w1.setCell ⟨Bx, 0, none⟩ v').heap.size := Nat.le_trans hle (Nat.le_trans hs1 hc.size)
  generalize w1.setCell ⟨Bx, 0, none⟩ v' = A9 at *
  have hne : ∀ k, k ≠ l + 1 → (A9.putObj (l + 1) (.loop r)).heap[k]? = A9.heap[k]? := fun k hk => World.putObj_heap_other hk
  exact ⟨l9, ⟨v', (hne _ (by omega)).trans p9, ownsRow_putObj o9 _ l9 rfl⟩, World.putObj_heap_same (Array.getElem?_eq_some_iff.1 l9).1, (hne _ (by omega)).trans d9, b9.trans (belowK_b (w := w) (Nat.le_refl _) _ (l + 1) _ _ (by omega) l9 rfl rfl), by simp; exact z9⟩
/-- The record turned busy. -/
theorem NO.busy {w : World} {Bx e0 l : Nat} {r rb : Loop} {ss : List ByteArray} {A : World} (h : NO w Bx e0 l r ss A) (hBx : w.heap.size ≤ Bx) (hl : Bx < l) : NO w Bx e0 l rb ss (A.putObj (l + 1) (.loop rb)) := by
  obtain ⟨⟨v, bP, rP⟩, j5, j6, hB, hle⟩ := h
  have hne : ∀ k, k ≠ l + 1 → (A.putObj (l + 1) (.loop rb)).heap[k]? = A.heap[k]? := fun k hk => World.putObj_heap_other hk
  exact ⟨⟨v, (hne _ (by omega)).trans bP, ownsRow_putObj rP _ j5 rfl⟩, World.putObj_heap_same (Array.getElem?_eq_some_iff.1 j5).1, (hne _ (by omega)).trans j6, hB.trans (belowK_b (w := w) (Nat.le_refl _) _ (l + 1) _ _ (by omega) j5 rfl rfl), by simp; exact hle⟩
theorem one_new (w : World) (x : Value) (t : TypeId) : ∀ j u, [x][j]? = some u → (w.alloc (.cells #[x] t)).cell? ((⟨w.heap.size, 0, none⟩ : Addr).add j) = some u := by
  intro j u hj
  rw [Addr.add_mid]
  match j, hj with
  | 0, hj => simp at hj; subst hj; exact (Boxed.new w t x).cell
  | j + 1, hj => simp at hj

set_option maxHeartbeats 1000000 in
theorem all_any (w : World) : Calls Try.prog 18 #[] w fun e w' => e = .returned (.func (.func 33) #[] #[]) ∧ w' = w := by
  go_enter Try.func18, Try.ntmps18
  go_wp2
  go_ret
  exact ⟨rfl, rfl⟩

def HT : Prop := ∀ (s : ByteArray) (w : World), Calls Try.prog 19 #[.string s] w fun e W' => ∃ ao cap, e = .returned (.slice ao (tl s.toList).length cap) ∧ RdR W' ao (tl s.toList) ∧ (ao = none → cap = 0) ∧ Below w.heap.size w W'

set_option maxRecDepth 100000 in
set_option maxHeartbeats 4000000 in
theorem names_in (hT : HT) (w : World) :
    CallsIn Fence.wide 5 Try.prog 8 #[] w fun e W' => ∃ u, e = .returned u ∧ OwnT W' w.heap.size u nm ∧ Below w.heap.size w W' := by
  obtain ⟨i0, hi, hz0, hz1, hz2⟩ := info_parts2 info9
  refine callsIn_of_wp_marks Try.func8 rfl trivial ?_ rfl
  simp only [Try.ntmps8, List.size_toArray, List.length_nil, Nat.reduceSub, Array.replicate_succ, Array.replicate_zero, List.push_toArray, List.append_toArray, List.nil_append, List.cons_append]
  gi_wp2_with (refine ⟨trivial, ?_⟩; gi_at_call 18; refine (callsIn_wide.2 (all_any _)).mono ?_; rintro e w2 ⟨rfl, rfl⟩)
  have a1 := al1 w (.cells #[.slice none 0 0] 23)
  have n1 := World.alloc_heap_new w (.cells #[.slice none 0 0] 23)
  have s1 := World.size_alloc w (.cells #[.slice none 0 0] 23)
  generalize w.alloc (.cells #[.slice none 0 0] 23) = w1 at *
  have E1 : Hid (w1.heap.size = w.heap.size + 1) := hide (by omega)
  have z0 : w.heap.size < w1.heap.size := by omega
  clear s1
  refine enter_law2 (gf := 33) (lb := #[]) rfl (enters_of Try.func33 (by kernel_rfl) rfl) ?_
  intro r We hr hrec hdef hszE hbE
  have b0 := nx a1 hbE
  have hE : w1.heap.size + 2 ≤ We.heap.size := by omega
  clear hszE
  simp only [List.append_toArray, List.append_nil]
  refine (all1_in 4 (by omega) (w1.heap.size + 1) (fun k => NO w w.heap.size We.heap.size w1.heap.size r (nm.take k)) hT (fun k A B h hb => h.grow hb) We ?round ?start).mono ?_
  case start => exact ⟨⟨_, (hbE.block _ z0).trans n1, World.ownsRow_nil _ _ _ _⟩, hrec.out, hdef.out, b0, Nat.le_refl _⟩
  case round =>
    clear hrec hdef b0 a1 n1 hbE
    rintro k ao cap s A hNO hk HS _
    have HT2 : Hid (nm.take (k + 1) = nm.take k ++ [s]) := hide (by rw [List.take_succ_eq_append_getElem hk, HS.out])
    have hlen : (nm.take k).length ≤ 11 := by rw [List.length_take]; exact Nat.min_le_right _ _
    rw [HT2.out]
    generalize nm.take k = ss at *
    generalize (tl s.toList).length = tlen at *
    have hl : w.heap.size < w1.heap.size := z0
    generalize w1.heap.size = l at *
    clear HS hk HT2
    have j5 := hNO.rec_
    refine yield_law2 hr j5 rfl ?_
    gi_wp2
    intro rb
    have hN1 := hNO.busy (rb := rb) (Nat.le_refl _) hl
    clear hNO j5 hr
    generalize A.putObj (l + 1) (.loop rb) = A1 at *
    obtain ⟨⟨v, bP, rP⟩, j5, j6, hB, hle⟩ := hN1
    have cP := bP.cell
    have rO : A1.ownsRow We.heap.size 9 1 v ss.length (ss.map Value.string) := rP
    have fin := fun (w9 : World) (v' : Value) (tmp : Obj) (h1 : w9.ownsRow We.heap.size 9 1 v' (ss.length + 1) (ss.map Value.string ++ [.string s])) (h2 : (A1.alloc tmp).grownBy w9 v.ownBlock) => no_app (r := r) (Nat.le_refl _) hl hE hle bP rP j5 j6 hB h1 h2
    gi_wp2_with (gi_at_builtin; refine wpListIn_append_own_at _ rfl _ _ 23 rfl We.heap.size 9 i0 (.string ByteArray.empty) 1 16 Try.underlying23 hi hz0 hz1 hz2 rfl (by decide) _ _ _ rfl (rO.alloc _) ⟨A1.heap.size, 0, none⟩ 1 1 [.string s] rfl rfl (one_new _ _ _) (by simp [Value.oneCell']) (by unfold maxLen; omega) (by omega) (by simp; omega) ?_; intro v' w9 hown' hgrow _ hat; obtain ⟨g', cap', rfl⟩ := ownsRow_succ hown'; have hv1 : Boxed w9 w.heap.size 23 v := ((row_low rP hgrow (by omega) hle).trans bP); have fin2 := fin _ _ _ hown' hgrow; have hc1 := hv1.cell; have hf1 := hv1.frozen; clear cP)
    exact fin2
  rintro e W' ⟨hv, h⟩
  refine ⟨hv, h.rec_, fun r' => ?_⟩
  have hl : w.heap.size < w1.heap.size := z0
  have hN1 := h.busy (rb := r') (Nat.le_refl _) hl
  clear h hrec hdef b0 a1 n1 hbE hr hv
  generalize w1.heap.size = l at *
  generalize W'.putObj (l + 1) (.loop r') = W9 at *
  obtain ⟨⟨v, bP, rP⟩, j5, j6, hB, hle⟩ := hN1
  have HN : Hid (nm.take 11 = nm) := hide rfl
  rw [HN.out] at rP
  have c1 := bP.cell
  gi_wp2
  refine ⟨by simp, .inl ⟨_, _, rfl, run_takeDeferred j6, ?_⟩⟩
  exact ⟨_, results_tmp rfl _ _ _, v, rfl, (show OwnT _ We.heap.size v nm from ownsRow_putObj rP _ j6 rfl).low (by omega), hB.trans (belowK_b (w := w) (Nat.le_refl _) _ l _ _ (by omega) j6 rfl rfl)⟩
theorem names_any (hT : HT) (w : World) : Calls Try.prog 8 #[] w fun e W' => ∃ u, e = .returned u ∧ OwnT W' w.heap.size u nm ∧ Below w.heap.size w W' := callsIn_wide.1 (names_in hT w)
end Go.Proofs.Ytfbojpodaddaeaa
