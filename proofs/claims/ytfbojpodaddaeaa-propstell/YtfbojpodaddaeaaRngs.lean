/- rangesOf: the ranges of a row of ends. -/
import Derived.Test.YtfbojpodaddaeaaChunk
namespace Go.Proofs.Ytfbojpodaddaeaa
open Go.RowKit Go.Shelf
attribute [local go_sem] Oper.semAt_some

/-- What lay in the blocks that p does not name lies as it lay. -/
structure Chg (p : Nat → Prop) (A B : World) : Prop where
  os : B.os = A.os
  tape : B.tape = A.tape
  output : B.output = A.output
  size : A.heap.size ≤ B.heap.size
  block : ∀ k, k < A.heap.size → ¬ p k → B.heap[k]? = A.heap[k]?
theorem Chg.trans {p q : Nat → Prop} {A B C : World} (h : Chg p A B) (k : Chg q B C) : Chg (fun i => p i ∨ q i) A C :=
  ⟨k.os.trans h.os, k.tape.trans h.tape, k.output.trans h.output, Nat.le_trans h.size k.size, fun i hi hp => (k.block i (Nat.lt_of_lt_of_le hi h.size) (fun x => hp (.inr x))).trans (h.block i hi (fun x => hp (.inl x)))⟩
theorem Chg.mono {p q : Nat → Prop} {A B : World} (h : Chg p A B) (hpq : ∀ k, k < A.heap.size → p k → q k) : Chg q A B :=
  ⟨h.os, h.tape, h.output, h.size, fun i hi hq => h.block i hi (fun x => hq (hpq i hi x))⟩
theorem Chg.below {A B : World} (h : Below A.heap.size A B) : Chg (fun _ => False) A B := ⟨h.os, h.tape, h.output, h.size, fun k hk _ => h.block k hk⟩

/-- One struct of two cells is appended to a row of the call's own. -/
theorem app_one {T e : TypeId} {z0 z1 : Value} {by_ : Nat} (hT : Try.prog.underlying T = some (.slice e)) (hI : (Try.prog.info? e).map (fun i => (i.zero, i.size, i.bytes)) = some (some (.agg #[z0, z1]), 2, by_)) (hz : (Value.agg #[z0, z1]).cells.size = 2) (hby : by_ ≤ 64)
    (ty : TypeId) {w : World} {B N : Nat} {v c0 c1 : Value} {xs : List Value} (ho : w.ownsRow B e 2 v N xs) (hB : B ≤ w.heap.size) (hN : N ≤ 10000000) (h0 : c0.oneCell' = true) (h1 : c1.oneCell' = true) :
    ∃ v' w', (Builtin.append_ #[T, T] ty #[v, .slice (some ⟨w.heap.size, 0, none⟩) 1 1]).run Try.prog (w.alloc (.cells #[c0, c1] e)) = .ok v' w' ∧ w'.ownsRow B e 2 v' (N + 1) (xs ++ [c0, c1]) ∧ Chg (fun k => some k = v.ownBlock) w w' ∧
      (v'.ownBlock = v.ownBlock ∨ ∃ g, v'.ownBlock = some g ∧ w.heap.size ≤ g) ∧ (∃ g cap, v' = .slice (some ⟨g, 0, none⟩) (N + 1) cap) := by
  obtain ⟨i0, hi, hz0, hz1, hz2⟩ := info_parts2 hI
  have hnew := World.alloc_heap_new w (.cells #[c0, c1] e)
  have hc := cells_two hnew
  obtain ⟨v', w', hr, h2, h3, h4, h5⟩ := run_append_own_at (P := Try.prog) (w.alloc (.cells #[c0, c1] e)) B T ty e i0 _ 2 by_ hT hi hz0 hz1 hz2 hz (by decide) v N xs (ho.alloc _) ⟨w.heap.size, 0, none⟩ 1 1 [c0, c1] rfl
    (fun j u hu => by
      match j, hu with
      | 0, hu => simp at hu; subst hu; exact hc.1
      | 1, hu => simp at hu; subst hu; exact hc.2
      | j + 2, hu => simp at hu) (by simp [h0, h1]) (by unfold maxLen; omega) (by
        have : (N + 1) * by_ ≤ (N + 1) * 64 := Nat.mul_le_mul_left _ hby
        omega) (by simp; omega)
  refine ⟨v', w', hr, h2, ⟨h3.os, h3.tape, h3.output, Nat.le_trans (by simp) h3.size, fun k hk hp => (h3.block k (by simp; omega) hp).trans (Below.heap_alloc _ _ _ hk)⟩, ?_, ?_⟩
  · rcases h5 with h5 | h5
    · exact .inl h5
    · exact .inr ⟨_, h5, by simp⟩
  · obtain ⟨_, ⟨_, h⟩ | ⟨g, cap, _, h, _⟩⟩ := h2
    · cases h
    · exact ⟨g, cap, h⟩
theorem cell_at {w : World} {b j : Nat} {cs : Array Value} {t : TypeId} {fz : Nat × Nat} {v : Value} (h : w.heap[b]? = some (.cells cs t fz)) (hj : cs[j]? = some v) : w.cell? ⟨b, j, none⟩ = some v := by simp [World.cell?, h, hj]
theorem frozen_at {w : World} {b j : Nat} {cs : Array Value} {t : TypeId} (h : w.heap[b]? = some (.cells cs t (0, 0))) : w.frozen? ⟨b, j, none⟩ = false := by simp [World.frozen?, h]
theorem set_at {w : World} {b j : Nat} {cs : Array Value} {t : TypeId} {fz : Nat × Nat} (v : Value) (h : w.heap[b]? = some (.cells cs t fz)) : (w.setCell ⟨b, j, none⟩ v).heap[b]? = some (.cells (cs.setIfInBounds j v) t fz) := by
  rw [Sort.setCell_eq]
  unfold Sort.mapBlock
  rw [Array.getElem?_modify, if_pos rfl, h]
  rfl
theorem chg_set (w : World) (b j : Nat) (v : Value) : Chg (fun k => k = b) w (w.setCell ⟨b, j, none⟩ v) := by
  rw [Sort.setCell_eq]
  unfold Sort.mapBlock
  refine ⟨rfl, rfl, rfl, by simp, fun k _ hk => ?_⟩
  show (w.heap.modify b _)[k]? = _
  rw [Array.getElem?_modify, if_neg (fun e => hk e.symm)]


theorem cR_arr (zs : List S.R) (k : Nat) (h : k < zs.length) : (cR zs).toArray[k * 2]? = some (.int .i32 zs[k].1) ∧ (cR zs).toArray[k * 2 + 1]? = some (.int .i32 zs[k].2) := by
  have := cR_at zs k h
  simpa using this

theorem elemSize67 (w : World) : (sizeOf (Try.prog.elem 67)).run Try.prog w = .ok 1 w := by kernel_rfl

theorem OwnR.low {w : World} {B B' : Nat} {e : TypeId} {v : Value} {xs : List S.R} (h : OwnR w B e v xs) (hb : B' ≤ B) : OwnR w B' e v xs := by
  obtain ⟨h1, h2 | ⟨g, cap, cur, rfl, h3, h4⟩⟩ := h
  · exact ⟨h1, .inl h2⟩
  · exact ⟨h1, .inr ⟨g, cap, cur, rfl, Nat.le_trans hb h3, h4⟩⟩

/-- rangesOf between its rounds. -/
structure RO (w : World) (e0 l : Nat) (r : Loop) (b N : Nat) (zs : List S.R) (k : Nat) (A : World) : Prop where
  own : ∃ v, Boxed A w.heap.size 26 v ∧ OwnR A e0 40 v (zs.take k)
  rec_ : A.heap[l + 1]? = some (.loop r)
  def_ : A.heap[l]? = some (.deferred (some []))
  bs : A.heap[w.heap.size + 1]? = some (.cells #[.slice (some ⟨b, 0, none⟩) N N] 67 (0, 0))
  bn : A.heap[w.heap.size + 2]? = some (.cells #[.int .i64 2] 3 (0, 0))
  row : A.heap[b]? = some (.cells (cR zs).toArray 21 (0, 0))
  below : Below w.heap.size w A
  le : e0 ≤ A.heap.size

set_option maxRecDepth 100000 in
set_option maxHeartbeats 4000000 in
theorem rangesOf_in (b N : Nat) (zs : List S.R) (hN : Hid (N = zs.length * 2)) (hm : zs.length ≤ 1000) (w : World) (hrow : w.heap[b]? = some (.cells (cR zs).toArray 21 (0, 0))) :
    CallsIn Fence.wide 5 Try.prog 34 #[.slice (some ⟨b, 0, none⟩) N N] w fun e W' => ∃ u, e = .returned u ∧ OwnR W' w.heap.size 40 u zs ∧ Below w.heap.size w W' := by
  refine callsIn_of_wp_marks Try.func34 rfl trivial ?_ rfl
  simp only [Try.ntmps34, List.size_toArray, List.length_cons, List.length_nil, Nat.reduceAdd, Nat.reduceSub, Array.replicate_succ, Array.replicate_zero, List.push_toArray, List.append_toArray, List.nil_append, List.cons_append]
  gi_wp2_with (refine ⟨trivial, ?_⟩; gi_at_call 41; refine (callsIn_wide.2 (chunkMake_any _ _ _ _)).mono ?_; rintro e w2 ⟨rfl, rfl⟩)
  have a1 := al1 w (.cells #[.slice none 0 0] 26)
  have n1 := World.alloc_heap_new w (.cells #[.slice none 0 0] 26)
  have s1 := World.size_alloc w (.cells #[.slice none 0 0] 26)
  generalize w.alloc (.cells #[.slice none 0 0] 26) = w1 at *
  have a2 := al1 w1 (.cells #[.slice (some ⟨b, 0, none⟩) N N] 67)
  have n2 := World.alloc_heap_new w1 (.cells #[.slice (some ⟨b, 0, none⟩) N N] 67)
  have s2 := World.size_alloc w1 (.cells #[.slice (some ⟨b, 0, none⟩) N N] 67)
  generalize w1.alloc (.cells #[.slice (some ⟨b, 0, none⟩) N N] 67) = w2 at *
  have a3 := al1 w2 (.cells #[.int .i64 2] 3)
  have n3 := World.alloc_heap_new w2 (.cells #[.int .i64 2] 3)
  have s3 := World.size_alloc w2 (.cells #[.int .i64 2] 3)
  generalize w2.alloc (.cells #[.int .i64 2] 3) = w3 at *
  have e1 : w1.heap.size = w.heap.size + 1 := by omega
  have e2 : w2.heap.size = w.heap.size + 2 := by omega
  have e3 : w3.heap.size = w.heap.size + 3 := by omega
  rw [e1] at n2
  rw [e2] at n3
  have hblt : b < w.heap.size := (Array.getElem?_eq_some_iff.1 hrow).1
  have E3 := hide e3
  have z1 : w1.heap.size < w2.heap.size := by omega
  have z0 : w.heap.size < w1.heap.size := by omega
  have z2 : w2.heap.size < w3.heap.size := by omega
  have l1 : w.heap.size + 1 < w2.heap.size := by omega
  clear e1 e2 e3 s1 s2 s3
  refine enter_law2 (gf := 46) (lb := #[.pointer (some ⟨w.heap.size + 1, 0, none⟩), .pointer (some ⟨w.heap.size + 1 + 1, 0, none⟩)]) rfl (enters_of Try.func46 (by kernel_rfl) rfl) ?_
  intro r We hr hrec hdef hszE hbE
  have b2 := nx a3 hbE
  have b1 := nx a2 b2
  have b0 := nx a1 b1
  refine (chunk1_in 4 (by omega) (w3.heap.size + 1) (w.heap.size + 1) (w.heap.size + 1 + 1) b zs.length N hN hm (RO w We.heap.size w3.heap.size r b N zs) ?box ?grow We ?round ?start).mono ?_
  case box =>
    rintro k A h
    exact ⟨cell_at h.bs rfl, cell_at h.bn rfl⟩
  case grow =>
    rintro k A B ⟨⟨v, h1, h1'⟩, h2, h3, h4, h5, h6, h7, h8⟩ hb
    have hk : ∀ (i : Nat) (o : Obj), A.heap[i]? = some o → B.heap[i]? = some o := fun i o hi => (hb.block i (Array.getElem?_eq_some_iff.1 hi).1).trans hi
    exact ⟨⟨v, hk _ _ h1, OwnR.later h1' hb⟩, hk _ _ h2, hk _ _ h3, hk _ _ h4, hk _ _ h5, hk _ _ h6, nx h7 hb, Nat.le_trans h8 hb.size⟩
  case start =>
    exact ⟨⟨_, (b1.block _ z0).trans n1, World.ownsRow_nil _ _ _ _⟩, hrec.out, hdef.out, (b2.block _ l1).trans n2, (hbE.block _ (by have := E3.out; omega)).trans n3, (b0.block _ hblt).trans hrow, b0, Nat.le_refl _⟩
  case round =>
    clear hrec hdef b0 b1 b2 a1 a2 a3 n1 n2 n3 z0 z1 z2 l1 hbE hrow
    rintro k A ⟨⟨v, bP, rP⟩, j5, j6, qs, qn, hrow, hB, hle⟩ hlt
    have hl0 : w.heap.size + 3 ≤ w3.heap.size := by have := E3.out; omega
    have hE : w3.heap.size + 2 ≤ We.heap.size := by omega
    clear E3 hszE
    generalize w3.heap.size = l at *
    obtain ⟨x1, hx1⟩ : ∃ x, zs[k].1 = x := ⟨_, rfl⟩
    obtain ⟨x2, hx2⟩ : ∃ x, zs[k].2 = x := ⟨_, rfl⟩
    have hz := cR_arr zs k hlt
    rw [hx1, hx2] at hz
    have HT : Hid (cR (zs.take (k + 1)) = cR (zs.take k) ++ [.int .i32 x1, .int .i32 x2]) := hide (by
      rw [List.take_succ_eq_append_getElem hlt, cR_append, ← hx1, ← hx2]
      rfl)
    have hlen : (zs.take k).length = k := by rw [List.length_take]; omega
    have hlen2 : (zs.take (k + 1)).length = k + 1 := by rw [List.length_take]; omega
    refine yield_law2 hr j5 rfl ?_
    gi_wp2
    intro rbk
    have hl1 : l + 1 < A.heap.size := (Array.getElem?_eq_some_iff.1 j5).1
    have hne : ∀ k, k ≠ l + 1 → (A.putObj (l + 1) (.loop rbk)).heap[k]? = A.heap[k]? := fun k hk => World.putObj_heap_other hk
    have k5 : (A.putObj (l + 1) (.loop rbk)).heap[l + 1]? = some (.loop rbk) := World.putObj_heap_same hl1
    have k6 := (hne l (by omega)).trans j6
    have ks := (hne (w.heap.size + 1) (by omega)).trans qs
    have kn := (hne (w.heap.size + 2) (by omega)).trans qn
    have kr := (hne b (by omega)).trans hrow
    have kP : (A.putObj (l + 1) (.loop rbk)).heap[w.heap.size]? = some (.cells #[v] 26 (0, 0)) := (hne w.heap.size (by omega)).trans bP
    have kO : OwnR (A.putObj (l + 1) (.loop rbk)) We.heap.size 40 v (zs.take k) := ownsRow_putObj rP _ j5 rfl
    have kB : Below w.heap.size w (A.putObj (l + 1) (.loop rbk)) := hB.trans (belowK_b (w := w) (Nat.le_refl _) _ (l + 1) _ _ (by omega) j5 rfl rfl)
    have kE : We.heap.size ≤ (A.putObj (l + 1) (.loop rbk)).heap.size := by simp; exact hle
    clear j5 j6 qs qn hrow bP rP hB hle hl1 hne
    generalize A.putObj (l + 1) (.loop rbk) = A1 at *
    have hblk := kO.block
    gi_wp2
    obtain ⟨v', w', hrun, ho', hch, _, g, cp, hv'⟩ := app_one (T := 26) (e := 40) (z0 := .int .i32 0) (z1 := .int .i32 0) (by_ := 8) (by kernel_rfl) (by kernel_rfl) (by kernel_rfl) (by decide) 26 (w := A1.drew) (c0 := .int .i32 x1) (c1 := .int .i32 x2) kO kE (by rw [hlen]; omega) rfl rfl
    obtain ⟨i0, hi, hz0, hz1, _⟩ := info_parts2 info34
    let T : World → Prop := fun w' => ∀ k, k < A1.heap.size → some k ≠ v.ownBlock → w'.heap[k]? = A1.heap[k]?
    have hlow : ∀ k, k < We.heap.size → some k ≠ v.ownBlock := fun k hk e => by have := hblk k e.symm; omega
    have tP : ∀ w', T w' → w'.heap[w.heap.size]? = some (.cells #[v] 26 (0, 0)) := fun w' hw => (hw _ (by omega) (hlow _ (by omega))).trans kP
    have tR : ∀ w', T w' → w'.heap[b]? = some (.cells (cR zs).toArray 21 (0, 0)) := fun w' hw => (hw _ (by omega) (hlow _ (by omega))).trans kr
    have hT0 : T A1.drew := fun _ _ _ => rfl
    refine Rst.startR 10 T (by kernel_rfl) (by kernel_rfl) (by rintro ⟨_, _, h⟩; exact h) ?_
    refine Rst.take (fun _ _ _ _ _ h => h) 0 _ 8 v rfl (by kernel_rfl) rfl (by kernel_rfl) rfl hT0 (fun w' hw => Reg.ld1 rfl rfl (cell_at (tP w' hw) rfl) (Try.isAgg26 _)) ?_
    refine Rst.take (fun _ _ _ _ _ h => h) 1 _ 9 (.slice (some ⟨b, k * 2, none⟩) 2 2) rfl (by kernel_rfl) rfl (by kernel_rfl) rfl hT0 (fun w' hw => Reg.mv rfl rfl) ?_
    refine Rst.take (fun _ _ _ _ _ h => h) 2 _ 10 (.pointer (some ⟨b, k * 2 + 0 * 1, none⟩)) rfl (by kernel_rfl) rfl (by kernel_rfl) rfl hT0 (fun w' hw => Reg.ix (k := 0) rfl rfl rfl (by decide) Try.underlying67 (elemSize67 w')) ?_
    refine Rst.take (fun _ _ _ _ _ h => h) 3 _ 11 (.int .i32 x1) rfl (by kernel_rfl) rfl (by kernel_rfl) rfl hT0 (fun w' hw => Reg.ld1 rfl rfl (cell_at (tR w' hw) hz.1) (Try.isAgg21 _)) ?_
    refine Rst.take (fun _ _ _ _ _ h => h) 4 _ 12 (.slice (some ⟨b, k * 2, none⟩) 2 2) rfl (by kernel_rfl) rfl (by kernel_rfl) rfl hT0 (fun w' hw => Reg.mv rfl rfl) ?_
    refine Rst.take (fun _ _ _ _ _ h => h) 5 _ 13 (.pointer (some ⟨b, k * 2 + 1 * 1, none⟩)) rfl (by kernel_rfl) rfl (by kernel_rfl) rfl hT0 (fun w' hw => Reg.ix (k := 1) rfl rfl rfl (by decide) Try.underlying67 (elemSize67 w')) ?_
    refine Rst.take (fun _ _ _ _ _ h => h) 6 _ 14 (.int .i32 x2) rfl (by kernel_rfl) rfl (by kernel_rfl) rfl hT0 (fun w' hw => Reg.ld1 rfl rfl (cell_at (tR w' hw) hz.2) (Try.isAgg21 _)) ?_
    refine Rst.take (fun _ _ _ _ _ h => h) 7 _ 15 (.agg #[.int .i32 x1, .int .i32 x2]) rfl (by kernel_rfl) rfl (by kernel_rfl) rfl hT0 (fun w' hw => Reg.bd rfl (vs := #[(0, .int .i32 x1), (1, .int .i32 x2)]) (by simp only [List.map_toArray, List.map_cons, List.map_nil]; rfl) (by kernel_rfl)) ?_
    refine Rst.only 8 _ 16 rfl (by kernel_rfl) rfl (by kernel_rfl) rfl ⟨_, _, Reg.bs (vs := #[(0, .agg #[.int .i32 x1, .int .i32 x2])]) (cs := #[.int .i32 x1, .int .i32 x2]) i0 _ rfl (by simp [Reg.ev, Reg.look]) (by kernel_rfl) hi hz0 (by rw [hz1]; decide) (by rw [hz1]; decide) (by rw [hz1]; kernel_rfl), fun k hk _ => Below.heap_alloc _ _ _ hk, ?_⟩
    refine Rst.only 9 _ 17 rfl (by kernel_rfl) rfl (by kernel_rfl) rfl ⟨v', w', Reg.app rfl rfl rfl hrun, fun k hk hn => hch.block k hk hn, ?_⟩
    have hT1 : T w' := fun k hk hn => hch.block k hk hn
    refine Rst.last _ rfl (by kernel_rfl) rfl (by kernel_rfl) rfl ⟨w'.setCell ⟨w.heap.size, 0, none⟩ v', Reg.st1 rfl rfl rfl (cell_at (tP w' hT1) rfl) (frozen_at (tP w' hT1)) (.inr ⟨_, _, _, hv'⟩) (Try.sizeOf26 _), ?_⟩
    refine Rst.done (by kernel_rfl) ?_
    have hc := chg_set w' w.heap.size 0 v'
    have hs1 : A1.heap.size ≤ w'.heap.size := hch.size
    have t9 : ∀ (i : Nat) (o : Obj), A1.heap[i]? = some o → i < We.heap.size → i ≠ w.heap.size → (w'.setCell ⟨w.heap.size, 0, none⟩ v').heap[i]? = some o := fun i o h1 h2 h3 => (hc.block i (by omega) h3).trans ((hT1 i (by omega) (hlow i h2)).trans h1)
    have o9 : OwnR (w'.setCell ⟨w.heap.size, 0, none⟩ v') We.heap.size 40 v' (zs.take (k + 1)) := by
      unfold OwnR
      rw [HT.out, hlen2]
      rw [hlen] at ho'
      refine World.ownsRow.kept ho' (w' := w'.setCell ⟨w.heap.size, 0, none⟩ v') (row := some w.heap.size) ⟨hc.os, hc.tape, hc.output, hc.size, fun k hk hn => hc.block k hk (fun e => hn (by rw [e]))⟩ (.inr fun e => ?_)
      rcases ho'.2 with ⟨h, _⟩ | ⟨g', cap', cur', h, hg', _⟩
      · rw [h] at e; cases e
      · rw [h] at e; simp [Value.ownBlock] at e; omega
    have b9 : Below w.heap.size w (w'.setCell ⟨w.heap.size, 0, none⟩ v') := ⟨(hc.os.trans hch.os).trans kB.os, (hc.tape.trans hch.tape).trans kB.tape, (hc.output.trans hch.output).trans kB.output, Nat.le_trans kB.size (Nat.le_trans hs1 hc.size), fun i hi => (hc.block i (by omega) (by omega)).trans ((hT1 i (by omega) (hlow i (by omega))).trans (kB.block i hi))⟩
    have l9 := t9 (l + 1) _ k5 (by omega) (by omega)
    have p9 : (w'.setCell ⟨w.heap.size, 0, none⟩ v').heap[w.heap.size]? = some (.cells #[v'] 26 (0, 0)) := (set_at v' (tP w' hT1)).trans rfl
    have s9 : (w'.setCell ⟨w.heap.size, 0, none⟩ v').heap[w.heap.size + 1]? = _ := t9 _ _ ks (by omega) (by omega)
    have n9 := t9 _ _ kn (by omega) (by omega)
    have d9 := t9 _ _ k6 (by omega) (by omega)
    have r9 := t9 _ _ kr (by omega) (by omega)
    have z9 : We.heap.size ≤ (w'.setCell ⟨w.heap.size, 0, none⟩ v').heap.size := Nat.le_trans kE (Nat.le_trans hs1 hc.size)
    generalize w'.setCell ⟨w.heap.size, 0, none⟩ v' = A9 at *
    have hne : ∀ k, k ≠ l + 1 → (A9.putObj (l + 1) (.loop r)).heap[k]? = A9.heap[k]? := fun k hk => World.putObj_heap_other hk
    refine ⟨l9, ⟨⟨v', (hne _ (by omega)).trans p9, ownsRow_putObj o9 _ l9 rfl⟩, World.putObj_heap_same (Array.getElem?_eq_some_iff.1 l9).1, (hne _ (by omega)).trans d9, (hne _ (by omega)).trans s9, (hne _ (by omega)).trans n9, (hne _ (by omega)).trans r9, b9.trans (belowK_b (w := w) (Nat.le_refl _) _ (l + 1) _ _ (by omega) l9 rfl rfl), by simp; exact z9⟩⟩
  rintro e W' ⟨hv, h⟩
  refine ⟨hv, h.rec_, fun r' => ?_⟩
  obtain ⟨⟨v, bP, rP⟩, j5, j6, _, _, _, hB, _⟩ := h
  rw [List.take_length] at rP
  have hl0 : w.heap.size + 3 ≤ w3.heap.size := by have := E3.out; omega
  have hE : w3.heap.size + 2 ≤ We.heap.size := by omega
  clear E3 hszE hrec hdef b0 b1 b2 a1 a2 a3 n1 n2 n3 z0 z1 z2 l1 hbE hr hv
  generalize w3.heap.size = l at *
  have hne : ∀ k, k ≠ l + 1 → (W'.putObj (l + 1) (.loop r')).heap[k]? = W'.heap[k]? := fun k hk => World.putObj_heap_other hk
  have kP : Boxed (W'.putObj (l + 1) (.loop r')) w.heap.size 26 v := (hne w.heap.size (by omega)).trans bP
  have k6 := (hne l (by omega)).trans j6
  have kO : OwnR (W'.putObj (l + 1) (.loop r')) We.heap.size 40 v zs := ownsRow_putObj rP _ j5 rfl
  have kB : Below w.heap.size w (W'.putObj (l + 1) (.loop r')) := hB.trans (belowK_b (w := w) (Nat.le_refl _) _ (l + 1) _ _ (by omega) j5 rfl rfl)
  clear bP rP j5 j6 hB hne
  generalize W'.putObj (l + 1) (.loop r') = W9 at *
  have c1 := kP.cell
  gi_wp2
  refine ⟨by simp, .inl ⟨_, _, rfl, run_takeDeferred k6, ?_⟩⟩
  exact ⟨_, results_tmp rfl _ _ _, v, rfl, (show OwnR _ We.heap.size 40 v zs from ownsRow_putObj kO _ k6 rfl).low (by omega), kB.trans (belowK_b (w := w) (Nat.le_refl _) _ l _ _ (by omega) k6 rfl rfl)⟩

theorem rangesOf_any (b N : Nat) (zs : List S.R) (hN : N = zs.length * 2) (hm : zs.length ≤ 1000) (w : World) (hrow : w.heap[b]? = some (.cells (cR zs).toArray 21 (0, 0))) :
    Calls Try.prog 34 #[.slice (some ⟨b, 0, none⟩) N N] w fun e W' => ∃ u, e = .returned u ∧ OwnR W' w.heap.size 40 u zs ∧ Below w.heap.size w W' :=
  callsIn_wide.1 (rangesOf_in b N zs (hide hN) hm w hrow)
end Go.Proofs.Ytfbojpodaddaeaa
