/- Rows of texts in memory: appended to, shifted, cut, one of them stored. -/
import Derived.Test.YtbeihgjonhgfmaaGreatDoorCrq
namespace Go.Proofs.YtbeihgjonhgfmaaGreatDoor
open Go.RowKit Go.Shelf Go.Maps
namespace C
structure Chg (p : Nat → Prop) (A B : World) : Prop where
  os : B.os = A.os
  tape : B.tape = A.tape
  output : B.output = A.output
  size : A.heap.size ≤ B.heap.size
  block : ∀ k, k < A.heap.size → ¬ p k → B.heap[k]? = A.heap[k]?
theorem Chg.refl (p : Nat → Prop) (w : World) : Chg p w w := ⟨rfl, rfl, rfl, Nat.le_refl _, fun _ _ _ => rfl⟩
theorem Chg.trans {p : Nat → Prop} {A B C : World} (h : Chg p A B) (k : Chg p B C) : Chg p A C :=
  ⟨k.os.trans h.os, k.tape.trans h.tape, k.output.trans h.output, Nat.le_trans h.size k.size, fun i hi hp => (k.block i (Nat.lt_of_lt_of_le hi h.size) hp).trans (h.block i hi hp)⟩
/-- What the second changes is old only where the first may change it. -/
theorem Chg.then {p q : Nat → Prop} {A B C : World} (h : Chg p A B) (k : Chg q B C) (hq : ∀ i, i < A.heap.size → q i → p i) : Chg p A C :=
  ⟨k.os.trans h.os, k.tape.trans h.tape, k.output.trans h.output, Nat.le_trans h.size k.size, fun i hi hp => (k.block i (Nat.lt_of_lt_of_le hi h.size) (fun x => hp (hq i hi x))).trans (h.block i hi hp)⟩
theorem Chg.below {p : Nat → Prop} {A B : World} {n : Nat} (h : Chg p A B) (hn : n ≤ A.heap.size) (hp : ∀ k, p k → n ≤ k) : Below n A B :=
  ⟨h.os, h.tape, h.output, h.size, fun k hk => h.block k (by omega) (fun x => by have := hp k x; omega)⟩
theorem Chg.of {p : Nat → Prop} {A B : World} (b : Below A.heap.size A B) : Chg p A B := ⟨b.os, b.tape, b.output, b.size, fun k hk _ => b.block k hk⟩
theorem cell_at {w : World} {b j : Nat} {cs : Array Value} {t : TypeId} {fz : Nat × Nat} {v : Value} (h : w.heap[b]? = some (.cells cs t fz)) (hj : cs[j]? = some v) : w.cell? ⟨b, j, none⟩ = some v := by simp [World.cell?, h, hj]
theorem frozen_at {w : World} {b j : Nat} {cs : Array Value} {t : TypeId} (h : w.heap[b]? = some (.cells cs t (0, 0))) : w.frozen? ⟨b, j, none⟩ = false := by simp [World.frozen?, h]
theorem set_at {w : World} {b j : Nat} {cs : Array Value} {t : TypeId} {fz : Nat × Nat} (v : Value) (h : w.heap[b]? = some (.cells cs t fz)) : (w.setCell ⟨b, j, none⟩ v).heap[b]? = some (.cells (cs.setIfInBounds j v) t fz) := by
  rw [Sort.setCell_eq]
  unfold Sort.mapBlock
  rw [Array.getElem?_modify, if_pos rfl, h]
  rfl
theorem chg_set (w : World) (b j : Nat) (v : Value) : Chg (fun k => k = b) w (w.setCell ⟨b, j, none⟩ v) := by
  rw [Sort.setCell_eq]
  unfold Sort.mapBlock
  refine ⟨rfl, rfl, rfl, by simp, fun k _ hk => ?_⟩
  show (w.heap.modify b _)[k]? = _
  rw [Array.getElem?_modify, if_neg (fun e => hk e.symm)]
theorem own_ty {W : World} {B : Nat} {v : Value} {ss : List Tx} (h : OwnN W B v ss) {k : Nat} (hk : v.ownBlock = some k) : B ≤ k ∧ k < W.heap.size ∧ ∃ cur, W.heap[k]? = some (.cells cur 9 (0, 0)) := by
  obtain ⟨_, ⟨rfl, _⟩ | ⟨g, cap, cur, rfl, h3, h4, _⟩⟩ := h
  · simp [Value.ownBlock] at hk
  · have e : g = k := by simpa [Value.ownBlock] using hk
    subst e
    exact ⟨h3, (Array.getElem?_eq_some_iff.1 h4).1, cur, h4⟩
theorem own_keep {W W' : World} {B : Nat} {v : Value} {ss : List Tx} (h : OwnN W B v ss) (hs : ∀ k, v.ownBlock = some k → W'.heap[k]? = W.heap[k]?) : OwnN W' B v ss := by
  obtain ⟨h1, h2 | ⟨g, cap, cur, rfl, h3, h4, h5⟩⟩ := h
  · exact ⟨h1, .inl h2⟩
  · exact ⟨h1, .inr ⟨g, cap, cur, rfl, h3, (hs g (by simp [Value.ownBlock])).trans h4, h5⟩⟩
theorem appR {W : World} {n0 : Nat} {v : Value} {A : List Tx} (ty : TypeId) (hO : OwnN W n0 v A) (hn0 : n0 ≤ W.heap.size) {ad : Addr} (c : Nat) {xs : List Tx} (hx : ∀ j (h : j < xs.length), W.cell? (ad.add j) = some (tx xs[j])) (hl : A.length + xs.length ≤ 100000) :
    ∃ v' W', (Builtin.append_ #[30, 30] ty #[v, .slice (some ad) xs.length c]).run Tryz.prog W = .ok v' W' ∧ OwnN W' n0 v' (A ++ xs) ∧ Chg (fun k => v.ownBlock = some k) W W' ∧ (v'.ownBlock = v.ownBlock ∨ v'.ownBlock = some W.heap.size) := by
  obtain ⟨i0, hi0, hz0, hz1, hz2⟩ := info_parts9 info9N
  obtain ⟨v', W', hrun, hown, hg, _, hat⟩ := run_append_own_at (P := Tryz.prog) W n0 30 ty 9 i0 (.string ByteArray.empty) 1 16 Tryz.underlying30 hi0 hz0 hz1 hz2 rfl (by decide) v A.length (A.map tx) hO ad xs.length c (xs.map tx) (by simp)
    (fun j u hu => by
      obtain ⟨h1, h2⟩ := List.getElem?_eq_some_iff.1 hu
      rw [List.length_map] at h1
      rw [hx j h1, ← h2, List.getElem_map])
    (fun u hu => by obtain ⟨y, _, rfl⟩ := List.mem_map.1 hu; rfl) (by unfold maxLen; omega) (by omega) hn0
  refine ⟨v', W', hrun, ?_, ⟨hg.os, hg.tape, hg.output, hg.size, fun k hk hne => hg.block k hk (fun e => hne e.symm)⟩, hat⟩
  unfold OwnN
  rw [List.map_append, List.length_append]
  exact hown
/-- Two rows, on the way. -/
structure Mid (W0 W : World) (n0 : Nat) (vT0 vN0 vT vN : Value) (A N : List Tx) : Prop where
  t : OwnN W n0 vT A
  n : OwnN W n0 vN N
  apart : ∀ k, vT.ownBlock = some k → vN.ownBlock ≠ some k
  chg : Chg (fun k => vT0.ownBlock = some k ∨ vN0.ownBlock = some k) W0 W
  oldT : ∀ k, k < W0.heap.size → vT.ownBlock = some k → vT0.ownBlock = some k
  oldN : ∀ k, k < W0.heap.size → vN.ownBlock = some k → vN0.ownBlock = some k
theorem Mid.symm {W0 W : World} {n0 : Nat} {vT0 vN0 vT vN : Value} {A N : List Tx} (h : Mid W0 W n0 vT0 vN0 vT vN A N) : Mid W0 W n0 vN0 vT0 vN vT N A :=
  ⟨h.n, h.t, fun k h1 h2 => h.apart k h2 h1, ⟨h.chg.os, h.chg.tape, h.chg.output, h.chg.size, fun k hk hp => h.chg.block k hk (fun x => hp x.symm)⟩, h.oldN, h.oldT⟩
theorem Mid.later {W0 W W' : World} {n0 : Nat} {vT0 vN0 vT vN : Value} {A N : List Tx} (h : Mid W0 W n0 vT0 vN0 vT vN A N) (b : Below W.heap.size W W') : Mid W0 W' n0 vT0 vN0 vT vN A N :=
  ⟨h.t.later b, h.n.later b, h.apart, h.chg.trans (Chg.of b), h.oldT, h.oldN⟩
set_option maxRecDepth 100000 in
theorem Mid.appT {W0 W : World} {n0 : Nat} {vT0 vN0 vT vN : Value} {A N : List Tx} (ty : TypeId) (h : Mid W0 W n0 vT0 vN0 vT vN A N) (hn0 : n0 ≤ W.heap.size) {tb : Nat} {x : Tx} (hc : W.cell? ⟨tb, 0, none⟩ = some (tx x)) (hl : A.length ≤ 1000) :
    ∃ v' W', (Builtin.append_ #[30, 30] ty #[vT, .slice (some ⟨tb, 0, none⟩) 1 1]).run Tryz.prog W = .ok v' W' ∧ Mid W0 W' n0 vT0 vN0 v' vN (A ++ [x]) N ∧ Chg (fun k => vT.ownBlock = some k) W W' := by
  obtain ⟨v', W', hrun, hO, hch, hat⟩ := appR ty h.t hn0 (ad := ⟨tb, 0, none⟩) 1 (xs := [x]) (fun j hj => by
    obtain rfl : j = 0 := by simp at hj; omega
    rw [Addr.add_mid]; exact hc) (by simp; omega)
  refine ⟨v', W', hrun, ⟨hO, own_keep h.n fun k hk => hch.block k (own_ty h.n hk).2.1 (fun e => h.apart k e hk), fun k h1 h2 => ?_, h.chg.then hch (fun i hi hq => .inl (h.oldT i hi hq)), fun k hk hq => ?_, h.oldN⟩, hch⟩
  · rcases hat with e | e
    · exact h.apart k (e ▸ h1) h2
    · have := (own_ty h.n h2).2.1
      rw [e] at h1
      injection h1 with h1
      omega
  · rcases hat with e | e
    · exact h.oldT k hk (e ▸ hq)
    · rw [e] at hq
      injection hq with hq
      have := h.chg.size
      omega
/-- l[k:]. -/
def cutP (g cap k : Nat) : Option Addr := if cap = k then some ⟨g, 0, none⟩ else some ⟨g, k, none⟩
set_option maxRecDepth 100000 in
theorem cut_from (g n cap k : Nat) (hk : k ≤ n) (wx : World) : (Instr.sliceAt 30 (.slice (some ⟨g, 0, none⟩) n cap) (some (.int .i64 (k : Int))) none none).run Tryz.prog wx = .ok (.slice (cutP g cap k) (n - k) (cap - k)) wx := by
  rw [run_sliceAt_slice (P := Tryz.prog) wx 30 _ _ _ _ Tryz.underlying30, run_slice_l (P := Tryz.prog) (w := wx) 30 (some ⟨g, 0, none⟩) n cap Tryz.underlying30 .i64 (k : Int) (by omega) (by omega), elemSize30]
  simp only [Result.andThen, sliced, Int.toNat_natCast, cutP, Option.map_some, Addr.add_mid, Nat.mul_one, Nat.zero_add]
theorem own_parts {W : World} {n0 g n cap : Nat} {ss : List Tx} (h : OwnN W n0 (.slice (some ⟨g, 0, none⟩) n cap) ss) : n = ss.length ∧ n0 ≤ g ∧ ∃ cur, W.heap[g]? = some (.cells cur 9 (0, 0)) ∧ ss.length ≤ cap ∧ cap ≤ maxLen ∧ cur.size = cap ∧ cur.toList.take ss.length = ss.map tx := by
  obtain ⟨_, ⟨e, _⟩ | ⟨g', cap', cur, e, h3, h4, h5, h6, h7, h8⟩⟩ := h
  · cases e
  · cases e
    refine ⟨rfl, h3, cur, h4, h5, h6, by simpa using h7, by simpa using h8⟩
theorem own_make {W : World} {n0 g cap : Nat} {ss : List Tx} {cur : Array Value} (h1 : n0 ≤ g) (h2 : W.heap[g]? = some (.cells cur 9 (0, 0))) (h3 : ss.length ≤ cap) (h4 : cap ≤ maxLen) (h5 : cur.size = cap) (h6 : cur.toList.take ss.length = ss.map tx) : OwnN W n0 (.slice (some ⟨g, 0, none⟩) ss.length cap) ss :=
  ⟨by simp, .inr ⟨g, cap, cur, rfl, h1, h2, h3, h4, by simpa using h5, by simpa using h6⟩⟩
theorem shift (ty : TypeId) {W : World} {n0 g cap i : Nat} {A : List Tx} {z : Tx} (h : OwnN W n0 (.slice (some ⟨g, 0, none⟩) (A.length + 1) cap) (A ++ [z])) (hi : i ≤ A.length) :
    ∃ v W' z', (Builtin.copy_ #[30, 30] ty #[.slice (cutP g cap (i + 1)) (A.length + 1 - (i + 1)) (cap - (i + 1)), .slice (cutP g cap i) (A.length + 1 - i) (cap - i)]).run Tryz.prog W = .ok v W' ∧ OwnN W' n0 (.slice (some ⟨g, 0, none⟩) (A.length + 1) cap) (A.take i ++ z' :: A.drop i) ∧ Chg (fun k => k = g) W W' := by
  obtain ⟨_, hg0, cur, hg, hle, hmx, hsz, htk⟩ := own_parts h
  have hlen : (A ++ [z]).length = A.length + 1 := by simp
  rw [hlen] at hle htk
  by_cases hin : i = A.length
  · subst hin
    refine ⟨_, W, z, run_copy_none W 30 30 ty 9 _ _ _ _ _ _ Tryz.underlying30 (by kernel_rfl) (by simp), ?_, Chg.refl _ _⟩
    rw [List.take_length, List.drop_length]
    exact h
  · have hlt : i < A.length := by omega
    have e1 : cutP g cap (i + 1) = some ⟨g, i + 1, none⟩ := by unfold cutP; rw [if_neg (by omega)]
    have e2 : cutP g cap i = some ⟨g, i, none⟩ := by unfold cutP; rw [if_neg (by omega)]
    have hcs : ((A.drop i).map tx).length = A.length - i := by simp
    have hcur : ∀ j (hj : j < A.length), cur[j]? = some (tx A[j]) := fun j hj => by
      have h1 : (cur.toList.take (A.length + 1))[j]? = ((A ++ [z]).map tx)[j]? := by rw [htk]
      rw [List.getElem?_take, if_pos (by omega), List.map_append, List.getElem?_append_left (by simpa using hj)] at h1
      simpa [hj] using h1
    have hrun := run_copy_row (P := Tryz.prog) W 30 30 ty 9 g (i + 1) (A.length + 1 - (i + 1)) (cap - (i + 1)) ⟨g, i, none⟩ (A.length + 1 - i) (cap - i) cur 9 ((A.drop i).map tx) Tryz.underlying30 (by kernel_rfl) hg
      (by rw [hcs]; show _ = min _ _; omega)
      (fun j v hv => by
        have hj : j < A.length - i := by
          have := (List.getElem?_eq_some_iff.1 hv).1
          rw [hcs] at this
          exact this
        rw [Addr.add_mid]
        refine cell_at hg ?_
        rw [hcur (i + j) (by omega), ← hv]
        simp [List.getElem?_drop, List.getElem?_eq_getElem (show i + j < A.length by omega)])
      (by rw [hcs]; omega) (fun v hv => by obtain ⟨x, _, rfl⟩ := List.mem_map.1 hv; rfl)
    rw [e1, e2]
    have hl2 : (A.take i ++ A[i] :: A.drop i).length = A.length + 1 := by simp; omega
    refine ⟨_, _, A[i], hrun, ?_, ⟨rfl, rfl, rfl, by simp [World.setRow], fun k hk hne => setRow_other W g k _ hne⟩⟩
    rw [← hl2]
    refine own_make hg0 (setRow_heap W g cur _ 9 _ hg) (by omega) hmx ?_ ?_
    · simp
      omega
    · rw [hl2]
      have e3 : cur.toList.take (i + 1) = (A.take i).map tx ++ [tx A[i]] := by
        have : cur.toList.take (i + 1) = (cur.toList.take (A.length + 1)).take (i + 1) := by rw [List.take_take, Nat.min_eq_left (by omega)]
        rw [this, htk, List.map_append, List.take_append_of_le_length (by rw [List.length_map]; omega), List.take_succ_eq_append_getElem (by rw [List.length_map]; exact hlt), List.getElem_map, List.map_take]
      simp only [List.append_assoc]
      rw [← List.append_assoc, List.take_append_of_le_length (by rw [List.length_append, hcs, List.length_take]; simp; omega), List.take_of_length_le (by rw [List.length_append, hcs, List.length_take]; simp; omega), e3]
      simp
theorem put1 {W : World} {n0 g n cap i : Nat} {ss : List Tx} (h : OwnN W n0 (.slice (some ⟨g, 0, none⟩) n cap) ss) (hi : i < ss.length) (r : Tx) :
    W.cell? ⟨g, i, none⟩ = some (tx ss[i]) ∧ W.frozen? ⟨g, i, none⟩ = false ∧ OwnN (W.setCell ⟨g, i, none⟩ (tx r)) n0 (.slice (some ⟨g, 0, none⟩) n cap) (ss.set i r) ∧ Chg (fun k => k = g) W (W.setCell ⟨g, i, none⟩ (tx r)) := by
  obtain ⟨rfl, hg0, cur, hg, hle, hmx, hsz, htk⟩ := own_parts h
  refine ⟨cell_at hg ?_, frozen_at hg, ?_, chg_set W g i _⟩
  · have h1 : (cur.toList.take ss.length)[i]? = (ss.map tx)[i]? := by rw [htk]
    rw [List.getElem?_take, if_pos hi] at h1
    simpa [hi] using h1
  · have hl : (ss.set i r).length = ss.length := List.length_set
    rw [← hl]
    refine own_make hg0 (set_at _ hg) (by rw [hl]; exact hle) hmx (by simpa using hsz) ?_
    rw [hl, Array.toList_setIfInBounds, List.take_set, htk, List.map_set]
end C
end Go.Proofs.YtbeihgjonhgfmaaGreatDoor
