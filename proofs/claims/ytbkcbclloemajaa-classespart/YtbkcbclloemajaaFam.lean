/- Sets that don't meet: how ClassesFew lays them, and what their classes are. -/
import Derived.Test.YtbkcbclloemajaaUnite
namespace Go.Proofs.Ytbkcbclloemajaa
open Go.RowKit Go.Shelf

theorem wpl_appS {w : World} {ops : Array Oper} {rest : List Oper} {o : Oper} {a : Act} {Q : Exit → Act → World → Prop} (hgd : o.guard = none) (s x : Operand)
    (hop : o.op = .call { callee := .builtin .append, args := #[s, x], argTypes := #[22, 22] }) (B : Nat) (v : Value) (n : Nat) (xs : List Value) (ad : Nat) (u : Value) (hs : a.eval s = v) (hx : a.eval x = .slice (some ⟨ad, 0, none⟩) 1 1)
    (hc : w.cell? ⟨ad, 0, none⟩ = some u) (hu : u.oneCell' = true) (ho : w.ownsRow B 35 1 v n xs) (hB : B ≤ w.heap.size) (hn : n ≤ 1000000)
    (h : ∀ v' w', w'.ownsRow B 35 1 v' (n + 1) (xs ++ [u]) → Chg (fun k => some k = v.ownBlock) w w' → wpList Try.prog ops Q rest (a.put o.dst v') w') : wpList Try.prog ops Q (o :: rest) a w := by
  obtain ⟨i0, hi, hz0, hz1, hz2⟩ := info_parts2 (P := Try.prog) (e := 35) (z := .slice none 0 0) (s := 1) (b := 24) (by kernel_rfl)
  refine wpList_plain hgd fun K hK => ?_
  obtain ⟨v', w', hr, h2, h3, h4, h5⟩ := run_append_own_at (P := Try.prog) w B 22 o.type 35 i0 _ 1 24 Try.underlying22 hi hz0 hz1 hz2 rfl (by decide) v n xs ho ⟨ad, 0, none⟩ 1 1 [u] rfl
    (fun j u' hu' => by
      match j, hu' with
      | 0, hu' => simp at hu'; subst hu'; exact hc
      | j + 1, hu' => simp at hu') (by simp [hu]) (by unfold maxLen; omega) (by omega) hB
  unfold Oper.wp
  simp [execOp, hop, resolve, invoke, builtin, hs, hx, hr, Result.andThen]
  exact hK _ _ (h v' w' h2 ⟨h3.os, h3.tape, h3.output, h3.size, fun k hk hp => h3.block k hk hp⟩)

/-- The set of number i. -/
def fset (i : Nat) : List S.R := [(10 * (i : Int), 10 * (i : Int) + 4), (10 * (i : Int) + 6, 10 * (i : Int) + 7)]
def fcell (i : Nat) : Array Value := #[.int .i32 (10 * (i : Int)), .int .i32 (10 * (i : Int) + 4), .int .i32 (10 * (i : Int) + 6), .int .i32 (10 * (i : Int) + 7)]
/-- A list as it lies: set i. -/
def FS (w : World) (i : Nat) (p : L3) : Prop := ∃ b, p = (some ⟨b, 0, none⟩, 2, fset i) ∧ w.heap[b]? = some (.cells (fcell i) 48 (0, 0))
theorem FS.rd {w : World} {i : Nat} {p : L3} (h : FS w i p) : RdR w p.1 p.2.2 := by
  obtain ⟨b, rfl, hb⟩ := h
  intro j hj
  match j, hj with
  | 0, _ => exact ⟨b, 0, rfl, cell_at hb rfl, cell_at hb rfl⟩
  | 1, _ => exact ⟨b, 0, rfl, cell_at hb rfl, cell_at hb rfl⟩
  | j + 2, hj => exact absurd (show j + 2 < 2 from hj) (by omega)
def encL (p : L3) : Value := .slice p.1 p.2.2.length p.2.1
/-- A row of such lists of the call's own. -/
structure Fm (w : World) (B : Nat) (v : Value) (is : List Nat) (ls : List L3) : Prop where
  len : ls.length = is.length
  row : w.ownsRow B 35 1 v ls.length (ls.map encL)
  each : ∀ j (h : j < ls.length) (h2 : j < is.length), FS w is[j] ls[j]
  le : B ≤ w.heap.size
theorem FS.chg {w w' : World} {p : Nat → Prop} {i : Nat} {q : L3} (h : FS w i q) (hc : Chg p w w') (hp : ∀ k, p k → ∀ cs, w.heap[k]? ≠ some (.cells cs 48 (0, 0))) : FS w' i q := by
  obtain ⟨b, rfl, hb⟩ := h
  exact ⟨b, rfl, chg_same hc hb (fun e => hp b e _ hb)⟩
theorem FS.later {w w' : World} {i : Nat} {q : L3} (h : FS w i q) (hb : Below w.heap.size w w') : FS w' i q := by
  obtain ⟨b, rfl, h1⟩ := h
  exact ⟨b, rfl, (hb.block b (Array.getElem?_eq_some_iff.1 h1).1).trans h1⟩
theorem Fm.later {w w' : World} {B : Nat} {v : Value} {is : List Nat} {ls : List L3} (h : Fm w B v is ls) (hb : Below w.heap.size w w') : Fm w' B v is ls :=
  ⟨h.len, own_same h.row (fun g hg => hb.block g (h.row.lt g hg).2), fun j h1 h2 => (h.each j h1 h2).later hb, Nat.le_trans h.le hb.size⟩
theorem Fm.snoc {w w' : World} {B : Nat} {v v' : Value} {is : List Nat} {ls : List L3} {i : Nat} {p : L3} (h : Fm w B v is ls) (hp : FS w i p) (ho : w'.ownsRow B 35 1 v' (ls.length + 1) (ls.map encL ++ [encL p])) (hc : Chg (fun k => some k = v.ownBlock) w w') : Fm w' B v' (is ++ [i]) (ls ++ [p]) := by
  have htag : ∀ k, some k = v.ownBlock → ∀ cs, w.heap[k]? ≠ some (.cells cs 48 (0, 0)) := fun k hk cs e => by
    obtain ⟨cur, h2⟩ := own_tag h.row hk.symm
    rw [h2] at e
    cases e
  refine ⟨by simp [h.len], by rw [List.length_append, List.map_append]; exact ho, fun j h1 h2 => ?_, Nat.le_trans h.le hc.size⟩
  by_cases hj : j < ls.length
  · have hj2 : j < is.length := by rw [← h.len]; exact hj
    rw [List.getElem_append_left hj, List.getElem_append_left hj2]
    exact (h.each j hj hj2).chg hc htag
  · obtain rfl : j = ls.length := by simp at h1; omega
    rw [List.getElem_append_right (Nat.le_refl _)]
    have : (is ++ [i])[ls.length] = i := by simp [h.len]
    rw [this]
    simp only [Nat.sub_self, List.getElem_singleton]
    exact hp.chg hc htag
theorem Fm.rds {w : World} {B : Nat} {v : Value} {is : List Nat} {ls : List L3} (h : Fm w B v is ls) : ∃ sao cap, v = .slice sao ls.length cap ∧ ls.length ≤ cap ∧ RdS w sao ls := by
  have hc := own_slice h.row
  obtain ⟨ao, c, rfl, h0, hn, h1⟩ := hc
  refine ⟨ao, c, rfl, ?_, fun j hj => ?_⟩
  · obtain ⟨_, ⟨h2, h3⟩ | ⟨g, cap, cur, h2, _, _, h3, _⟩⟩ := h.row
    · rw [h3]; exact Nat.zero_le _
    · cases h2; exact h3
  · obtain ⟨g, rfl, h2⟩ := h1 j (encL ls[j]) (by simp [hj])
    exact ⟨g, 0, rfl, by rw [Nat.zero_add]; exact h2, (h.each j hj (by rw [← h.len]; exact hj)).rd⟩
theorem Fm.tof {w : World} {B : Nat} {v : Value} {is : List Nat} {ls : List L3} (h : Fm w B v is ls) : TOf ls = is.map fset := by
  refine List.ext_getElem (by simp [TOf, h.len]) fun j h1 h2 => ?_
  have hj : j < ls.length := by simpa [TOf] using h1
  obtain ⟨b, e, _⟩ := h.each j hj (by rw [← h.len]; exact hj)
  simp [TOf, e]

/- What their classes are. -/
theorem fset_hB (i : Nat) (hi : i < 60) (p : Int) : S.hB (fset i) p = decide ((10 * (i : Int) ≤ p ∧ p ≤ 10 * (i : Int) + 4) ∨ (10 * (i : Int) + 6 ≤ p ∧ p ≤ 10 * (i : Int) + 7)) := by
  have hg : S.goods (fset i) = fset i := List.filter_eq_self.2 fun r hr => by
    simp only [fset, List.mem_cons, List.mem_nil_iff, or_false] at hr
    rcases hr with rfl | rfl
    · exact (S.good_iff _).2 ⟨by simp only; omega, by simp only; omega, by simp only; omega⟩
    · exact (S.good_iff _).2 ⟨by simp only; omega, by simp only; omega, by simp only; omega⟩
  unfold S.hB
  rw [hg]
  simp [S.hasB, fset]
theorem mkL_eq {L : List L3} {is : List Nat} (hT : TOf L = is.map fset) (hl : L.length = is.length) (_hs : ∀ i ∈ is, i < 60) {p q : Int} (h : ∀ i ∈ is, S.hB (fset i) p = S.hB (fset i) q) : mkL L p = mkL L q := by
  refine Nat.eq_of_testBit_eq fun j => ?_
  unfold mkL
  rw [mk_bit, mk_bit, hT]
  by_cases hj : j < L.length
  · have hj2 : j < is.length := by omega
    have e : (is.map fset).getD j [] = fset is[j] := by simp [List.getD_eq_getElem?_getD, hj2]
    rw [e, h _ (List.getElem_mem hj2)]
  · simp [hj]
theorem mkL_ne {L : List L3} {is : List Nat} (hT : TOf L = is.map fset) (hl : L.length = is.length) {p q : Int} {j : Nat} (hj : j < is.length) (h : S.hB (fset is[j]) p ≠ S.hB (fset is[j]) q) : mkL L p ≠ mkL L q := by
  intro e
  have h1 : (mkL L p).testBit j = (mkL L q).testBit j := by rw [e]
  unfold mkL at h1
  have hj2 : j < L.length := by omega
  have e2 : (is.map fset).getD j [] = fset is[j] := by simp [List.getD_eq_getElem?_getD, hj]
  rw [mk_bit, mk_bit, hT, e2] at h1
  simp [hj2] at h1
  exact h h1
/-- The numbers 0 to k - 1, and perhaps 0 once more. -/
def Nums (k : Nat) (is : List Nat) : Prop := (∀ i ∈ is, i < k) ∧ ∀ i, i < k → i ∈ is
theorem few_same {L : List L3} {is : List Nat} {k : Nat} (hk : k ≤ 60) (hT : TOf L = is.map fset) (hl : L.length = is.length) (hN : Nums k is) {i : Nat} (_hi : i < k) : mkL L (10 * (i : Int)) = mkL L (10 * (i : Int) + 7) :=
  mkL_eq hT hl (fun j hj => by have := hN.1 j hj; omega) fun j hj => by
    have := hN.1 j hj
    rw [fset_hB j (by omega), fset_hB j (by omega), decide_eq_decide]
    omega
theorem few_other {L : List L3} {is : List Nat} {k : Nat} (hk : k ≤ 60) (hT : TOf L = is.map fset) (hl : L.length = is.length) (hN : Nums k is) {i : Nat} (hi : i < k) {q : Int} (hq : ¬ ((10 * (i : Int) ≤ q ∧ q ≤ 10 * (i : Int) + 4) ∨ (10 * (i : Int) + 6 ≤ q ∧ q ≤ 10 * (i : Int) + 7))) : mkL L (10 * (i : Int)) ≠ mkL L q := by
  obtain ⟨j, hj, e⟩ := List.getElem_of_mem (hN.2 i hi)
  refine mkL_ne hT hl hj ?_
  rw [e, fset_hB i (by omega), fset_hB i (by omega), decide_eq_true (by omega), decide_eq_false hq]
  simp
theorem few_len {L : List L3} {is : List Nat} {k : Nat} (hk : k ≤ 60) (h64 : L.length ≤ 64) (hT : TOf L = is.map fset) (hl : L.length = is.length) (hN : Nums k is) : (msL L).length = k + 1 := by
  have hp : (msL L).Perm (mkL L 5 :: (List.range k).map fun i : Nat => mkL L (10 * (i : Int))) := by
    refine (List.perm_ext_iff_of_nodup (msL_nodup L) ?_).2 fun m => ?_
    · refine List.nodup_cons.2 ⟨fun hm => ?_, ?_⟩
      · obtain ⟨i, hi, e⟩ := List.mem_map.1 hm
        have hi' := List.mem_range.1 hi
        exact few_other hk hT hl hN hi' (by omega) e
      · refine List.pairwise_map.2 (List.Pairwise.imp_of_mem ?_ List.nodup_range)
        intro a b ha hb hab e
        exact few_other hk hT hl hN (List.mem_range.1 ha) (by omega) e
    · rw [msL_mem h64]
      constructor
      · rintro ⟨p, h0, h1, rfl⟩
        by_cases hin : ∃ i, i < k ∧ ((10 * (i : Int) ≤ p ∧ p ≤ 10 * (i : Int) + 4) ∨ (10 * (i : Int) + 6 ≤ p ∧ p ≤ 10 * (i : Int) + 7))
        · obtain ⟨i, hi, h2⟩ := hin
          refine List.mem_cons.2 (.inr (List.mem_map.2 ⟨i, List.mem_range.2 hi, ?_⟩))
          refine mkL_eq hT hl (fun j hj => by have := hN.1 j hj; omega) fun j hj => ?_
          have := hN.1 j hj
          rw [fset_hB j (by omega), fset_hB j (by omega), decide_eq_decide]
          omega
        · refine List.mem_cons.2 (.inl ?_)
          refine mkL_eq hT hl (fun j hj => by have := hN.1 j hj; omega) fun j hj => ?_
          have hj' := hN.1 j hj
          rw [fset_hB j (by omega), fset_hB j (by omega), decide_eq_decide]
          constructor
          · exact fun h => (hin ⟨j, hj', h⟩).elim
          · intro h; omega
      · intro hm
        rcases List.mem_cons.1 hm with rfl | hm
        · exact ⟨5, by omega, by omega, rfl⟩
        · obtain ⟨i, hi, rfl⟩ := List.mem_map.1 hm
          have := List.mem_range.1 hi
          exact ⟨10 * (i : Int), by omega, by omega, rfl⟩
  have := hp.length_eq
  rw [this]
  simp
/-- Two code points are of one class just if they are of one membership. -/
theorem of_eq {L : List L3} (h64 : L.length ≤ 64) {p q : Int} (hp : 0 ≤ p ∧ p ≤ 1114111) (hq : 0 ≤ q ∧ q ≤ 1114111) : ofL L p = ofL L q ↔ mkL L p = mkL L q := by
  unfold ofL
  rw [if_pos hp, if_pos hq]
  have h1 : mkL L p ∈ msL L := (msL_mem h64 _).2 ⟨p, hp.1, hp.2, rfl⟩
  have h2 : mkL L q ∈ msL L := (msL_mem h64 _).2 ⟨q, hq.1, hq.2, rfl⟩
  constructor
  · intro h
    have h3 : (msL L).idxOf (mkL L p) = (msL L).idxOf (mkL L q) := by omega
    have e1 := List.getElem_idxOf (List.idxOf_lt_length_of_mem h1)
    have e2 := List.getElem_idxOf (List.idxOf_lt_length_of_mem h2)
    rw [← e1, ← e2]
    simp only [h3]
  · intro h; rw [h]
end Go.Proofs.Ytbkcbclloemajaa
