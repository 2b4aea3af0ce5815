/- The classes come in the order of their least code points; one list more; the classes cut by themselves. -/
import Derived.Test.YtbkcbclloemajaaTel
namespace Go.Proofs.Ytbkcbclloemajaa

theorem ms_split (P : List (S.R × Nat)) {i j : Nat} (hij : i < j) (hj : j < (msOf P).length) : ∃ P1 y P2, P = P1 ++ y :: P2 ∧ y.2 = (msOf P)[i] ∧ ∀ z ∈ P1 ++ [y], z.2 ≠ (msOf P)[j] := by
  rcases List.eq_nil_or_concat P with rfl | ⟨P', x, rfl⟩
  · simp [msOf] at hj
  · simp only [List.concat_eq_append] at hj ⊢
    by_cases hx : x.2 ∈ msOf P'
    · have e : msOf (P' ++ [x]) = msOf P' := by rw [msOf_snoc, if_pos hx]
      simp only [e] at hj ⊢
      obtain ⟨P1, y, P2, h1, h2, h3⟩ := ms_split P' hij hj
      exact ⟨P1, y, P2 ++ [x], by rw [h1]; simp, h2, h3⟩
    · have e : msOf (P' ++ [x]) = msOf P' ++ [x.2] := by rw [msOf_snoc, if_neg hx]
      simp only [e] at hj ⊢
      by_cases hj2 : j < (msOf P').length
      · obtain ⟨P1, y, P2, h1, h2, h3⟩ := ms_split P' hij hj2
        refine ⟨P1, y, P2 ++ [x], by rw [h1]; simp, ?_, ?_⟩
        · rw [List.getElem_append_left (by omega)]; exact h2
        · rw [List.getElem_append_left hj2]; exact h3
      · have hje : j = (msOf P').length := by simp at hj; omega
        have hi2 : i < (msOf P').length := by omega
        obtain ⟨y, hy, hy2⟩ := (msOf_mem P' _).1 (List.getElem_mem hi2)
        obtain ⟨P1, P2, hP⟩ := List.append_of_mem hy
        refine ⟨P1, y, P2 ++ [x], by rw [hP]; simp, ?_, ?_⟩
        · rw [List.getElem_append_left hi2]; exact hy2
        · have e2 : (msOf P' ++ [x.2])[j] = x.2 := by subst hje; simp
          rw [e2]
          intro z hz he
          refine hx ((msOf_mem P' _).2 ⟨z, ?_, he⟩)
          rw [hP]
          rcases List.mem_append.1 hz with h | h
          · simp [h]
          · simp at h; simp [h]
termination_by P.length
decreasing_by all_goals simp_all

/-- m comes up ahead of m'. -/
def Ahead (L : List L3) (m m' : Nat) : Prop := ∃ p, 0 ≤ p ∧ p ≤ 1114111 ∧ mkL L p = m ∧ ∀ q, 0 ≤ q → q ≤ p → mkL L q ≠ m'
theorem msL_ahead {L : List L3} (h : L.length ≤ 64) : (msL L).Pairwise (Ahead L) := by
  have hc := PC_cov L h
  refine List.pairwise_iff_getElem.2 fun i j hi hj hij => ?_
  obtain ⟨P1, y, P2, hP, h1, h2⟩ := ms_split (PC L) hij hj
  have hy : y ∈ PC L := by rw [hP]; simp
  have hye := hc.each y hy
  refine ⟨y.1.1, hye.1, by omega, ?_, fun q h0 hq => ?_⟩
  · rw [show (msL L)[i] = y.2 from h1.symm]
    exact hye.2.2.2 _ (Int.le_refl _) hye.2.1
  · obtain ⟨z, hz, h3, h4⟩ := hc.all q h0 (by omega)
    have hzm := (hc.each z hz).2.2.2 q h3 h4
    have hin : z ∈ P1 ++ [y] := by
      rw [hP] at hz
      rcases List.mem_append.1 hz with h5 | h5
      · simp [h5]
      · rcases List.mem_cons.1 h5 with rfl | h5
        · simp
        · have hr := hc.rise
          rw [hP] at hr
          have := (List.pairwise_cons.1 (List.pairwise_append.1 hr).2.1).1 z h5
          omega
    show msk (TOf L) q L.length ≠ _
    rw [hzm]
    exact h2 z hin
theorem ahead_asym {L : List L3} {a b : Nat} (h1 : Ahead L a b) (h2 : Ahead L b a) : a = b := by
  obtain ⟨p, p0, _, p1, p2⟩ := h1
  obtain ⟨q, q0, _, q1, q2⟩ := h2
  by_cases h : q ≤ p
  · exact absurd q1 (p2 q q0 h)
  · exact absurd p1 (q2 p p0 (by omega))
theorem msL_map {L L' : List L3} (h : L.length ≤ 64) (h' : L'.length ≤ 64) (f : Nat → Nat) (hf : ∀ p, 0 ≤ p → p ≤ 1114111 → mkL L' p = f (mkL L p)) (hinj : ∀ a ∈ msL L, ∀ b ∈ msL L, f a = f b → a = b) : msL L' = (msL L).map f := by
  have hmem : ∀ m, m ∈ msL L' ↔ m ∈ (msL L).map f := fun m => by
    rw [msL_mem h', List.mem_map]
    constructor
    · rintro ⟨p, h0, h1, rfl⟩
      exact ⟨mkL L p, (msL_mem h _).2 ⟨p, h0, h1, rfl⟩, (hf p h0 h1).symm⟩
    · rintro ⟨a, ha, rfl⟩
      obtain ⟨p, h0, h1, rfl⟩ := (msL_mem h _).1 ha
      exact ⟨p, h0, h1, hf p h0 h1⟩
  have hnd : ((msL L).map f).Nodup := List.pairwise_map.2 (List.Pairwise.imp_of_mem (fun {a b} ha hb hab e => hab (hinj a ha b hb e)) (msL_nodup L))
  have hpw : ((msL L).map f).Pairwise (Ahead L') := by
    refine List.pairwise_map.2 (List.Pairwise.imp_of_mem (fun {a b} ha hb hab => ?_) (msL_ahead h))
    obtain ⟨p, h0, h1, h2, h3⟩ := hab
    refine ⟨p, h0, h1, by rw [hf p h0 h1, h2], fun q h4 h5 e => ?_⟩
    rw [hf q h4 (by omega)] at e
    exact h3 q h4 h5 (hinj _ ((msL_mem h _).2 ⟨q, h4, by omega, rfl⟩) _ hb e)
  exact ((List.perm_ext_iff_of_nodup (msL_nodup L') hnd).2 hmem).eq_of_pairwise (le := Ahead L') (fun a b _ _ h1 h2 => ahead_asym h1 h2) (msL_ahead h') hpw

theorem nodup_len {l m : List Nat} (h : l.Nodup) (hs : ∀ x ∈ l, x ∈ m) : l.length ≤ m.length := h.length_le_of_subset fun x hx => hs x hx
theorem mkL_snoc (L : List L3) (x : L3) (p : Int) : mkL (L ++ [x]) p = mkL L p ^^^ (if S.hB x.2.2 p then 2 ^ L.length else 0) := by
  unfold mkL
  rw [List.length_append, List.length_singleton, msk]
  have e1 : (TOf (L ++ [x])).getD L.length [] = x.2.2 := by rw [TOf_at _ _ (by simp)]; simp
  rw [e1]
  congr 1
  refine Nat.eq_of_testBit_eq fun j => ?_
  rw [mk_bit, mk_bit]
  by_cases hj : j < L.length
  · rw [TOf_at _ j (by simp; omega), TOf_at _ j hj, List.getElem_append_left hj]
  · simp [hj]
theorem mkL_lt (L : List L3) (p : Int) : mkL L p < 2 ^ L.length := mk_lt _ _ _
theorem more_len {L : List L3} (h : L.length + 1 ≤ 64) (x : L3) : (msL L).length ≤ (msL (L ++ [x])).length ∧ (msL (L ++ [x])).length ≤ 2 * (msL L).length := by
  have h' : (L ++ [x]).length ≤ 64 := by simpa using h
  have hg : ∀ p, mkL (L ++ [x]) p % 2 ^ L.length = mkL L p := fun p => by
    refine Nat.eq_of_testBit_eq fun j => ?_
    rw [Nat.testBit_mod_two_pow, mkL_snoc, Nat.testBit_xor]
    by_cases hj : j < L.length
    · have e : (if S.hB x.2.2 p then 2 ^ L.length else 0).testBit j = false := by
        split
        · rw [Nat.testBit_two_pow]
          simp
          omega
        · simp
      rw [e]
      simp [hj]
    · have e : (mkL L p).testBit j = false := by
        unfold mkL
        rw [mk_bit]
        simp [hj]
      simp [hj, e]
  constructor
  · have := nodup_len (m := (msL (L ++ [x])).map (· % 2 ^ L.length)) (msL_nodup L) fun m hm => by
      obtain ⟨p, h0, h1, rfl⟩ := (msL_mem (by omega) _).1 hm
      exact List.mem_map.2 ⟨mkL (L ++ [x]) p, (msL_mem h' _).2 ⟨p, h0, h1, rfl⟩, hg p⟩
    simpa using this
  · have := nodup_len (m := msL L ++ (msL L).map (· ^^^ 2 ^ L.length)) (msL_nodup (L ++ [x])) fun m hm => by
      obtain ⟨p, h0, h1, rfl⟩ := (msL_mem h' _).1 hm
      have hm2 : mkL L p ∈ msL L := (msL_mem (by omega) _).2 ⟨p, h0, h1, rfl⟩
      rw [mkL_snoc]
      split
      · exact List.mem_append_right _ (List.mem_map.2 ⟨_, hm2, rfl⟩)
      · rw [Nat.xor_zero]; exact List.mem_append_left _ hm2
    rw [List.length_append, List.length_map] at this
    omega
/-- Cut by the classes themselves. -/
theorem own_mk {L L' : List L3} (h : L.length ≤ 64) (hl : L'.length = (msL L).length) (hT : TOf L' = (List.range (msL L).length).map fun k : Nat => setL L (k : Int)) {p : Int} (h0 : 0 ≤ p) (h1 : p ≤ 1114111) : mkL L' p = 2 ^ (msL L).idxOf (mkL L p) := by
  refine Nat.eq_of_testBit_eq fun j => ?_
  unfold mkL
  rw [mk_bit, Nat.testBit_two_pow, hT]
  have hm : mkL L p ∈ msL L := (msL_mem h _).2 ⟨p, h0, h1, rfl⟩
  have hil := List.idxOf_lt_length_of_mem hm
  have hie := List.getElem_idxOf hil
  by_cases hj : j < L'.length
  · have hj2 : j < (msL L).length := by omega
    have e : ((List.range (msL L).length).map fun k : Nat => setL L (k : Int)).getD j [] = setL L (j : Int) := by simp [List.getD_eq_getElem?_getD, hj2]
    rw [e, decide_eq_true hj, Bool.true_and, Bool.eq_iff_iff, S.hB_iff, setL_hs h hj2, decide_eq_true_iff]
    constructor
    · rintro ⟨_, _, h2⟩
      have := (List.getElem_inj (h₀ := hil) (h₁ := hj2) (msL_nodup L)).1 (hie.trans h2)
      exact this
    · intro e2
      refine ⟨h0, h1, ?_⟩
      have e3 : (msL L).idxOf (mkL L p) = j := e2
      simp only [e3] at hie
      exact hie.symm
  · have hne : ¬ (msL L).idxOf (msk (TOf L) p L.length) = j := by
      intro e
      have e3 : (msL L).idxOf (mkL L p) = j := e
      omega
    simp [hj, hne]
theorem own_ms {L L' : List L3} (h : L.length ≤ 64) (h' : (msL L).length ≤ 64) (hl : L'.length = (msL L).length) (hT : TOf L' = (List.range (msL L).length).map fun k : Nat => setL L (k : Int)) : msL L' = (msL L).map fun m => 2 ^ (msL L).idxOf m := by
  refine msL_map h (by omega) _ (fun p h0 h1 => own_mk h hl hT h0 h1) fun a ha b hb e => ?_
  have e2 : (msL L).idxOf a = (msL L).idxOf b := (Nat.pow_right_inj (by decide)).1 e
  have e3 := List.getElem_idxOf (List.idxOf_lt_length_of_mem ha)
  have e4 := List.getElem_idxOf (List.idxOf_lt_length_of_mem hb)
  rw [← e3, ← e4]
  simp only [e2]
theorem own_set {L L' : List L3} (h : L.length ≤ 64) (h' : (msL L).length ≤ 64) (hl : L'.length = (msL L).length) (hT : TOf L' = (List.range (msL L).length).map fun k : Nat => setL L (k : Int)) {k : Nat} (hk : k < (msL L).length) : S.set (setL L' (k : Int)) = S.set (setL L (k : Int)) := by
  have hms := own_ms h h' hl hT
  have hk' : k < (msL L').length := by rw [hms]; simpa using hk
  refine S.canon_eq (S.set_canon _) (S.set_canon _) fun p => ?_
  rw [S.set_has, S.set_has, setL_hs (by omega) hk', setL_hs h hk]
  refine and_congr_right fun h0 => and_congr_right fun h1 => ?_
  have e1 : (msL L')[k] = 2 ^ k := by
    simp only [hms, List.getElem_map]
    rw [List.Nodup.idxOf_getElem (msL_nodup L) k hk]
  rw [e1, own_mk h hl hT h0 h1]
  have hm : mkL L p ∈ msL L := (msL_mem h _).2 ⟨p, h0, h1, rfl⟩
  have hil := List.idxOf_lt_length_of_mem hm
  have hie := List.getElem_idxOf hil
  constructor
  · intro e
    have e2 : (msL L).idxOf (mkL L p) = k := (Nat.pow_right_inj (by decide)).1 e
    simp only [e2] at hie
    exact hie.symm
  · intro e
    rw [e, List.Nodup.idxOf_getElem (msL_nodup L) k hk]
end Go.Proofs.Ytbkcbclloemajaa
