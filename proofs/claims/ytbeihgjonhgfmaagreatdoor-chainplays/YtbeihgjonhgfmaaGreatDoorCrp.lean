/- Plain facts: what a put and a drop do at their place. -/
import Derived.Test.YtbeihgjonhgfmaaGreatDoorCrc
namespace Go.Proofs.YtbeihgjonhgfmaaGreatDoor
open Go.RowKit
namespace C
theorem ins_mid (x : Tx × Tx) (B : Row) (hB : ∀ y ∈ B.head?, bytesBefore x.1 y.1 = true) : ∀ A : Row, (∀ y ∈ A, bytesBefore x.1 y.1 = false) → ins x (A ++ B) = A ++ x :: B
  | [], _ => by
    cases B with
    | nil => rfl
    | cons b r =>
      have := hB b (by simp)
      simp only [List.nil_append]
      unfold ins
      rw [if_pos this]
  | a :: r, h => by
    have h1 := h a (by simp)
    rw [List.cons_append]
    unfold ins
    rw [if_neg (by rw [h1]; simp), ins_mid x B hB r fun y hy => h y (by simp [hy])]
    rfl
theorem del_self {L : Row} {k : Tx} (h : has L k = false) : del L k = L := by
  unfold del
  rw [List.filter_eq_self]
  intro y hy
  cases e : (y.1 == k) with
  | false => rfl
  | true =>
    have := has_ks.2 (List.mem_map.2 ⟨y, hy, rfl⟩ : y.1 ∈ ks L)
    rw [show y.1 = k by simpa using e, h] at this
    cases this
/-- A put of one that is not there. -/
theorem put_new {L : Row} {k p : Tx} (hh : has L k = false) (i : Nat) (h1 : ∀ j (h : j < L.length), j < i → bytesBefore L[j].1 k = true) (h2 : ∀ h : i < L.length, bytesBefore L[i].1 k = false) :
    put L k p = L.take i ++ (k, p) :: L.drop i := by
  unfold put
  rw [del_self hh]
  conv => lhs; rw [← List.take_append_drop i L]
  refine ins_mid (k, p) (L.drop i) (fun y hy => ?_) (L.take i) fun y hy => ?_
  · have hi : i < L.length := by
      rcases Nat.lt_or_ge i L.length with h | h
      · exact h
      · rw [List.drop_eq_nil_of_le h] at hy; simp at hy
    rw [List.drop_eq_getElem_cons hi] at hy
    rw [List.head?_cons, Option.mem_some_iff] at hy
    subst hy
    refine bb_total _ _ (h2 hi) fun e => ?_
    have := has_ks.2 (List.mem_map.2 ⟨L[i], List.getElem_mem hi, rfl⟩ : L[i].1 ∈ ks L)
    rw [e, hh] at this; cases this
  · obtain ⟨j, hj, rfl⟩ := List.mem_iff_getElem.1 hy
    rw [List.length_take] at hj
    rw [List.getElem_take]
    exact bb_asymm (h1 j (by omega) (by omega))
theorem del_at {L : Row} (hs : Srt L) {k : Tx} {i : Nat} (hi : i < L.length) (e : L[i].1 = k) : del L k = L.take i ++ L.drop (i + 1) := by
  have hp : Srt (L.take i ++ L[i] :: L.drop (i + 1)) := by rw [← List.drop_eq_getElem_cons hi, List.take_append_drop]; exact hs
  conv => lhs; rw [← List.take_append_drop i L, List.drop_eq_getElem_cons hi]
  unfold del
  unfold Srt at hp
  rw [List.pairwise_append] at hp
  obtain ⟨_, q2, q3⟩ := hp
  rw [List.filter_append, List.filter_cons, if_neg (by simp [e])]
  congr 1
  · rw [List.filter_eq_self]
    intro y hy
    have := bb_ne (q3 y hy L[i] List.mem_cons_self)
    rw [e] at this
    simpa using this
  · rw [List.filter_eq_self]
    intro y hy
    have := bb_ne ((List.pairwise_cons.1 q2).1 y hy)
    rw [e] at this
    simpa using fun e2 => this e2.symm
theorem put_at {L : Row} (hs : Srt L) {k p : Tx} {i : Nat} (hi : i < L.length) (e : L[i].1 = k) : put L k p = L.set i (k, p) := by
  have hp : Srt (L.take i ++ L[i] :: L.drop (i + 1)) := by rw [← List.drop_eq_getElem_cons hi, List.take_append_drop]; exact hs
  unfold Srt at hp
  rw [List.pairwise_append] at hp
  obtain ⟨_, q2, q3⟩ := hp
  unfold put
  rw [del_at hs hi e, ins_mid (k, p) _ (fun y hy => ?_) _ fun y hy => ?_]
  · rw [List.set_eq_take_append_cons_drop, if_pos hi]
  · have hm : y ∈ L.drop (i + 1) := List.mem_of_mem_head? hy
    have := (List.pairwise_cons.1 q2).1 y hm
    rw [e] at this
    exact this
  · have := q3 y hy L[i] List.mem_cons_self
    rw [e] at this
    exact bb_asymm this
theorem ks_new {L : Row} {k p : Tx} {i : Nat} : ks (L.take i ++ (k, p) :: L.drop i) = (ks L).take i ++ k :: (ks L).drop i := by simp [ks]
theorem ps_new {L : Row} {k p : Tx} {i : Nat} : ps (L.take i ++ (k, p) :: L.drop i) = (ps L).take i ++ p :: (ps L).drop i := by simp [ps]
theorem ks_set {L : Row} {k p : Tx} {i : Nat} (hi : i < L.length) (e : L[i].1 = k) : ks (L.set i (k, p)) = ks L := by
  unfold ks
  rw [List.map_set]
  apply List.ext_getElem
  · simp
  · intro j h1 h2
    rw [List.getElem_set]
    split
    · rename_i hij; subst hij; simp [e]
    · rfl
theorem ps_set {L : Row} {k p : Tx} {i : Nat} : ps (L.set i (k, p)) = (ps L).set i p := by unfold ps; rw [List.map_set]
theorem ks_cut {L : Row} {i : Nat} : ks (L.take i ++ L.drop (i + 1)) = (ks L).take i ++ (ks L).drop (i + 1) := by simp [ks]
theorem ps_cut {L : Row} {i : Nat} : ps (L.take i ++ L.drop (i + 1)) = (ps L).take i ++ (ps L).drop (i + 1) := by simp [ps]
theorem pl_key {L : Row} (hs : Srt L) {x : Tx} (h : has L x = true) : ∃ i : Nat, plI L x = (i : Int) ∧ ∃ h : i < L.length, L[i].1 = x := by
  obtain ⟨i, hi, hp⟩ := plI_ge h
  obtain ⟨h1, h2, _⟩ := pl_some hs hi
  exact ⟨i, hp, h1, h2⟩
end C
end Go.Proofs.YtbeihgjonhgfmaaGreatDoor
