/- Who is above a tag: the iterator; plain facts. -/
import Derived.Test.YtbeihgjonhgfmaaGreatDoorChb
namespace Go.Proofs.YtbeihgjonhgfmaaGreatDoor
open Go.RowKit Go.Shelf Go.Maps
attribute [local go_sem] Oper.semAt_some
namespace C
theorem parent_len (t : Tx) : (G.parent t).length ≤ 40 := by
  by_cases hI : G.isT t = true
  · by_cases hr : t = G.rootB
    · rw [hr, G.parent_root]; simp
    · obtain ⟨_, _, _, h4, _⟩ := G.isT_cases hI hr
      unfold G.parent
      rw [if_neg (by rintro (h | h); (rw [hI] at h; cases h); exact hr h)]
      split
      · decide
      · rw [List.length_take]; omega
  · rw [G.parent_none (by simpa using hI)]; simp
theorem rank_parent {t : Tx} (h : G.parent t ≠ []) : rank (G.parent t) < rank t := by
  have hI : G.isT t = true := by
    cases hI : G.isT t with
    | true => rfl
    | false => exact absurd (G.parent_none hI) h
  have hr : t ≠ G.rootB := fun e => h (by rw [e]; exact G.parent_root)
  have hne : t ≠ [] := fun e => by rw [e] at hI; revert hI; decide
  have h0 : rank t = t.length + 1 := by unfold rank; rw [if_neg hne, if_neg hr]
  have hpos : 0 < t.length := List.length_pos_iff.2 hne
  unfold G.parent at h ⊢
  rw [if_neg (by rintro (h | h); (rw [hI] at h; cases h); exact hr h)] at h ⊢
  cases hf : t.reverse.findIdx? (· == 45) with
  | none =>
    simp only [hf] at h ⊢
    rw [h0]
    unfold rank
    rw [if_neg (by decide), if_pos rfl]
    omega
  | some i =>
    simp only [hf] at h ⊢
    rw [h0]
    unfold rank
    rw [if_neg h]
    split
    · omega
    · rw [List.length_take]; omega
theorem upsF_enough : ∀ (n m : Nat) (t : Tx), rank t ≤ n → rank t ≤ m → upsF n t = upsF m t
  | 0, m, t, h, _ => by
    have : G.parent t = [] := by
      by_cases hp : G.parent t = []
      · exact hp
      · have := rank_parent hp; omega
    cases m with
    | zero => rfl
    | succ m => rw [upsF, upsF, if_pos this]
  | n + 1, 0, t, _, h => by
    have : G.parent t = [] := by
      by_cases hp : G.parent t = []
      · exact hp
      · have := rank_parent hp; omega
    rw [upsF, upsF, if_pos this]
  | n + 1, m + 1, t, h1, h2 => by
    rw [upsF, upsF]
    by_cases hp : G.parent t = []
    · rw [if_pos hp, if_pos hp]
    · have := rank_parent hp
      rw [if_neg hp, if_neg hp, upsF_enough n m (G.parent t) (by omega) (by omega)]
theorem rank_le (t : Tx) : G.parent t = [] ∨ rank t ≤ 41 := by
  by_cases hp : G.parent t = []
  · exact .inl hp
  · refine .inr ?_
    unfold rank
    split
    · omega
    · split
      · omega
      · rename_i _ hr
        have hI : G.isT t = true := by
          cases hI : G.isT t with
          | true => rfl
          | false => exact absurd (G.parent_none hI) hp
        obtain ⟨_, _, _, h4, _⟩ := G.isT_cases hI hr
        omega
theorem ups_nil {t : Tx} (h : G.parent t = []) : ups t = [] := by unfold ups; rw [upsF, if_pos h]
theorem rank40 {t : Tx} (h : t.length ≤ 40) : rank t ≤ 41 := by
  unfold rank
  split
  · omega
  · split <;> omega
theorem ups_cons {t : Tx} (h : G.parent t ≠ []) : ups t = G.parent t :: ups (G.parent t) := by
  have h1 : rank (G.parent t) ≤ 41 := rank40 (parent_len t)
  unfold ups
  rw [show (50 : Nat) = 49 + 1 from rfl, upsF, if_neg h, upsF_enough 49 50 (G.parent t) (by omega) (by omega)]
theorem ups_len (t : Tx) : ∀ u ∈ ups t, u.length ≤ 40 ∧ u ≠ [] := by
  suffices ∀ n t, ∀ u ∈ upsF n t, u.length ≤ 40 ∧ u ≠ [] from this 50 t
  intro n
  induction n with
  | zero => intro t u hu; cases hu
  | succ n ih =>
    intro t u hu
    rw [upsF] at hu
    split at hu
    · cases hu
    · rename_i hp
      rcases List.mem_cons.1 hu with rfl | hu
      · exact ⟨parent_len t, hp⟩
      · exact ih _ u hu
set_option maxRecDepth 100000 in
set_option maxHeartbeats 1000000 in
theorem above_make (s : Tx) (w : World) : Calls Tryz.prog 57 #[tx s] w fun x w' => x = .returned (.func (.func 82) #[] #[.pointer (some ⟨w.heap.size, 0, none⟩)]) ∧ w' = w.alloc (.cells #[tx s] 9) := by
  unfold tx
  go_enter Tryz.func57, Tryz.ntmps57
  go_wp2
  go_ret
  exact ⟨rfl, rfl⟩
set_option maxRecDepth 100000 in
set_option maxHeartbeats 2000000 in
theorem above1_in (n : Nat) (hn : 1 ≤ n) (s : Tx) (hlen : s.length ≤ 9223372036854775807) (l bs : Nat) (J Stop : Nat → World → Prop) (W0 : World) (hbx : W0.heap[bs]? = some (.cells #[tx s] 9))
    (hst : ∀ i A B, J i A → Below A.heap.size A B → J i B) (hAF : ∀ i A, J i A → AF A)
    (hY : ∀ i (hi : i < (ups s).length) W, J i W →
      YieldAt Fence.wide (n - 1) Tryz.prog l #[tx (ups s)[i]] W fun e W' => (e = .returned (.bool true) ∧ J (i + 1) W') ∨ (e = .returned (.bool false) ∧ Stop i W'))
    (h0 : J 0 W0) :
    CallsIn Fence.wide n Tryz.prog 82 #[.func (.yield l) #[] #[], .pointer (some ⟨bs, 0, none⟩)] W0 fun e W' => (∃ v, e = .returned v) ∧ (J (ups s).length W' ∨ ∃ i, i < (ups s).length ∧ Stop i W') := by
  have cb : W0.cell? ⟨bs, 0, none⟩ = some (tx s) := by simp [World.cell?, hbx]
  have hp0 := parent_any s hlen W0 (hAF 0 W0 h0)
  have HU : ∀ (i : Nat) (t : Tx), Hid (ups t = (ups s).drop i) → G.parent t ≠ [] → ∃ h : i < (ups s).length, (ups s)[i] = G.parent t ∧ Hid (ups (G.parent t) = (ups s).drop (i + 1)) := fun i t HE hp => by
    have e := HE.out
    rw [ups_cons hp] at e
    have hi : i < (ups s).length := by
      have := congrArg List.length e
      rw [List.length_drop, List.length_cons] at this
      omega
    rw [List.drop_eq_getElem_cons hi] at e
    injection e with e1 e2
    exact ⟨hi, e1.symm, hide e2⟩
  have HV : ∀ (i : Nat) (t : Tx), Hid (ups t = (ups s).drop i) → G.parent t = [] → i ≤ (ups s).length → i = (ups s).length := fun i t HE hp hi => by
    have e := HE.out
    rw [ups_nil hp] at e
    have := congrArg List.length e
    rw [List.length_drop, List.length_nil] at this
    omega
  refine callsIn_of_wp Tryz.func82 rfl trivial ?_ rfl
  simp only [Tryz.ntmps82, List.size_toArray, List.length_cons, List.length_nil, Nat.reduceAdd, Nat.reduceSub, Array.replicate_succ, Array.replicate_zero, List.push_toArray, List.append_toArray, List.nil_append, List.cons_append]
  unfold tx at *
  gi_wp2_with (refine ⟨trivial, ?_⟩; gi_at_call 24; refine (callsIn_wide.2 hp0).mono ?_; rintro e w1 ⟨rfl, b1⟩)
  have hJ1 := hst 0 W0 w1 h0 b1
  clear hp0 b1 cb hbx h0
  gi_loopg [3] (rank (G.parent s)) (fun k v wr => ∃ (i : Nat) (t : Tx), v = tx (G.parent t) ∧ i ≤ (ups s).length ∧ Hid (ups t = (ups s).drop i) ∧ t.length ≤ 9223372036854775807 ∧ J i wr ∧ Hid (k = rank (G.parent t)))
  case atStart => exact ⟨0, s, rfl, Nat.zero_le _, hide rfl, hlen, hJ1, hide rfl⟩
  case round =>
    obtain ⟨i, t, rfl, hi, HE, ht, hJ, HK⟩ := hrel
    by_cases hp : G.parent t = []
    · have hv := HV i t HE hp hi
      have hpb : (G.parent t == []) = true := by rw [hp]; rfl
      rw [hp]
      clear HU HV hY hpb
      unfold tx
      gi_wp2
      go_end0
      exact ⟨⟨_, rfl⟩, .inl (by rw [← hv]; exact hJ)⟩
    · obtain ⟨hi2, e1, HE2⟩ := HU i t HE hp
      have hpb : (G.parent t == []) = false := by simpa using hp
      have hy0 := hY i hi2 wr hJ
      rw [e1] at hy0
      have hpl := parent_len t
      have HR := hide (fun hq => rank_parent (t := G.parent t) hq)
      have hpar := fun W (hW : J (i + 1) W) => parent_any (G.parent t) (by omega) W (hAF _ W hW)
      have HRK : Hid (rank (G.parent (G.parent t)) < rank (G.parent t)) := hide (by
        by_cases hq : G.parent (G.parent t) = []
        · rw [hq]
          have : rank ([] : Tx) = 0 := rfl
          rw [this]
          unfold rank
          rw [if_neg hp]
          split <;> omega
        · exact rank_parent hq)
      obtain ⟨u, hu⟩ : ∃ u, u = G.parent t := ⟨_, rfl⟩
      have HK2 := HK.out
      rw [← hu] at hpb hy0 hpl hpar HRK HE2 HK2 ⊢
      have HK3 := hide HK2
      obtain ⟨fn, tmps, assign, body, hy, hR⟩ := hy0
      clear HU HV hY hp hu HE HK e1 HR HK2
      unfold tx at *
      gi_wp2
      refine hR.mono ?_
      rintro e W1 (⟨rfl, hJ1⟩ | ⟨rfl, hS⟩)
      · have hpar1 := hpar W1 hJ1
        clear hpar hy hR
        gi_wp2_with (refine ⟨trivial, ?_⟩; gi_at_call 24; refine (callsIn_wide.2 hpar1).mono ?_; rintro e w2 ⟨rfl, b2⟩)
        gi_roundg (rank (G.parent u))
        case measure => have := HK3.out; have := HRK.out; omega
        case rel => exact ⟨i + 1, u, rfl, hi2, HE2, by omega, hst _ _ _ hJ1 b2, hide rfl⟩
      · clear hpar hy hR
        gi_wp2
        exact bodyPost_ret (v := .tuple #[]) (by simp [results, Tryz.results82, go_sem]) rfl ⟨⟨_, rfl⟩, .inr ⟨i, hi2, hS⟩⟩
end C
end Go.Proofs.YtbeihgjonhgfmaaGreatDoor
