/- So many of one code point: plain facts. -/
import Derived.Test.YteaaijhppmkfeaaGreatDoorTWda
namespace Go.Proofs.YteaaijhppmkfeaaGreatDoor
open E (Ps Rx T rxOf Vp Star)
def aT : Nat → T
  | 0 => tA
  | j + 1 => .mk 4 0 [] [] [aT j, tA]
def aS (k : Int) (j : Nat) : T := .mk k 0 [] [] [aT j]
theorem aT_zero : aT 0 = tA := rfl
theorem aT_succ (j : Nat) : aT (j + 1) = .mk 4 0 [] [] [aT j, tA] := rfl
theorem pre_tA : E.pre tA tA = [(tA, tA)] := by
  rw [E.pre_eq]
  show _ :: E.preK [] [] = _
  rw [E.preK_nil]
theorem pre_aT (j : Nat) : E.pre (aT (j + 1)) (aT (j + 1)) = (aT (j + 1), aT (j + 1)) :: (E.pre (aT j) (aT j) ++ [(tA, tA)]) := by
  rw [E.pre_eq]
  show _ :: E.preK [aT j, tA] [aT j, tA] = _
  rw [E.preK_cons, E.preK_cons, E.preK_nil, List.append_nil, pre_tA]
theorem pre_aS (k : Int) (j : Nat) : E.pre (aS k j) (aS k j) = (aS k j, aS k j) :: E.pre (aT j) (aT j) := by
  rw [E.pre_eq]
  show _ :: E.preK [aT j] [aT j] = _
  rw [E.preK_cons, E.preK_nil, List.append_nil]
theorem aT_len : ∀ j, (E.pre (aT j) (aT j)).length = 1 + 2 * j
  | 0 => by rw [aT_zero, pre_tA]; rfl
  | j + 1 => by
    rw [pre_aT]
    simp [aT_len j]
    omega
theorem aT_mem : ∀ j, ∀ p ∈ E.pre (aT j) (aT j), p = (tA, tA) ∨ ∃ i, p = (aT (i + 1), aT (i + 1))
  | 0, p, hp => by
    rw [aT_zero, pre_tA] at hp
    exact .inl (by simpa using hp)
  | j + 1, p, hp => by
    rw [pre_aT, List.mem_cons, List.mem_append, List.mem_singleton] at hp
    rcases hp with h | h | h
    · exact .inr ⟨j, h⟩
    · exact aT_mem j p h
    · exact .inl h
theorem aS_len (k : Int) (j : Nat) : (E.pre (aS k j) (aS k j)).length = 2 + 2 * j := by
  rw [pre_aS, List.length_cons, aT_len]; omega
theorem tA_ok : E.NodeOk tA := ⟨rfl, .inl ⟨rfl, rfl, by show 1 ≤ 200; decide, U.S.canon_one (by decide)⟩⟩
theorem aS_plain (k : Int) (j : Nat) (hk : k = 6 ∨ k = 7) (hj : j ≤ 4) : E.PlainP (aS k j) := by
  refine ⟨⟨by rw [aS_len]; omega, fun p hp => ?_⟩, ?_⟩
  · rw [pre_aS, List.mem_cons] at hp
    rcases hp with rfl | hp
    · rcases hk with rfl | rfl
      · exact ⟨rfl, .inr (.inr ⟨by show (3 : Int) ≤ 6; decide, by show (6 : Int) ≤ 8; decide, rfl, rfl⟩)⟩
      · exact ⟨rfl, .inr (.inr ⟨by show (3 : Int) ≤ 7; decide, by show (7 : Int) ≤ 8; decide, rfl, rfl⟩)⟩
    · rcases aT_mem j p hp with rfl | ⟨i, rfl⟩
      · exact tA_ok
      · exact ⟨rfl, .inr (.inr ⟨by show (3 : Int) ≤ 4; decide, by show (4 : Int) ≤ 8; decide, rfl, rfl⟩)⟩
  · unfold E.vnk
    rw [List.filter_eq_nil_iff.2, List.map_nil]
    intro p hp
    rw [pre_aS, List.mem_cons] at hp
    rcases hp with rfl | hp
    · rcases hk with rfl | rfl <;> simp [aS, T.kind]
    · rcases aT_mem j p hp with rfl | ⟨i, rfl⟩ <;> simp [tA, aT, T.kind]
theorem aS_nodeB (k : Int) (j : Nat) : ∀ p ∈ E.pre (aS k j) (aS k j), E.NodeB p.1 := by
  intro p hp
  rw [pre_aS, List.mem_cons] at hp
  rcases hp with rfl | hp
  · simp [E.NodeB, aS, T.set, T.name, T.kids]
  · rcases aT_mem j p hp with rfl | ⟨i, rfl⟩
    · simp [E.NodeB, tA, T.set, T.name, T.kids]
    · simp [E.NodeB, aT, T.set, T.name, T.kids]
theorem inS_a (r : Int) : E.inS [(97, 97)] r = true ↔ r = 97 := by
  have hg : U.S.good ((97 : Int), (97 : Int)) = true := by decide
  unfold E.inS
  rw [U.S.hB_iff]
  unfold U.S.hs U.S.goods
  rw [List.filter_cons_of_pos hg, List.filter_nil, U.S.has_cons]
  constructor
  · rintro (h | h)
    · exact Int.le_antisymm h.2 h.1
    · exact absurd h (U.S.has_nil r)
  · rintro rfl
    exact .inl ⟨Int.le_refl _, Int.le_refl _⟩
theorem tA_L (u : List Int) : (rxOf tA).L u ↔ u = [97] := by
  rw [tA, rxOf, Rx.L, if_pos rfl]
  constructor
  · rintro ⟨r, rfl, h⟩; rw [(inS_a r).1 h]
  · rintro rfl; exact ⟨97, rfl, (inS_a 97).2 rfl⟩
theorem aT_L : ∀ (j : Nat) (u : List Int), (rxOf (aT j)).L u ↔ u = List.replicate (j + 1) 97
  | 0, u => tA_L u
  | j + 1, u => by
    rw [aT_succ, rxOf, Rx.L, if_pos rfl]
    constructor
    · rintro ⟨x, y, rfl, hx, hy⟩
      rw [(aT_L j x).1 hx, (tA_L y).1 hy]
      exact (List.replicate_succ' (n := j + 1)).symm
    · rintro rfl
      exact ⟨_, _, List.replicate_succ' (n := j + 1), (aT_L j _).2 rfl, (tA_L _).2 rfl⟩
theorem star_aT (j : Nat) (u : List Int) : Star (rxOf (aT j)).L u ↔ ∃ q, u = List.replicate (q * (j + 1)) 97 := by
  constructor
  · intro h
    induction h with
    | nil => exact ⟨0, by simp⟩
    | app hx _ ih =>
      obtain ⟨q, rfl⟩ := ih
      rw [(aT_L j _).1 hx]
      exact ⟨q + 1, by rw [List.replicate_append_replicate, Nat.add_mul, Nat.one_mul, Nat.add_comm]⟩
  · rintro ⟨q, rfl⟩
    induction q with
    | zero => rw [Nat.zero_mul]; exact .nil
    | succ q ih =>
      rw [Nat.add_mul, Nat.one_mul, Nat.add_comm, ← List.replicate_append_replicate]
      exact .app ((aT_L j _).2 rfl) ih
theorem rep_inj {a b : Nat} (h : List.replicate a (97 : Int) = List.replicate b 97) : a = b := by
  have := congrArg List.length h
  simpa using this
theorem aS6_L (j n : Nat) : (rxOf (aS 6 j)).L (List.replicate n 97) ↔ n % (j + 1) = 0 := by
  rw [aS, rxOf, Rx.L, if_neg (by decide), if_neg (by decide), star_aT]
  constructor
  · rintro ⟨q, h⟩; rw [rep_inj h, Nat.mul_mod_left]
  · intro h; exact ⟨n / (j + 1), by rw [Nat.div_mul_cancel (Nat.dvd_of_mod_eq_zero h)]⟩
theorem aS7_L (j n : Nat) : (rxOf (aS 7 j)).L (List.replicate n 97) ↔ (n % (j + 1) = 0 ∧ 0 < n) := by
  rw [aS, rxOf, Rx.L, if_neg (by decide), if_pos rfl]
  constructor
  · rintro ⟨x, y, h, hx, hy⟩
    obtain ⟨q, rfl⟩ := (star_aT j y).1 hy
    rw [(aT_L j x).1 hx, List.replicate_append_replicate] at h
    rw [rep_inj h]
    exact ⟨by rw [Nat.add_mul_mod_self_right, Nat.mod_self], by omega⟩
  · rintro ⟨h, h0⟩
    obtain ⟨q, rfl⟩ := Nat.dvd_of_mod_eq_zero h
    cases q with
    | zero => simp at h0
    | succ q =>
      refine ⟨List.replicate (j + 1) 97, List.replicate (q * (j + 1)) 97, ?_, (aT_L j _).2 rfl, (star_aT j _).2 ⟨q, rfl⟩⟩
      rw [List.replicate_append_replicate, Nat.mul_add, Nat.mul_one, Nat.mul_comm, Nat.add_comm]
theorem hit_aS (j n m : Nat) (h : m ≤ n) : hit (List.replicate n 97) (rxOf (aS 6 j)) m = decide (m % (j + 1) = 0) := by
  have := hit_iff (List.replicate n 97) (rxOf (aS 6 j)) m (by simpa using h)
  rw [List.take_replicate, Nat.min_eq_left h, aS6_L] at this
  by_cases hm : m % (j + 1) = 0
  · rw [this.2 hm, decide_eq_true hm]
  · rw [decide_eq_false hm]
    cases hb : hit (List.replicate n 97) (rxOf (aS 6 j)) m with
    | false => rfl
    | true => exact absurd (this.1 hb) hm
theorem mult_list (j : Nat) : ∀ n, (List.range (n + 1)).filter (fun m => decide (m % (j + 1) = 0)) = (List.range (n / (j + 1) + 1)).map (· * (j + 1))
  | 0 => by simp [List.range_succ]
  | n + 1 => by
    rw [List.range_succ, List.filter_append, mult_list j n, Nat.succ_div]
    by_cases h : j + 1 ∣ n + 1
    · rw [if_pos h, List.range_succ (n := n / (j + 1) + 1), List.map_append]
      congr 1
      have h2 : (n + 1) % (j + 1) = 0 := Nat.mod_eq_zero_of_dvd h
      rw [List.filter_cons_of_pos (by simpa using h2), List.filter_nil]
      obtain ⟨q, hq⟩ := h
      have : n / (j + 1) + 1 = q := by
        have h3 : (n + 1) / (j + 1) = q := by rw [hq, Nat.mul_div_cancel_left _ (Nat.succ_pos j)]
        rw [Nat.succ_div, if_pos ⟨q, hq⟩] at h3
        exact h3
      simp [this, hq, Nat.mul_comm]
    · rw [if_neg h, List.filter_cons_of_neg (by simpa using fun h2 => h (Nat.dvd_of_mod_eq_zero h2)), List.filter_nil, List.append_nil]
theorem ends_aS (j n : Nat) (hj : j ≤ 4) {zs : List Int} (h : EndP (aS 6 j) (List.replicate n 97) 0 zs) : zs = (List.range (n / (j + 1) + 1)).map fun i => ((i * (j + 1) : Nat) : Int) := by
  rcases h with ⟨_, rfl⟩ | ⟨h, _⟩
  · unfold pls
    rw [show (0 : Int).toNat = 0 from rfl, List.drop_zero, List.length_replicate, Nat.sub_zero,
      show (List.range (n + 1)).filter (hit (List.replicate n 97) (rxOf (aS 6 j))) = (List.range (n + 1)).filter (fun m => decide (m % (j + 1) = 0)) from
        List.filter_congr fun m hm => hit_aS j n m (by have := List.mem_range.1 hm; omega), mult_list, List.map_map]
    exact List.map_congr_left fun i _ => by simp
  · exact absurd ⟨Int.le_refl _, by simp, aS_plain 6 j (.inl rfl) hj⟩ h
theorem all_aS6 (j n : Nat) (hj : j ≤ 4) : AllP (aS 6 j) (List.replicate n 97) ↔ n % (j + 1) = 0 := ⟨fun h => (aS6_L j n).1 h.2, fun h => ⟨aS_plain 6 j (.inl rfl) hj, (aS6_L j n).2 h⟩⟩
theorem all_aS7 (j n : Nat) (hj : j ≤ 4) : AllP (aS 7 j) (List.replicate n 97) ↔ (n % (j + 1) = 0 ∧ 0 < n) := ⟨fun h => (aS7_L j n).1 h.2, fun h => ⟨aS_plain 7 j (.inr rfl) hj, (aS7_L j n).2 h⟩⟩
end Go.Proofs.YteaaijhppmkfeaaGreatDoor
