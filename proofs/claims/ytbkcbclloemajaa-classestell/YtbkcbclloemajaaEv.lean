/- Ends: which places turn which sets; the places in order. -/
import Derived.Test.YtbkcbclloemajaaMath
namespace Go.Proofs.Ytbkcbclloemajaa

/-- What lies under each place when these ends have been met, one behind the other. -/
def evN (L : List (Int × Nat)) : Int → Option Nat := L.foldl (fun f p x => if x = p.1 then some ((f p.1).getD 0 ^^^ 2 ^ p.2) else f x) (fun _ => none)
theorem evN_nil : evN [] = fun _ => none := rfl
theorem evN_snoc (L : List (Int × Nat)) (a : Int) (i : Nat) : evN (L ++ [(a, i)]) = fun x => if x = a then some ((evN L a).getD 0 ^^^ 2 ^ i) else evN L x := by
  unfold evN
  rw [List.foldl_append]
  rfl
theorem evN_some (L : List (Int × Nat)) (x : Int) : (evN L x).isSome = true ↔ ∃ i, (x, i) ∈ L := by
  rcases List.eq_nil_or_concat L with rfl | ⟨L', ⟨a, i⟩, rfl⟩
  · simp [evN_nil]
  · rw [List.concat_eq_append, evN_snoc]
    have ih := evN_some L' x
    by_cases h : x = a
    · subst h
      simp
    · simp [h, ih]
termination_by L.length
decreasing_by simp_all
theorem evN_bit (L : List (Int × Nat)) (x : Int) (j : Nat) : ((evN L x).getD 0).testBit j = decide ((L.filter fun p => p.1 == x && p.2 == j).length % 2 = 1) := by
  rcases List.eq_nil_or_concat L with rfl | ⟨L', ⟨a, i⟩, rfl⟩
  · simp [evN_nil]
  · rw [List.concat_eq_append, evN_snoc, List.filter_append, List.length_append]
    have ih := evN_bit L' x j
    by_cases h : x = a
    · subst h
      simp only [if_true, Option.getD_some, Nat.testBit_xor, ih, Nat.testBit_two_pow]
      by_cases hj : i = j
      · subst hj
        simp only [List.filter_cons, List.filter_nil, beq_self_eq_true, Bool.and_self, if_true, List.length_cons, List.length_nil, decide_true, Bool.bne_true]
        generalize (List.filter (fun p => p.1 == x && p.2 == i) L').length = m
        by_cases hm : m % 2 = 1
        · simp [hm, show ¬ (m + 1) % 2 = 1 by omega]
        · simp [hm, show (m + 1) % 2 = 1 by omega]
      · simp [hj]
    · have h2 : ¬ a = x := fun e => h e.symm
      simp [h, h2, ih]
termination_by L.length
decreasing_by simp_all
theorem evN_lt (L : List (Int × Nat)) (n : Nat) (h : ∀ p ∈ L, p.2 < n) (x : Int) : (evN L x).getD 0 < 2 ^ n := by
  rcases List.eq_nil_or_concat L with rfl | ⟨L', ⟨a, i⟩, rfl⟩
  · simp [evN_nil]
    exact Nat.two_pow_pos n
  · rw [List.concat_eq_append] at h ⊢
    rw [evN_snoc]
    have ih := fun x => evN_lt L' n (fun p hp => h p (by simp [hp])) x
    have hi : i < n := h (a, i) (by simp)
    by_cases e : x = a
    · simp only [e, if_true, Option.getD_some]
      exact Nat.xor_lt_two_pow (ih a) (Nat.pow_lt_pow_right (by omega) hi)
    · simp only [e, if_false]
      exact ih x
termination_by L.length
decreasing_by simp_all

/-- The ends of a set of number i. -/
def evR (i : Nat) (zs : List S.R) : List (Int × Nat) := zs.flatMap fun r => [(r.1, i), (r.2 + 1, i)]
theorem evR_snoc (i : Nat) (zs : List S.R) (r : S.R) : evR i (zs ++ [r]) = evR i zs ++ [(r.1, i)] ++ [(r.2 + 1, i)] := by simp [evR]
theorem evR_take (i : Nat) (zs : List S.R) (k : Nat) (h : k < zs.length) : evR i (zs.take (k + 1)) = evR i (zs.take k) ++ [(zs[k].1, i)] ++ [(zs[k].2 + 1, i)] := by
  rw [← List.take_append_getElem h, evR_snoc]
theorem evR_length (i : Nat) (zs : List S.R) : (evR i zs).length = 2 * zs.length := by
  induction zs with
  | nil => rfl
  | cons z zs ih => simp [evR] at ih ⊢; omega
theorem evR_mem {i : Nat} {zs : List S.R} {p : Int × Nat} (h : p ∈ evR i zs) : p.2 = i ∧ ∃ r ∈ zs, p.1 = r.1 ∨ p.1 = r.2 + 1 := by
  obtain ⟨r, hr, h1⟩ := List.mem_flatMap.1 h
  simp at h1
  rcases h1 with rfl | rfl
  · exact ⟨rfl, r, hr, .inl rfl⟩
  · exact ⟨rfl, r, hr, .inr rfl⟩
/-- The ends of the first n lists. -/
noncomputable def evT (T : List (List S.R)) (n : Nat) : List (Int × Nat) := (List.range n).flatMap fun i => evR i (S.set (T.getD i []))
theorem evT_zero (T : List (List S.R)) : evT T 0 = [] := rfl
theorem evT_succ (T : List (List S.R)) (n : Nat) : evT T (n + 1) = evT T n ++ evR n (S.set (T.getD n [])) := by
  unfold evT
  rw [List.range_succ, List.flatMap_append]
  simp
theorem evT_lt {T : List (List S.R)} {n : Nat} {p : Int × Nat} (h : p ∈ evT T n) : p.2 < n := by
  obtain ⟨i, hi, h1⟩ := List.mem_flatMap.1 h
  rw [(evR_mem h1).1]
  simpa using hi
theorem evT_length {T : List (List S.R)} {m : Nat} (hT : ∀ x ∈ T, x.length ≤ m) (n : Nat) : (evT T n).length ≤ n * (2 * m) := by
  induction n with
  | zero => simp [evT_zero]
  | succ n ih =>
    rw [evT_succ, List.length_append, evR_length]
    have : (S.set (T.getD n [])).length ≤ m := by
      refine Nat.le_trans (S.set_length _) ?_
      by_cases h : n < T.length
      · rw [List.getD_eq_getElem?_getD, List.getElem?_eq_getElem h]
        exact hT _ (List.getElem_mem h)
      · rw [List.getD_eq_getElem?_getD, List.getElem?_eq_none (by omega)]
        simp
    rw [Nat.add_mul]
    omega

/-- A place put into a row of places in order. -/
def insK (x : Int) : List Int → List Int
  | [] => [x]
  | y :: l => if x < y then x :: y :: l else if x = y then y :: l else y :: insK x l
def ksOf (L : List (Int × Nat)) : List Int := L.foldr (fun p l => insK p.1 l) []
theorem insK_mem (x z : Int) : ∀ l, z ∈ insK x l ↔ z = x ∨ z ∈ l
  | [] => by simp [insK]
  | y :: l => by
    unfold insK
    split
    · simp
    · split
      · rename_i h; subst h; simp
      · simp [insK_mem x z l]
        constructor
        · rintro (h | h | h)
          · exact .inr (.inl h)
          · exact .inl h
          · exact .inr (.inr h)
        · rintro (h | h | h)
          · exact .inr (.inl h)
          · exact .inl h
          · exact .inr (.inr h)
theorem insK_sorted (x : Int) : ∀ l : List Int, l.Pairwise (· < ·) → (insK x l).Pairwise (· < ·)
  | [], _ => by simp [insK]
  | y :: l, h => by
    have h1 := List.pairwise_cons.1 h
    unfold insK
    split
    · rename_i hx
      refine List.pairwise_cons.2 ⟨fun z hz => ?_, h⟩
      rcases List.mem_cons.1 hz with rfl | hz
      · exact hx
      · have := h1.1 z hz; omega
    · split
      · exact h
      · refine List.pairwise_cons.2 ⟨fun z hz => ?_, insK_sorted x l h1.2⟩
        rcases (insK_mem x z l).1 hz with rfl | hz
        · omega
        · exact h1.1 z hz
theorem ksOf_mem (L : List (Int × Nat)) (x : Int) : x ∈ ksOf L ↔ ∃ i, (x, i) ∈ L := by
  induction L with
  | nil => simp [ksOf]
  | cons p L ih =>
    have : ksOf (p :: L) = insK p.1 (ksOf L) := rfl
    rw [this, insK_mem, ih]
    constructor
    · rintro (rfl | ⟨i, hi⟩)
      · exact ⟨p.2, by simp⟩
      · exact ⟨i, by simp [hi]⟩
    · rintro ⟨i, hi⟩
      rcases List.mem_cons.1 hi with h | h
      · exact .inl (by rw [← h])
      · exact .inr ⟨i, h⟩
theorem ksOf_sorted (L : List (Int × Nat)) : (ksOf L).Pairwise (· < ·) := by
  induction L with
  | nil => exact List.Pairwise.nil
  | cons p L ih => exact insK_sorted p.1 _ ih
theorem sorted_unique {l m : List Int} (h1 : l.Pairwise (· < ·)) (h2 : m.Pairwise (· < ·)) (h : ∀ x, x ∈ l ↔ x ∈ m) : l = m := by
  have n1 : l.Nodup := h1.imp fun hab e => by omega
  have n2 : m.Nodup := h2.imp fun hab e => by omega
  exact ((List.perm_ext_iff_of_nodup n1 n2).2 h).eq_of_pairwise (le := fun a b => a < b) (fun a b _ _ h1 h2 => by omega) h1 h2
end Go.Proofs.Ytbkcbclloemajaa
