/- Which sets have a code point, as bits; the pieces tell it. -/
import Derived.Test.YtbkcbclloemajaaMethb
import Derived.Test.YtbkcbclloemajaaHas
namespace Go.Proofs.Ytbkcbclloemajaa

/-- The bits: number i is set just if list i has p. -/
def msk (T : List (List S.R)) (p : Int) : Nat → Nat
  | 0 => 0
  | n + 1 => msk T p n ^^^ (if S.hB (T.getD n []) p then 2 ^ n else 0)
theorem mk_bit (T : List (List S.R)) (p : Int) (n j : Nat) : (msk T p n).testBit j = (decide (j < n) && S.hB (T.getD j []) p) := by
  induction n with
  | zero => simp [msk]
  | succ n ih =>
    rw [msk, Nat.testBit_xor, ih]
    by_cases hj : j = n
    · subst hj
      by_cases h : S.hB (T.getD j []) p = true
      · rw [if_pos h, Nat.testBit_two_pow_self, h]; simp
      · rw [if_neg h, Nat.zero_testBit]; simp at h; simp [h]
    · have e : (if S.hB (T.getD n []) p then 2 ^ n else 0).testBit j = false := by
        split
        · rw [Nat.testBit_two_pow]; simpa using fun h => hj h.symm
        · simp
      rw [e]
      by_cases h : j < n
      · simp [h, Nat.lt_succ_of_lt h]
      · have : ¬ j < n + 1 := by omega
        simp [h, this]
theorem hasB_cons (r : S.R) (l : List S.R) (p : Int) : S.hasB (r :: l) p = ((decide (r.1 ≤ p) && decide (p ≤ r.2)) || S.hasB l p) := by simp [S.hasB]
theorem hB_set (l : List S.R) (p : Int) : S.hB l p = S.hasB (S.set l) p := by
  rw [Bool.eq_iff_iff, S.hB_iff, S.hasB_iff, S.set_has]
theorem par_cons (n : Nat) : decide ((n + 1) % 2 = 1) = !decide (n % 2 = 1) := by
  rcases Nat.mod_two_eq_zero_or_one n with h | h
  · have : (n + 1) % 2 = 1 := by omega
    simp [h, this]
  · have : (n + 1) % 2 = 0 := by omega
    simp [h, this]
theorem evR_cons (j : Nat) (r : S.R) (l : List S.R) : evR j (r :: l) = (r.1, j) :: (r.2 + 1, j) :: evR j l := by simp [evR]
/-- What changes between k - 1 and k. -/
theorem evR_par (j : Nat) (k : Int) : ∀ zs : List S.R, S.Canon zs → decide (((evR j zs).filter fun p => p.1 == k && p.2 == j).length % 2 = 1) = (S.hasB zs k ^^ S.hasB zs (k - 1))
  | [], _ => by simp [evR, S.hasB]
  | r :: l, hc => by
    have ih := evR_par j k l hc.tail
    have hr := hc.head
    have hbk := fun p (h : S.hasB l p = true) => hc.behind ((S.hasB_iff l p).1 h)
    rw [evR_cons, hasB_cons, hasB_cons, List.filter_cons, List.filter_cons]
    generalize ((evR j l).filter fun p => p.1 == k && p.2 == j) = F at ih ⊢
    have hk := hbk k
    have hk1 := hbk (k - 1)
    by_cases h1 : r.1 = k
    · have h2 : ¬ r.2 + 1 = k := by omega
      have e1 : S.hasB l k = false := by
        cases h : S.hasB l k with
        | false => rfl
        | true => have := hk h; omega
      have e2 : S.hasB l (k - 1) = false := by
        cases h : S.hasB l (k - 1) with
        | false => rfl
        | true => have := hk1 h; omega
      rw [e1, e2] at ih
      have h3 : k ≤ r.2 := by omega
      have h4 : ¬ r.1 ≤ k - 1 := by omega
      rw [if_pos (by simpa using h1), if_neg (by simpa using h2), List.length_cons, par_cons, ih, e1, e2]
      rw [decide_eq_true (by omega : r.1 ≤ k), decide_eq_true h3, decide_eq_false h4]
      rfl
    · by_cases h2 : r.2 + 1 = k
      · have e1 : S.hasB l k = false := by
          cases h : S.hasB l k with
          | false => rfl
          | true => have := hk h; omega
        have e2 : S.hasB l (k - 1) = false := by
          cases h : S.hasB l (k - 1) with
          | false => rfl
          | true => have := hk1 h; omega
        rw [e1, e2] at ih
        have h3 : ¬ k ≤ r.2 := by omega
        have h4 : r.1 ≤ k - 1 := by omega
        have h5 : k - 1 ≤ r.2 := by omega
        rw [if_neg (by simpa using h1), if_pos (by simpa using h2), List.length_cons, par_cons, ih, e1, e2]
        simp [h3, h4, h5]
      · have e : (decide (r.1 ≤ k) && decide (k ≤ r.2)) = (decide (r.1 ≤ k - 1) && decide (k - 1 ≤ r.2)) := by
          by_cases h3 : r.1 ≤ k
          · by_cases h4 : k ≤ r.2
            · have : r.1 ≤ k - 1 := by omega
              have : k - 1 ≤ r.2 := by omega
              simp [*]
            · have : ¬ k - 1 ≤ r.2 := by omega
              simp [*]
          · have : ¬ r.1 ≤ k - 1 := by omega
            simp [*]
        rw [if_neg (by simpa using h1), if_neg (by simpa using h2), ih, e]
        cases hq : (decide (r.1 ≤ k - 1) && decide (k - 1 ≤ r.2)) with
        | false => simp
        | true =>
          simp only [Bool.and_eq_true, decide_eq_true_eq] at hq
          have e1 : S.hasB l k = false := by
            cases h : S.hasB l k with
            | false => rfl
            | true => have := hk h; omega
          have e2 : S.hasB l (k - 1) = false := by
            cases h : S.hasB l (k - 1) with
            | false => rfl
            | true => have := hk1 h; omega
          rw [e1, e2]
          simp
theorem evT_par (T : List (List S.R)) (k : Int) (j n : Nat) : decide (((evT T n).filter fun p => p.1 == k && p.2 == j).length % 2 = 1) = (decide (j < n) && (S.hB (T.getD j []) k ^^ S.hB (T.getD j []) (k - 1))) := by
  induction n with
  | zero => simp [evT_zero]
  | succ n ih =>
    rw [evT_succ, List.filter_append, List.length_append]
    by_cases hj : j = n
    · subst hj
      have e : ((evT T j).filter fun p => p.1 == k && p.2 == j) = [] := by
        rw [List.filter_eq_nil_iff]
        intro p hp
        have := evT_lt hp
        have : ¬ p.2 = j := by omega
        simp [this]
      rw [e, List.length_nil, Nat.zero_add, evR_par j k _ (S.set_canon _), hB_set, hB_set]
      simp
    · have e : ((evR n (S.set (T.getD n []))).filter fun p => p.1 == k && p.2 == j) = [] := by
        rw [List.filter_eq_nil_iff]
        intro p hp
        have := (evR_mem hp).1
        have : ¬ p.2 = j := by omega
        simp [this]
      rw [e, List.length_nil, Nat.add_zero, ih]
      by_cases h : j < n
      · simp [h, Nat.lt_succ_of_lt h]
      · have : ¬ j < n + 1 := by omega
        simp [h, this]
theorem mk_step (T : List (List S.R)) (k : Int) (n : Nat) : msk T k n = msk T (k - 1) n ^^^ (evN (evT T n) k).getD 0 := by
  refine Nat.eq_of_testBit_eq fun j => ?_
  rw [Nat.testBit_xor, mk_bit, mk_bit, evN_bit, evT_par]
  cases decide (j < n) <;> cases S.hB (T.getD j []) k <;> cases S.hB (T.getD j []) (k - 1) <;> rfl
theorem mk_quiet (T : List (List S.R)) (n : Nat) (a : Int) : ∀ (d : Nat), (∀ p, a < p → p ≤ a + d → evN (evT T n) p = none) → msk T (a + d) n = msk T a n
  | 0, _ => by simp
  | d + 1, h => by
    have ih := mk_quiet T n a d fun p h1 h2 => h p h1 (by push_cast; omega)
    rw [mk_step, show a + ((d + 1 : Nat) : Int) - 1 = a + (d : Int) by push_cast; omega, h (a + ((d + 1 : Nat) : Int)) (by push_cast; omega) (by omega), ih]
    simp
theorem mk_still {T : List (List S.R)} {n : Nat} {a b : Int} (hab : a ≤ b) (h : ∀ p, a < p → p ≤ b → evN (evT T n) p = none) : msk T b n = msk T a n := by
  have := mk_quiet T n a (b - a).toNat fun p h1 h2 => h p h1 (by omega)
  rwa [show a + ((b - a).toNat : Int) = b by omega] at this
theorem mk_neg (T : List (List S.R)) (n : Nat) (p : Int) (hp : p < 0) : msk T p n = 0 := by
  refine Nat.eq_of_testBit_eq fun j => ?_
  rw [mk_bit, Nat.zero_testBit]
  cases h : S.hB (T.getD j []) p with
  | false => simp
  | true => have := (S.hs_bounds ((S.hB_iff _ _).1 h)).1; omega
theorem mk_lt (T : List (List S.R)) (p : Int) (n : Nat) : msk T p n < 2 ^ n := by
  refine Nat.lt_pow_two_of_testBit _ fun i hi => ?_
  rw [mk_bit]
  simp
  omega
end Go.Proofs.Ytbkcbclloemajaa
