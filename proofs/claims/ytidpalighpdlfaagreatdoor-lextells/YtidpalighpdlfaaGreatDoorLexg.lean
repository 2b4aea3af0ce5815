/- Signs: facts that the program's own way of reading needs: four bytes are enough for a code point; one code point alone. -/
import Derived.Test.YtidpalighpdlfaaGreatDoorLexf
namespace Go.Proofs.YtidpalighpdlfaaGreatDoor
namespace M
open Go.Lib
theorem decodeN_min (n b0 b1 b2 b3 : Nat) : decodeN (min 4 n) b0 b1 b2 b3 = decodeN n b0 b1 b2 b3 := by
  have c1 : (1 < min 4 n) = (1 < n) := propext ⟨fun h => by omega, fun h => by omega⟩
  have c2 : (2 < min 4 n) = (2 < n) := propext ⟨fun h => by omega, fun h => by omega⟩
  have c3 : (3 < min 4 n) = (3 < n) := propext ⟨fun h => by omega, fun h => by omega⟩
  simp only [decodeN, c1, c2, c3]
theorem getD_take (u : List UInt8) (k j : Nat) (h : j < k) : (u.take k).getD j 0 = u.getD j 0 := by
  rw [List.getD_eq_getElem?_getD, List.getD_eq_getElem?_getD, List.getElem?_take_of_lt h]
/-- Four bytes are enough. -/
theorem dec_take (u : List UInt8) : dec (u.take 4) = dec u := by
  unfold dec
  rw [List.length_take, decodeN_min, getD_take _ _ _ (by decide), getD_take _ _ _ (by decide), getD_take _ _ _ (by decide), getD_take _ _ _ (by decide)]
theorem good_head {u : List UInt8} (h : u ≠ []) : good (u.take (dec u).2) = ok (dec u) := by
  have hs := dec_size h
  cases hk : ok (dec u) with
  | true =>
    have h1 := enc_dec u h hk
    have h3 := dec_point u
    have h4 := dec_enc ((dec u).1 : Int) []
    have hf : fix ((dec u).1 : Int) = ((dec u).1 : Int) := by unfold fix; rw [if_pos (by omega)]
    rw [List.append_nil, hf, h1, List.length_take] at h4
    have e : dec (u.take (dec u).2) = dec u := Prod.ext (by have := h4.1; omega) (by have := h4.2.1; omega)
    have hn : u.take (dec u).2 ≠ [] := by
      intro e0
      have := congrArg List.length e0
      rw [List.length_take, List.length_nil] at this
      omega
    rw [good_step hn, e, hk, List.drop_eq_nil_of_le (by rw [List.length_take]; omega), good_nil]
    rfl
  | false =>
    have h2 : (dec u).1 = 65533 ∧ (dec u).2 = 1 := by
      unfold ok at hk
      simp only [Bool.or_eq_false_iff, Bool.not_eq_false', beq_iff_eq, decide_eq_false_iff_not] at hk
      omega
    cases u with
    | nil => exact absurd rfl h
    | cons c v =>
      rw [h2.2]
      have hc : 128 ≤ c.toNat := by
        rcases Nat.lt_or_ge c.toNat 128 with h5 | h5
        · have : (dec (c :: v)).1 = c.toNat := by unfold dec decodeN; simp [h5]
          have := h2.1
          omega
        · exact h5
      have hd : dec [c] = (65533, 1) := by
        unfold dec decodeN
        simp
        omega
      show good [c] = false
      rw [good_step (by simp), hd]
      rfl
end M
namespace X
open M
/-- A name's condition, as a program may ask for it. -/
theorem name_cond (u : List UInt8) : ((u.head?.map isL) = some true ∧ (u.takeWhile isLD).length ≤ 20) ↔ ((u.takeWhile isLD).length ≠ 0 ∧ (u.takeWhile isLD).length ≤ 20 ∧ (u.head?.map isD) ≠ some true) := by
  cases u with
  | nil => simp
  | cons c v =>
    have hx : isL c = true → isD c = false := by
      unfold isL isD
      simp only [Bool.or_eq_true, Bool.and_eq_true, decide_eq_true_eq, Bool.and_eq_false_iff, decide_eq_false_iff_not]
      omega
    cases hl : isL c with
    | true =>
      rw [List.takeWhile_cons_of_pos (by simp [isLD, hl])]
      simp [hl, hx hl]
    | false =>
      cases hd : isD c with
      | true => simp [hl, hd]
      | false =>
        rw [List.takeWhile_cons_of_neg (by simp [isLD, hl, hd])]
        simp [hl]
end X
end Go.Proofs.YtidpalighpdlfaaGreatDoor
