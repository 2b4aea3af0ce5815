/- What the reference's one answers: the code point that begins the bytes, and its bytes; nothing where none does. -/
import Derived.Test.YtncmepcgafimjaaDoorTorn
import Derived.Laws.BitsLemmas
namespace Go.Proofs.YtncmepcgafimjaaDoor
open Go.RowKit
namespace M
/-- The number that the first j bytes make. -/
def acc (r0 : Nat) (bs : List UInt8) : Nat → Nat
  | 0 => r0
  | 1 => r0
  | j + 2 => acc r0 bs (j + 1) * 64 + (bs.getD (j + 1) 0).toNat % 64
theorem acc_step (r0 : Nat) (bs : List UInt8) (j : Nat) (hj : 1 ≤ j) : acc r0 bs (j + 1) = acc r0 bs j * 64 + (bs.getD j 0).toNat % 64 := by
  cases j with
  | zero => omega
  | succ j => rfl
theorem acc_lt (r0 : Nat) (bs : List UInt8) (h : r0 < 32) : ∀ j, j ≤ 4 → acc r0 bs j < 32 * 64 ^ (j - 1) := by
  intro j
  induction j with
  | zero => intro _; simpa [acc] using h
  | succ j ih =>
    intro hj
    cases j with
    | zero => simpa [acc] using h
    | succ j =>
      have := ih (by omega)
      rw [acc_step _ _ _ (by omega)]
      simp only [Nat.add_sub_cancel] at this ⊢
      rw [Nat.pow_succ]
      omega
def one (bs : List UInt8) : Nat × Nat := if ok (dec bs) = true then dec bs else (0, 0)
set_option maxRecDepth 100000 in
theorem and192_yes : ∀ x : Fin 256, x.val / 64 = 2 → bits .and .u8 ((x.val : Nat) : Int) 192 = 128 := by decide
set_option maxRecDepth 100000 in
theorem and192_no : ∀ x : Fin 256, ¬ x.val / 64 = 2 → (bits .and .u8 ((x.val : Nat) : Int) 192 != 128) = true := by decide
theorem i32_and31 (x : Int) (h0 : 0 ≤ x) (h1 : x < 2147483648) : bits .and .i32 x 31 = x % 32 := bits_mask .i32 31 (by decide) wraps_i32 5 (by decide) x h0 h1
theorem i32_and15 (x : Int) (h0 : 0 ≤ x) (h1 : x < 2147483648) : bits .and .i32 x 15 = x % 16 := bits_mask .i32 31 (by decide) wraps_i32 4 (by decide) x h0 h1
theorem i32_and7 (x : Int) (h0 : 0 ≤ x) (h1 : x < 2147483648) : bits .and .i32 x 7 = x % 8 := bits_mask .i32 31 (by decide) wraps_i32 3 (by decide) x h0 h1
end M

set_option maxRecDepth 100000 in
set_option maxHeartbeats 2000000 in
theorem one_two (ao : Option Addr) (cap : Nat) (bs : List UInt8) (c : Nat) (R : Nat × Nat) (w : World) (hl : bs.length ≤ 100000) (hb : 1 ≤ bs.length) (hc : Rd w ao (cB bs)) (h0 : (bs.getD 0 0).toNat = c) (h1 : 192 ≤ c) (h2 : c < 224)
    (hR0 : bs.length < 2 → R = (0, 0)) (hR1 : ∀ t, 1 ≤ t → t < 2 → ¬ (bs.getD t 0).toNat / 64 = 2 → R = (0, 0))
    (hR2 : 2 ≤ bs.length → (∀ t, 1 ≤ t → t < 2 → (bs.getD t 0).toNat / 64 = 2) → R = if M.acc (c % 32) bs 2 < 128 ∨ 1114111 < M.acc (c % 32) bs 2 ∨ (55296 ≤ M.acc (c % 32) bs 2 ∧ M.acc (c % 32) bs 2 ≤ 57343) then (0, 0) else (M.acc (c % 32) bs 2, 2)) :
    Calls Tryd.prog 17 #[.slice ao bs.length cap] w fun e w' => e = .returned (.tuple #[.int .i32 (R.1 : Nat), .int .i64 (R.2 : Nat)]) ∧ w = w' := by
  have hcell : ∀ t, t < bs.length → ∃ b off, ao = some ⟨b, off, none⟩ ∧ w.cell? ⟨b, off + t, none⟩ = some (.int .u8 ((bs.getD t 0).toNat : Int)) := by
    intro t ht
    obtain ⟨b, off, e, h⟩ := hc.byte t ht
    exact ⟨b, off, e, by rw [h, List.getD_eq_getElem?_getD, List.getElem?_eq_getElem ht]; rfl⟩
  obtain ⟨b, off, rfl, hc0⟩ := hcell 0 (by omega)
  rw [h0, Nat.add_zero] at hc0
  have m0 := M.i32_and31 (c : Int) (by omega) (by omega)
  have hal := M.acc_lt (c % 32) bs (by omega)
  by_cases hs : bs.length < 2
  · have HR := hide (hR0 hs)
    have e1 : decide ((bs.length : Int) < 2) = true := by simp; omega
    go_enter Tryd.func17, Tryd.ntmps17
    go_wp2
    go_ret2
    exact ⟨by rw [HR.out]; rfl, rfl⟩
  · have e1 : decide ((bs.length : Int) < 2) = false := by simp; omega
    go_enter Tryd.func17, Tryd.ntmps17
    go_wp2
    go_loop [6, 8] (fun r i => ∃ j : Nat, 1 ≤ j ∧ j ≤ 2 ∧ i = .int .i64 (j : Int) ∧ r = .int .i32 ((M.acc (c % 32) bs j : Nat) : Int) ∧ Hid (∀ t, 1 ≤ t → t < j → (bs.getD t 0).toNat / 64 = 2)) (fun _ i => 2 - (intOf i).toNat)
    case atStart => exact ⟨1, by omega, by omega, rfl, by simp [M.acc], fun t a b => by omega⟩
    case round =>
      obtain ⟨j, hj1, hj2, rfl, rfl, HT⟩ := hrel
      by_cases hlt : j < 2
      · obtain ⟨b', off', e, hcj⟩ := hcell j (by omega)
        cases e
        have hx := UInt8.toNat_lt (bs.getD j 0)
        have HST := hide (M.acc_step (c % 32) bs j hj1)
        have hac := hal j (by omega)
        have hac2 : M.acc (c % 32) bs j < 8388608 := by
          have : 64 ^ (j - 1) ≤ 64 ^ 3 := Nat.pow_le_pow_right (by omega) (by omega)
          omega
        have hno := fun h => hide (hR1 j hj1 hlt h)
        clear hal hac hcell hR0 hR1 hR2
        have hyes := M.and192_yes ⟨_, hx⟩
        have hnot := M.and192_no ⟨_, hx⟩
        have HT2 : ∀ (_ : (bs.getD j 0).toNat / 64 = 2) t, 1 ≤ t → t < j + 1 → (bs.getD t 0).toNat / 64 = 2 := by
          intro h t a b
          by_cases htj : t = j
          · rw [htj]; exact h
          · exact HT.out t a (by omega)
        simp only at hyes hnot
        have m1 := u8_and63 ((bs.getD j 0).toNat : Int) (by omega) (by omega)
        generalize (bs.getD j 0).toNat = x at *
        generalize M.acc (c % 32) bs j = A at *
        have m2 := i32_or6 ((A : Int) * 64) ((x : Int) % 64) (by omega) (by omega) (by omega) (by omega) (by omega)
        by_cases hco : x / 64 = 2
        · have m3 := hyes hco
          clear hyes hnot hno
          have HT3 := hide (HT2 hco)
          clear HT2
          go_wp2
          go_round
          case rel => exact ⟨j + 1, by omega, by omega, by go_num, by rw [HST.out]; simp, HT3.out⟩
          case measure => simp [intOf]; omega
        · have m3 := hnot hco
          have HR := hno hco
          clear hyes hnot hno HT2
          go_wp2
          go_ret2
          exact ⟨by rw [HR.out]; rfl, rfl⟩
      · obtain rfl : j = 2 := by omega
        have HR := hide (hR2 (by omega) HT.out)
        clear hR0 hR1 hR2 hcell
        generalize M.acc (c % 32) bs 2 = A at *
        go_wp2
        all_goals
          go_ret2
          refine ⟨?_, rfl⟩
          rw [HR.out]
          first
            | (rw [if_pos (by omega)]; rfl)
            | (rw [if_neg (by omega)]; rfl)

set_option maxRecDepth 100000 in
set_option maxHeartbeats 2000000 in
theorem one_three (ao : Option Addr) (cap : Nat) (bs : List UInt8) (c : Nat) (R : Nat × Nat) (w : World) (hl : bs.length ≤ 100000) (hb : 1 ≤ bs.length) (hc : Rd w ao (cB bs)) (h0 : (bs.getD 0 0).toNat = c) (h1 : 224 ≤ c) (h2 : c < 240)
    (hR0 : bs.length < 3 → R = (0, 0)) (hR1 : ∀ t, 1 ≤ t → t < 3 → ¬ (bs.getD t 0).toNat / 64 = 2 → R = (0, 0))
    (hR2 : 3 ≤ bs.length → (∀ t, 1 ≤ t → t < 3 → (bs.getD t 0).toNat / 64 = 2) → R = if M.acc (c % 16) bs 3 < 2048 ∨ 1114111 < M.acc (c % 16) bs 3 ∨ (55296 ≤ M.acc (c % 16) bs 3 ∧ M.acc (c % 16) bs 3 ≤ 57343) then (0, 0) else (M.acc (c % 16) bs 3, 3)) :
    Calls Tryd.prog 17 #[.slice ao bs.length cap] w fun e w' => e = .returned (.tuple #[.int .i32 (R.1 : Nat), .int .i64 (R.2 : Nat)]) ∧ w = w' := by
  have hcell : ∀ t, t < bs.length → ∃ b off, ao = some ⟨b, off, none⟩ ∧ w.cell? ⟨b, off + t, none⟩ = some (.int .u8 ((bs.getD t 0).toNat : Int)) := by
    intro t ht
    obtain ⟨b, off, e, h⟩ := hc.byte t ht
    exact ⟨b, off, e, by rw [h, List.getD_eq_getElem?_getD, List.getElem?_eq_getElem ht]; rfl⟩
  obtain ⟨b, off, rfl, hc0⟩ := hcell 0 (by omega)
  rw [h0, Nat.add_zero] at hc0
  have m0 := M.i32_and15 (c : Int) (by omega) (by omega)
  have hal := M.acc_lt (c % 16) bs (by omega)
  by_cases hs : bs.length < 3
  · have HR := hide (hR0 hs)
    have e1 : decide ((bs.length : Int) < 3) = true := by simp; omega
    go_enter Tryd.func17, Tryd.ntmps17
    go_wp2
    go_ret2
    exact ⟨by rw [HR.out]; rfl, rfl⟩
  · have e1 : decide ((bs.length : Int) < 3) = false := by simp; omega
    go_enter Tryd.func17, Tryd.ntmps17
    go_wp2
    go_loop [6, 8] (fun r i => ∃ j : Nat, 1 ≤ j ∧ j ≤ 3 ∧ i = .int .i64 (j : Int) ∧ r = .int .i32 ((M.acc (c % 16) bs j : Nat) : Int) ∧ Hid (∀ t, 1 ≤ t → t < j → (bs.getD t 0).toNat / 64 = 2)) (fun _ i => 3 - (intOf i).toNat)
    case atStart => exact ⟨1, by omega, by omega, rfl, by simp [M.acc], fun t a b => by omega⟩
    case round =>
      obtain ⟨j, hj1, hj2, rfl, rfl, HT⟩ := hrel
      by_cases hlt : j < 3
      · obtain ⟨b', off', e, hcj⟩ := hcell j (by omega)
        cases e
        have hx := UInt8.toNat_lt (bs.getD j 0)
        have HST := hide (M.acc_step (c % 16) bs j hj1)
        have hac := hal j (by omega)
        have hac2 : M.acc (c % 16) bs j < 8388608 := by
          have : 64 ^ (j - 1) ≤ 64 ^ 3 := Nat.pow_le_pow_right (by omega) (by omega)
          omega
        have hno := fun h => hide (hR1 j hj1 hlt h)
        clear hal hac hcell hR0 hR1 hR2
        have hyes := M.and192_yes ⟨_, hx⟩
        have hnot := M.and192_no ⟨_, hx⟩
        have HT2 : ∀ (_ : (bs.getD j 0).toNat / 64 = 2) t, 1 ≤ t → t < j + 1 → (bs.getD t 0).toNat / 64 = 2 := by
          intro h t a b
          by_cases htj : t = j
          · rw [htj]; exact h
          · exact HT.out t a (by omega)
        simp only at hyes hnot
        have m1 := u8_and63 ((bs.getD j 0).toNat : Int) (by omega) (by omega)
        generalize (bs.getD j 0).toNat = x at *
        generalize M.acc (c % 16) bs j = A at *
        have m2 := i32_or6 ((A : Int) * 64) ((x : Int) % 64) (by omega) (by omega) (by omega) (by omega) (by omega)
        by_cases hco : x / 64 = 2
        · have m3 := hyes hco
          clear hyes hnot hno
          have HT3 := hide (HT2 hco)
          clear HT2
          go_wp2
          go_round
          case rel => exact ⟨j + 1, by omega, by omega, by go_num, by rw [HST.out]; simp, HT3.out⟩
          case measure => simp [intOf]; omega
        · have m3 := hnot hco
          have HR := hno hco
          clear hyes hnot hno HT2
          go_wp2
          go_ret2
          exact ⟨by rw [HR.out]; rfl, rfl⟩
      · obtain rfl : j = 3 := by omega
        have HR := hide (hR2 (by omega) HT.out)
        clear hR0 hR1 hR2 hcell
        generalize M.acc (c % 16) bs 3 = A at *
        go_wp2
        all_goals
          go_ret2
          refine ⟨?_, rfl⟩
          rw [HR.out]
          first
            | (rw [if_pos (by omega)]; rfl)
            | (rw [if_neg (by omega)]; rfl)

set_option maxRecDepth 100000 in
set_option maxHeartbeats 2000000 in
theorem one_four (ao : Option Addr) (cap : Nat) (bs : List UInt8) (c : Nat) (R : Nat × Nat) (w : World) (hl : bs.length ≤ 100000) (hb : 1 ≤ bs.length) (hc : Rd w ao (cB bs)) (h0 : (bs.getD 0 0).toNat = c) (h1 : 240 ≤ c) (h2 : c < 248)
    (hR0 : bs.length < 4 → R = (0, 0)) (hR1 : ∀ t, 1 ≤ t → t < 4 → ¬ (bs.getD t 0).toNat / 64 = 2 → R = (0, 0))
    (hR2 : 4 ≤ bs.length → (∀ t, 1 ≤ t → t < 4 → (bs.getD t 0).toNat / 64 = 2) → R = if M.acc (c % 8) bs 4 < 65536 ∨ 1114111 < M.acc (c % 8) bs 4 ∨ (55296 ≤ M.acc (c % 8) bs 4 ∧ M.acc (c % 8) bs 4 ≤ 57343) then (0, 0) else (M.acc (c % 8) bs 4, 4)) :
    Calls Tryd.prog 17 #[.slice ao bs.length cap] w fun e w' => e = .returned (.tuple #[.int .i32 (R.1 : Nat), .int .i64 (R.2 : Nat)]) ∧ w = w' := by
  have hcell : ∀ t, t < bs.length → ∃ b off, ao = some ⟨b, off, none⟩ ∧ w.cell? ⟨b, off + t, none⟩ = some (.int .u8 ((bs.getD t 0).toNat : Int)) := by
    intro t ht
    obtain ⟨b, off, e, h⟩ := hc.byte t ht
    exact ⟨b, off, e, by rw [h, List.getD_eq_getElem?_getD, List.getElem?_eq_getElem ht]; rfl⟩
  obtain ⟨b, off, rfl, hc0⟩ := hcell 0 (by omega)
  rw [h0, Nat.add_zero] at hc0
  have m0 := M.i32_and7 (c : Int) (by omega) (by omega)
  have hal := M.acc_lt (c % 8) bs (by omega)
  by_cases hs : bs.length < 4
  · have HR := hide (hR0 hs)
    have e1 : decide ((bs.length : Int) < 4) = true := by simp; omega
    go_enter Tryd.func17, Tryd.ntmps17
    go_wp2
    go_ret2
    exact ⟨by rw [HR.out]; rfl, rfl⟩
  · have e1 : decide ((bs.length : Int) < 4) = false := by simp; omega
    go_enter Tryd.func17, Tryd.ntmps17
    go_wp2
    go_loop [6, 8] (fun r i => ∃ j : Nat, 1 ≤ j ∧ j ≤ 4 ∧ i = .int .i64 (j : Int) ∧ r = .int .i32 ((M.acc (c % 8) bs j : Nat) : Int) ∧ Hid (∀ t, 1 ≤ t → t < j → (bs.getD t 0).toNat / 64 = 2)) (fun _ i => 4 - (intOf i).toNat)
    case atStart => exact ⟨1, by omega, by omega, rfl, by simp [M.acc], fun t a b => by omega⟩
    case round =>
      obtain ⟨j, hj1, hj2, rfl, rfl, HT⟩ := hrel
      by_cases hlt : j < 4
      · obtain ⟨b', off', e, hcj⟩ := hcell j (by omega)
        cases e
        have hx := UInt8.toNat_lt (bs.getD j 0)
        have HST := hide (M.acc_step (c % 8) bs j hj1)
        have hac := hal j (by omega)
        have hac2 : M.acc (c % 8) bs j < 8388608 := by
          have : 64 ^ (j - 1) ≤ 64 ^ 3 := Nat.pow_le_pow_right (by omega) (by omega)
          omega
        have hno := fun h => hide (hR1 j hj1 hlt h)
        clear hal hac hcell hR0 hR1 hR2
        have hyes := M.and192_yes ⟨_, hx⟩
        have hnot := M.and192_no ⟨_, hx⟩
        have HT2 : ∀ (_ : (bs.getD j 0).toNat / 64 = 2) t, 1 ≤ t → t < j + 1 → (bs.getD t 0).toNat / 64 = 2 := by
          intro h t a b
          by_cases htj : t = j
          · rw [htj]; exact h
          · exact HT.out t a (by omega)
        simp only at hyes hnot
        have m1 := u8_and63 ((bs.getD j 0).toNat : Int) (by omega) (by omega)
        generalize (bs.getD j 0).toNat = x at *
        generalize M.acc (c % 8) bs j = A at *
        have m2 := i32_or6 ((A : Int) * 64) ((x : Int) % 64) (by omega) (by omega) (by omega) (by omega) (by omega)
        by_cases hco : x / 64 = 2
        · have m3 := hyes hco
          clear hyes hnot hno
          have HT3 := hide (HT2 hco)
          clear HT2
          go_wp2
          go_round
          case rel => exact ⟨j + 1, by omega, by omega, by go_num, by rw [HST.out]; simp, HT3.out⟩
          case measure => simp [intOf]; omega
        · have m3 := hnot hco
          have HR := hno hco
          clear hyes hnot hno HT2
          go_wp2
          go_ret2
          exact ⟨by rw [HR.out]; rfl, rfl⟩
      · obtain rfl : j = 4 := by omega
        have HR := hide (hR2 (by omega) HT.out)
        clear hR0 hR1 hR2 hcell
        generalize M.acc (c % 8) bs 4 = A at *
        go_wp2
        all_goals
          go_ret2
          refine ⟨?_, rfl⟩
          rw [HR.out]
          first
            | (rw [if_pos (by omega)]; rfl)
            | (rw [if_neg (by omega)]; rfl)
end Go.Proofs.YtncmepcgafimjaaDoor
