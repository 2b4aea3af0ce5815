/- Plain facts on the register's shifts: four of them are one look-up, they are linear, and none brings two registers together. -/
import Derived.Test.YtnkdlnphmfbagaaDoorMath
namespace Go.Proofs.YtnkdlnphmfbagaaDoor
namespace M
/-- One shift of the register. -/
def sh (c : Nat) : Nat := (c / 2) ^^^ (if c % 2 = 1 then 3988292384 else 0)
def shN : Nat → Nat → Nat
  | 0, q => q
  | k + 1, q => sh (shN k q)
theorem sh_lt (q : Nat) (h : q < 4294967296) : sh q < 4294967296 := by
  unfold sh
  refine Nat.xor_lt_two_pow (n := 32) (by omega) ?_
  split <;> omega
theorem shN_lt (q : Nat) (h : q < 4294967296) : ∀ k, shN k q < 4294967296
  | 0 => h
  | k + 1 => sh_lt _ (shN_lt q h k)
theorem sh_xor (x y : Nat) : sh (x ^^^ y) = sh x ^^^ sh y := by
  unfold sh
  have e1 : (x ^^^ y) / 2 = x / 2 ^^^ y / 2 := Nat.xor_div_two
  have e2 : (x ^^^ y) % 2 = (x % 2 ^^^ y % 2) := Nat.xor_mod_two_pow (n := 1)
  rw [e1, e2]
  rcases Nat.mod_two_eq_zero_or_one x with hx | hx <;> rcases Nat.mod_two_eq_zero_or_one y with hy | hy <;> rw [hx, hy]
  · simp
  · simp [Nat.xor_assoc]
  · simp only [Nat.xor_zero, if_pos]
    simp
    rw [Nat.xor_assoc, Nat.xor_assoc, Nat.xor_comm (y / 2)]
  · simp
    rw [Nat.xor_assoc, Nat.xor_comm (y / 2) 3988292384, ← Nat.xor_assoc 3988292384, Nat.xor_self, Nat.zero_xor]
theorem shN_xor (x y : Nat) : ∀ k, shN k (x ^^^ y) = shN k x ^^^ shN k y
  | 0 => rfl
  | k + 1 => by rw [shN, shN_xor x y k, sh_xor]; rfl
theorem sh_double (m : Nat) : sh (2 * m) = m := by
  unfold sh
  rw [if_neg (by omega), Nat.xor_zero]
  omega
theorem shN4_16 (h : Nat) : shN 4 (16 * h) = h := by
  simp only [shN]
  rw [show 16 * h = 2 * (2 * (2 * (2 * h))) from by omega, sh_double, sh_double, sh_double, sh_double]
theorem tab_shN (d : Nat) (h : d < 16) : shN 4 d = tab d := by
  match d, h with
  | 0, _ | 1, _ | 2, _ | 3, _ | 4, _ | 5, _ | 6, _ | 7, _ | 8, _ | 9, _ | 10, _ | 11, _ | 12, _ | 13, _ | 14, _ | 15, _ => decide
  | n + 16, h => exact absurd h (by omega)
theorem split16 (q : Nat) : q = 16 * (q / 16) ^^^ q % 16 := by
  have h1 : 16 * (q / 16) ||| q % 16 = 16 * (q / 16) + q % 16 := nat_join 4 _ _ (by simp) (by simpa using Nat.mod_lt q (by omega))
  apply Nat.eq_of_testBit_eq
  intro i
  have h2 : q.testBit i = (16 * (q / 16) ||| q % 16).testBit i := by rw [h1, Nat.div_add_mod]
  rw [h2, Nat.testBit_or, Nat.testBit_xor]
  by_cases hi : i < 4
  · have : (16 * (q / 16)).testBit i = false := by
      rw [show 16 * (q / 16) = 2 ^ 4 * (q / 16) from by omega, Nat.testBit_two_pow_mul]
      simp; omega
    simp [this]
  · have : (q % 16).testBit i = false := Nat.testBit_lt_two_pow (Nat.lt_of_lt_of_le (Nat.mod_lt q (show 16 > 0 by omega)) (by have := Nat.pow_le_pow_right (n := 2) (by omega) (show 4 ≤ i by omega); simpa using this))
    simp [this]
theorem nib_shN (q : Nat) : nib q = shN 4 q := by
  have e := shN_xor (16 * (q / 16)) (q % 16) 4
  rw [← split16] at e
  rw [e, shN4_16, tab_shN _ (Nat.mod_lt _ (by omega))]
  rfl
theorem shN_add (j k q : Nat) : shN j (shN k q) = shN (j + k) q := by
  induction j with
  | zero => rw [Nat.zero_add]; rfl
  | succ j ih => rw [Nat.succ_add, shN, ih]; rfl
theorem byt_shN (q : Nat) (c : UInt8) : byt q c = shN 8 (q ^^^ c.toNat) := by
  unfold byt
  rw [nib_shN, nib_shN, shN_add]

/- In the walk's own spelling. -/
theorem w_bit (q : Nat) (h : q < 4294967296) : bits .and .u32 (q : Int) 1 = ((q % 2 : Nat) : Int) := by
  have := u32_and_nat q 1 h (by omega)
  rw [show ((1 : Nat) : Int) = 1 from rfl] at this
  rw [this]
  congr 1
  exact Nat.and_two_pow_sub_one_eq_mod q 1
theorem w_poly (q : Nat) (h : q < 4294967296) (ho : q % 2 = 1) : bits .xor .u32 ((q : Int) / 2) 3988292384 = ((sh q : Nat) : Int) := by
  have := u32_xor_nat (q / 2) 3988292384 (by omega) (by omega)
  rw [show ((q : Int) / 2) = ((q / 2 : Nat) : Int) from by omega]
  rw [show ((3988292384 : Nat) : Int) = 3988292384 from rfl] at this
  rw [this]
  unfold sh
  rw [if_pos ho]
theorem w_even (q : Nat) (ho : q % 2 = 0) : ((q : Int) / 2) = ((sh q : Nat) : Int) := by
  unfold sh
  rw [if_neg (by omega), Nat.xor_zero]
  omega
end M
end Go.Proofs.YtnkdlnphmfbagaaDoor
