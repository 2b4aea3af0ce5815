/- Plain facts on the sums of bytes: one to four bytes beside one another that were turned have another sum. -/
import Derived.Test.YtnkdlnphmfbagaaDoorShift
namespace Go.Proofs.YtnkdlnphmfbagaaDoor

namespace M
theorem xor_cancel {a b c : Nat} (h : a ^^^ c = b ^^^ c) : a = b := by
  have := congrArg (· ^^^ c) h
  simpa [Nat.xor_assoc] using this
theorem sh_inj (x y : Nat) (hx : x < 4294967296) (hy : y < 4294967296) (h : sh x = sh y) : x = y := by
  unfold sh at h
  have key : ∀ a b : Nat, a < 2147483648 → b < 2147483648 → a ≠ b ^^^ 3988292384 := by
    intro a b ha hb e
    have h1 : a.testBit 31 = false := Nat.testBit_lt_two_pow (by simpa using ha)
    have h2 : b.testBit 31 = false := Nat.testBit_lt_two_pow (by simpa using hb)
    have h3 : (3988292384 : Nat).testBit 31 = true := by decide
    rw [e, Nat.testBit_xor, h2, h3] at h1
    simp at h1
  rcases Nat.mod_two_eq_zero_or_one x with ex | ex <;> rcases Nat.mod_two_eq_zero_or_one y with ey | ey
  · rw [if_neg (by omega), if_neg (by omega), Nat.xor_zero, Nat.xor_zero] at h
    omega
  · rw [if_neg (by omega), if_pos ey, Nat.xor_zero] at h
    exact absurd h (key _ _ (by omega) (by omega))
  · rw [if_pos ex, if_neg (by omega), Nat.xor_zero] at h
    exact absurd h.symm (key _ _ (by omega) (by omega))
  · rw [if_pos ex, if_pos ey] at h
    have := xor_cancel h
    omega
theorem shN_inj (x y : Nat) (hx : x < 4294967296) (hy : y < 4294967296) : ∀ k, shN k x = shN k y → x = y
  | 0, h => h
  | k + 1, h => shN_inj x y hx hy k (sh_inj _ _ (shN_lt x hx k) (shN_lt y hy k) h)
theorem shN8_256 (h : Nat) : shN 8 (256 * h) = h := by
  have e : shN 8 (256 * h) = shN 4 (shN 4 (16 * (16 * h))) := by rw [shN_add, show 16 * (16 * h) = 256 * h from by omega]
  rw [e, shN4_16, shN4_16]
theorem xor_mul256 (z y : Nat) (hy : y < 256) : 256 * z ^^^ y = 256 * z + y := by
  have h1 : 256 * z ||| y = 256 * z + y := nat_join 8 _ _ (by simp) (by simpa using hy)
  rw [← h1]
  apply Nat.eq_of_testBit_eq
  intro i
  rw [Nat.testBit_or, Nat.testBit_xor]
  by_cases hi : i < 8
  · have : (256 * z).testBit i = false := by
      rw [show 256 * z = 2 ^ 8 * z from by omega, Nat.testBit_two_pow_mul]
      simp; omega
    simp [this]
  · have : y.testBit i = false := Nat.testBit_lt_two_pow (Nat.lt_of_lt_of_le hy (by have := Nat.pow_le_pow_right (n := 2) (by omega) (show 8 ≤ i by omega); simpa using this))
    simp [this]
/-- The difference that a byte more makes of a difference of registers. -/
theorem byt_diff (q q' : Nat) (b y : UInt8) : byt q b ^^^ byt q' (b ^^^ y) = shN 8 ((q ^^^ q') ^^^ y.toNat) := by
  rw [byt_shN, byt_shN, ← shN_xor]
  congr 1
  rw [UInt8.toNat_xor]
  apply Nat.eq_of_testBit_eq
  intro i
  simp only [Nat.testBit_xor]
  cases q.testBit i <;> cases q'.testBit i <;> cases b.toNat.testBit i <;> cases y.toNat.testBit i <;> rfl
theorem byt_inj (q q' : Nat) (b : UInt8) (h1 : q < 4294967296) (h2 : q' < 4294967296) (h : byt q b = byt q' b) : q = q' := by
  rw [byt_shN, byt_shN] at h
  exact xor_cancel (shN_inj _ _ (x8_lt q b h1) (x8_lt q' b h2) 8 h)
theorem reg_inj (s : List UInt8) : ∀ q q' : Nat, q < 4294967296 → q' < 4294967296 → reg q s = reg q' s → q = q' := by
  induction s with
  | nil => intro q q' _ _ h; exact h
  | cons c s ih => intro q q' h1 h2 h; exact byt_inj q q' c h1 h2 (ih _ _ (byt_lt q c h1) (byt_lt q' c h2) h)
/-- Four bytes beside one another that were turned bring the register elsewhere, but if none was. -/
theorem four (q : Nat) (hq : q < 4294967296) (b0 b1 b2 b3 y0 y1 y2 y3 : UInt8)
    (h : reg q [b0, b1, b2, b3] = reg q [b0 ^^^ y0, b1 ^^^ y1, b2 ^^^ y2, b3 ^^^ y3]) : y0 = 0 ∧ y1 = 0 ∧ y2 = 0 ∧ y3 = 0 := by
  have l0 := y0.toNat_lt; have l1 := y1.toNat_lt; have l2 := y2.toNat_lt; have l3 := y3.toNat_lt
  simp only [reg, List.foldl_cons, List.foldl_nil] at h
  have d1 := byt_diff q q b0 y0
  have a1 := byt_lt q b0 hq
  have a1' := byt_lt q (b0 ^^^ y0) hq
  generalize byt q b0 = r1 at *
  generalize byt q (b0 ^^^ y0) = r1' at *
  have d2 := byt_diff r1 r1' b1 y1
  have a2 := byt_lt r1 b1 a1
  have a2' := byt_lt r1' (b1 ^^^ y1) a1'
  generalize byt r1 b1 = r2 at *
  generalize byt r1' (b1 ^^^ y1) = r2' at *
  have d3 := byt_diff r2 r2' b2 y2
  have a3 := byt_lt r2 b2 a2
  have a3' := byt_lt r2' (b2 ^^^ y2) a2'
  generalize byt r2 b2 = r3 at *
  generalize byt r2' (b2 ^^^ y2) = r3' at *
  have d4 := byt_diff r3 r3' b3 y3
  have x1 : r1 ^^^ r1' < 4294967296 := Nat.xor_lt_two_pow (n := 32) a1 a1'
  have x2 : r2 ^^^ r2' < 4294967296 := Nat.xor_lt_two_pow (n := 32) a2 a2'
  have x3 : r3 ^^^ r3' < 4294967296 := Nat.xor_lt_two_pow (n := 32) a3 a3'
  generalize r1 ^^^ r1' = e1 at *
  generalize r2 ^^^ r2' = e2 at *
  generalize r3 ^^^ r3' = e3 at *
  rw [h, Nat.xor_self] at d4
  rw [Nat.xor_self, Nat.zero_xor] at d1
  have z0 : shN 8 0 = 0 := by decide
  -- from the last byte back to the first
  have s3 : e3 ^^^ y3.toNat = 0 := shN_inj _ _ (Nat.xor_lt_two_pow (n := 32) x3 (by omega)) (by omega) 8 (by rw [← d4, z0])
  have t3 : e3 = y3.toNat := by
    have := congrArg (· ^^^ y3.toNat) s3
    simpa [Nat.xor_assoc] using this
  have s2 : e2 ^^^ y2.toNat = 256 * y3.toNat := shN_inj _ _ (Nat.xor_lt_two_pow (n := 32) x2 (by omega)) (by omega) 8 (by rw [← d3, shN8_256, t3])
  have t2 : e2 = 256 * y3.toNat + y2.toNat := by
    have := congrArg (· ^^^ y2.toNat) s2
    rw [← xor_mul256 _ _ l2]
    simpa [Nat.xor_assoc] using this
  have s1 : e1 ^^^ y1.toNat = 256 * e2 := shN_inj _ _ (Nat.xor_lt_two_pow (n := 32) x1 (by omega)) (by omega) 8 (by rw [← d2, shN8_256])
  have t1 : e1 = 256 * e2 + y1.toNat := by
    have := congrArg (· ^^^ y1.toNat) s1
    rw [← xor_mul256 _ _ l1]
    simpa [Nat.xor_assoc] using this
  have s0 : y0.toNat = 256 * e1 := shN_inj _ _ (by omega) (by omega) 8 (by rw [← d1, shN8_256])
  refine ⟨UInt8.toNat_inj.1 ?_, UInt8.toNat_inj.1 ?_, UInt8.toNat_inj.1 ?_, UInt8.toNat_inj.1 ?_⟩ <;> simp <;> omega
/-- Of bytes of which four beside one another were turned. -/
theorem sum_four (p s : List UInt8) (b0 b1 b2 b3 y0 y1 y2 y3 : UInt8) :
    sum (p ++ b0 :: b1 :: b2 :: b3 :: s) = sum (p ++ (b0 ^^^ y0) :: (b1 ^^^ y1) :: (b2 ^^^ y2) :: (b3 ^^^ y3) :: s) ↔ (y0 = 0 ∧ y1 = 0 ∧ y2 = 0 ∧ y3 = 0) := by
  constructor
  · intro h
    unfold sum more neg at h
    have hp := reg_lt p _ (neg_lt 0)
    have r1 := reg_lt (p ++ b0 :: b1 :: b2 :: b3 :: s) _ (neg_lt 0)
    have r2 := reg_lt (p ++ (b0 ^^^ y0) :: (b1 ^^^ y1) :: (b2 ^^^ y2) :: (b3 ^^^ y3) :: s) _ (neg_lt 0)
    unfold neg at hp r1 r2
    have e : reg (4294967295 - 0) (p ++ b0 :: b1 :: b2 :: b3 :: s) = reg (4294967295 - 0) (p ++ (b0 ^^^ y0) :: (b1 ^^^ y1) :: (b2 ^^^ y2) :: (b3 ^^^ y3) :: s) := by omega
    unfold reg at e hp
    rw [List.foldl_append, List.foldl_append] at e
    generalize List.foldl byt (4294967295 - 0) p = q at e hp
    have e1 : reg (reg q [b0, b1, b2, b3]) s = reg (reg q [b0 ^^^ y0, b1 ^^^ y1, b2 ^^^ y2, b3 ^^^ y3]) s := e
    exact four q hp _ _ _ _ _ _ _ _ (reg_inj s _ _ (reg_lt _ _ hp) (reg_lt _ _ hp) e1)
  · rintro ⟨rfl, rfl, rfl, rfl⟩
    simp
end M
end Go.Proofs.YtnkdlnphmfbagaaDoor
