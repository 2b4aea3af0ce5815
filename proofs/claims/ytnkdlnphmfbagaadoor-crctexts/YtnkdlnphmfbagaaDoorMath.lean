/- Plain facts on the sums of bytes: the register by four shifts at a time, its bounds, its turning. -/
import Derived.Laws.BitsAllLaws
import Derived.Laws.Unary
namespace Go.Proofs.YtnkdlnphmfbagaaDoor
namespace M

/-- What four shifts make of a register below sixteen. -/
def tab (i : Nat) : Nat := ([0, 498536548, 997073096, 651767980, 1994146192, 1802195444, 1303535960, 1342533948, 3988292384, 4027552580, 3604390888, 3412177804, 2607071920, 2262029012, 2685067896, 3183342108] : List Nat).getD i 0
theorem tab_lt (i : Nat) : tab i < 4294967296 := by
  unfold tab
  match i with
  | 0 | 1 | 2 | 3 | 4 | 5 | 6 | 7 | 8 | 9 | 10 | 11 | 12 | 13 | 14 | 15 => simp
  | n + 16 => simp [List.getD]
def nib (q : Nat) : Nat := (q / 16) ^^^ tab (q % 16)
theorem nib_lt (q : Nat) (h : q < 4294967296) : nib q < 4294967296 :=
  Nat.xor_lt_two_pow (n := 32) (by omega) (tab_lt _)
def byt (q : Nat) (c : UInt8) : Nat := nib (nib (q ^^^ c.toNat))
theorem x8_lt (q : Nat) (c : UInt8) (h : q < 4294967296) : q ^^^ c.toNat < 4294967296 :=
  Nat.xor_lt_two_pow (n := 32) (by omega) (by have := c.toNat_lt; omega)
theorem byt_lt (q : Nat) (c : UInt8) (h : q < 4294967296) : byt q c < 4294967296 := nib_lt _ (nib_lt _ (x8_lt q c h))
def reg (q : Nat) (bs : List UInt8) : Nat := bs.foldl byt q
theorem reg_lt (bs : List UInt8) : ∀ (q : Nat), q < 4294967296 → reg q bs < 4294967296 := by
  induction bs with
  | nil => intro q h; exact h
  | cons c bs ih => intro q h; exact ih _ (byt_lt q c h)
def neg (q : Nat) : Nat := 4294967295 - q
theorem neg_lt (q : Nat) : neg q < 4294967296 := by unfold neg; omega
theorem neg_neg (q : Nat) (h : q < 4294967296) : neg (neg q) = q := by unfold neg; omega
def more (s : Nat) (bs : List UInt8) : Nat := neg (reg (neg s) bs)
def sum (bs : List UInt8) : Nat := more 0 bs
theorem more_lt (s : Nat) (bs : List UInt8) : more s bs < 4294967296 := neg_lt _
theorem sum_lt (bs : List UInt8) : sum bs < 4294967296 := neg_lt _
theorem more_append (s : Nat) (as bs : List UInt8) : more (more s as) bs = more s (as ++ bs) := by
  unfold more
  rw [neg_neg _ (reg_lt as _ (neg_lt s))]
  unfold reg
  rw [List.foldl_append]
theorem more_nil (s : Nat) (h : s < 4294967296) : more s [] = s := neg_neg s h
theorem reg_snoc (q : Nat) (bs : List UInt8) (c : UInt8) : reg q (bs ++ [c]) = byt (reg q bs) c := by
  unfold reg; rw [List.foldl_append]; rfl
theorem reg_take (q : Nat) (bs : List UInt8) (k : Nat) (h : k < bs.length) : reg q (bs.take (k + 1)) = byt (reg q (bs.take k)) bs[k] := by
  rw [List.take_succ_eq_append_getElem h, reg_snoc]

/- In the walk's own spelling. -/
theorem w_not (q : Nat) (h : q < 4294967296) : bits .xor .u32 IntKind.u32.max (q : Int) = ((neg q : Nat) : Int) := by
  have e : IntKind.u32.max = ((4294967295 : Nat) : Int) := by decide
  rw [e, u32_xor_nat _ _ (by omega) h]
  congr 1
  unfold neg
  apply Nat.eq_of_testBit_eq
  intro i
  rw [Nat.testBit_xor, show 4294967295 - q = 2 ^ 32 - (q + 1) from by omega, Nat.testBit_two_pow_sub_succ (by omega), show (4294967295 : Nat) = 2 ^ 32 - 1 from by omega, Nat.testBit_two_pow_sub_one]
  by_cases hi : i < 32
  · simp [hi]
  · have : q.testBit i = false := Nat.testBit_lt_two_pow (Nat.lt_of_lt_of_le h (Nat.pow_le_pow_right (n := 2) (by omega) (show 32 ≤ i by omega)))
    simp [hi, this]
theorem w_x8 (q : Nat) (c : UInt8) (h : q < 4294967296) : bits .xor .u32 (q : Int) ((c.toNat : Int) % 4294967296) = ((q ^^^ c.toNat : Nat) : Int) := by
  have hc := c.toNat_lt
  rw [show ((c.toNat : Int) % 4294967296) = ((c.toNat : Nat) : Int) from by omega]
  exact u32_xor_nat _ _ h (by omega)
theorem w_and (q : Nat) (h : q < 4294967296) : bits .and .u32 (q : Int) 15 = ((q % 16 : Nat) : Int) := by
  have := u32_and_nat q 15 h (by omega)
  rw [show ((15 : Nat) : Int) = 15 from rfl] at this
  rw [this]
  congr 1
  exact Nat.and_two_pow_sub_one_eq_mod q 4
theorem w_nib (q d : Nat) (h : q < 4294967296) (hd : q % 16 = d) : bits .xor .u32 ((q : Int) / 16) ((tab d : Nat) : Int) = ((nib q : Nat) : Int) := by
  rw [show ((q : Int) / 16) = ((q / 16 : Nat) : Int) from by omega]
  rw [u32_xor_nat _ _ (by omega) (tab_lt d)]
  unfold nib; rw [hd]
end M
end Go.Proofs.YtnkdlnphmfbagaaDoor
