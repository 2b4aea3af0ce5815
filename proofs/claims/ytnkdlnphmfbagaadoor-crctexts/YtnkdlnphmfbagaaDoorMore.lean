/- What crc.More and crc.Sum answer: the register, moved on by four shifts twice a byte, over whatever bytes. -/
import Derived.Test.YtnkdlnphmfbagaaDoorProg
import Derived.Test.YtnkdlnphmfbagaaDoorMath
import Derived.WalkKit
import Derived.WalkSpells
import Derived.WalkLawsBesides
namespace Go.Proofs.YtnkdlnphmfbagaaDoor
open Go.RowKit

/-- The table lies in the first block. -/
def Tab (w : World) : Prop := ∀ i, i < 16 → w.cell? ⟨0, i, none⟩ = some (.int .u32 ((M.tab i : Nat) : Int))

/-- The slice reads as these bytes. -/
def Rd (w : World) (ao : Option Addr) (bs : List UInt8) : Prop :=
  ∀ i (h : i < bs.length), ∃ b off, ao = some ⟨b, off, none⟩ ∧ w.cell? ⟨b, off + i, none⟩ = some (.int .u8 (bs[i].toNat : Int))

set_option maxHeartbeats 400000 in
theorem more_any (s : Nat) (hs : s < 4294967296) (ao : Option Addr) (cap : Nat) (bs : List UInt8) (w : World) (hl : bs.length ≤ 1000000)
    (ht : Tab w) (hc : Rd w ao bs) :
    Calls Tryd.prog 14 #[.int .u32 s, .slice ao bs.length cap] w fun e w' => e = .returned (.int .u32 (M.more s bs : Nat)) ∧ w = w' := by
  have e0 := M.w_not s hs
  go_enter Tryd.func14, Tryd.ntmps14
  go_wp2
  go_loop [5, 12] (fun r i => ∃ k : Nat, k ≤ bs.length ∧ i = .int .i64 k ∧ r = .int .u32 (M.reg (M.neg s) (bs.take k) : Nat)) (fun _ i => bs.length - (intOf i).toNat)
  case atStart => exact ⟨0, Nat.zero_le _, rfl, rfl⟩
  case round =>
    obtain ⟨k, hk, rfl, rfl⟩ := hrel
    have hq := M.reg_lt (bs.take k) _ (M.neg_lt s)
    by_cases hlt : k < bs.length
    · have HS : Hid (M.reg (M.neg s) (bs.take (k + 1)) = M.byt (M.reg (M.neg s) (bs.take k)) bs[k]) := M.reg_take _ _ _ hlt
      generalize M.reg (M.neg s) (bs.take k) = q at *
      obtain ⟨b, off, rfl, hcell⟩ := hc k hlt
      clear hc
      generalize bs[k] = c at *
      have e1 := M.w_x8 q c hq
      have h1 := M.x8_lt q c hq
      have HS1 : Hid (M.reg (M.neg s) (bs.take (k + 1)) = M.nib (M.nib (q ^^^ c.toNat))) := HS
      clear HS
      generalize q ^^^ c.toNat = q1 at *
      have e2 := M.w_and q1 h1
      have hd1 : q1 % 16 < 16 := Nat.mod_lt _ (by omega)
      have c1 := ht _ hd1
      have e3 := M.w_nib q1 _ h1 rfl
      have h2 := M.nib_lt q1 h1
      generalize M.nib q1 = q2 at *
      generalize q1 % 16 = d1 at *
      have e4 := M.w_and q2 h2
      have hd2 : q2 % 16 < 16 := Nat.mod_lt _ (by omega)
      have c2 := ht _ hd2
      have e5 := M.w_nib q2 _ h2 rfl
      have h3 := M.nib_lt q2 h2
      generalize M.nib q2 = q3 at *
      generalize q2 % 16 = d2 at *
      clear ht
      go_wp2
      go_round
      case rel => exact ⟨k + 1, by omega, by go_num, by rw [HS1.out]⟩
      case measure => simp [intOf]; omega
    · have e6 := M.w_not _ hq
      have HT : Hid (bs.take k = bs) := List.take_of_length_le (by omega)
      have HM : Hid (M.neg (M.reg (M.neg s) (bs.take k)) = M.more s bs) := by rw [HT.out]; rfl
      go_wp2
      go_ret
      exact ⟨by rw [← HM.out]; rfl, rfl⟩

theorem sum_any (ao : Option Addr) (cap : Nat) (bs : List UInt8) (w : World) (hl : bs.length ≤ 1000000) (ht : Tab w) (hc : Rd w ao bs) :
    Calls Tryd.prog 12 #[.slice ao bs.length cap] w fun e w' => e = .returned (.int .u32 (M.sum bs : Nat)) ∧ w = w' := by
  go_enter Tryd.func12, Tryd.ntmps12
  go_wp2_with fail
  refine (more_any 0 (by omega) ao cap bs w hl ht hc).mono ?_
  rintro e w' ⟨rfl, rfl⟩
  go_wp2
  go_ret
  exact ⟨rfl, rfl⟩

theorem ret_int {k : IntKind} {a b : Int} (h : a = b) : Ending.returned (.int k a) = .returned (.int k b) := by rw [h]
/-- A number of bytes, held from 0 to 8. -/
def M.held (n : Int) : Nat := (min (max n 0) 8).toNat
theorem M.held_le (n : Int) : M.held n ≤ 8 := by unfold M.held; omega
theorem held_any (n : Int) (w : World) :
    Calls Tryd.prog 21 #[.int .i64 n] w fun e w' => e = .returned (.int .i64 (M.held n : Nat)) ∧ w = w' := by
  have H : Hid (((M.held n : Nat) : Int) = min (max n 0) 8) := by show _ = _; unfold M.held; omega
  go_enter Tryd.func21, Tryd.ntmps21
  go_wp2
  all_goals
    go_ret
    refine ⟨ret_int ?_, rfl⟩
    rw [H.out]
    split at * <;> omega
end Go.Proofs.YtnkdlnphmfbagaaDoor
