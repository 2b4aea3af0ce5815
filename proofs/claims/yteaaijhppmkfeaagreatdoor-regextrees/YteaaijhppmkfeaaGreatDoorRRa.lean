/- The reference of stage 6: Bas Rrun Uone Uref Uon. -/
import Derived.WalkKit
import Derived.WalkSpells
import Derived.WalkLawsBesides
import Derived.BigQuiet
import Derived.Laws.BitsLemmas
import Derived.Lib.ConvBytes
import Derived.Test.YteaaijhppmkfeaaGreatDoorRJK
import Derived.Test.YteaaijhppmkfeaaGreatDoorRJH
namespace Go.Proofs.YteaaijhppmkfeaaGreatDoor
open Go.RowKit
set_option maxHeartbeats 1000000 in
theorem letterR_any (c : UInt8) (w : World) : Calls Tryz.prog 111 #[U8 c] w fun e w' => e = .returned (.bool (X.isL c)) ∧ w' = w := by
 have hc := c.toNat_lt
 generalize hr : X.isL c = r
 unfold U8
 go_enter Tryz.func111, Tryz.ntmps111
 go_wp2
 all_goals
   go_ret
   refine ⟨?_, rfl⟩
   subst hr
   simp [X.isL, *]
   first | omega | (rw [Bool.eq_iff_iff]; simp; omega)
theorem digitR_any (c : UInt8) (w : World) : Calls Tryz.prog 113 #[U8 c] w fun e w' => e = .returned (.bool (X.isD c)) ∧ w' = w := by
 have hc := c.toNat_lt
 generalize hr : X.isD c = r
 unfold U8
 go_enter Tryz.func113, Tryz.ntmps113
 go_wp2
 all_goals
   go_ret
   refine ⟨?_, rfl⟩
   subst hr
   simp [X.isD, *]
   first | omega | (rw [Bool.eq_iff_iff]; simp; omega)
namespace M
def acc (r0 : Nat) (bs : List UInt8) : Nat → Nat
 | 0 => r0
 | 1 => r0
 | j + 2 => acc r0 bs (j + 1) * 64 + (bs.getD (j + 1) 0).toNat % 64
def one (bs : List UInt8) : Nat × Nat := if ok (dec bs) = true then dec bs else (0, 0)
end M
namespace M
open Go.Lib
end M
theorem dec_four (l : List UInt8) : M.dec (l.take 4) = M.dec l := by
 unfold M.dec
 have e : ∀ i, i < 4 → (l.take 4).getD i 0 = l.getD i 0 := by
   intro i hi
   rw [List.getD_eq_getElem?_getD, List.getD_eq_getElem?_getD, List.getElem?_take, if_pos hi]
 rw [e 0 (by omega), e 1 (by omega), e 2 (by omega), e 3 (by omega), List.length_take]
 by_cases h : 4 ≤ l.length
 · rw [Nat.min_eq_left h]
   unfold Lib.decodeN
   simp only [eq_true (show 1 < l.length by omega), eq_true (show 2 < l.length by omega), eq_true (show 3 < l.length by omega), eq_true (show 1 < 4 by omega), eq_true (show 2 < 4 by omega), eq_true (show 3 < 4 by omega)]
 · rw [Nat.min_eq_right (by omega)]
end Go.Proofs.YteaaijhppmkfeaaGreatDoor
