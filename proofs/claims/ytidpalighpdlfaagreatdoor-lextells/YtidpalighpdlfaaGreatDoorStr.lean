/- strings.HasPrefix, CutPrefix, IndexByte, walked; lineSize and behindBlanks of lex. -/
import Derived.Test.YtidpalighpdlfaaGreatDoorRun
import Derived.Lib.Strings
import Derived.Lib.Slices
import Derived.Lib.Walk
import Derived.Lib.Bytealg
namespace Go.Proofs.YtidpalighpdlfaaGreatDoor
open Go.RowKit

set_option maxHeartbeats 1000000 in
theorem pre_in (s p : ByteArray) (w : World) : Calls Tryz.prog 69 #[.string s, .string p] w fun e w' => e = .returned (.bool (Lib.hasPrefix (bts s) (bts p))) ∧ w' = w := by
  have hp : Lib.hasPrefix (bts s) (bts p) = (decide (p.size ≤ s.size) && ((s.extract 0 p.size).toList == p.toList)) := (Lib.hasPrefix_raw s p).symm
  rw [hp]
  go_enter Tryz.func69, Tryz.ntmps69
  go_wp2
  · rename_i h
    go_ret
    refine ⟨?_, rfl⟩
    show Ending.returned (Value.bool ((s.extract 0 p.size).toList == p.toList)) = _
    rw [decide_eq_true h, Bool.true_and]
  · rename_i h
    go_ret
    refine ⟨?_, rfl⟩
    show Ending.returned (Value.bool false) = _
    rw [decide_eq_false (by omega), Bool.false_and]
theorem pre_any (s p : ByteArray) (w : World) : Calls Tryz.prog 57 #[.string s, .string p] w fun e w' => e = .returned (.bool (Lib.hasPrefix (bts s) (bts p))) ∧ w' = w := by
  go_enter Tryz.func57, Tryz.ntmps57
  go_wp2_with fail
  refine (pre_in s p w).mono ?_
  rintro e w' ⟨rfl, rfl⟩
  go_wp2
  go_ret
  exact ⟨rfl, rfl⟩
/-- What is left behind a beginning, and whether it is there. -/
theorem cutp_in (s p : ByteArray) (w : World) : Calls Tryz.prog 66 #[.string s, .string p] w fun e w' => e = .returned (.tuple #[.string (if Lib.hasPrefix (bts s) (bts p) then s.extract p.size s.size else s), .bool (Lib.hasPrefix (bts s) (bts p))]) ∧ w' = w := by
  have hi := pre_in s p w
  have hle : Lib.hasPrefix (bts s) (bts p) = true → p.size ≤ s.size := fun h => by
    have := Lib.hasPrefix_raw s p
    have e : (decide (p.size ≤ s.size) && ((s.extract 0 p.size).toList == p.toList)) = true := this.trans h
    simp only [Bool.and_eq_true, decide_eq_true_eq] at e
    exact e.1
  generalize Lib.hasPrefix (bts s) (bts p) = b at *
  cases b with
  | true =>
    have h := hle rfl
    clear hle
    go_enter Tryz.func66, Tryz.ntmps66
    go_wp2_with fail
    refine hi.mono ?_
    rintro e w' ⟨rfl, rfl⟩
    go_wp2
    go_ret2
    exact ⟨rfl, rfl⟩
  | false =>
    clear hle
    go_enter Tryz.func66, Tryz.ntmps66
    go_wp2_with fail
    refine hi.mono ?_
    rintro e w' ⟨rfl, rfl⟩
    go_wp2
    go_ret2
    exact ⟨rfl, rfl⟩
theorem cutp_any (s p : ByteArray) (w : World) : Calls Tryz.prog 53 #[.string s, .string p] w fun e w' => e = .returned (.tuple #[.string (if Lib.hasPrefix (bts s) (bts p) then s.extract p.size s.size else s), .bool (Lib.hasPrefix (bts s) (bts p))]) ∧ w' = w := by
  have hi := cutp_in s p w
  generalize Lib.hasPrefix (bts s) (bts p) = b at *
  generalize (if b then s.extract p.size s.size else s) = t at *
  go_enter Tryz.func53, Tryz.ntmps53
  go_wp2_with fail
  refine hi.mono ?_
  rintro e w' ⟨rfl, rfl⟩
  go_wp2
  go_ret2
  exact ⟨rfl, rfl⟩
set_option maxHeartbeats 1000000 in
set_option maxRecDepth 100000 in
theorem idxb_in (s : ByteArray) (c : Int) (w : World) : Calls Tryz.prog 63 #[.string s, .int .u8 c] w fun e w' => e = .returned (.int .i64 (Lib.indexByte (bts s) c.toNat.toUInt8)) ∧ w' = w := by
  go_enter Tryz.func63, Tryz.ntmps63
  go_wp2
  rw [run_callFunc_extern Tryz.func80 (by kernel_rfl) (by kernel_rfl) (by kernel_rfl) (e := Extern.BytealgIndexByte.indexByte) (by kernel_rfl), Lib.run_indexByteString]
  simp only [Result.andThen]
  rw [Oper.upon_value]
  go_wp2
  go_ret
  exact ⟨rfl, rfl⟩
theorem idxb_any (s : ByteArray) (c : Int) (w : World) : Calls Tryz.prog 47 #[.string s, .int .u8 c] w fun e w' => e = .returned (.int .i64 (Lib.indexByte (bts s) c.toNat.toUInt8)) ∧ w' = w := by
  have hi := idxb_in s c w
  generalize Lib.indexByte (bts s) c.toNat.toUInt8 = n at *
  go_enter Tryz.func47, Tryz.ntmps47
  go_wp2_with fail
  refine hi.mono ?_
  rintro e w' ⟨rfl, rfl⟩
  go_wp2
  go_ret
  exact ⟨rfl, rfl⟩
end Go.Proofs.YtidpalighpdlfaaGreatDoor
