/- The small functions on ranges and spans: what each answers; nothing that was there has turned. -/
import Derived.WalkKit
import Derived.WalkSpells
import Derived.WalkLawsBesides
import Derived.BigQuiet
import Derived.Test.YtbkcbclloemajaaProg
import Derived.Test.YtbkcbclloemajaaMath
import Derived.Test.YtbkcbclloemajaaReg
namespace Go.Proofs.Ytbkcbclloemajaa
open Go.RowKit

theorem hide {p : Prop} (h : p) : Hid p := h
/-- One step behind another. -/
theorem nx {w w1 w2 : World} (h : Below w.heap.size w w1) (h1 : Below w1.heap.size w1 w2) : Below w.heap.size w w2 := h.trans (h1.mono h.size)
theorem al1 (w : World) (o : Obj) : Below w.heap.size w (w.alloc o) := (Below.refl _ w).alloc (Nat.le_refl _) _
theorem al2 (w : World) (o o' : Obj) : Below w.heap.size w ((w.alloc o).alloc o') := (al1 w o).alloc (by simp) _

set_option maxHeartbeats 1000000 in
theorem space_any (w : World) : Calls Try.prog 47 #[] w fun e w' => e = .returned (.agg #[.int .i32 0, .int .i32 1114111]) ∧ Below w.heap.size w w' := by
  go_enter Try.func47, Try.ntmps47
  go_wp2
  exact bodyPost_ret (v := .agg #[.int .i32 0, .int .i32 1114111]) (by simp [results, Try.results47, go_sem]) rfl ⟨rfl, al1 w _⟩

set_option maxHeartbeats 1000000 in
theorem spanOf_any (x y : Int) (w : World) : Calls Try.prog 39 #[.agg #[.int .i32 x, .int .i32 y]] w fun e w' => e = .returned (.agg #[.int .i32 x, .int .i32 y]) ∧ Below w.heap.size w w' := by
  go_enter Try.func39, Try.ntmps39
  go_wp2
  exact bodyPost_ret (v := .agg #[.int .i32 x, .int .i32 y]) (by simp [results, Try.results39, go_sem]) rfl ⟨rfl, al2 w _ _⟩

set_option maxHeartbeats 1000000 in
theorem holds_any (a b x y : Int) (w : World) : Calls Try.prog 48 #[.agg #[.int .i32 a, .int .i32 b], .agg #[.int .i32 x, .int .i32 y]] w fun e w' => e = .returned (.bool (decide (a ≤ x) && (decide (x ≤ y) && decide (y ≤ b)))) ∧ Below w.heap.size w w' := by
  generalize hr : (decide (a ≤ x) && (decide (x ≤ y) && decide (y ≤ b))) = r
  go_enter Try.func48, Try.ntmps48
  go_wp2
  all_goals
    go_ret
    refine ⟨?_, al2 w _ _⟩
    subst hr
    simp [*]
    try (intros; omega)

set_option maxHeartbeats 1000000 in
/-- next's first number and the one ahead of it are both behind s: no number wraps round where next's first is. -/
theorem apart_any (a b x y : Int) (h : -2147483648 ≤ b) (hx : -2147483648 ≤ x ∧ x ≤ 2147483647) (w : World) : Calls Try.prog 40 #[.agg #[.int .i32 a, .int .i32 b], .agg #[.int .i32 x, .int .i32 y]] w fun e w' => e = .returned (.bool (decide (b + 1 < x))) ∧ Below w.heap.size w w' := by
  generalize hr : decide (b + 1 < x) = r
  by_cases h1 : b < x
  · have hw : IntKind.i32.wrap (x - 1) = x - 1 := by simp [IntKind.wrap, IntKind.bits, IntKind.signed]; omega
    go_enter Try.func40, Try.ntmps40
    go_wp2
    go_ret
    refine ⟨?_, al2 w _ _⟩
    rw [← hr]
    congr 2
    simp
    omega
  · go_enter Try.func40, Try.ntmps40
    go_wp2
    go_ret
    refine ⟨?_, al2 w _ _⟩
    rw [← hr]
    congr 2
    simp
    omega

set_option maxHeartbeats 1000000 in
theorem isGood_any (x y : Int) (w : World) : Calls Try.prog 38 #[.agg #[.int .i32 x, .int .i32 y]] w fun e w' => e = .returned (.bool (S.good (x, y))) ∧ Below w.heap.size w w' := by
  have h1 := holds_any 0 1114111 x y
  rw [show (decide (0 ≤ x) && (decide (x ≤ y) && decide (y ≤ 1114111))) = S.good (x, y) from rfl] at h1
  generalize S.good (x, y) = r at h1 ⊢
  go_enter Try.func38, Try.ntmps38
  go_wp2_with fail
  have hb0 := al1 w (.cells #[.int .i32 x, .int .i32 y] 48)
  refine Reg.start (B := (w.alloc (.cells #[.int .i32 x, .int .i32 y] 48)).drew.heap.size) (by kernel_rfl) ?_
  refine Reg.take (fun _ _ _ _ _ h => h) 1 _ 4 (.agg #[.int .i32 x, .int .i32 y]) rfl (by kernel_rfl) (by kernel_rfl) (by kernel_rfl) rfl (by kernel_rfl) (by kernel_rfl) (fun wx hb => ?_) ?_
  · have h2 := hb.block w.heap.size (by simp)
    rw [show (w.alloc (.cells #[.int .i32 x, .int .i32 y] 48)).drew.heap[w.heap.size]? = some (.cells #[.int .i32 x, .int .i32 y] 48) from heap_alloc_new w _] at h2
    exact Reg.ld (b := w.heap.size) (off := 0) (cs := [.int .i32 x, .int .i32 y]) rfl (by kernel_rfl) (range_block h2) Try.underlying48 rfl (by kernel_rfl)
  refine Reg.call 0 _ 3 47 _ _ #[] rfl (by kernel_rfl) rfl (by kernel_rfl) (by kernel_rfl) rfl (by kernel_rfl) (by kernel_rfl) (space_any _) ?_
  rintro e w1 ⟨rfl, hb1⟩
  refine ⟨_, w1.heap.size, rfl, hb1.size, hb1, ?_⟩
  refine Reg.call 2 _ 5 39 _ _ #[.agg #[.int .i32 x, .int .i32 y]] rfl (by kernel_rfl) rfl (by kernel_rfl) (by kernel_rfl) rfl (by kernel_rfl) (by kernel_rfl) (spanOf_any x y _) ?_
  rintro e w2 ⟨rfl, hb2⟩
  refine ⟨_, w2.heap.size, rfl, hb2.size, hb2, ?_⟩
  refine Reg.call 3 _ 6 48 _ _ #[.agg #[.int .i32 0, .int .i32 1114111], .agg #[.int .i32 x, .int .i32 y]] rfl (by kernel_rfl) rfl (by kernel_rfl) (by kernel_rfl) rfl (by kernel_rfl) (by kernel_rfl) (h1 _) ?_
  rintro e w3 ⟨rfl, hb3⟩
  refine ⟨_, w3.heap.size, rfl, hb3.size, hb3, ?_⟩
  refine Reg.take (fun _ _ _ _ _ h => h) 4 _ 2 (.bool r) rfl (by kernel_rfl) (by kernel_rfl) (by kernel_rfl) rfl (by kernel_rfl) (by kernel_rfl) (fun _ _ => by kernel_rfl) ?_
  refine Reg.done (by kernel_rfl) ?_
  go_wp2
  refine bodyPost_ret (results_tmp rfl _ _ _) ((Reg.ov_defers _ _).trans rfl) ?_
  exact ⟨congrArg Ending.returned ((Reg.ov_look _ 2 _ (by kernel_rfl)).trans (by kernel_rfl)), nx (nx (nx hb0.drew hb1) hb2) hb3⟩

set_option maxHeartbeats 1000000 in
theorem refGood_any (x y : Int) (w : World) : Calls Try.prog 34 #[.agg #[.int .i32 x, .int .i32 y]] w fun e w' => e = .returned (.bool (S.good (x, y))) ∧ Below w.heap.size w w' := by
  generalize hr : S.good (x, y) = r
  go_enter Try.func34, Try.ntmps34
  go_wp2
  all_goals
    go_ret
    refine ⟨?_, al1 w _⟩
    subst hr
    unfold S.good
    simp [*]
    try (intros; omega)

set_option maxHeartbeats 1000000 in
theorem isNaN_any (x : Int) (w : World) : Calls Try.prog 60 #[.int .i32 x] w fun e w' => e = .returned (.bool false) ∧ w' = w := by
  go_enter Try.func60, Try.ntmps60
  go_wp2
  go_ret
  exact ⟨by simp, rfl⟩

set_option maxHeartbeats 1000000 in
theorem cmp_any (x y : Int) (w : World) : Calls Try.prog 54 #[.int .i32 x, .int .i32 y] w fun e w' => e = .returned (.int .i64 (if x < y then -1 else if y < x then 1 else 0)) ∧ w' = w := by
  generalize hr : (if x < y then (-1 : Int) else if y < x then 1 else 0) = r
  go_enter Try.func54, Try.ntmps54
  go_wp2_with (go_at_call 60; refine (isNaN_any _ _).mono ?_; rintro e w' ⟨rfl, rfl⟩)
  all_goals
    go_ret
    refine ⟨?_, rfl⟩
    rw [← hr]
    congr 2
    simp [*]
    try omega
end Go.Proofs.Ytbkcbclloemajaa
