/- The walk of CrcTells: it answers true whatever the bytes, the number and how many bytes; nothing that was there has turned. -/
import Derived.Test.YtnkdlnphmfbagaaDoorApp
import Derived.Test.YtnkdlnphmfbagaaDoorRef
import Derived.Test.YtnkdlnphmfbagaaDoorReg
import Derived.WalkSmall
namespace Go.Proofs.YtnkdlnphmfbagaaDoor
open Go.RowKit

set_option maxHeartbeats 4000000 in
theorem tells_any (aoA : Option Addr) (capA : Nat) (xs : List UInt8) (aoB : Option Addr) (capB : Nat) (ys : List UInt8) (n : Nat) (hn : n < 18446744073709551616) (W : Int) (w : World) (ht : Tab w)
    (hxm : xs.length ≤ 9223372036854775807) (hym : ys.length ≤ 9223372036854775807) (hcA : xs.length ≤ capA) (hrA : Rd w aoA xs) (hnA : aoA = none → capA = 0) (hrB : Rd w aoB ys) (hnB : aoB = none → capB = 0) :
    Calls Tryd.prog 3 #[.slice aoA xs.length capA, .slice aoB ys.length capB, .int .u64 n, .int .i64 W] w fun e w' => e = .returned (.bool true) ∧ Below w.heap.size w w' := by
  by_cases hx : 300 < xs.length
  · go_enter Tryd.func3, Tryd.ntmps3
    go_wp2_with fail
    refine (known_any w ht).mono ?_
    rintro e w1 ⟨rfl, hb⟩
    go_wp2
    go_ret
    exact ⟨rfl, hb⟩
  by_cases hy : 300 < ys.length
  · go_enter Tryd.func3, Tryd.ntmps3
    go_wp2_with fail
    refine (known_any w ht).mono ?_
    rintro e w1 ⟨rfl, hb⟩
    go_wp2
    go_ret
    exact ⟨rfl, hb⟩
  go_enter Tryd.func3, Tryd.ntmps3
  go_wp2_with fail
  refine (known_any w ht).mono ?_
  rintro e w1 ⟨rfl, hB1⟩
  have ht1 := ht.later hB1
  have hrA1 := hrA.later hB1
  have hrB1 := hrB.later hB1
  clear ht hrA hrB
  go_wp2_with (at_builtin; refine wpl_app rfl _ _ rfl w1.heap.size (.slice none 0 0) [] aoA xs capA rfl rfl (own_nil _) (Nat.le_refl _) hrA1 hnA (by simp; omega) ?_)
  intro v2 w2 ho2 hb2
  obtain ⟨ao2, cap2, rfl, hle2, hr2⟩ := ho2.rd
  have hB2 : Below w.heap.size w w2 := hB1.trans (hb2.mono hB1.size)
  have ht2 := ht1.later hb2
  have hrA2 := hrA1.later hb2
  have hrB2 := hrB1.later hb2
  clear hb2 ho2 ht1 hrA1 hrB1
  by_cases hs : xs.length < M.held W
  · go_wp2_with fail
    refine (get_short ao2 cap2 xs W w2 (by omega) hr2 hs).mono ?_
    rintro e w3 ⟨ao3, cap3, rfl, _, hr3, hb3⟩
    have hB3 : Below w.heap.size w w3 := hB2.trans (hb3.mono hB2.size)
    have ht3 := ht2.later hb3
    have hrA3 := hrA2.later hb3
    have hrB3 := hrB2.later hb3
    clear hb3 ht2 hrA2 hrB2 hr2
    go_wp2_with fail
    refine (rget_short aoA capA xs W w3 hs (by omega)).mono ?_
    rintro e w4 ⟨rfl, rfl⟩
    obtain ⟨zs, hzs⟩ : ∃ zs, zs = xs ++ ys := ⟨_, rfl⟩
    have HM : Hid (M.more (M.sum xs) ys = M.sum zs) := by show _ = _; rw [hzs]; unfold M.sum; rw [M.more_append]
    have HZ : Hid (zs = xs ++ ys) := hzs
    have hzl : zs.length ≤ 1000000 := by rw [hzs, List.length_append]; omega
    clear hzs
    go_wp2_with fail
    refine Reg.start (B := w3.drew.heap.size) (by kernel_rfl) ?_
    obtain ⟨wa, hwa⟩ : ∃ wa, wa = w3.drew := ⟨_, rfl⟩
    rw [← hwa]
    have hBa : Below w.heap.size w wa := by rw [hwa]; exact hB3.drew
    have ht : Tab wa := by rw [hwa]; exact ht3
    have hA : Rd wa aoA xs := by rw [hwa]; exact hrA3
    have hBy : Rd wa aoB ys := by rw [hwa]; exact hrB3
    have hC : Rd wa ao3 xs := by rw [hwa]; exact hr3
    clear hwa ht3 hrA3 hrB3 hr3
    have hA0 := hA
    have hBy0 := hBy
    have hC0 := hC
    have ht0 := ht
    refine Reg.take (fun _ _ _ _ _ h => h) 0 _ 43 (.slice aoA xs.length capA) rfl (by kernel_rfl) (by kernel_rfl) (by kernel_rfl) rfl (by kernel_rfl) (by kernel_rfl) (fun _ _ => by kernel_rfl) ?_
    refine Reg.take (fun _ _ _ _ _ h => h) 2 _ 45 (.slice aoA xs.length capA) rfl (by kernel_rfl) (by kernel_rfl) (by kernel_rfl) rfl (by kernel_rfl) (by kernel_rfl) (fun _ _ => by kernel_rfl) ?_
    refine Reg.call 1 _ 44 12 _ _ #[.slice aoA xs.length capA] rfl (by kernel_rfl) rfl (by kernel_rfl) (by kernel_rfl) rfl (by kernel_rfl) (by kernel_rfl) (sum_any aoA capA xs wa (by omega) ht hA) ?_
    rintro e w' ⟨rfl, rfl⟩
    refine ⟨_, _, rfl, Nat.le_refl _, Below.refl _ _, ?_⟩
    refine Reg.call 3 _ 46 13 _ _ #[.slice aoA xs.length capA] rfl (by kernel_rfl) rfl (by kernel_rfl) (by kernel_rfl) rfl (by kernel_rfl) (by kernel_rfl) (rsum_any aoA capA xs wa (by omega) hA) ?_
    rintro e w' ⟨rfl, rfl⟩
    refine ⟨_, _, rfl, Nat.le_refl _, Below.refl _ _, ?_⟩
    refine Reg.take (fun _ _ _ _ _ h => h) 4 _ 47 (.bool true) rfl (by kernel_rfl) (by kernel_rfl) (by kernel_rfl) rfl (by kernel_rfl) (by kernel_rfl) (fun _ _ => Reg.eqI (k := .u32) (m := ((M.sum xs : Nat) : Int)) rfl (by kernel_rfl) (by kernel_rfl)) ?_
    refine Reg.take (fun _ _ _ _ _ h => h) 5 _ 48 (.bool true) rfl (by kernel_rfl) (by kernel_rfl) (by kernel_rfl) rfl (by kernel_rfl) (by kernel_rfl) (fun _ _ => by kernel_rfl) ?_
    refine Reg.take (fun _ _ _ _ _ h => h) 6 _ 49 (.slice aoA xs.length capA) rfl (by kernel_rfl) (by kernel_rfl) (by kernel_rfl) rfl (by kernel_rfl) (by kernel_rfl) (fun _ _ => by kernel_rfl) ?_
    refine Reg.take (fun _ _ _ _ _ h => h) 8 _ 51 (.slice aoB ys.length capB) rfl (by kernel_rfl) (by kernel_rfl) (by kernel_rfl) rfl (by kernel_rfl) (by kernel_rfl) (fun _ _ => by kernel_rfl) ?_
    refine Reg.take (fun _ _ _ _ _ h => h) 10 _ 53 (.slice aoA xs.length capA) rfl (by kernel_rfl) (by kernel_rfl) (by kernel_rfl) rfl (by kernel_rfl) (by kernel_rfl) (fun _ _ => by kernel_rfl) ?_
    refine Reg.take (fun _ _ _ _ _ h => h) 12 _ 55 (.slice aoB ys.length capB) rfl (by kernel_rfl) (by kernel_rfl) (by kernel_rfl) rfl (by kernel_rfl) (by kernel_rfl) (fun _ _ => by kernel_rfl) ?_
    refine Reg.call 7 _ 50 12 _ _ #[.slice aoA xs.length capA] rfl (by kernel_rfl) rfl (by kernel_rfl) (by kernel_rfl) rfl (by kernel_rfl) (by kernel_rfl) (sum_any aoA capA xs wa (by omega) ht hA) ?_
    rintro e w' ⟨rfl, rfl⟩
    refine ⟨_, _, rfl, Nat.le_refl _, Below.refl _ _, ?_⟩
    refine Reg.call 9 _ 52 14 _ _ #[.int .u32 (((M.sum xs : Nat) : Int)), .slice aoB ys.length capB] rfl (by kernel_rfl) rfl (by kernel_rfl) (by kernel_rfl) rfl (by kernel_rfl) (by kernel_rfl) (more_any (M.sum xs) (M.sum_lt _) aoB capB ys wa (by omega) ht hBy) ?_
    rintro e w' ⟨rfl, rfl⟩
    refine ⟨_, _, congrArg (fun n : Nat => Ending.returned (.int .u32 (n : Int))) HM.out, Nat.le_refl _, Below.refl _ _, ?_⟩
    obtain ⟨v54, w54, hrun54, ho54, hb54⟩ := run_app wa wa.heap.size (.slice none 0 0) [] aoA xs capA 22 (own_nil _) (Nat.le_refl _) hA hnA (by simp; omega)
    rw [List.nil_append] at ho54
    obtain ⟨ao54, cap54, rfl, _, hr54⟩ := ho54.rd
    refine Reg.only 11 _ 54 rfl (by kernel_rfl) rfl (by kernel_rfl) (by kernel_rfl) ⟨_, _, wa.heap.size, Reg.app rfl (by kernel_rfl) (by kernel_rfl) hrun54, Nat.le_refl _, hb54, ?_⟩
    replace hA := hA.later hb54
    replace hBy := hBy.later hb54
    replace hC := hC.later hb54
    replace ht := ht.later hb54
    obtain ⟨v56, w56, hrun56, ho56, hb56⟩ := run_app w54 wa.heap.size (.slice ao54 xs.length cap54) xs aoB ys capB 22 ho54 hb54.size hBy hnB (by omega)
    rw [← HZ.out] at ho56
    obtain ⟨ao56, cap56, rfl, _, hr56⟩ := ho56.rd
    refine Reg.only 13 _ 56 rfl (by kernel_rfl) rfl (by kernel_rfl) (by kernel_rfl) ⟨_, _, w56.heap.size, Reg.app rfl (by kernel_rfl) (by kernel_rfl) hrun56, Nat.le_trans hb54.size hb56.size, hb56, ?_⟩
    have hbb := hb54.trans hb56
    replace hA := hA0.later hbb
    replace hBy := hBy0.later hbb
    replace hC := hC0.later hbb
    replace ht := ht0.later hbb
    refine Reg.call 14 _ 57 13 _ _ #[.slice ao56 zs.length cap56] rfl (by kernel_rfl) rfl (by kernel_rfl) (by kernel_rfl) rfl (by kernel_rfl) (by kernel_rfl) (rsum_any ao56 cap56 zs w56 (by omega) hr56) ?_
    rintro e w' ⟨rfl, rfl⟩
    refine ⟨_, _, rfl, Nat.le_refl _, Below.refl _ _, ?_⟩
    refine Reg.take (fun _ _ _ _ _ h => h) 15 _ 58 (.bool true) rfl (by kernel_rfl) (by kernel_rfl) (by kernel_rfl) rfl (by kernel_rfl) (by kernel_rfl) (fun _ _ => Reg.eqI (k := .u32) (m := ((M.sum zs : Nat) : Int)) rfl (by kernel_rfl) (by kernel_rfl)) ?_
    refine Reg.take (fun _ _ _ _ _ h => h) 16 _ 59 (.bool true) rfl (by kernel_rfl) (by kernel_rfl) (by kernel_rfl) rfl (by kernel_rfl) (by kernel_rfl) (fun _ _ => by kernel_rfl) ?_
    refine Reg.take (fun _ _ _ _ _ h => h) 17 _ 60 (.bool true) rfl (by kernel_rfl) (by kernel_rfl) (by kernel_rfl) rfl (by kernel_rfl) (by kernel_rfl) (fun _ _ => by kernel_rfl) ?_
    refine Reg.take (fun _ _ _ _ _ h => h) 18 _ 61 (.slice aoB ys.length capB) rfl (by kernel_rfl) (by kernel_rfl) (by kernel_rfl) rfl (by kernel_rfl) (by kernel_rfl) (fun _ _ => by kernel_rfl) ?_
    refine Reg.take (fun _ _ _ _ _ h => h) 20 _ 63 (.int .u64 ((n : Int))) rfl (by kernel_rfl) (by kernel_rfl) (by kernel_rfl) rfl (by kernel_rfl) (by kernel_rfl) (fun _ _ => by kernel_rfl) ?_
    refine Reg.take (fun _ _ _ _ _ h => h) 21 _ 64 (.int .i64 (W)) rfl (by kernel_rfl) (by kernel_rfl) (by kernel_rfl) rfl (by kernel_rfl) (by kernel_rfl) (fun _ _ => by kernel_rfl) ?_
    refine Reg.take (fun _ _ _ _ _ h => h) 24 _ 67 (.slice aoB ys.length capB) rfl (by kernel_rfl) (by kernel_rfl) (by kernel_rfl) rfl (by kernel_rfl) (by kernel_rfl) (fun _ _ => by kernel_rfl) ?_
    refine Reg.take (fun _ _ _ _ _ h => h) 26 _ 69 (.int .u64 ((n : Int))) rfl (by kernel_rfl) (by kernel_rfl) (by kernel_rfl) rfl (by kernel_rfl) (by kernel_rfl) (fun _ _ => by kernel_rfl) ?_
    refine Reg.take (fun _ _ _ _ _ h => h) 27 _ 70 (.int .i64 (W)) rfl (by kernel_rfl) (by kernel_rfl) (by kernel_rfl) rfl (by kernel_rfl) (by kernel_rfl) (fun _ _ => by kernel_rfl) ?_
    obtain ⟨v62, w62, hrun62, ho62, hb62⟩ := run_app w56 w56.heap.size (.slice none 0 0) [] aoB ys capB 22 (own_nil _) (Nat.le_refl _) hBy hnB (by simp; omega)
    rw [List.nil_append] at ho62
    obtain ⟨ao62, cap62, rfl, _, hr62⟩ := ho62.rd
    refine Reg.only 19 _ 62 rfl (by kernel_rfl) rfl (by kernel_rfl) (by kernel_rfl) ⟨_, _, w62.heap.size, Reg.app rfl (by kernel_rfl) (by kernel_rfl) hrun62, hb62.size, hb62, ?_⟩
    replace hA := hA.later hb62
    replace hBy := hBy.later hb62
    replace hC := hC.later hb62
    replace hr56 := hr56.later hb62
    replace ht := ht.later hb62
    refine Reg.call 22 _ 65 15 _ _ #[.slice ao62 ys.length cap62, .int .u64 ((n : Int)), .int .i64 (W)] rfl (by kernel_rfl) rfl (by kernel_rfl) (by kernel_rfl) rfl (by kernel_rfl) (by kernel_rfl) (put_any ao62 cap62 ys n hn W w62 (by omega) hr62) ?_
    rintro e w65 ⟨ao65, cap65, zp, hzp, rfl, _, _, hr65, hb65⟩
    have HP := hide hzp
    clear hzp
    refine ⟨_, w65.heap.size, rfl, hb65.size, hb65, ?_⟩
    replace hA := hA.later hb65
    replace hBy := hBy.later hb65
    replace hC := hC.later hb65
    replace hr56 := hr56.later hb65
    replace hr62 := hr62.later hb65
    replace ht := ht.later hb65
    have hA1 := hA
    have hBy1 := hBy
    have hC1 := hC
    have hr561 := hr56
    have hr621 := hr62
    have hr651 := hr65
    refine Reg.take (fun _ _ _ _ _ h => h) 23 _ 66 (.string ⟨zp.toArray⟩) rfl (by kernel_rfl) (by kernel_rfl) (by kernel_rfl) rfl (by kernel_rfl) (by kernel_rfl) (fun w' hb => Reg.cvt rfl (u := .slice ao65 zp.length cap65) (by kernel_rfl) (conv_any w' ao65 zp cap65 (hr65.later hb))) ?_
    obtain ⟨v68, w68, hrun68, ho68, hb68⟩ := run_app w65 w65.heap.size (.slice none 0 0) [] aoB ys capB 22 (own_nil _) (Nat.le_refl _) hBy hnB (by simp; omega)
    rw [List.nil_append] at ho68
    obtain ⟨ao68, cap68, rfl, _, hr68⟩ := ho68.rd
    refine Reg.only 25 _ 68 rfl (by kernel_rfl) rfl (by kernel_rfl) (by kernel_rfl) ⟨_, _, w65.heap.size, Reg.app rfl (by kernel_rfl) (by kernel_rfl) hrun68, Nat.le_refl _, hb68, ?_⟩
    replace hA := hA.later hb68
    replace hBy := hBy.later hb68
    replace hC := hC.later hb68
    replace hr56 := hr56.later hb68
    replace hr62 := hr62.later hb68
    replace hr65 := hr65.later hb68
    replace ht := ht.later hb68
    refine Reg.call 28 _ 71 16 _ _ #[.slice ao68 ys.length cap68, .int .u64 ((n : Int)), .int .i64 (W)] rfl (by kernel_rfl) rfl (by kernel_rfl) (by kernel_rfl) rfl (by kernel_rfl) (by kernel_rfl) (rput_any _ n hn W w65.heap.size ys (by omega) w68 hb68.size ho68) ?_
    rintro e w71 ⟨v71, rfl, ho71, hb71⟩
    rw [← HP.out] at ho71
    obtain ⟨ao71, cap71, rfl, _, hr71⟩ := ho71.rd
    refine ⟨_, w71.heap.size, rfl, Nat.le_trans hb68.size hb71.size, hb71, ?_⟩
    have hbc := hb68.trans hb71
    replace hA := hA1.later hbc
    replace hBy := hBy1.later hbc
    replace hC := hC1.later hbc
    replace hr56 := hr561.later hbc
    replace hr62 := hr621.later hbc
    replace hr65 := hr651.later hbc
    refine Reg.take (fun _ _ _ _ _ h => h) 29 _ 72 (.string ⟨zp.toArray⟩) rfl (by kernel_rfl) (by kernel_rfl) (by kernel_rfl) rfl (by kernel_rfl) (by kernel_rfl) (fun w' hb => Reg.cvt rfl (u := .slice ao71 zp.length cap71) (by kernel_rfl) (conv_any w' ao71 zp cap71 (hr71.later hb))) ?_
    refine Reg.take (fun _ _ _ _ _ h => h) 30 _ 73 (.bool true) rfl (by kernel_rfl) (by kernel_rfl) (by kernel_rfl) rfl (by kernel_rfl) (by kernel_rfl) (fun _ _ => Reg.eqS (s := ⟨zp.toArray⟩) rfl (by kernel_rfl) (by kernel_rfl)) ?_
    refine Reg.take (fun _ _ _ _ _ h => h) 31 _ 74 (.bool true) rfl (by kernel_rfl) (by kernel_rfl) (by kernel_rfl) rfl (by kernel_rfl) (by kernel_rfl) (fun _ _ => by kernel_rfl) ?_
    refine Reg.take (fun _ _ _ _ _ h => h) 32 _ 75 (.bool true) rfl (by kernel_rfl) (by kernel_rfl) (by kernel_rfl) rfl (by kernel_rfl) (by kernel_rfl) (fun _ _ => by kernel_rfl) ?_
    refine Reg.take (fun _ _ _ _ _ h => h) 33 _ 76 (.int .u64 (0)) rfl (by kernel_rfl) (by kernel_rfl) (by kernel_rfl) rfl (by kernel_rfl) (by kernel_rfl) (fun _ _ => by kernel_rfl) ?_
    refine Reg.take (fun _ _ _ _ _ h => h) 34 _ 77 (.int .u64 (0)) rfl (by kernel_rfl) (by kernel_rfl) (by kernel_rfl) rfl (by kernel_rfl) (by kernel_rfl) (fun _ _ => by kernel_rfl) ?_
    refine Reg.take (fun _ _ _ _ _ h => h) 35 _ 78 (.bool true) rfl (by kernel_rfl) (by kernel_rfl) (by kernel_rfl) rfl (by kernel_rfl) (by kernel_rfl) (fun _ _ => Reg.eqI (k := .u64) (m := 0) rfl (by kernel_rfl) (by kernel_rfl)) ?_
    refine Reg.take (fun _ _ _ _ _ h => h) 36 _ 79 (.bool true) rfl (by kernel_rfl) (by kernel_rfl) (by kernel_rfl) rfl (by kernel_rfl) (by kernel_rfl) (fun _ _ => by kernel_rfl) ?_
    refine Reg.take (fun _ _ _ _ _ h => h) 37 _ 80 (.bool true) rfl (by kernel_rfl) (by kernel_rfl) (by kernel_rfl) rfl (by kernel_rfl) (by kernel_rfl) (fun _ _ => by kernel_rfl) ?_
    refine Reg.take (fun _ _ _ _ _ h => h) 38 _ 81 (.int .i64 (10)) rfl (by kernel_rfl) (by kernel_rfl) (by kernel_rfl) rfl (by kernel_rfl) (by kernel_rfl) (fun _ _ => by kernel_rfl) ?_
    refine Reg.take (fun _ _ _ _ _ h => h) 39 _ 82 (.int .i64 (10)) rfl (by kernel_rfl) (by kernel_rfl) (by kernel_rfl) rfl (by kernel_rfl) (by kernel_rfl) (fun _ _ => by kernel_rfl) ?_
    refine Reg.take (fun _ _ _ _ _ h => h) 40 _ 83 (.bool true) rfl (by kernel_rfl) (by kernel_rfl) (by kernel_rfl) rfl (by kernel_rfl) (by kernel_rfl) (fun _ _ => Reg.eqI (k := .i64) (m := 10) rfl (by kernel_rfl) (by kernel_rfl)) ?_
    refine Reg.take (fun _ _ _ _ _ h => h) 41 _ 84 (.bool true) rfl (by kernel_rfl) (by kernel_rfl) (by kernel_rfl) rfl (by kernel_rfl) (by kernel_rfl) (fun _ _ => by kernel_rfl) ?_
    refine Reg.take (fun _ _ _ _ _ h => h) 42 _ 85 (.bool true) rfl (by kernel_rfl) (by kernel_rfl) (by kernel_rfl) rfl (by kernel_rfl) (by kernel_rfl) (fun _ _ => by kernel_rfl) ?_
    refine Reg.take (fun _ _ _ _ _ h => h) 43 _ 86 (.slice ao3 xs.length cap3) rfl (by kernel_rfl) (by kernel_rfl) (by kernel_rfl) rfl (by kernel_rfl) (by kernel_rfl) (fun _ _ => by kernel_rfl) ?_
    refine Reg.take (fun _ _ _ _ _ h => h) 44 _ 87 (.string ⟨xs.toArray⟩) rfl (by kernel_rfl) (by kernel_rfl) (by kernel_rfl) rfl (by kernel_rfl) (by kernel_rfl) (fun w' hb => Reg.cvt rfl (u := .slice ao3 xs.length cap3) (by kernel_rfl) (conv_any w' ao3 xs cap3 (hC.later hb))) ?_
    refine Reg.take (fun _ _ _ _ _ h => h) 45 _ 88 (.slice aoA xs.length capA) rfl (by kernel_rfl) (by kernel_rfl) (by kernel_rfl) rfl (by kernel_rfl) (by kernel_rfl) (fun _ _ => by kernel_rfl) ?_
    refine Reg.take (fun _ _ _ _ _ h => h) 46 _ 89 (.string ⟨xs.toArray⟩) rfl (by kernel_rfl) (by kernel_rfl) (by kernel_rfl) rfl (by kernel_rfl) (by kernel_rfl) (fun w' hb => Reg.cvt rfl (u := .slice aoA xs.length capA) (by kernel_rfl) (conv_any w' aoA xs capA (hA.later hb))) ?_
    refine Reg.take (fun _ _ _ _ _ h => h) 47 _ 90 (.bool true) rfl (by kernel_rfl) (by kernel_rfl) (by kernel_rfl) rfl (by kernel_rfl) (by kernel_rfl) (fun _ _ => Reg.eqS (s := ⟨xs.toArray⟩) rfl (by kernel_rfl) (by kernel_rfl)) ?_
    refine Reg.take (fun _ _ _ _ _ h => h) 48 _ 91 (.bool true) rfl (by kernel_rfl) (by kernel_rfl) (by kernel_rfl) rfl (by kernel_rfl) (by kernel_rfl) (fun _ _ => by kernel_rfl) ?_
    refine Reg.take (fun _ _ _ _ _ h => h) 49 _ 8 (.bool true) rfl (by kernel_rfl) (by kernel_rfl) (by kernel_rfl) rfl (by kernel_rfl) (by kernel_rfl) (fun _ _ => by kernel_rfl) ?_
    refine Reg.done (by kernel_rfl) ?_
    have hBend : Below w.heap.size w w71 := by
      refine hBa.trans ?_
      refine (hbb.mono hBa.size).trans ?_
      refine (hb62.mono (Nat.le_trans hBa.size hbb.size)).trans ?_
      refine (hb65.mono (Nat.le_trans (Nat.le_trans hBa.size hbb.size) hb62.size)).trans ?_
      exact hbc.mono (Nat.le_trans (Nat.le_trans (Nat.le_trans hBa.size hbb.size) hb62.size) hb65.size)
    go_wp2
    refine bodyPost_ret (results_tmp rfl _ _ _) ((Reg.ov_defers _ _).trans rfl) ?_
    exact ⟨congrArg Ending.returned ((Reg.ov_look _ 8 _ (by kernel_rfl)).trans (by kernel_rfl)), hBend⟩
  · go_wp2_with fail
    refine (get_ok ao2 cap2 xs W w2 (by omega) hle2 hr2 (by omega)).mono ?_
    rintro e w3 ⟨ao3, cap3, zr, hzr, rfl, _, _, hr3, hb3⟩
    have HR0 := hide hzr
    clear hzr
    have hB3 : Below w.heap.size w w3 := hB2.trans (hb3.mono hB2.size)
    have ht3 := ht2.later hb3
    have hrA3 := hrA2.later hb3
    have hrB3 := hrB2.later hb3
    clear hb3 ht2 hrA2 hrB2 hr2
    go_wp2_with fail
    refine (rget_ok aoA capA xs W w3 (by omega) hcA hrA3 (by omega)).mono ?_
    rintro e w4 ⟨ao4, cap4, zr', nq, hzr', rfl, _, hr4, hw4⟩
    rw [← HR0.out] at hzr'
    subst hzr'
    have hB4 : Below w.heap.size w w4 := by rw [hw4]; exact below_drewN hB3 nq
    have ht4 : Tab w4 := by rw [hw4]; exact ht3
    have hrA4 : Rd w4 aoA xs := by rw [hw4]; exact hrA3
    have hrB4 : Rd w4 aoB ys := by rw [hw4]; exact hrB3
    have hr34 : Rd w4 ao3 zr' := by rw [hw4]; exact hr3
    have hr44 : Rd w4 ao4 zr' := by rw [hw4]; exact hr4
    clear hw4 ht3 hrA3 hrB3 hr3 hr4 hB3
    generalize M.num (xs.take (M.held W)) = q
    obtain ⟨zs, hzs⟩ : ∃ zs, zs = xs ++ ys := ⟨_, rfl⟩
    have HM : Hid (M.more (M.sum xs) ys = M.sum zs) := by show _ = _; rw [hzs]; unfold M.sum; rw [M.more_append]
    have HZ : Hid (zs = xs ++ ys) := hzs
    have hzl : zs.length ≤ 1000000 := by rw [hzs, List.length_append]; omega
    clear hzs
    go_wp2_with fail
    refine Reg.start (B := w4.drew.heap.size) (by kernel_rfl) ?_
    obtain ⟨wa, hwa⟩ : ∃ wa, wa = w4.drew := ⟨_, rfl⟩
    rw [← hwa]
    have hBa : Below w.heap.size w wa := by rw [hwa]; exact hB4.drew
    have ht : Tab wa := by rw [hwa]; exact ht4
    have hA : Rd wa aoA xs := by rw [hwa]; exact hrA4
    have hBy : Rd wa aoB ys := by rw [hwa]; exact hrB4
    have hC : Rd wa ao3 zr' := by rw [hwa]; exact hr34
    have hD : Rd wa ao4 zr' := by rw [hwa]; exact hr44
    clear hwa ht4 hrA4 hrB4 hr34 hr44
    have hA0 := hA
    have hBy0 := hBy
    have hC0 := hC
    have hD0 := hD
    have ht0 := ht
    refine Reg.take (fun _ _ _ _ _ h => h) 0 _ 43 (.slice aoA xs.length capA) rfl (by kernel_rfl) (by kernel_rfl) (by kernel_rfl) rfl (by kernel_rfl) (by kernel_rfl) (fun _ _ => by kernel_rfl) ?_
    refine Reg.take (fun _ _ _ _ _ h => h) 2 _ 45 (.slice aoA xs.length capA) rfl (by kernel_rfl) (by kernel_rfl) (by kernel_rfl) rfl (by kernel_rfl) (by kernel_rfl) (fun _ _ => by kernel_rfl) ?_
    refine Reg.call 1 _ 44 12 _ _ #[.slice aoA xs.length capA] rfl (by kernel_rfl) rfl (by kernel_rfl) (by kernel_rfl) rfl (by kernel_rfl) (by kernel_rfl) (sum_any aoA capA xs wa (by omega) ht hA) ?_
    rintro e w' ⟨rfl, rfl⟩
    refine ⟨_, _, rfl, Nat.le_refl _, Below.refl _ _, ?_⟩
    refine Reg.call 3 _ 46 13 _ _ #[.slice aoA xs.length capA] rfl (by kernel_rfl) rfl (by kernel_rfl) (by kernel_rfl) rfl (by kernel_rfl) (by kernel_rfl) (rsum_any aoA capA xs wa (by omega) hA) ?_
    rintro e w' ⟨rfl, rfl⟩
    refine ⟨_, _, rfl, Nat.le_refl _, Below.refl _ _, ?_⟩
    refine Reg.take (fun _ _ _ _ _ h => h) 4 _ 47 (.bool true) rfl (by kernel_rfl) (by kernel_rfl) (by kernel_rfl) rfl (by kernel_rfl) (by kernel_rfl) (fun _ _ => Reg.eqI (k := .u32) (m := ((M.sum xs : Nat) : Int)) rfl (by kernel_rfl) (by kernel_rfl)) ?_
    refine Reg.take (fun _ _ _ _ _ h => h) 5 _ 48 (.bool true) rfl (by kernel_rfl) (by kernel_rfl) (by kernel_rfl) rfl (by kernel_rfl) (by kernel_rfl) (fun _ _ => by kernel_rfl) ?_
    refine Reg.take (fun _ _ _ _ _ h => h) 6 _ 49 (.slice aoA xs.length capA) rfl (by kernel_rfl) (by kernel_rfl) (by kernel_rfl) rfl (by kernel_rfl) (by kernel_rfl) (fun _ _ => by kernel_rfl) ?_
    refine Reg.take (fun _ _ _ _ _ h => h) 8 _ 51 (.slice aoB ys.length capB) rfl (by kernel_rfl) (by kernel_rfl) (by kernel_rfl) rfl (by kernel_rfl) (by kernel_rfl) (fun _ _ => by kernel_rfl) ?_
    refine Reg.take (fun _ _ _ _ _ h => h) 10 _ 53 (.slice aoA xs.length capA) rfl (by kernel_rfl) (by kernel_rfl) (by kernel_rfl) rfl (by kernel_rfl) (by kernel_rfl) (fun _ _ => by kernel_rfl) ?_
    refine Reg.take (fun _ _ _ _ _ h => h) 12 _ 55 (.slice aoB ys.length capB) rfl (by kernel_rfl) (by kernel_rfl) (by kernel_rfl) rfl (by kernel_rfl) (by kernel_rfl) (fun _ _ => by kernel_rfl) ?_
    refine Reg.call 7 _ 50 12 _ _ #[.slice aoA xs.length capA] rfl (by kernel_rfl) rfl (by kernel_rfl) (by kernel_rfl) rfl (by kernel_rfl) (by kernel_rfl) (sum_any aoA capA xs wa (by omega) ht hA) ?_
    rintro e w' ⟨rfl, rfl⟩
    refine ⟨_, _, rfl, Nat.le_refl _, Below.refl _ _, ?_⟩
    refine Reg.call 9 _ 52 14 _ _ #[.int .u32 (((M.sum xs : Nat) : Int)), .slice aoB ys.length capB] rfl (by kernel_rfl) rfl (by kernel_rfl) (by kernel_rfl) rfl (by kernel_rfl) (by kernel_rfl) (more_any (M.sum xs) (M.sum_lt _) aoB capB ys wa (by omega) ht hBy) ?_
    rintro e w' ⟨rfl, rfl⟩
    refine ⟨_, _, congrArg (fun n : Nat => Ending.returned (.int .u32 (n : Int))) HM.out, Nat.le_refl _, Below.refl _ _, ?_⟩
    obtain ⟨v54, w54, hrun54, ho54, hb54⟩ := run_app wa wa.heap.size (.slice none 0 0) [] aoA xs capA 22 (own_nil _) (Nat.le_refl _) hA hnA (by simp; omega)
    rw [List.nil_append] at ho54
    obtain ⟨ao54, cap54, rfl, _, hr54⟩ := ho54.rd
    refine Reg.only 11 _ 54 rfl (by kernel_rfl) rfl (by kernel_rfl) (by kernel_rfl) ⟨_, _, wa.heap.size, Reg.app rfl (by kernel_rfl) (by kernel_rfl) hrun54, Nat.le_refl _, hb54, ?_⟩
    replace hA := hA.later hb54
    replace hBy := hBy.later hb54
    replace hC := hC.later hb54
    replace hD := hD.later hb54
    replace ht := ht.later hb54
    obtain ⟨v56, w56, hrun56, ho56, hb56⟩ := run_app w54 wa.heap.size (.slice ao54 xs.length cap54) xs aoB ys capB 22 ho54 hb54.size hBy hnB (by omega)
    rw [← HZ.out] at ho56
    obtain ⟨ao56, cap56, rfl, _, hr56⟩ := ho56.rd
    refine Reg.only 13 _ 56 rfl (by kernel_rfl) rfl (by kernel_rfl) (by kernel_rfl) ⟨_, _, w56.heap.size, Reg.app rfl (by kernel_rfl) (by kernel_rfl) hrun56, Nat.le_trans hb54.size hb56.size, hb56, ?_⟩
    have hbb := hb54.trans hb56
    replace hA := hA0.later hbb
    replace hBy := hBy0.later hbb
    replace hC := hC0.later hbb
    replace hD := hD0.later hbb
    replace ht := ht0.later hbb
    refine Reg.call 14 _ 57 13 _ _ #[.slice ao56 zs.length cap56] rfl (by kernel_rfl) rfl (by kernel_rfl) (by kernel_rfl) rfl (by kernel_rfl) (by kernel_rfl) (rsum_any ao56 cap56 zs w56 (by omega) hr56) ?_
    rintro e w' ⟨rfl, rfl⟩
    refine ⟨_, _, rfl, Nat.le_refl _, Below.refl _ _, ?_⟩
    refine Reg.take (fun _ _ _ _ _ h => h) 15 _ 58 (.bool true) rfl (by kernel_rfl) (by kernel_rfl) (by kernel_rfl) rfl (by kernel_rfl) (by kernel_rfl) (fun _ _ => Reg.eqI (k := .u32) (m := ((M.sum zs : Nat) : Int)) rfl (by kernel_rfl) (by kernel_rfl)) ?_
    refine Reg.take (fun _ _ _ _ _ h => h) 16 _ 59 (.bool true) rfl (by kernel_rfl) (by kernel_rfl) (by kernel_rfl) rfl (by kernel_rfl) (by kernel_rfl) (fun _ _ => by kernel_rfl) ?_
    refine Reg.take (fun _ _ _ _ _ h => h) 17 _ 60 (.bool true) rfl (by kernel_rfl) (by kernel_rfl) (by kernel_rfl) rfl (by kernel_rfl) (by kernel_rfl) (fun _ _ => by kernel_rfl) ?_
    refine Reg.take (fun _ _ _ _ _ h => h) 18 _ 61 (.slice aoB ys.length capB) rfl (by kernel_rfl) (by kernel_rfl) (by kernel_rfl) rfl (by kernel_rfl) (by kernel_rfl) (fun _ _ => by kernel_rfl) ?_
    refine Reg.take (fun _ _ _ _ _ h => h) 20 _ 63 (.int .u64 ((n : Int))) rfl (by kernel_rfl) (by kernel_rfl) (by kernel_rfl) rfl (by kernel_rfl) (by kernel_rfl) (fun _ _ => by kernel_rfl) ?_
    refine Reg.take (fun _ _ _ _ _ h => h) 21 _ 64 (.int .i64 (W)) rfl (by kernel_rfl) (by kernel_rfl) (by kernel_rfl) rfl (by kernel_rfl) (by kernel_rfl) (fun _ _ => by kernel_rfl) ?_
    refine Reg.take (fun _ _ _ _ _ h => h) 24 _ 67 (.slice aoB ys.length capB) rfl (by kernel_rfl) (by kernel_rfl) (by kernel_rfl) rfl (by kernel_rfl) (by kernel_rfl) (fun _ _ => by kernel_rfl) ?_
    refine Reg.take (fun _ _ _ _ _ h => h) 26 _ 69 (.int .u64 ((n : Int))) rfl (by kernel_rfl) (by kernel_rfl) (by kernel_rfl) rfl (by kernel_rfl) (by kernel_rfl) (fun _ _ => by kernel_rfl) ?_
    refine Reg.take (fun _ _ _ _ _ h => h) 27 _ 70 (.int .i64 (W)) rfl (by kernel_rfl) (by kernel_rfl) (by kernel_rfl) rfl (by kernel_rfl) (by kernel_rfl) (fun _ _ => by kernel_rfl) ?_
    obtain ⟨v62, w62, hrun62, ho62, hb62⟩ := run_app w56 w56.heap.size (.slice none 0 0) [] aoB ys capB 22 (own_nil _) (Nat.le_refl _) hBy hnB (by simp; omega)
    rw [List.nil_append] at ho62
    obtain ⟨ao62, cap62, rfl, _, hr62⟩ := ho62.rd
    refine Reg.only 19 _ 62 rfl (by kernel_rfl) rfl (by kernel_rfl) (by kernel_rfl) ⟨_, _, w62.heap.size, Reg.app rfl (by kernel_rfl) (by kernel_rfl) hrun62, hb62.size, hb62, ?_⟩
    replace hA := hA.later hb62
    replace hBy := hBy.later hb62
    replace hC := hC.later hb62
    replace hD := hD.later hb62
    replace hr56 := hr56.later hb62
    replace ht := ht.later hb62
    refine Reg.call 22 _ 65 15 _ _ #[.slice ao62 ys.length cap62, .int .u64 ((n : Int)), .int .i64 (W)] rfl (by kernel_rfl) rfl (by kernel_rfl) (by kernel_rfl) rfl (by kernel_rfl) (by kernel_rfl) (put_any ao62 cap62 ys n hn W w62 (by omega) hr62) ?_
    rintro e w65 ⟨ao65, cap65, zp, hzp, rfl, _, _, hr65, hb65⟩
    have HP := hide hzp
    clear hzp
    refine ⟨_, w65.heap.size, rfl, hb65.size, hb65, ?_⟩
    replace hA := hA.later hb65
    replace hBy := hBy.later hb65
    replace hC := hC.later hb65
    replace hD := hD.later hb65
    replace hr56 := hr56.later hb65
    replace hr62 := hr62.later hb65
    replace ht := ht.later hb65
    have hA1 := hA
    have hBy1 := hBy
    have hC1 := hC
    have hD1 := hD
    have hr561 := hr56
    have hr621 := hr62
    have hr651 := hr65
    refine Reg.take (fun _ _ _ _ _ h => h) 23 _ 66 (.string ⟨zp.toArray⟩) rfl (by kernel_rfl) (by kernel_rfl) (by kernel_rfl) rfl (by kernel_rfl) (by kernel_rfl) (fun w' hb => Reg.cvt rfl (u := .slice ao65 zp.length cap65) (by kernel_rfl) (conv_any w' ao65 zp cap65 (hr65.later hb))) ?_
    obtain ⟨v68, w68, hrun68, ho68, hb68⟩ := run_app w65 w65.heap.size (.slice none 0 0) [] aoB ys capB 22 (own_nil _) (Nat.le_refl _) hBy hnB (by simp; omega)
    rw [List.nil_append] at ho68
    obtain ⟨ao68, cap68, rfl, _, hr68⟩ := ho68.rd
    refine Reg.only 25 _ 68 rfl (by kernel_rfl) rfl (by kernel_rfl) (by kernel_rfl) ⟨_, _, w65.heap.size, Reg.app rfl (by kernel_rfl) (by kernel_rfl) hrun68, Nat.le_refl _, hb68, ?_⟩
    replace hA := hA.later hb68
    replace hBy := hBy.later hb68
    replace hC := hC.later hb68
    replace hD := hD.later hb68
    replace hr56 := hr56.later hb68
    replace hr62 := hr62.later hb68
    replace hr65 := hr65.later hb68
    replace ht := ht.later hb68
    refine Reg.call 28 _ 71 16 _ _ #[.slice ao68 ys.length cap68, .int .u64 ((n : Int)), .int .i64 (W)] rfl (by kernel_rfl) rfl (by kernel_rfl) (by kernel_rfl) rfl (by kernel_rfl) (by kernel_rfl) (rput_any _ n hn W w65.heap.size ys (by omega) w68 hb68.size ho68) ?_
    rintro e w71 ⟨v71, rfl, ho71, hb71⟩
    rw [← HP.out] at ho71
    obtain ⟨ao71, cap71, rfl, _, hr71⟩ := ho71.rd
    refine ⟨_, w71.heap.size, rfl, Nat.le_trans hb68.size hb71.size, hb71, ?_⟩
    have hbc := hb68.trans hb71
    replace hA := hA1.later hbc
    replace hBy := hBy1.later hbc
    replace hC := hC1.later hbc
    replace hD := hD1.later hbc
    replace hr56 := hr561.later hbc
    replace hr62 := hr621.later hbc
    replace hr65 := hr651.later hbc
    refine Reg.take (fun _ _ _ _ _ h => h) 29 _ 72 (.string ⟨zp.toArray⟩) rfl (by kernel_rfl) (by kernel_rfl) (by kernel_rfl) rfl (by kernel_rfl) (by kernel_rfl) (fun w' hb => Reg.cvt rfl (u := .slice ao71 zp.length cap71) (by kernel_rfl) (conv_any w' ao71 zp cap71 (hr71.later hb))) ?_
    refine Reg.take (fun _ _ _ _ _ h => h) 30 _ 73 (.bool true) rfl (by kernel_rfl) (by kernel_rfl) (by kernel_rfl) rfl (by kernel_rfl) (by kernel_rfl) (fun _ _ => Reg.eqS (s := ⟨zp.toArray⟩) rfl (by kernel_rfl) (by kernel_rfl)) ?_
    refine Reg.take (fun _ _ _ _ _ h => h) 31 _ 74 (.bool true) rfl (by kernel_rfl) (by kernel_rfl) (by kernel_rfl) rfl (by kernel_rfl) (by kernel_rfl) (fun _ _ => by kernel_rfl) ?_
    refine Reg.take (fun _ _ _ _ _ h => h) 32 _ 75 (.bool true) rfl (by kernel_rfl) (by kernel_rfl) (by kernel_rfl) rfl (by kernel_rfl) (by kernel_rfl) (fun _ _ => by kernel_rfl) ?_
    refine Reg.take (fun _ _ _ _ _ h => h) 33 _ 76 (.int .u64 ((q : Int))) rfl (by kernel_rfl) (by kernel_rfl) (by kernel_rfl) rfl (by kernel_rfl) (by kernel_rfl) (fun _ _ => by kernel_rfl) ?_
    refine Reg.take (fun _ _ _ _ _ h => h) 34 _ 77 (.int .u64 ((q : Int))) rfl (by kernel_rfl) (by kernel_rfl) (by kernel_rfl) rfl (by kernel_rfl) (by kernel_rfl) (fun _ _ => by kernel_rfl) ?_
    refine Reg.take (fun _ _ _ _ _ h => h) 35 _ 78 (.bool true) rfl (by kernel_rfl) (by kernel_rfl) (by kernel_rfl) rfl (by kernel_rfl) (by kernel_rfl) (fun _ _ => Reg.eqI (k := .u64) (m := (q : Int)) rfl (by kernel_rfl) (by kernel_rfl)) ?_
    refine Reg.take (fun _ _ _ _ _ h => h) 36 _ 79 (.bool true) rfl (by kernel_rfl) (by kernel_rfl) (by kernel_rfl) rfl (by kernel_rfl) (by kernel_rfl) (fun _ _ => by kernel_rfl) ?_
    refine Reg.take (fun _ _ _ _ _ h => h) 37 _ 80 (.bool true) rfl (by kernel_rfl) (by kernel_rfl) (by kernel_rfl) rfl (by kernel_rfl) (by kernel_rfl) (fun _ _ => by kernel_rfl) ?_
    refine Reg.take (fun _ _ _ _ _ h => h) 38 _ 81 (.int .i64 (0)) rfl (by kernel_rfl) (by kernel_rfl) (by kernel_rfl) rfl (by kernel_rfl) (by kernel_rfl) (fun _ _ => by kernel_rfl) ?_
    refine Reg.take (fun _ _ _ _ _ h => h) 39 _ 82 (.int .i64 (0)) rfl (by kernel_rfl) (by kernel_rfl) (by kernel_rfl) rfl (by kernel_rfl) (by kernel_rfl) (fun _ _ => by kernel_rfl) ?_
    refine Reg.take (fun _ _ _ _ _ h => h) 40 _ 83 (.bool true) rfl (by kernel_rfl) (by kernel_rfl) (by kernel_rfl) rfl (by kernel_rfl) (by kernel_rfl) (fun _ _ => Reg.eqI (k := .i64) (m := 0) rfl (by kernel_rfl) (by kernel_rfl)) ?_
    refine Reg.take (fun _ _ _ _ _ h => h) 41 _ 84 (.bool true) rfl (by kernel_rfl) (by kernel_rfl) (by kernel_rfl) rfl (by kernel_rfl) (by kernel_rfl) (fun _ _ => by kernel_rfl) ?_
    refine Reg.take (fun _ _ _ _ _ h => h) 42 _ 85 (.bool true) rfl (by kernel_rfl) (by kernel_rfl) (by kernel_rfl) rfl (by kernel_rfl) (by kernel_rfl) (fun _ _ => by kernel_rfl) ?_
    refine Reg.take (fun _ _ _ _ _ h => h) 43 _ 86 (.slice ao3 zr'.length cap3) rfl (by kernel_rfl) (by kernel_rfl) (by kernel_rfl) rfl (by kernel_rfl) (by kernel_rfl) (fun _ _ => by kernel_rfl) ?_
    refine Reg.take (fun _ _ _ _ _ h => h) 44 _ 87 (.string ⟨zr'.toArray⟩) rfl (by kernel_rfl) (by kernel_rfl) (by kernel_rfl) rfl (by kernel_rfl) (by kernel_rfl) (fun w' hb => Reg.cvt rfl (u := .slice ao3 zr'.length cap3) (by kernel_rfl) (conv_any w' ao3 zr' cap3 (hC.later hb))) ?_
    refine Reg.take (fun _ _ _ _ _ h => h) 45 _ 88 (.slice ao4 zr'.length cap4) rfl (by kernel_rfl) (by kernel_rfl) (by kernel_rfl) rfl (by kernel_rfl) (by kernel_rfl) (fun _ _ => by kernel_rfl) ?_
    refine Reg.take (fun _ _ _ _ _ h => h) 46 _ 89 (.string ⟨zr'.toArray⟩) rfl (by kernel_rfl) (by kernel_rfl) (by kernel_rfl) rfl (by kernel_rfl) (by kernel_rfl) (fun w' hb => Reg.cvt rfl (u := .slice ao4 zr'.length cap4) (by kernel_rfl) (conv_any w' ao4 zr' cap4 (hD.later hb))) ?_
    refine Reg.take (fun _ _ _ _ _ h => h) 47 _ 90 (.bool true) rfl (by kernel_rfl) (by kernel_rfl) (by kernel_rfl) rfl (by kernel_rfl) (by kernel_rfl) (fun _ _ => Reg.eqS (s := ⟨zr'.toArray⟩) rfl (by kernel_rfl) (by kernel_rfl)) ?_
    refine Reg.take (fun _ _ _ _ _ h => h) 48 _ 91 (.bool true) rfl (by kernel_rfl) (by kernel_rfl) (by kernel_rfl) rfl (by kernel_rfl) (by kernel_rfl) (fun _ _ => by kernel_rfl) ?_
    refine Reg.take (fun _ _ _ _ _ h => h) 49 _ 8 (.bool true) rfl (by kernel_rfl) (by kernel_rfl) (by kernel_rfl) rfl (by kernel_rfl) (by kernel_rfl) (fun _ _ => by kernel_rfl) ?_
    refine Reg.done (by kernel_rfl) ?_
    have hBend : Below w.heap.size w w71 := by
      refine hBa.trans ?_
      refine (hbb.mono hBa.size).trans ?_
      refine (hb62.mono (Nat.le_trans hBa.size hbb.size)).trans ?_
      refine (hb65.mono (Nat.le_trans (Nat.le_trans hBa.size hbb.size) hb62.size)).trans ?_
      exact hbc.mono (Nat.le_trans (Nat.le_trans (Nat.le_trans hBa.size hbb.size) hb62.size) hb65.size)
    go_wp2
    refine bodyPost_ret (results_tmp rfl _ _ _) ((Reg.ov_defers _ _).trans rfl) ?_
    exact ⟨congrArg Ending.returned ((Reg.ov_look _ 8 _ (by kernel_rfl)).trans (by kernel_rfl)), hBend⟩
end Go.Proofs.YtnkdlnphmfbagaaDoor
