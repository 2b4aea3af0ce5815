/- What the document's own Text and GetText answer (the reference), and both GetTexts in one form. -/
import Derived.Test.YtnkdlnphmfbagaaDoorRef
import Derived.Test.YtnkdlnphmfbagaaDoorGtext
import Derived.Test.YtnkdlnphmfbagaaDoorApp
namespace Go.Proofs.YtnkdlnphmfbagaaDoor
open Go.RowKit

/-- b[:n] and b[n:], n an unsigned number. -/
theorem cut_toU (w : World) (ao : Option Addr) (bs : List UInt8) (cap k : Nat) (hk : k ≤ bs.length) (hcap : bs.length ≤ cap) (h : Rd w ao bs) :
    ∃ (a1 : Option Addr) (xs : List UInt8) (c1 : Nat), xs = bs.take k ∧ Rd w a1 xs ∧ xs.length ≤ c1 ∧
      ∀ wx : World, (Instr.slice 22 (.slice ao bs.length cap) none (some (.int .u64 (k : Int))) none).run Tryd.prog wx = .ok (.slice a1 xs.length c1) wx := by
  refine ⟨if cap = 0 then ao else ao.map (·.add 0), bs.take k, cap, rfl, ?_, by rw [List.length_take]; omega, fun wx => ?_⟩
  · split
    · exact h.take k
    · have := (h.drop 0).take k
      rwa [List.drop_zero] at this
  · rw [run_slice_h (P := Tryd.prog) (w := wx) 22 ao bs.length cap Tryd.underlying22 .u64 (k : Int) (by omega) (by omega), Tryd.size5]
    simp only [Result.andThen, sliced, Int.toNat_natCast, Nat.sub_zero, Nat.zero_mul, List.length_take, Nat.min_eq_left hk]
theorem cut_fromU (w : World) (ao : Option Addr) (bs : List UInt8) (cap k : Nat) (hk : k ≤ bs.length) (hcap : bs.length ≤ cap) (h : Rd w ao bs) :
    ∃ (a1 : Option Addr) (xs : List UInt8) (c1 : Nat), xs = bs.drop k ∧ Rd w a1 xs ∧ xs.length ≤ c1 ∧
      ∀ wx : World, (Instr.slice 22 (.slice ao bs.length cap) (some (.int .u64 (k : Int))) none none).run Tryd.prog wx = .ok (.slice a1 xs.length c1) wx := by
  refine ⟨if cap = k then ao else ao.map (·.add (k * 1)), bs.drop k, cap - k, rfl, ?_, by rw [List.length_drop]; omega, fun wx => ?_⟩
  · split
    · intro i hi
      rw [List.length_drop] at hi
      omega
    · rw [Nat.mul_one]; exact h.drop k
  · rw [run_slice_l (P := Tryd.prog) (w := wx) 22 ao bs.length cap Tryd.underlying22 .u64 (k : Int) (by omega) (by omega), Tryd.size5]
    simp only [Result.andThen, sliced, Int.toNat_natCast, List.length_drop]

theorem held_two : M.held 2 = 2 := by decide

set_option maxHeartbeats 400000 in
theorem rtext_any (v : Value) (s : ByteArray) (hs : s.size ≤ 60000) (B : Nat) (bs : List UInt8) (hl : bs.length ≤ 100000) (w : World) (hB : B ≤ w.heap.size) (ho : Own w B v bs) :
    Calls Tryd.prog 20 #[v, .string s] w fun e w' => ∃ v', e = .returned v' ∧ Own w' B v' (bs ++ M.le s.size 2 ++ s.data.toList) ∧ Below B w w' := by
  obtain ⟨i0, hi, hz0, hz1, hz2⟩ := info_parts Tryd.info5
  have hcv : IntKind.u64.wrap (s.size : Int) = (s.size : Int) := by rw [IntKind.wrap_u64]; omega
  go_enter Tryd.func20, Tryd.ntmps20
  go_wp2_with fail
  refine (rput_any v s.size (by omega) 2 B bs (by omega) w hB ho).mono ?_
  rintro e w2 ⟨v', rfl, ho2, hb2⟩
  rw [held_two] at ho2
  obtain ⟨zs, hzs⟩ : ∃ zs, zs = bs ++ M.le s.size 2 := ⟨_, rfl⟩
  rw [← hzs] at ho2
  have hzl : zs.length ≤ 200000 := by rw [hzs, List.length_append, M.le_length]; omega
  have HZ : Hid (zs = bs ++ M.le s.size 2) := hzs
  clear hzs
  have hsz := hb2.size
  have ho3 : w2.ownsRow B 5 1 v' zs.length (cellsOf zs) := ho2
  go_wp2_with (at_builtin; refine Lib.wpList_append_own_string _ rfl (.tmp 14) (.tmp 15) 22 9 rfl B 5 i0 Tryd.underlying22 Tryd.underlying9 hi hz0 hz1 hz2 v' zs.length (cellsOf zs) rfl ho3 s rfl ?_ ?_ ?_ ?_)
  · unfold maxLen; omega
  · omega
  · omega
  · intro v4 w4 ho4 hg4 _
    have R : Own w4 B v4 (zs ++ s.data.toList) := by
      unfold Own
      rw [cellsOf_append, List.length_append, Array.length_toList]
      exact ho4
    have hb4 : Below B w w4 := hb2.grown hg4 (by omega) ho2.block
    rw [HZ.out] at R
    clear ho4 hg4 ho3 ho2
    go_wp2
    go_ret
    exact ⟨v4, rfl, R, hb4⟩

theorem rgt_none (ao : Option Addr) (cap : Nat) (bs : List UInt8) (most : Int) (w : World) (hl : bs.length < 2) :
    Calls Tryd.prog 19 #[.slice ao bs.length cap, .int .i64 most] w fun e w' => e = .returned (.tuple #[.string ⟨#[]⟩, .slice ao bs.length cap, .int .i64 10]) ∧ w' = w := by
  go_enter Tryd.func19, Tryd.ntmps19
  go_wp2_with fail
  refine (rget_short ao cap bs 2 w (by rw [held_two]; exact hl) (by omega)).mono ?_
  rintro e w2 ⟨rfl, rfl⟩
  go_wp2
  go_ret3
  exact ⟨rfl, rfl⟩

set_option maxHeartbeats 400000 in
theorem rgt_long (ao : Option Addr) (cap : Nat) (bs : List UInt8) (most : Int) (hm1 : -9223372036854775808 ≤ most) (hm2 : most ≤ 9223372036854775807) (w : World) (hl : 2 ≤ bs.length) (hl' : bs.length ≤ 100000) (hcap : bs.length ≤ cap) (hc : Rd w ao bs) (hm : most < (M.num (bs.take 2) : Nat)) :
    Calls Tryd.prog 19 #[.slice ao bs.length cap, .int .i64 most] w fun e w' => e = .returned (.tuple #[.string ⟨#[]⟩, .slice ao bs.length cap, .int .i64 93]) ∧ ∃ nq, w' = w.drewN nq := by
  have hn := num2_lt bs hl
  by_cases h0 : most < 0
  · go_enter Tryd.func19, Tryd.ntmps19
    go_wp2_with fail
    refine (rget_ok ao cap bs 2 w (by omega) hcap hc (by rw [held_two]; exact hl)).mono ?_
    rintro e w2 ⟨a2, c2, ys, nq, hy, rfl, hyc, hr2, rfl⟩
    rw [held_two]
    clear hy
    go_wp2
    go_ret3
    exact ⟨rfl, nq, rfl⟩
  · have hcv : IntKind.u64.wrap most = most := by rw [IntKind.wrap_u64]; omega
    have h0' : decide (most < 0) = false := by simpa using h0
    generalize hq : M.num (bs.take 2) = q at *
    have HQ := hide hq
    clear hq
    go_enter Tryd.func19, Tryd.ntmps19
    go_wp2_with fail
    refine (rget_ok ao cap bs 2 w (by omega) hcap hc (by rw [held_two]; exact hl)).mono ?_
    rintro e w2 ⟨a2, c2, ys, nq, hy, rfl, hyc, hr2, rfl⟩
    rw [held_two, HQ.out]
    clear hy
    go_wp2
    go_ret3
    exact ⟨rfl, nq, rfl⟩

set_option maxHeartbeats 400000 in
theorem rgt_short (ao : Option Addr) (cap : Nat) (bs : List UInt8) (most : Int) (hm2 : most ≤ 9223372036854775807) (w : World) (hl : 2 ≤ bs.length) (hl' : bs.length ≤ 100000) (hcap : bs.length ≤ cap) (hc : Rd w ao bs) (hm : (M.num (bs.take 2) : Nat) ≤ most) (hs : bs.length < 2 + M.num (bs.take 2)) :
    Calls Tryd.prog 19 #[.slice ao bs.length cap, .int .i64 most] w fun e w' => e = .returned (.tuple #[.string ⟨#[]⟩, .slice ao bs.length cap, .int .i64 10]) ∧ ∃ nq, w' = w.drewN nq := by
  have hn := num2_lt bs hl
  have h0 : 0 ≤ most := by omega
  have hcv : IntKind.u64.wrap most = most := by rw [IntKind.wrap_u64]; omega
  generalize hq : M.num (bs.take 2) = q at *
  have HQ := hide hq
  clear hq
  go_enter Tryd.func19, Tryd.ntmps19
  go_wp2_with fail
  refine (rget_ok ao cap bs 2 w (by omega) hcap hc (by rw [held_two]; exact hl)).mono ?_
  rintro e w2 ⟨a2, c2, ys, nq, hy, rfl, hyc, hr2, rfl⟩
  rw [held_two, HQ.out]
  rw [held_two] at hy
  have hyl : ys.length = bs.length - 2 := by rw [hy, List.length_drop]
  have hy1 : ys.length < q := by omega
  have hcv2 : IntKind.u64.wrap (ys.length : Int) = (ys.length : Int) := by rw [IntKind.wrap_u64]; omega
  clear hy hyl
  go_wp2
  go_ret3
  exact ⟨rfl, nq, rfl⟩

set_option maxHeartbeats 800000 in
theorem rgt_ok (ao : Option Addr) (cap : Nat) (bs : List UInt8) (most : Int) (hm2 : most ≤ 9223372036854775807) (w : World) (hl : 2 ≤ bs.length) (hl' : bs.length ≤ 100000) (hcap : bs.length ≤ cap) (hc : Rd w ao bs) (hm : (M.num (bs.take 2) : Nat) ≤ most) (hs : 2 + M.num (bs.take 2) ≤ bs.length) :
    Calls Tryd.prog 19 #[.slice ao bs.length cap, .int .i64 most] w fun e w' => ∃ a2 c2 us ts, us = (bs.drop 2).take (M.num (bs.take 2)) ∧ ts = (bs.drop 2).drop (M.num (bs.take 2)) ∧
      e = .returned (.tuple #[.string ⟨us.toArray⟩, .slice a2 ts.length c2, .int .i64 0]) ∧ Rd w a2 ts ∧ ∃ nq, w' = w.drewN nq := by
  have hn := num2_lt bs hl
  have h0 : 0 ≤ most := by omega
  have hcv : IntKind.u64.wrap most = most := by rw [IntKind.wrap_u64]; omega
  generalize hq : M.num (bs.take 2) = q at *
  have HQ := hide hq
  clear hq
  go_enter Tryd.func19, Tryd.ntmps19
  go_wp2_with fail
  refine (rget_ok ao cap bs 2 w (by omega) hcap hc (by rw [held_two]; exact hl)).mono ?_
  rintro e w2 ⟨a2, c2, ys, nq, hy, rfl, hyc, hr2, hw2⟩
  rw [held_two, HQ.out]
  rw [held_two] at hy
  have hyl : ys.length = bs.length - 2 := by rw [hy, List.length_drop]
  have hy1 : q ≤ ys.length := by omega
  have hcv2 : IntKind.u64.wrap (ys.length : Int) = (ys.length : Int) := by rw [IntKind.wrap_u64]; omega
  obtain ⟨a3, us, c3, hu, hr3, _, hs3⟩ := cut_toU w a2 ys c2 q hy1 hyc hr2
  obtain ⟨a4, ts, c4, hv, hr4, _, hs4⟩ := cut_fromU w a2 ys c2 q hy1 hyc hr2
  have HU : Hid (us = (bs.drop 2).take q) := by show _ = _; rw [hu, hy]
  have HV : Hid (ts = (bs.drop 2).drop q) := by show _ = _; rw [hv, hy]
  have hr3' : ∀ m, Rd (w2.drewN m) a3 us := fun m => by rw [hw2]; exact hr3
  have hcc : ∀ m, (convert 22 9 (.slice a3 us.length c3)).run Tryd.prog (w2.drewN m) = .ok (.string ⟨us.toArray⟩) (w2.drewN m) := fun m => conv_any _ a3 us c3 (hr3' m)
  have HW := hide hw2
  clear hy hyl hu hv hw2 hr3'
  go_wp2_with fail
  go_quiet (fail)
  go_wp2
  go_ret3
  refine ⟨a4, c4, us, ts, HU.out, HV.out, rfl, hr4, ?_⟩
  rename_i m
  exact ⟨_, by rw [HW.out, World.drewN_drewN]⟩

namespace M
/-- The text that bytes begin with, what is behind it, the error's number. -/
def gt (bs : List UInt8) (most : Int) : List UInt8 × List UInt8 × Int :=
  if bs.length < 2 then ([], bs, 10)
  else if most < (num (bs.take 2) : Nat) then ([], bs, 93)
  else if bs.length < 2 + num (bs.take 2) then ([], bs, 10)
  else ((bs.drop 2).take (num (bs.take 2)), (bs.drop 2).drop (num (bs.take 2)), 0)
end M

theorem gt_all (ao : Option Addr) (cap : Nat) (bs : List UInt8) (most : Int) (w : World) (hl' : bs.length ≤ 100000) (hcap : bs.length ≤ cap) (hc : Rd w ao bs) :
    Calls Tryd.prog 18 #[.slice ao bs.length cap, .int .i64 most] w fun e w' => ∃ us ts c ao' cap', M.gt bs most = (us, ts, c) ∧ e = .returned (.tuple #[.string ⟨us.toArray⟩, .slice ao' ts.length cap', .int .i64 c]) ∧
      ts.length ≤ cap' ∧ Rd w' ao' ts ∧ Below w.heap.size w w' := by
  unfold M.gt
  by_cases h1 : bs.length < 2
  · rw [if_pos h1]
    refine (gt_none ao cap bs most w h1 hc).mono ?_
    rintro e w' ⟨ao', cap', rfl, h2, h3, h4⟩
    exact ⟨[], bs, 10, ao', cap', rfl, rfl, h2, h3, h4⟩
  rw [if_neg h1]
  by_cases h2 : most < (M.num (bs.take 2) : Nat)
  · rw [if_pos h2]
    refine (gt_long ao cap bs most w (by omega) hl' hcap hc h2).mono ?_
    rintro e w' ⟨ao', cap', rfl, h2, h3, h4⟩
    exact ⟨[], bs, 93, ao', cap', rfl, rfl, h2, h3, h4⟩
  rw [if_neg h2]
  by_cases h3 : bs.length < 2 + M.num (bs.take 2)
  · rw [if_pos h3]
    refine (gt_short ao cap bs most w (by omega) hl' hcap hc (by omega) h3).mono ?_
    rintro e w' ⟨ao', cap', rfl, h2, h3, h4⟩
    exact ⟨[], bs, 10, ao', cap', rfl, rfl, h2, h3, h4⟩
  rw [if_neg h3]
  refine (gt_ok ao cap bs most w (by omega) hl' hcap hc (by omega) (by omega)).mono ?_
  rintro e w' ⟨ao', cap', us, ts, hu, hv, rfl, h2, h3, h4⟩
  exact ⟨us, ts, 0, ao', cap', by rw [hu, hv], rfl, h2, h3, h4⟩

theorem rgt_all (ao : Option Addr) (cap : Nat) (bs : List UInt8) (most : Int) (hm1 : -9223372036854775808 ≤ most) (hm2 : most ≤ 9223372036854775807) (w : World) (hl' : bs.length ≤ 100000) (hcap : bs.length ≤ cap) (hc : Rd w ao bs) :
    Calls Tryd.prog 19 #[.slice ao bs.length cap, .int .i64 most] w fun e w' => ∃ us ts c a2 c2, M.gt bs most = (us, ts, c) ∧ e = .returned (.tuple #[.string ⟨us.toArray⟩, .slice a2 ts.length c2, .int .i64 c]) ∧
      Rd w a2 ts ∧ ∃ nq, w' = w.drewN nq := by
  unfold M.gt
  by_cases h1 : bs.length < 2
  · rw [if_pos h1]
    refine (rgt_none ao cap bs most w h1).mono ?_
    rintro e w' ⟨rfl, hw⟩
    exact ⟨[], bs, 10, ao, cap, rfl, rfl, hc, 0, hw⟩
  rw [if_neg h1]
  by_cases h2 : most < (M.num (bs.take 2) : Nat)
  · rw [if_pos h2]
    refine (rgt_long ao cap bs most hm1 hm2 w (by omega) hl' hcap hc h2).mono ?_
    rintro e w' ⟨rfl, hw⟩
    exact ⟨[], bs, 93, ao, cap, rfl, rfl, hc, hw⟩
  rw [if_neg h2]
  by_cases h3 : bs.length < 2 + M.num (bs.take 2)
  · rw [if_pos h3]
    refine (rgt_short ao cap bs most hm2 w (by omega) hl' hcap hc (by omega) h3).mono ?_
    rintro e w' ⟨rfl, hw⟩
    exact ⟨[], bs, 10, ao, cap, rfl, rfl, hc, hw⟩
  rw [if_neg h3]
  refine (rgt_ok ao cap bs most hm2 w (by omega) hl' hcap hc (by omega) (by omega)).mono ?_
  rintro e w' ⟨a2, c2, us, ts, hu, hv, rfl, h2, hw⟩
  exact ⟨us, ts, 0, a2, c2, by rw [hu, hv], rfl, h2, hw⟩
end Go.Proofs.YtnkdlnphmfbagaaDoor
