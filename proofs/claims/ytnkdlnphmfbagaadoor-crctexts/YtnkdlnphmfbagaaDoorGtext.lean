/- What crc.GetText answers: the text that bytes begin with, and what is behind it, or that they are too short, or it too long. -/
import Derived.Test.YtnkdlnphmfbagaaDoorText
import Derived.WalkSmall
namespace Go.Proofs.YtnkdlnphmfbagaaDoor
open Go.RowKit

theorem num2_lt (bs : List UInt8) (h : 2 ≤ bs.length) : M.num (bs.take 2) < 65536 := by
  have := M.num_lt (bs.take 2)
  rw [List.length_take, Nat.min_eq_left h] at this
  simpa using this

theorem read16_q (w : World) (nq : Nat) (ao : Option Addr) (cap : Nat) (bs : List UInt8) (hl : bs.length ≤ 2) (hc : Rd w ao bs) :
    Calls Tryd.prog 27 #[.slice ao bs.length cap] (w.drewN nq) fun e w'' => e = .returned (.int .u16 (M.num bs : Nat)) ∧ ∃ m, w'' = w.drewN m :=
  Calls.quiet_of_same ((read16_any ao cap bs (w.drewN nq) hl hc).mono fun _ _ ⟨h1, h2⟩ => ⟨h1, h2.symm⟩)

theorem gt_none (ao : Option Addr) (cap : Nat) (bs : List UInt8) (most : Int) (w : World) (hl : bs.length < 2) (hc : Rd w ao bs) :
    Calls Tryd.prog 18 #[.slice ao bs.length cap, .int .i64 most] w fun e w' => ∃ ao' cap', e = .returned (.tuple #[.string ⟨#[]⟩, .slice ao' bs.length cap', .int .i64 10]) ∧
      bs.length ≤ cap' ∧ Rd w' ao' bs ∧ Below w.heap.size w w' := by
  go_enter Tryd.func18, Tryd.ntmps18
  go_wp2_with fail
  refine (fresh_any ao cap 0 bs _ (by omega) (by omega) hc).mono ?_
  rintro e w1 ⟨rfl, ho, hb⟩
  go_wp2
  go_ret3
  obtain ⟨ao', cap', e, hle, hrd⟩ := ho.rd
  cases e
  exact ⟨_, _, rfl, hle, hrd, hb⟩

set_option maxHeartbeats 800000 in
/-- The length is told, and is above most. -/
theorem gt_long (ao : Option Addr) (cap : Nat) (bs : List UInt8) (most : Int) (w : World) (hl : 2 ≤ bs.length) (hl' : bs.length ≤ 100000) (hcap : bs.length ≤ cap) (hc : Rd w ao bs) (hm : most < (M.num (bs.take 2) : Nat)) :
    Calls Tryd.prog 18 #[.slice ao bs.length cap, .int .i64 most] w fun e w' => ∃ ao' cap', e = .returned (.tuple #[.string ⟨#[]⟩, .slice ao' bs.length cap', .int .i64 93]) ∧
      bs.length ≤ cap' ∧ Rd w' ao' bs ∧ Below w.heap.size w w' := by
  have hn := num2_lt bs hl
  obtain ⟨a1, xs, c1, hx, hr1, _, hs1'⟩ := cut_to w ao bs cap 2 hl hcap hc
  obtain ⟨a2, ys, c2, hy, hr2, _, hs2'⟩ := cut_from w ao bs cap 2 hl hcap hc
  have hs1 : ∀ wx : World, (Instr.slice 22 (.slice ao bs.length cap) none (some (.int .i64 2)) none).run Tryd.prog wx = .ok (.slice a1 xs.length c1) wx := hs1'
  have hs2 : ∀ wx : World, (Instr.slice 22 (.slice ao bs.length cap) (some (.int .i64 2)) none none).run Tryd.prog wx = .ok (.slice a2 ys.length c2) wx := hs2'
  clear hs1' hs2'
  have hxl : xs.length ≤ 2 := by rw [hx, List.length_take]; omega
  rw [← hx] at hm hn
  clear hx hy
  go_enter Tryd.func18, Tryd.ntmps18
  go_wp2_with fail
  go_quiet ((go_at_call 27; exact read16_q _ _ a1 c1 xs hxl hr1))
  obtain ⟨w0, hw0⟩ : ∃ w0, w0 = w.drewN nq := ⟨_, rfl⟩
  rw [← hw0]
  have hB0 : Below w.heap.size w w0 := by rw [hw0]; exact below_drewN (Below.refl _ _) nq
  have hz0 : w0.heap.size = w.heap.size := by rw [hw0]; rfl
  have HZ : Hid (w0.heap.size = w.heap.size) := hz0
  clear hw0 hz0
  have hc0 := hc.later hB0
  go_wp2_with fail
  refine (fresh_any ao cap 0 bs _ (by omega) (by omega) hc0).mono ?_
  rintro e w1 ⟨rfl, ho, hb⟩
  go_wp2
  go_ret3
  obtain ⟨ao', cap', e, hle, hrd⟩ := ho.rd
  cases e
  exact ⟨_, _, rfl, hle, hrd, hB0.trans (by rw [← HZ.out]; exact hb)⟩

set_option maxHeartbeats 800000 in
/-- The length is told, and there is less behind it. -/
theorem gt_short (ao : Option Addr) (cap : Nat) (bs : List UInt8) (most : Int) (w : World) (hl : 2 ≤ bs.length) (hl' : bs.length ≤ 100000) (hcap : bs.length ≤ cap) (hc : Rd w ao bs) (hm : (M.num (bs.take 2) : Nat) ≤ most) (hq : bs.length < 2 + M.num (bs.take 2)) :
    Calls Tryd.prog 18 #[.slice ao bs.length cap, .int .i64 most] w fun e w' => ∃ ao' cap', e = .returned (.tuple #[.string ⟨#[]⟩, .slice ao' bs.length cap', .int .i64 10]) ∧
      bs.length ≤ cap' ∧ Rd w' ao' bs ∧ Below w.heap.size w w' := by
  have hn := num2_lt bs hl
  obtain ⟨a1, xs, c1, hx, hr1, _, hs1'⟩ := cut_to w ao bs cap 2 hl hcap hc
  obtain ⟨a2, ys, c2, hy, hr2, _, hs2'⟩ := cut_from w ao bs cap 2 hl hcap hc
  have hs1 : ∀ wx : World, (Instr.slice 22 (.slice ao bs.length cap) none (some (.int .i64 2)) none).run Tryd.prog wx = .ok (.slice a1 xs.length c1) wx := hs1'
  have hs2 : ∀ wx : World, (Instr.slice 22 (.slice ao bs.length cap) (some (.int .i64 2)) none none).run Tryd.prog wx = .ok (.slice a2 ys.length c2) wx := hs2'
  clear hs1' hs2'
  have hxl : xs.length ≤ 2 := by rw [hx, List.length_take]; omega
  have hyl : ys.length = bs.length - 2 := by rw [hy, List.length_drop]
  rw [← hx] at hm hn hq
  have hq' : ys.length < M.num xs := by omega
  clear hyl hq
  clear hx hy
  go_enter Tryd.func18, Tryd.ntmps18
  go_wp2_with fail
  go_quiet ((go_at_call 27; exact read16_q _ _ a1 c1 xs hxl hr1))
  obtain ⟨w0, hw0⟩ : ∃ w0, w0 = w.drewN nq := ⟨_, rfl⟩
  rw [← hw0]
  have hB0 : Below w.heap.size w w0 := by rw [hw0]; exact below_drewN (Below.refl _ _) nq
  have hz0 : w0.heap.size = w.heap.size := by rw [hw0]; rfl
  have HZ : Hid (w0.heap.size = w.heap.size) := hz0
  clear hw0 hz0
  have hc0 := hc.later hB0
  go_wp2_with fail
  refine (fresh_any ao cap 0 bs _ (by omega) (by omega) hc0).mono ?_
  rintro e w1 ⟨rfl, ho, hb⟩
  go_wp2
  go_ret3
  obtain ⟨ao', cap', e, hle, hrd⟩ := ho.rd
  cases e
  exact ⟨_, _, rfl, hle, hrd, hB0.trans (by rw [← HZ.out]; exact hb)⟩

set_option maxHeartbeats 800000 in
/-- The text is there. -/
theorem gt_ok (ao : Option Addr) (cap : Nat) (bs : List UInt8) (most : Int) (w : World) (hl : 2 ≤ bs.length) (hl' : bs.length ≤ 100000) (hcap : bs.length ≤ cap) (hc : Rd w ao bs) (hm : (M.num (bs.take 2) : Nat) ≤ most) (hq : 2 + M.num (bs.take 2) ≤ bs.length) :
    Calls Tryd.prog 18 #[.slice ao bs.length cap, .int .i64 most] w fun e w' => ∃ ao' cap' us ts, us = (bs.drop 2).take (M.num (bs.take 2)) ∧ ts = (bs.drop 2).drop (M.num (bs.take 2)) ∧
      e = .returned (.tuple #[.string ⟨us.toArray⟩, .slice ao' ts.length cap', .int .i64 0]) ∧ ts.length ≤ cap' ∧ Rd w' ao' ts ∧ Below w.heap.size w w' := by
  have hn := num2_lt bs hl
  obtain ⟨a1, xs, c1, hx, hr1, _, hs1'⟩ := cut_to w ao bs cap 2 hl hcap hc
  obtain ⟨a2, ys, c2, hy, hr2, hyc, hs2'⟩ := cut_from w ao bs cap 2 hl hcap hc
  have hs1 : ∀ wx : World, (Instr.slice 22 (.slice ao bs.length cap) none (some (.int .i64 2)) none).run Tryd.prog wx = .ok (.slice a1 xs.length c1) wx := hs1'
  have hs2 : ∀ wx : World, (Instr.slice 22 (.slice ao bs.length cap) (some (.int .i64 2)) none none).run Tryd.prog wx = .ok (.slice a2 ys.length c2) wx := hs2'
  clear hs1' hs2'
  have hxl : xs.length ≤ 2 := by rw [hx, List.length_take]; omega
  have hyl : ys.length = bs.length - 2 := by rw [hy, List.length_drop]
  rw [← hx] at hm hn hq
  have hq' : M.num xs ≤ ys.length := by omega
  obtain ⟨a3, us, c3, hu, hr3, _, hs3⟩ := cut_to w a2 ys c2 (M.num xs) hq' hyc hr2
  obtain ⟨a4, ts, c4, hv, hr4, _, hs4⟩ := cut_from w a2 ys c2 (M.num xs) hq' hyc hr2
  have htl : ts.length ≤ 100000 := by rw [hv, List.length_drop]; omega
  have HU : Hid (us = (bs.drop 2).take (M.num (bs.take 2))) := by show _ = _; rw [hu, hy, hx]
  have HV : Hid (ts = (bs.drop 2).drop (M.num (bs.take 2))) := by show _ = _; rw [hv, hy, hx]
  clear hyl hq hu hv
  clear hx hy
  go_enter Tryd.func18, Tryd.ntmps18
  go_wp2_with fail
  go_quiet ((go_at_call 27; exact read16_q _ _ a1 c1 xs hxl hr1))
  obtain ⟨w0, hw0⟩ : ∃ w0, w0 = w.drewN nq := ⟨_, rfl⟩
  rw [← hw0]
  have hB0 : Below w.heap.size w w0 := by rw [hw0]; exact below_drewN (Below.refl _ _) nq
  have hz0 : w0.heap.size = w.heap.size := by rw [hw0]; rfl
  have HZ : Hid (w0.heap.size = w.heap.size) := hz0
  clear hw0 hz0
  have hc0 := hc.later hB0
  have hr3' := hr3.later hB0
  have hr4' := hr4.later hB0
  have hv0 : (convert 22 9 (.slice a3 us.length c3)).run Tryd.prog w0 = .ok (.string ⟨us.toArray⟩) w0 := conv_any w0 a3 us c3 hr3'
  have hv1 : (convert 22 9 (.slice a3 us.length c3)).run Tryd.prog w0.drew = .ok (.string ⟨us.toArray⟩) w0.drew := conv_any w0.drew a3 us c3 hr3'
  go_wp2_with fail
  go_region_with ((go_at_call 22; refine (fresh_any a4 c4 0 ts _ (by omega) (by omega) ?_).mono ?_; exact hr4'; rintro e w1 ⟨rfl, ho, hb⟩; have hv2 : (convert 22 9 (.slice a3 us.length c3)).run Tryd.prog w1 = .ok (.string ⟨us.toArray⟩) w1 := conv_any w1 a3 us c3 (hr3'.later (Below.trans (Below.refl _ _).drew hb))))
  all_goals
    go_wp2
    go_ret3
    have hb' : Below w.heap.size w w1 := hB0.trans (by rw [← HZ.out]; exact Below.trans (Below.refl _ _).drew hb)
    have ho' : Own w1 w0.heap.size (.slice (some ⟨w0.heap.size, 0, none⟩) ts.length ts.length) ts := ho
    obtain ⟨ao', cap', e, hle, hrd⟩ := ho'.rd
    cases e
    exact ⟨_, _, us, ts, HU.out, HV.out, rfl, Nat.le_refl _, hrd, hb'⟩
end Go.Proofs.YtnkdlnphmfbagaaDoor
