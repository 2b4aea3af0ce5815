/- What crc.Put and crc.Get answer: a number behind bytes, the number that bytes begin with, in new memory. -/
import Derived.Test.YtnkdlnphmfbagaaDoorNum
import Derived.Deep.RegionWith
namespace Go.Proofs.YtnkdlnphmfbagaaDoor
open Go.RowKit

theorem adAdd (b off j : Nat) : (⟨b, off, none⟩ : Addr).add j = ⟨b, off + j, none⟩ := by
  unfold Addr.add
  split
  · simp_all
  · rfl

theorem rd_nil (w : World) : Rd w none [] := fun i h => by simp at h

theorem Rd.take {w : World} {ao : Option Addr} {bs : List UInt8} (h : Rd w ao bs) (k : Nat) : Rd w ao (bs.take k) := by
  intro i hi
  have hi' : i < bs.length := by rw [List.length_take] at hi; omega
  obtain ⟨b, off, e, hc⟩ := h i hi'
  exact ⟨b, off, e, by rw [List.getElem_take]; exact hc⟩

theorem Rd.drop {w : World} {ao : Option Addr} {bs : List UInt8} (h : Rd w ao bs) (k : Nat) : Rd w (ao.map (·.add k)) (bs.drop k) := by
  intro i hi
  rw [List.length_drop] at hi
  obtain ⟨b, off, rfl, hc⟩ := h (k + i) (by omega)
  exact ⟨b, off + k, by rw [Option.map_some, adAdd], by rw [List.getElem_drop, Nat.add_assoc]; exact hc⟩

theorem Tryd.size5 (w : World) : (sizeOf (Tryd.prog.elem 22)).run Tryd.prog w = .ok 1 w := by kernel_rfl

/-- b[:k]. -/
theorem cut_to (w : World) (ao : Option Addr) (bs : List UInt8) (cap k : Nat) (hk : k ≤ bs.length) (hcap : bs.length ≤ cap) (h : Rd w ao bs) :
    ∃ (a1 : Option Addr) (xs : List UInt8) (c1 : Nat), xs = bs.take k ∧ Rd w a1 xs ∧ xs.length ≤ c1 ∧
      ∀ wx : World, (Instr.slice 22 (.slice ao bs.length cap) none (some (.int .i64 (k : Int))) none).run Tryd.prog wx = .ok (.slice a1 xs.length c1) wx := by
  refine ⟨if cap = 0 then ao else ao.map (·.add 0), bs.take k, cap, rfl, ?_, by rw [List.length_take]; omega, fun wx => ?_⟩
  · split
    · exact h.take k
    · have := (h.drop 0).take k
      rwa [List.drop_zero] at this
  · rw [run_slice_h (P := Tryd.prog) (w := wx) 22 ao bs.length cap Tryd.underlying22 .i64 (k : Int) (by omega) (by omega), Tryd.size5]
    simp only [Result.andThen, sliced, Int.toNat_natCast, Nat.sub_zero, Nat.zero_mul, List.length_take, Nat.min_eq_left hk]

/-- b[k:]. -/
theorem cut_from (w : World) (ao : Option Addr) (bs : List UInt8) (cap k : Nat) (hk : k ≤ bs.length) (hcap : bs.length ≤ cap) (h : Rd w ao bs) :
    ∃ (a1 : Option Addr) (xs : List UInt8) (c1 : Nat), xs = bs.drop k ∧ Rd w a1 xs ∧ xs.length ≤ c1 ∧
      ∀ wx : World, (Instr.slice 22 (.slice ao bs.length cap) (some (.int .i64 (k : Int))) none none).run Tryd.prog wx = .ok (.slice a1 xs.length c1) wx := by
  refine ⟨if cap = k then ao else ao.map (·.add (k * 1)), bs.drop k, cap - k, rfl, ?_, by rw [List.length_drop]; omega, fun wx => ?_⟩
  · split
    · intro i hi
      rw [List.length_drop] at hi
      omega
    · rw [Nat.mul_one]; exact h.drop k
  · rw [run_slice_l (P := Tryd.prog) (w := wx) 22 ao bs.length cap Tryd.underlying22 .i64 (k : Int) (by omega) (by omega), Tryd.size5]
    simp only [Result.andThen, sliced, Int.toNat_natCast, List.length_drop]

theorem put_any (ao : Option Addr) (cap : Nat) (bs : List UInt8) (n : Nat) (hn : n < 18446744073709551616) (W : Int) (w : World) (hl : bs.length ≤ 1000000) (hc : Rd w ao bs) :
    Calls Tryd.prog 15 #[.slice ao bs.length cap, .int .u64 n, .int .i64 W] w fun e w' => ∃ ao' cap' zs, zs = bs ++ M.le n (M.held W) ∧ e = .returned (.slice ao' zs.length cap') ∧
      zs.length ≤ cap' ∧ Own w' w.heap.size (.slice ao' zs.length cap') zs ∧ Rd w' ao' zs ∧ Below w.heap.size w w' := by
  have hh := M.held_le W
  go_enter Tryd.func15, Tryd.ntmps15
  go_wp2_with fail
  refine (held_any W _).mono ?_
  rintro e w1 ⟨rfl, rfl⟩
  go_wp2_with fail
  refine (fresh_any ao cap (M.held W) bs _ hl (by omega) hc).mono ?_
  rintro e w1 ⟨rfl, ho, hb⟩
  go_wp2_with fail
  refine (app64_any _ n hn (M.held W) hh w.heap.size bs hl w1 hb.size ho).mono ?_
  rintro e w2 ⟨v', rfl, ho2, hb2⟩
  obtain ⟨zs, hzs⟩ : ∃ zs, zs = bs ++ M.le n (M.held W) := ⟨_, rfl⟩
  rw [← hzs] at ho2
  have HZ : Hid (zs = bs ++ M.le n (M.held W)) := hzs
  clear hzs
  obtain ⟨ao', cap', rfl, hle, hrd⟩ := ho2.rd
  go_wp2
  go_ret
  exact ⟨ao', cap', zs, HZ.out, rfl, hle, ho2, hrd, hb.trans hb2⟩

theorem get_short (ao : Option Addr) (cap : Nat) (bs : List UInt8) (W : Int) (w : World) (hl : bs.length ≤ 1000000) (hc : Rd w ao bs) (hs : bs.length < M.held W) :
    Calls Tryd.prog 10 #[.slice ao bs.length cap, .int .i64 W] w fun e w' => ∃ ao' cap', e = .returned (.tuple #[.int .u64 0, .slice ao' bs.length cap', .int .i64 10]) ∧
      Own w' w.heap.size (.slice ao' bs.length cap') bs ∧ Rd w' ao' bs ∧ Below w.heap.size w w' := by
  have hh := M.held_le W
  go_enter Tryd.func10, Tryd.ntmps10
  go_wp2_with fail
  refine (held_any W _).mono ?_
  rintro e w1 ⟨rfl, rfl⟩
  go_wp2_with fail
  refine (fresh_any ao cap 0 bs _ hl (by omega) hc).mono ?_
  rintro e w1 ⟨rfl, ho, hb⟩
  go_wp2
  go_ret3
  obtain ⟨ao', cap', e, hle, hrd⟩ := ho.rd
  cases e
  exact ⟨_, _, rfl, ho, hrd, hb⟩

set_option maxHeartbeats 400000 in
theorem get_ok (ao : Option Addr) (cap : Nat) (bs : List UInt8) (W : Int) (w : World) (hl : bs.length ≤ 1000000) (hcap : bs.length ≤ cap) (hc : Rd w ao bs) (hs : M.held W ≤ bs.length) :
    Calls Tryd.prog 10 #[.slice ao bs.length cap, .int .i64 W] w fun e w' => ∃ ao' cap' zs, zs = bs.drop (M.held W) ∧ e = .returned (.tuple #[.int .u64 (M.num (bs.take (M.held W)) : Nat), .slice ao' zs.length cap', .int .i64 0]) ∧
      zs.length ≤ cap' ∧ Own w' w.heap.size (.slice ao' zs.length cap') zs ∧ Rd w' ao' zs ∧ Below w.heap.size w w' := by
  have hh := M.held_le W
  obtain ⟨a1, xs, c1, hx, hr1, _, hs1⟩ := cut_to w ao bs cap (M.held W) hs hcap hc
  obtain ⟨a2, ys, c2, hy, hr2, _, hs2⟩ := cut_from w ao bs cap (M.held W) hs hcap hc
  have hxl : xs.length ≤ 8 := by rw [hx, List.length_take]; omega
  have hyl : ys.length ≤ 1000000 := by rw [hy, List.length_drop]; omega
  have HX : Hid (xs = bs.take (M.held W)) := hx
  have HY : Hid (ys = bs.drop (M.held W)) := hy
  clear hx hy
  go_enter Tryd.func10, Tryd.ntmps10
  go_wp2_with fail
  refine (held_any W _).mono ?_
  rintro e w1 ⟨rfl, rfl⟩
  go_wp2_with fail
  go_region_with (first
    | (go_at_call 23; refine (read64_any a1 c1 xs _ hxl ?_).mono ?_; (first | exact hr1 | exact hr1.later (Below.trans (Below.refl _ _).drew (by assumption))); rintro e w' ⟨rfl, rfl⟩)
    | (go_at_call 22; refine (fresh_any a2 c2 0 ys _ hyl (by omega) ?_).mono ?_; exact hr2; rintro e w1 ⟨rfl, ho, hb⟩))
  all_goals
    go_wp2
    go_ret3
    have hb' : Below w.heap.size w w1 := Below.trans (Below.refl _ _).drew hb
    have ho' : Own w1 w.heap.size (.slice (some ⟨w.heap.size, 0, none⟩) ys.length ys.length) ys := ho
    obtain ⟨ao', cap', e, hle, hrd⟩ := ho'.rd
    cases e
    exact ⟨_, _, ys, HY.out, by rw [← HX.out]; rfl, Nat.le_refl _, ho', hrd, hb'⟩
end Go.Proofs.YtnkdlnphmfbagaaDoor
