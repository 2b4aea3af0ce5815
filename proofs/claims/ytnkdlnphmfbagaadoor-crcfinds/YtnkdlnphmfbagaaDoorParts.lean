/- The walk of CrcParts: it answers true whatever the bytes and the place, and nothing that was there has turned. -/
import Derived.Test.YtnkdlnphmfbagaaDoorKnown
import Derived.Deep.QuietTactic
import Derived.BigQuiet
import Derived.WalkSmall
namespace Go.Proofs.YtnkdlnphmfbagaaDoor
open Go.RowKit

/-- The contracts of Sum and More, as a region that draws wants them. -/
theorem sum_q (w : World) (nq : Nat) (ao : Option Addr) (cap : Nat) (bs : List UInt8) (v : Nat) (hl : bs.length ≤ 1000000) (ht : Tab w) (hc : Rd w ao bs) (hv : M.sum bs = v) :
    Calls Tryd.prog 12 #[.slice ao bs.length cap] (w.drewN nq) fun e w'' => e = .returned (.int .u32 (v : Int)) ∧ ∃ m, w'' = w.drewN m := by
  subst hv
  exact Calls.quiet_of_same ((sum_any ao cap bs (w.drewN nq) hl ht hc).mono fun _ _ ⟨h1, h2⟩ => ⟨h1, h2.symm⟩)
theorem more_q (w : World) (nq : Nat) (s : Nat) (hs : s < 4294967296) (ao : Option Addr) (cap : Nat) (bs : List UInt8) (v : Nat) (hl : bs.length ≤ 1000000) (ht : Tab w) (hc : Rd w ao bs) (hv : M.more s bs = v) :
    Calls Tryd.prog 14 #[.int .u32 s, .slice ao bs.length cap] (w.drewN nq) fun e w'' => e = .returned (.int .u32 (v : Int)) ∧ ∃ m, w'' = w.drewN m := by
  subst hv
  exact Calls.quiet_of_same ((more_any s hs ao cap bs (w.drewN nq) hl ht hc).mono fun _ _ ⟨h1, h2⟩ => ⟨h1, h2.symm⟩)

set_option maxHeartbeats 800000 in
theorem parts_any (ao : Option Addr) (cap : Nat) (bs : List UInt8) (a : Int) (ha : 0 ≤ a) (ha' : a ≤ 65535) (w : World) (ht : Tab w) (hm : bs.length ≤ 9223372036854775807) (hcap : bs.length ≤ cap) (hc : Rd w ao bs) :
    Calls Tryd.prog 7 #[.slice ao bs.length cap, .int .u16 a] w fun e w' => e = .returned (.bool true) ∧ Below w.heap.size w w' := by
  by_cases hl : 300 < bs.length
  · go_enter Tryd.func7, Tryd.ntmps7
    go_wp2_with fail
    refine (known_any w ht).mono ?_
    rintro e w1 ⟨rfl, hb⟩
    go_wp2
    go_ret
    exact ⟨rfl, hb⟩
  · obtain ⟨k, hk⟩ : ∃ k : Nat, (k : Int) = a % ((bs.length : Int) + 1) := ⟨(a % ((bs.length : Int) + 1)).toNat, Int.toNat_of_nonneg (Int.emod_nonneg _ (by omega))⟩
    have hkl : k ≤ bs.length := by have := Int.emod_lt_of_pos a (show (0 : Int) < (bs.length : Int) + 1 by omega); omega
    go_enter Tryd.func7, Tryd.ntmps7
    go_wp2_with fail
    refine (known_any w ht).mono ?_
    rintro e w1 ⟨rfl, hb⟩
    have ht1 := ht.later hb
    have hc1 := hc.later hb
    obtain ⟨a1, xs, c1, hx, hr1, _, hs1⟩ := cut_to w1 ao bs cap k hkl hcap hc1
    obtain ⟨a2, ys, c2, hy, hr2, _, hs2⟩ := cut_from w1 ao bs cap k hkl hcap hc1
    have HM : Hid (M.more (M.sum xs) ys = M.sum bs) := by
      show _ = _
      rw [hx, hy]; unfold M.sum; rw [M.more_append, List.take_append_drop]
    have HN : Hid (M.more (M.sum bs) [] = M.sum bs) := M.more_nil _ (M.sum_lt bs)
    have hxl : xs.length ≤ 1000000 := by rw [hx, List.length_take]; omega
    have hyl : ys.length ≤ 1000000 := by rw [hy, List.length_drop]; omega
    have hbl : bs.length ≤ 1000000 := by omega
    clear hx hy
    have hk' := hk.symm
    clear hk
    go_wp2_with fail
    go_quiet (first
      | (go_at_call_of 12 (Value.slice a1 xs.length c1); exact sum_q _ _ a1 c1 xs _ hxl ht1 hr1 rfl)
      | (go_at_call_of 14 (Value.slice a2 ys.length c2); exact more_q _ _ _ (M.sum_lt _) a2 c2 ys (M.sum bs) hyl ht1 hr2 HM.out)
      | (go_at_call_of 12 (Value.slice ao bs.length cap); exact sum_q _ _ ao cap bs _ hbl ht1 hc1 rfl)
      | (go_at_call_of 14 (Value.slice none 0 0); exact more_q _ _ _ (M.sum_lt _) none 0 [] (M.sum bs) (by decide) ht1 (rd_nil _) HN.out)
      | (go_at_call_of 12 (Value.slice none 0 0); exact sum_q _ _ none 0 [] 0 (by decide) ht1 (rd_nil _) rfl))
    all_goals
      go_wp2
      go_ret
      exact ⟨rfl, below_drewN hb nq⟩
end Go.Proofs.YtnkdlnphmfbagaaDoor
