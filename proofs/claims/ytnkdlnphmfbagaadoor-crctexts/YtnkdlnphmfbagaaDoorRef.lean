/- What the document's own sums and numbers answer (the reference): the same as the program's. -/
import Derived.Test.YtnkdlnphmfbagaaDoorShift
import Derived.Test.YtnkdlnphmfbagaaDoorKnown
import Derived.Deep.QuietTactic
import Derived.BigQuiet
namespace Go.Proofs.YtnkdlnphmfbagaaDoor
open Go.RowKit

set_option maxHeartbeats 800000 in
theorem rmore_any (s : Nat) (hs : s < 4294967296) (ao : Option Addr) (cap : Nat) (bs : List UInt8) (w : World) (hl : bs.length ≤ 1000000) (hc : Rd w ao bs) :
    Calls Tryd.prog 24 #[.int .u32 s, .slice ao bs.length cap] w fun e w' => e = .returned (.int .u32 (M.more s bs : Nat)) ∧ w = w' := by
  have e0 := M.w_not s hs
  go_enter Tryd.func24, Tryd.ntmps24
  go_wp2
  go_loop [5, 6] (fun r i => ∃ k : Nat, k ≤ bs.length ∧ i = .int .i64 k ∧ r = .int .u32 (M.reg (M.neg s) (bs.take k) : Nat)) (fun _ i => bs.length - (intOf i).toNat)
  case atStart => exact ⟨0, Nat.zero_le _, rfl, rfl⟩
  case round =>
    obtain ⟨k, hk, rfl, rfl⟩ := hrel
    have hq := M.reg_lt (bs.take k) _ (M.neg_lt s)
    by_cases hlt : k < bs.length
    · have HS : Hid (M.reg (M.neg s) (bs.take (k + 1)) = M.byt (M.reg (M.neg s) (bs.take k)) bs[k]) := M.reg_take _ _ _ hlt
      generalize M.reg (M.neg s) (bs.take k) = q at *
      obtain ⟨b, off, rfl, hcell⟩ := hc k hlt
      clear hc
      generalize bs[k] = c at *
      have e1 := M.w_x8 q c hq
      have h1 := M.x8_lt q c hq
      have HS1 : Hid (M.reg (M.neg s) (bs.take (k + 1)) = M.shN 8 (q ^^^ c.toNat)) := by show _ = _; rw [HS.out, M.byt_shN]
      clear HS
      generalize q ^^^ c.toNat = q1 at *
      go_wp2
      go_loop [5, 7] (fun r i => ∃ j : Nat, j ≤ 8 ∧ i = .int .i64 j ∧ r = .int .u32 (M.shN j q1 : Nat)) (fun _ i => 8 - (intOf i).toNat)
      case atStart => exact ⟨0, by omega, rfl, rfl⟩
      case round =>
        obtain ⟨j, hj, rfl, rfl⟩ := hrel
        by_cases hj8 : j < 8
        · have hq2 := M.shN_lt q1 h1 j
          have HN : Hid (M.shN (j + 1) q1 = M.sh (M.shN j q1)) := rfl
          generalize M.shN j q1 = q2 at *
          have e2 := M.w_bit q2 hq2
          rcases Nat.mod_two_eq_zero_or_one q2 with ho | ho
          · have e3 := M.w_even q2 ho
            rw [ho] at e2
            go_wp2
            go_round
            case rel => exact ⟨j + 1, by omega, by go_num, by rw [HN.out]⟩
            case measure => simp [intOf]; omega
          · have e3 := M.w_poly q2 hq2 ho
            rw [ho] at e2
            go_wp2
            go_round
            case rel => exact ⟨j + 1, by omega, by go_num, by rw [HN.out]⟩
            case measure => simp [intOf]; omega
        · obtain rfl : j = 8 := by omega
          go_wp2
          go_round
          case rel => exact ⟨k + 1, by omega, by go_num, by rw [HS1.out]⟩
          case measure => simp [intOf]; omega
    · have e6 := M.w_not _ hq
      have HT : Hid (bs.take k = bs) := List.take_of_length_le (by omega)
      have HM : Hid (M.neg (M.reg (M.neg s) (bs.take k)) = M.more s bs) := by rw [HT.out]; rfl
      go_wp2
      go_ret
      exact ⟨by rw [← HM.out]; rfl, rfl⟩

theorem rsum_any (ao : Option Addr) (cap : Nat) (bs : List UInt8) (w : World) (hl : bs.length ≤ 1000000) (hc : Rd w ao bs) :
    Calls Tryd.prog 13 #[.slice ao bs.length cap] w fun e w' => e = .returned (.int .u32 (M.sum bs : Nat)) ∧ w = w' := by
  go_enter Tryd.func13, Tryd.ntmps13
  go_wp2_with fail
  refine (rmore_any 0 (by omega) ao cap bs w hl hc).mono ?_
  rintro e w' ⟨rfl, rfl⟩
  go_wp2
  go_ret
  exact ⟨rfl, rfl⟩

theorem held_lt {W : Int} {k : Nat} : k < M.held W ↔ ((k : Int) < W ∧ k < 8) := by unfold M.held; omega

set_option maxHeartbeats 800000 in
theorem rput_any (v : Value) (n : Nat) (_hn : n < 18446744073709551616) (W : Int) (B : Nat) (bs : List UInt8) (hl : bs.length ≤ 1000000) (w : World)
    (hB : B ≤ w.heap.size) (ho : Own w B v bs) :
    Calls Tryd.prog 16 #[v, .int .u64 n, .int .i64 W] w fun e w' => ∃ v', e = .returned v' ∧ Own w' B v' (bs ++ M.le n (M.held W)) ∧ Below B w w' := by
  obtain ⟨i0, hi, hz0, hz1, hz2⟩ := info_parts Tryd.info5
  have hh := M.held_le W
  go_enter Tryd.func16, Tryd.ntmps16
  go_wp2
  go_loopw [0, 7] (fun v i wr => ∃ k : Nat, k ≤ M.held W ∧ i = .int .i64 k ∧ Own wr B v (bs ++ M.le n k) ∧ Below B w wr) (fun _ i _ => M.held W - (intOf i).toNat)
  case atStart => exact ⟨0, Nat.zero_le _, rfl, by simpa [M.le] using ho, Below.refl _ _⟩
  case round =>
    obtain ⟨k, hk, rfl, hown, hb⟩ := hrel
    by_cases hlt : k < M.held W
    · obtain ⟨hkW, hk8⟩ := held_lt.1 hlt
      have hsz : B ≤ wr.heap.size := Nat.le_trans hB hb.size
      have e1 := M.w_dig n k
      have HS : Hid (bs ++ M.le n (k + 1) = (bs ++ M.le n k) ++ [M.dig n k]) := by rw [M.le_succ, ← List.append_assoc]; exact rfl
      have hzl : (bs ++ M.le n k).length ≤ 2000000 := by rw [List.length_append, M.le_length]; omega
      generalize bs ++ M.le n k = zs at *
      have hown' : wr.ownsRow B 5 1 u0 zs.length (cellsOf zs) := hown
      go_wp2_with (at_builtin; refine wpList_append_own _ rfl (.tmp 17) (.tmp 24) 22 rfl B 5 i0 (.int .u8 0) 1 1 Tryd.underlying22 hi hz0 hz1 hz2 rfl (by decide) u0 zs.length (cellsOf zs) rfl (hown'.alloc _) ⟨wr.heap.size, 0, none⟩ 1 1 [.int .u8 ((M.dig n k).toNat : Int)] rfl rfl (cell_one_new _ _ _) ?_ ?_ ?_ ?_ ?_)
      · intro u hu; simp at hu; subst hu; rfl
      · unfold maxLen; omega
      · omega
      · simp; omega
      · intro v' w1 hown1 hgrow1 _
        have R : Own w1 B v' (zs ++ [M.dig n k]) := by unfold Own; rw [← cellsOf_snoc, List.length_append]; exact hown1
        have hb1 : Below B w w1 := by
          refine (hb.alloc hsz _).grown hgrow1 (by simp; omega) ?_
          intro g hg
          obtain ⟨_, ⟨rfl, _⟩ | ⟨g', cap', cur', rfl, hg', _⟩⟩ := hown'
          · simp [Value.ownBlock] at hg
          · simp [Value.ownBlock] at hg; omega
        clear hown1 hgrow1 hown hown' hb
        go_wp2
        go_roundw
        case rel => exact ⟨k + 1, by omega, by go_num, by rw [HS.out]; exact R, hb1⟩
        case measure => simp [intOf]; omega
    · have hkW : Hid (k = M.held W) := by show k = M.held W; omega
      have hno : ¬ ((k : Int) < W ∧ k < 8) := fun h => hlt (held_lt.2 h)
      by_cases h1 : (k : Int) < W
      · have h2 : ¬ (k : Int) < 8 := by omega
        clear hno
        go_wp2
        go_ret
        exact ⟨u0, rfl, by rw [← hkW.out]; exact hown, hb⟩
      · have h1' : decide ((k : Int) < W) = false := by simpa using h1
        clear hno
        go_wp2
        go_ret
        exact ⟨u0, rfl, by rw [← hkW.out]; exact hown, hb⟩

theorem rget_short (ao : Option Addr) (cap : Nat) (bs : List UInt8) (W : Int) (w : World) (hs : bs.length < M.held W) (hl : bs.length ≤ 1000000) :
    Calls Tryd.prog 11 #[.slice ao bs.length cap, .int .i64 W] w fun e w' => e = .returned (.tuple #[.int .u64 0, .slice ao bs.length cap, .bool false]) ∧ w = w' := by
  have h8 : ((M.held W : Nat) : Int) = max 0 (min W 8) := by unfold M.held; omega
  go_enter Tryd.func11, Tryd.ntmps11
  go_wp2
  all_goals
    go_ret3
    exact ⟨rfl, rfl⟩

set_option maxHeartbeats 800000 in
theorem rget_okHi (ao : Option Addr) (cap : Nat) (bs : List UInt8) (W : Int) (w : World) (hl : bs.length ≤ 1000000) (hcap : bs.length ≤ cap) (hc : Rd w ao bs) (hW : 8 < W) (hs : 8 ≤ bs.length) :
    Calls Tryd.prog 11 #[.slice ao bs.length cap, .int .i64 W] w fun e w' => ∃ a2 c2 zs nq, zs = bs.drop 8 ∧ e = .returned (.tuple #[.int .u64 (M.num (bs.take 8) : Nat), .slice a2 zs.length c2, .bool true]) ∧
      zs.length ≤ c2 ∧ Rd w a2 zs ∧ w' = w.drewN nq := by
  obtain ⟨a2, ys, c2, hy, hr2, hyc, hs2'⟩ := cut_from w ao bs cap 8 (by omega) hcap hc
  have hs2 : ∀ wx : World, (Instr.slice 22 (.slice ao bs.length cap) (some (.int .i64 8)) none none).run Tryd.prog wx = .ok (.slice a2 ys.length c2) wx := hs2'
  have HY : Hid (ys = bs.drop 8) := hy
  clear hy hs2'
  go_enter Tryd.func11, Tryd.ntmps11
  go_wp2
  go_loop [8, 9] (fun r i => ∃ j : Nat, j ≤ 8 ∧ i = .int .i64 j ∧ r = .int .u64 (M.num (bs.take j) : Nat)) (fun _ i => 8 - (intOf i).toNat)
  case atStart => exact ⟨0, Nat.zero_le _, rfl, rfl⟩
  case round =>
    obtain ⟨j, hj, rfl, rfl⟩ := hrel
    by_cases hlt : j < 8
    · have hjl : j < bs.length := by omega
      have hq : M.num (bs.take j) < 2 ^ (8 * j) := by have := M.num_lt (bs.take j); rwa [List.length_take, Nat.min_eq_left (by omega)] at this
      have e1 := M.w_or64 (M.num (bs.take j)) j bs[j] (by omega) hq
      have HS : Hid (M.num (bs.take (j + 1)) = M.num (bs.take j) + bs[j].toNat * 2 ^ (8 * j)) := M.num_take bs j hjl
      obtain ⟨b, off, rfl, hcell⟩ := hc j hjl
      clear hc hq
      generalize M.num (bs.take j) + bs[j].toNat * 2 ^ (8 * j) = q1 at *
      generalize M.num (bs.take j) = q at *
      generalize bs[j] = c at *
      go_wp2
      go_round
      case rel => exact ⟨j + 1, by omega, by go_num, by rw [HS.out]⟩
      case measure => simp [intOf]; omega
    · obtain rfl : j = 8 := by omega
      go_wp2
      go_quiet (fail)
      go_wp2
      go_ret3
      exact ⟨a2, c2, ys, nq, HY.out, rfl, hyc, hr2, rfl⟩

set_option maxHeartbeats 800000 in
theorem rget_okMid (ao : Option Addr) (cap : Nat) (bs : List UInt8) (k : Nat) (w : World) (hl : bs.length ≤ 1000000) (hcap : bs.length ≤ cap) (hc : Rd w ao bs) (hk : k ≤ 8) (hk0 : 0 < k) (hs : k ≤ bs.length) :
    Calls Tryd.prog 11 #[.slice ao bs.length cap, .int .i64 k] w fun e w' => ∃ a2 c2 zs nq, zs = bs.drop k ∧ e = .returned (.tuple #[.int .u64 (M.num (bs.take k) : Nat), .slice a2 zs.length c2, .bool true]) ∧
      zs.length ≤ c2 ∧ Rd w a2 zs ∧ w' = w.drewN nq := by
  obtain ⟨a2, ys, c2, hy, hr2, hyc, hs2'⟩ := cut_from w ao bs cap k (by omega) hcap hc
  have hs2 : ∀ wx : World, (Instr.slice 22 (.slice ao bs.length cap) (some (.int .i64 (k : Int))) none none).run Tryd.prog wx = .ok (.slice a2 ys.length c2) wx := hs2'
  have HY : Hid (ys = bs.drop k) := hy
  clear hy hs2'
  go_enter Tryd.func11, Tryd.ntmps11
  go_wp2
  go_loop [8, 9] (fun r i => ∃ j : Nat, j ≤ k ∧ i = .int .i64 j ∧ r = .int .u64 (M.num (bs.take j) : Nat)) (fun _ i => k - (intOf i).toNat)
  case atStart => exact ⟨0, Nat.zero_le _, rfl, rfl⟩
  case round =>
    obtain ⟨j, hj, rfl, rfl⟩ := hrel
    by_cases hlt : j < k
    · have hjl : j < bs.length := by omega
      have hq : M.num (bs.take j) < 2 ^ (8 * j) := by have := M.num_lt (bs.take j); rwa [List.length_take, Nat.min_eq_left (by omega)] at this
      have e1 := M.w_or64 (M.num (bs.take j)) j bs[j] (by omega) hq
      have HS : Hid (M.num (bs.take (j + 1)) = M.num (bs.take j) + bs[j].toNat * 2 ^ (8 * j)) := M.num_take bs j hjl
      obtain ⟨b, off, rfl, hcell⟩ := hc j hjl
      clear hc hq
      generalize M.num (bs.take j) + bs[j].toNat * 2 ^ (8 * j) = q1 at *
      generalize M.num (bs.take j) = q at *
      generalize bs[j] = c at *
      go_wp2
      go_round
      case rel => exact ⟨j + 1, by omega, by go_num, by rw [HS.out]⟩
      case measure => simp [intOf]; omega
    · obtain rfl : j = k := by omega
      go_wp2
      go_quiet (fail)
      go_wp2
      go_ret3
      exact ⟨a2, c2, ys, nq, HY.out, rfl, hyc, hr2, rfl⟩

set_option maxHeartbeats 800000 in
theorem rget_okLo (ao : Option Addr) (cap : Nat) (bs : List UInt8) (W : Int) (w : World) (hl : bs.length ≤ 1000000) (hcap : bs.length ≤ cap) (hc : Rd w ao bs) (hW : W ≤ 0) :
    Calls Tryd.prog 11 #[.slice ao bs.length cap, .int .i64 W] w fun e w' => ∃ a2 c2 zs nq, zs = bs.drop 0 ∧ e = .returned (.tuple #[.int .u64 (M.num (bs.take 0) : Nat), .slice a2 zs.length c2, .bool true]) ∧
      zs.length ≤ c2 ∧ Rd w a2 zs ∧ w' = w.drewN nq := by
  obtain ⟨a2, ys, c2, hy, hr2, hyc, hs2'⟩ := cut_from w ao bs cap 0 (by omega) hcap hc
  have hs2 : ∀ wx : World, (Instr.slice 22 (.slice ao bs.length cap) (some (.int .i64 0)) none none).run Tryd.prog wx = .ok (.slice a2 ys.length c2) wx := hs2'
  have HY : Hid (ys = bs.drop 0) := hy
  clear hy hs2'
  go_enter Tryd.func11, Tryd.ntmps11
  go_wp2
  go_loop [8, 9] (fun r i => ∃ j : Nat, j ≤ 0 ∧ i = .int .i64 j ∧ r = .int .u64 (M.num (bs.take j) : Nat)) (fun _ i => 0 - (intOf i).toNat)
  case atStart => exact ⟨0, Nat.zero_le _, rfl, rfl⟩
  case round =>
    obtain ⟨j, hj, rfl, rfl⟩ := hrel
    obtain rfl : j = 0 := by omega
    go_wp2
    go_quiet (fail)
    go_wp2
    go_ret3
    exact ⟨a2, c2, ys, nq, HY.out, rfl, hyc, hr2, rfl⟩

theorem rget_ok (ao : Option Addr) (cap : Nat) (bs : List UInt8) (W : Int) (w : World) (hl : bs.length ≤ 1000000) (hcap : bs.length ≤ cap) (hc : Rd w ao bs) (hs : M.held W ≤ bs.length) :
    Calls Tryd.prog 11 #[.slice ao bs.length cap, .int .i64 W] w fun e w' => ∃ a2 c2 zs nq, zs = bs.drop (M.held W) ∧ e = .returned (.tuple #[.int .u64 (M.num (bs.take (M.held W)) : Nat), .slice a2 zs.length c2, .bool true]) ∧
      zs.length ≤ c2 ∧ Rd w a2 zs ∧ w' = w.drewN nq := by
  by_cases h8 : 8 < W
  · have e : M.held W = 8 := by unfold M.held; omega
    rw [e] at hs ⊢
    exact rget_okHi ao cap bs W w hl hcap hc h8 hs
  · by_cases h0 : W ≤ 0
    · have e : M.held W = 0 := by unfold M.held; omega
      rw [e]
      exact rget_okLo ao cap bs W w hl hcap hc h0
    · obtain ⟨k, rfl⟩ := Int.eq_ofNat_of_zero_le (show 0 ≤ W by omega)
      have e : M.held (k : Int) = k := by unfold M.held; omega
      rw [e] at hs ⊢
      exact rget_okMid ao cap bs k w hl hcap hc (by omega) (by omega) hs
end Go.Proofs.YtnkdlnphmfbagaaDoor
