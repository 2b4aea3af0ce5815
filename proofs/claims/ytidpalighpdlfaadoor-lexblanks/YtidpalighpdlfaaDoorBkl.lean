/- What LexBlanks says: the walk. -/
import Derived.Test.YtidpalighpdlfaaDoorWdl
import Derived.Deep.QuietTactic
import Derived.BigQuiet
import Derived.WalkSmall
namespace Go.Proofs.YtidpalighpdlfaaDoor
open Go.RowKit

theorem ix0 (w : World) : (Instr.index 31 (.agg #[.string ⟨#[32]⟩, .string ⟨#[9, 13]⟩, .string ⟨#[32, 35, 32, 97, 32, 39, 99, 111, 109, 109, 101, 110, 116, 32, 34]⟩, .string ⟨#[35]⟩]) (.int .u8 0)).run Tryd.prog w = .ok (.string ⟨#[32]⟩) w := by kernel_rfl
theorem ix1 (w : World) : (Instr.index 31 (.agg #[.string ⟨#[32]⟩, .string ⟨#[9, 13]⟩, .string ⟨#[32, 35, 32, 97, 32, 39, 99, 111, 109, 109, 101, 110, 116, 32, 34]⟩, .string ⟨#[35]⟩]) (.int .u8 1)).run Tryd.prog w = .ok (.string ⟨#[9, 13]⟩) w := by kernel_rfl
theorem ix2 (w : World) : (Instr.index 31 (.agg #[.string ⟨#[32]⟩, .string ⟨#[9, 13]⟩, .string ⟨#[32, 35, 32, 97, 32, 39, 99, 111, 109, 109, 101, 110, 116, 32, 34]⟩, .string ⟨#[35]⟩]) (.int .u8 2)).run Tryd.prog w = .ok (.string ⟨#[32, 35, 32, 97, 32, 39, 99, 111, 109, 109, 101, 110, 116, 32, 34]⟩) w := by kernel_rfl
theorem ix3 (w : World) : (Instr.index 31 (.agg #[.string ⟨#[32]⟩, .string ⟨#[9, 13]⟩, .string ⟨#[32, 35, 32, 97, 32, 39, 99, 111, 109, 109, 101, 110, 116, 32, 34]⟩, .string ⟨#[35]⟩]) (.int .u8 3)).run Tryd.prog w = .ok (.string ⟨#[35]⟩) w := by kernel_rfl
set_option maxRecDepth 100000 in
set_option maxHeartbeats 1000000 in
theorem blanks_loop (s : ByteArray) (hs : s.size ≤ 400) (y : Int) (h0 : 0 ≤ y) (k : Nat) (v : List UInt8) (hkv : (k = 0 ∧ v = [32]) ∨ (k = 1 ∧ v = [9, 13]) ∨ (k = 2 ∧ v = [32, 35, 32, 97, 32, 39, 99, 111, 109, 109, 101, 110, 116, 32, 34]) ∨ (k = 3 ∧ v = [35])) (hy : y % 4 = (k : Int)) (w : World) (ht : Tabs w) (hd : Deb w) : Calls Tryd.prog 4 #[.string s, .int .u8 y] w fun e w' => e = .returned (.bool true) ∧ Below w.heap.size w w' := by
  have hk := known_any w ht hd
  have g1 : decide ((400 : Int) < (s.size : Int)) = false := decide_eq_false (by omega)
  have hv : v ∈ X.tails := by
    unfold X.tails
    rcases hkv with ⟨_, rfl⟩ | ⟨_, rfl⟩ | ⟨_, rfl⟩ | ⟨_, rfl⟩ <;> simp
  have hvl : v.length ≤ 15 := by rcases hkv with ⟨_, rfl⟩ | ⟨_, rfl⟩ | ⟨_, rfl⟩ | ⟨_, rfl⟩ <;> simp
  have ht4 : y.tmod 4 = (k : Int) := by rw [Int.tmod_eq_emod_of_nonneg h0]; exact hy
  have hs1 := scan_of (b := bts s) (r := X.scan 0 (bts s)) rfl (by rw [bts_len]; omega)
  rw [mk_bts] at hs1
  cases hsc : X.scan 0 (bts s) with
  | error a =>
    rw [hsc] at hs1
    clear hkv
    go_enter Tryd.func4, Tryd.ntmps4
    go_wp2_with fail
    refine hk.mono ?_
    rintro e w1 ⟨rfl, hb1⟩
    go_wp2_with fail
    refine (hs1 _ (ht.later hb1)).mono ?_
    rintro e w2 ⟨ha, hb2⟩
    obtain rfl := ha.err
    have hbb := nx hb1 hb2
    clear ha hs1
    go_wp2
    go_ret
    exact ⟨rfl, hbb⟩
  | ok l =>
    rw [hsc] at hs1
    obtain ⟨l2, hsc2, hll, hat⟩ := X.blanks hsc hv
    have hs2 := scan_of hsc2 (by simp [bts_len]; omega)
    have hsz := (X.scan_sizes 0 (bts s) l hsc).1
    rw [bts_len] at hsz
    have hc1 := cat_eq [32] (bts s)
    rw [mk_bts] at hc1
    have hc2 := cat_eq ([32] ++ bts s) v
    obtain ⟨q1, hq1⟩ : ∃ q : ByteArray, ⟨([32] ++ bts s).toArray⟩ = q := ⟨_, rfl⟩
    obtain ⟨q2, hq2⟩ : ∃ q : ByteArray, ⟨([32] ++ bts s ++ v).toArray⟩ = q := ⟨_, rfl⟩
    have hq1s : q1.size = s.size + 1 := by rw [← hq1]; show ([32] ++ bts s).toArray.size = _; simp [bts_len]
    rw [hq1] at hc1 hc2
    rw [hq2] at hc2
    have hs2' : ∀ W, Tabs W → Calls Tryd.prog 9 #[.string q2] W fun e W' => AnsX (.ok l2) W.heap.size e W' ∧ Below W.heap.size W W' := by rw [← hq2]; exact hs2
    have HS1 := hide hs1
    have HS2 := hide hs2'
    have HAT := hide hat
    have HPL : Hid (∀ p ∈ l, p.2 ≤ 100000) := hide (fun p hp => by
      obtain ⟨l', rfl, h2, _⟩ := (X.scan_out 0 (bts s)).1 l hsc
      rcases List.mem_append.1 hp with hp | hp
      · have := (h2 p hp).2.2; rw [bts_len] at this; omega
      · simp at hp; rw [hp]; simp [bts_len]; omega)
    clear hs1 hs2 hs2' hat hsc hsc2 hq1 hq2 hv
    rcases hkv with ⟨rfl, rfl⟩ | ⟨rfl, rfl⟩ | ⟨rfl, rfl⟩ | ⟨rfl, rfl⟩
    all_goals
      simp only [show ((0 : Nat) : Int) = 0 from rfl, show ((1 : Nat) : Int) = 1 from rfl, show ((2 : Nat) : Int) = 2 from rfl, show ((3 : Nat) : Int) = 3 from rfl] at hy ht4
      have hix0 := ix0
      have hix1 := ix1
      have hix2 := ix2
      have hix3 := ix3
      go_enter Tryd.func4, Tryd.ntmps4
      go_wp2_with fail
      refine hk.mono ?_
      rintro e w1 ⟨rfl, hb1⟩
      go_wp2_with fail
      refine (HS1.out _ (ht.later hb1)).mono ?_
      rintro e w2 ⟨ha, hb2⟩
      obtain ⟨v1, rfl, hv1⟩ := ha.ok
      have hbb := nx hb1 hb2
      clear ha
      go_wp2_with fail
      refine (HS2.out _ (ht.later hbb)).mono ?_
      rintro e w3 ⟨ha, hb3⟩
      obtain ⟨v2, rfl, hv2⟩ := ha.ok
      have hb4 := nx hbb hb3
      obtain ⟨ao1, cap1, rfl, _, _, hr1⟩ := hv1.rd
      obtain ⟨ao2, cap2, rfl, _, _, hr2⟩ := hv2.rd
      have hr1 := hr1.later hb3
      rw [hll]
      clear ha hv1 hv2 hk
      go_wp2
      go_loopw [12] (fun u wr => ∃ i : Nat, u = .int .i64 (i : Int) ∧ i ≤ l.length ∧ wr.heap = w3.heap ∧ Below w.heap.size w wr) (fun u _ => l.length - (intOf u).toNat)
      case atStart => exact ⟨0, rfl, Nat.zero_le _, rfl, hb4⟩
      case round =>
        obtain ⟨i, rfl, hi, hwh, hbw⟩ := hrel
        by_cases hlt : i < l.length
        · obtain ⟨b, off, rfl, c0, c1, c2, c3⟩ := hr1 i hlt
          obtain ⟨b', off', rfl, d0, d1, d2, d3⟩ := hr2 i (by omega)
          obtain ⟨ht12, hk12⟩ := HAT.out i hlt (by omega)
          have hcw : ∀ p, wr.cell? p = w3.cell? p := fun p => by simp only [World.cell?, hwh]
          rw [← hcw] at c0 c1 c2 c3 d0 d1 d2 d3
          rw [ht12] at d0 d2 d3 hk12
          have hpl : l[i].2 ≤ 100000 := HPL.out _ (List.getElem_mem hlt)
          generalize l[i] = p at *
          generalize (l2[i]'(by omega)).2 = k2 at *
          obtain ⟨⟨kd, tx, r⟩, pk⟩ := p
          simp only at c0 c1 c2 c3 d0 d1 d2 d3 hk12 hpl
          generalize (⟨tx.toArray⟩ : ByteArray) = T at *
          have hTT := str_self T
          have hix := elemSize23
          clear hcw ht12
          by_cases hz : kd = 0
          · subst hz
            clear hk12
            go_wp2
            go_quiet (fail)
            go_wp2
            go_roundw
            case rel => exact ⟨i + 1, by go_num, by omega, hwh, ⟨hbw.os, hbw.tape, hbw.output, hbw.size, hbw.block⟩⟩
            case measure => simp [intOf]; omega
          · have hk2 := hk12 hz
            have hz1 : ((kd : Int) != 0) = true := by simp; omega
            have hz2 : (((pk + 1 : Nat) : Int) != (pk : Int) + 1) = false := by simp
            rw [hk2] at d1
            clear hk12 hk2
            go_wp2
            go_quiet (fail)
            go_wp2
            go_roundw
            case rel => exact ⟨i + 1, by go_num, by omega, hwh, ⟨hbw.os, hbw.tape, hbw.output, hbw.size, hbw.block⟩⟩
            case measure => simp [intOf]; omega
        · clear hr1 hr2
          go_wp2
          go_ret
          exact ⟨rfl, hbw⟩

set_option maxRecDepth 100000 in
set_option maxHeartbeats 1000000 in
theorem blanks_any (s : ByteArray) (y : Int) (h0 : 0 ≤ y) (w : World) (ht : Tabs w) (hd : Deb w) : Calls Tryd.prog 4 #[.string s, .int .u8 y] w fun e w' => e = .returned (.bool true) ∧ Below w.heap.size w w' := by
  by_cases h4 : s.size ≤ 400
  · have hc : y % 4 = 0 ∨ y % 4 = 1 ∨ y % 4 = 2 ∨ y % 4 = 3 := by omega
    rcases hc with hc | hc | hc | hc
    · exact blanks_loop s h4 y h0 0 _ (.inl ⟨rfl, rfl⟩) hc w ht hd
    · exact blanks_loop s h4 y h0 1 _ (.inr (.inl ⟨rfl, rfl⟩)) hc w ht hd
    · exact blanks_loop s h4 y h0 2 _ (.inr (.inr (.inl ⟨rfl, rfl⟩))) hc w ht hd
    · exact blanks_loop s h4 y h0 3 _ (.inr (.inr (.inr ⟨rfl, rfl⟩))) hc w ht hd
  · have hk := known_any w ht hd
    have g1 : decide ((400 : Int) < (s.size : Int)) = true := decide_eq_true (by omega)
    go_enter Tryd.func4, Tryd.ntmps4
    go_wp2_with fail
    refine hk.mono ?_
    rintro e w1 ⟨rfl, hb1⟩
    go_wp2
    go_ret
    exact ⟨rfl, hb1⟩
end Go.Proofs.YtidpalighpdlfaaDoor
