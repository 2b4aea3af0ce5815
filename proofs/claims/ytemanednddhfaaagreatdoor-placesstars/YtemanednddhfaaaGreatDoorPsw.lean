/- PlacesStars, the walk. -/
import Derived.Test.YtemanednddhfaaaGreatDoorPst
namespace Go.Proofs.YtemanednddhfaaaGreatDoor
open Go.RowKit Go.Shelf
open E (T isS)
attribute [local go_sem] Oper.semAt_some
theorem bts_app' (a b : ByteArray) : bts (a ++ b) = bts a ++ bts b := by
  unfold bts
  simp
theorem txR_len : ∀ i, (PA.txR i).length = 3 * i + 1
  | 0 => rfl
  | i + 1 => by
    have := txR_len i
    rw [PA.txR]
    simp; omega
set_option maxRecDepth 100000 in
set_option maxHeartbeats 4000000 in
theorem pstars_any (x : Nat) (hx : x < 256) (bar : Bool) (w : World) (ht : Tabs w) (hd : Deb w) : Calls Tryz.prog 4 #[.int .u8 (x : Int), .bool bar] w fun e w' => e = .returned (.bool true) ∧ Below w.heap.size w w' := by
  have hk := known13_any w ht hd
  have hm : (x : Int) % 20 = ((x % 20 : Nat) : Int) := by omega
  have hm26 : x % 20 < 20 := Nat.mod_lt _ (by decide)
  generalize hn : x % 20 = m at *
  go_enter Tryz.func4, Tryz.ntmps4
  go_wp2_with fail
  refine hk.mono ?_
  rintro e w1 ⟨rfl, hb1⟩
  clear hk
  go_wp2
  rw [hm]
  clear hm hn
  go_loopw [6, 7] (fun p u wr => ∃ (i : Nat) (A : ByteArray), p = .string A ∧ u = .int .i64 (i : Int) ∧ i ≤ m + 1 ∧ Hid (bts A = PA.txR i) ∧ wr = w1) (fun _ u _ => m + 1 - (intOf u).toNat)
  case atStart => exact ⟨0, _, rfl, rfl, Nat.zero_le _, hide rfl, by first | rfl | trivial⟩
  case round =>
    obtain ⟨i, A, rfl, rfl, hi, HA, hwr⟩ := hrel
    obtain rfl := hwr.symm
    clear hwr
    have hAs : A.size ≤ 70 := by
      rw [← bts_len, HA.out, txR_len]; omega
    have hA2 : ∀ c : ByteArray, (A ++ c).size = A.size + c.size := fun c => ByteArray.size_append
    by_cases hlt : i < m + 1
    · go_wp2
      go_roundw
      case rel => exact ⟨i + 1, _, rfl, by go_num, by omega, hide (by rw [bts_app', HA.out, PA.txR]; rfl), by first | rfl | trivial⟩
      case measure => simp [intOf] <;> omega
    · obtain rfl : i = m + 1 := by omega
      obtain ⟨hli, t, hpt, htc, hct, hans⟩ := PA.star_ok (k := m + 1) (by omega) (by omega) bar
      obtain ⟨hac, hnb, hps⟩ := PA.treeC_ok htc
      have HLI := hide hli
      have HPT := hide hpt
      have HAN := hide hans
      clear hans hpt htc hli
      have p1 : 2 ^ (m + 1) ≤ 2 ^ 20 := Nat.pow_le_pow_right (by decide) (by omega)
      have p3 := Nat.two_pow_pos (m + 1)
      have ci : ((2 : Int) ^ (m + 1)) = ((2 ^ (m + 1) : Nat) : Int) := by simp
      rw [show (2 : Nat) ^ 20 = 1048576 from rfl] at p1
      obtain ⟨P, hP⟩ : ∃ P, 2 ^ (m + 1) = P := ⟨_, rfl⟩
      have HP := hide hP
      rw [hP] at p1 p3 ci
      have s1 : IntKind.u64.wrap (2 ^ (m + 1)) = (P : Int) := by rw [ci, IntKind.wrap_u64]; omega
      have s2 : IntKind.u64.wrap ((P : Int) - 1) = ((P - 1 : Nat) : Int) := by rw [IntKind.wrap_u64]; omega
      have e1 := bits_or_u64_nat (P - 1) P (by omega) (by omega)
      clear ci hP
      cases bar with
      | true =>
        have hA3 : (⟨#[40]⟩ ++ (A ++ ⟨#[41, 42]⟩) : ByteArray).size = 1 + (A.size + 2) := by rw [ByteArray.size_append, hA2]; rfl
        have HX : Hid (bts (⟨#[40]⟩ ++ (A ++ ⟨#[41, 42]⟩) ++ ⟨#[32, 39, 98, 41, 43]⟩) = PA.txS true (m + 1)) := hide (by rw [bts_app', bts_app', bts_app', HA.out]; rfl)
        have hsz : (⟨#[40]⟩ ++ (A ++ ⟨#[41, 42]⟩) ++ ⟨#[32, 39, 98, 41, 43]⟩ : ByteArray).size ≤ 39999 := by rw [ByteArray.size_append, hA3]; show 1 + (A.size + 2) + 5 ≤ 39999; omega
        have hpa := parse_light (⟨#[40]⟩ ++ (A ++ ⟨#[41, 42]⟩) ++ ⟨#[32, 39, 98, 41, 43]⟩) hsz (light_of (by rw [HX.out]; exact HLI.out)) w1 (ht.later hb1)
        rw [HX.out, HPT.out] at hpa
        obtain ⟨l2, l3, l4, l5, l6⟩ := PA.ans_plus HAN.out
        rw [HP.out] at l3 l4 l5 l6
        go_wp2_with fail
        refine hpa.mono ?_
        intro e w2 ha
        obtain ⟨hb2, d, rfl, htr⟩ := ha.ok
        have a2 := al1 w2 (.cells #[.int .i64 d.k, .int .i64 d.a, .slice d.sp d.sl d.sc, .string d.n, .slice d.kp d.kl d.kc] 26)
        have n2 := heap_alloc_new w2 (.cells #[.int .i64 d.k, .int .i64 d.a, .slice d.sp d.sl d.sc, .string d.n, .slice d.kp d.kl d.kc] 26)
        have B2 := nx hb1 (nx hb2 a2)
        have hN := new_any t d (w2.alloc (.cells #[.int .i64 d.k, .int .i64 d.a, .slice d.sp d.sl d.sc, .string d.n, .slice d.kp d.kl d.kc] 26)) (ht.later B2) (hd.later B2) (TR.later (fun k hk => a2.block k hk) _ htr) hps hnb
        obtain ⟨q0, q1, q2, q3, q4⟩ := cells_five n2
        clear hpa ha htr a2 n2
        unfold ND.v at hN ⊢
        go_wp2_with fail
        refine hN.mono ?_
        intro e W3 hw
        obtain ⟨hb3, A3, rfl, hA⟩ := hw.yes hac hct
        have B3 := nx B2 hb3
        have c2 := hA.null
        have c3 := hA.first
        have c4 := hA.last
        have c5 := hA.follow 0
        have c6 := hA.follow ((m : Int) + 1)
        rw [l2] at c2
        rw [l3] at c3
        rw [l4] at c4
        rw [l5] at c5
        rw [show ((m + 1 : Nat) : Int) = (m : Int) + 1 by omega] at l6
        rw [l6] at c6
        clear hN hw q0 q1 q2 q3 q4 hb1 hb2
        go_wp2_with (first | (with_reducible refine c2.mono ?_; rintro e w' ⟨rfl, rfl⟩) | (with_reducible refine c3.mono ?_; rintro e w' ⟨rfl, rfl⟩) | (with_reducible refine c4.mono ?_; rintro e w' ⟨rfl, rfl⟩) | (with_reducible refine c5.mono ?_; rintro e w' ⟨rfl, rfl⟩) | (with_reducible refine c6.mono ?_; rintro e w' ⟨rfl, rfl⟩))
        go_ret
        exact ⟨rfl, B3⟩
      | false =>
        have HX : Hid (bts (A ++ ⟨#[41, 42]⟩) = PA.txS false (m + 1)) := hide (by rw [bts_app', HA.out]; rfl)
        have hsz : (A ++ ⟨#[41, 42]⟩ : ByteArray).size ≤ 39999 := by rw [hA2]; show A.size + 2 ≤ 39999; omega
        have hpa := parse_light (A ++ ⟨#[41, 42]⟩) hsz (light_of (by rw [HX.out]; exact HLI.out)) w1 (ht.later hb1)
        rw [HX.out, HPT.out] at hpa
        obtain ⟨l2, l3, l4, l5, l6⟩ := PA.ans_star HAN.out
        rw [HP.out] at l3 l4 l5 l6
        go_wp2_with fail
        refine hpa.mono ?_
        intro e w2 ha
        obtain ⟨hb2, d, rfl, htr⟩ := ha.ok
        have a2 := al1 w2 (.cells #[.int .i64 d.k, .int .i64 d.a, .slice d.sp d.sl d.sc, .string d.n, .slice d.kp d.kl d.kc] 26)
        have n2 := heap_alloc_new w2 (.cells #[.int .i64 d.k, .int .i64 d.a, .slice d.sp d.sl d.sc, .string d.n, .slice d.kp d.kl d.kc] 26)
        have B2 := nx hb1 (nx hb2 a2)
        have hN := new_any t d (w2.alloc (.cells #[.int .i64 d.k, .int .i64 d.a, .slice d.sp d.sl d.sc, .string d.n, .slice d.kp d.kl d.kc] 26)) (ht.later B2) (hd.later B2) (TR.later (fun k hk => a2.block k hk) _ htr) hps hnb
        obtain ⟨q0, q1, q2, q3, q4⟩ := cells_five n2
        clear hpa ha htr a2 n2
        unfold ND.v at hN ⊢
        go_wp2_with fail
        refine hN.mono ?_
        intro e W3 hw
        obtain ⟨hb3, A3, rfl, hA⟩ := hw.yes hac hct
        have B3 := nx B2 hb3
        have c2 := hA.null
        have c3 := hA.first
        have c4 := hA.last
        have c5 := hA.follow 0
        have c6 := hA.follow (m : Int)
        rw [l2] at c2
        rw [l3] at c3
        rw [l4] at c4
        rw [l5] at c5
        rw [show ((m + 1 : Nat) : Int) - 1 = (m : Int) by omega] at l6
        rw [l6] at c6
        clear hN hw q0 q1 q2 q3 q4 hb1 hb2
        go_wp2_with (first | (with_reducible refine c2.mono ?_; rintro e w' ⟨rfl, rfl⟩) | (with_reducible refine c3.mono ?_; rintro e w' ⟨rfl, rfl⟩) | (with_reducible refine c4.mono ?_; rintro e w' ⟨rfl, rfl⟩) | (with_reducible refine c5.mono ?_; rintro e w' ⟨rfl, rfl⟩) | (with_reducible refine c6.mono ?_; rintro e w' ⟨rfl, rfl⟩))
        go_ret
        exact ⟨rfl, B3⟩
end Go.Proofs.YtemanednddhfaaaGreatDoor
