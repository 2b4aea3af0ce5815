/- PlacesCount, the walk. -/
import Derived.Test.YtemanednddhfaaaGreatDoorPct
namespace Go.Proofs.YtemanednddhfaaaGreatDoor
open Go.RowKit Go.Shelf
open E (T isS)
attribute [local go_sem] Oper.semAt_some
theorem bts_app (a b : ByteArray) : bts (a ++ b) = bts a ++ bts b := by
  unfold bts
  simp
theorem txC_len (bar : Bool) : ∀ i, (PA.txC bar i).length ≤ 3 * i
  | 0 => by simp [PA.txC]
  | i + 1 => by
    have := txC_len bar i
    rw [PA.txC]
    split <;> simp <;> omega
theorem AnsW.big {t : T} {w W : World} {e : Ending} (h : AnsW t w e W) (ha : PA.Acc t) (hc : 60 < PA.ct t) : Below w.heap.size w W ∧ e = .returned (.tuple #[.pointer none, .int .i64 72]) := by
  obtain ⟨hb, ⟨h1, _⟩ | ⟨_, _, h1⟩ | ⟨_, h1, _⟩⟩ := h
  · exact absurd ha h1
  · exact ⟨hb, h1⟩
  · omega
set_option maxRecDepth 100000 in
set_option maxHeartbeats 4000000 in
theorem pcount_any (x : Nat) (hx : x < 256) (bar : Bool) (w : World) (ht : Tabs w) (hd : Deb w) : Calls Tryz.prog 3 #[.int .u8 (x : Int), .bool bar] w fun e w' => e = .returned (.bool true) ∧ Below w.heap.size w w' := by
  have hk := known13_any w ht hd
  have hm : (x : Int) % 70 = ((x % 70 : Nat) : Int) := by omega
  have hm26 : x % 70 < 70 := Nat.mod_lt _ (by decide)
  generalize hn : x % 70 = m at *
  go_enter Tryz.func3, Tryz.ntmps3
  go_wp2_with fail
  refine hk.mono ?_
  rintro e w1 ⟨rfl, hb1⟩
  clear hk
  go_wp2
  rw [hm]
  clear hm hn
  go_loopw [6, 7] (fun p u wr => ∃ (i : Nat) (A : ByteArray), p = .string A ∧ u = .int .i64 (i : Int) ∧ i ≤ m + 1 ∧ Hid (bts A = PA.txC bar i) ∧ wr = w1) (fun _ u _ => m + 1 - (intOf u).toNat)
  case atStart => exact ⟨0, _, rfl, rfl, Nat.zero_le _, hide rfl, by first | rfl | trivial⟩
  case round =>
    obtain ⟨i, A, rfl, rfl, hi, HA, hwr⟩ := hrel
    obtain rfl := hwr.symm
    clear hwr
    have hAs : A.size ≤ 213 := by
      rw [← bts_len, HA.out]; have := txC_len bar i; omega
    have hA2 : ∀ c : ByteArray, (A ++ c).size = A.size + c.size := fun c => ByteArray.size_append
    by_cases hlt : i < m + 1
    · by_cases hi0 : i = 0
      · subst hi0
        go_wp2
        go_roundw
        case rel => exact ⟨1, _, rfl, by go_num, by omega, hide (by rw [bts_app, HA.out]; cases bar <;> rfl), by first | rfl | trivial⟩
        case measure => simp [intOf] <;> omega
      · cases bar with
        | false =>
          go_wp2
          go_roundw
          case rel => exact ⟨i + 1, _, rfl, by go_num, by omega, hide (by rw [bts_app, HA.out, PA.txC, if_neg (by simp)]; rfl), by first | rfl | trivial⟩
          case measure => simp [intOf] <;> omega
        | true =>
          go_wp2
          go_roundw
          case rel => exact ⟨i + 1, _, rfl, by go_num, by omega, hide (by rw [bts_app, bts_app, HA.out, PA.txC, if_pos ⟨hi0, rfl⟩]; rfl), by first | rfl | trivial⟩
          case measure => simp [intOf] <;> omega
    · obtain rfl : i = m + 1 := by omega
      obtain ⟨hli, t, hpt, htc, hor⟩ := PA.cnt_ok (k := m + 1) (by omega) (by omega) bar
      have hpa := parse_light A (by omega) (light_of (by rw [HA.out]; exact hli)) w1 (ht.later hb1)
      rw [HA.out, hpt] at hpa
      obtain ⟨hac, hnb, hps⟩ := PA.treeC_ok htc
      have HOR := hide hor
      clear hor hpt htc hli
      go_wp2_with fail
      refine hpa.mono ?_
      intro e w2 ha
      obtain ⟨hb2, d, rfl, htr⟩ := ha.ok
      have a2 := al1 w2 (.cells #[.int .i64 d.k, .int .i64 d.a, .slice d.sp d.sl d.sc, .string d.n, .slice d.kp d.kl d.kc] 26)
      have n2 := heap_alloc_new w2 (.cells #[.int .i64 d.k, .int .i64 d.a, .slice d.sp d.sl d.sc, .string d.n, .slice d.kp d.kl d.kc] 26)
      have B2 := nx hb1 (nx hb2 a2)
      have hN := new_any t d (w2.alloc (.cells #[.int .i64 d.k, .int .i64 d.a, .slice d.sp d.sl d.sc, .string d.n, .slice d.kp d.kl d.kc] 26)) (ht.later B2) (hd.later B2) (TR.later (fun k hk => a2.block k hk) _ htr) hps hnb
      obtain ⟨q0, q1, q2, q3, q4⟩ := cells_five n2
      clear hpa ha htr a2 n2
      unfold ND.v at hN ⊢
      go_wp2_with fail
      refine hN.mono ?_
      intro e W3 hw
      rcases HOR.out with ⟨hk60, hct, hans⟩ | ⟨hk60, hct⟩
      · obtain ⟨hb3, A3, rfl, hA⟩ := hw.yes hac hct
        have B3 := nx B2 hb3
        clear hN hw HOR q0 q1 q2 q3 q4 hb1 hb2
        have p1 : 2 ^ (m + 1) ≤ 2 ^ 60 := Nat.pow_le_pow_right (by decide) hk60
        have p2 : 2 ^ (m + 1) = 2 * 2 ^ m := by rw [Nat.pow_succ]; omega
        have p3 := Nat.two_pow_pos m
        have ci : ((2 : Int) ^ (m + 1)) = ((2 ^ (m + 1) : Nat) : Int) := by simp
        have ci2 : ((2 : Int) ^ m) = ((2 ^ m : Nat) : Int) := by simp
        rw [show (2 : Nat) ^ 60 = 1152921504606846976 from rfl] at p1
        cases bar with
        | true =>
          obtain ⟨l1, l2, l3, l4, l5⟩ := PA.ans_bar hans
          obtain ⟨P, hP⟩ : ∃ P, 2 ^ (m + 1) = P := ⟨_, rfl⟩
          rw [hP] at l3 l4 p1 p2 ci
          have s1 : IntKind.u64.wrap (2 ^ (m + 1)) = (P : Int) := by rw [ci]; rw [IntKind.wrap_u64]; omega
          have s2 : IntKind.u64.wrap ((P : Int) - 1) = ((P - 1 : Nat) : Int) := by rw [show (P : Int) - 1 = ((P - 1 : Nat) : Int) by omega]; rw [IntKind.wrap_u64]; omega
          clear p1 p2 p3 ci ci2 hP hans
          have c1 := hA.len
          have c2 := hA.null
          have c3 := hA.first
          have c4 := hA.last
          have c5 := hA.follow 0
          rw [l1] at c1
          rw [l2] at c2
          rw [l3] at c3
          rw [l4] at c4
          rw [l5] at c5
          go_wp2_with (first | (refine c1.mono ?_; rintro e w' ⟨rfl, rfl⟩) | (refine c2.mono ?_; rintro e w' ⟨rfl, rfl⟩) | (refine c3.mono ?_; rintro e w' ⟨rfl, rfl⟩) | (refine c4.mono ?_; rintro e w' ⟨rfl, rfl⟩) | (refine c5.mono ?_; rintro e w' ⟨rfl, rfl⟩))
          go_ret
          exact ⟨rfl, B3⟩
        | false =>
          obtain ⟨l1, l2, l3, l4, l5⟩ := PA.ans_cat hans
          rw [Nat.add_sub_cancel] at l4
          obtain ⟨P, hP⟩ : ∃ P, 2 ^ (m + 1) = P := ⟨_, rfl⟩
          obtain ⟨Q, hQ⟩ : ∃ Q, 2 ^ m = Q := ⟨_, rfl⟩
          rw [hP] at p1 p2 ci
          rw [hQ] at l4 p2 ci2
          have s1 : IntKind.u64.wrap (2 ^ (m + 1)) = (P : Int) := by rw [ci]; rw [IntKind.wrap_u64]; omega
          have s2 : IntKind.u64.wrap ((P : Int) - 1) = ((P - 1 : Nat) : Int) := by rw [show (P : Int) - 1 = ((P - 1 : Nat) : Int) by omega]; rw [IntKind.wrap_u64]; omega
          have s3 : IntKind.u64.wrap (2 ^ m) = (Q : Int) := by rw [ci2]; rw [IntKind.wrap_u64]; omega
          have c1 := hA.len
          have c2 := hA.null
          have c3 := hA.first
          have c4 := hA.last
          have c5 := hA.follow 0
          rw [l1] at c1
          rw [l2] at c2
          rw [l3] at c3
          rw [l4] at c4
          by_cases hm0 : m = 0
          · subst hm0
            obtain rfl : Q = 1 := by rw [← hQ]
            clear p1 p2 p3 ci ci2 hP hQ hans
            go_wp2_with (first | (refine c1.mono ?_; rintro e w' ⟨rfl, rfl⟩) | (refine c2.mono ?_; rintro e w' ⟨rfl, rfl⟩) | (refine c3.mono ?_; rintro e w' ⟨rfl, rfl⟩) | (refine c4.mono ?_; rintro e w' ⟨rfl, rfl⟩) | (refine c5.mono ?_; rintro e w' ⟨rfl, rfl⟩))
            go_ret
            exact ⟨rfl, B3⟩
          · rw [l5.resolve_left (by omega)] at c5
            clear p1 p2 p3 ci ci2 hP hQ hans
            go_wp2_with (first | (refine c1.mono ?_; rintro e w' ⟨rfl, rfl⟩) | (refine c2.mono ?_; rintro e w' ⟨rfl, rfl⟩) | (refine c3.mono ?_; rintro e w' ⟨rfl, rfl⟩) | (refine c4.mono ?_; rintro e w' ⟨rfl, rfl⟩) | (refine c5.mono ?_; rintro e w' ⟨rfl, rfl⟩))
            go_ret
            exact ⟨rfl, B3⟩
      · obtain ⟨hb3, rfl⟩ := hw.big hac hct
        have B3 := nx B2 hb3
        clear hN hw HOR q0 q1 q2 q3 q4 hb1 hb2
        go_wp2
        go_ret
        exact ⟨rfl, B3⟩
end Go.Proofs.YtemanednddhfaaaGreatDoor
