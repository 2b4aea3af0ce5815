/- What LexNumbers says: the walk. -/
import Derived.Test.YtidpalighpdlfaaDoorWdl
namespace Go.Proofs.YtidpalighpdlfaaDoor
open Go.RowKit

theorem conv_one (w : World) (d : Nat) (hd : d < 10) : (convert 36 9 (.slice (some ⟨w.heap.size, 0, none⟩) 1 1)).run Tryd.prog (w.alloc (.cells #[.int .u8 ((48 : Int) + (d : Int))] 5)) = .ok (.string ⟨[(48 + d).toUInt8].toArray⟩) (w.alloc (.cells #[.int .u8 ((48 : Int) + (d : Int))] 5)) := by
  have hv : (.int .u8 ((48 : Int) + (d : Int)) : Value) = .int .u8 (((48 + d).toUInt8.toNat : Nat) : Int) := by
    congr 1
    rw [UInt8.toNat_ofNat']
    omega
  refine conv_any _ _ [(48 + d).toUInt8] 1 ?_
  intro i hi
  obtain rfl : i = 0 := by simpa [cB] using hi
  refine ⟨_, _, rfl, ?_⟩
  exact (new_cells w [.int .u8 ((48 : Int) + (d : Int))] 5 _ rfl 0 _ rfl).trans (by rw [hv]; rfl)
set_option maxRecDepth 100000 in
set_option maxHeartbeats 1000000 in
theorem nums_any (n r k : Int) (hn0 : 0 ≤ n) (hn1 : n ≤ 65535) (hr0 : 0 ≤ r) (hk0 : 0 ≤ k) (w : World) (ht : Tabs w) (hd : Deb w) : Calls Tryd.prog 5 #[.int .u16 n, .int .u32 r, .int .u8 k] w fun e w' => e = .returned (.bool true) ∧ Below w.heap.size w w' := by
  have hk := known_any w ht hd
  obtain ⟨N, rfl⟩ := Int.eq_ofNat_of_zero_le hn0
  have ht1 : r.tmod 2097152 = r % 2097152 := Int.tmod_eq_emod_of_nonneg hr0
  have ht2 : k.tmod 26 = k % 26 := Int.tmod_eq_emod_of_nonneg hk0
  obtain ⟨c, hc⟩ : ∃ c : Nat, r % 2097152 = (c : Int) := ⟨(r % 2097152).toNat, by omega⟩
  obtain ⟨kk, hkk⟩ : ∃ c : Nat, k % 26 = (c : Int) := ⟨(k % 26).toNat, by omega⟩
  have hcl : c < 2097152 := by omega
  have hkl : kk < 26 := by omega
  rw [hc] at ht1
  rw [hkk] at ht2
  have hcd := X.scan_code (n := c) (by omega)
  have hco := code_any (c : Int) (by omega) (by omega)
  simp only [Int.toNat_natCast] at hco
  have hxl := X.hexd_len 5 c (by omega)
  have hs1 := scan_of hcd (by simp [X.codeB]; omega)
  have hix := elemSize23
  by_cases hm : c ≤ 1114111
  case' pos =>
    rw [if_pos hm] at hs1
    have g1 : decide ((c : Int) ≤ 1114111) = true := decide_eq_true (by omega)
    have HS1 := hide hs1
    clear hs1 hcd
    go_enter Tryd.func5, Tryd.ntmps5
    go_wp2_with fail
    refine hk.mono ?_
    rintro e w1 ⟨rfl, hb1⟩
    go_wp2_with fail
    refine (hco w1).mono ?_
    rintro e w2 ⟨rfl, rfl⟩
    go_wp2_with fail
    refine (HS1.out _ (ht.later hb1)).mono ?_
    rintro e w3 ⟨ha, hb3⟩
    obtain ⟨v1, rfl, hv1⟩ := ha.ok
    have hbA := nx hb1 hb3
    obtain ⟨b1, o1, cap1, rfl, x0, x2, x3, x5⟩ := two_rd hv1 (Below.refl _ _)
    simp only [show ((4 : Nat) : Int) = 4 from rfl] at x0
    clear ha hv1 hk
    go_wp2
    clear x0 x2 x3 x5 g1 HS1 hco
  case' neg =>
    rw [if_neg hm] at hs1
    have g1 : decide ((c : Int) ≤ 1114111) = false := decide_eq_false (by omega)
    have HS1 := hide hs1
    clear hs1 hcd
    go_enter Tryd.func5, Tryd.ntmps5
    go_wp2_with fail
    refine hk.mono ?_
    rintro e w1 ⟨rfl, hb1⟩
    go_wp2_with fail
    refine (hco w1).mono ?_
    rintro e w2 ⟨rfl, rfl⟩
    go_wp2_with fail
    refine (HS1.out _ (ht.later hb1)).mono ?_
    rintro e w3 ⟨ha, hb3⟩
    obtain rfl := ha.err
    have hbA := nx hb1 hb3
    clear ha hk
    go_wp2
    clear g1 HS1 hco
  all_goals
    go_loopw [11, 12] (fun q u wr => ∃ i : Nat, u = .int .i64 (i : Int) ∧ 1 ≤ i ∧ i ≤ kk + 1 ∧ q = .string ⟨(36 :: 97 :: List.replicate (i - 1) 98).toArray⟩ ∧ wr = w3) (fun _ u _ => kk + 1 - (intOf u).toNat)
    case atStart => exact ⟨1, rfl, Nat.le_refl _, by omega, rfl, by first | rfl | trivial⟩
    case round =>
      obtain ⟨i, rfl, hi0, hi1, rfl, hwr⟩ := hrel
      obtain rfl := hwr.symm
      clear hwr
      by_cases hlt : i < kk + 1
      · have hcat := cat_eq (36 :: 97 :: List.replicate (i - 1) 98) [98]
        rw [List.cons_append, List.cons_append, ← List.replicate_succ', show i - 1 + 1 = i + 1 - 1 by omega] at hcat
        have hsz : (⟨(36 :: 97 :: List.replicate (i - 1) 98).toArray⟩ : ByteArray).size = i + 1 := by show (36 :: 97 :: List.replicate (i - 1) (98 : UInt8)).toArray.size = _; simp; omega
        have HQ : Hid ((⟨(36 :: 97 :: List.replicate (i + 1 - 1) 98).toArray⟩ : ByteArray) = ⟨(36 :: 97 :: List.replicate (i + 1 - 1) 98).toArray⟩) := hide rfl
        generalize (⟨(36 :: 97 :: List.replicate (i - 1) 98).toArray⟩ : ByteArray) = q at *
        obtain ⟨q2, hq2⟩ : ∃ q2 : ByteArray, ⟨(36 :: 97 :: List.replicate (i + 1 - 1) 98).toArray⟩ = q2 := ⟨_, rfl⟩
        rw [hq2] at hcat
        clear HQ
        have HQ2 := hide hq2
        clear hq2
        go_wp2
        go_roundw
        case rel => exact ⟨i + 1, by go_num, by omega, by omega, by rw [HQ2.out], by first | rfl | trivial⟩
        case measure => simp [intOf]; omega
      · obtain rfl : i = kk + 1 := by omega
        have hsn := X.scan_name kk
        have hs2 := scan_of hsn (by simp; omega)
        have hsz : (⟨(36 :: 97 :: List.replicate kk 98).toArray⟩ : ByteArray).size = kk + 2 := by show (36 :: 97 :: List.replicate kk (98 : UInt8)).toArray.size = _; simp
        rw [show kk + 1 - 1 = kk by omega]
        obtain ⟨q, hq⟩ : ∃ q2 : ByteArray, ⟨(36 :: 97 :: List.replicate kk 98).toArray⟩ = q2 := ⟨_, rfl⟩
        rw [hq] at hsz hs2 ⊢
        clear hq hsn
        by_cases hkn : kk + 1 ≤ 20
        case' pos =>
          rw [if_pos hkn] at hs2
          have HS2 := hide hs2
          clear hs2
          go_wp2_with fail
          refine (HS2.out _ (ht.later hbA)).mono ?_
          rintro e w4 ⟨ha, hb4⟩
          obtain ⟨v4, rfl, hv4⟩ := ha.ok
          have hbB := nx hbA hb4
          have g2 : decide ((kk : Int) + 2 - 1 ≤ 20) = true := decide_eq_true (by omega)
          obtain ⟨ao4, cap4, rfl, _, _, _⟩ := hv4.rd
          clear ha hv4 HS2
          go_wp2
        case' neg =>
          rw [if_neg hkn] at hs2
          have HS2 := hide hs2
          clear hs2
          go_wp2_with fail
          refine (HS2.out _ (ht.later hbA)).mono ?_
          rintro e w4 ⟨ha, hb4⟩
          obtain rfl := ha.err
          have hbB := nx hbA hb4
          have g2 : decide ((kk : Int) + 2 - 1 ≤ 20) = false := decide_eq_false (by omega)
          clear ha HS2
          go_wp2
        all_goals
          clear hm
          go_loopw [16, 17] (fun q u wr => ∃ (m : Nat) (sfx : List UInt8), u = .int .i64 (m : Int) ∧ q = .string ⟨sfx.toArray⟩ ∧ X.decd N = X.decd m ++ sfx ∧ m ≤ 65535 ∧ Below w.heap.size w wr) (fun _ u _ => (intOf u).toNat)
          case atStart => exact ⟨N, [], rfl, rfl, by simp, by omega, hbB⟩
          case round =>
            obtain ⟨m, sfx, rfl, rfl, hdec, hm, hbw⟩ := hrel
            have hdl := (X.decd_len 4 N).2 (by omega)
            have hsf : sfx.length ≤ 5 := by rw [hdec] at hdl; simp at hdl; omega
            have hmod : (m : Int).tmod 10 = ((m % 10 : Nat) : Int) := by rw [Int.tmod_eq_emod_of_nonneg (by omega)]; omega
            have hdiv : (m : Int).tdiv 10 = ((m / 10 : Nat) : Int) := by rw [Int.tdiv_eq_ediv_of_nonneg (by omega)]; omega
            have hd10 : m % 10 < 10 := by omega
            have hcv := conv_one wr (m % 10) hd10
            have hcat := cat_eq [(48 + m % 10).toUInt8] sfx
            have hcs : (⟨sfx.toArray⟩ : ByteArray).size = sfx.length := by show sfx.toArray.size = _; simp
            have hbW := hbw.alloc hbw.size (.cells #[.int .u8 ((48 : Int) + ((m % 10 : Nat) : Int))] 5)
            have hsz1 : (⟨[(48 + m % 10).toUInt8].toArray⟩ : ByteArray).size = 1 := rfl
            by_cases hlt : m < 10
            · have hg : decide ((m : Int) < 10) = true := decide_eq_true (by omega)
              rw [X.decd_small hlt, show 48 + m = 48 + m % 10 by omega] at hdec
              have hs5 := scan_of (X.scan_num N) (by omega)
              have hs6 := scan_of (X.scan_nought N) (by simp; omega)
              have hcat2 := cat_eq [55, 32, 48] (X.decd N)
              have hss := str_self ⟨(X.decd N).toArray⟩
              have hcs3 : (⟨(X.decd N).toArray⟩ : ByteArray).size = (X.decd N).length := by show (X.decd N).toArray.size = _; simp
              have HT : Hid (X.decd N = X.decd N) := hide rfl
              rw [← hdec] at hcat
              obtain ⟨q1, hq1⟩ : ∃ q : ByteArray, ⟨[(48 + m % 10).toUInt8].toArray⟩ = q := ⟨_, rfl⟩
              obtain ⟨q2, hq2⟩ : ∃ q : ByteArray, ⟨sfx.toArray⟩ = q := ⟨_, rfl⟩
              obtain ⟨q3, hq3⟩ : ∃ q : ByteArray, ⟨(X.decd N).toArray⟩ = q := ⟨_, rfl⟩
              obtain ⟨q4, hq4⟩ : ∃ q : ByteArray, ⟨([55, 32, 48] ++ X.decd N).toArray⟩ = q := ⟨_, rfl⟩
              rw [hq1] at hcv hcat hsz1
              rw [hq2] at hcat hcs ⊢
              rw [hq3] at hcat hcat2 hcs3 hss hs5
              rw [hq4] at hcat2
              have hs6' : ∀ W, Tabs W → Calls Tryd.prog 9 #[.string q4] W fun e W' => AnsX (.error 2) W.heap.size e W' ∧ Below W.heap.size W W' := by rw [← hq4]; exact hs6
              have HS5 := hide hs5
              have HS6 := hide hs6'
              have HQ3 := hide hq3
              clear hs5 hs6 hs6' hdec HT hq1 hq2 hq3 hq4
              generalize m % 10 = d at *
              by_cases h99 : N ≤ 9999
              · have g9 : decide ((N : Int) ≤ 9999) = true := decide_eq_true (by omega)
                rw [if_pos h99] at HS5
                go_wp2_with fail
                refine (HS5.out _ (ht.later hbW)).mono ?_
                rintro e w5 ⟨ha, hb5⟩
                obtain ⟨v5, rfl, hv5⟩ := ha.ok
                have hbC := nx hbW hb5
                clear ha
                go_wp2_with fail
                refine (HS6.out _ (ht.later hbC)).mono ?_
                rintro e w6 ⟨ha, hb6⟩
                obtain rfl := ha.err
                have hbD := nx hbC hb6
                obtain ⟨b5, o5, cap5, rfl, y0, y2, y3, y5⟩ := two_rd hv5 hb6
                simp only [HQ3.out] at y2
                simp only [show ((3 : Nat) : Int) = 3 from rfl] at y0
                clear ha hv5 hcv
                go_wp2
                go_ret
                exact ⟨rfl, hbD⟩
              · have g9 : decide ((N : Int) ≤ 9999) = false := decide_eq_false (by omega)
                rw [if_neg h99] at HS5
                go_wp2_with fail
                refine (HS5.out _ (ht.later hbW)).mono ?_
                rintro e w5 ⟨ha, hb5⟩
                obtain rfl := ha.err
                have hbC := nx hbW hb5
                clear ha
                go_wp2_with fail
                refine (HS6.out _ (ht.later hbC)).mono ?_
                rintro e w6 ⟨ha, hb6⟩
                obtain rfl := ha.err
                have hbD := nx hbC hb6
                clear ha hcv
                go_wp2
                go_ret
                exact ⟨rfl, hbD⟩
            · have hg : decide ((m : Int) < 10) = false := decide_eq_false (by omega)
              have HD : Hid (X.decd N = X.decd (m / 10) ++ ([(48 + m % 10).toUInt8] ++ sfx)) := hide (by rw [hdec, X.decd_big hlt, List.append_assoc])
              obtain ⟨q1, hq1⟩ : ∃ q : ByteArray, ⟨[(48 + m % 10).toUInt8].toArray⟩ = q := ⟨_, rfl⟩
              obtain ⟨q2, hq2⟩ : ∃ q : ByteArray, ⟨sfx.toArray⟩ = q := ⟨_, rfl⟩
              obtain ⟨q3, hq3⟩ : ∃ q : ByteArray, ⟨([(48 + m % 10).toUInt8] ++ sfx).toArray⟩ = q := ⟨_, rfl⟩
              rw [hq1] at hcv hcat hsz1
              rw [hq2] at hcat hcs ⊢
              rw [hq3] at hcat
              have HQ := hide hq3
              clear hq1 hq2 hq3 hdec
              generalize m % 10 = d at *
              go_wp2
              go_roundw
              case rel => exact ⟨m / 10, _, by go_num, by rw [← HQ.out], HD.out, by omega, hbW⟩
              case measure => simp [intOf]; omega
end Go.Proofs.YtidpalighpdlfaaDoor
