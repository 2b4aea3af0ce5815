/- The walk of CrcShort: it answers true whatever the number, the text, the cut and the bound; nothing that was there has turned. -/
import Derived.Test.YtnkdlnphmfbagaaDoorGtext
namespace Go.Proofs.YtnkdlnphmfbagaaDoor
open Go.RowKit
namespace M
theorem num_le (n : Nat) : ∀ k, num (le n k) = n % 2 ^ (8 * k)
  | 0 => by simp [le, num, Nat.mod_one]
  | k + 1 => by
    rw [le_succ, num_snoc, num_le n k, le_length, dig_nat, show 8 * (k + 1) = 8 * k + 8 from by omega, Nat.pow_add, Nat.mod_mul, Nat.mul_comm (2 ^ (8 * k))]
theorem num_le2 (n : Nat) (h : n < 65536) : num (le n 2) = n := by rw [num_le]; exact Nat.mod_eq_of_lt h
theorem take2_le (n : Nat) (t : List UInt8) : (le n 2 ++ t).take 2 = le n 2 := by
  rw [List.take_append_of_le_length (by rw [le_length]; omega), List.take_of_length_le (by rw [le_length]; omega)]
theorem drop2_le (n : Nat) (t : List UInt8) : (le n 2 ++ t).drop 2 = t := by
  rw [List.drop_append_of_le_length (by rw [le_length]; omega), List.drop_of_length_le (by rw [le_length]; omega), List.nil_append]
end M

theorem gt_cut (ao : Option Addr) (cap : Nat) (bs : List UInt8) (most : Int) (w : World) (hl' : bs.length ≤ 100000) (hcap : bs.length ≤ cap) (hc : Rd w ao bs)
    (h : bs.length < 2 ∨ ((M.num (bs.take 2) : Nat) ≤ most ∧ bs.length < 2 + M.num (bs.take 2))) :
    Calls Tryd.prog 18 #[.slice ao bs.length cap, .int .i64 most] w fun e w' => ∃ ao' cap', e = .returned (.tuple #[.string ⟨#[]⟩, .slice ao' bs.length cap', .int .i64 10]) ∧
      bs.length ≤ cap' ∧ Rd w' ao' bs ∧ Below w.heap.size w w' := by
  by_cases h2 : bs.length < 2
  · exact gt_none ao cap bs most w h2 hc
  · rcases h with h | h
    · exact absurd h h2
    · exact gt_short ao cap bs most w (by omega) hl' hcap hc h.1 h.2

set_option maxHeartbeats 800000 in
theorem short_any (n : Nat) (hn : n < 18446744073709551616) (s : ByteArray) (hs : s.size ≤ 9223372036854775807) (cut most : Int) (hc0 : 0 ≤ cut) (hc1 : cut ≤ 255) (hm0 : 0 ≤ most) (hm1 : most ≤ 255) (w : World) (ht : Tab w) :
    Calls Tryd.prog 8 #[.int .u64 n, .string s, .int .u8 cut, .int .u8 most] w fun e w' => e = .returned (.bool true) ∧ Below w.heap.size w w' := by
  by_cases hl : 200 < s.size
  · go_enter Tryd.func8, Tryd.ntmps8
    go_wp2_with fail
    refine (known_any w ht).mono ?_
    rintro e w1 ⟨rfl, hb⟩
    go_wp2
    go_ret
    exact ⟨rfl, hb⟩
  · go_enter Tryd.func8, Tryd.ntmps8
    go_wp2_with fail
    refine (known_any w ht).mono ?_
    rintro e w1 ⟨rfl, hB1⟩
    clear ht
    go_wp2_with fail
    refine (put_any none 0 [] n hn 8 _ (by decide) (rd_nil _)).mono ?_
    rintro e w2 ⟨ao2, cap2, zs, hzs, rfl, hle2, _, hr2, hb2⟩
    have hzl : zs.length = 8 := by rw [hzs, List.nil_append, M.le_length]; decide
    have hB2 : Below w.heap.size w w2 := hB1.trans (hb2.mono hB1.size)
    clear hzs hb2
    obtain ⟨k, hk⟩ : ∃ k : Nat, cut % 8 = (k : Int) := ⟨(cut % 8).toNat, by omega⟩
    have hk8 : k < 8 := by omega
    obtain ⟨a3, xs, c3, hx, hr3, hxc, hs3⟩ := cut_to w2 ao2 zs cap2 k (by omega) hle2 hr2
    have hxl : xs.length = k := by rw [hx, List.length_take]; omega
    have hx1 : xs.length ≤ k := by omega
    have hx2 : k ≤ xs.length := by omega
    clear hzl hx hxl
    go_wp2_with fail
    refine (get_short a3 c3 xs 8 w2 (by omega) hr3 (by have : M.held 8 = 8 := by decide
                                                       omega)).mono ?_
    rintro e w3 ⟨ao4, cap4, rfl, _, _, hb3⟩
    have hB3 : Below w.heap.size w w3 := hB2.trans (hb3.mono hB2.size)
    clear hb3 hr2 hr3 hs3
    go_wp2_with fail
    refine (text_any none 0 [] s w3 (by decide) (by omega) (rd_nil _)).mono ?_
    rintro e w4 ⟨ao5, cap5, cs, hcs, rfl, hle5, _, hr5, hb4⟩
    have hB4 : Below w.heap.size w w4 := hB3.trans (hb4.mono hB3.size)
    rw [List.nil_append] at hcs
    have hcl : cs.length = 2 + s.size := by rw [hcs, List.length_append, M.le_length, Array.length_toList]; rfl
    have ht2 : M.num (cs.take 2) = s.size := by rw [hcs, M.take2_le, M.num_le2 _ (by omega)]
    have hd2 : cs.drop 2 = s.data.toList := by rw [hcs, M.drop2_le]
    obtain ⟨j, hj⟩ : ∃ j : Nat, cut % (cs.length : Int) = (j : Int) := ⟨(cut % (cs.length : Int)).toNat, by rw [Int.toNat_of_nonneg (Int.emod_nonneg _ (by omega))]⟩
    have hjl : j < cs.length := by have := Int.emod_lt_of_pos cut (show (0 : Int) < (cs.length : Int) by omega); omega
    obtain ⟨a6, ys, c6, hy, hr6, hyc, hs6⟩ := cut_to w4 ao5 cs cap5 j (by omega) hle5 hr5
    have hyl : ys.length = j := by rw [hy, List.length_take]; omega
    have hy1 : ys.length ≤ j := by omega
    have hy2 : j ≤ ys.length := by omega
    have HT : Hid (M.num (cs.take 2) = s.size) := ht2
    have HD : Hid (cs.drop 2 = s.data.toList) := hd2
    have HY : Hid (ys = cs.take j) := hy
    have hc5 : cs.length ≤ 2 + s.size := by omega
    have hc6 : 2 + s.size ≤ cs.length := by omega
    clear hyl hy ht2 hd2 hcl hcs hb4
    go_wp2_with fail
    refine (gt_cut a6 c6 ys 200 w4 (by omega) hyc hr6 ?_).mono ?_
    · by_cases h2 : j < 2
      · left; omega
      · right
        have e : ys.take 2 = cs.take 2 := by rw [HY.out, List.take_take, Nat.min_eq_left (by omega)]
        rw [e, HT.out]
        omega
    rintro e w5 ⟨ao7, cap7, rfl, _, _, hb5⟩
    have hB5 : Below w.heap.size w w5 := hB4.trans (hb5.mono hB4.size)
    have hr7 := hr5.later hb5
    clear hb5 hs6 hr6 hr5
    by_cases hms : most < (s.size : Int)
    · go_wp2_with fail
      refine (gt_long ao5 cap5 cs most w5 (by omega) (by omega) hle5 hr7 (by rw [HT.out]; exact hms)).mono ?_
      rintro e w6 ⟨ao8, cap8, rfl, _, _, hb6⟩
      have hB6 : Below w.heap.size w w6 := hB5.trans (hb6.mono hB5.size)
      clear hb6 hr7
      go_wp2
      go_ret
      exact ⟨rfl, hB6⟩
    · go_wp2_with fail
      refine (gt_ok ao5 cap5 cs most w5 (by omega) (by omega) hle5 hr7 (by rw [HT.out]; omega) (by rw [HT.out]; omega)).mono ?_
      rintro e w6 ⟨ao8, cap8, us, ts, hus, hts, rfl, _, _, hb6⟩
      have hB6 : Below w.heap.size w w6 := hB5.trans (hb6.mono hB5.size)
      rw [HT.out, HD.out] at hus hts
      have hus' : us = s.data.toList := by rw [hus]; exact List.take_of_length_le (by rw [Array.length_toList]; exact Nat.le_refl _)
      have hts' : ts.length = 0 := by rw [hts, List.length_drop, Array.length_toList]; exact Nat.sub_self _
      have hsu : (⟨us.toArray⟩ : ByteArray) = s := by rw [hus']
      rw [hsu]
      obtain rfl : ts = [] := List.eq_nil_of_length_eq_zero hts'
      clear hb6 hr7 hus hts hus' hts' hsu
      go_wp2
      go_ret
      exact ⟨rfl, hB6⟩
end Go.Proofs.YtnkdlnphmfbagaaDoor
