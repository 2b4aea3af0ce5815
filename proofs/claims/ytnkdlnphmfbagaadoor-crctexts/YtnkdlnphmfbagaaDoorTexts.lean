/- The walk of CrcTexts: it answers true whatever the bytes, the text and the bound; nothing that was there has turned. -/
import Derived.Test.YtnkdlnphmfbagaaDoorRtext
import Derived.Test.YtnkdlnphmfbagaaDoorShort
import Derived.Test.YtnkdlnphmfbagaaDoorReg
import Derived.WalkSmall
namespace Go.Proofs.YtnkdlnphmfbagaaDoor
open Go.RowKit

set_option maxHeartbeats 4000000 in
theorem texts_any (aoA : Option Addr) (capA : Nat) (xs : List UInt8) (s : ByteArray) (most : Int) (hm1 : -9223372036854775808 ≤ most) (hm2 : most ≤ 9223372036854775807) (w : World) (ht : Tab w)
    (hxm : xs.length ≤ 9223372036854775807) (hsm : s.size ≤ 9223372036854775807) (hcA : xs.length ≤ capA) (hrA : Rd w aoA xs) (hnA : aoA = none → capA = 0) :
    Calls Tryd.prog 4 #[.slice aoA xs.length capA, .string s, .int .i64 most] w fun e w' => e = .returned (.bool true) ∧ Below w.heap.size w w' := by
  by_cases hx : 300 < xs.length
  · go_enter Tryd.func4, Tryd.ntmps4
    go_wp2_with fail
    refine (known_any w ht).mono ?_
    rintro e w1 ⟨rfl, hb⟩
    go_wp2
    go_ret
    exact ⟨rfl, hb⟩
  by_cases hy : 300 < s.size
  · go_enter Tryd.func4, Tryd.ntmps4
    go_wp2_with fail
    refine (known_any w ht).mono ?_
    rintro e w1 ⟨rfl, hb⟩
    go_wp2
    go_ret
    exact ⟨rfl, hb⟩
  go_enter Tryd.func4, Tryd.ntmps4
  go_wp2_with fail
  refine (known_any w ht).mono ?_
  rintro e w1 ⟨rfl, hB1⟩
  have hrA1 := hrA.later hB1
  clear ht hrA
  go_wp2_with (at_builtin; refine wpl_app rfl (.const (.slice none 0 0)) (.tmp 27) rfl w1.heap.size (.slice none 0 0) [] aoA xs capA rfl rfl (own_nil _) (Nat.le_refl _) hrA1 hnA (by simp; omega) ?_)
  intro v2 w2 ho2 hb2
  obtain ⟨ao2, cap2, rfl, hle2, hr2⟩ := ho2.rd
  have hB2 : Below w.heap.size w w2 := hB1.trans (hb2.mono hB1.size)
  have hrA2 := hrA1.later hb2
  clear hb2 ho2 hrA1
  go_wp2_with fail
  refine (text_any ao2 cap2 xs s w2 (by omega) (by omega) hr2).mono ?_
  rintro e w3 ⟨aoT, capT, zt, hzt, rfl, hleT, _, hrT, hb3⟩
  have HT := hide hzt
  clear hzt
  have hB3 : Below w.heap.size w w3 := hB2.trans (hb3.mono hB2.size)
  have hrA3 := hrA2.later hb3
  clear hb3 hr2 hrA2
  go_wp2_with (at_builtin; refine wpl_app rfl (.const (.slice none 0 0)) (.tmp 32) rfl w3.heap.size (.slice none 0 0) [] aoA xs capA rfl rfl (own_nil _) (Nat.le_refl _) hrA3 hnA (by simp; omega) ?_)
  intro v4 w4 ho4 hb4
  obtain ⟨ao4, cap4, rfl, hle4, hr4⟩ := ho4.rd
  have hB4 : Below w.heap.size w w4 := hB3.trans (hb4.mono hB3.size)
  have hrA4 := hrA3.later hb4
  have hrT4 := hrT.later hb4
  clear hb4 ho4 hrA3 hrT
  go_wp2_with fail
  refine (gt_all ao4 cap4 xs most w4 (by omega) hle4 hr4).mono ?_
  rintro e w5 ⟨us, ts, c, ao9, cap9, hgt, rfl, _, hr9, hb5⟩
  have HG := hide hgt
  clear hgt
  have hB5 : Below w.heap.size w w5 := hB4.trans (hb5.mono hB4.size)
  have hrA5 := hrA4.later hb5
  have hrT5 := hrT4.later hb5
  clear hb5 hr4 hrA4 hrT4
  go_wp2_with fail
  refine (rgt_all aoA capA xs most hm1 hm2 w5 (by omega) hcA hrA5).mono ?_
  rintro e w6 ⟨us', ts', c', ao12, cap12, hgt', rfl, hr12, nq, hw6⟩
  rw [HG.out, Prod.mk.injEq, Prod.mk.injEq] at hgt'
  obtain ⟨rfl, rfl, rfl⟩ := hgt'
  have hB6 : Below w.heap.size w w6 := by rw [hw6]; exact below_drewN hB5 nq
  have hrA6 : Rd w6 aoA xs := by rw [hw6]; exact hrA5
  have hrT6 : Rd w6 aoT zt := by rw [hw6]; exact hrT5
  have hr96 : Rd w6 ao9 ts := by rw [hw6]; exact hr9
  have hr126 : Rd w6 ao12 ts := by rw [hw6]; exact hr12
  clear hw6 hrA5 hrT5 hr9 hr12
  have hzl : zt.length = xs.length + (2 + s.size) := by
    have hsd : s.data.toList.length = s.size := Array.length_toList
    rw [HT.out, List.length_append, List.length_append, M.le_length, hsd]
    omega
  obtain ⟨aoU, zu, capU, hzu, hrU, hleU, hsU⟩ := cut_from w6 aoT zt capT xs.length (by omega) hleT hrT6
  have hzu' : zu = M.le s.size 2 ++ s.data.toList := by rw [hzu, HT.out, List.append_assoc, List.drop_left]
  have hul : zu.length = 2 + s.size := by rw [hzu, List.length_drop]; omega
  have hnum : M.num (zu.take 2) = s.size := by rw [hzu', M.take2_le, M.num_le2 _ (by omega)]
  have hdrp : zu.drop 2 = s.data.toList := by rw [hzu', M.drop2_le]
  have HN := hide hnum
  have HD := hide hdrp
  have HL := hide hul
  clear hzl hzu hzu' hul hnum hdrp
  go_wp2_with fail
  refine (gt_ok aoU capU zu 300 w6 (by rw [HL.out]; omega) (by rw [HL.out]; omega) hleU hrU (by rw [HN.out]; omega) (by rw [HN.out, HL.out]; omega)).mono ?_
  rintro e w7 ⟨aoN, capN, ut, tn, hut, htn, rfl, _, hrN, hb7⟩
  rw [HN.out, HD.out] at hut htn
  have hut' : ut = s.data.toList := by rw [hut]; exact List.take_of_length_le (by rw [Array.length_toList]; exact Nat.le_refl _)
  have htn' : tn.length = 0 := by rw [htn, List.length_drop, Array.length_toList]; exact Nat.sub_self _
  have hsu : (⟨ut.toArray⟩ : ByteArray) = s := by rw [hut']
  rw [hsu]
  obtain rfl : tn = [] := List.eq_nil_of_length_eq_zero htn'
  have hB7 : Below w.heap.size w w7 := hB6.trans (hb7.mono hB6.size)
  have hrA7 := hrA6.later hb7
  have hrT7 := hrT6.later hb7
  have hr97 := hr96.later hb7
  have hr127 := hr126.later hb7
  clear hut htn hut' htn' hsu hb7 hrA6 hrT6 hr96 hr126 hrU hsU
  go_wp2_with fail
  refine Reg.start (B := w7.drew.heap.size) (by kernel_rfl) ?_
  obtain ⟨wa, hwa⟩ : ∃ wa, wa = w7.drew := ⟨_, rfl⟩
  rw [← hwa]
  have hBa : Below w.heap.size w wa := by rw [hwa]; exact hB7.drew
  have hA : Rd wa aoA xs := by rw [hwa]; exact hrA7
  have hTt : Rd wa aoT zt := by rw [hwa]; exact hrT7
  have h9 : Rd wa ao9 ts := by rw [hwa]; exact hr97
  have h12 : Rd wa ao12 ts := by rw [hwa]; exact hr127
  clear hwa hrA7 hrT7 hr97 hr127
  refine Reg.take (fun _ _ _ _ _ h => h) 0 _ 55 (.slice aoT zt.length capT) rfl (by kernel_rfl) (by kernel_rfl) (by kernel_rfl) rfl (by kernel_rfl) (by kernel_rfl) (fun _ _ => by kernel_rfl) ?_
  refine Reg.take (fun _ _ _ _ _ h => h) 1 _ 56 (.string ⟨zt.toArray⟩) rfl (by kernel_rfl) (by kernel_rfl) (by kernel_rfl) rfl (by kernel_rfl) (by kernel_rfl) (fun w' hb => Reg.cvt rfl (u := .slice aoT zt.length capT) (by kernel_rfl) (conv_any w' aoT zt capT (hTt.later hb))) ?_
  refine Reg.take (fun _ _ _ _ _ h => h) 2 _ 57 (.slice aoA xs.length capA) rfl (by kernel_rfl) (by kernel_rfl) (by kernel_rfl) rfl (by kernel_rfl) (by kernel_rfl) (fun _ _ => by kernel_rfl) ?_
  refine Reg.take (fun _ _ _ _ _ h => h) 4 _ 59 (.string s) rfl (by kernel_rfl) (by kernel_rfl) (by kernel_rfl) rfl (by kernel_rfl) (by kernel_rfl) (fun _ _ => by kernel_rfl) ?_
  obtain ⟨v58, w58, hrun58, ho58, hb58⟩ := run_app wa wa.heap.size (.slice none 0 0) [] aoA xs capA 22 (own_nil _) (Nat.le_refl _) hA hnA (by simp; omega)
  rw [List.nil_append] at ho58
  obtain ⟨ao58, cap58, rfl, _, hr58⟩ := ho58.rd
  refine Reg.only 3 _ 58 rfl (by kernel_rfl) rfl (by kernel_rfl) (by kernel_rfl) ⟨_, _, wa.heap.size, Reg.app rfl (by kernel_rfl) (by kernel_rfl) hrun58, Nat.le_refl _, hb58, ?_⟩
  refine Reg.call 5 _ 60 20 _ _ #[.slice ao58 xs.length cap58, .string s] rfl (by kernel_rfl) rfl (by kernel_rfl) (by kernel_rfl) rfl (by kernel_rfl) (by kernel_rfl) (rtext_any _ s (by omega) wa.heap.size xs (by omega) w58 hb58.size ho58) ?_
  rintro e w60 ⟨v60, rfl, ho60, hb60⟩
  rw [← HT.out] at ho60
  obtain ⟨ao60, cap60, rfl, _, hr60⟩ := ho60.rd
  refine ⟨_, w60.heap.size, rfl, Nat.le_trans hb58.size hb60.size, hb60, ?_⟩
  have hbb := hb58.trans hb60
  replace hA := hA.later hbb
  replace hTt := hTt.later hbb
  replace h9 := h9.later hbb
  replace h12 := h12.later hbb
  refine Reg.take (fun _ _ _ _ _ h => h) 6 _ 61 (.string ⟨zt.toArray⟩) rfl (by kernel_rfl) (by kernel_rfl) (by kernel_rfl) rfl (by kernel_rfl) (by kernel_rfl) (fun w' hb => Reg.cvt rfl (u := .slice ao60 zt.length cap60) (by kernel_rfl) (conv_any w' ao60 zt cap60 (hr60.later hb))) ?_
  refine Reg.take (fun _ _ _ _ _ h => h) 7 _ 62 (.bool true) rfl (by kernel_rfl) (by kernel_rfl) (by kernel_rfl) rfl (by kernel_rfl) (by kernel_rfl) (fun _ _ => Reg.eqS (s := ⟨zt.toArray⟩) rfl (by kernel_rfl) (by kernel_rfl)) ?_
  refine Reg.take (fun _ _ _ _ _ h => h) 8 _ 63 (.bool true) rfl (by kernel_rfl) (by kernel_rfl) (by kernel_rfl) rfl (by kernel_rfl) (by kernel_rfl) (fun _ _ => by kernel_rfl) ?_
  refine Reg.take (fun _ _ _ _ _ h => h) 9 _ 64 (.string ⟨us.toArray⟩) rfl (by kernel_rfl) (by kernel_rfl) (by kernel_rfl) rfl (by kernel_rfl) (by kernel_rfl) (fun _ _ => by kernel_rfl) ?_
  refine Reg.take (fun _ _ _ _ _ h => h) 10 _ 65 (.string ⟨us.toArray⟩) rfl (by kernel_rfl) (by kernel_rfl) (by kernel_rfl) rfl (by kernel_rfl) (by kernel_rfl) (fun _ _ => by kernel_rfl) ?_
  refine Reg.take (fun _ _ _ _ _ h => h) 11 _ 66 (.bool true) rfl (by kernel_rfl) (by kernel_rfl) (by kernel_rfl) rfl (by kernel_rfl) (by kernel_rfl) (fun _ _ => Reg.eqS (s := ⟨us.toArray⟩) rfl (by kernel_rfl) (by kernel_rfl)) ?_
  refine Reg.take (fun _ _ _ _ _ h => h) 12 _ 67 (.bool true) rfl (by kernel_rfl) (by kernel_rfl) (by kernel_rfl) rfl (by kernel_rfl) (by kernel_rfl) (fun _ _ => by kernel_rfl) ?_
  refine Reg.take (fun _ _ _ _ _ h => h) 13 _ 68 (.bool true) rfl (by kernel_rfl) (by kernel_rfl) (by kernel_rfl) rfl (by kernel_rfl) (by kernel_rfl) (fun _ _ => by kernel_rfl) ?_
  refine Reg.take (fun _ _ _ _ _ h => h) 14 _ 69 (.int .i64 (c)) rfl (by kernel_rfl) (by kernel_rfl) (by kernel_rfl) rfl (by kernel_rfl) (by kernel_rfl) (fun _ _ => by kernel_rfl) ?_
  refine Reg.take (fun _ _ _ _ _ h => h) 15 _ 70 (.int .i64 (c)) rfl (by kernel_rfl) (by kernel_rfl) (by kernel_rfl) rfl (by kernel_rfl) (by kernel_rfl) (fun _ _ => by kernel_rfl) ?_
  refine Reg.take (fun _ _ _ _ _ h => h) 16 _ 71 (.bool true) rfl (by kernel_rfl) (by kernel_rfl) (by kernel_rfl) rfl (by kernel_rfl) (by kernel_rfl) (fun _ _ => Reg.eqI (k := .i64) (m := c) rfl (by kernel_rfl) (by kernel_rfl)) ?_
  refine Reg.take (fun _ _ _ _ _ h => h) 17 _ 72 (.bool true) rfl (by kernel_rfl) (by kernel_rfl) (by kernel_rfl) rfl (by kernel_rfl) (by kernel_rfl) (fun _ _ => by kernel_rfl) ?_
  refine Reg.take (fun _ _ _ _ _ h => h) 18 _ 73 (.bool true) rfl (by kernel_rfl) (by kernel_rfl) (by kernel_rfl) rfl (by kernel_rfl) (by kernel_rfl) (fun _ _ => by kernel_rfl) ?_
  refine Reg.take (fun _ _ _ _ _ h => h) 19 _ 74 (.slice ao9 ts.length cap9) rfl (by kernel_rfl) (by kernel_rfl) (by kernel_rfl) rfl (by kernel_rfl) (by kernel_rfl) (fun _ _ => by kernel_rfl) ?_
  refine Reg.take (fun _ _ _ _ _ h => h) 20 _ 75 (.string ⟨ts.toArray⟩) rfl (by kernel_rfl) (by kernel_rfl) (by kernel_rfl) rfl (by kernel_rfl) (by kernel_rfl) (fun w' hb => Reg.cvt rfl (u := .slice ao9 ts.length cap9) (by kernel_rfl) (conv_any w' ao9 ts cap9 (h9.later hb))) ?_
  refine Reg.take (fun _ _ _ _ _ h => h) 21 _ 76 (.slice ao12 ts.length cap12) rfl (by kernel_rfl) (by kernel_rfl) (by kernel_rfl) rfl (by kernel_rfl) (by kernel_rfl) (fun _ _ => by kernel_rfl) ?_
  refine Reg.take (fun _ _ _ _ _ h => h) 22 _ 77 (.string ⟨ts.toArray⟩) rfl (by kernel_rfl) (by kernel_rfl) (by kernel_rfl) rfl (by kernel_rfl) (by kernel_rfl) (fun w' hb => Reg.cvt rfl (u := .slice ao12 ts.length cap12) (by kernel_rfl) (conv_any w' ao12 ts cap12 (h12.later hb))) ?_
  refine Reg.take (fun _ _ _ _ _ h => h) 23 _ 78 (.bool true) rfl (by kernel_rfl) (by kernel_rfl) (by kernel_rfl) rfl (by kernel_rfl) (by kernel_rfl) (fun _ _ => Reg.eqS (s := ⟨ts.toArray⟩) rfl (by kernel_rfl) (by kernel_rfl)) ?_
  refine Reg.take (fun _ _ _ _ _ h => h) 24 _ 79 (.bool true) rfl (by kernel_rfl) (by kernel_rfl) (by kernel_rfl) rfl (by kernel_rfl) (by kernel_rfl) (fun _ _ => by kernel_rfl) ?_
  refine Reg.take (fun _ _ _ _ _ h => h) 25 _ 80 (.bool true) rfl (by kernel_rfl) (by kernel_rfl) (by kernel_rfl) rfl (by kernel_rfl) (by kernel_rfl) (fun _ _ => by kernel_rfl) ?_
  refine Reg.take (fun _ _ _ _ _ h => h) 26 _ 81 (.string s) rfl (by kernel_rfl) (by kernel_rfl) (by kernel_rfl) rfl (by kernel_rfl) (by kernel_rfl) (fun _ _ => by kernel_rfl) ?_
  refine Reg.take (fun _ _ _ _ _ h => h) 27 _ 82 (.string s) rfl (by kernel_rfl) (by kernel_rfl) (by kernel_rfl) rfl (by kernel_rfl) (by kernel_rfl) (fun _ _ => by kernel_rfl) ?_
  refine Reg.take (fun _ _ _ _ _ h => h) 28 _ 83 (.bool true) rfl (by kernel_rfl) (by kernel_rfl) (by kernel_rfl) rfl (by kernel_rfl) (by kernel_rfl) (fun _ _ => Reg.eqS (s := s) rfl (by kernel_rfl) (by kernel_rfl)) ?_
  refine Reg.take (fun _ _ _ _ _ h => h) 29 _ 84 (.bool true) rfl (by kernel_rfl) (by kernel_rfl) (by kernel_rfl) rfl (by kernel_rfl) (by kernel_rfl) (fun _ _ => by kernel_rfl) ?_
  refine Reg.take (fun _ _ _ _ _ h => h) 30 _ 85 (.bool true) rfl (by kernel_rfl) (by kernel_rfl) (by kernel_rfl) rfl (by kernel_rfl) (by kernel_rfl) (fun _ _ => by kernel_rfl) ?_
  refine Reg.take (fun _ _ _ _ _ h => h) 31 _ 86 (.int .i64 (0)) rfl (by kernel_rfl) (by kernel_rfl) (by kernel_rfl) rfl (by kernel_rfl) (by kernel_rfl) (fun _ _ => by kernel_rfl) ?_
  refine Reg.take (fun _ _ _ _ _ h => h) 32 _ 87 (.bool true) rfl (by kernel_rfl) (by kernel_rfl) (by kernel_rfl) rfl (by kernel_rfl) (by kernel_rfl) (fun _ _ => Reg.eqI (k := .i64) (m := 0) rfl (by kernel_rfl) (by kernel_rfl)) ?_
  refine Reg.take (fun _ _ _ _ _ h => h) 33 _ 88 (.bool true) rfl (by kernel_rfl) (by kernel_rfl) (by kernel_rfl) rfl (by kernel_rfl) (by kernel_rfl) (fun _ _ => by kernel_rfl) ?_
  refine Reg.take (fun _ _ _ _ _ h => h) 34 _ 89 (.bool true) rfl (by kernel_rfl) (by kernel_rfl) (by kernel_rfl) rfl (by kernel_rfl) (by kernel_rfl) (fun _ _ => by kernel_rfl) ?_
  refine Reg.take (fun _ _ _ _ _ h => h) 35 _ 90 (.slice aoN ([] : List UInt8).length capN) rfl (by kernel_rfl) (by kernel_rfl) (by kernel_rfl) rfl (by kernel_rfl) (by kernel_rfl) (fun _ _ => by kernel_rfl) ?_
  refine Reg.take (fun _ _ _ _ _ h => h) 36 _ 91 (.int .i64 (0)) rfl (by kernel_rfl) (by kernel_rfl) (by kernel_rfl) rfl (by kernel_rfl) (by kernel_rfl) (fun _ _ => by kernel_rfl) ?_
  refine Reg.take (fun _ _ _ _ _ h => h) 37 _ 92 (.bool true) rfl (by kernel_rfl) (by kernel_rfl) (by kernel_rfl) rfl (by kernel_rfl) (by kernel_rfl) (fun _ _ => Reg.eqI (k := .i64) (m := 0) rfl (by kernel_rfl) (by kernel_rfl)) ?_
  refine Reg.take (fun _ _ _ _ _ h => h) 38 _ 93 (.bool true) rfl (by kernel_rfl) (by kernel_rfl) (by kernel_rfl) rfl (by kernel_rfl) (by kernel_rfl) (fun _ _ => by kernel_rfl) ?_
  refine Reg.take (fun _ _ _ _ _ h => h) 39 _ 6 (.bool true) rfl (by kernel_rfl) (by kernel_rfl) (by kernel_rfl) rfl (by kernel_rfl) (by kernel_rfl) (fun _ _ => by kernel_rfl) ?_
  refine Reg.done (by kernel_rfl) ?_
  have hBend : Below w.heap.size w w60 := hBa.trans (hbb.mono hBa.size)
  go_wp2
  refine bodyPost_ret (results_tmp rfl _ _ _) ((Reg.ov_defers _ _).trans rfl) ?_
  exact ⟨congrArg Ending.returned ((Reg.ov_look _ 6 _ (by kernel_rfl)).trans (by kernel_rfl)), hBend⟩
end Go.Proofs.YtnkdlnphmfbagaaDoor
