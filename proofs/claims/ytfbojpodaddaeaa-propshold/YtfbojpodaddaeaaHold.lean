/- PropsHold. -/
import Derived.Test.YtfbojpodaddaeaaKnwn
import Derived.Test.YtfbojpodaddaeaaSame
namespace Go.Proofs.Ytfbojpodaddaeaa
open Go.RowKit Go.Shelf

theorem int_ul : S.inter [(65, 90), (192, 214), (216, 222)] [(97, 122), (223, 246), (248, 255)] = [] :=
  S.canon_eq (S.inter_canon _ _) S.canon_nil fun p => by rw [S.inter_has]; simp [S.hs, S.goods, S.good, S.has]; omega
theorem int_lu : S.inter [(65, 90), (97, 122), (192, 214), (216, 246), (248, 255), (880, 1327)] [(65, 90), (192, 214), (216, 222)] = [(65, 90), (192, 214), (216, 222)] :=
  S.canon_eq (S.inter_canon _ _) (canon_by (by decide) (by decide)) fun p => by rw [S.inter_has]; simp [S.hs, S.goods, S.good, S.has]; omega
theorem int_ll : S.inter [(65, 90), (97, 122), (192, 214), (216, 246), (248, 255), (880, 1327)] [(97, 122), (223, 246), (248, 255)] = [(97, 122), (223, 246), (248, 255)] :=
  S.canon_eq (S.inter_canon _ _) (canon_by (by decide) (by decide)) fun p => by rw [S.inter_has]; simp [S.hs, S.goods, S.good, S.has]; omega
theorem int_ld : S.inter [(65, 90), (97, 122), (192, 214), (216, 246), (248, 255), (880, 1327)] [(48, 57), (1632, 1641)] = [] :=
  S.canon_eq (S.inter_canon _ _) S.canon_nil fun p => by rw [S.inter_has]; simp [S.hs, S.goods, S.good, S.has]; omega
theorem hb_all (r : Int) (b : Bool) (h : b = true ↔ 0 ≤ r ∧ r ≤ 1114111) : S.hB [(0, 1114111)] r = b := by
  have h2 := S.hB_iff [(0, 1114111)] r
  rw [Bool.eq_iff_iff, h2, h]
  simp [S.hs, S.goods, S.good, S.has]
theorem told_true {p : Prop} {e : Ending} (h : Told p e) (hp : p) : e = .returned (.bool true) := by
  obtain ⟨b, rfl, hb⟩ := h
  rw [hb.2 hp]
set_option maxRecDepth 100000 in
set_option maxHeartbeats 4000000 in
theorem hold_arm (r : Int) (b : Bool) (h : b = true ↔ 0 ≤ r ∧ r ≤ 1114111) (w : World) : Calls Try.prog 4 #[.int .i32 r] w fun e W' => e = .returned (.bool true) ∧ Below w.heap.size w W' := by
  have hh := fun ao ca w hr => has_any ao ca [(0, 1114111)] r (by decide) w hr
  rw [hb_all r b h] at hh
  have H := hide h
  clear h
  go_enter Try.func4, Try.ntmps4
  go_wp2_with fail
  refine (known_any w).mono ?_
  rintro e w0 ⟨rfl, hb0⟩
  go_wp2_with fail
  refine (set_lit [85, 112, 112, 101, 114] [(65, 90), (192, 214), (216, 222)] 0 3 (by decide) (by decide) rfl w0).mono ?_
  rintro e w1 ⟨au, cu, rfl, hu, _, hb1⟩
  go_wp2_with fail
  refine (set_lit [76, 111, 119, 101, 114] [(97, 122), (223, 246), (248, 255)] 0 3 (by decide) (by decide) rfl w1).mono ?_
  rintro e w2 ⟨al, cl, rfl, hl, _, hb2⟩
  go_wp2_with fail
  refine (set_lit [76, 101, 116, 116, 101, 114] [(65, 90), (97, 122), (192, 214), (216, 246), (248, 255), (880, 1327)] 0 6 (by decide) (by decide) rfl w2).mono ?_
  rintro e w3 ⟨at_, ct, rfl, ht, _, hb3⟩
  go_wp2_with fail
  refine (set_lit [65, 110, 121] [(0, 1114111)] 0 1 (by decide) (by decide) rfl w3).mono ?_
  rintro e w4 ⟨aa, ca, rfl, ha, _, hb4⟩
  go_wp2_with fail
  refine (set_lit [68, 105, 103, 105, 116] [(48, 57), (1632, 1641)] 0 2 (by decide) (by decide) rfl w4).mono ?_
  rintro e w5 ⟨ad, cd, rfl, hd, _, hb5⟩
  have B1 := nx (nx (nx (nx (nx hb0 hb1) hb2) hb3) hb4) hb5
  replace hu := (((hu.later hb2).later hb3).later hb4).later hb5
  replace hl := ((hl.later hb3).later hb4).later hb5
  replace ht := (ht.later hb4).later hb5
  replace ha := ha.later hb5
  clear hb0 hb1 hb2 hb3 hb4 hb5
  go_wp2_with fail
  have c1 := inter_any au al cu cl [(65, 90), (192, 214), (216, 222)] [(97, 122), (223, 246), (248, 255)] (by decide) (by decide) w5 hu hl
  rw [int_ul] at c1
  refine c1.mono ?_
  rintro e w6 ⟨a6, c6, rfl, _, _, hb6⟩
  clear c1
  go_wp2_with fail
  have c1 := inter_any at_ au ct cu [(65, 90), (97, 122), (192, 214), (216, 246), (248, 255), (880, 1327)] [(65, 90), (192, 214), (216, 222)] (by decide) (by decide) w6 (ht.later hb6) (hu.later hb6)
  rw [int_lu] at c1
  refine c1.mono ?_
  rintro e w7 ⟨a7, c7, rfl, hr7, _, hb7⟩
  clear c1
  go_wp2_with fail
  refine (same_any a7 au c7 cu [(65, 90), (192, 214), (216, 222)] [(65, 90), (192, 214), (216, 222)] (by decide) (by decide) w7 hr7 ((hu.later hb6).later hb7)).mono ?_
  rintro e w8 ⟨hT, hb8⟩
  obtain rfl := told_true hT rfl
  clear hT
  have B2 := nx (nx hb6 hb7) hb8
  go_wp2_with fail
  have c1 := inter_any at_ al ct cl [(65, 90), (97, 122), (192, 214), (216, 246), (248, 255), (880, 1327)] [(97, 122), (223, 246), (248, 255)] (by decide) (by decide) w8 (ht.later B2) (hl.later B2)
  rw [int_ll] at c1
  refine c1.mono ?_
  rintro e w9 ⟨a9, c9, rfl, hr9, _, hb9⟩
  clear c1
  go_wp2_with fail
  refine (same_any a9 al c9 cl [(97, 122), (223, 246), (248, 255)] [(97, 122), (223, 246), (248, 255)] (by decide) (by decide) w9 hr9 (hl.later (nx B2 hb9))).mono ?_
  rintro e w10 ⟨hT, hb10⟩
  obtain rfl := told_true hT rfl
  clear hT
  have B3 := nx (nx B2 hb9) hb10
  go_wp2_with fail
  have c1 := inter_any at_ ad ct cd [(65, 90), (97, 122), (192, 214), (216, 246), (248, 255), (880, 1327)] [(48, 57), (1632, 1641)] (by decide) (by decide) w10 (ht.later B3) (hd.later B3)
  rw [int_ld] at c1
  refine c1.mono ?_
  rintro e w11 ⟨a11, c11, rfl, _, _, hb11⟩
  clear c1
  have B4 := nx B3 hb11
  go_wp2_with fail
  refine (hh aa ca w11 (ha.later B4)).mono ?_
  rintro e w12 ⟨rfl, hb12⟩
  by_cases g1 : 0 ≤ r
  · by_cases g2 : r ≤ 1114111
    · obtain rfl : b = true := H.out.2 ⟨g1, g2⟩
      go_wp2_with fail
      refine (is_any at_ ct [(65, 90), (97, 122), (192, 214), (216, 246), (248, 255), (880, 1327)] (by decide) (by decide) w12 (ht.later (nx B4 hb12))).mono ?_
      rintro e w13 ⟨hT, hb13⟩
      obtain rfl := told_true hT (canon_by (by decide) (by decide))
      clear hT
      go_wp2
      go_ret
      exact ⟨rfl, nx (nx (nx B1 B4) hb12) hb13⟩
    · obtain rfl : b = false := by
        cases hq : b with
        | false => rfl
        | true => exact absurd (H.out.1 hq).2 g2
      have g3 : 1114111 < r := by omega
      have g4 : decide (r ≤ 1114111) = false := by simp; omega
      go_wp2_with fail
      refine (is_any at_ ct [(65, 90), (97, 122), (192, 214), (216, 246), (248, 255), (880, 1327)] (by decide) (by decide) w12 (ht.later (nx B4 hb12))).mono ?_
      rintro e w13 ⟨hT, hb13⟩
      obtain rfl := told_true hT (canon_by (by decide) (by decide))
      clear hT
      go_wp2
      go_ret
      exact ⟨rfl, nx (nx (nx B1 B4) hb12) hb13⟩
  · obtain rfl : b = false := by
      cases hq : b with
      | false => rfl
      | true => exact absurd (H.out.1 hq).1 g1
    have g3 : r < 0 := by omega
    go_wp2_with fail
    refine (is_any at_ ct [(65, 90), (97, 122), (192, 214), (216, 246), (248, 255), (880, 1327)] (by decide) (by decide) w12 (ht.later (nx B4 hb12))).mono ?_
    rintro e w13 ⟨hT, hb13⟩
    obtain rfl := told_true hT (canon_by (by decide) (by decide))
    clear hT
    go_wp2
    go_ret
    exact ⟨rfl, nx (nx (nx B1 B4) hb12) hb13⟩
theorem hold_any (r : Int) (w : World) : Calls Try.prog 4 #[.int .i32 r] w fun e W' => e = .returned (.bool true) ∧ Below w.heap.size w W' :=
  hold_arm r (decide (0 ≤ r ∧ r ≤ 1114111)) (by simp) w
end Go.Proofs.Ytfbojpodaddaeaa
