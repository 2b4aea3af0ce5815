/- What LexLines says: the walk. -/
import Derived.Test.YtidpalighpdlfabDoorKnwn
namespace Go.Proofs.YtidpalighpdlfabDoor
open Go.RowKit

/-- Scan of these bytes. -/
theorem scan_of {b : List UInt8} {r : Except Nat (List (X.Tk × Nat))} (h : X.scan 0 b = r) (hl : b.length ≤ 100000) (W : World) (hW : Tabs W) : Calls Tryd.prog 5 #[.string ⟨b.toArray⟩] W fun e W' => AnsX r W.heap.size e W' ∧ Below W.heap.size W W' := by
  have := scan_lex ⟨b.toArray⟩ (by show b.toArray.size ≤ _; simpa using hl) W hW
  rw [show bts ⟨b.toArray⟩ = b from rfl, h] at this
  exact this
def xs4 (bs : List UInt8) : List Nat := bs.map fun c => c.toNat % 4
theorem txt_snoc (l : List Nat) (x : Nat) : X.txt (l ++ [x]) = X.txt l ++ X.piece x := by simp [X.txt]
theorem rem4 (c : UInt8) : ((c.toNat : Int).tmod 4) = ((c.toNat % 4 : Nat) : Int) := by
  rw [Int.tmod_eq_emod_of_nonneg (by omega)]
  omega
set_option maxRecDepth 100000 in
set_option maxHeartbeats 1000000 in
theorem lines_any (ao : Option Addr) (cap : Nat) (bs : List UInt8) (w : World) (hr : Rd w ao (cB bs)) (ht : Tabs w) (hd : Deb w) : Calls Tryd.prog 3 #[.slice ao bs.length cap] w fun e w' => e = .returned (.bool true) ∧ Below w.heap.size w w' := by
  have hk := known_any w ht hd
  by_cases h60 : 60 < bs.length
  · have g1 : decide ((60 : Int) < (bs.length : Int)) = true := decide_eq_true (by omega)
    go_enter Tryd.func3, Tryd.ntmps3
    go_wp2_with fail
    refine hk.mono ?_
    rintro e w1 ⟨rfl, hb1⟩
    go_wp2
    go_ret
    exact ⟨rfl, hb1⟩
  have g1 : decide ((60 : Int) < (bs.length : Int)) = false := decide_eq_false (by omega)
  go_enter Tryd.func3, Tryd.ntmps3
  go_wp2_with fail
  refine hk.mono ?_
  rintro e w1 ⟨rfl, hb1⟩
  clear hk
  have hr1 := hr.later hb1
  have HD := hide hd
  clear hr hd
  go_wp2
  go_loopw [3, 4, 5, 6, 7] (fun sv nv cv hv u wr => ∃ (i a c : Nat) (h : Bool) (o : List UInt8), u = .int .i64 (i : Int) ∧ nv = .int .i64 (a : Int) ∧ cv = .int .i64 (c : Int) ∧ hv = .bool h ∧ sv = .string ⟨o.toArray⟩ ∧ i ≤ bs.length ∧ a ≤ i ∧ c ≤ i ∧ o.length ≤ 3 * i ∧ Hid (o = X.txt ((xs4 bs).take i)) ∧ Hid (X.nLine (xs4 bs) = a + X.nLine ((xs4 bs).drop i)) ∧ Hid (X.nName false (xs4 bs) = c + X.nName h ((xs4 bs).drop i)) ∧ wr = w1) (fun _ _ _ _ u _ => bs.length - (intOf u).toNat)
  case atStart => exact ⟨0, 0, 0, false, [], rfl, rfl, rfl, rfl, rfl, Nat.zero_le _, Nat.le_refl _, Nat.le_refl _, by simp, hide rfl, hide (by simp), hide (by simp), by first | rfl | trivial⟩
  case round =>
    obtain ⟨i, a, c, h, o, rfl, rfl, rfl, rfl, rfl, hi, ha, hc, hol, HO, HL, HM, hwr⟩ := hrel
    obtain rfl := hwr.symm
    clear hwr
    by_cases hlt : i < bs.length
    · obtain ⟨b, off, rfl, hcell⟩ := hr1.byte i hlt
      have hxl : i < (xs4 bs).length := by simp [xs4]; exact hlt
      have hxe : (xs4 bs)[i] = bs[i].toNat % 4 := by simp [xs4]
      have hr4 := rem4 bs[i]
      have HT : Hid (X.txt ((xs4 bs).take (i + 1)) = o ++ X.piece (bs[i].toNat % 4)) := hide (by
        rw [List.take_succ_eq_append_getElem hxl, txt_snoc, ← HO.out, hxe])
      have HDr : Hid ((xs4 bs).drop i = (bs[i].toNat % 4) :: (xs4 bs).drop (i + 1)) := hide (by
        rw [List.drop_eq_getElem_cons hxl, hxe])
      have hlt4 : bs[i].toNat % 4 < 4 := by omega
      generalize bs[i] = y at *
      obtain ⟨x, hx⟩ : ∃ x, y.toNat % 4 = x := ⟨_, rfl⟩
      have hr5 : ((y.toNat : Int) % 4) = (x : Int) := by omega
      rw [hx] at hr4 HT HDr hlt4
      clear hx hxl hxe
      have hc1 := cat_eq o [10]
      have hc2 := cat_eq o [32, 35]
      have hc3 := cat_eq o [32, 36, 97]
      rw [HDr.out] at HL HM
      clear HO HDr
      by_cases h0 : x = 0
      · subst h0
        have HL2 : Hid (X.nLine (xs4 bs) = a + 1 + X.nLine ((xs4 bs).drop (i + 1))) := hide (by rw [HL.out]; simp [X.nLine]; omega)
        have HM2 : Hid (X.nName false (xs4 bs) = c + X.nName false ((xs4 bs).drop (i + 1))) := hide (by rw [HM.out]; simp [X.nName])
        have HT2 : Hid (o ++ [10] = X.txt ((xs4 bs).take (i + 1))) := hide (by rw [HT.out]; rfl)
        clear HL HM HT
        simp only [show ((0 : Nat) : Int) = 0 from rfl] at hr4 hr5
        go_wp2
        go_roundw
        case rel => exact ⟨i + 1, a + 1, c, false, o ++ [10], by go_num, by go_num, rfl, rfl, rfl, by omega, by omega, by omega, by simp; omega, HT2, HL2, HM2, by first | rfl | trivial⟩
        case measure => simp [intOf]; omega
      · by_cases h1 : x = 1
        · subst h1
          have HL2 : Hid (X.nLine (xs4 bs) = a + X.nLine ((xs4 bs).drop (i + 1))) := hide (by rw [HL.out]; simp [X.nLine])
          have HM2 : Hid (X.nName false (xs4 bs) = c + X.nName true ((xs4 bs).drop (i + 1))) := hide (by rw [HM.out]; simp [X.nName])
          have HT2 : Hid (o ++ [32, 35] = X.txt ((xs4 bs).take (i + 1))) := hide (by rw [HT.out]; rfl)
          clear HL HM HT
          simp only [show ((1 : Nat) : Int) = 1 from rfl] at hr4 hr5
          go_wp2
          go_roundw
          case rel => exact ⟨i + 1, a, c, true, o ++ [32, 35], by go_num, rfl, rfl, rfl, rfl, by omega, by omega, by omega, by simp; omega, HT2, HL2, HM2, by first | rfl | trivial⟩
          case measure => simp [intOf]; omega
        · have e0 : ((x : Int) == 0) = false := by rw [beq_eq_false_iff_ne]; omega
          have e1 : ((x : Int) == 1) = false := by rw [beq_eq_false_iff_ne]; omega
          have HL2 : Hid (X.nLine (xs4 bs) = a + X.nLine ((xs4 bs).drop (i + 1))) := hide (by rw [HL.out]; simp [X.nLine, h0])
          have HT2 : Hid (o ++ [32, 36, 97] = X.txt ((xs4 bs).take (i + 1))) := hide (by rw [HT.out]; simp [X.piece, h0, h1])
          have HM2 : Hid (X.nName false (xs4 bs) = c + ((if h then 0 else 1) + X.nName h ((xs4 bs).drop (i + 1)))) := hide (by rw [HM.out]; simp [X.nName, h0, h1])
          clear HL HM HT h0 h1
          cases h with
          | true =>
            go_wp2
            go_roundw
            case rel => exact ⟨i + 1, a, c, true, o ++ [32, 36, 97], by go_num, rfl, rfl, rfl, rfl, by omega, by omega, by omega, by simp; omega, HT2, HL2, hide (by rw [HM2.out]; simp), by first | rfl | trivial⟩
            case measure => simp [intOf]; omega
          | false =>
            go_wp2
            go_roundw
            case rel => exact ⟨i + 1, a, c + 1, false, o ++ [32, 36, 97], by go_num, rfl, by go_num, rfl, rfl, by omega, by omega, by omega, by simp; omega, HT2, HL2, hide (by rw [HM2.out]; simp; omega), by first | rfl | trivial⟩
            case measure => simp [intOf]; omega
    · have hxl : (xs4 bs).length ≤ i := by simp [xs4]; omega
      obtain ⟨ts, hts, ht7, ht1⟩ := (X.lines_both (xs4 bs)).1 0
      have hoe : X.scan 0 o = .ok ts := by rw [HO.out, List.take_of_length_le hxl]; exact hts
      have hae : a = X.cnt 7 ts := by rw [ht7, HL.out, List.drop_eq_nil_of_le hxl]; rfl
      have hce : c = X.cnt 1 ts := by rw [ht1, HM.out, List.drop_eq_nil_of_le hxl]; cases h <;> rfl
      have hs1 := scan_of hoe (by omega)
      have hsz := X.scan_sizes 0 o ts hoe
      subst hae hce
      clear HO HL HM hts ht7 ht1 hoe hxl ha hc hr1
      have htl : ts.length ≤ 200 := by omega
      clear hsz
      go_wp2_with fail
      refine (hs1 _ (ht.later hb1)).mono ?_
      rintro e w2 ⟨hax, hb2⟩
      obtain ⟨v1, rfl, hv1⟩ := hax.ok
      have hbb := nx hb1 hb2
      obtain ⟨ao2, cap2, rfl, _, _, hrd⟩ := hv1.rd
      clear hax hv1 hs1
      go_wp2
      go_loopw [4, 5, 11] (fun nv cv u wr => ∃ i : Nat, u = .int .i64 (i : Int) ∧ i ≤ ts.length ∧ nv = .int .i64 ((X.cnt 7 (ts.drop i) : Nat) : Int) ∧ cv = .int .i64 ((X.cnt 1 (ts.drop i) : Nat) : Int) ∧ wr = w2) (fun _ _ u _ => ts.length - (intOf u).toNat)
      case atStart => exact ⟨0, rfl, Nat.zero_le _, by rw [List.drop_zero], by rw [List.drop_zero], by first | rfl | trivial⟩
      case round =>
        obtain ⟨i2, rfl, hi2, rfl, rfl, hwr⟩ := hrel
        obtain rfl := hwr.symm
        clear hwr
        have hix := elemSize24
        by_cases hlt2 : i2 < ts.length
        · obtain ⟨b, off, rfl, c0, _, _, _⟩ := hrd i2 hlt2
          have HC7 : Hid (X.cnt 7 (ts.drop i2) = (if ts[i2].1.kind = 7 then 1 else 0) + X.cnt 7 (ts.drop (i2 + 1))) := hide (by rw [List.drop_eq_getElem_cons hlt2, X.cnt_cons])
          have HC1 : Hid (X.cnt 1 (ts.drop i2) = (if ts[i2].1.kind = 1 then 1 else 0) + X.cnt 1 (ts.drop (i2 + 1))) := hide (by rw [List.drop_eq_getElem_cons hlt2, X.cnt_cons])
          generalize ts[i2].1.kind = kd at *
          have hb7 : X.cnt 7 (ts.drop i2) ≤ 200 := by
            have := List.length_filter_le (fun p : X.Tk × Nat => p.1.kind == 7) (ts.drop i2)
            rw [List.length_drop] at this
            unfold X.cnt
            omega
          have hb1' : X.cnt 1 (ts.drop i2) ≤ 200 := by
            have := List.length_filter_le (fun p : X.Tk × Nat => p.1.kind == 1) (ts.drop i2)
            rw [List.length_drop] at this
            unfold X.cnt
            omega
          generalize X.cnt 7 (ts.drop i2) = A7 at *
          generalize X.cnt 1 (ts.drop i2) = A1 at *
          by_cases h7 : kd = 7
          · have e7 : ((kd : Int) == 7) = true := by rw [h7]; rfl
            have HA : Hid (A7 = 1 + X.cnt 7 (ts.drop (i2 + 1))) := hide (by rw [HC7.out, if_pos h7])
            have HB : Hid (A1 = X.cnt 1 (ts.drop (i2 + 1))) := hide (by rw [HC1.out, if_neg (by omega)]; omega)
            clear HC7 HC1 h7
            go_wp2
            go_roundw
            case rel => exact ⟨i2 + 1, by go_num, by omega, by have := HA.out; congr 1; omega, by rw [← HB.out], by first | rfl | trivial⟩
            case measure => simp [intOf]; omega
          · have e7 : ((kd : Int) == 7) = false := by rw [beq_eq_false_iff_ne]; omega
            have HA : Hid (A7 = X.cnt 7 (ts.drop (i2 + 1))) := hide (by rw [HC7.out, if_neg h7]; omega)
            by_cases h1 : kd = 1
            · have e1 : ((kd : Int) == 1) = true := by rw [h1]; rfl
              have HB : Hid (A1 = 1 + X.cnt 1 (ts.drop (i2 + 1))) := hide (by rw [HC1.out, if_pos h1])
              clear HC7 HC1 h7 h1
              go_wp2
              go_roundw
              case rel => exact ⟨i2 + 1, by go_num, by omega, by rw [← HA.out], by have := HB.out; congr 1; omega, by first | rfl | trivial⟩
              case measure => simp [intOf]; omega
            · have e1 : ((kd : Int) == 1) = false := by rw [beq_eq_false_iff_ne]; omega
              have HB : Hid (A1 = X.cnt 1 (ts.drop (i2 + 1))) := hide (by rw [HC1.out, if_neg h1]; omega)
              clear HC7 HC1 h7 h1
              go_wp2
              go_roundw
              case rel => exact ⟨i2 + 1, by go_num, by omega, by rw [← HA.out], by rw [← HB.out], by first | rfl | trivial⟩
              case measure => simp [intOf]; omega
        · have hz7 : X.cnt 7 (ts.drop i2) = 0 := by rw [List.drop_eq_nil_of_le (by omega)]; rfl
          have hz1 : X.cnt 1 (ts.drop i2) = 0 := by rw [List.drop_eq_nil_of_le (by omega)]; rfl
          rw [hz7, hz1]
          clear hz7 hz1
          go_wp2
          go_ret
          exact ⟨rfl, hbb⟩
end Go.Proofs.YtidpalighpdlfabDoor
