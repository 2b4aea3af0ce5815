/- What counts for nothing: lineSize and behindBlanks of lex. -/
import Derived.Test.YtidpalighpdlfaaGreatDoorStr
namespace Go.Proofs.YtidpalighpdlfaaGreatDoor
open Go.RowKit

theorem idx_tw (c : UInt8) : ∀ (l : List UInt8), (Lib.indexByte l c = -1 ∧ (l.takeWhile (· ≠ c)).length = l.length) ∨ (Lib.indexByte l c = ((l.takeWhile (· ≠ c)).length : Int))
  | [] => .inl ⟨rfl, rfl⟩
  | b :: l => by
    by_cases h : b = c
    · refine .inr ?_
      rw [List.takeWhile_cons_of_neg (by simp [h])]
      simp [Lib.indexByte, h]
    · rw [List.takeWhile_cons_of_pos (by simp [h])]
      have hb : (b == c) = false := by simp [h]
      rcases idx_tw c l with ⟨h1, h2⟩ | h1
      · refine .inl ⟨?_, by rw [List.length_cons, List.length_cons, h2]⟩
        simp [Lib.indexByte, hb, h1]
      · refine .inr ?_
        have hn : (Lib.indexByte l c == -1) = false := by rw [h1, beq_eq_false_iff_ne]; omega
        simp only [Lib.indexByte, hb, hn, Bool.false_eq_true, if_false]
        rw [h1, List.length_cons]
        omega
set_option maxHeartbeats 1000000 in
theorem line_any (s : ByteArray) (w : World) : Calls Tryz.prog 31 #[.string s] w fun e w' => e = .returned (.int .i64 (((bts s).takeWhile (· ≠ 10)).length : Int)) ∧ w' = w := by
  have hi := idxb_any s 10 w
  have hx := idx_tw 10 (bts s)
  have hl := bts_len s
  have e10 : (10 : Int).toNat.toUInt8 = 10 := rfl
  rw [e10] at hi
  have hle := X.takeWhile_le (fun x : UInt8 => decide (x ≠ 10)) (bts s)
  obtain ⟨n, hn⟩ : ∃ n, ((bts s).takeWhile (· ≠ 10)).length = n := ⟨_, rfl⟩
  rw [hn] at hx hle
  have HN := hide hn
  clear hn
  rcases hx with ⟨h1, h2⟩ | h1
  · rw [h1] at hi
    have HE : Hid (((bts s).takeWhile (· ≠ 10)).length = s.size) := hide (by rw [HN.out, h2, hl])
    clear HN h1 h2 hl
    go_enter Tryz.func31, Tryz.ntmps31
    go_wp2_with fail
    refine hi.mono ?_
    rintro e w' ⟨rfl, rfl⟩
    go_wp2
    go_ret
    exact ⟨by rw [HE.out]; rfl, rfl⟩
  · rw [h1] at hi
    clear h1 hl
    go_enter Tryz.func31, Tryz.ntmps31
    go_wp2_with fail
    refine hi.mono ?_
    rintro e w' ⟨rfl, rfl⟩
    go_wp2
    go_ret
    exact ⟨by rw [HN.out]; rfl, rfl⟩
theorem bts_extract (s : ByteArray) (i : Nat) : bts (s.extract i s.size) = (bts s).drop i := by
  unfold bts
  rw [← Lib.toList_data, Lib.extract_toList]
  exact List.take_of_length_le (by rw [List.length_drop, ← Lib.size_eq]; exact Nat.le_refl _)
theorem extract_size (s : ByteArray) (i : Nat) : (s.extract i s.size).size = s.size - i := by
  have := congrArg List.length (bts_extract s i)
  rw [bts_len, List.length_drop, bts_len] at this
  exact this
/-- The first place from i on of which something counts. -/
def Beh (s : ByteArray) (i j : Nat) : Prop := i ≤ j ∧ j ≤ s.size ∧ X.scan i ((bts s).drop i) = X.scan j ((bts s).drop j) ∧ (j < s.size → ∃ c u, (bts s).drop j = c :: u ∧ X.blank c = false ∧ c ≠ 35)
set_option maxRecDepth 100000 in
set_option maxHeartbeats 4000000 in
theorem behind_any (s : ByteArray) (hs : s.size ≤ 100000) (i : Nat) (hi : i ≤ s.size) (w : World) : Calls Tryz.prog 20 #[.string s, .int .i64 (i : Int)] w fun e w' => (∃ j : Nat, e = .returned (.int .i64 (j : Int)) ∧ Beh s i j) ∧ w' = w := by
  go_enter Tryz.func20, Tryz.ntmps20
  go_wp2
  go_loopw [1] (fun u wr => ∃ j : Nat, u = .int .i64 (j : Int) ∧ i ≤ j ∧ j ≤ s.size ∧ Hid (X.scan i ((bts s).drop i) = X.scan j ((bts s).drop j)) ∧ wr = w) (fun u _ => s.size - (intOf u).toNat)
  case atStart => exact ⟨i, rfl, by omega, hi, hide rfl, by first | rfl | trivial⟩
  case round =>
    obtain ⟨j, rfl, hij, hj, HS, rfl⟩ := hrel
    by_cases hlt : j < s.size
    · have hl : j < (bts s).length := hlt
      obtain ⟨c, hc⟩ : ∃ c, (bts s)[j]'hl = c := ⟨_, rfl⟩
      obtain ⟨u, hu⟩ : ∃ u, (bts s).drop (j + 1) = u := ⟨_, rfl⟩
      have hx2 : ∀ h, s[j]'h = c := fun h => (idx_at (s := s) hl (j : Int) rfl h).trans hc
      have hdr := List.drop_eq_getElem_cons hl
      rw [hc, hu] at hdr
      have HD := hide hdr
      have HU := hide hu
      clear hdr hc hu
      have e32 : ((c.toNat : Int) == 32) = decide (c = 32) := u8_eq c 32
      have e9 : ((c.toNat : Int) == 9) = decide (c = 9) := u8_eq c 9
      have e13 : ((c.toNat : Int) == 13) = decide (c = 13) := u8_eq c 13
      have e35 : ((c.toNat : Int) == 35) = decide (c = 35) := u8_eq c 35
      cases hbl : X.blank c with
      | true =>
        have HS2 : Hid (X.scan i ((bts s).drop i) = X.scan (j + 1) ((bts s).drop (j + 1))) := hide (by
          rw [HS.out, HD.out, X.scan_blank _ _ hbl, HU.out])
        have hz : decide (c = 32) = true ∨ (decide (c = 32) = false ∧ decide (c = 9) = true) ∨ (decide (c = 32) = false ∧ decide (c = 9) = false ∧ decide (c = 13) = true) := by
          unfold X.blank at hbl
          by_cases h1 : c = 32
          · exact .inl (decide_eq_true h1)
          · by_cases h2 : c = 9
            · exact .inr (.inl ⟨decide_eq_false h1, decide_eq_true h2⟩)
            · refine .inr (.inr ⟨decide_eq_false h1, decide_eq_false h2, decide_eq_true ?_⟩)
              simpa [h1, h2] using hbl
        clear HS HD HU hbl e35
        rcases hz with h1 | ⟨h1, h2⟩ | ⟨h1, h2, h3⟩
        · rw [h1] at e32
          clear h1 e9 e13
          go_wp2
          go_roundw
          case rel => exact ⟨j + 1, by go_num, by omega, by omega, HS2, by first | rfl | trivial⟩
          case measure => simp [intOf]; omega
        · rw [h1] at e32
          rw [h2] at e9
          clear h1 h2 e13
          go_wp2
          go_roundw
          case rel => exact ⟨j + 1, by go_num, by omega, by omega, HS2, by first | rfl | trivial⟩
          case measure => simp [intOf]; omega
        · rw [h1] at e32
          rw [h2] at e9
          rw [h3] at e13
          clear h1 h2 h3
          go_wp2
          go_roundw
          case rel => exact ⟨j + 1, by go_num, by omega, by omega, HS2, by first | rfl | trivial⟩
          case measure => simp [intOf]; omega
      | false =>
        have hz : decide (c = 32) = false ∧ decide (c = 9) = false ∧ decide (c = 13) = false := by
          unfold X.blank at hbl
          simp only [Bool.or_eq_false_iff, beq_eq_false_iff_ne] at hbl
          exact ⟨decide_eq_false hbl.1.1, decide_eq_false hbl.1.2, decide_eq_false hbl.2⟩
        rw [hz.1] at e32
        rw [hz.2.1] at e9
        rw [hz.2.2] at e13
        clear hz
        by_cases h35 : c = 35
        · rw [decide_eq_true h35] at e35
          have hL := line_any (s.extract j s.size) wr
          rw [bts_extract s j] at hL
          have HS2 : Hid (X.scan i ((bts s).drop i) = X.scan (j + (((bts s).drop j).takeWhile (· ≠ 10)).length) ((bts s).drop (j + (((bts s).drop j).takeWhile (· ≠ 10)).length))) := hide (by
            rw [← List.drop_drop, HS.out, HD.out, h35, X.scan_com])
          have hm1 : 1 ≤ (((bts s).drop j).takeWhile (· ≠ 10)).length := by
            rw [HD.out, h35]
            exact X.com_pos u
          have hm2 := X.takeWhile_le (fun x : UInt8 => decide (x ≠ 10)) ((bts s).drop j)
          rw [List.length_drop, bts_len] at hm2
          clear HS HD HU hbl h35
          generalize (((bts s).drop j).takeWhile (· ≠ 10)).length = n at *
          go_wp2_with fail
          refine hL.mono ?_
          rintro e w1 ⟨rfl, rfl⟩
          go_wp2
          go_roundw
          case rel => exact ⟨j + n, by go_num, by omega, by omega, HS2, by first | rfl | trivial⟩
          case measure => simp [intOf]; omega
        · rw [decide_eq_false h35] at e35
          have HB : Hid (Beh s i j) := hide ⟨hij, hj, HS.out, fun _ => ⟨c, u, HD.out, hbl, h35⟩⟩
          clear HS HD HU hbl h35
          go_wp2
          go_ret
          exact ⟨⟨j, rfl, HB.out⟩, rfl⟩
    · have HB : Hid (Beh s i j) := hide ⟨hij, hj, HS.out, fun h => absurd h hlt⟩
      clear HS
      go_wp2
      go_ret
      exact ⟨⟨j, rfl, HB.out⟩, rfl⟩
end Go.Proofs.YtidpalighpdlfaaGreatDoor
