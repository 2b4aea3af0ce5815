/- lex.run at each question of one byte. -/
import Derived.Test.YtidpalighpdlfaaGreatDoorBas
namespace Go.Proofs.YtidpalighpdlfaaGreatDoor
open Go.RowKit

set_option maxRecDepth 100000 in
set_option maxHeartbeats 4000000 in
theorem run_alnum (s : ByteArray) (hs : s.size ≤ 100000) (w : World) : Calls Tryz.prog 48 #[.string s, .func (.func 49) #[] #[]] w fun e w' => e = .returned (.int .i64 (((bts s).takeWhile X.isLD).length : Int)) ∧ w' = w := by
  go_enter Tryz.func48, Tryz.ntmps48
  go_wp2
  go_loopw [5] (fun u wr => ∃ n : Nat, u = .int .i64 (n : Int) ∧ n ≤ s.size ∧ Hid (∀ c ∈ (bts s).take n, X.isLD c = true) ∧ wr = w) (fun u _ => s.size - (intOf u).toNat)
  case atStart => exact ⟨0, rfl, by omega, hide (fun c hc => by simp at hc), by first | rfl | trivial⟩
  case round =>
    obtain ⟨n, rfl, hn, HA, rfl⟩ := hrel
    by_cases hlt : n < s.size
    · have hl : n < (bts s).length := hlt
      have hx := fun j hj h => idx_at (s := s) hl j hj h
      have HT := hide (take_snoc0 hl)
      have HE : Hid (X.isLD (bts s)[n] = false → ((bts s).takeWhile X.isLD).length = n) := hide (fun h => tw_len HA.out (.inr ⟨hl, h⟩))
      generalize (bts s)[n] = c at *
      have hx2 : ∀ h, s[n]'h = c := fun h => hx (n : Int) rfl h
      clear hx
      have hdg := alnum_any c wr
      cases hd : X.isLD c with
      | true =>
        rw [hd] at hdg
        go_wp2_with fail
        refine hdg.mono ?_
        rintro e w1 ⟨rfl, rfl⟩
        go_wp2
        go_roundw
        case rel => exact ⟨n + 1, by go_num, by omega, hide (fun x hx => by rw [HT.out] at hx; exact (List.mem_append.1 hx).elim (HA.out x) (fun h => by simp at h; rw [h]; exact hd)), by first | rfl | trivial⟩
        case measure => simp [intOf]; omega
      | false =>
        rw [hd] at hdg
        have HE2 := hide (HE.out hd)
        clear HE HT HA
        go_wp2_with fail
        refine hdg.mono ?_
        rintro e w1 ⟨rfl, rfl⟩
        go_wp2
        go_ret
        exact ⟨by rw [HE2.out]; rfl, rfl⟩
    · have HE : Hid (((bts s).takeWhile X.isLD).length = n) := hide (tw_len HA.out (.inl (by rw [bts_len]; omega)))
      clear HA
      go_wp2
      go_ret
      exact ⟨by rw [HE.out]; rfl, rfl⟩
set_option maxRecDepth 100000 in
set_option maxHeartbeats 4000000 in
theorem run_digit (s : ByteArray) (hs : s.size ≤ 100000) (w : World) : Calls Tryz.prog 48 #[.string s, .func (.func 33) #[] #[]] w fun e w' => e = .returned (.int .i64 (((bts s).takeWhile X.isD).length : Int)) ∧ w' = w := by
  go_enter Tryz.func48, Tryz.ntmps48
  go_wp2
  go_loopw [5] (fun u wr => ∃ n : Nat, u = .int .i64 (n : Int) ∧ n ≤ s.size ∧ Hid (∀ c ∈ (bts s).take n, X.isD c = true) ∧ wr = w) (fun u _ => s.size - (intOf u).toNat)
  case atStart => exact ⟨0, rfl, by omega, hide (fun c hc => by simp at hc), by first | rfl | trivial⟩
  case round =>
    obtain ⟨n, rfl, hn, HA, rfl⟩ := hrel
    by_cases hlt : n < s.size
    · have hl : n < (bts s).length := hlt
      have hx := fun j hj h => idx_at (s := s) hl j hj h
      have HT := hide (take_snoc0 hl)
      have HE : Hid (X.isD (bts s)[n] = false → ((bts s).takeWhile X.isD).length = n) := hide (fun h => tw_len HA.out (.inr ⟨hl, h⟩))
      generalize (bts s)[n] = c at *
      have hx2 : ∀ h, s[n]'h = c := fun h => hx (n : Int) rfl h
      clear hx
      have hdg := digit_any c wr
      cases hd : X.isD c with
      | true =>
        rw [hd] at hdg
        go_wp2_with fail
        refine hdg.mono ?_
        rintro e w1 ⟨rfl, rfl⟩
        go_wp2
        go_roundw
        case rel => exact ⟨n + 1, by go_num, by omega, hide (fun x hx => by rw [HT.out] at hx; exact (List.mem_append.1 hx).elim (HA.out x) (fun h => by simp at h; rw [h]; exact hd)), by first | rfl | trivial⟩
        case measure => simp [intOf]; omega
      | false =>
        rw [hd] at hdg
        have HE2 := hide (HE.out hd)
        clear HE HT HA
        go_wp2_with fail
        refine hdg.mono ?_
        rintro e w1 ⟨rfl, rfl⟩
        go_wp2
        go_ret
        exact ⟨by rw [HE2.out]; rfl, rfl⟩
    · have HE : Hid (((bts s).takeWhile X.isD).length = n) := hide (tw_len HA.out (.inl (by rw [bts_len]; omega)))
      clear HA
      go_wp2
      go_ret
      exact ⟨by rw [HE.out]; rfl, rfl⟩
set_option maxRecDepth 100000 in
set_option maxHeartbeats 4000000 in
theorem run_ident (s : ByteArray) (hs : s.size ≤ 100000) (w : World) : Calls Tryz.prog 48 #[.string s, .func (.func 51) #[] #[]] w fun e w' => e = .returned (.int .i64 (((bts s).takeWhile X.isI).length : Int)) ∧ w' = w := by
  go_enter Tryz.func48, Tryz.ntmps48
  go_wp2
  go_loopw [5] (fun u wr => ∃ n : Nat, u = .int .i64 (n : Int) ∧ n ≤ s.size ∧ Hid (∀ c ∈ (bts s).take n, X.isI c = true) ∧ wr = w) (fun u _ => s.size - (intOf u).toNat)
  case atStart => exact ⟨0, rfl, by omega, hide (fun c hc => by simp at hc), by first | rfl | trivial⟩
  case round =>
    obtain ⟨n, rfl, hn, HA, rfl⟩ := hrel
    by_cases hlt : n < s.size
    · have hl : n < (bts s).length := hlt
      have hx := fun j hj h => idx_at (s := s) hl j hj h
      have HT := hide (take_snoc0 hl)
      have HE : Hid (X.isI (bts s)[n] = false → ((bts s).takeWhile X.isI).length = n) := hide (fun h => tw_len HA.out (.inr ⟨hl, h⟩))
      generalize (bts s)[n] = c at *
      have hx2 : ∀ h, s[n]'h = c := fun h => hx (n : Int) rfl h
      clear hx
      have hdg := ident_any c wr
      cases hd : X.isI c with
      | true =>
        rw [hd] at hdg
        go_wp2_with fail
        refine hdg.mono ?_
        rintro e w1 ⟨rfl, rfl⟩
        go_wp2
        go_roundw
        case rel => exact ⟨n + 1, by go_num, by omega, hide (fun x hx => by rw [HT.out] at hx; exact (List.mem_append.1 hx).elim (HA.out x) (fun h => by simp at h; rw [h]; exact hd)), by first | rfl | trivial⟩
        case measure => simp [intOf]; omega
      | false =>
        rw [hd] at hdg
        have HE2 := hide (HE.out hd)
        clear HE HT HA
        go_wp2_with fail
        refine hdg.mono ?_
        rintro e w1 ⟨rfl, rfl⟩
        go_wp2
        go_ret
        exact ⟨by rw [HE2.out]; rfl, rfl⟩
    · have HE : Hid (((bts s).takeWhile X.isI).length = n) := hide (tw_len HA.out (.inl (by rw [bts_len]; omega)))
      clear HA
      go_wp2
      go_ret
      exact ⟨by rw [HE.out]; rfl, rfl⟩
set_option maxRecDepth 100000 in
set_option maxHeartbeats 4000000 in
theorem run_letter (s : ByteArray) (hs : s.size ≤ 100000) (w : World) : Calls Tryz.prog 48 #[.string s, .func (.func 35) #[] #[]] w fun e w' => e = .returned (.int .i64 (((bts s).takeWhile X.isL).length : Int)) ∧ w' = w := by
  go_enter Tryz.func48, Tryz.ntmps48
  go_wp2
  go_loopw [5] (fun u wr => ∃ n : Nat, u = .int .i64 (n : Int) ∧ n ≤ s.size ∧ Hid (∀ c ∈ (bts s).take n, X.isL c = true) ∧ wr = w) (fun u _ => s.size - (intOf u).toNat)
  case atStart => exact ⟨0, rfl, by omega, hide (fun c hc => by simp at hc), by first | rfl | trivial⟩
  case round =>
    obtain ⟨n, rfl, hn, HA, rfl⟩ := hrel
    by_cases hlt : n < s.size
    · have hl : n < (bts s).length := hlt
      have hx := fun j hj h => idx_at (s := s) hl j hj h
      have HT := hide (take_snoc0 hl)
      have HE : Hid (X.isL (bts s)[n] = false → ((bts s).takeWhile X.isL).length = n) := hide (fun h => tw_len HA.out (.inr ⟨hl, h⟩))
      generalize (bts s)[n] = c at *
      have hx2 : ∀ h, s[n]'h = c := fun h => hx (n : Int) rfl h
      clear hx
      have hdg := letter_any c wr
      cases hd : X.isL c with
      | true =>
        rw [hd] at hdg
        go_wp2_with fail
        refine hdg.mono ?_
        rintro e w1 ⟨rfl, rfl⟩
        go_wp2
        go_roundw
        case rel => exact ⟨n + 1, by go_num, by omega, hide (fun x hx => by rw [HT.out] at hx; exact (List.mem_append.1 hx).elim (HA.out x) (fun h => by simp at h; rw [h]; exact hd)), by first | rfl | trivial⟩
        case measure => simp [intOf]; omega
      | false =>
        rw [hd] at hdg
        have HE2 := hide (HE.out hd)
        clear HE HT HA
        go_wp2_with fail
        refine hdg.mono ?_
        rintro e w1 ⟨rfl, rfl⟩
        go_wp2
        go_ret
        exact ⟨by rw [HE2.out]; rfl, rfl⟩
    · have HE : Hid (((bts s).takeWhile X.isL).length = n) := hide (tw_len HA.out (.inl (by rw [bts_len]; omega)))
      clear HA
      go_wp2
      go_ret
      exact ⟨by rw [HE.out]; rfl, rfl⟩
set_option maxRecDepth 100000 in
set_option maxHeartbeats 4000000 in
theorem run_hex (s : ByteArray) (hs : s.size ≤ 100000) (w : World) : Calls Tryz.prog 48 #[.string s, .func (.func 67) #[] #[]] w fun e w' => e = .returned (.int .i64 (((bts s).takeWhile X.isH).length : Int)) ∧ w' = w := by
  go_enter Tryz.func48, Tryz.ntmps48
  go_wp2
  go_loopw [5] (fun u wr => ∃ n : Nat, u = .int .i64 (n : Int) ∧ n ≤ s.size ∧ Hid (∀ c ∈ (bts s).take n, X.isH c = true) ∧ wr = w) (fun u _ => s.size - (intOf u).toNat)
  case atStart => exact ⟨0, rfl, by omega, hide (fun c hc => by simp at hc), by first | rfl | trivial⟩
  case round =>
    obtain ⟨n, rfl, hn, HA, rfl⟩ := hrel
    by_cases hlt : n < s.size
    · have hl : n < (bts s).length := hlt
      have hx := fun j hj h => idx_at (s := s) hl j hj h
      have HT := hide (take_snoc0 hl)
      have HE : Hid (X.isH (bts s)[n] = false → ((bts s).takeWhile X.isH).length = n) := hide (fun h => tw_len HA.out (.inr ⟨hl, h⟩))
      generalize (bts s)[n] = c at *
      have hx2 : ∀ h, s[n]'h = c := fun h => hx (n : Int) rfl h
      clear hx
      have hdg := hex_any c wr
      cases hd : X.isH c with
      | true =>
        rw [hd] at hdg
        go_wp2_with fail
        refine hdg.mono ?_
        rintro e w1 ⟨rfl, rfl⟩
        go_wp2
        go_roundw
        case rel => exact ⟨n + 1, by go_num, by omega, hide (fun x hx => by rw [HT.out] at hx; exact (List.mem_append.1 hx).elim (HA.out x) (fun h => by simp at h; rw [h]; exact hd)), by first | rfl | trivial⟩
        case measure => simp [intOf]; omega
      | false =>
        rw [hd] at hdg
        have HE2 := hide (HE.out hd)
        clear HE HT HA
        go_wp2_with fail
        refine hdg.mono ?_
        rintro e w1 ⟨rfl, rfl⟩
        go_wp2
        go_ret
        exact ⟨by rw [HE2.out]; rfl, rfl⟩
    · have HE : Hid (((bts s).takeWhile X.isH).length = n) := hide (tw_len HA.out (.inl (by rw [bts_len]; omega)))
      clear HA
      go_wp2
      go_ret
      exact ⟨by rw [HE.out]; rfl, rfl⟩
end Go.Proofs.YtidpalighpdlfaaGreatDoor
