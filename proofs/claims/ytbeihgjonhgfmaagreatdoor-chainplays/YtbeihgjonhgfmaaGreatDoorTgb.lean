/- The questions of one byte and of one subtag: isLetter .. isVariant, kindBehind. -/
import Derived.Test.YtbeihgjonhgfmaaGreatDoorTga
namespace Go.Proofs.YtbeihgjonhgfmaaGreatDoor
open Go.RowKit

theorem headD_eq {l : List UInt8} (h : 0 < l.length) : l.headD 0 = l[0] := by
  cases l with
  | nil => simp at h
  | cons a l => rfl
set_option maxHeartbeats 1000000 in
theorem letter_any (c : UInt8) (w : World) : Calls Tryz.prog 91 #[U8 c] w fun e w' => e = .returned (.bool (G.isL c)) ∧ w' = w := by
  have hc := c.toNat_lt
  generalize hr : G.isL c = r
  unfold U8
  go_enter Tryz.func91, Tryz.ntmps91
  go_wp2
  all_goals
    go_ret
    refine ⟨?_, rfl⟩
    subst hr
    simp [G.isL, *]
    first | omega | (rw [Bool.eq_iff_iff]; simp; omega)
theorem digit_any (c : UInt8) (w : World) : Calls Tryz.prog 92 #[U8 c] w fun e w' => e = .returned (.bool (G.isD c)) ∧ w' = w := by
  have hc := c.toNat_lt
  generalize hr : G.isD c = r
  unfold U8
  go_enter Tryz.func92, Tryz.ntmps92
  go_wp2
  all_goals
    go_ret
    refine ⟨?_, rfl⟩
    subst hr
    simp [G.isD, *]
    first | omega | (rw [Bool.eq_iff_iff]; simp; omega)
set_option maxHeartbeats 1000000 in
theorem alnum_any (c : UInt8) (w : World) : Calls Tryz.prog 93 #[U8 c] w fun e w' => e = .returned (.bool (G.isA c)) ∧ w' = w := by
  have hl := letter_any c w
  have hd := digit_any c w
  unfold G.isA
  generalize G.isL c = a at *
  generalize G.isD c = b at *
  unfold U8 at *
  cases a with
  | true =>
    clear hd
    go_enter Tryz.func93, Tryz.ntmps93
    go_wp2_with fail
    refine hl.mono ?_
    rintro e w1 ⟨rfl, rfl⟩
    go_wp2
    go_ret
    exact ⟨by simp, rfl⟩
  | false =>
    go_enter Tryz.func93, Tryz.ntmps93
    go_wp2_with fail
    refine hl.mono ?_
    rintro e w1 ⟨rfl, rfl⟩
    go_wp2_with fail
    refine hd.mono ?_
    rintro e w1 ⟨rfl, rfl⟩
    go_wp2
    go_ret
    exact ⟨by simp, rfl⟩
set_option maxRecDepth 100000 in
set_option maxHeartbeats 2000000 in
theorem run_letter (s : ByteArray) (a b : Nat) (hb : b ≤ 100) (hs : s.size ≤ 281474976710656) (w : World) : Calls Tryz.prog 90 #[.string s, .int .i64 (a : Int), .int .i64 (b : Int), .func (.func 91) #[] #[]] w fun e w' => e = .returned (.bool (G.run (bts s) a b G.isL)) ∧ w' = w := by
  by_cases h1 : a ≤ s.size
  · have g1 : decide ((s.size : Int) < (a : Int)) = false := decide_eq_false (by omega)
    by_cases h2 : s.size ≤ b
    · have g2 : decide ((b : Int) < (s.size : Int)) = false := decide_eq_false (by omega)
      have HR : Hid (G.run (bts s) a b G.isL = (bts s).all G.isL) := hide (by unfold G.run; rw [bts_len, decide_eq_true h1, decide_eq_true h2]; rfl)
      rw [HR.out]
      clear HR
      go_enter Tryz.func90, Tryz.ntmps90
      go_wp2
      rw [decide_eq_false (show ¬ s.size < a by omega), decide_eq_false (show ¬ b < s.size by omega), Bool.or_self]
      go_loopw [22] (fun u wr => ∃ n : Nat, u = .int .i64 (n : Int) ∧ n ≤ s.size ∧ Hid (∀ c ∈ (bts s).take n, G.isL c = true) ∧ wr = w) (fun u _ => s.size - (intOf u).toNat)
      case atStart => exact ⟨0, rfl, by omega, hide (fun c hc => by simp at hc), by first | rfl | trivial⟩
      case round =>
        obtain ⟨n, rfl, hn, HA, rfl⟩ := hrel
        by_cases hlt : n < s.size
        · have hl : n < (bts s).length := hlt
          have hx := fun j hj h => idx_at (s := s) hl j hj h
          have HT := hide (take_snoc0 hl)
          have HE : Hid (G.isL (bts s)[n] = false → (bts s).all G.isL = false) := hide (fun h => by rw [List.all_eq_false]; exact ⟨_, List.getElem_mem hl, by rw [h]; decide⟩)
          generalize (bts s)[n] = c at *
          have hx2 : ∀ h, s[n]'h = c := fun h => hx (n : Int) rfl h
          clear hx
          have hdg := letter_any c wr
          cases hd : G.isL c with
          | true =>
            rw [hd] at hdg
            go_wp2_with fail
            refine hdg.mono ?_
            rintro e w1 ⟨rfl, rfl⟩
            go_wp2
            go_roundw
            case rel => exact ⟨n + 1, by go_num, by omega, hide (fun x hx => by rw [HT.out] at hx; exact (List.mem_append.1 hx).elim (HA.out x) (fun h => by simp at h; rw [h]; exact hd)), by first | rfl | trivial⟩
            case measure => simp [intOf]; omega
          | false =>
            rw [hd] at hdg
            have HE2 := hide (HE.out hd)
            clear HE HT HA
            go_wp2_with fail
            refine hdg.mono ?_
            rintro e w1 ⟨rfl, rfl⟩
            go_wp2
            go_ret
            exact ⟨by rw [HE2.out]; rfl, rfl⟩
        · have HE : Hid ((bts s).all G.isL = true) := hide (by rw [List.all_eq_true]; have := HA.out; rwa [List.take_of_length_le (by rw [bts_len]; omega)] at this)
          clear HA
          go_wp2
          go_ret
          exact ⟨by rw [HE.out]; rfl, rfl⟩
    · have g2 : decide ((b : Int) < (s.size : Int)) = true := decide_eq_true (by omega)
      have HR : Hid (G.run (bts s) a b G.isL = false) := hide (by unfold G.run; rw [bts_len, decide_eq_false h2]; simp)
      rw [HR.out]
      go_enter Tryz.func90, Tryz.ntmps90
      go_wp2
      go_ret
      exact ⟨rfl, rfl⟩
  · have g1 : decide ((s.size : Int) < (a : Int)) = true := decide_eq_true (by omega)
    have HR : Hid (G.run (bts s) a b G.isL = false) := hide (by unfold G.run; rw [bts_len, decide_eq_false h1]; simp)
    rw [HR.out]
    go_enter Tryz.func90, Tryz.ntmps90
    go_wp2
    go_ret
    exact ⟨rfl, rfl⟩
set_option maxRecDepth 100000 in
set_option maxHeartbeats 2000000 in
theorem run_digit (s : ByteArray) (a b : Nat) (hb : b ≤ 100) (hs : s.size ≤ 281474976710656) (w : World) : Calls Tryz.prog 90 #[.string s, .int .i64 (a : Int), .int .i64 (b : Int), .func (.func 92) #[] #[]] w fun e w' => e = .returned (.bool (G.run (bts s) a b G.isD)) ∧ w' = w := by
  by_cases h1 : a ≤ s.size
  · have g1 : decide ((s.size : Int) < (a : Int)) = false := decide_eq_false (by omega)
    by_cases h2 : s.size ≤ b
    · have g2 : decide ((b : Int) < (s.size : Int)) = false := decide_eq_false (by omega)
      have HR : Hid (G.run (bts s) a b G.isD = (bts s).all G.isD) := hide (by unfold G.run; rw [bts_len, decide_eq_true h1, decide_eq_true h2]; rfl)
      rw [HR.out]
      clear HR
      go_enter Tryz.func90, Tryz.ntmps90
      go_wp2
      rw [decide_eq_false (show ¬ s.size < a by omega), decide_eq_false (show ¬ b < s.size by omega), Bool.or_self]
      go_loopw [22] (fun u wr => ∃ n : Nat, u = .int .i64 (n : Int) ∧ n ≤ s.size ∧ Hid (∀ c ∈ (bts s).take n, G.isD c = true) ∧ wr = w) (fun u _ => s.size - (intOf u).toNat)
      case atStart => exact ⟨0, rfl, by omega, hide (fun c hc => by simp at hc), by first | rfl | trivial⟩
      case round =>
        obtain ⟨n, rfl, hn, HA, rfl⟩ := hrel
        by_cases hlt : n < s.size
        · have hl : n < (bts s).length := hlt
          have hx := fun j hj h => idx_at (s := s) hl j hj h
          have HT := hide (take_snoc0 hl)
          have HE : Hid (G.isD (bts s)[n] = false → (bts s).all G.isD = false) := hide (fun h => by rw [List.all_eq_false]; exact ⟨_, List.getElem_mem hl, by rw [h]; decide⟩)
          generalize (bts s)[n] = c at *
          have hx2 : ∀ h, s[n]'h = c := fun h => hx (n : Int) rfl h
          clear hx
          have hdg := digit_any c wr
          cases hd : G.isD c with
          | true =>
            rw [hd] at hdg
            go_wp2_with fail
            refine hdg.mono ?_
            rintro e w1 ⟨rfl, rfl⟩
            go_wp2
            go_roundw
            case rel => exact ⟨n + 1, by go_num, by omega, hide (fun x hx => by rw [HT.out] at hx; exact (List.mem_append.1 hx).elim (HA.out x) (fun h => by simp at h; rw [h]; exact hd)), by first | rfl | trivial⟩
            case measure => simp [intOf]; omega
          | false =>
            rw [hd] at hdg
            have HE2 := hide (HE.out hd)
            clear HE HT HA
            go_wp2_with fail
            refine hdg.mono ?_
            rintro e w1 ⟨rfl, rfl⟩
            go_wp2
            go_ret
            exact ⟨by rw [HE2.out]; rfl, rfl⟩
        · have HE : Hid ((bts s).all G.isD = true) := hide (by rw [List.all_eq_true]; have := HA.out; rwa [List.take_of_length_le (by rw [bts_len]; omega)] at this)
          clear HA
          go_wp2
          go_ret
          exact ⟨by rw [HE.out]; rfl, rfl⟩
    · have g2 : decide ((b : Int) < (s.size : Int)) = true := decide_eq_true (by omega)
      have HR : Hid (G.run (bts s) a b G.isD = false) := hide (by unfold G.run; rw [bts_len, decide_eq_false h2]; simp)
      rw [HR.out]
      go_enter Tryz.func90, Tryz.ntmps90
      go_wp2
      go_ret
      exact ⟨rfl, rfl⟩
  · have g1 : decide ((s.size : Int) < (a : Int)) = true := decide_eq_true (by omega)
    have HR : Hid (G.run (bts s) a b G.isD = false) := hide (by unfold G.run; rw [bts_len, decide_eq_false h1]; simp)
    rw [HR.out]
    go_enter Tryz.func90, Tryz.ntmps90
    go_wp2
    go_ret
    exact ⟨rfl, rfl⟩
set_option maxRecDepth 100000 in
set_option maxHeartbeats 2000000 in
theorem run_alnum (s : ByteArray) (a b : Nat) (hb : b ≤ 100) (hs : s.size ≤ 281474976710656) (w : World) : Calls Tryz.prog 90 #[.string s, .int .i64 (a : Int), .int .i64 (b : Int), .func (.func 93) #[] #[]] w fun e w' => e = .returned (.bool (G.run (bts s) a b G.isA)) ∧ w' = w := by
  by_cases h1 : a ≤ s.size
  · have g1 : decide ((s.size : Int) < (a : Int)) = false := decide_eq_false (by omega)
    by_cases h2 : s.size ≤ b
    · have g2 : decide ((b : Int) < (s.size : Int)) = false := decide_eq_false (by omega)
      have HR : Hid (G.run (bts s) a b G.isA = (bts s).all G.isA) := hide (by unfold G.run; rw [bts_len, decide_eq_true h1, decide_eq_true h2]; rfl)
      rw [HR.out]
      clear HR
      go_enter Tryz.func90, Tryz.ntmps90
      go_wp2
      rw [decide_eq_false (show ¬ s.size < a by omega), decide_eq_false (show ¬ b < s.size by omega), Bool.or_self]
      go_loopw [22] (fun u wr => ∃ n : Nat, u = .int .i64 (n : Int) ∧ n ≤ s.size ∧ Hid (∀ c ∈ (bts s).take n, G.isA c = true) ∧ wr = w) (fun u _ => s.size - (intOf u).toNat)
      case atStart => exact ⟨0, rfl, by omega, hide (fun c hc => by simp at hc), by first | rfl | trivial⟩
      case round =>
        obtain ⟨n, rfl, hn, HA, rfl⟩ := hrel
        by_cases hlt : n < s.size
        · have hl : n < (bts s).length := hlt
          have hx := fun j hj h => idx_at (s := s) hl j hj h
          have HT := hide (take_snoc0 hl)
          have HE : Hid (G.isA (bts s)[n] = false → (bts s).all G.isA = false) := hide (fun h => by rw [List.all_eq_false]; exact ⟨_, List.getElem_mem hl, by rw [h]; decide⟩)
          generalize (bts s)[n] = c at *
          have hx2 : ∀ h, s[n]'h = c := fun h => hx (n : Int) rfl h
          clear hx
          have hdg := alnum_any c wr
          cases hd : G.isA c with
          | true =>
            rw [hd] at hdg
            go_wp2_with fail
            refine hdg.mono ?_
            rintro e w1 ⟨rfl, rfl⟩
            go_wp2
            go_roundw
            case rel => exact ⟨n + 1, by go_num, by omega, hide (fun x hx => by rw [HT.out] at hx; exact (List.mem_append.1 hx).elim (HA.out x) (fun h => by simp at h; rw [h]; exact hd)), by first | rfl | trivial⟩
            case measure => simp [intOf]; omega
          | false =>
            rw [hd] at hdg
            have HE2 := hide (HE.out hd)
            clear HE HT HA
            go_wp2_with fail
            refine hdg.mono ?_
            rintro e w1 ⟨rfl, rfl⟩
            go_wp2
            go_ret
            exact ⟨by rw [HE2.out]; rfl, rfl⟩
        · have HE : Hid ((bts s).all G.isA = true) := hide (by rw [List.all_eq_true]; have := HA.out; rwa [List.take_of_length_le (by rw [bts_len]; omega)] at this)
          clear HA
          go_wp2
          go_ret
          exact ⟨by rw [HE.out]; rfl, rfl⟩
    · have g2 : decide ((b : Int) < (s.size : Int)) = true := decide_eq_true (by omega)
      have HR : Hid (G.run (bts s) a b G.isA = false) := hide (by unfold G.run; rw [bts_len, decide_eq_false h2]; simp)
      rw [HR.out]
      go_enter Tryz.func90, Tryz.ntmps90
      go_wp2
      go_ret
      exact ⟨rfl, rfl⟩
  · have g1 : decide ((s.size : Int) < (a : Int)) = true := decide_eq_true (by omega)
    have HR : Hid (G.run (bts s) a b G.isA = false) := hide (by unfold G.run; rw [bts_len, decide_eq_false h1]; simp)
    rw [HR.out]
    go_enter Tryz.func90, Tryz.ntmps90
    go_wp2
    go_ret
    exact ⟨rfl, rfl⟩
theorem lang_any (s : ByteArray) (hs : s.size ≤ 281474976710656) (w : World) : Calls Tryz.prog 62 #[.string s] w fun e w' => e = .returned (.bool (G.lang (bts s))) ∧ w' = w := by
  have h := run_letter s 2 3 (by omega) hs w
  unfold G.lang
  generalize G.run (bts s) 2 3 G.isL = r at *
  go_enter Tryz.func62, Tryz.ntmps62
  go_wp2_with fail
  refine h.mono ?_
  rintro e w1 ⟨rfl, rfl⟩
  go_wp2
  go_ret
  exact ⟨rfl, rfl⟩
theorem script_any (s : ByteArray) (hs : s.size ≤ 281474976710656) (w : World) : Calls Tryz.prog 63 #[.string s] w fun e w' => e = .returned (.bool (G.script (bts s))) ∧ w' = w := by
  have h := run_letter s 4 4 (by omega) hs w
  unfold G.script
  generalize G.run (bts s) 4 4 G.isL = r at *
  go_enter Tryz.func63, Tryz.ntmps63
  go_wp2_with fail
  refine h.mono ?_
  rintro e w1 ⟨rfl, rfl⟩
  go_wp2
  go_ret
  exact ⟨rfl, rfl⟩
theorem region_any (s : ByteArray) (hs : s.size ≤ 281474976710656) (w : World) : Calls Tryz.prog 64 #[.string s] w fun e w' => e = .returned (.bool (G.region (bts s))) ∧ w' = w := by
  have h := run_letter s 2 2 (by omega) hs w
  have k := run_digit s 3 3 (by omega) hs w
  unfold G.region
  generalize G.run (bts s) 2 2 G.isL = r at *
  generalize G.run (bts s) 3 3 G.isD = q at *
  cases r with
  | true =>
    clear k
    go_enter Tryz.func64, Tryz.ntmps64
    go_wp2_with fail
    refine h.mono ?_
    rintro e w1 ⟨rfl, rfl⟩
    go_wp2
    go_ret
    exact ⟨rfl, rfl⟩
  | false =>
    go_enter Tryz.func64, Tryz.ntmps64
    go_wp2_with fail
    refine h.mono ?_
    rintro e w1 ⟨rfl, rfl⟩
    go_wp2_with fail
    refine k.mono ?_
    rintro e w1 ⟨rfl, rfl⟩
    go_wp2
    go_ret
    exact ⟨by simp, rfl⟩
set_option maxHeartbeats 1000000 in
theorem variant_any (s : ByteArray) (hs : s.size ≤ 281474976710656) (w : World) : Calls Tryz.prog 65 #[.string s] w fun e w' => e = .returned (.bool (G.variant (bts s))) ∧ w' = w := by
  have h := run_alnum s 5 8 (by omega) hs w
  have k := run_alnum s 4 4 (by omega) hs w
  unfold G.variant
  have HF : Hid (G.run (bts s) 4 4 G.isA = true → 0 < (bts s).length) := hide (fun h => by simp only [G.run, Bool.and_eq_true, decide_eq_true_eq] at h; omega)
  generalize G.run (bts s) 5 8 G.isA = r at *
  generalize G.run (bts s) 4 4 G.isA = q at *
  cases r with
  | true =>
    clear k HF
    go_enter Tryz.func65, Tryz.ntmps65
    go_wp2_with fail
    refine h.mono ?_
    rintro e w1 ⟨rfl, rfl⟩
    go_wp2
    go_ret
    exact ⟨by simp, rfl⟩
  | false =>
    cases q with
    | false =>
      clear HF
      go_enter Tryz.func65, Tryz.ntmps65
      go_wp2_with fail
      refine h.mono ?_
      rintro e w1 ⟨rfl, rfl⟩
      go_wp2_with fail
      refine k.mono ?_
      rintro e w1 ⟨rfl, rfl⟩
      go_wp2
      go_ret
      exact ⟨by simp, rfl⟩
    | true =>
      have hl := HF.out rfl
      have hz : 0 < s.size := hl
      have hx := fun j hj h => idx_at (s := s) hl j hj h
      have HD : Hid ((bts s).headD 0 = (bts s)[0]) := hide (headD_eq hl)
      rw [HD.out]
      clear HF HD
      generalize (bts s)[0] = c at *
      have hx2 : ∀ h, s[0]'h = c := fun h => hx 0 rfl h
      clear hx hl
      have hd := digit_any c w
      generalize G.isD c = d at *
      unfold U8 at hd
      go_enter Tryz.func65, Tryz.ntmps65
      go_wp2_with fail
      refine h.mono ?_
      rintro e w1 ⟨rfl, rfl⟩
      go_wp2_with fail
      refine k.mono ?_
      rintro e w1 ⟨rfl, rfl⟩
      go_wp2_with fail
      refine hd.mono ?_
      rintro e w1 ⟨rfl, rfl⟩
      go_wp2
      go_ret
      exact ⟨by simp, rfl⟩
set_option maxHeartbeats 2000000 in
theorem kind_any (k : Nat) (hk : k ≤ 4) (s : ByteArray) (hs : s.size ≤ 281474976710656) (w : World) : Calls Tryz.prog 44 #[.int .i64 (k : Int), .string s] w fun e w' => e = .returned (.int .i64 (G.kind k (bts s) : Int)) ∧ w' = w := by
  have h1 := lang_any s hs w
  have h2 := script_any s hs w
  have h3 := region_any s hs w
  have h4 := variant_any s hs w
  unfold G.kind
  generalize G.lang (bts s) = a at *
  generalize G.script (bts s) = b at *
  generalize G.region (bts s) = c at *
  generalize G.variant (bts s) = d at *
  match k, hk with
  | 0, _ =>
    clear hk
    simp only [show ((0 : Nat) : Int) = 0 from rfl]
    cases a with
    | true =>
      go_enter Tryz.func44, Tryz.ntmps44
      go_wp2_with fail
      refine h1.mono ?_
      rintro e w1 ⟨rfl, rfl⟩
      go_wp2
      go_ret
      exact ⟨rfl, rfl⟩
    | false =>
      go_enter Tryz.func44, Tryz.ntmps44
      go_wp2_with fail
      refine h1.mono ?_
      rintro e w1 ⟨rfl, rfl⟩
      go_wp2
      go_ret
      exact ⟨rfl, rfl⟩
  | 1, _ =>
    clear hk
    simp only [show ((1 : Nat) : Int) = 1 from rfl]
    cases b with
    | true =>
      go_enter Tryz.func44, Tryz.ntmps44
      go_wp2_with fail
      refine h2.mono ?_
      rintro e w1 ⟨rfl, rfl⟩
      go_wp2
      go_ret
      exact ⟨rfl, rfl⟩
    | false =>
      cases c with
      | true =>
        go_enter Tryz.func44, Tryz.ntmps44
        go_wp2_with fail
        refine h2.mono ?_
        rintro e w1 ⟨rfl, rfl⟩
        go_wp2_with fail
        refine h3.mono ?_
        rintro e w1 ⟨rfl, rfl⟩
        go_wp2
        go_ret
        exact ⟨rfl, rfl⟩
      | false =>
        cases d with
        | true =>
          go_enter Tryz.func44, Tryz.ntmps44
          go_wp2_with fail
          refine h2.mono ?_
          rintro e w1 ⟨rfl, rfl⟩
          go_wp2_with fail
          refine h3.mono ?_
          rintro e w1 ⟨rfl, rfl⟩
          go_wp2_with fail
          refine h4.mono ?_
          rintro e w1 ⟨rfl, rfl⟩
          go_wp2
          go_ret
          exact ⟨rfl, rfl⟩
        | false =>
          go_enter Tryz.func44, Tryz.ntmps44
          go_wp2_with fail
          refine h2.mono ?_
          rintro e w1 ⟨rfl, rfl⟩
          go_wp2_with fail
          refine h3.mono ?_
          rintro e w1 ⟨rfl, rfl⟩
          go_wp2_with fail
          refine h4.mono ?_
          rintro e w1 ⟨rfl, rfl⟩
          go_wp2
          go_ret
          exact ⟨rfl, rfl⟩
  | 2, _ =>
    clear hk
    simp only [show ((2 : Nat) : Int) = 2 from rfl]
    cases c with
    | true =>
      go_enter Tryz.func44, Tryz.ntmps44
      go_wp2_with fail
      refine h3.mono ?_
      rintro e w1 ⟨rfl, rfl⟩
      go_wp2
      go_ret
      exact ⟨rfl, rfl⟩
    | false =>
      cases d with
      | true =>
        go_enter Tryz.func44, Tryz.ntmps44
        go_wp2_with fail
        refine h3.mono ?_
        rintro e w1 ⟨rfl, rfl⟩
        go_wp2_with fail
        refine h4.mono ?_
        rintro e w1 ⟨rfl, rfl⟩
        go_wp2
        go_ret
        exact ⟨rfl, rfl⟩
      | false =>
        go_enter Tryz.func44, Tryz.ntmps44
        go_wp2_with fail
        refine h3.mono ?_
        rintro e w1 ⟨rfl, rfl⟩
        go_wp2_with fail
        refine h4.mono ?_
        rintro e w1 ⟨rfl, rfl⟩
        go_wp2
        go_ret
        exact ⟨rfl, rfl⟩
  | 3, _ =>
    clear hk
    simp only [show ((3 : Nat) : Int) = 3 from rfl]
    cases d with
    | true =>
      go_enter Tryz.func44, Tryz.ntmps44
      go_wp2_with fail
      refine h4.mono ?_
      rintro e w1 ⟨rfl, rfl⟩
      go_wp2
      go_ret
      exact ⟨rfl, rfl⟩
    | false =>
      go_enter Tryz.func44, Tryz.ntmps44
      go_wp2_with fail
      refine h4.mono ?_
      rintro e w1 ⟨rfl, rfl⟩
      go_wp2
      go_ret
      exact ⟨rfl, rfl⟩
  | 4, _ =>
    clear hk
    simp only [show ((4 : Nat) : Int) = 4 from rfl]
    cases d with
    | true =>
      go_enter Tryz.func44, Tryz.ntmps44
      go_wp2_with fail
      refine h4.mono ?_
      rintro e w1 ⟨rfl, rfl⟩
      go_wp2
      go_ret
      exact ⟨rfl, rfl⟩
    | false =>
      go_enter Tryz.func44, Tryz.ntmps44
      go_wp2_with fail
      refine h4.mono ?_
      rintro e w1 ⟨rfl, rfl⟩
      go_wp2
      go_ret
      exact ⟨rfl, rfl⟩
end Go.Proofs.YtbeihgjonhgfmaaGreatDoor
