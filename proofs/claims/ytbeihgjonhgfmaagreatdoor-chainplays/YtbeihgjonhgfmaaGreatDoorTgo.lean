/- The reference's small functions: letters, digits, small, capital, variant, Split. -/
import Derived.Test.YtbeihgjonhgfmaaGreatDoorTgk
namespace Go.Proofs.YtbeihgjonhgfmaaGreatDoor
open Go.RowKit Go.Shelf

set_option maxHeartbeats 1000000 in
theorem letterR_any (c : UInt8) (w : World) : Calls Tryz.prog 103 #[U8 c] w fun e w' => e = .returned (.bool (G.isL c)) ∧ w' = w := by
  have hc := c.toNat_lt
  generalize hr : G.isL c = r
  unfold U8
  go_enter Tryz.func103, Tryz.ntmps103
  go_wp2
  all_goals
    go_ret
    refine ⟨?_, rfl⟩
    subst hr
    simp [G.isL, *]
    first | omega | (rw [Bool.eq_iff_iff]; simp; omega)
theorem digitR_any (c : UInt8) (w : World) : Calls Tryz.prog 104 #[U8 c] w fun e w' => e = .returned (.bool (G.isD c)) ∧ w' = w := by
  have hc := c.toNat_lt
  generalize hr : G.isD c = r
  unfold U8
  go_enter Tryz.func104, Tryz.ntmps104
  go_wp2
  all_goals
    go_ret
    refine ⟨?_, rfl⟩
    subst hr
    simp [G.isD, *]
    first | omega | (rw [Bool.eq_iff_iff]; simp; omega)
set_option maxRecDepth 100000 in
set_option maxHeartbeats 2000000 in
theorem numbersR_any (l : List UInt8) (hs : l.length ≤ 100000) (w : World) : Calls Tryz.prog 80 #[tx l] w fun e w' => e = .returned (.bool (l.all G.isD)) ∧ w' = w := by
  have hz := sz_tx l
  unfold tx
  go_enter Tryz.func80, Tryz.ntmps80
  go_wp2
  go_loopw [3] (fun u wr => ∃ n : Nat, u = .int .i64 (n : Int) ∧ n ≤ l.length ∧ Hid (∀ c ∈ l.take n, G.isD c = true) ∧ wr = w) (fun u _ => l.length - (intOf u).toNat)
  case atStart => exact ⟨0, rfl, by omega, hide (fun c hc => by simp at hc), by first | rfl | trivial⟩
  case round =>
    obtain ⟨n, rfl, hn, HA, rfl⟩ := hrel
    by_cases hlt : n < l.length
    · have HT : Hid (l.take (n + 1) = l.take n ++ [l[n]'hlt]) := hide (by rw [List.take_succ_eq_append_getElem hlt])
      have HE : Hid (G.isD (l[n]'hlt) = false → l.all G.isD = false) := hide (fun h => by rw [List.all_eq_false]; exact ⟨_, List.getElem_mem hlt, by rw [h]; decide⟩)
      have hl : n < (bts ⟨l.toArray⟩).length := hlt
      have hx := fun j hj h => idx_at (s := ⟨l.toArray⟩) hl j hj h
      have hx3 : (bts ⟨l.toArray⟩)[n]'hl = l[n]'hlt := rfl
      rw [hx3] at hx
      clear hx3
      generalize l[n]'hlt = c at *
      have hx2 : ∀ h, (⟨l.toArray⟩ : ByteArray)[n]'h = c := fun h => hx (n : Int) rfl h
      clear hx hl
      have hdg := digitR_any c wr
      unfold U8 at hdg
      cases hd : G.isD c with
      | true =>
        rw [hd] at hdg
        go_wp2_with fail
        refine hdg.mono ?_
        rintro e w1 ⟨rfl, rfl⟩
        go_wp2
        go_roundw
        case rel => exact ⟨n + 1, by go_num, by omega, hide (fun x hx => by rw [HT.out] at hx; exact (List.mem_append.1 hx).elim (HA.out x) (fun h => by simp at h; rw [h]; exact hd)), by first | rfl | trivial⟩
        case measure => simp [intOf]; omega
      | false =>
        rw [hd] at hdg
        have HE2 := hide (HE.out hd)
        clear HE HT HA
        go_wp2_with fail
        refine hdg.mono ?_
        rintro e w1 ⟨rfl, rfl⟩
        go_wp2
        go_ret
        exact ⟨by rw [HE2.out]; rfl, rfl⟩
    · have HE : Hid (l.all G.isD = true) := hide (by rw [List.all_eq_true]; have := HA.out; rwa [List.take_of_length_le (by omega)] at this)
      clear HA
      go_wp2
      go_ret
      exact ⟨by rw [HE.out]; rfl, rfl⟩
set_option maxRecDepth 100000 in
set_option maxHeartbeats 2000000 in
theorem allL_any (l : List UInt8) (hs : l.length ≤ 100000) (w : World) : Calls Tryz.prog 78 #[tx l, .bool false] w fun e w' => e = .returned (.bool (l.all G.isL)) ∧ w' = w := by
  have hz := sz_tx l
  unfold tx
  go_enter Tryz.func78, Tryz.ntmps78
  go_wp2
  go_loopw [5] (fun u wr => ∃ n : Nat, u = .int .i64 (n : Int) ∧ n ≤ l.length ∧ Hid (∀ c ∈ l.take n, G.isL c = true) ∧ wr = w) (fun u _ => l.length - (intOf u).toNat)
  case atStart => exact ⟨0, rfl, by omega, hide (fun c hc => by simp at hc), by first | rfl | trivial⟩
  case round =>
    obtain ⟨n, rfl, hn, HA, rfl⟩ := hrel
    by_cases hlt : n < l.length
    · have HT : Hid (l.take (n + 1) = l.take n ++ [l[n]'hlt]) := hide (by rw [List.take_succ_eq_append_getElem hlt])
      have HE : Hid (G.isL (l[n]'hlt) = false → l.all G.isL = false) := hide (fun h => by rw [List.all_eq_false]; exact ⟨_, List.getElem_mem hlt, by rw [h]; decide⟩)
      have hl : n < (bts ⟨l.toArray⟩).length := hlt
      have hx := fun j hj h => idx_at (s := ⟨l.toArray⟩) hl j hj h
      have hx3 : (bts ⟨l.toArray⟩)[n]'hl = l[n]'hlt := rfl
      rw [hx3] at hx
      clear hx3
      generalize l[n]'hlt = c at *
      have hx2 : ∀ h, (⟨l.toArray⟩ : ByteArray)[n]'h = c := fun h => hx (n : Int) rfl h
      clear hx hl
      have hdg := letterR_any c wr
      unfold U8 at hdg
      cases hd : G.isL c with
      | true =>
        rw [hd] at hdg
        go_wp2_with fail
        refine hdg.mono ?_
        rintro e w1 ⟨rfl, rfl⟩
        go_wp2
        go_roundw
        case rel => exact ⟨n + 1, by go_num, by omega, hide (fun x hx => by rw [HT.out] at hx; exact (List.mem_append.1 hx).elim (HA.out x) (fun h => by simp at h; rw [h]; exact hd)), by first | rfl | trivial⟩
        case measure => simp [intOf]; omega
      | false =>
        rw [hd] at hdg
        have HE2 := hide (HE.out hd)
        clear HE HT HA
        go_wp2_with fail
        refine hdg.mono ?_
        rintro e w1 ⟨rfl, rfl⟩
        go_wp2
        go_ret
        exact ⟨by rw [HE2.out]; rfl, rfl⟩
    · have HE : Hid (l.all G.isL = true) := hide (by rw [List.all_eq_true]; have := HA.out; rwa [List.take_of_length_le (by omega)] at this)
      clear HA
      go_wp2
      go_ret
      exact ⟨by rw [HE.out]; rfl, rfl⟩
set_option maxRecDepth 100000 in
set_option maxHeartbeats 2000000 in
theorem allA_any (l : List UInt8) (hs : l.length ≤ 100000) (w : World) : Calls Tryz.prog 78 #[tx l, .bool true] w fun e w' => e = .returned (.bool (l.all G.isA)) ∧ w' = w := by
  have hz := sz_tx l
  unfold tx
  go_enter Tryz.func78, Tryz.ntmps78
  go_wp2
  go_loopw [5] (fun u wr => ∃ n : Nat, u = .int .i64 (n : Int) ∧ n ≤ l.length ∧ Hid (∀ c ∈ l.take n, G.isA c = true) ∧ wr = w) (fun u _ => l.length - (intOf u).toNat)
  case atStart => exact ⟨0, rfl, by omega, hide (fun c hc => by simp at hc), by first | rfl | trivial⟩
  case round =>
    obtain ⟨n, rfl, hn, HA, rfl⟩ := hrel
    by_cases hlt : n < l.length
    · have HT : Hid (l.take (n + 1) = l.take n ++ [l[n]'hlt]) := hide (by rw [List.take_succ_eq_append_getElem hlt])
      have HE : Hid (G.isA (l[n]'hlt) = false → l.all G.isA = false) := hide (fun h => by rw [List.all_eq_false]; exact ⟨_, List.getElem_mem hlt, by rw [h]; decide⟩)
      have hl : n < (bts ⟨l.toArray⟩).length := hlt
      have hx := fun j hj h => idx_at (s := ⟨l.toArray⟩) hl j hj h
      have hx3 : (bts ⟨l.toArray⟩)[n]'hl = l[n]'hlt := rfl
      rw [hx3] at hx
      clear hx3
      generalize l[n]'hlt = c at *
      have hx2 : ∀ h, (⟨l.toArray⟩ : ByteArray)[n]'h = c := fun h => hx (n : Int) rfl h
      clear hx hl
      have hdl := letterR_any c wr
      have hdd := digitR_any c wr
      unfold U8 at hdl hdd
      cases hL : G.isL c with
      | true =>
        have hd : G.isA c = true := by unfold G.isA; rw [hL]; rfl
        rw [hL] at hdl
        clear hdd
        go_wp2_with fail
        refine hdl.mono ?_
        rintro e w1 ⟨rfl, rfl⟩
        go_wp2
        go_roundw
        case rel => exact ⟨n + 1, by go_num, by omega, hide (fun x hx => by rw [HT.out] at hx; exact (List.mem_append.1 hx).elim (HA.out x) (fun h => by simp at h; rw [h]; exact hd)), by first | rfl | trivial⟩
        case measure => simp [intOf]; omega
      | false =>
        rw [hL] at hdl
        cases hD : G.isD c with
        | true =>
          have hd : G.isA c = true := by unfold G.isA; rw [hD]; simp
          rw [hD] at hdd
          go_wp2_with fail
          refine hdl.mono ?_
          rintro e w1 ⟨rfl, rfl⟩
          go_wp2_with fail
          refine hdd.mono ?_
          rintro e w1 ⟨rfl, rfl⟩
          go_wp2
          go_roundw
          case rel => exact ⟨n + 1, by go_num, by omega, hide (fun x hx => by rw [HT.out] at hx; exact (List.mem_append.1 hx).elim (HA.out x) (fun h => by simp at h; rw [h]; exact hd)), by first | rfl | trivial⟩
          case measure => simp [intOf]; omega
        | false =>
          have hd : G.isA c = false := by unfold G.isA; rw [hL, hD]; rfl
          rw [hD] at hdd
          have HE2 := hide (HE.out hd)
          clear HE HT HA
          go_wp2_with fail
          refine hdl.mono ?_
          rintro e w1 ⟨rfl, rfl⟩
          go_wp2_with fail
          refine hdd.mono ?_
          rintro e w1 ⟨rfl, rfl⟩
          go_wp2
          go_ret
          exact ⟨by rw [HE2.out]; rfl, rfl⟩
    · have HE : Hid (l.all G.isA = true) := hide (by rw [List.all_eq_true]; have := HA.out; rwa [List.take_of_length_le (by omega)] at this)
      clear HA
      go_wp2
      go_ret
      exact ⟨by rw [HE.out]; rfl, rfl⟩
set_option maxRecDepth 100000 in
set_option maxHeartbeats 2000000 in
theorem small_any (s : List UInt8) (hs : s.length ≤ 100000) (w : World) : Calls Tryz.prog 76 #[tx s] w fun e w' => e = .returned (tx (s.map G.lo)) ∧ Below w.heap.size w w' := by
  have hcv := Lib.run_convert_string_bytes (P := Tryz.prog) w 9 54 5 ⟨s.toArray⟩ Tryz.underlying9 Tryz.underlying54 Tryz.underlying5
  rw [sz_tx] at hcv
  have hbw : Below w.heap.size w (Lib.bytesWorld w 5 ⟨s.toArray⟩) := ⟨rfl, rfl, rfl, by rw [Lib.bytesWorld_size]; omega, fun k hk => Lib.bytesWorld_at_old w 5 ⟨s.toArray⟩ k hk⟩
  have HB0 := hide (BR.new w s)
  generalize Lib.bytesWorld w 5 ⟨s.toArray⟩ = W0 at *
  generalize grownCap w s.length 0 5 = cap at *
  have es := elem36
  unfold tx
  go_enter Tryz.func76, Tryz.ntmps76
  go_wp2
  go_loopw [4] (fun u wr => ∃ i : Nat, u = .int .i64 (i : Int) ∧ i ≤ s.length ∧ Hid (BR w.heap.size (upTo G.lo s i) wr) ∧ Below w.heap.size w wr) (fun u _ => s.length - (intOf u).toNat)
  case atStart => exact ⟨0, rfl, by omega, hide (by have := HB0.out; unfold upTo; simpa using this), hbw⟩
  case round =>
    obtain ⟨i, rfl, hi, HR, hb⟩ := hrel
    clear HB0 hcv hbw
    by_cases hlt : i < s.length
    · have hul : i < (upTo G.lo s i).length := by rw [upTo_len _ _ _ hi]; exact hlt
      have cc := HR.out.cell hul
      have cf := HR.out.froz hul
      rw [upTo_at _ _ _ hlt] at cc
      have HS : Hid (∀ d : UInt8, G.lo s[i] = d → BR w.heap.size (upTo G.lo s (i + 1)) (wr.setCell ⟨w.heap.size, i, none⟩ (.int .u8 (d.toNat : Int)))) := hide (fun d hd => by
        have := HR.out.set hul d
        rw [← hd, upTo_set _ _ _ hlt] at this
        rw [← hd]
        exact this)
      have HN : Hid (G.lo s[i] = s[i] → BR w.heap.size (upTo G.lo s (i + 1)) wr) := hide (fun h => by rw [upTo_same _ _ _ hlt h]; exact HR.out)
      have HBS := hide (fun v => hb.setCell (p := ⟨w.heap.size, i, none⟩) (Nat.le_refl _) v)
      clear HR hul
      generalize s[i] = c at *
      have hcl := c.toNat_lt
      unfold U8 at cc
      by_cases h1 : 65 ≤ c.toNat
      · by_cases h2 : c.toNat ≤ 90
        · have e1 := add32 h2
          have HX := hide (HS.out (c.toNat + 32).toUInt8 (by unfold G.lo; rw [if_pos (isUp_n.2 ⟨h1, h2⟩)]))
          generalize (c.toNat + 32).toUInt8 = d at *
          have hd2 : (d.toNat : Int) ≤ 122 := by omega
          clear HS HN
          go_wp2
          go_roundw
          case rel => exact ⟨i + 1, by go_num, by omega, HX, HBS.out _⟩
          case measure => simp [intOf]; omega
        · have HX := hide (HN.out (by unfold G.lo; rw [if_neg (by rw [isUp_n]; omega)]))
          clear HS HN
          go_wp2
          go_roundw
          case rel => exact ⟨i + 1, by go_num, by omega, HX, hb⟩
          case measure => simp [intOf]; omega
      · have HX := hide (HN.out (by unfold G.lo; rw [if_neg (by rw [isUp_n]; omega)]))
        clear HS HN
        go_wp2
        go_roundw
        case rel => exact ⟨i + 1, by go_num, by omega, HX, hb⟩
        case measure => simp [intOf]; omega
    · obtain rfl : i = s.length := by omega
      have hcv2 := HR.out.conv cap
      rw [upTo_all, List.length_map] at hcv2
      unfold tx at hcv2
      clear HR
      go_wp2
      go_ret
      exact ⟨rfl, hb⟩
set_option maxRecDepth 100000 in
set_option maxHeartbeats 2000000 in
theorem capital_any (s : List UInt8) (hs : s.length ≤ 100000) (w : World) : Calls Tryz.prog 79 #[tx s] w fun e w' => e = .returned (tx (s.map G.up)) ∧ Below w.heap.size w w' := by
  have hcv := Lib.run_convert_string_bytes (P := Tryz.prog) w 9 54 5 ⟨s.toArray⟩ Tryz.underlying9 Tryz.underlying54 Tryz.underlying5
  rw [sz_tx] at hcv
  have hbw : Below w.heap.size w (Lib.bytesWorld w 5 ⟨s.toArray⟩) := ⟨rfl, rfl, rfl, by rw [Lib.bytesWorld_size]; omega, fun k hk => Lib.bytesWorld_at_old w 5 ⟨s.toArray⟩ k hk⟩
  have HB0 := hide (BR.new w s)
  generalize Lib.bytesWorld w 5 ⟨s.toArray⟩ = W0 at *
  generalize grownCap w s.length 0 5 = cap at *
  have es := elem36
  unfold tx
  go_enter Tryz.func79, Tryz.ntmps79
  go_wp2
  go_loopw [4] (fun u wr => ∃ i : Nat, u = .int .i64 (i : Int) ∧ i ≤ s.length ∧ Hid (BR w.heap.size (upTo G.up s i) wr) ∧ Below w.heap.size w wr) (fun u _ => s.length - (intOf u).toNat)
  case atStart => exact ⟨0, rfl, by omega, hide (by have := HB0.out; unfold upTo; simpa using this), hbw⟩
  case round =>
    obtain ⟨i, rfl, hi, HR, hb⟩ := hrel
    clear HB0 hcv hbw
    by_cases hlt : i < s.length
    · have hul : i < (upTo G.up s i).length := by rw [upTo_len _ _ _ hi]; exact hlt
      have cc := HR.out.cell hul
      have cf := HR.out.froz hul
      rw [upTo_at _ _ _ hlt] at cc
      have HS : Hid (∀ d : UInt8, G.up s[i] = d → BR w.heap.size (upTo G.up s (i + 1)) (wr.setCell ⟨w.heap.size, i, none⟩ (.int .u8 (d.toNat : Int)))) := hide (fun d hd => by
        have := HR.out.set hul d
        rw [← hd, upTo_set _ _ _ hlt] at this
        rw [← hd]
        exact this)
      have HN : Hid (G.up s[i] = s[i] → BR w.heap.size (upTo G.up s (i + 1)) wr) := hide (fun h => by rw [upTo_same _ _ _ hlt h]; exact HR.out)
      have HBS := hide (fun v => hb.setCell (p := ⟨w.heap.size, i, none⟩) (Nat.le_refl _) v)
      clear HR hul
      generalize s[i] = c at *
      have hcl := c.toNat_lt
      unfold U8 at cc
      by_cases h1 : 97 ≤ c.toNat
      · by_cases h2 : c.toNat ≤ 122
        · have e1 := sub32 h1
          have HX := hide (HS.out (c.toNat - 32).toUInt8 (by unfold G.up; rw [if_pos (isLo_n.2 ⟨h1, h2⟩)]))
          generalize (c.toNat - 32).toUInt8 = d at *
          have hd2 : (d.toNat : Int) ≤ 122 := by omega
          clear HS HN
          go_wp2
          go_roundw
          case rel => exact ⟨i + 1, by go_num, by omega, HX, HBS.out _⟩
          case measure => simp [intOf]; omega
        · have HX := hide (HN.out (by unfold G.up; rw [if_neg (by rw [isLo_n]; omega)]))
          clear HS HN
          go_wp2
          go_roundw
          case rel => exact ⟨i + 1, by go_num, by omega, HX, hb⟩
          case measure => simp [intOf]; omega
      · have HX := hide (HN.out (by unfold G.up; rw [if_neg (by rw [isLo_n]; omega)]))
        clear HS HN
        go_wp2
        go_roundw
        case rel => exact ⟨i + 1, by go_num, by omega, HX, hb⟩
        case measure => simp [intOf]; omega
    · obtain rfl : i = s.length := by omega
      have hcv2 := HR.out.conv cap
      rw [upTo_all, List.length_map] at hcv2
      unfold tx at hcv2
      clear HR
      go_wp2
      go_ret
      exact ⟨rfl, hb⟩
theorem variant_eq (l : List UInt8) : G.variant l = (l.all G.isA && ((decide (5 ≤ l.length) && decide (l.length ≤ 8)) || (decide (l.length = 4) && G.isD (l.headD 0)))) := by
  unfold G.variant G.run
  cases l.all G.isA
  · simp
  · simp only [Bool.and_true, Bool.true_and]
    congr 1
    congr 1
    rw [Bool.eq_iff_iff]
    simp
    omega
set_option maxHeartbeats 2000000 in
theorem variantR_any (l : List UInt8) (hs : l.length ≤ 100000) (w : World) : Calls Tryz.prog 81 #[tx l] w fun e w' => e = .returned (.bool (G.variant l)) ∧ w' = w := by
  have h := allA_any l hs w
  have hz := sz_tx l
  rw [variant_eq]
  unfold tx at *
  generalize l.all G.isA = a at *
  cases a with
  | false =>
    go_enter Tryz.func81, Tryz.ntmps81
    go_wp2_with fail
    refine h.mono ?_
    rintro e w1 ⟨rfl, rfl⟩
    go_wp2
    go_ret
    exact ⟨rfl, rfl⟩
  | true =>
    by_cases h5 : 5 ≤ l.length
    · have n4 : ((l.length : Int) == 4) = false := by simp; omega
      by_cases h8 : l.length ≤ 8
      · rw [decide_eq_true h5, decide_eq_true h8]
        go_enter Tryz.func81, Tryz.ntmps81
        go_wp2_with fail
        refine h.mono ?_
        rintro e w1 ⟨rfl, rfl⟩
        go_wp2
        go_ret
        exact ⟨rfl, rfl⟩
      · rw [decide_eq_true h5, decide_eq_false h8, decide_eq_false (show ¬ l.length = 4 by omega)]
        go_enter Tryz.func81, Tryz.ntmps81
        go_wp2_with fail
        refine h.mono ?_
        rintro e w1 ⟨rfl, rfl⟩
        go_wp2
        go_ret
        exact ⟨by show Ending.returned (.bool (decide ((l.length : Int) ≤ 8))) = _; rw [decide_eq_false (by omega)]; rfl, rfl⟩
    · by_cases h4 : l.length = 4
      · have n4 : ((l.length : Int) == 4) = true := by simp; omega
        have hl : 0 < l.length := by omega
        have hlb : 0 < (bts ⟨l.toArray⟩).length := hl
        have hx := fun j hj h => idx_at (s := ⟨l.toArray⟩) hlb j hj h
        have hx3 : (bts ⟨l.toArray⟩)[0]'hlb = l[0]'hl := rfl
        rw [hx3] at hx
        rw [decide_eq_false h5, decide_eq_true h4, headD_eq hl]
        clear hx3
        generalize l[0]'hl = c at *
        have hx2 : ∀ h, (⟨l.toArray⟩ : ByteArray)[0]'h = c := fun h => hx 0 rfl h
        clear hx hlb
        have hd := digitR_any c w
        unfold U8 at hd
        generalize G.isD c = dd at *
        have h4' : l.length ≤ 4 := by omega
        clear h4
        go_enter Tryz.func81, Tryz.ntmps81
        go_wp2_with fail
        refine h.mono ?_
        rintro e w1 ⟨rfl, rfl⟩
        go_wp2_with fail
        refine hd.mono ?_
        rintro e w1 ⟨rfl, rfl⟩
        go_wp2
        go_ret
        exact ⟨by simp, rfl⟩
      · have n4 : ((l.length : Int) == 4) = false := by simp; omega
        rw [decide_eq_false h5, decide_eq_false h4]
        go_enter Tryz.func81, Tryz.ntmps81
        go_wp2_with fail
        refine h.mono ?_
        rintro e w1 ⟨rfl, rfl⟩
        go_wp2
        go_ret
        exact ⟨rfl, rfl⟩
theorem OwnN.bel {w w' : World} {B : Nat} {v : Value} {ss : List (List UInt8)} (ho : OwnN w B v ss) (hg : w.grownBy w' v.ownBlock) (hB : B ≤ w.heap.size) : Below B w w' :=
  (Below.refl _ _).grown hg hB ho.block
theorem split_end {s : List UInt8} {from_ : Nat} {ss : List (List UInt8)} (h : G.cut s = ss ++ G.cut (s.drop from_)) (hn : G.noSep ((s.drop from_).take (s.length - from_))) : G.cut s = ss ++ [(s.drop from_).take (s.length - from_)] := by
  have e : (s.drop from_).take (s.length - from_) = s.drop from_ := List.take_of_length_le (by rw [List.length_drop]; omega)
  rw [e] at hn ⊢
  rw [h, G.cut_nosep hn]
theorem split_sep {s : List UInt8} {from_ i : Nat} {ss : List (List UInt8)} (hfi : from_ ≤ i) (hi : i < s.length) (h : G.cut s = ss ++ G.cut (s.drop from_)) (hn : G.noSep ((s.drop from_).take (i - from_))) (hc : G.isSep s[i] = true) : G.cut s = (ss ++ [(s.drop from_).take (i - from_)]) ++ G.cut (s.drop (i + 1)) := by
  have e : s.drop from_ = (s.drop from_).take (i - from_) ++ s[i] :: s.drop (i + 1) := by
    conv => lhs; rw [← List.take_append_drop (i - from_) (s.drop from_)]
    rw [List.drop_drop, show from_ + (i - from_) = i by omega, List.drop_eq_getElem_cons hi]
  have := G.cut_at (r := s.drop (i + 1)) hn hc
  rw [← e] at this
  rw [h, this]
  simp
theorem split_no {s : List UInt8} {from_ i : Nat} (hfi : from_ ≤ i) (hi : i < s.length) (hn : G.noSep ((s.drop from_).take (i - from_))) (hc : G.isSep s[i] = false) : G.noSep ((s.drop from_).take (i + 1 - from_)) := by
  have e : (s.drop from_).take (i + 1 - from_) = (s.drop from_).take (i - from_) ++ [s[i]] := by
    have := take_snoc (l := s) (k := from_) (n := i - from_) (by omega)
    rw [show i - from_ + 1 = i + 1 - from_ by omega] at this
    rw [this]
    congr 3
    omega
  rw [e]
  intro c hc'
  rcases List.mem_append.1 hc' with h | h
  · exact hn c h
  · simp at h; rw [h]; exact hc
/-- What Split holds between the rounds. -/
def SpO (s : List UInt8) (i f : Nat) (ss : List (List UInt8)) : Prop := (i ≤ s.length ∧ f ≤ i ∧ G.cut s = ss ++ G.cut (s.drop f) ∧ G.noSep ((s.drop f).take (i - f))) ∨ (i = s.length + 1 ∧ ss = G.cut s)
set_option maxRecDepth 100000 in
set_option maxHeartbeats 4000000 in
theorem split_any (s : List UInt8) (hs : s.length ≤ 1000) (w : World) : Calls Tryz.prog 77 #[tx s] w fun e w' => ∃ u, e = .returned u ∧ OwnN w' w.heap.size u (G.cut s) ∧ Below w.heap.size w w' := by
  obtain ⟨i0, hi0, hz0, hz1, hz2⟩ := info_parts9 info9N
  have hz := sz_tx s
  unfold tx
  go_enter Tryz.func77, Tryz.ntmps77
  go_wp2
  go_loopw [3, 4, 5] (fun v q u wr => ∃ (i f : Nat) (ss : List (List UInt8)), u = .int .i64 (i : Int) ∧ q = .int .i64 (f : Int) ∧ i ≤ s.length + 1 ∧ f ≤ 2000 ∧ ss.length ≤ i ∧ OwnN wr w.heap.size v ss ∧ Hid (SpO s i f ss) ∧ Below w.heap.size w wr) (fun _ _ u _ => s.length + 1 - (intOf u).toNat)
  case atStart => exact ⟨0, 0, [], rfl, rfl, by omega, by omega, by simp, ownN_nil _ _, hide (.inl ⟨by omega, by omega, by simp, by intro c hc; simp at hc⟩), Below.refl _ _⟩
  case round =>
    obtain ⟨i, f, ss, rfl, rfl, hi, hf2, hsl, hO, HSP, hb⟩ := hrel
    by_cases hle : i ≤ s.length
    · have HSP2 : Hid (f ≤ i ∧ G.cut s = ss ++ G.cut (s.drop f) ∧ G.noSep ((s.drop f).take (i - f))) := hide (by
        rcases HSP.out with ⟨_, h2, h3, h4⟩ | ⟨h1, _⟩
        · exact ⟨h2, h3, h4⟩
        · omega)
      have hfi := HSP2.out.1
      have hex : (⟨s.toArray⟩ : ByteArray).extract f i = ⟨((s.drop f).take (i - f)).toArray⟩ := ext_tx s f i
      have rO : wr.ownsRow w.heap.size 9 1 u3 ss.length (ss.map tx) := hO
      have hws := hb.size
      generalize hpc : (s.drop f).take (i - f) = pc at *
      have HPC := hide hpc
      by_cases hlt : i < s.length
      · have hl : i < (bts ⟨s.toArray⟩).length := hlt
        have hx := fun j hj h => idx_at (s := ⟨s.toArray⟩) hl j hj h
        have hx3 : (bts ⟨s.toArray⟩)[i]'hl = s[i]'hlt := rfl
        rw [hx3] at hx
        have HY : Hid (G.isSep (s[i]'hlt) = true → SpO s (i + 1) (i + 1) (ss ++ [pc])) := hide (fun h => .inl ⟨by omega, by omega, by
          have := split_sep hfi hlt HSP2.out.2.1 (by rw [hpc]; exact HSP2.out.2.2) h
          rw [hpc] at this
          exact this, by intro c hc; simp at hc⟩)
        have HNO : Hid (G.isSep (s[i]'hlt) = false → SpO s (i + 1) f ss) := hide (fun h => .inl ⟨by omega, by omega, HSP2.out.2.1, split_no hfi hlt (by rw [hpc]; exact HSP2.out.2.2) h⟩)
        clear hx3 hpc HSP HSP2
        generalize s[i]'hlt = c at *
        have hx2 : ∀ h, (⟨s.toArray⟩ : ByteArray)[i]'h = c := fun h => hx (i : Int) rfl h
        clear hx hl
        have en : ((i : Int) == (s.length : Int)) = false := by simp; omega
        have e45 : ((c.toNat : Int) == 45) = decide (c = 45) := u8_eq c 45
        have e95 : ((c.toNat : Int) == 95) = decide (c = 95) := u8_eq c 95
        by_cases c45 : c = 45
        · rw [decide_eq_true c45] at e45
          have HF := hide (HY.out (by rw [c45]; rfl))
          clear HY HNO c45 e95
          go_wp2_with (at_builtin; refine wpList_append_own_at _ rfl _ _ 30 rfl w.heap.size 9 i0 (.string ByteArray.empty) 1 16 Tryz.underlying30 hi0 hz0 hz1 hz2 rfl (by decide) _ _ _ rfl (rO.alloc _) ⟨wr.heap.size, 0, none⟩ 1 1 [.string ⟨pc.toArray⟩] rfl rfl (one_new _ _ _) (by simp [Value.oneCell']) (by unfold maxLen; omega) (by omega) (by simp; omega) ?_; intro v9 w9 hown9 hgrow9 _ hat9; obtain ⟨g9, cap9, rfl⟩ := ownsRow_succ hown9)
          have HB9 := hide (OwnN.bel (show OwnN (wr.alloc (.cells #[.string ⟨pc.toArray⟩] 9)) w.heap.size u3 ss from rO.alloc _) hgrow9 (by simp; omega))
          have hO9 : OwnN w9 w.heap.size (.slice (some ⟨g9, 0, none⟩) (ss.length + 1) cap9) (ss ++ [pc]) := by
            unfold OwnN
            rw [List.map_append, List.length_append]
            exact hown9
          have hb9 : Below w.heap.size w w9 := hb.trans (((al1 wr _).mono hb.size).trans HB9.out)
          go_roundw
          case rel => exact ⟨i + 1, i + 1, ss ++ [pc], by go_num, by go_num, by omega, by omega, by rw [List.length_append]; simp; omega, hO9, HF, hb9⟩
          case measure => simp [intOf]; omega
        · rw [decide_eq_false c45] at e45
          by_cases c95 : c = 95
          · rw [decide_eq_true c95] at e95
            have HF := hide (HY.out (by rw [c95]; rfl))
            clear HY HNO c95 c45
            go_wp2_with (at_builtin; refine wpList_append_own_at _ rfl _ _ 30 rfl w.heap.size 9 i0 (.string ByteArray.empty) 1 16 Tryz.underlying30 hi0 hz0 hz1 hz2 rfl (by decide) _ _ _ rfl (rO.alloc _) ⟨wr.heap.size, 0, none⟩ 1 1 [.string ⟨pc.toArray⟩] rfl rfl (one_new _ _ _) (by simp [Value.oneCell']) (by unfold maxLen; omega) (by omega) (by simp; omega) ?_; intro v9 w9 hown9 hgrow9 _ hat9; obtain ⟨g9, cap9, rfl⟩ := ownsRow_succ hown9)
            have HB9 := hide (OwnN.bel (show OwnN (wr.alloc (.cells #[.string ⟨pc.toArray⟩] 9)) w.heap.size u3 ss from rO.alloc _) hgrow9 (by simp; omega))
            have hO9 : OwnN w9 w.heap.size (.slice (some ⟨g9, 0, none⟩) (ss.length + 1) cap9) (ss ++ [pc]) := by
              unfold OwnN
              rw [List.map_append, List.length_append]
              exact hown9
            have hb9 : Below w.heap.size w w9 := hb.trans (((al1 wr _).mono hb.size).trans HB9.out)
            go_roundw
            case rel => exact ⟨i + 1, i + 1, ss ++ [pc], by go_num, by go_num, by omega, by omega, by rw [List.length_append]; simp; omega, hO9, HF, hb9⟩
            case measure => simp [intOf]; omega
          · rw [decide_eq_false c95] at e95
            have HF := hide (HNO.out (by unfold G.isSep; simp [c45, c95]))
            clear HY HNO c95 c45
            go_wp2
            go_roundw
            case rel => exact ⟨i + 1, f, ss, by go_num, rfl, by omega, by omega, by omega, hO, HF, hb⟩
            case measure => simp [intOf]; omega
      · obtain rfl : i = s.length := by omega
        have en : ((s.length : Int) == (s.length : Int)) = true := by simp
        have HF : Hid (SpO s (s.length + 1) (s.length + 1) (ss ++ [pc])) := hide (.inr ⟨rfl, by
          have := split_end HSP2.out.2.1 (by rw [hpc]; exact HSP2.out.2.2)
          rw [hpc] at this
          exact this.symm⟩)
        clear HSP HSP2 hpc
        go_wp2_with (at_builtin; refine wpList_append_own_at _ rfl _ _ 30 rfl w.heap.size 9 i0 (.string ByteArray.empty) 1 16 Tryz.underlying30 hi0 hz0 hz1 hz2 rfl (by decide) _ _ _ rfl (rO.alloc _) ⟨wr.heap.size, 0, none⟩ 1 1 [.string ⟨pc.toArray⟩] rfl rfl (one_new _ _ _) (by simp [Value.oneCell']) (by unfold maxLen; omega) (by omega) (by simp; omega) ?_; intro v9 w9 hown9 hgrow9 _ hat9; obtain ⟨g9, cap9, rfl⟩ := ownsRow_succ hown9)
        have HB9 := hide (OwnN.bel (show OwnN (wr.alloc (.cells #[.string ⟨pc.toArray⟩] 9)) w.heap.size u3 ss from rO.alloc _) hgrow9 (by simp; omega))
        have hO9 : OwnN w9 w.heap.size (.slice (some ⟨g9, 0, none⟩) (ss.length + 1) cap9) (ss ++ [pc]) := by
          unfold OwnN
          rw [List.map_append, List.length_append]
          exact hown9
        have hb9 : Below w.heap.size w w9 := hb.trans (((al1 wr _).mono hb.size).trans HB9.out)
        go_roundw
        case rel => exact ⟨s.length + 1, s.length + 1, ss ++ [pc], by go_num, by go_num, by omega, by omega, by rw [List.length_append]; simp; omega, hO9, HF, hb9⟩
        case measure => simp [intOf]
    · have hO2 : OwnN wr w.heap.size u3 (G.cut s) := by
        rcases HSP.out with ⟨h1, _⟩ | ⟨_, h2⟩
        · omega
        · rw [← h2]; exact hO
      clear HSP hO
      go_wp2
      go_ret
      exact ⟨_, rfl, hO2, hb⟩
end Go.Proofs.YtbeihgjonhgfmaaGreatDoor
