/- number, name, prop, mark of lex. -/
import Derived.Test.YtidpalighpdlfaaGreatDoorNam
namespace Go.Proofs.YtidpalighpdlfaaGreatDoor
open Go.RowKit

/-- What X.nextL says of a number. -/
def numL (u : List UInt8) : Option (X.Tk × Nat) := if (u.takeWhile X.isD).length ≤ 4 ∧ ¬ (1 < (u.takeWhile X.isD).length ∧ u.head? = some 48) then some (⟨3, u.takeWhile X.isD, 0⟩, (u.takeWhile X.isD).length) else none
set_option maxHeartbeats 2000000 in
theorem number_lex (s : ByteArray) (hs : s.size ≤ 100000) (h0 : 0 < s.size) (w : World) : Calls Tryz.prog 34 #[.string s] w fun e w' => AnsT (numL (bts s)) 0 e ∧ Below w.heap.size w w' := by
  have hrun := run_digit s hs (w.alloc room)
  have hle := X.takeWhile_le X.isD (bts s)
  rw [bts_len] at hle
  obtain ⟨n, hn⟩ : ∃ n, ((bts s).takeWhile X.isD).length = n := ⟨_, rfl⟩
  have ht : (bts s).takeWhile X.isD = bts (s.extract 0 n) := by
    rw [bts_take, ← hn]
    exact List.prefix_iff_eq_take.1 (List.takeWhile_prefix X.isD)
  have hl : 0 < (bts s).length := h0
  obtain ⟨c, hc⟩ : ∃ c, (bts s)[0]'hl = c := ⟨_, rfl⟩
  have hx2 : ∀ h, s[0]'h = c := fun h => (idx_at (s := s) hl ((0 : Nat) : Int) rfl h).trans hc
  have hhd : (bts s).head? = some c := by rw [List.head?_eq_getElem?, List.getElem?_eq_getElem hl, hc]
  have HU : Hid (numL (bts s) = if n ≤ 4 ∧ ¬ (1 < n ∧ c = 48) then some (⟨3, bts (s.extract 0 n), 0⟩, n) else none) := hide (by
    unfold numL
    rw [hn, hhd, ht]
    simp)
  rw [hn] at hrun hle
  have e48 : ((c.toNat : Int) == 48) = decide (c = 48) := u8_eq c 48
  clear hn ht hc hhd hl
  have hnm := named_any 3 (s.extract 0 n) (by rw [ext_size _ _ _ hle]; omega) (w.alloc room)
  have hr0 := heap_alloc_new w room
  obtain ⟨d0, d1, d2, d3⟩ := cells_four hr0
  have f0 := frozen_row hr0 0
  have f1 := frozen_row hr0 1
  have f2 := frozen_row hr0 2
  have f3 := frozen_row hr0 3
  by_cases h4 : n ≤ 4
  · by_cases h1 : 1 < n
    · by_cases h48 : c = 48
      · rw [decide_eq_true h48] at e48
        have HN : Hid (numL (bts s) = none) := hide (by rw [HU.out, if_neg (fun h => h.2 ⟨h1, h48⟩)])
        clear HU h48
        go_enter Tryz.func34, Tryz.ntmps34
        go_wp2_with fail
        refine hrun.mono ?_
        rintro e w1 ⟨rfl, rfl⟩
        go_wp2
        exact bodyPost_ret (v := .tuple #[tokV tz 0, .int .i64 0]) (by unfold tokV; simp [results, Tryz.results34, go_sem, d0, d1, d2, d3, tz]) rfl ⟨ansT_none HN.out, al1 w room⟩
      · rw [decide_eq_false h48] at e48
        have HN : Hid (numL (bts s) = some (⟨3, bts (s.extract 0 n), 0⟩, n)) := hide (by rw [HU.out, if_pos ⟨h4, fun h => h48 h.2⟩])
        clear HU h48 d0 d1 d2 d3 f0 f1 f2 f3 hr0
        go_enter Tryz.func34, Tryz.ntmps34
        go_wp2_with fail
        refine hrun.mono ?_
        rintro e w1 ⟨rfl, rfl⟩
        go_wp2_with fail
        refine hnm.mono ?_
        rintro e w1 ⟨rfl, hb⟩
        obtain ⟨hr0, hbb⟩ := room_kept hb
        clear hb hnm hrun
        obtain ⟨d0, d1, d2, d3⟩ := cells_four hr0
        have f0 := frozen_row hr0 0
        have f1 := frozen_row hr0 1
        have f2 := frozen_row hr0 2
        have f3 := frozen_row hr0 3
        go_wp2
        exact bodyPost_ret (v := .tuple #[.agg #[.int .i64 3, .int .i64 0, .string (s.extract 0 n), .int .i32 0], .int .i64 (n : Int)]) (by simp [results, Tryz.results34, go_sem, d0, d1, d2, d3]) rfl ⟨ansT_some HN.out, four_set hbb _ _ _ _⟩
    · have HN : Hid (numL (bts s) = some (⟨3, bts (s.extract 0 n), 0⟩, n)) := hide (by rw [HU.out, if_pos ⟨h4, fun h => h1 h.1⟩])
      clear HU d0 d1 d2 d3 f0 f1 f2 f3 hr0 e48
      go_enter Tryz.func34, Tryz.ntmps34
      go_wp2_with fail
      refine hrun.mono ?_
      rintro e w1 ⟨rfl, rfl⟩
      go_wp2_with fail
      refine hnm.mono ?_
      rintro e w1 ⟨rfl, hb⟩
      obtain ⟨hr0, hbb⟩ := room_kept hb
      clear hb hnm hrun
      obtain ⟨d0, d1, d2, d3⟩ := cells_four hr0
      have f0 := frozen_row hr0 0
      have f1 := frozen_row hr0 1
      have f2 := frozen_row hr0 2
      have f3 := frozen_row hr0 3
      go_wp2
      exact bodyPost_ret (v := .tuple #[.agg #[.int .i64 3, .int .i64 0, .string (s.extract 0 n), .int .i32 0], .int .i64 (n : Int)]) (by simp [results, Tryz.results34, go_sem, d0, d1, d2, d3]) rfl ⟨ansT_some HN.out, four_set hbb _ _ _ _⟩
  · have HN : Hid (numL (bts s) = none) := hide (by rw [HU.out, if_neg (fun h => h4 h.1)])
    clear HU e48
    go_enter Tryz.func34, Tryz.ntmps34
    go_wp2_with fail
    refine hrun.mono ?_
    rintro e w1 ⟨rfl, rfl⟩
    go_wp2
    exact bodyPost_ret (v := .tuple #[tokV tz 0, .int .i64 0]) (by unfold tokV; simp [results, Tryz.results34, go_sem, d0, d1, d2, d3, tz]) rfl ⟨ansT_none HN.out, al1 w room⟩

/-- What X.nextL says of a name, behind its sign. -/
def nameL (u : List UInt8) : Option (X.Tk × Nat) := if (u.head?.map X.isL) = some true ∧ (u.takeWhile X.isLD).length ≤ 20 then some (⟨1, u.takeWhile X.isLD, 0⟩, 1 + (u.takeWhile X.isLD).length) else none
set_option maxHeartbeats 2000000 in
theorem name_lex (s : ByteArray) (hs : s.size ≤ 100000) (h0 : 0 < s.size) (w : World) : Calls Tryz.prog 32 #[.string s] w fun e w' => AnsT (nameL ((bts s).drop 1)) 0 e ∧ Below w.heap.size w w' := by
  have hrun := run_alnum (s.extract 1 s.size) (by rw [extract_size]; omega) (w.alloc room)
  rw [bts_extract s 1] at hrun
  have hle := X.takeWhile_le X.isLD ((bts s).drop 1)
  rw [List.length_drop, bts_len] at hle
  obtain ⟨n, hn⟩ : ∃ n, (((bts s).drop 1).takeWhile X.isLD).length = n := ⟨_, rfl⟩
  have ht : ((bts s).drop 1).takeWhile X.isLD = bts (s.extract 1 (1 + n)) := by
    rw [bts_ext, ← hn, Nat.add_sub_cancel_left]
    exact List.prefix_iff_eq_take.1 (List.takeWhile_prefix X.isLD)
  have HU : Hid (nameL ((bts s).drop 1) = if n ≠ 0 ∧ n ≤ 20 ∧ (((bts s).drop 1).head?.map X.isD) ≠ some true then some (⟨1, bts (s.extract 1 (1 + n)), 0⟩, 1 + n) else none) := hide (by
    unfold nameL
    by_cases hq : n ≠ 0 ∧ n ≤ 20 ∧ (((bts s).drop 1).head?.map X.isD) ≠ some true
    · rw [if_pos hq, if_pos ((X.name_cond _).2 (by rw [hn]; exact hq)), hn, ht]
    · rw [if_neg hq, if_neg (fun h => hq (by rw [← hn]; exact (X.name_cond _).1 h))])
  rw [hn] at hrun hle
  clear hn ht
  generalize nameL ((bts s).drop 1) = o at *
  have hnm := named_any 1 (s.extract 1 (1 + n)) (by rw [ext_size _ _ _ (by omega)]; omega) (w.alloc room)
  have hr0 := heap_alloc_new w room
  obtain ⟨d0, d1, d2, d3⟩ := cells_four hr0
  have f0 := frozen_row hr0 0
  have f1 := frozen_row hr0 1
  have f2 := frozen_row hr0 2
  have f3 := frozen_row hr0 3
  by_cases hz : n = 0
  · subst hz
    have HN : Hid (o = none) := hide (by rw [HU.out, if_neg (fun h => h.1 rfl)])
    clear HU
    go_enter Tryz.func32, Tryz.ntmps32
    go_wp2_with fail
    refine hrun.mono ?_
    rintro e w1 ⟨rfl, rfl⟩
    go_wp2
    exact bodyPost_ret (v := .tuple #[tokV tz 0, .int .i64 0]) (by unfold tokV; simp [results, Tryz.results32, go_sem, d0, d1, d2, d3, tz]) rfl ⟨ansT_none HN.out, al1 w room⟩
  · have hz' : 0 < n := by omega
    have HZ := hide hz
    clear hz
    have e0 : ((n : Int) == 0) = false := by rw [beq_eq_false_iff_ne]; omega
    by_cases h20 : n ≤ 20
    · have e20 : decide ((20 : Int) < n) = false := decide_eq_false (by omega)
      have hl : 1 < (bts s).length := by rw [bts_len]; omega
      obtain ⟨c, hc⟩ : ∃ c, (bts s)[1]'hl = c := ⟨_, rfl⟩
      have hx2 : ∀ h, s[1]'h = c := fun h => (idx_at (s := s) hl ((1 : Nat) : Int) rfl h).trans hc
      have hhd : ((bts s).drop 1).head? = some c := by rw [List.head?_eq_getElem?, List.getElem?_drop, List.getElem?_eq_getElem hl, hc]
      have HH := hide hhd
      clear hhd hc hl
      have hdg := digit_any c (w.alloc room)
      cases hd : X.isD c with
      | true =>
        rw [hd] at hdg
        have HN : Hid (o = none) := hide (by rw [HU.out, if_neg (fun h => h.2.2 (by rw [HH.out]; simp [hd]))])
        clear HU hd HH HZ
        go_enter Tryz.func32, Tryz.ntmps32
        go_wp2_with fail
        refine hrun.mono ?_
        rintro e w1 ⟨rfl, rfl⟩
        go_wp2_with fail
        refine hdg.mono ?_
        rintro e w1 ⟨rfl, rfl⟩
        go_wp2
        exact bodyPost_ret (v := .tuple #[tokV tz 0, .int .i64 0]) (by unfold tokV; simp [results, Tryz.results32, go_sem, d0, d1, d2, d3, tz]) rfl ⟨ansT_none HN.out, al1 w room⟩
      | false =>
        rw [hd] at hdg
        have HN : Hid (o = some (⟨1, bts (s.extract 1 (1 + n)), 0⟩, 1 + n)) := hide (by rw [HU.out, if_pos ⟨HZ.out, h20, by rw [HH.out]; simp [hd]⟩])
        clear HU hd HH HZ d0 d1 d2 d3 f0 f1 f2 f3 hr0
        go_enter Tryz.func32, Tryz.ntmps32
        go_wp2_with fail
        refine hrun.mono ?_
        rintro e w1 ⟨rfl, rfl⟩
        go_wp2_with fail
        refine hdg.mono ?_
        rintro e w1 ⟨rfl, rfl⟩
        go_wp2_with fail
        refine hnm.mono ?_
        rintro e w1 ⟨rfl, hb⟩
        obtain ⟨hr0, hbb⟩ := room_kept hb
        clear hb hnm hrun hdg
        obtain ⟨d0, d1, d2, d3⟩ := cells_four hr0
        have f0 := frozen_row hr0 0
        have f1 := frozen_row hr0 1
        have f2 := frozen_row hr0 2
        have f3 := frozen_row hr0 3
        go_wp2
        exact bodyPost_ret (v := .tuple #[.agg #[.int .i64 1, .int .i64 0, .string (s.extract 1 (1 + n)), .int .i32 0], .int .i64 ((1 + n : Nat) : Int)]) (by simp [results, Tryz.results32, go_sem, d0, d1, d2, d3]) rfl ⟨ansT_some HN.out, four_set hbb _ _ _ _⟩
    · have e20 : decide ((20 : Int) < n) = true := decide_eq_true (by omega)
      have HN : Hid (o = none) := hide (by rw [HU.out, if_neg (fun h => h20 h.2.1)])
      clear HU
      go_enter Tryz.func32, Tryz.ntmps32
      go_wp2_with fail
      refine hrun.mono ?_
      rintro e w1 ⟨rfl, rfl⟩
      go_wp2
      exact bodyPost_ret (v := .tuple #[tokV tz 0, .int .i64 0]) (by unfold tokV; simp [results, Tryz.results32, go_sem, d0, d1, d2, d3, tz]) rfl ⟨ansT_none HN.out, al1 w room⟩

/-- What X.nextL says of a property, behind its brace. -/
def propL (u : List UInt8) : Option (X.Tk × Nat) := if 1 ≤ (u.takeWhile X.isL).length ∧ (u.drop (u.takeWhile X.isL).length).head? = some 125 then some (⟨5, u.takeWhile X.isL, 0⟩, (u.takeWhile X.isL).length + 2) else none
theorem pre_one (l : List UInt8) (c : UInt8) : Lib.hasPrefix l [c] = decide (l.head? = some c) := by
  unfold Lib.hasPrefix
  cases l with
  | nil => simp [List.isPrefixOf]
  | cons x l =>
    rw [Bool.eq_iff_iff]
    simp [List.isPrefixOf]
    exact eq_comm
set_option maxHeartbeats 2000000 in
theorem prop_lex (s : ByteArray) (hs : s.size ≤ 100000) (h0 : 0 < s.size) (w : World) : Calls Tryz.prog 39 #[.string s] w fun e w' => AnsT (propL ((bts s).drop 1)) 0 e ∧ Below w.heap.size w w' := by
  have hrun := run_letter (s.extract 1 s.size) (by rw [extract_size]; omega) (w.alloc room)
  rw [bts_extract s 1] at hrun
  have hle := X.takeWhile_le X.isL ((bts s).drop 1)
  rw [List.length_drop, bts_len] at hle
  obtain ⟨n, hn⟩ : ∃ n, (((bts s).drop 1).takeWhile X.isL).length = n := ⟨_, rfl⟩
  have ht : ((bts s).drop 1).takeWhile X.isL = bts (s.extract 1 (1 + n)) := by
    rw [bts_ext, ← hn, Nat.add_sub_cancel_left]
    exact List.prefix_iff_eq_take.1 (List.takeWhile_prefix X.isL)
  have hpr := pre_any (s.extract (1 + n) s.size) ⟨#[125]⟩ (w.alloc room)
  rw [bts_extract s (1 + n), show bts ⟨#[125]⟩ = [125] from rfl, pre_one] at hpr
  have HU : Hid (propL ((bts s).drop 1) = if 1 ≤ n ∧ ((bts s).drop (1 + n)).head? = some 125 then some (⟨5, bts (s.extract 1 (1 + n)), 0⟩, n + 2) else none) := hide (by
    unfold propL
    rw [hn, List.drop_drop, ht])
  rw [hn] at hrun hle
  clear hn ht
  generalize propL ((bts s).drop 1) = o at *
  generalize ((bts s).drop (1 + n)).head? = hd at *
  have hnm := named_any 5 (s.extract 1 (1 + n)) (by rw [ext_size _ _ _ (by omega)]; omega) (w.alloc room)
  have hr0 := heap_alloc_new w room
  obtain ⟨d0, d1, d2, d3⟩ := cells_four hr0
  have f0 := frozen_row hr0 0
  have f1 := frozen_row hr0 1
  have f2 := frozen_row hr0 2
  have f3 := frozen_row hr0 3
  by_cases hz : n = 0
  · subst hz
    have HN : Hid (o = none) := hide (by rw [HU.out, if_neg (fun h => absurd h.1 (by omega))])
    clear HU hpr
    go_enter Tryz.func39, Tryz.ntmps39
    go_wp2_with fail
    refine hrun.mono ?_
    rintro e w1 ⟨rfl, rfl⟩
    go_wp2
    exact bodyPost_ret (v := .tuple #[tokV tz 0, .int .i64 0]) (by unfold tokV; simp [results, Tryz.results39, go_sem, d0, d1, d2, d3, tz]) rfl ⟨ansT_none HN.out, al1 w room⟩
  · have hz' : 0 < n := by omega
    clear hz
    have e0 : ((n : Int) == 0) = false := by rw [beq_eq_false_iff_ne]; omega
    by_cases hh : hd = some 125
    · rw [decide_eq_true hh] at hpr
      have HN : Hid (o = some (⟨5, bts (s.extract 1 (1 + n)), 0⟩, n + 2)) := hide (by rw [HU.out, if_pos ⟨hz', hh⟩])
      clear HU hh d0 d1 d2 d3 f0 f1 f2 f3 hr0
      go_enter Tryz.func39, Tryz.ntmps39
      go_wp2_with fail
      refine hrun.mono ?_
      rintro e w1 ⟨rfl, rfl⟩
      go_wp2_with fail
      refine hpr.mono ?_
      rintro e w1 ⟨rfl, rfl⟩
      go_wp2_with fail
      refine hnm.mono ?_
      rintro e w1 ⟨rfl, hb⟩
      obtain ⟨hr0, hbb⟩ := room_kept hb
      clear hb hnm hrun hpr
      obtain ⟨d0, d1, d2, d3⟩ := cells_four hr0
      have f0 := frozen_row hr0 0
      have f1 := frozen_row hr0 1
      have f2 := frozen_row hr0 2
      have f3 := frozen_row hr0 3
      go_wp2
      exact bodyPost_ret (v := .tuple #[.agg #[.int .i64 5, .int .i64 0, .string (s.extract 1 (1 + n)), .int .i32 0], .int .i64 ((n + 2 : Nat) : Int)]) (by simp [results, Tryz.results39, go_sem, d0, d1, d2, d3]) rfl ⟨ansT_some HN.out, four_set hbb _ _ _ _⟩
    · rw [decide_eq_false hh] at hpr
      have HN : Hid (o = none) := hide (by rw [HU.out, if_neg (fun h => hh h.2)])
      clear HU hh
      go_enter Tryz.func39, Tryz.ntmps39
      go_wp2_with fail
      refine hrun.mono ?_
      rintro e w1 ⟨rfl, rfl⟩
      go_wp2_with fail
      refine hpr.mono ?_
      rintro e w1 ⟨rfl, rfl⟩
      go_wp2
      exact bodyPost_ret (v := .tuple #[tokV tz 0, .int .i64 0]) (by unfold tokV; simp [results, Tryz.results39, go_sem, d0, d1, d2, d3, tz]) rfl ⟨ansT_none HN.out, al1 w room⟩
end Go.Proofs.YtidpalighpdlfaaGreatDoor
