/- Joined: JE. -/
import Derived.Test.YtgngaldoemopjaaGreatDoorFJD
import Derived.Shelf.Spec.DecodeRune
import Derived.Test.YtgngaldoemopjaaGreatDoorFJA
import Derived.RangeFuncNested
import Derived.RangeFuncBound
import Derived.RangeFuncCalls
import Derived.RangeFuncLeaves
import Derived.RangeFuncBox
import Derived.Shelf.Abstract
import Derived.OwnWalkIn
import Derived.TacticsInMore
import Derived.LoopNIn
import Derived.LoopIn
import Derived.Maps.AppendAt
import Derived.Deep.QuietTactic
import Derived.BigQuiet
import Derived.WalkSmall
import Derived.Lib.ConvBytes
namespace Go.Proofs.YtgngaldoemopjaaGreatDoor
open Go.RowKit
def numL (u : List UInt8) : Option (X.Tk × Nat) := if (u.takeWhile X.isD).length ≤ 4 ∧ ¬ (1 < (u.takeWhile X.isD).length ∧ u.head? = some 48) then some (⟨3, u.takeWhile X.isD, 0⟩, (u.takeWhile X.isD).length) else none
set_option maxHeartbeats 2000000 in
theorem number_lex (s : ByteArray) (hs : s.size ≤ 100000) (h0 : 0 < s.size) (w : World) : Calls Tryz.prog 140 #[.string s] w fun e w' => AnsT (numL (bts s)) 0 e ∧ Below w.heap.size w w' := by
 have hrun := run_digit s hs (w.alloc room)
 have hle := X.takeWhile_le X.isD (bts s)
 rw [bts_len] at hle
 obtain ⟨n, hn⟩ : ∃ n, ((bts s).takeWhile X.isD).length = n := ⟨_, rfl⟩
 have ht : (bts s).takeWhile X.isD = bts (s.extract 0 n) := by
   rw [bts_take, ← hn]
   exact List.prefix_iff_eq_take.1 (List.takeWhile_prefix X.isD)
 have hl : 0 < (bts s).length := h0
 obtain ⟨c, hc⟩ : ∃ c, (bts s)[0]'hl = c := ⟨_, rfl⟩
 have hx2 : ∀ h, s[0]'h = c := fun h => (idx_at (s := s) hl ((0 : Nat) : Int) rfl h).trans hc
 have hhd : (bts s).head? = some c := by rw [List.head?_eq_getElem?, List.getElem?_eq_getElem hl, hc]
 have HU : Hid (numL (bts s) = if n ≤ 4 ∧ ¬ (1 < n ∧ c = 48) then some (⟨3, bts (s.extract 0 n), 0⟩, n) else none) := hide (by
   unfold numL
   rw [hn, hhd, ht]
   simp)
 rw [hn] at hrun hle
 have e48 : ((c.toNat : Int) == 48) = decide (c = 48) := u8_eq c 48
 clear hn ht hc hhd hl
 have hnm := named_any 3 (s.extract 0 n) (by rw [ext_size _ _ _ hle]; omega) (w.alloc room)
 have hr0 := heap_alloc_new w room
 obtain ⟨d0, d1, d2, d3⟩ := cells_four hr0
 have f0 := frozen_row hr0 0
 have f1 := frozen_row hr0 1
 have f2 := frozen_row hr0 2
 have f3 := frozen_row hr0 3
 by_cases h4 : n ≤ 4
 · by_cases h1 : 1 < n
   · by_cases h48 : c = 48
     · rw [decide_eq_true h48] at e48
       have HN : Hid (numL (bts s) = none) := hide (by rw [HU.out, if_neg (fun h => h.2 ⟨h1, h48⟩)])
       clear HU h48
       go_enter Tryz.func140, Tryz.ntmps140
       go_wp2_with fail
       refine hrun.mono ?_
       rintro e w1 ⟨rfl, rfl⟩
       go_wp2
       exact bodyPost_ret (v := .tuple #[tokV tz 0, .int .i64 0]) (by unfold tokV; simp [results, Tryz.results140, go_sem, d0, d1, d2, d3, tz]) rfl ⟨ansT_none HN.out, al1 w room⟩
     · rw [decide_eq_false h48] at e48
       have HN : Hid (numL (bts s) = some (⟨3, bts (s.extract 0 n), 0⟩, n)) := hide (by rw [HU.out, if_pos ⟨h4, fun h => h48 h.2⟩])
       clear HU h48 d0 d1 d2 d3 f0 f1 f2 f3 hr0
       go_enter Tryz.func140, Tryz.ntmps140
       go_wp2_with fail
       refine hrun.mono ?_
       rintro e w1 ⟨rfl, rfl⟩
       go_wp2_with fail
       refine hnm.mono ?_
       rintro e w1 ⟨rfl, hb⟩
       obtain ⟨hr0, hbb⟩ := room_kept hb
       clear hb hnm hrun
       obtain ⟨d0, d1, d2, d3⟩ := cells_four hr0
       have f0 := frozen_row hr0 0
       have f1 := frozen_row hr0 1
       have f2 := frozen_row hr0 2
       have f3 := frozen_row hr0 3
       go_wp2
       exact bodyPost_ret (v := .tuple #[.agg #[.int .i64 3, .int .i64 0, .string (s.extract 0 n), .int .i32 0], .int .i64 (n : Int)]) (by simp [results, Tryz.results140, go_sem, d0, d1, d2, d3]) rfl ⟨ansT_some HN.out, four_set hbb _ _ _ _⟩
   · have HN : Hid (numL (bts s) = some (⟨3, bts (s.extract 0 n), 0⟩, n)) := hide (by rw [HU.out, if_pos ⟨h4, fun h => h1 h.1⟩])
     clear HU d0 d1 d2 d3 f0 f1 f2 f3 hr0 e48
     go_enter Tryz.func140, Tryz.ntmps140
     go_wp2_with fail
     refine hrun.mono ?_
     rintro e w1 ⟨rfl, rfl⟩
     go_wp2_with fail
     refine hnm.mono ?_
     rintro e w1 ⟨rfl, hb⟩
     obtain ⟨hr0, hbb⟩ := room_kept hb
     clear hb hnm hrun
     obtain ⟨d0, d1, d2, d3⟩ := cells_four hr0
     have f0 := frozen_row hr0 0
     have f1 := frozen_row hr0 1
     have f2 := frozen_row hr0 2
     have f3 := frozen_row hr0 3
     go_wp2
     exact bodyPost_ret (v := .tuple #[.agg #[.int .i64 3, .int .i64 0, .string (s.extract 0 n), .int .i32 0], .int .i64 (n : Int)]) (by simp [results, Tryz.results140, go_sem, d0, d1, d2, d3]) rfl ⟨ansT_some HN.out, four_set hbb _ _ _ _⟩
 · have HN : Hid (numL (bts s) = none) := hide (by rw [HU.out, if_neg (fun h => h4 h.1)])
   clear HU e48
   go_enter Tryz.func140, Tryz.ntmps140
   go_wp2_with fail
   refine hrun.mono ?_
   rintro e w1 ⟨rfl, rfl⟩
   go_wp2
   exact bodyPost_ret (v := .tuple #[tokV tz 0, .int .i64 0]) (by unfold tokV; simp [results, Tryz.results140, go_sem, d0, d1, d2, d3, tz]) rfl ⟨ansT_none HN.out, al1 w room⟩
def nameL (u : List UInt8) : Option (X.Tk × Nat) := if (u.head?.map X.isL) = some true ∧ (u.takeWhile X.isLD).length ≤ 20 then some (⟨1, u.takeWhile X.isLD, 0⟩, 1 + (u.takeWhile X.isLD).length) else none
set_option maxHeartbeats 2000000 in
theorem name_lex (s : ByteArray) (hs : s.size ≤ 100000) (h0 : 0 < s.size) (w : World) : Calls Tryz.prog 138 #[.string s] w fun e w' => AnsT (nameL ((bts s).drop 1)) 0 e ∧ Below w.heap.size w w' := by
 have hrun := run_alnum (s.extract 1 s.size) (by rw [extract_size]; omega) (w.alloc room)
 rw [bts_extract s 1] at hrun
 have hle := X.takeWhile_le X.isLD ((bts s).drop 1)
 rw [List.length_drop, bts_len] at hle
 obtain ⟨n, hn⟩ : ∃ n, (((bts s).drop 1).takeWhile X.isLD).length = n := ⟨_, rfl⟩
 have ht : ((bts s).drop 1).takeWhile X.isLD = bts (s.extract 1 (1 + n)) := by
   rw [bts_ext, ← hn, Nat.add_sub_cancel_left]
   exact List.prefix_iff_eq_take.1 (List.takeWhile_prefix X.isLD)
 have HU : Hid (nameL ((bts s).drop 1) = if n ≠ 0 ∧ n ≤ 20 ∧ (((bts s).drop 1).head?.map X.isD) ≠ some true then some (⟨1, bts (s.extract 1 (1 + n)), 0⟩, 1 + n) else none) := hide (by
   unfold nameL
   by_cases hq : n ≠ 0 ∧ n ≤ 20 ∧ (((bts s).drop 1).head?.map X.isD) ≠ some true
   · rw [if_pos hq, if_pos ((X.name_cond _).2 (by rw [hn]; exact hq)), hn, ht]
   · rw [if_neg hq, if_neg (fun h => hq (by rw [← hn]; exact (X.name_cond _).1 h))])
 rw [hn] at hrun hle
 clear hn ht
 generalize nameL ((bts s).drop 1) = o at *
 have hnm := named_any 1 (s.extract 1 (1 + n)) (by rw [ext_size _ _ _ (by omega)]; omega) (w.alloc room)
 have hr0 := heap_alloc_new w room
 obtain ⟨d0, d1, d2, d3⟩ := cells_four hr0
 have f0 := frozen_row hr0 0
 have f1 := frozen_row hr0 1
 have f2 := frozen_row hr0 2
 have f3 := frozen_row hr0 3
 by_cases hz : n = 0
 · subst hz
   have HN : Hid (o = none) := hide (by rw [HU.out, if_neg (fun h => h.1 rfl)])
   clear HU
   go_enter Tryz.func138, Tryz.ntmps138
   go_wp2_with fail
   refine hrun.mono ?_
   rintro e w1 ⟨rfl, rfl⟩
   go_wp2
   exact bodyPost_ret (v := .tuple #[tokV tz 0, .int .i64 0]) (by unfold tokV; simp [results, Tryz.results138, go_sem, d0, d1, d2, d3, tz]) rfl ⟨ansT_none HN.out, al1 w room⟩
 · have hz' : 0 < n := by omega
   have HZ := hide hz
   clear hz
   have e0 : ((n : Int) == 0) = false := by rw [beq_eq_false_iff_ne]; omega
   by_cases h20 : n ≤ 20
   · have e20 : decide ((20 : Int) < n) = false := decide_eq_false (by omega)
     have hl : 1 < (bts s).length := by rw [bts_len]; omega
     obtain ⟨c, hc⟩ : ∃ c, (bts s)[1]'hl = c := ⟨_, rfl⟩
     have hx2 : ∀ h, s[1]'h = c := fun h => (idx_at (s := s) hl ((1 : Nat) : Int) rfl h).trans hc
     have hhd : ((bts s).drop 1).head? = some c := by rw [List.head?_eq_getElem?, List.getElem?_drop, List.getElem?_eq_getElem hl, hc]
     have HH := hide hhd
     clear hhd hc hl
     have hdg := digit_any c (w.alloc room)
     cases hd : X.isD c with
     | true =>
       rw [hd] at hdg
       have HN : Hid (o = none) := hide (by rw [HU.out, if_neg (fun h => h.2.2 (by rw [HH.out]; simp [hd]))])
       clear HU hd HH HZ
       go_enter Tryz.func138, Tryz.ntmps138
       go_wp2_with fail
       refine hrun.mono ?_
       rintro e w1 ⟨rfl, rfl⟩
       go_wp2_with fail
       refine hdg.mono ?_
       rintro e w1 ⟨rfl, rfl⟩
       go_wp2
       exact bodyPost_ret (v := .tuple #[tokV tz 0, .int .i64 0]) (by unfold tokV; simp [results, Tryz.results138, go_sem, d0, d1, d2, d3, tz]) rfl ⟨ansT_none HN.out, al1 w room⟩
     | false =>
       rw [hd] at hdg
       have HN : Hid (o = some (⟨1, bts (s.extract 1 (1 + n)), 0⟩, 1 + n)) := hide (by rw [HU.out, if_pos ⟨HZ.out, h20, by rw [HH.out]; simp [hd]⟩])
       clear HU hd HH HZ d0 d1 d2 d3 f0 f1 f2 f3 hr0
       go_enter Tryz.func138, Tryz.ntmps138
       go_wp2_with fail
       refine hrun.mono ?_
       rintro e w1 ⟨rfl, rfl⟩
       go_wp2_with fail
       refine hdg.mono ?_
       rintro e w1 ⟨rfl, rfl⟩
       go_wp2_with fail
       refine hnm.mono ?_
       rintro e w1 ⟨rfl, hb⟩
       obtain ⟨hr0, hbb⟩ := room_kept hb
       clear hb hnm hrun hdg
       obtain ⟨d0, d1, d2, d3⟩ := cells_four hr0
       have f0 := frozen_row hr0 0
       have f1 := frozen_row hr0 1
       have f2 := frozen_row hr0 2
       have f3 := frozen_row hr0 3
       go_wp2
       exact bodyPost_ret (v := .tuple #[.agg #[.int .i64 1, .int .i64 0, .string (s.extract 1 (1 + n)), .int .i32 0], .int .i64 ((1 + n : Nat) : Int)]) (by simp [results, Tryz.results138, go_sem, d0, d1, d2, d3]) rfl ⟨ansT_some HN.out, four_set hbb _ _ _ _⟩
   · have e20 : decide ((20 : Int) < n) = true := decide_eq_true (by omega)
     have HN : Hid (o = none) := hide (by rw [HU.out, if_neg (fun h => h20 h.2.1)])
     clear HU
     go_enter Tryz.func138, Tryz.ntmps138
     go_wp2_with fail
     refine hrun.mono ?_
     rintro e w1 ⟨rfl, rfl⟩
     go_wp2
     exact bodyPost_ret (v := .tuple #[tokV tz 0, .int .i64 0]) (by unfold tokV; simp [results, Tryz.results138, go_sem, d0, d1, d2, d3, tz]) rfl ⟨ansT_none HN.out, al1 w room⟩
def propL (u : List UInt8) : Option (X.Tk × Nat) := if 1 ≤ (u.takeWhile X.isL).length ∧ (u.drop (u.takeWhile X.isL).length).head? = some 125 then some (⟨5, u.takeWhile X.isL, 0⟩, (u.takeWhile X.isL).length + 2) else none
theorem pre_one (l : List UInt8) (c : UInt8) : Lib.hasPrefix l [c] = decide (l.head? = some c) := by
 unfold Lib.hasPrefix
 cases l with
 | nil => simp [List.isPrefixOf]
 | cons x l =>
   rw [Bool.eq_iff_iff]
   simp [List.isPrefixOf]
   exact eq_comm
set_option maxHeartbeats 2000000 in
theorem prop_lex (s : ByteArray) (hs : s.size ≤ 100000) (h0 : 0 < s.size) (w : World) : Calls Tryz.prog 145 #[.string s] w fun e w' => AnsT (propL ((bts s).drop 1)) 0 e ∧ Below w.heap.size w w' := by
 have hrun := run_letter (s.extract 1 s.size) (by rw [extract_size]; omega) (w.alloc room)
 rw [bts_extract s 1] at hrun
 have hle := X.takeWhile_le X.isL ((bts s).drop 1)
 rw [List.length_drop, bts_len] at hle
 obtain ⟨n, hn⟩ : ∃ n, (((bts s).drop 1).takeWhile X.isL).length = n := ⟨_, rfl⟩
 have ht : ((bts s).drop 1).takeWhile X.isL = bts (s.extract 1 (1 + n)) := by
   rw [bts_ext, ← hn, Nat.add_sub_cancel_left]
   exact List.prefix_iff_eq_take.1 (List.takeWhile_prefix X.isL)
 have hpr := pre_any (s.extract (1 + n) s.size) ⟨#[125]⟩ (w.alloc room)
 rw [bts_extract s (1 + n), show bts ⟨#[125]⟩ = [125] from rfl, pre_one] at hpr
 have HU : Hid (propL ((bts s).drop 1) = if 1 ≤ n ∧ ((bts s).drop (1 + n)).head? = some 125 then some (⟨5, bts (s.extract 1 (1 + n)), 0⟩, n + 2) else none) := hide (by
   unfold propL
   rw [hn, List.drop_drop, ht])
 rw [hn] at hrun hle
 clear hn ht
 generalize propL ((bts s).drop 1) = o at *
 generalize ((bts s).drop (1 + n)).head? = hd at *
 have hnm := named_any 5 (s.extract 1 (1 + n)) (by rw [ext_size _ _ _ (by omega)]; omega) (w.alloc room)
 have hr0 := heap_alloc_new w room
 obtain ⟨d0, d1, d2, d3⟩ := cells_four hr0
 have f0 := frozen_row hr0 0
 have f1 := frozen_row hr0 1
 have f2 := frozen_row hr0 2
 have f3 := frozen_row hr0 3
 by_cases hz : n = 0
 · subst hz
   have HN : Hid (o = none) := hide (by rw [HU.out, if_neg (fun h => absurd h.1 (by omega))])
   clear HU hpr
   go_enter Tryz.func145, Tryz.ntmps145
   go_wp2_with fail
   refine hrun.mono ?_
   rintro e w1 ⟨rfl, rfl⟩
   go_wp2
   exact bodyPost_ret (v := .tuple #[tokV tz 0, .int .i64 0]) (by unfold tokV; simp [results, Tryz.results145, go_sem, d0, d1, d2, d3, tz]) rfl ⟨ansT_none HN.out, al1 w room⟩
 · have hz' : 0 < n := by omega
   clear hz
   have e0 : ((n : Int) == 0) = false := by rw [beq_eq_false_iff_ne]; omega
   by_cases hh : hd = some 125
   · rw [decide_eq_true hh] at hpr
     have HN : Hid (o = some (⟨5, bts (s.extract 1 (1 + n)), 0⟩, n + 2)) := hide (by rw [HU.out, if_pos ⟨hz', hh⟩])
     clear HU hh d0 d1 d2 d3 f0 f1 f2 f3 hr0
     go_enter Tryz.func145, Tryz.ntmps145
     go_wp2_with fail
     refine hrun.mono ?_
     rintro e w1 ⟨rfl, rfl⟩
     go_wp2_with fail
     refine hpr.mono ?_
     rintro e w1 ⟨rfl, rfl⟩
     go_wp2_with fail
     refine hnm.mono ?_
     rintro e w1 ⟨rfl, hb⟩
     obtain ⟨hr0, hbb⟩ := room_kept hb
     clear hb hnm hrun hpr
     obtain ⟨d0, d1, d2, d3⟩ := cells_four hr0
     have f0 := frozen_row hr0 0
     have f1 := frozen_row hr0 1
     have f2 := frozen_row hr0 2
     have f3 := frozen_row hr0 3
     go_wp2
     exact bodyPost_ret (v := .tuple #[.agg #[.int .i64 5, .int .i64 0, .string (s.extract 1 (1 + n)), .int .i32 0], .int .i64 ((n + 2 : Nat) : Int)]) (by simp [results, Tryz.results145, go_sem, d0, d1, d2, d3]) rfl ⟨ansT_some HN.out, four_set hbb _ _ _ _⟩
   · rw [decide_eq_false hh] at hpr
     have HN : Hid (o = none) := hide (by rw [HU.out, if_neg (fun h => hh h.2)])
     clear HU hh
     go_enter Tryz.func145, Tryz.ntmps145
     go_wp2_with fail
     refine hrun.mono ?_
     rintro e w1 ⟨rfl, rfl⟩
     go_wp2_with fail
     refine hpr.mono ?_
     rintro e w1 ⟨rfl, rfl⟩
     go_wp2
     exact bodyPost_ret (v := .tuple #[tokV tz 0, .int .i64 0]) (by unfold tokV; simp [results, Tryz.results145, go_sem, d0, d1, d2, d3, tz]) rfl ⟨ansT_none HN.out, al1 w room⟩
end Go.Proofs.YtgngaldoemopjaaGreatDoor
namespace Go.Proofs.YtgngaldoemopjaaGreatDoor
open Go.RowKit
def markL (c : UInt8) (u : List UInt8) : Option (X.Tk × Nat) :=
 if (c = 62 ∧ u.head? = some 60) ∨ (c = 60 ∧ u.head? = some 62) then some (⟨6, (c :: u).take 2, 0⟩, 2)
 else if c ∈ X.signs then some (⟨6, [c], 0⟩, 1) else none
theorem pre_two (c a b : UInt8) (u : List UInt8) : Lib.hasPrefix (c :: u) [a, b] = decide (c = a ∧ u.head? = some b) := by
 unfold Lib.hasPrefix
 cases u with
 | nil => simp [List.isPrefixOf]
 | cons x l =>
   rw [Bool.eq_iff_iff]
   simp [List.isPrefixOf]
   constructor
   · rintro ⟨h1, h2⟩; exact ⟨h1.symm, h2.symm⟩
   · rintro ⟨h1, h2⟩; exact ⟨h1.symm, h2.symm⟩
theorem idx_mem (c : UInt8) : ∀ (l : List UInt8), (c ∈ l ∧ 0 ≤ Lib.indexByte l c) ∨ (c ∉ l ∧ Lib.indexByte l c = -1)
 | [] => .inr ⟨by simp, rfl⟩
 | b :: l => by
   by_cases h : b = c
   · refine .inl ⟨by simp [h], ?_⟩
     simp [Lib.indexByte, h]
   · have hb : (b == c) = false := by simp [h]
     rcases idx_mem c l with ⟨h1, h2⟩ | ⟨h1, h2⟩
     · refine .inl ⟨by simp [h1], ?_⟩
       have hn : (Lib.indexByte l c == -1) = false := by rw [beq_eq_false_iff_ne]; omega
       simp only [Lib.indexByte, hb, hn, Bool.false_eq_true, if_false]
       omega
     · refine .inr ⟨?_, ?_⟩
       · simp [h1]
         exact fun e => h e.symm
       · simp [Lib.indexByte, hb, h2]
theorem sig_eq : bts ⟨#[91, 93, 40, 41, 124, 42, 43, 63, 46, 94, 45, 58, 61]⟩ = X.signs := rfl
theorem c_back (c : UInt8) : (c.toNat : Int).toNat.toUInt8 = c := by simp
set_option maxHeartbeats 2000000 in
theorem mark_lex (s : ByteArray) (hs : s.size ≤ 100000) (c : UInt8) (u : List UInt8) (hcu : bts s = c :: u) (w : World) : Calls Tryz.prog 146 #[.string s] w fun e w' => AnsT (markL c u) 0 e ∧ Below w.heap.size w w' := by
 have hl : 0 < (bts s).length := by rw [hcu]; simp
 have h0 : 0 < s.size := hl
 have hx2 : ∀ h, s[0]'h = c := fun h => (idx_at (s := s) hl ((0 : Nat) : Int) rfl h).trans (by simp [hcu])
 have hp1 := pre_any s ⟨#[62, 60]⟩ (w.alloc room)
 have hp2 := pre_any s ⟨#[60, 62]⟩ (w.alloc room)
 rw [show bts ⟨#[62, 60]⟩ = [62, 60] from rfl, hcu, pre_two] at hp1
 rw [show bts ⟨#[60, 62]⟩ = [60, 62] from rfl, hcu, pre_two] at hp2
 have hix := idxb_any ⟨#[91, 93, 40, 41, 124, 42, 43, 63, 46, 94, 45, 58, 61]⟩ (c.toNat : Int) (w.alloc room)
 rw [sig_eq, c_back] at hix
 have hmem := idx_mem c X.signs
 have ht1 : bts (s.extract 0 1) = [c] := by rw [bts_take, hcu]; rfl
 have ht2 : bts (s.extract 0 2) = (c :: u).take 2 := by rw [bts_take, hcu]
 have hlen2 : ((c = 62 ∧ u.head? = some 60) ∨ (c = 60 ∧ u.head? = some 62)) → 2 ≤ s.size := by
   intro h
   have : 2 ≤ (bts s).length := by
     rw [hcu]
     cases u with
     | nil => simp at h
     | cons _ _ => simp
   exact this
 have HU : Hid (markL c u = if (c = 62 ∧ u.head? = some 60) ∨ (c = 60 ∧ u.head? = some 62) then some (⟨6, bts (s.extract 0 2), 0⟩, 2) else if c ∈ X.signs then some (⟨6, bts (s.extract 0 1), 0⟩, 1) else none) := hide (by
   unfold markL
   rw [ht1, ht2])
 clear ht1 ht2 hcu hl
 generalize markL c u = o at *
 have hnm1 := named_any 6 (s.extract 0 1) (by rw [ext_size _ _ _ (by omega)]; omega) (w.alloc room)
 have hr0 := heap_alloc_new w room
 obtain ⟨d0, d1, d2, d3⟩ := cells_four hr0
 have f0 := frozen_row hr0 0
 have f1 := frozen_row hr0 1
 have f2 := frozen_row hr0 2
 have f3 := frozen_row hr0 3
 by_cases h1 : c = 62 ∧ u.head? = some 60
 · rw [decide_eq_true h1] at hp1
   have h2 := hlen2 (.inl h1)
   have hnm2 := named_any 6 (s.extract 0 2) (by rw [ext_size _ _ _ h2]; omega) (w.alloc room)
   have HN : Hid (o = some (⟨6, bts (s.extract 0 2), 0⟩, 2)) := hide (by rw [HU.out, if_pos (.inl h1)])
   clear HU h1 hlen2 hmem hix hp2 hnm1 d0 d1 d2 d3 f0 f1 f2 f3 hr0
   go_enter Tryz.func146, Tryz.ntmps146
   go_wp2_with fail
   refine hp1.mono ?_
   rintro e w1 ⟨rfl, rfl⟩
   go_wp2_with fail
   refine hnm2.mono ?_
   rintro e w1 ⟨rfl, hb⟩
   obtain ⟨hr0, hbb⟩ := room_kept hb
   clear hb hnm2 hp1
   obtain ⟨d0, d1, d2, d3⟩ := cells_four hr0
   have f0 := frozen_row hr0 0
   have f1 := frozen_row hr0 1
   have f2 := frozen_row hr0 2
   have f3 := frozen_row hr0 3
   go_wp2
   exact bodyPost_ret (v := .tuple #[.agg #[.int .i64 6, .int .i64 0, .string (s.extract 0 2), .int .i32 0], .int .i64 2]) (by simp [results, Tryz.results146, go_sem, d0, d1, d2, d3]) rfl ⟨ansT_some HN.out, four_set hbb _ _ _ _⟩
 · rw [decide_eq_false h1] at hp1
   by_cases h3 : c = 60 ∧ u.head? = some 62
   · rw [decide_eq_true h3] at hp2
     have h2 := hlen2 (.inr h3)
     have hnm2 := named_any 6 (s.extract 0 2) (by rw [ext_size _ _ _ h2]; omega) (w.alloc room)
     have HN : Hid (o = some (⟨6, bts (s.extract 0 2), 0⟩, 2)) := hide (by rw [HU.out, if_pos (.inr h3)])
     clear HU h1 h3 hlen2 hmem hix hnm1 d0 d1 d2 d3 f0 f1 f2 f3 hr0
     go_enter Tryz.func146, Tryz.ntmps146
     go_wp2_with fail
     refine hp1.mono ?_
     rintro e w1 ⟨rfl, rfl⟩
     go_wp2_with fail
     refine hp2.mono ?_
     rintro e w1 ⟨rfl, rfl⟩
     go_wp2_with fail
     refine hnm2.mono ?_
     rintro e w1 ⟨rfl, hb⟩
     obtain ⟨hr0, hbb⟩ := room_kept hb
     clear hb hnm2 hp1 hp2
     obtain ⟨d0, d1, d2, d3⟩ := cells_four hr0
     have f0 := frozen_row hr0 0
     have f1 := frozen_row hr0 1
     have f2 := frozen_row hr0 2
     have f3 := frozen_row hr0 3
     go_wp2
     exact bodyPost_ret (v := .tuple #[.agg #[.int .i64 6, .int .i64 0, .string (s.extract 0 2), .int .i32 0], .int .i64 2]) (by simp [results, Tryz.results146, go_sem, d0, d1, d2, d3]) rfl ⟨ansT_some HN.out, four_set hbb _ _ _ _⟩
   · rw [decide_eq_false h3] at hp2
     have hno : ¬ ((c = 62 ∧ u.head? = some 60) ∨ (c = 60 ∧ u.head? = some 62)) := fun h => h.elim h1 h3
     generalize Lib.indexByte X.signs c = ix at *
     rcases hmem with ⟨hm, hi⟩ | ⟨hm, hi⟩
     · have HN : Hid (o = some (⟨6, bts (s.extract 0 1), 0⟩, 1)) := hide (by rw [HU.out, if_neg hno, if_pos hm])
       clear HU h1 h3 hlen2 hno hm d0 d1 d2 d3 f0 f1 f2 f3 hr0
       have el : decide (ix < 0) = false := decide_eq_false (by omega)
       go_enter Tryz.func146, Tryz.ntmps146
       go_wp2_with fail
       refine hp1.mono ?_
       rintro e w1 ⟨rfl, rfl⟩
       go_wp2_with fail
       refine hp2.mono ?_
       rintro e w1 ⟨rfl, rfl⟩
       go_wp2_with fail
       refine hix.mono ?_
       rintro e w1 ⟨rfl, rfl⟩
       go_wp2_with fail
       refine hnm1.mono ?_
       rintro e w1 ⟨rfl, hb⟩
       obtain ⟨hr0, hbb⟩ := room_kept hb
       clear hb hnm1 hp1 hp2 hix
       obtain ⟨d0, d1, d2, d3⟩ := cells_four hr0
       have f0 := frozen_row hr0 0
       have f1 := frozen_row hr0 1
       have f2 := frozen_row hr0 2
       have f3 := frozen_row hr0 3
       go_wp2
       exact bodyPost_ret (v := .tuple #[.agg #[.int .i64 6, .int .i64 0, .string (s.extract 0 1), .int .i32 0], .int .i64 1]) (by simp [results, Tryz.results146, go_sem, d0, d1, d2, d3]) rfl ⟨ansT_some HN.out, four_set hbb _ _ _ _⟩
     · have HN : Hid (o = none) := hide (by rw [HU.out, if_neg hno, if_neg hm])
       subst hi
       clear HU h1 h3 hlen2 hno hm
       go_enter Tryz.func146, Tryz.ntmps146
       go_wp2_with fail
       refine hp1.mono ?_
       rintro e w1 ⟨rfl, rfl⟩
       go_wp2_with fail
       refine hp2.mono ?_
       rintro e w1 ⟨rfl, rfl⟩
       go_wp2_with fail
       refine hix.mono ?_
       rintro e w1 ⟨rfl, rfl⟩
       go_wp2
       exact bodyPost_ret (v := .tuple #[tokV tz 0, .int .i64 0]) (by unfold tokV; simp [results, Tryz.results146, go_sem, d0, d1, d2, d3, tz]) rfl ⟨ansT_none HN.out, al1 w room⟩
end Go.Proofs.YtgngaldoemopjaaGreatDoor
namespace Go.Proofs.YtgngaldoemopjaaGreatDoor
open Go.Shelf Go.RowKit
def Tabs (w : World) : Prop := Lib.Utf8Tabs 2 3 w
theorem Tabs.later {w wx : World} (h : Tabs w) (hb : Below w.heap.size w wx) : Tabs wx :=
 ⟨fun c hc => cell_later hb (h.1 c hc), fun i hi => ⟨cell_later hb (h.2 i hi).1, cell_later hb (h.2 i hi).2⟩⟩
theorem get_list (bs : List UInt8) (i : Nat) : (ByteArray.mk bs.toArray).get! i = bs.getD i 0 := by
 show (bs.toArray)[i]! = _
 rw [List.getElem!_toArray, List.getElem!_eq_getElem?_getD]
 rfl
theorem decodeGo_list {bs : List UInt8} (h : bs ≠ []) : Lib.decodeGo ⟨bs.toArray⟩ = M.dec bs := by
 have hs : (ByteArray.mk bs.toArray).size = bs.length := by show bs.toArray.size = _; simp
 unfold Lib.decodeGo
 rw [if_neg (by rw [hs]; cases bs with | nil => exact absurd rfl h | cons _ _ => simp), Lib.decode_at, hs, get_list, get_list, get_list, get_list]
 rfl
theorem decode_any (ao : Option Addr) (cap : Nat) (bs : List UInt8) (hb : bs ≠ []) (w : World) (ht : Tabs w) (hc : Rd w ao (cB bs)) :
   Calls Tryz.prog 209 #[.slice ao bs.length cap] w fun e w' => e = .returned (.tuple #[.int .i32 ((M.dec bs).1 : Nat), .int .i64 ((M.dec bs).2 : Nat)]) ∧ Below w.heap.size w w' := by
 have hp : 0 < bs.length := by cases bs with | nil => exact absurd rfl hb | cons _ _ => simp
 obtain ⟨b, off, rfl, _⟩ := hc.byte 0 hp
 have hs : (ByteArray.mk bs.toArray).size = bs.length := by show bs.toArray.size = _; simp
 have := Any7.utf8_DecodeRune lays32 ⟨bs.toArray⟩ b off cap w ht (fun j hj => by
   rw [hs] at hj
   obtain ⟨b', off', e, h⟩ := hc.byte j hj
   simp only [Option.some.injEq, Addr.mk.injEq] at e
   obtain ⟨rfl, rfl, _⟩ := e
   rw [h, get_list, List.getD_eq_getElem?_getD, List.getElem?_eq_getElem hj, Option.getD_some])
 rw [decodeGo_list hb, hs] at this
 exact this
end Go.Proofs.YtgngaldoemopjaaGreatDoor
namespace Go.Proofs.YtgngaldoemopjaaGreatDoor
open Go.RowKit Go.Shelf
attribute [local go_sem] Oper.semAt_some
def encS (x : M.Sq) : Array Value := #[.agg #[.int .i64 (x.1 : Int), .int .i32 (x.2.1 : Int), .bool x.2.2]]
structure St (Bn : Nat) (ao : Option Addr) (cap : Nat) (bs : List UInt8) (W : World) : Prop where
 box : W.cell? ⟨Bn, 0, none⟩ = some (.slice ao bs.length cap)
 rd : Rd W ao (cB bs)
 tabs : Tabs W
theorem St.kept {Bn : Nat} {ao : Option Addr} {cap : Nat} {bs : List UInt8} {W W' : World} {row : Option Nat} (h : St Bn ao cap bs W) (hg : W.grownBy W' row) (hr : ∀ r, row = some r → ∃ o : Obj, W.heap[r]? = some o ∧ o.isCells = false) : St Bn ao cap bs W' :=
 ⟨cell_kept h.box hg hr, fun i hi => let ⟨b, off, e, hc⟩ := h.rd i hi; ⟨b, off, e, cell_kept hc hg hr⟩,
   ⟨fun c hc => cell_kept (h.tabs.1 c hc) hg hr, fun i hi => ⟨cell_kept (h.tabs.2 i hi).1 hg hr, cell_kept (h.tabs.2 i hi).2 hg hr⟩⟩⟩
set_option maxRecDepth 100000 in
set_option maxHeartbeats 2000000 in
theorem seq1_in (n : Nat) (hn : 1 ≤ n) (l Bn : Nat) (ao : Option Addr) (cap : Nat) (bs : List UInt8) (hl : bs.length ≤ 1000000) (hcap : bs.length ≤ cap) (hnil : ao = none → cap = 0) (J Jx : List M.Sq → World → Prop)
   (W : World) (hJ : AbidesFrom W.heap.size J)
   (hY : ∀ pre x W1, J pre W1 → pre.length < (M.rs 0 bs).length → YieldAt Fence.wide (n - 1) Tryz.prog l (encS x) W1 fun e W' =>
     (e = .returned (.bool true) ∧ J (pre ++ [x]) W' ∧ (St Bn ao cap bs W1 → St Bn ao cap bs W')) ∨ (e = .returned (.bool false) ∧ Jx (pre ++ [x]) W'))
   (hS : St Bn ao cap bs W) (h0 : J [] W) :
   CallsIn Fence.wide n Tryz.prog 208 #[.func (.yield l) #[] #[], .pointer (some ⟨Bn, 0, none⟩)] W fun e W' => (∃ v, e = .returned v) ∧
     ((∃ ys, ys = M.rs 0 bs ∧ J ys W') ∨ (∃ pre, pre <+: M.rs 0 bs ∧ Jx pre W')) := by
 refine callsIn_of_wp Tryz.func208 rfl trivial ?_ rfl
 simp only [Tryz.ntmps208, List.size_toArray, List.length_cons, List.length_nil, Nat.reduceAdd, Nat.reduceSub, Array.replicate_succ, Array.replicate_zero, List.push_toArray, List.append_toArray, List.nil_append, List.cons_append]
 gi_wp2
 gi_loopw [3] (fun p wr => ∃ (pre : List M.Sq) (k : Nat), p = .int .i64 (k : Int) ∧ k ≤ bs.length ∧ Hid (M.rs 0 bs = pre ++ M.rs k (bs.drop k)) ∧ J pre wr ∧ St Bn ao cap bs wr)
   (fun p _ => bs.length - (intOf p).toNat)
 case atStart => exact ⟨[], 0, rfl, Nat.zero_le _, by rw [List.drop_zero]; exact rfl, h0, hS⟩
 case round =>
   obtain ⟨pre, k, rfl, hk, HP, hJs, hSs⟩ := hrel
   have hbox := hSs.box
   by_cases hlt : k < bs.length
   · obtain ⟨a1, c1, hr1, _, _, hcut⟩ := cut_from (T := 63) Tryz.underlying63 elemSize63 wr ao (cB bs) bs.length cap k (cB_length bs) hk hcap hnil hSs.rd
     obtain ⟨ds, hds⟩ : ∃ ds, ds = bs.drop k := ⟨_, rfl⟩
     have hdl : ds.length = bs.length - k := by rw [hds, List.length_drop]
     rw [show (cB bs).drop k = cB ds by rw [hds]; simp [cB]] at hr1
     rw [← hdl] at hcut
     have hne : ds ≠ [] := by intro e; rw [e] at hdl; simp at hdl; omega
     have hsz := M.dec_size hne
     have HQ : Hid (M.rs 0 bs = pre ++ ((k, (M.dec ds).1, M.ok (M.dec ds)) :: M.rs (k + (M.dec ds).2) (bs.drop (k + (M.dec ds).2)))) := by
       show _ = _
       rw [HP.out, ← hds, M.rs_step k hne, hds, List.drop_drop]
     clear HP
     have hD := decode_any a1 c1 ds hne wr hSs.tabs hr1
     have hd1 : k + ds.length ≤ bs.length := by omega
     have hpl : pre.length < (M.rs 0 bs).length := by rw [HQ.out, List.length_append, List.length_cons]; omega
     clear hds hne hdl
     generalize M.dec ds = d at *
     obtain ⟨p, m⟩ := d
     simp only at hsz hD HQ
     obtain ⟨hm1, hm2, hm4⟩ := hsz
     obtain ⟨g, hg⟩ : ∃ g, M.ok (p, m) = g := ⟨_, rfl⟩
     rw [hg] at HQ
     have HG : Hid (M.ok (p, m) = g) := hg
     clear hg
     have hnext : ∀ w2 : World, Below wr.heap.size wr w2 → ∃ fn tmps assign body, (Instr.yield l #[.agg #[.int .i64 (k : Int), .int .i32 (p : Int), .bool g]]).run Tryz.prog w2 = .ok (.round l fn tmps assign body) w2 ∧
         RoundIn Fence.wide (n - 1) Tryz.prog l fn tmps assign body w2 (fun e W' => (e = .returned (.bool true) ∧ J (pre ++ [(k, p, g)]) W' ∧ St Bn ao cap bs W') ∨ (e = .returned (.bool false) ∧ Jx (pre ++ [(k, p, g)]) W')) := by
       intro w2 hb2
       have hg2 := grown_below hb2 none
       have hJ2 : J pre w2 := hJ pre wr w2 none hJs hg2 (fun r e => by cases e)
       have hS2 : St Bn ao cap bs w2 := hSs.kept hg2 (fun r e => by cases e)
       obtain ⟨fn, tmps, assign, body, hy, hR⟩ := hY pre (k, p, g) w2 hJ2 hpl
       refine ⟨fn, tmps, assign, body, hy, hR.mono ?_⟩
       rintro e W' (⟨h1, h2, h3⟩ | h)
       · exact .inl ⟨h1, h2, h3 hS2⟩
       · exact .inr h
     clear hY hJs hSs hS h0 hJ hr1
     have hcase : (((p : Int) != 65533) = true ∧ g = true) ∨ (((p : Int) != 65533) = false ∧ decide ((1 : Int) < (m : Int)) = true ∧ g = true) ∨ (((p : Int) != 65533) = false ∧ decide ((1 : Int) < (m : Int)) = false ∧ g = false) := by
       rw [← HG.out]
       unfold M.ok
       by_cases h1 : p = 65533
       · by_cases h2 : 1 < m
         · exact .inr (.inl ⟨by simp; omega, by simp; omega, by simp [h2]⟩)
         · exact .inr (.inr ⟨by simp; omega, by simp; omega, by simp [h1, h2]⟩)
       · exact .inl ⟨by simp; omega, by simp [h1]⟩
     rcases hcase with ⟨hp, rfl⟩ | ⟨hp, hm, rfl⟩ | ⟨hp, hm, rfl⟩
     all_goals
       gi_wp2_with (refine ⟨trivial, ?_⟩; gi_at_call 209; refine (callsIn_wide.2 hD).mono ?_; rintro e w2 ⟨rfl, hb2⟩; obtain ⟨fn, tmps, assign, body, hy, hR⟩ := hnext w2 hb2)
       refine hR.mono ?_
       rintro e W3 (⟨rfl, hJ3, hS3⟩ | ⟨rfl, hJx3⟩)
       · gi_wp2
         go_roundw
         case rel => exact ⟨_, k + m, by go_num, by omega, by rw [List.append_assoc]; exact HQ, hJ3, hS3⟩
         case measure => simp [intOf]; omega
       · gi_wp2
         refine bodyPost_ret (results_none rfl _ _ _) rfl ?_
         exact ⟨⟨_, rfl⟩, .inr ⟨_, ⟨_, by rw [List.append_assoc]; exact HQ.out.symm⟩, hJx3⟩⟩
   · obtain rfl : k = bs.length := by omega
     have HE : Hid (M.rs 0 bs = pre) := by show _ = _; rw [HP.out, List.drop_length, M.rs_nil, List.append_nil]
     clear HP
     gi_wp2
     go_end0
     exact ⟨⟨_, rfl⟩, .inl ⟨_, HE.out.symm, hJs⟩⟩
set_option maxHeartbeats 1000000 in
theorem seq_in (n : Nat) (ao : Option Addr) (len cap : Nat) (w : World) :
   CallsIn Fence.wide n Tryz.prog 184 #[.slice ao len cap] w fun e w' => e = .returned (.func (.func 208) #[] #[.pointer (some ⟨w.heap.size, 0, none⟩)]) ∧ w' = w.alloc (.cells #[.slice ao len cap] 63) := by
 refine callsIn_of_wp Tryz.func184 rfl trivial ?_ rfl
 simp only [Tryz.ntmps184, List.size_toArray, List.length_cons, List.length_nil, Nat.reduceAdd, Nat.reduceSub, Array.replicate_succ, Array.replicate_zero, List.push_toArray, List.append_toArray, List.nil_append, List.cons_append]
 gi_wp2
 go_ret
 exact ⟨rfl, rfl⟩
theorem seq_stops (n : Nat) (hn : 1 ≤ n) (Bn : Nat) (ao : Option Addr) (cap : Nat) (bs : List UInt8) (hl : bs.length ≤ 1000000) (hcap : bs.length ≤ cap) (hnil : ao = none → cap = 0) (w : World) (hS : St Bn ao cap bs w) :
   SeqStopsK Fence.wide n Tryz.prog 208 #[.pointer (some ⟨Bn, 0, none⟩)] encS (fun A B => St Bn ao cap bs A → St Bn ao cap bs B) (fun ys => ys = M.rs 0 bs) (fun pre => pre <+: M.rs 0 bs) (M.rs 0 bs).length w := fun l J Jx W hW hJ _ hY h0 =>
 seq1_in n hn l Bn ao cap bs hl hcap hnil J Jx W hJ hY (hS.kept (grown_below hW none) (fun r e => by cases e)) h0
end Go.Proofs.YtgngaldoemopjaaGreatDoor
namespace Go.Proofs.YtgngaldoemopjaaGreatDoor
open Go.RowKit Go.Shelf
attribute [local go_sem] Oper.semAt_some
theorem blk_kept {W w1 : World} {n₀ B' B : Nat} {cs : Array Value} {t e : TypeId} {fz : Nat × Nat} {v : Value} {k : Nat} {xs : List Value} {tmp : Obj} (h : W.heap[B']? = some (.cells cs t fz)) (hte : t ≠ e) (hrow : W.ownsRow n₀ e 1 v k xs)
   (hgrow : (W.alloc tmp).grownBy w1 v.ownBlock) (hne : B' ≠ B) (v' : Value) : w1.heap[B']? = some (.cells cs t fz) ∧ (w1.setCell ⟨B, 0, none⟩ v').heap[B']? = some (.cells cs t fz) := by
 have hlt : B' < W.heap.size := (Array.getElem?_eq_some_iff.1 h).1
 have h1 : w1.heap[B']? = some (.cells cs t fz) := by
   rw [hgrow.block B' (by simp; omega) (not_row h hte hrow), Below.heap_alloc W tmp B' hlt]
   exact h
 refine ⟨h1, ?_⟩
 rw [(grownBy_setCell' w1 B v').block B' (Array.getElem?_eq_some_iff.1 h1).1 (by simpa using hne)]
 exact h1
theorem row_kept {W w1 : World} {n₀ B : Nat} {t e e' : TypeId} {v u : Value} {k k' : Nat} {xs ys : List Value} {tmp : Obj} (hu : W.ownsRow n₀ e' 1 u k' ys) (hee : e' ≠ e) (hrow : W.ownsRow n₀ e 1 v k xs)
   (hgrow : (W.alloc tmp).grownBy w1 v.ownBlock) (hv : Boxed W B t v) (ht : t ≠ e') (ht2 : t ≠ e) (v' : Value) : (w1.setCell ⟨B, 0, none⟩ v').ownsRow n₀ e' 1 u k' ys := by
 have h1 : w1.ownsRow n₀ e' 1 u k' ys := by
   refine (hu.alloc tmp).kept hgrow ?_
   rcases hu.2 with ⟨rfl, _⟩ | ⟨g, cap, cur, rfl, _, hgb, _⟩
   · exact .inl rfl
   · exact .inr (not_row hgb hee hrow)
 have hv1 := (blk_kept (B := B + 1) hv ht2 hrow hgrow (by omega) v').1
 exact h1.kept (grownBy_setCell' w1 B v') (.inr (fun e2 => not_row hv1 ht h1 e2.symm))
theorem st_of {w W : World} {Bn : Nat} {ao : Option Addr} {cap : Nat} {bs : List UInt8} (hc : Rd w ao (cB bs)) (ht : Tabs w) (hB : Below w.heap.size w W) (hbox : Boxed W Bn 63 (.slice ao bs.length cap)) : St Bn ao cap bs W :=
 ⟨hbox.cell, hc.later hB, ht.later hB⟩
theorem stK_b {w : World} {Bn : Nat} {ao : Option Addr} {cap : Nat} {bs : List UInt8} (W : World) (l : Nat) (o o' : Obj) (_ : w.heap.size ≤ l) (hl : W.heap[l]? = some o) (ho : o.isCells = false) (_ : o.isWalk = false) : St Bn ao cap bs W → St Bn ao cap bs (W.putObj l o') :=
 fun h => h.kept (grownBy_putObj' W l o') (fun r e => by cases e; exact ⟨o, hl, ho⟩)
theorem after_points {W w1 : World} {n₀ Bx k : Nat} {v u : Value} {g cap' : Nat} {xs ys : List Value} {x : Int} {s p : Int} {b : Bool} {tmp : Obj} {sv : Value}
   (bP : Boxed W n₀ 39 v) (rP : W.ownsRow n₀ 21 1 v k xs) (bS : Boxed W (n₀ + 1) 45 u) (rS : W.ownsRow n₀ 3 1 u k ys) (bB : Boxed W (n₀ + 1 + 1) 63 sv) (hBx : n₀ + 1 + 1 < Bx) (bX : W.heap[Bx]? = some (.cells #[.int .i64 s, .int .i32 p, .bool b] 259 (0, 0)))
   (hn : n₀ ≤ W.heap.size) (ho : w1.ownsRow n₀ 21 1 (.slice (some ⟨g, 0, none⟩) (k + 1) cap') (k + 1) (xs ++ [.int .i32 x])) (hg : (W.alloc tmp).grownBy w1 v.ownBlock) :
   w1.cell? ⟨n₀, 0, none⟩ = some v ∧ w1.frozen? ⟨n₀, 0, none⟩ = false ∧ ∃ W2, w1.setCell ⟨n₀, 0, none⟩ (.slice (some ⟨g, 0, none⟩) (k + 1) cap') = W2 ∧ Boxed W2 n₀ 39 (.slice (some ⟨g, 0, none⟩) (k + 1) cap') ∧ W2.ownsRow n₀ 21 1 (.slice (some ⟨g, 0, none⟩) (k + 1) cap') (k + 1) (xs ++ [.int .i32 x]) ∧
     Boxed W2 (n₀ + 1) 45 u ∧ W2.ownsRow n₀ 3 1 u k ys ∧ Boxed W2 (n₀ + 1 + 1) 63 sv ∧ W2.cell? ⟨n₀ + 1, 0, none⟩ = some u ∧ W2.cell? ⟨Bx, 0, none⟩ = some (.int .i64 s) ∧ KeepsOthers W W2 ∧ Below n₀ W W2 ∧ w1.heap.size = W2.heap.size := by
 obtain ⟨hv1, hv2, hr2, hk2, hb2⟩ := bP.appended (by decide) rP hn (Nat.le_refl _) ho hg
 obtain ⟨_, kS2⟩ := blk_kept (B := n₀) bS (by decide) rP hg (by omega) (.slice (some ⟨g, 0, none⟩) (k + 1) cap')
 obtain ⟨_, kX2⟩ := blk_kept (B := n₀) bX (by decide) rP hg (by omega) (.slice (some ⟨g, 0, none⟩) (k + 1) cap')
 obtain ⟨_, kB2⟩ := blk_kept (B := n₀) bB (by decide) rP hg (by omega) (.slice (some ⟨g, 0, none⟩) (k + 1) cap')
 refine ⟨hv1.cell, hv1.frozen, _, rfl, hv2, hr2, kS2, row_kept rS (by decide) rP hg bP (by decide) (by decide) _, kB2, Boxed.cell kS2, ?_, hk2, hb2, ?_⟩
 · simp only [World.cell?, kX2]; rfl
 · simp
theorem after_places {W w1 : World} {n₀ k k' : Nat} {v u : Value} {g cap' : Nat} {xs ys : List Value} {x : Int} {tmp : Obj} {sv : Value}
   (bP : Boxed W n₀ 39 v) (rP : W.ownsRow n₀ 21 1 v k' xs) (bS : Boxed W (n₀ + 1) 45 u) (rS : W.ownsRow n₀ 3 1 u k ys) (bB : Boxed W (n₀ + 1 + 1) 63 sv)
   (hn : n₀ ≤ W.heap.size) (ho : w1.ownsRow n₀ 3 1 (.slice (some ⟨g, 0, none⟩) (k + 1) cap') (k + 1) (ys ++ [.int .i64 x])) (hg : (W.alloc tmp).grownBy w1 u.ownBlock) :
   w1.cell? ⟨n₀ + 1, 0, none⟩ = some u ∧ w1.frozen? ⟨n₀ + 1, 0, none⟩ = false ∧ ∃ W2, w1.setCell ⟨n₀ + 1, 0, none⟩ (.slice (some ⟨g, 0, none⟩) (k + 1) cap') = W2 ∧ Boxed W2 (n₀ + 1) 45 (.slice (some ⟨g, 0, none⟩) (k + 1) cap') ∧ W2.ownsRow n₀ 3 1 (.slice (some ⟨g, 0, none⟩) (k + 1) cap') (k + 1) (ys ++ [.int .i64 x]) ∧
     Boxed W2 n₀ 39 v ∧ W2.ownsRow n₀ 21 1 v k' xs ∧ Boxed W2 (n₀ + 1 + 1) 63 sv ∧ KeepsOthers W W2 ∧ Below n₀ W W2 := by
 obtain ⟨hv1, hv2, hr2, hk2, hb2⟩ := bS.appended (by decide) rS hn (by omega) ho hg
 obtain ⟨_, kP2⟩ := blk_kept (B := n₀ + 1) bP (by decide) rS hg (by omega) (.slice (some ⟨g, 0, none⟩) (k + 1) cap')
 obtain ⟨_, kB2⟩ := blk_kept (B := n₀ + 1) bB (by decide) rS hg (by omega) (.slice (some ⟨g, 0, none⟩) (k + 1) cap')
 exact ⟨hv1.cell, hv1.frozen, _, rfl, hv2, hr2, kP2, row_kept rP (by decide) rS hg bS (by decide) (by decide) _, kB2, hk2, hb2⟩
set_option maxRecDepth 100000 in
set_option maxHeartbeats 4000000 in
theorem runes_any (ao : Option Addr) (cap : Nat) (bs : List UInt8) (hl : bs.length ≤ 100000) (hcap : bs.length ≤ cap) (hnil : ao = none → cap = 0) (w : World) (ht : Tabs w) (hc : Rd w ao (cB bs)) :
   Calls Tryz.prog 173 #[.slice ao bs.length cap] w fun e W' => ∃ v u, e = .returned (.tuple #[v, u]) ∧ Own W' w.heap.size 21 v (cI (M.pts bs)) ∧ Own W' w.heap.size 3 u (cN (M.sts bs)) ∧ Below w.heap.size w W' := by
 obtain ⟨i0, hi, hz0, hz1, hz2⟩ := info_parts info21
 obtain ⟨j0, hj, hy0, hy1, hy2⟩ := info_parts info3
 refine (callsIn_wide (n := 5)).1 ?_
 refine callsIn_of_wp_marks Tryz.func173 rfl trivial ?_ rfl
 simp only [Tryz.ntmps173, List.size_toArray, List.length_cons, List.length_nil, Nat.reduceAdd, Nat.reduceSub, Array.replicate_succ, Array.replicate_zero, List.push_toArray, List.append_toArray, List.nil_append, List.cons_append]
 gi_wp2_with (refine ⟨trivial, ?_⟩; gi_at_call 184; refine (seq_in _ _ _ _ _).mono ?_; rintro e w' ⟨rfl, rfl⟩)
 have bP := ((Boxed.new w 39 (.slice none 0 0)).alloc (.cells #[.slice none 0 0] 45)).alloc (.cells #[.slice ao bs.length cap] 63)
 have bS := (Boxed.new (w.alloc (.cells #[.slice none 0 0] 39)) 45 (.slice none 0 0)).alloc (.cells #[.slice ao bs.length cap] 63)
 have bB := Boxed.new ((w.alloc (.cells #[.slice none 0 0] 39)).alloc (.cells #[.slice none 0 0] 45)) 63 (.slice ao bs.length cap)
 simp only [World.size_alloc] at bS bB
 have hB0 : Below w.heap.size w (((w.alloc (.cells #[.slice none 0 0] 39)).alloc (.cells #[.slice none 0 0] 45)).alloc (.cells #[.slice ao bs.length cap] 63)) := (((Below.refl _ w).alloc (Nat.le_refl _) _).alloc (by simp) _).alloc (by simp; omega) _
 have hsz : (((w.alloc (.cells #[.slice none 0 0] 39)).alloc (.cells #[.slice none 0 0] 45)).alloc (.cells #[.slice ao bs.length cap] 63)).heap.size = w.heap.size + 3 := by simp
 obtain ⟨W0, hW0⟩ : ∃ W0, ((w.alloc (.cells #[.slice none 0 0] 39)).alloc (.cells #[.slice none 0 0] 45)).alloc (.cells #[.slice ao bs.length cap] 63) = W0 := ⟨_, rfl⟩
 rw [hW0] at bP bS bB hB0 hsz ⊢
 clear hW0
 have hrl := M.rs_length bs 0
 refine wpIn_rangeFunc_ownH rfl (by omega) (gf := 208) (lb := #[.pointer (some ⟨w.heap.size + 1 + 1, 0, none⟩)]) rfl trivial (enters_of Tryz.func208 (by kernel_rfl) rfl)
   (seq_stops 4 (by omega) (w.heap.size + 1 + 1) ao cap bs (by omega) hcap hnil W0 (st_of hc ht hB0 bB)) (fun h1 h2 s => h2 (h1 s)) (stK_b (w := W0)) (Below.refl _ _) (fun _ => rfl)
   (fun pre W => (((∃ v, Boxed W w.heap.size 39 v ∧ W.ownsRow w.heap.size 21 1 v pre.length (cI (ptsOf pre)) ∧ True) ∧ (∃ u, Boxed W (w.heap.size + 1) 45 u ∧ W.ownsRow w.heap.size 3 1 u pre.length (cN (stsOf pre)) ∧ True)) ∧ Boxed W (w.heap.size + 1 + 1) 63 (.slice ao bs.length cap)) ∧ Below w.heap.size w W)
   (fun _ _ _ => False)
   (OwnFrom.and (OwnFrom.and (OwnFrom.and (Own.from (holdsRow_own w.heap.size w.heap.size 39 21 1 (fun pre => pre.length) (fun pre => cI (ptsOf pre)) (fun _ _ => True)) _) (Own.from (holdsRow_own w.heap.size (w.heap.size + 1) 45 3 1 (fun pre => pre.length) (fun pre => cN (stsOf pre)) (fun _ _ => True)) _)) (Own.from (boxed_own _ _ _) _)) (ownFrom_below (Nat.le_refl _) (by omega)))
   (fun _ _ _ _ _ hs _ _ => hs)
   ⟨⟨⟨⟨_, bP, World.ownsRow_nil _ _ _ _, trivial⟩, ⟨_, bS, World.ownsRow_nil _ _ _ _, trivial⟩⟩, bB⟩, hB0⟩
   (fun x a' W => ∃ Bx, w.heap.size + 1 + 1 < Bx ∧ W.heap[Bx]? = some (.cells #[.int .i64 (x.1 : Int), .int .i32 (x.2.1 : Int), .bool x.2.2] 259 (0, 0)) ∧ a' = { tmps := #[.slice ao bs.length cap, undef, .slice none 0 0, .slice none 0 0, .pointer (some ⟨w.heap.size, 0, none⟩), .pointer (some ⟨w.heap.size + 1, 0, none⟩), .pointer (some ⟨Bx, 0, none⟩), .slice ao bs.length cap, .func (.func 208) #[] #[.pointer (some ⟨w.heap.size + 1 + 1, 0, none⟩)], .agg #[.int .i64 (x.1 : Int), .int .i32 (x.2.1 : Int), .bool x.2.2], undef, undef, undef, undef, undef, undef, undef, undef, undef, undef, undef, undef], defers := [] })
   (fun x a' _ X Y row hs hg hr => by
     obtain ⟨Bx, h1, h2, h3⟩ := hs
     exact ⟨Bx, h1, (grownBy_keeps_cells hg (fun r e => (hr r e).2) h2 rfl).trans h2, h3⟩)
   ?assign ?body ?done ?stop
 case assign =>
   rintro l pre x W K ⟨⟨⟨⟨v, bP1, rP1, _⟩, ⟨u, bS1, rS1, _⟩⟩, bB1⟩, hB1⟩ hK
   obtain ⟨xs, xp, xg⟩ := x
   simp only [encS]
   gi_wp2
   refine hK _ _ ((KeepsOthers.alloc _ _).from _) (fun s => s.kept (World.grownBy_alloc W _ none) (fun r e => by cases e)) ⟨⟨⟨⟨v, bP1.alloc _, rP1.alloc _, trivial⟩, ⟨u, bS1.alloc _, rS1.alloc _, trivial⟩⟩, bB1.alloc _⟩, hB1.alloc hB1.size _⟩ ⟨W.heap.size, bB1.lt, World.alloc_heap_new W _, rfl⟩
 case body =>
   rintro l pre x a' W hl ⟨r, hr⟩ ⟨⟨⟨⟨v, bP1, rP1, _⟩, ⟨u, bS1, rS1, _⟩⟩, bB1⟩, hB1⟩ ⟨Bx, hBx, bX, rfl⟩ hlt
   obtain ⟨xs, xp, xg⟩ := x
   simp only at bX
   have cP := bP1.cell
   have cX1 : W.cell? ⟨Bx, 1, none⟩ = some (.int .i32 (xp : Int)) := by simp [World.cell?, bX]
   gi_wp2_with (first
     | (gi_at_builtin; refine wpListIn_append_own _ rfl _ _ 39 rfl w.heap.size 21 i0 (.int .i32 0) 1 4 Tryz.underlying39 hi hz0 hz1 hz2 rfl (by decide) _ _ _ rfl (rP1.alloc _) ⟨W.heap.size, 0, none⟩ 1 1 [.int .i32 (xp : Int)] rfl rfl (cell_one_new _ _ _) (by simp [Value.oneCell']) (by unfold maxLen; omega) (by omega) (by have := hB1.size; simp; omega) ?_; intro v' w1 hown' hgrow _; obtain ⟨g', cap', rfl⟩ := ownsRow_succ hown'; obtain ⟨hc1, hf1, W2, hW2, bP2, rP2, bS2, rS2, bB2, cS2, cX2, hk2, hb2, hs2⟩ := after_points bP1 rP1 bS1 rS1 bB1 hBx bX hB1.size hown' hgrow; clear cP cX1)
     | (gi_at_builtin; refine wpListIn_append_own _ rfl _ _ 45 rfl w.heap.size 3 j0 (.int .i64 0) 1 8 Tryz.underlying45 hj hy0 hy1 hy2 rfl (by decide) _ _ _ rfl (rS2.alloc _) ⟨W2.heap.size, 0, none⟩ 1 1 [.int .i64 (xs : Int)] rfl rfl (cell_one_new _ _ _) (by simp [Value.oneCell']) (by unfold maxLen; omega) (by omega) (by have := hB1.size; have := hb2.size; simp; omega) ?_; intro v' w3 hown3 hgrow3 _; obtain ⟨g3, cap3, rfl⟩ := ownsRow_succ hown3; obtain ⟨hc3, hf3, W4, hW4, bS4, rS4, bP4, rP4, bB4, hk4, hb4⟩ := after_places bP2 rP2 bS2 rS2 bB2 (by have := hB1.size; have := hb2.size; omega) hown3 hgrow3; clear cS2 cX2))
   have hB4 := hB1.trans (hb2.trans hb4)
   refine ⟨(hk2.trans hk4).from _, fun _ => st_of hc ht hB4 bB4, ⟨⟨⟨_, bP4, ?_⟩, ⟨_, bS4, ?_⟩⟩, bB4⟩, hB4⟩
   · rw [ptsOf_snoc, cI_append, List.length_append]; exact rP4
   · rw [stsOf_snoc, cN_append, List.length_append]; exact rS4
 case done =>
   rintro D ys W hD rfl ⟨⟨⟨⟨v, bP1, rP1, _⟩, ⟨u, bS1, rS1, _⟩⟩, bB1⟩, hB1⟩ hK
   have c1 := bP1.cell
   have c2 := bS1.cell
   gi_wp2
   gi_region
   all_goals gi_wp2
   have hK' : W.drew.heap[D]? = some (.deferred (some [])) := hK
   have hbd : Below w.heap.size w W.drew := hB1.drew
   refine ⟨by simp, .inl ⟨_, _, rfl, run_takeDeferred hK', ?_⟩⟩
   refine ⟨_, results_tmp2 rfl _ _ _, v, u, rfl, ?_, ?_, hbd.trans (belowK_b (w := w) (Nat.le_refl _) _ D _ _ (by omega) hK' rfl rfl)⟩
   · unfold Own
     rw [cI_length, show (M.pts bs).length = (M.rs 0 bs).length from ptsOf_length _]
     exact ownsRow_putObj (W := W.drew) rP1 _ hK' rfl
   · unfold Own
     rw [cN_length, show (M.sts bs).length = (M.rs 0 bs).length from stsOf_length _]
     exact ownsRow_putObj (W := W.drew) rS1 _ hK' rfl
 case stop =>
   rintro D c pre W _ _ h _
   exact h.elim
end Go.Proofs.YtgngaldoemopjaaGreatDoor
namespace Go.Proofs.YtgngaldoemopjaaGreatDoor
open Go.RowKit Go.Shelf
attribute [local go_sem] Oper.semAt_some
set_option maxRecDepth 100000 in
set_option maxHeartbeats 4000000 in
theorem good_any (ao : Option Addr) (cap : Nat) (bs : List UInt8) (hl : bs.length ≤ 100000) (hcap : bs.length ≤ cap) (hnil : ao = none → cap = 0) (w : World) (ht : Tabs w) (hc : Rd w ao (cB bs)) :
   Calls Tryz.prog 170 #[.slice ao bs.length cap] w fun e W' => e = .returned (.bool (M.good bs)) ∧ Below w.heap.size w W' := by
 refine (callsIn_wide (n := 5)).1 ?_
 refine callsIn_of_wp_marks Tryz.func170 rfl trivial ?_ rfl
 simp only [Tryz.ntmps170, List.size_toArray, List.length_cons, List.length_nil, Nat.reduceAdd, Nat.reduceSub, Array.replicate_succ, Array.replicate_zero, List.push_toArray, List.append_toArray, List.nil_append, List.cons_append]
 gi_wp2_with (refine ⟨trivial, ?_⟩; gi_at_call 184; refine (seq_in _ _ _ _ _).mono ?_; rintro e w' ⟨rfl, rfl⟩)
 have bR := (Boxed.new w 4 (.bool false)).alloc (.cells #[.slice ao bs.length cap] 63)
 have bB := Boxed.new (w.alloc (.cells #[.bool false] 4)) 63 (.slice ao bs.length cap)
 simp only [World.size_alloc] at bB
 have hB0 : Below w.heap.size w ((w.alloc (.cells #[.bool false] 4)).alloc (.cells #[.slice ao bs.length cap] 63)) := ((Below.refl _ w).alloc (Nat.le_refl _) _).alloc (by simp) _
 have hsz : ((w.alloc (.cells #[.bool false] 4)).alloc (.cells #[.slice ao bs.length cap] 63)).heap.size = w.heap.size + 2 := by simp
 obtain ⟨W0, hW0⟩ : ∃ W0, (w.alloc (.cells #[.bool false] 4)).alloc (.cells #[.slice ao bs.length cap] 63) = W0 := ⟨_, rfl⟩
 rw [hW0] at bR bB hB0 hsz ⊢
 clear hW0
 have hrl := M.rs_length bs 0
 refine wpIn_rangeFunc_ownH rfl (by omega) (gf := 208) (lb := #[.pointer (some ⟨w.heap.size + 1, 0, none⟩)]) rfl trivial (enters_of Tryz.func208 (by kernel_rfl) rfl)
   (seq_stops 4 (by omega) (w.heap.size + 1) ao cap bs (by omega) hcap hnil W0 (st_of hc ht hB0 bB)) (fun h1 h2 s => h2 (h1 s)) (stK_b (w := W0)) (Below.refl _ _) (fun _ => rfl)
   (fun pre W => (((∀ s ∈ pre, s.2.2 = true) ∧ Boxed W w.heap.size 4 (.bool false)) ∧ Boxed W (w.heap.size + 1) 63 (.slice ao bs.length cap)) ∧ Below w.heap.size w W)
   (fun c pre W => ((c = .ret ∧ (∃ s ∈ pre, s.2.2 = false)) ∧ Boxed W w.heap.size 4 (.bool false)) ∧ Below w.heap.size w W)
   (OwnFrom.and (OwnFrom.and (OwnFrom.and (ownFrom_pure _ _) (Own.from (boxed_own _ _ _) _)) (Own.from (boxed_own _ _ _) _)) (ownFrom_below (Nat.le_refl _) (by omega)))
   (fun c => OwnFrom.and (OwnFrom.and (ownFrom_pure _ _) (Own.from (boxed_own _ _ _) _)) (ownFrom_below (Nat.le_refl _) (by omega)))
   ⟨⟨⟨fun s h => (by cases h), bR⟩, bB⟩, hB0⟩
   (fun x a' W => ∃ Bx, w.heap.size + 1 < Bx ∧ W.heap[Bx]? = some (.cells #[.int .i64 (x.1 : Int), .int .i32 (x.2.1 : Int), .bool x.2.2] 259 (0, 0)) ∧ a' = { tmps := #[.slice ao bs.length cap, undef, .pointer (some ⟨w.heap.size, 0, none⟩), .pointer (some ⟨Bx, 0, none⟩), .slice ao bs.length cap, .func (.func 208) #[] #[.pointer (some ⟨w.heap.size + 1, 0, none⟩)], .agg #[.int .i64 (x.1 : Int), .int .i32 (x.2.1 : Int), .bool x.2.2], undef, undef, undef], defers := [] })
   (fun x a' _ X Y row hs hg hr => by
     obtain ⟨Bx, h1, h2, h3⟩ := hs
     exact ⟨Bx, h1, (grownBy_keeps_cells hg (fun r e => (hr r e).2) h2 rfl).trans h2, h3⟩)
   ?assign ?body ?done ?stop
 case assign =>
   rintro l pre x W K ⟨⟨⟨hp, bR1⟩, bB1⟩, hB1⟩ hK
   obtain ⟨xs, xp, xg⟩ := x
   simp only [encS]
   gi_wp2
   refine hK _ _ ((KeepsOthers.alloc _ _).from _) (fun s => s.kept (World.grownBy_alloc W _ none) (fun r e => by cases e)) ⟨⟨⟨hp, bR1.alloc _⟩, bB1.alloc _⟩, hB1.alloc hB1.size _⟩ ⟨W.heap.size, bB1.lt, World.alloc_heap_new W _, rfl⟩
 case body =>
   rintro l pre x a' W hl ⟨r, hr⟩ ⟨⟨⟨hp, bR1⟩, bB1⟩, hB1⟩ ⟨Bx, hBx, bX, rfl⟩ hlt
   obtain ⟨xs, xp, xg⟩ := x
   simp only at bX
   have cR := bR1.cell
   have fR := bR1.frozen
   have cX : W.cell? ⟨Bx, 2, none⟩ = some (.bool xg) := by simp [World.cell?, bX]
   cases xg with
   | true =>
     gi_wp2
     refine ⟨KeepsFrom.refl _ _, id, ⟨⟨fun s hs => ?_, bR1⟩, bB1⟩, hB1⟩
     rcases List.mem_append.1 hs with h | h
     · exact hp s h
     · obtain rfl : s = (xs, xp, true) := by simpa using h
       rfl
   | false =>
     gi_wp2
     exact ⟨(KeepsOthers.setCell _ _ _).from _, ⟨⟨rfl, (xs, xp, false), by simp, rfl⟩, bR1.set _⟩, hB1.setCell (p := ⟨w.heap.size, 0, none⟩) (Nat.le_refl _) _⟩
 case done =>
   rintro D ys W hD rfl ⟨⟨⟨hp, bR1⟩, bB1⟩, hB1⟩ hK
   have cR := bR1.cell
   have fR := bR1.frozen
   gi_wp2
   have hK' := (KeepsOthers.setCell W ⟨w.heap.size, 0, none⟩ (.bool true)).same D _ hK rfl
   refine ⟨by simp, .inl ⟨_, _, rfl, run_takeDeferred hK', ?_⟩⟩
   have hc5 := cell_kept (bR1.set (.bool true)).cell (grownBy_putObj' _ D (.deferred none)) (fun r e => by cases e; exact ⟨_, hK', rfl⟩)
   have hg : M.good bs = true := List.all_eq_true.2 fun s hs => hp s hs
   refine ⟨.bool true, ?_, by rw [hg], (hB1.setCell (p := ⟨w.heap.size, 0, none⟩) (Nat.le_refl _) _).trans (belowK_b (w := w) (Nat.le_refl _) _ D _ _ (by omega) hK' rfl rfl)⟩
   simp [results, Tryz.f170, go_sem, hc5]
 case stop =>
   rintro D c pre W hD hpre ⟨⟨⟨rfl, s, hs, hsg⟩, bR1⟩, hB1⟩ hK
   gi_wp2
   refine ⟨by simp, .inl ⟨_, _, rfl, run_takeDeferred hK, ?_⟩⟩
   have hc5 := cell_kept bR1.cell (grownBy_putObj' _ D (.deferred none)) (fun r e => by cases e; exact ⟨_, hK, rfl⟩)
   have hg : M.good bs = false := by
     cases h : M.good bs with
     | false => rfl
     | true =>
       have := List.all_eq_true.1 h s (hpre.subset hs)
       rw [hsg] at this
       cases this
   refine ⟨.bool false, ?_, by rw [hg], hB1.trans (belowK_b (w := w) (Nat.le_refl _) W D _ _ (by omega) hK rfl rfl)⟩
   simp [results, Tryz.f170, go_sem, hc5]
def M.at (sts : List Int) (size i : Int) : Int := if i < 0 ∨ (sts.length : Int) < i then -1 else if i = sts.length then size else sts.getD i.toNat 0
theorem at_any (ao : Option Addr) (cap : Nat) (xs : List Int) (size i : Int) (w : World) (hl : xs.length ≤ 100000) (hc : Rd w ao (cN xs)) :
   Calls Tryz.prog 174 #[.slice ao xs.length cap, .int .i64 size, .int .i64 i] w fun e w' => e = .returned (.int .i64 (M.at xs size i)) ∧ w = w' := by
 by_cases h1 : i < 0
 · have HM : Hid (M.at xs size i = -1) := if_pos (.inl h1)
   go_enter Tryz.func174, Tryz.ntmps174
   go_wp2
   go_ret
   exact ⟨by rw [HM.out]; rfl, rfl⟩
 by_cases h2 : (xs.length : Int) < i
 · have HM : Hid (M.at xs size i = -1) := if_pos (.inr h2)
   go_enter Tryz.func174, Tryz.ntmps174
   go_wp2
   go_ret
   exact ⟨by rw [HM.out]; rfl, rfl⟩
 obtain ⟨k, rfl⟩ := Int.eq_ofNat_of_zero_le (show 0 ≤ i by omega)
 by_cases h3 : k = xs.length
 · have HM : Hid (M.at xs size (k : Int) = size) := by show _ = _; unfold M.at; rw [if_neg (by omega), if_pos (by omega)]
   subst h3
   go_enter Tryz.func174, Tryz.ntmps174
   go_wp2
   go_ret
   exact ⟨by rw [HM.out]; rfl, rfl⟩
 have hk : k < xs.length := by omega
 obtain ⟨b, off, rfl, hcell⟩ := hc.num k hk
 have HM : Hid (M.at xs size (k : Int) = xs[k]) := by show _ = _; unfold M.at; rw [if_neg (by omega), if_neg (by omega), Int.toNat_natCast, List.getD_eq_getElem?_getD, List.getElem?_eq_getElem hk]; rfl
 generalize xs[k] = y at *
 have h4 : ¬ ((k : Int) = (xs.length : Int)) := by omega
 go_enter Tryz.func174, Tryz.ntmps174
 go_wp2
 go_ret
 exact ⟨by rw [HM.out]; rfl, rfl⟩
end Go.Proofs.YtgngaldoemopjaaGreatDoor
namespace Go.Proofs.YtgngaldoemopjaaGreatDoor
open Go.RowKit
theorem wpl_appg {T e : TypeId} {z : Value} {k : Nat} (hT : Tryz.prog.underlying T = some (.slice e)) (hI : (Tryz.prog.info? e).map (fun i => (i.zero, i.size, i.bytes)) = some (some z, 1, k)) (hz : z.cells.size = 1) (hk : k ≤ 8)
   {w : World} {ops : Array Oper} {rest : List Oper} {o : Oper} {a : Act} {Q : Exit → Act → World → Prop} (hgd : o.guard = none) (s x : Operand)
   (hop : o.op = .call { callee := .builtin .append, args := #[s, x], argTypes := #[T, T] })
   (B : Nat) (v : Value) (vs : List Value) (ao : Option Addr) (xs : List Value) (n cap : Nat) (hxl : n = xs.length) (hs : a.eval s = v) (hx : a.eval x = .slice ao n cap)
   (ho : Own w B e v vs) (hB : B ≤ w.heap.size) (hr : Rd w ao xs) (h1 : ∀ u ∈ xs, u.oneCell' = true) (hn : ao = none → cap = 0) (hlen : vs.length + xs.length ≤ 10000000)
   (h : ∀ v' w', Own w' B e v' (vs ++ xs) → Below B w w' → w.grownBy w' v.ownBlock → wpList Tryz.prog ops Q rest (a.put o.dst v') w') : wpList Tryz.prog ops Q (o :: rest) a w := by
 subst hxl
 refine wpList_plain hgd fun K hK => ?_
 obtain ⟨v', w', hrun, h2, h3, h4⟩ := run_app hT hI hz hk w B v vs ao xs cap o.type ho hB hr h1 hn hlen
 unfold Oper.wp
 simp [execOp, hop, resolve, invoke, builtin, hs, hx, hrun, Result.andThen]
 exact hK _ _ (h v' w' h2 h3 h4)
theorem app_keeps {w wr w3 : World} {o : Obj} {j : Nat} (hj : j < w.heap.size + 1) (hsz : w.heap.size + 1 ≤ wr.heap.size) (hb : Below (w.heap.size + 1) (wr.alloc o) w3) : w3.heap[j]? = wr.heap[j]? := (hb.block j hj).trans (Below.heap_alloc wr o j (by omega))
set_option maxRecDepth 100000 in
set_option maxHeartbeats 400000 in
theorem word_lex (s : ByteArray) (hs : s.size ≤ 100000) (h0 : 0 < s.size) (w : World) (ht : Tabs w) : Calls Tryz.prog 143 #[.string s] w fun e w' => AnsT (X.word ((bts s).drop 1)) 0 e ∧ Below w.heap.size w w' := by
 obtain ⟨o, ho⟩ : ∃ o, X.word ((bts s).drop 1) = o := ⟨_, rfl⟩
 rw [ho]
 have HO := hide ho
 clear ho
 go_enter Tryz.func143, Tryz.ntmps143
 go_wp2
 go_loopw [4, 5] (fun v u wr => ∃ (pre : List UInt8) (i : Nat), u = .int .i64 (i : Int) ∧ 1 ≤ i ∧ i ≤ s.size ∧ pre.length ≤ i ∧ Own wr (w.heap.size + 1) 5 v (cB pre) ∧ wr.heap[w.heap.size]? = some room ∧ Hid (X.wordB ((bts s).drop 1) = (X.wordB ((bts s).drop i)).map fun p => (pre ++ p.1, i - 1 + p.2)) ∧ Below w.heap.size w wr) (fun _ u _ => s.size - (intOf u).toNat)
 case atStart => exact ⟨[], 1, rfl, Nat.le_refl _, by omega, by simp, own_nil _ _ _, heap_alloc_new w room, hide (by simp), al1 w room⟩
 case round =>
   obtain ⟨pre, i, rfl, hi1, hi2, hpl, hv, hr0, HW, hb⟩ := hrel
   by_cases hlt : i < s.size
   · have hl : i < (bts s).length := hlt
     have hx := fun j hj h => idx_at (s := s) hl j hj h
     have hdr := List.drop_eq_getElem_cons hl
     have hsz : w.heap.size + 1 ≤ wr.heap.size := (Array.getElem?_eq_some_iff.1 hr0).1
     have HD := hide hdr
     clear hdr
     generalize (bts s)[i] = c at *
     have hx2 : ∀ h, s[i]'h = c := fun h => hx (i : Int) rfl h
     clear hx
     have e34 : ((c.toNat : Int) == 34) = decide (c = 34) := u8_eq c 34
     have e10 : ((c.toNat : Int) == 10) = decide (c = 10) := u8_eq c 10
     have e92 : ((c.toNat : Int) == 92) = decide (c = 92) := u8_eq c 92
     by_cases h10 : c = 10
     · rw [decide_eq_true h10] at e10
       have n10 : ((c.toNat : Int) != 10) = false := by simp [bne, e10]
       have HN : Hid (o = none) := hide (by
         rw [← HO.out]
         unfold X.word
         rw [HW.out, HD.out, h10, X.wordB_feed]
         rfl)
       clear HW HD h10 e34 e92 HO
       obtain ⟨d0, d1, d2, d3⟩ := cells_four hr0
       have f0 := frozen_row hr0 0
       have f1 := frozen_row hr0 1
       have f2 := frozen_row hr0 2
       have f3 := frozen_row hr0 3
       go_wp2
       exact bodyPost_ret (v := .tuple #[tokV tz 0, .int .i64 0]) (by unfold tokV; simp [results, Tryz.results143, go_sem, d0, d1, d2, d3, tz]) rfl ⟨ansT_none HN.out, by first | (with_reducible exact hb) | exact four_set hb _ _ _ _⟩
     · rw [decide_eq_false h10] at e10
       have n10 : ((c.toNat : Int) != 10) = true := by simp [bne, e10]
       by_cases h34 : c = 34
       · rw [decide_eq_true h34] at e34
         clear e92
         have HW2 : Hid (X.wordB ((bts s).drop 1) = some (pre, i - 1 + 1)) := hide (by
           rw [HW.out, HD.out, h34, X.wordB_end]
           simp)
         clear HW HD h34
         obtain ⟨ao, cap, rfl, hcap, hnil, hrd⟩ := hv.rd
         have hR := good_any ao cap pre (by omega) (by rw [cB_length] at hcap; exact hcap) hnil wr (ht.later hb) hrd
         rw [cB_length] at hv hcap ⊢
         cases hg : M.good pre with
         | false =>
           rw [hg] at hR
           have HN : Hid (o = none) := hide (by
             rw [← HO.out]
             unfold X.word
             rw [HW2.out]
             simp only
             rw [if_neg (by rw [hg]; decide)])
           clear HW2 hg HO
           go_wp2_with fail
           refine hR.mono ?_
           rintro e w1 ⟨rfl, hb1⟩
           replace hr0 := (hb1.block w.heap.size (by omega)).trans hr0
           have hbb := nx hb hb1
           clear hR hv hrd hb1
           obtain ⟨d0, d1, d2, d3⟩ := cells_four hr0
           have f0 := frozen_row hr0 0
           have f1 := frozen_row hr0 1
           have f2 := frozen_row hr0 2
           have f3 := frozen_row hr0 3
           go_wp2
           exact bodyPost_ret (v := .tuple #[tokV tz 0, .int .i64 0]) (by unfold tokV; simp [results, Tryz.results143, go_sem, d0, d1, d2, d3, tz]) rfl ⟨ansT_none HN.out, by first | (with_reducible exact hbb) | exact four_set hbb _ _ _ _⟩
         | true =>
           rw [hg] at hR
           have HN : Hid (o = some (⟨2, pre, 0⟩, i + 1)) := hide (by
             rw [← HO.out]
             unfold X.word
             rw [HW2.out]
             simp only
             rw [if_pos hg, show i - 1 + 1 + 1 = i + 1 by omega])
           clear HW2 hg HO
           go_wp2_with fail
           refine hR.mono ?_
           rintro e w1 ⟨rfl, hb1⟩
           replace hr0 := (hb1.block w.heap.size (by omega)).trans hr0
           have hbb := nx hb hb1
           have hcv := conv_any w1 ao pre cap (hrd.later hb1)
           clear hR hv hrd hb1
           obtain ⟨d0, d1, d2, d3⟩ := cells_four hr0
           have f0 := frozen_row hr0 0
           have f1 := frozen_row hr0 1
           have f2 := frozen_row hr0 2
           have f3 := frozen_row hr0 3
           go_wp2
           exact bodyPost_ret (v := .tuple #[tokV ⟨2, pre, 0⟩ 0, .int .i64 ((i + 1 : Nat) : Int)]) (by unfold tokV; simp [results, Tryz.results143, go_sem, d0, d1, d2, d3]) rfl ⟨ansT_some HN.out, four_set hbb _ _ _ _⟩
       · rw [decide_eq_false h34] at e34
         by_cases h92 : c = 92
         · rw [decide_eq_true h92] at e92
           by_cases hl1 : i + 1 < s.size
           · have hl2 : i + 1 < (bts s).length := hl1
             have hy := fun j hj h => idx_at (s := s) hl2 j hj h
             have hdr := List.drop_eq_getElem_cons hl2
             have HD2 := hide hdr
             clear hdr
             generalize (bts s)[i + 1] = x at *
             have hy2 : ∀ h, s[((i : Int) + 1).toNat]'h = x := fun h => hy ((i : Int) + 1) (by omega) h
             have hy3 : ∀ h, s[i + 1]'h = x := fun h => hy ((i + 1 : Nat) : Int) rfl h
             clear hy
             have eq0 : (((i : Int) + 1) == (s.size : Int)) = false := by rw [beq_eq_false_iff_ne]; omega
             have x34 : ((x.toNat : Int) == 34) = decide (x = 34) := u8_eq x 34
             have x92 : ((x.toNat : Int) == 92) = decide (x = 92) := u8_eq x 92
             by_cases hx : x = 34 ∨ x = 92
             · have HS : Hid (X.wordB ((bts s).drop 1) = (X.wordB ((bts s).drop (i + 2))).map fun p => (pre ++ [x] ++ p.1, i + 2 - 1 + p.2)) := hide (by
                 rw [HW.out, HD.out, HD2.out, h92, X.wordB_esc _ hx, Option.map_map]
                 congr 1
                 funext p
                 simp only [Function.comp_apply, List.append_assoc, List.singleton_append]
                 congr 1
                 omega)
               have hxx : ((x.toNat : Int) == 34) = true ∨ (((x.toNat : Int) == 34) = false ∧ ((x.toNat : Int) == 92) = true) := by
                 rw [x34, x92]
                 by_cases h : x = 34
                 · exact .inl (decide_eq_true h)
                 · exact .inr ⟨decide_eq_false h, decide_eq_true (hx.resolve_left h)⟩
               clear HW HD HD2 h34 h10 h92 x34 x92 hx
               rcases hxx with x34 | ⟨x34, x92⟩
               · have n34 : ((x.toNat : Int) != 34) = false := by simp [bne, x34]
                 go_wp2_with (first
                   | (at_builtin; refine wpl_appg Tryz.underlying63 info5 rfl (by decide) rfl _ _ rfl (w.heap.size + 1) _ (cB pre) (some ⟨wr.heap.size, 0, none⟩) [.int .u8 (x.toNat : Int)] 1 1 rfl rfl rfl (hv.later ((Below.refl _ _).alloc (Nat.le_refl _) _)) (by have := hsz; simp; omega) (rd_new _ _ _ _ _ rfl) (by simp [Value.oneCell']) (fun e => by cases e) (by rw [cB_length]; simp; omega) ?_; intro v3 w3 hv3 hb3 hg3))
                 go_roundw
                 case rel => exact ⟨pre ++ [x], i + 2, by go_num, by omega, by omega, by simp; omega, by rw [cB_append]; exact hv3, (app_keeps (by omega) hsz hb3).trans hr0, HS, (hb.alloc hb.size _).trans (hb3.mono (by omega))⟩
                 case measure => simp [intOf]; omega
               · have n34 : ((x.toNat : Int) != 34) = true := by simp [bne, x34]
                 have n92 : ((x.toNat : Int) != 92) = false := by simp [bne, x92]
                 go_wp2_with (first
                   | (at_builtin; refine wpl_appg Tryz.underlying63 info5 rfl (by decide) rfl _ _ rfl (w.heap.size + 1) _ (cB pre) (some ⟨wr.heap.size, 0, none⟩) [.int .u8 (x.toNat : Int)] 1 1 rfl rfl rfl (hv.later ((Below.refl _ _).alloc (Nat.le_refl _) _)) (by have := hsz; simp; omega) (rd_new _ _ _ _ _ rfl) (by simp [Value.oneCell']) (fun e => by cases e) (by rw [cB_length]; simp; omega) ?_; intro v3 w3 hv3 hb3 hg3))
                 go_roundw
                 case rel => exact ⟨pre ++ [x], i + 2, by go_num, by omega, by omega, by simp; omega, by rw [cB_append]; exact hv3, (app_keeps (by omega) hsz hb3).trans hr0, HS, (hb.alloc hb.size _).trans (hb3.mono (by omega))⟩
                 case measure => simp [intOf]; omega
             · have HN : Hid (o = none) := hide (by
                 rw [← HO.out]
                 unfold X.word
                 rw [HW.out, HD.out, HD2.out, h92]
                 conv => lhs; unfold X.wordB
                 simp [hx])
               have n34 : ((x.toNat : Int) != 34) = true := by simp only [bne, x34, decide_eq_false (fun h => hx (.inl h)), Bool.not_false]
               have n92 : ((x.toNat : Int) != 92) = true := by simp only [bne, x92, decide_eq_false (fun h => hx (.inr h)), Bool.not_false]
               clear HW HD HD2 h34 h10 h92 x34 x92 hx HO
               obtain ⟨d0, d1, d2, d3⟩ := cells_four hr0
               have f0 := frozen_row hr0 0
               have f1 := frozen_row hr0 1
               have f2 := frozen_row hr0 2
               have f3 := frozen_row hr0 3
               go_wp2
               exact bodyPost_ret (v := .tuple #[tokV tz 0, .int .i64 0]) (by unfold tokV; simp [results, Tryz.results143, go_sem, d0, d1, d2, d3, tz]) rfl ⟨ansT_none HN.out, by first | (with_reducible exact hb) | exact four_set hb _ _ _ _⟩
           · have eq0 : (((i : Int) + 1) == (s.size : Int)) = true := by rw [beq_iff_eq]; omega
             have HN : Hid (o = none) := hide (by
               rw [← HO.out]
               unfold X.word
               rw [HW.out, HD.out, h92, List.drop_eq_nil_of_le (by rw [bts_len]; omega)]
               rfl)
             clear HW HD h92 h10 h34 HO
             obtain ⟨d0, d1, d2, d3⟩ := cells_four hr0
             have f0 := frozen_row hr0 0
             have f1 := frozen_row hr0 1
             have f2 := frozen_row hr0 2
             have f3 := frozen_row hr0 3
             go_wp2
             exact bodyPost_ret (v := .tuple #[tokV tz 0, .int .i64 0]) (by unfold tokV; simp [results, Tryz.results143, go_sem, d0, d1, d2, d3, tz]) rfl ⟨ansT_none HN.out, by first | (with_reducible exact hb) | exact four_set hb _ _ _ _⟩
         · rw [decide_eq_false h92] at e92
           have HS : Hid (X.wordB ((bts s).drop 1) = (X.wordB ((bts s).drop (i + 1))).map fun p => (pre ++ [c] ++ p.1, i + 1 - 1 + p.2)) := hide (by
             rw [HW.out, HD.out, X.wordB_other _ h34 h10 h92, Option.map_map]
             congr 1
             funext p
             simp only [Function.comp_apply, List.append_assoc, List.singleton_append]
             congr 1
             omega)
           clear HW HD h34 h10 h92
           go_wp2_with (first
             | (at_builtin; refine wpl_appg Tryz.underlying63 info5 rfl (by decide) rfl _ _ rfl (w.heap.size + 1) _ (cB pre) (some ⟨wr.heap.size, 0, none⟩) [.int .u8 (c.toNat : Int)] 1 1 rfl rfl rfl (hv.later ((Below.refl _ _).alloc (Nat.le_refl _) _)) (by have := hsz; simp; omega) (rd_new _ _ _ _ _ rfl) (by simp [Value.oneCell']) (fun e => by cases e) (by rw [cB_length]; simp; omega) ?_; intro v3 w3 hv3 hb3 hg3))
           go_roundw
           case rel => exact ⟨pre ++ [c], i + 1, by go_num, by omega, by omega, by simp; omega, by rw [cB_append]; exact hv3, (app_keeps (by omega) hsz hb3).trans hr0, HS, (hb.alloc hb.size _).trans (hb3.mono (by omega))⟩
           case measure => simp [intOf]; omega
   · have HN : Hid (o = none) := hide (by
       rw [← HO.out]
       unfold X.word
       rw [HW.out, List.drop_eq_nil_of_le (by rw [bts_len]; omega)]
       rfl)
     clear HW HO
     obtain ⟨d0, d1, d2, d3⟩ := cells_four hr0
     have f0 := frozen_row hr0 0
     have f1 := frozen_row hr0 1
     have f2 := frozen_row hr0 2
     have f3 := frozen_row hr0 3
     go_wp2
     exact bodyPost_ret (v := .tuple #[tokV tz 0, .int .i64 0]) (by unfold tokV; simp [results, Tryz.results143, go_sem, d0, d1, d2, d3, tz]) rfl ⟨ansT_none HN.out, by first | (with_reducible exact hb) | exact four_set hb _ _ _ _⟩
end Go.Proofs.YtgngaldoemopjaaGreatDoor
namespace Go.Proofs.YtgngaldoemopjaaGreatDoor
open Go.RowKit
theorem bytes_of (t : ByteArray) (w : World) : ∃ cap W', (convert 9 63 (.string t)).run Tryz.prog w = .ok (.slice (some ⟨w.heap.size, 0, none⟩) t.size cap) W' ∧ Rd W' (some ⟨w.heap.size, 0, none⟩) (cB (bts t)) ∧ Below w.heap.size w W' := by
 refine ⟨_, _, Lib.run_convert_string_bytes w 9 63 5 t Tryz.underlying9 Tryz.underlying63 Tryz.underlying5, ?_, ?_⟩
 · intro i hi
   refine ⟨_, _, rfl, ?_⟩
   have hi' : i < t.size := by rw [cB_length] at hi; exact hi
   rw [Nat.zero_add, Lib.bytesWorld_cell w 5 t i hi']
   have hb : i < t.data.toList.length := hi'
   simp [cB, bts, List.getD_eq_getElem?_getD, List.getElem?_eq_getElem hb]
 · exact ⟨rfl, rfl, rfl, by rw [Lib.bytesWorld_size]; omega, fun k hk => Lib.bytesWorld_at_old w 5 t k hk⟩
theorem low_any (x : Int) (d : Nat) (h1 : 10 ≤ d) (h2 : d ≤ 15) (hx : x = (d : Int) + 55 ∨ x = (d : Int) + 87) (w : World) : Calls Tryz.prog 233 #[.int .u8 x] w fun e w' => e = .returned (.int .u8 ((d : Int) + 87)) ∧ w' = w := by
 have hd : d = 10 ∨ d = 11 ∨ d = 12 ∨ d = 13 ∨ d = 14 ∨ d = 15 := by omega
 rcases hd with rfl | rfl | rfl | rfl | rfl | rfl <;> rcases hx with rfl | rfl
 all_goals
   go_enter Tryz.func233, Tryz.ntmps233
   go_wp2
   go_ret
   exact ⟨rfl, rfl⟩
theorem hexv_cases {c : UInt8} (h : X.isH c = true) : ∃ d : Nat, X.hexv c = some d ∧ d < 16 ∧ ((d < 10 ∧ (c.toNat : Int) = (d : Int) + 48) ∨ (10 ≤ d ∧ ((c.toNat : Int) = (d : Int) + 55 ∨ (c.toNat : Int) = (d : Int) + 87))) := by
 unfold X.isH X.hexv at *
 cases hd : X.isD c with
 | true =>
   have : 48 ≤ c.toNat ∧ c.toNat ≤ 57 := by simpa [X.isD] using hd
   refine ⟨c.toNat - 48, by rw [if_pos rfl], by omega, .inl ⟨by omega, by omega⟩⟩
 | false =>
   rw [hd] at h
   simp only [Bool.false_eq_true, if_false] at h ⊢
   by_cases h1 : 97 ≤ c.toNat ∧ c.toNat ≤ 102
   · rw [if_pos h1]
     exact ⟨_, rfl, by omega, .inr ⟨by omega, .inr (by omega)⟩⟩
   · rw [if_neg h1] at h ⊢
     by_cases h2 : 65 ≤ c.toNat ∧ c.toNat ≤ 70
     · rw [if_pos h2]
       exact ⟨_, rfl, by omega, .inr ⟨by omega, .inl (by omega)⟩⟩
     · rw [if_neg h2] at h; cases h
theorem hexN_lt : ∀ (k : Nat) (l : List UInt8), l.length = k → (∀ c ∈ l, X.isH c = true) → X.hexN l < 16 ^ k := by
 intro k
 induction k with
 | zero => intro l h _; obtain rfl := List.eq_nil_of_length_eq_zero h; decide
 | succ k ih =>
   intro l h hh
   have hne : l ≠ [] := by intro e; rw [e] at h; cases h
   obtain ⟨m, x, rfl⟩ : ∃ m x, l = m ++ [x] := ⟨l.dropLast, l.getLast hne, (List.dropLast_concat_getLast hne).symm⟩
   rw [X.hexN_snoc]
   obtain ⟨d, hd, hd2, _⟩ := hexv_cases (hh x (by simp))
   have := ih m (by simpa using h) (fun c hc => hh c (by simp [hc]))
   rw [hd, Nat.pow_succ]
   simp only [Option.getD_some]
   omega
set_option maxRecDepth 100000 in
set_option maxHeartbeats 4000000 in
theorem puint_any (t : ByteArray) (h1 : 1 ≤ t.size) (h6 : t.size ≤ 6) (hh : ∀ c ∈ bts t, X.isH c = true) (w : World) : Calls Tryz.prog 222 #[.string t, .int .i64 16, .int .i64 32] w fun e w' => e = .returned (.tuple #[.int .u64 (X.hexN (bts t) : Int), .nilIface]) ∧ Below w.heap.size w w' := by
 have HH := hide hh
 clear hh
 have he : (t.toList == []) = false := by
   rw [beq_eq_false_iff_ne, Lib.toList_data]
   intro e
   have := congrArg List.length e
   rw [← Lib.size_eq] at this
   have h0 : t.size = 0 := this
   omega
 obtain ⟨cap, W, hrun, hrd, hbl⟩ := bytes_of t w
 go_enter Tryz.func222, Tryz.ntmps222
 go_wp2
 go_loopw [12, 13, 101] (fun q v u wr => q = .bool false ∧ ∃ i : Nat, u = .int .i64 (i : Int) ∧ i ≤ t.size ∧ v = .int .u64 (X.hexN ((bts t).take i) : Int) ∧ wr = W) (fun _ _ u _ => t.size - (intOf u).toNat)
 case atStart => exact ⟨rfl, 0, rfl, by omega, rfl, by first | rfl | trivial⟩
 case round =>
   obtain ⟨rfl, i, rfl, hi, rfl, rfl⟩ := hrel
   by_cases hlt : i < t.size
   · have hl : i < (bts t).length := hlt
     obtain ⟨b, off, hao, hcell⟩ := hrd.byte i hl
     cases hao
     have HT := hide (take_snoc0 hl)
     have hH := HH.out ((bts t)[i]) (List.getElem_mem hl)
     have hlt6 : X.hexN ((bts t).take i) < 16777216 := by
       have h2 := hexN_lt i ((bts t).take i) (by rw [List.length_take, bts_len]; omega) (fun c hc => HH.out c (List.mem_of_mem_take hc))
       have h3 : 16 ^ i ≤ 16 ^ 6 := Nat.pow_le_pow_right (by decide) (by omega)
       omega
     generalize (bts t)[i] = c at *
     obtain ⟨d, hv, hd, hcc⟩ := hexv_cases hH
     have HN : Hid (X.hexN ((bts t).take (i + 1)) = X.hexN ((bts t).take i) * 16 + d) := hide (by rw [HT.out, X.hexN_snoc, hv]; rfl)
     clear HT hH hv
     generalize X.hexN ((bts t).take i) = n at *
     generalize (c.toNat : Int) = x at *
     rw [Nat.zero_add] at hcell
     rcases hcc with ⟨h10, rfl⟩ | ⟨h10, hx⟩
     · have g1 : decide ((1152921504606846976 : Int) ≤ (n : Int)) = false := decide_eq_false (by omega)
       have g2 : decide ((n : Int) * 16 + d < (n : Int) * 16) = false := decide_eq_false (by omega)
       have g3 : decide ((4294967295 : Int) < (n : Int) * 16 + d) = false := decide_eq_false (by omega)
       have g4 : (((d : Int) + 48) == 95) = false := by rw [beq_eq_false_iff_ne]; omega
       have g5 : decide ((48 : Int) ≤ (d : Int) + 48) = true := decide_eq_true (by omega)
       have g6 : decide ((d : Int) + 48 ≤ 57) = true := decide_eq_true (by omega)
       have g7 : decide ((16 : Int) ≤ (d : Int)) = false := decide_eq_false (by omega)
       go_wp2
       go_roundw
       case rel => exact ⟨rfl, i + 1, by go_num, by omega, by rw [HN.out]; go_num, by first | rfl | trivial⟩
       case measure => simp [intOf]; omega
     · have g1 : decide ((1152921504606846976 : Int) ≤ (n : Int)) = false := decide_eq_false (by omega)
       have g2 : decide ((n : Int) * 16 + d < (n : Int) * 16) = false := decide_eq_false (by omega)
       have g3 : decide ((4294967295 : Int) < (n : Int) * 16 + d) = false := decide_eq_false (by omega)
       have g4 : (x == 95) = false := by rw [beq_eq_false_iff_ne]; omega
       have g5 : decide ((48 : Int) ≤ x) = true := decide_eq_true (by omega)
       have g6 : decide (x ≤ 57) = false := decide_eq_false (by omega)
       have g7 : decide ((16 : Int) ≤ (d : Int)) = false := decide_eq_false (by omega)
       have g8 : decide ((97 : Int) ≤ (d : Int) + 87) = true := decide_eq_true (by omega)
       have g9 : decide ((d : Int) + 87 ≤ 122) = true := decide_eq_true (by omega)
       have hlow := low_any x d h10 (by omega) hx wr
       have HX := hide hx
       clear hx
       go_wp2_with fail
       refine hlow.mono ?_
       rintro e w1 ⟨rfl, rfl⟩
       go_wp2_with fail
       refine hlow.mono ?_
       rintro e w1 ⟨rfl, rfl⟩
       go_wp2_with fail
       refine hlow.mono ?_
       rintro e w1 ⟨rfl, rfl⟩
       go_wp2
       go_roundw
       case rel => exact ⟨rfl, i + 1, by go_num, by omega, by rw [HN.out]; go_num, by first | rfl | trivial⟩
       case measure => simp [intOf]; omega
   · obtain rfl : i = t.size := by omega
     have HE : Hid ((bts t).take t.size = bts t) := hide (List.take_of_length_le (Nat.le_refl _))
     rw [HE.out]
     go_wp2
     go_ret2
     exact ⟨rfl, hbl⟩
set_option maxRecDepth 100000 in
set_option maxHeartbeats 4000000 in
theorem pint_in (t : ByteArray) (h1 : 1 ≤ t.size) (h6 : t.size ≤ 6) (hh : ∀ c ∈ bts t, X.isH c = true) (w : World) : Calls Tryz.prog 210 #[.string t, .int .i64 16, .int .i64 32] w fun e w' => e = .returned (.tuple #[.int .i64 (X.hexN (bts t) : Int), .nilIface]) ∧ Below w.heap.size w w' := by
 have he : (t.toList == []) = false := by
   rw [beq_eq_false_iff_ne, Lib.toList_data]
   intro e
   have := congrArg List.length e
   rw [← Lib.size_eq] at this
   have h0 : t.size = 0 := this
   omega
 have hp := puint_any t h1 h6 hh w
 have hlt6 : X.hexN (bts t) < 16777216 := by
   have h2 := hexN_lt t.size (bts t) rfl hh
   have h3 : 16 ^ t.size ≤ 16 ^ 6 := Nat.pow_le_pow_right (by decide) (by omega)
   omega
 have hl : 0 < (bts t).length := by rw [bts_len]; omega
 have hH := hh ((bts t)[0]) (List.getElem_mem hl)
 have hx := fun h => (idx_at (s := t) hl ((0 : Nat) : Int) rfl h)
 clear hh
 generalize (bts t)[0] = c at *
 have hx2 : ∀ h, t[0]'h = c := fun h => hx h
 clear hx
 have e43 : ((c.toNat : Int) == 43) = false := by
   obtain ⟨d, _, _, h⟩ := hexv_cases hH
   rw [beq_eq_false_iff_ne]; omega
 have e45 : ((c.toNat : Int) == 45) = false := by
   obtain ⟨d, _, _, h⟩ := hexv_cases hH
   rw [beq_eq_false_iff_ne]; omega
 clear hH
 generalize X.hexN (bts t) = n at *
 have g1 : decide ((2147483648 : Int) ≤ (n : Int)) = false := decide_eq_false (by omega)
 go_enter Tryz.func210, Tryz.ntmps210
 go_wp2_with fail
 refine hp.mono ?_
 rintro e w1 ⟨rfl, hb⟩
 go_wp2
 go_ret2
 exact ⟨rfl, hb⟩
set_option maxHeartbeats 1000000 in
theorem pint_any (t : ByteArray) (h1 : 1 ≤ t.size) (h6 : t.size ≤ 6) (hh : ∀ c ∈ bts t, X.isH c = true) (w : World) : Calls Tryz.prog 187 #[.string t, .int .i64 16, .int .i64 32] w fun e w' => e = .returned (.tuple #[.int .i64 (X.hexN (bts t) : Int), .nilIface]) ∧ Below w.heap.size w w' := by
 have hp := pint_in t h1 h6 hh w
 clear hh
 generalize X.hexN (bts t) = n at *
 go_enter Tryz.func187, Tryz.ntmps187
 go_wp2_with fail
 refine hp.mono ?_
 rintro e w1 ⟨rfl, hb⟩
 go_wp2
 go_ret2
 exact ⟨rfl, hb⟩
end Go.Proofs.YtgngaldoemopjaaGreatDoor
