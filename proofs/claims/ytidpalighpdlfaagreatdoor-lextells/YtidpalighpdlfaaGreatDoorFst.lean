/- first of lex. -/
import Derived.Test.YtidpalighpdlfaaGreatDoorChs
namespace Go.Proofs.YtidpalighpdlfaaGreatDoor
open Go.RowKit

theorem char_lex (s : ByteArray) (hs : s.size ≤ 100000) (h0 : 0 < s.size) (hh : (bts s).head? = some 39) (w : World) (ht : Tabs w) : Calls Tryz.prog 38 #[.string s] w fun e w' => AnsT (X.charL ((bts s).drop 1)) 0 e ∧ Below w.heap.size w w' := by
  by_cases hp : ∃ h, bts s = 39 :: 92 :: 117 :: 123 :: h
  · obtain ⟨h, e⟩ := hp
    exact char_one s hs h e w
  · exact char_two s hs h0 hh hp w ht
/-- What the sign at the beginning is, as the program asks for it. -/
theorem next_cases (c : UInt8) (u : List UInt8) : X.nextL (c :: u) =
    if c = 10 then some (⟨7, [], 0⟩, 1) else if c = 36 then nameL u else if X.isD c = true then numL (c :: u) else if X.isL c = true then some (⟨8, (c :: u).takeWhile X.isI, 0⟩, ((c :: u).takeWhile X.isI).length)
    else if c = 34 then X.word u else if c = 39 then X.charL u else if c = 123 then propL u else markL c u := by
  unfold X.nextL nameL numL propL markL
  simp only [List.head?_cons, Option.some.injEq]

set_option maxRecDepth 100000 in
set_option maxHeartbeats 2000000 in
theorem first_lex (s : ByteArray) (hs : s.size ≤ 100000) (h0 : 0 < s.size) (w : World) (ht : Tabs w) : Calls Tryz.prog 21 #[.string s] w fun e w' => AnsT (X.nextL (bts s)) 0 e ∧ Below w.heap.size w w' := by
  have hl : 0 < (bts s).length := h0
  obtain ⟨c, u, hcu⟩ : ∃ c u, bts s = c :: u := by
    cases hb : bts s with
    | nil => rw [hb] at hl; cases hl
    | cons c u => exact ⟨c, u, rfl⟩
  have hx2 : ∀ h, s[0]'h = c := fun h => (idx_at (s := s) hl ((0 : Nat) : Int) rfl h).trans (by simp [hcu])
  have hdrop : (bts s).drop 1 = u := by rw [hcu]; rfl
  have htw := ht.later (al1 w room)
  have HU : Hid (X.nextL (bts s) = _) := hide ((congrArg X.nextL hcu).trans (next_cases c u))
  generalize X.nextL (bts s) = o at *
  have e10 : ((c.toNat : Int) == 10) = decide (c = 10) := u8_eq c 10
  have e36 : ((c.toNat : Int) == 36) = decide (c = 36) := u8_eq c 36
  have e34 : ((c.toNat : Int) == 34) = decide (c = 34) := u8_eq c 34
  have e39 : ((c.toNat : Int) == 39) = decide (c = 39) := u8_eq c 39
  have e123 : ((c.toNat : Int) == 123) = decide (c = 123) := u8_eq c 123
  have hdg := digit_any c (w.alloc room)
  have hlt := letter_any c (w.alloc room)
  by_cases h10 : c = 10
  · rw [decide_eq_true h10] at e10
    have HN : Hid (o = some (⟨7, [], 0⟩, 1)) := hide (by rw [HU.out, if_pos h10])
    clear HU hdg hlt h10 e36 e34 e39 e123 hcu hdrop
    go_enter Tryz.func21, Tryz.ntmps21
    go_wp2
    exact bodyPost_ret (v := .tuple #[tokV ⟨7, [], 0⟩ 0, .int .i64 ((1 : Nat) : Int)]) (by unfold tokV; simp [results, Tryz.results21, go_sem]) rfl ⟨ansT_some HN.out, al1 w _⟩
  rw [decide_eq_false h10] at e10
  rw [if_neg h10] at HU
  clear h10
  by_cases h36 : c = 36
  · rw [decide_eq_true h36] at e36
    rw [if_pos h36] at HU
    have hcall := name_lex s hs h0 (w.alloc room)
    rw [hdrop, ← HU.out] at hcall
    clear HU hdg hlt h36 e34 e39 e123 hcu hdrop
    go_enter Tryz.func21, Tryz.ntmps21
    go_wp2_with fail
    refine hcall.mono ?_
    rintro e w1 ⟨⟨t, n, rfl, hq1, hq2⟩, hb⟩
    obtain ⟨hr0, hbb⟩ := room_kept hb
    have HQ1 := hide hq1
    have HQ2 := hide hq2
    clear hb hq1 hq2 hcall
    obtain ⟨d0, d1, d2, d3⟩ := cells_four hr0
    have f0 := frozen_row hr0 0
    have f1 := frozen_row hr0 1
    have f2 := frozen_row hr0 2
    have f3 := frozen_row hr0 3
    unfold tokV
    go_wp2
    exact bodyPost_ret (v := .tuple #[tokV t 0, .int .i64 (n : Int)]) (by unfold tokV; simp [results, Tryz.results21, go_sem, d0, d1, d2, d3]) rfl ⟨⟨t, n, rfl, HQ1.out, HQ2.out⟩, four_set hbb _ _ _ _⟩
  rw [decide_eq_false h36] at e36
  rw [if_neg h36] at HU
  clear h36
  cases hd : X.isD c with
  | true =>
    rw [hd, if_pos rfl] at HU
    rw [hd] at hdg
    have hcall := number_lex s hs h0 (w.alloc room)
    rw [hcu, ← HU.out] at hcall
    clear HU hlt e34 e39 e123 hcu hdrop hd
    unfold U8 at hdg
    go_enter Tryz.func21, Tryz.ntmps21
    go_wp2_with fail
    refine hdg.mono ?_
    rintro e w1 ⟨rfl, rfl⟩
    go_wp2_with fail
    refine hcall.mono ?_
    rintro e w1 ⟨⟨t, n, rfl, hq1, hq2⟩, hb⟩
    obtain ⟨hr0, hbb⟩ := room_kept hb
    have HQ1 := hide hq1
    have HQ2 := hide hq2
    clear hb hq1 hq2 hcall
    obtain ⟨d0, d1, d2, d3⟩ := cells_four hr0
    have f0 := frozen_row hr0 0
    have f1 := frozen_row hr0 1
    have f2 := frozen_row hr0 2
    have f3 := frozen_row hr0 3
    unfold tokV
    go_wp2
    exact bodyPost_ret (v := .tuple #[tokV t 0, .int .i64 (n : Int)]) (by unfold tokV; simp [results, Tryz.results21, go_sem, d0, d1, d2, d3]) rfl ⟨⟨t, n, rfl, HQ1.out, HQ2.out⟩, four_set hbb _ _ _ _⟩
  | false =>
    rw [hd, if_neg (by decide)] at HU
    rw [hd] at hdg
    clear hd
    cases hL : X.isL c with
    | true =>
      rw [hL, if_pos rfl] at HU
      rw [hL] at hlt
      have hcall := ident_lex s hs (w.alloc room)
      rw [hcu, ← HU.out] at hcall
      clear HU e34 e39 e123 hcu hdrop hL
      unfold U8 at hdg hlt
      go_enter Tryz.func21, Tryz.ntmps21
      go_wp2_with fail
      refine hdg.mono ?_
      rintro e w1 ⟨rfl, rfl⟩
      go_wp2_with fail
      refine hlt.mono ?_
      rintro e w1 ⟨rfl, rfl⟩
      go_wp2_with fail
      refine hcall.mono ?_
      rintro e w1 ⟨⟨t, n, rfl, hq1, hq2⟩, hb⟩
      obtain ⟨hr0, hbb⟩ := room_kept hb
      have HQ1 := hide hq1
      have HQ2 := hide hq2
      clear hb hq1 hq2 hcall
      obtain ⟨d0, d1, d2, d3⟩ := cells_four hr0
      have f0 := frozen_row hr0 0
      have f1 := frozen_row hr0 1
      have f2 := frozen_row hr0 2
      have f3 := frozen_row hr0 3
      unfold tokV
      go_wp2
      exact bodyPost_ret (v := .tuple #[tokV t 0, .int .i64 (n : Int)]) (by unfold tokV; simp [results, Tryz.results21, go_sem, d0, d1, d2, d3]) rfl ⟨⟨t, n, rfl, HQ1.out, HQ2.out⟩, four_set hbb _ _ _ _⟩
    | false =>
      rw [hL, if_neg (by decide)] at HU
      rw [hL] at hlt
      clear hL
      unfold U8 at hdg hlt
      by_cases h34 : c = 34
      · rw [decide_eq_true h34] at e34
        rw [if_pos h34] at HU
        have hcall := word_lex s hs h0 (w.alloc room) htw
        rw [hdrop, ← HU.out] at hcall
        clear HU h34 e39 e123 hcu hdrop
        go_enter Tryz.func21, Tryz.ntmps21
        go_wp2_with fail
        refine hdg.mono ?_
        rintro e w1 ⟨rfl, rfl⟩
        go_wp2_with fail
        refine hlt.mono ?_
        rintro e w1 ⟨rfl, rfl⟩
        go_wp2_with fail
        refine hcall.mono ?_
        rintro e w1 ⟨⟨t, n, rfl, hq1, hq2⟩, hb⟩
        obtain ⟨hr0, hbb⟩ := room_kept hb
        have HQ1 := hide hq1
        have HQ2 := hide hq2
        clear hb hq1 hq2 hcall
        obtain ⟨d0, d1, d2, d3⟩ := cells_four hr0
        have f0 := frozen_row hr0 0
        have f1 := frozen_row hr0 1
        have f2 := frozen_row hr0 2
        have f3 := frozen_row hr0 3
        unfold tokV
        go_wp2
        exact bodyPost_ret (v := .tuple #[tokV t 0, .int .i64 (n : Int)]) (by unfold tokV; simp [results, Tryz.results21, go_sem, d0, d1, d2, d3]) rfl ⟨⟨t, n, rfl, HQ1.out, HQ2.out⟩, four_set hbb _ _ _ _⟩
      rw [decide_eq_false h34] at e34
      rw [if_neg h34] at HU
      clear h34
      by_cases h39 : c = 39
      · rw [decide_eq_true h39] at e39
        rw [if_pos h39] at HU
        have hcall := char_lex s hs h0 (by rw [hcu, h39]; rfl) (w.alloc room) htw
        rw [hdrop, ← HU.out] at hcall
        clear HU h39 e123 hcu hdrop
        go_enter Tryz.func21, Tryz.ntmps21
        go_wp2_with fail
        refine hdg.mono ?_
        rintro e w1 ⟨rfl, rfl⟩
        go_wp2_with fail
        refine hlt.mono ?_
        rintro e w1 ⟨rfl, rfl⟩
        go_wp2_with fail
        refine hcall.mono ?_
        rintro e w1 ⟨⟨t, n, rfl, hq1, hq2⟩, hb⟩
        obtain ⟨hr0, hbb⟩ := room_kept hb
        have HQ1 := hide hq1
        have HQ2 := hide hq2
        clear hb hq1 hq2 hcall
        obtain ⟨d0, d1, d2, d3⟩ := cells_four hr0
        have f0 := frozen_row hr0 0
        have f1 := frozen_row hr0 1
        have f2 := frozen_row hr0 2
        have f3 := frozen_row hr0 3
        unfold tokV
        go_wp2
        exact bodyPost_ret (v := .tuple #[tokV t 0, .int .i64 (n : Int)]) (by unfold tokV; simp [results, Tryz.results21, go_sem, d0, d1, d2, d3]) rfl ⟨⟨t, n, rfl, HQ1.out, HQ2.out⟩, four_set hbb _ _ _ _⟩
      rw [decide_eq_false h39] at e39
      rw [if_neg h39] at HU
      clear h39
      by_cases h123 : c = 123
      · rw [decide_eq_true h123] at e123
        rw [if_pos h123] at HU
        have hcall := prop_lex s hs h0 (w.alloc room)
        rw [hdrop, ← HU.out] at hcall
        clear HU h123 hcu hdrop
        go_enter Tryz.func21, Tryz.ntmps21
        go_wp2_with fail
        refine hdg.mono ?_
        rintro e w1 ⟨rfl, rfl⟩
        go_wp2_with fail
        refine hlt.mono ?_
        rintro e w1 ⟨rfl, rfl⟩
        go_wp2_with fail
        refine hcall.mono ?_
        rintro e w1 ⟨⟨t, n, rfl, hq1, hq2⟩, hb⟩
        obtain ⟨hr0, hbb⟩ := room_kept hb
        have HQ1 := hide hq1
        have HQ2 := hide hq2
        clear hb hq1 hq2 hcall
        obtain ⟨d0, d1, d2, d3⟩ := cells_four hr0
        have f0 := frozen_row hr0 0
        have f1 := frozen_row hr0 1
        have f2 := frozen_row hr0 2
        have f3 := frozen_row hr0 3
        unfold tokV
        go_wp2
        exact bodyPost_ret (v := .tuple #[tokV t 0, .int .i64 (n : Int)]) (by unfold tokV; simp [results, Tryz.results21, go_sem, d0, d1, d2, d3]) rfl ⟨⟨t, n, rfl, HQ1.out, HQ2.out⟩, four_set hbb _ _ _ _⟩
      rw [decide_eq_false h123] at e123
      rw [if_neg h123] at HU
      have hcall := mark_lex s hs c u hcu (w.alloc room)
      rw [← HU.out] at hcall
      clear HU h123 hcu hdrop
      go_enter Tryz.func21, Tryz.ntmps21
      go_wp2_with fail
      refine hdg.mono ?_
      rintro e w1 ⟨rfl, rfl⟩
      go_wp2_with fail
      refine hlt.mono ?_
      rintro e w1 ⟨rfl, rfl⟩
      go_wp2_with fail
      refine hcall.mono ?_
      rintro e w1 ⟨⟨t, n, rfl, hq1, hq2⟩, hb⟩
      obtain ⟨hr0, hbb⟩ := room_kept hb
      have HQ1 := hide hq1
      have HQ2 := hide hq2
      clear hb hq1 hq2 hcall
      obtain ⟨d0, d1, d2, d3⟩ := cells_four hr0
      have f0 := frozen_row hr0 0
      have f1 := frozen_row hr0 1
      have f2 := frozen_row hr0 2
      have f3 := frozen_row hr0 3
      unfold tokV
      go_wp2
      exact bodyPost_ret (v := .tuple #[tokV t 0, .int .i64 (n : Int)]) (by unfold tokV; simp [results, Tryz.results21, go_sem, d0, d1, d2, d3]) rfl ⟨⟨t, n, rfl, HQ1.out, HQ2.out⟩, four_set hbb _ _ _ _⟩
end Go.Proofs.YtidpalighpdlfaaGreatDoor
