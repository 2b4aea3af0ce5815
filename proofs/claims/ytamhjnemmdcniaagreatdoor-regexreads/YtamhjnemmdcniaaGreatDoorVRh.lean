/- The reference of stage 6: next at a number, a name, an identifier, a property. -/
import Derived.Test.YtamhjnemmdcniaaGreatDoorVRg
namespace Go.Proofs.YtamhjnemmdcniaaGreatDoor
open Go.RowKit
set_option maxRecDepth 100000 in
set_option maxHeartbeats 2000000 in
theorem next_num (s : ByteArray) (k : Nat) (hs : s.size ≤ 100000) (hk : k < s.size) (c : UInt8) (hx2 : ∀ h, s[k]'h = c) (u : List UInt8) (HU : Hid ((bts s).drop k = c :: u ∧ (bts s).drop (k + 1) = u)) (h10 : c ≠ 10) (h36 : c ≠ 36) (hd : X.isD c = true) (w : World) : Calls Tryz.prog 44 #[.string s, .int .i64 (k : Int)] w fun e w' => AnsT (X.nextL (c :: u)) k e ∧ Below w.heap.size w w' := by
 have e10 : ((c.toNat : Int) == 10) = decide (c = 10) := u8_eq c 10
 rw [decide_eq_false h10] at e10
 have e36 : ((c.toNat : Int) == 36) = decide (c = 36) := u8_eq c 36
 rw [decide_eq_false h36] at e36
 have hdg := digitR_any c ((w.alloc (.cells #[.int .i64 0, .int .i64 0, .string ⟨#[]⟩, .int .i32 0] 58)).alloc (.cells #[.int .i64 0, .int .i64 (k : Int), .string ⟨#[]⟩, .int .i32 0] 58))
 rw [hd] at hdg
 have hr0 := two_old w (.cells #[.int .i64 0, .int .i64 0, .string ⟨#[]⟩, .int .i32 0] 58) (.cells #[.int .i64 0, .int .i64 (k : Int), .string ⟨#[]⟩, .int .i32 0] 58)
 have hr1 := two_new w (.cells #[.int .i64 0, .int .i64 0, .string ⟨#[]⟩, .int .i32 0] 58) (.cells #[.int .i64 0, .int .i64 (k : Int), .string ⟨#[]⟩, .int .i32 0] 58)
 have hbw := two_below w (.cells #[.int .i64 0, .int .i64 0, .string ⟨#[]⟩, .int .i32 0] 58) (.cells #[.int .i64 0, .int .i64 (k : Int), .string ⟨#[]⟩, .int .i32 0] 58)
 have hdr := fun w => digits_any s k hs (by omega) w
 obtain ⟨m, hm⟩ : ∃ m, (((bts s).drop k).takeWhile X.isD).length = m := ⟨_, rfl⟩
 have hcut := cut_tw X.isD s k m hm
 have hmk : k + m ≤ s.size := by
   have h1 := X.takeWhile_le X.isD ((bts s).drop k)
   rw [hm, List.length_drop, bts_len] at h1
   omega
 have HC : Hid (X.nextL (c :: u) = if m ≤ 4 ∧ ¬ (1 < m ∧ c = 48) then some (⟨3, (((bts s).drop k).takeWhile X.isD), 0⟩, m) else none) := hide (by
   rw [← hm, HU.out.1]
   unfold X.nextL
   simp only
   rw [if_neg h10, if_neg h36, if_pos hd])
 rw [hm] at hdr
 generalize ((bts s).drop k).takeWhile X.isD = T at *
 have HTX := hide hcut
 obtain ⟨t, ht⟩ : ∃ t, s.extract k (k + m) = t := ⟨_, rfl⟩
 rw [ht] at HTX
 have HM := hide hm
 clear hm hcut hd h10 h36 HU
 have e48 : ((c.toNat : Int) == 48) = decide (c = 48) := u8_eq c 48
 have hwr : IntKind.i64.wrap ((k : Int) + (m : Int)) = ((k + m : Nat) : Int) := by rw [IntKind.wrap_i64]; omega
 by_cases hok : m ≤ 4 ∧ ¬ (1 < m ∧ c = 48)
 · have HN : Hid (X.nextL (c :: u) = some (⟨3, T, 0⟩, m)) := hide (by rw [HC.out, if_pos hok])
   clear HC
   have hm4 := hok.1
   have hz : (decide (c = 48) = false ∧ 1 < m) ∨ (decide (c = 48) = decide (c = 48) ∧ ¬ 1 < m) := by
     by_cases h : 1 < m
     · exact .inl ⟨decide_eq_false (fun h1 => hok.2 ⟨h, h1⟩), h⟩
     · exact .inr ⟨rfl, h⟩
   clear hok
   rcases hz with ⟨hz, hz1⟩ | ⟨hz, hz1⟩
   all_goals
     rw [hz] at e48
     clear hz
     go_enter Tryz.func44, Tryz.ntmps44
     go_wp2_with fail
     refine (hdg).mono ?_
     rintro e w1 ⟨rfl, hw1⟩
     rw [← hw1] at hr0 hr1 hbw
     clear hw1
     go_wp2_with fail
     refine (hdr w1).mono ?_
     rintro e w2 ⟨rfl, rfl⟩
     obtain ⟨p0, p1, p2, p3, p4, p5, p6⟩ := two_stores hr0 hr1 hbw 3 t
     clear hdr hdg
     go_wp2_with fail
     refine Reg.start (B := w.heap.size) (by kernel_rfl) ?_
     refine Reg.take (fun _ _ _ _ _ h => h) 0 _ 92 (.string s) rfl (by kernel_rfl) (by kernel_rfl) (by kernel_rfl) rfl (by kernel_rfl) (by kernel_rfl) (fun _ _ => Reg.mv rfl rfl) ?_
     refine Reg.take (fun _ _ _ _ _ h => h) 1 _ 93 (.int .i64 (k : Int)) rfl (by kernel_rfl) (by kernel_rfl) (by kernel_rfl) rfl (by kernel_rfl) (by kernel_rfl) (fun _ _ => Reg.mv rfl rfl) ?_
     refine Reg.take (fun _ _ _ _ _ h => h) 2 _ 94 (.int .i64 (k : Int)) rfl (by kernel_rfl) (by kernel_rfl) (by kernel_rfl) rfl (by kernel_rfl) (by kernel_rfl) (fun _ _ => Reg.mv rfl rfl) ?_
     refine Reg.take (fun _ _ _ _ _ h => h) 3 _ 95 (.int .i64 (m : Int)) rfl (by kernel_rfl) (by kernel_rfl) (by kernel_rfl) rfl (by kernel_rfl) (by kernel_rfl) (fun _ _ => Reg.mv rfl rfl) ?_
     refine Reg.take (fun _ _ _ _ _ h => h) 4 _ 96 (.int .i64 ((k + m : Nat) : Int)) rfl (by kernel_rfl) (by kernel_rfl) (by kernel_rfl) rfl (by kernel_rfl) (by kernel_rfl) (fun _ _ => Reg.adK rfl rfl rfl hwr) ?_
     refine Reg.take (fun _ _ _ _ _ h => h) 5 _ 97 (.string t) rfl (by kernel_rfl) (by kernel_rfl) (by kernel_rfl) rfl (by kernel_rfl) (by kernel_rfl) (fun _ _ => Reg.slS rfl rfl rfl rfl (by omega) hmk ht) ?_
     refine Reg.take (fun _ _ _ _ _ h => h) 6 _ 98 (.pointer (some ⟨w.heap.size + 1, 0, none⟩)) rfl (by kernel_rfl) (by kernel_rfl) (by kernel_rfl) rfl (by kernel_rfl) (by kernel_rfl) (fun _ _ => Reg.fa rfl rfl (.inl ⟨rfl, rfl⟩)) ?_
     refine Reg.onlyN 7 _ rfl (by kernel_rfl) rfl (by kernel_rfl) (by kernel_rfl) ⟨w2.drew.setCell ⟨w.heap.size + 1, 0, none⟩ (.int .i64 3), w.heap.size, Reg.st1S rfl rfl rfl p0 p1 (.inl ⟨_, _, rfl⟩) (by kernel_rfl), Nat.le_refl _, (Below.refl _ _).setCell (by simp) _, ?_⟩
     refine Reg.take (fun _ _ _ _ _ h => h) 8 _ 99 (.pointer (some ⟨w.heap.size + 1, 2, none⟩)) rfl (by kernel_rfl) (by kernel_rfl) (by kernel_rfl) rfl (by kernel_rfl) (by kernel_rfl) (fun _ _ => Reg.fa rfl rfl (.inr ⟨rfl, rfl⟩)) ?_
     refine Reg.onlyN 9 _ rfl (by kernel_rfl) rfl (by kernel_rfl) (by kernel_rfl) ⟨(w2.drew.setCell ⟨w.heap.size + 1, 0, none⟩ (.int .i64 3)).setCell ⟨w.heap.size + 1, 2, none⟩ (.string t), w.heap.size, Reg.st1S rfl rfl rfl p2 p3 (.inr ⟨_, rfl⟩) (by kernel_rfl), Nat.le_refl _, (Below.refl _ _).setCell (by simp) _, ?_⟩
     refine Reg.done (by kernel_rfl) ?_
     simp only [Reg.ov, Act.put, List.setIfInBounds_toArray, List.set_cons_succ, List.set_cons_zero]
     obtain ⟨w4, hw4⟩ : ∃ w4, (w2.drew.setCell ⟨w.heap.size + 1, 0, none⟩ (.int .i64 3)).setCell ⟨w.heap.size + 1, 2, none⟩ (.string t) = w4 := ⟨_, rfl⟩
     rw [hw4] at p4 p5 p6 ⊢
     clear hw4 p0 p1 p2 p3 hr0 hr1 hbw
     have hbw := p6
     have hr0 := p4
     have hr1 := p5
     clear p4 p5 p6
     obtain ⟨c0, c1, c2, c3⟩ := cells_four hr1
     obtain ⟨d0, d1, d2, d3⟩ := cells_four hr0
     have f0 := frozen_of_row w4 w.heap.size 0 _ _ hr0
     have f1 := frozen_of_row w4 w.heap.size 1 _ _ hr0
     have f2 := frozen_of_row w4 w.heap.size 2 _ _ hr0
     have f3 := frozen_of_row w4 w.heap.size 3 _ _ hr0
     go_wp2
     exact bodyPost_ret (v := .tuple #[tokV ⟨3, T, 0⟩ k, .int .i64 (((m) : Nat) : Int)]) (by unfold tokV; simp [results, Tryz.results44, go_sem, d0, d1, d2, d3, HTX.out]; try omega) rfl ⟨⟨_, _, rfl, (by rw [HN.out]; intro p h; cases h; exact ⟨rfl, rfl⟩), (by rw [HN.out]; intro h; cases h)⟩, four_set hbw _ _ _ _⟩
 · have HN : Hid (X.nextL (c :: u) = none) := hide (by rw [HC.out, if_neg hok])
   clear HC hwr ht HTX
   have hz : (decide (c = 48) = false ∧ 4 < m) ∨ (decide (c = 48) = true ∧ 1 < m) := by
     by_cases h : c = 48
     · refine .inr ⟨decide_eq_true h, ?_⟩
       by_cases h1 : 1 < m
       · exact h1
       · exact absurd ⟨by omega, fun h2 => h1 h2.1⟩ hok
     · refine .inl ⟨decide_eq_false h, ?_⟩
       by_cases h1 : 4 < m
       · exact h1
       · exact absurd ⟨by omega, fun h2 => h h2.2⟩ hok
   clear hok
   rcases hz with ⟨hz, hz2⟩ | ⟨hz, hz2⟩
   all_goals
     rw [hz] at e48
     go_enter Tryz.func44, Tryz.ntmps44
     go_wp2_with fail
     refine (hdg).mono ?_
     rintro e w1 ⟨rfl, hw1⟩
     rw [← hw1] at hr0 hr1 hbw
     clear hw1
     go_wp2_with fail
     refine (hdr w1).mono ?_
     rintro e w2 ⟨rfl, rfl⟩
     clear hdr hdg
     obtain ⟨c0, c1, c2, c3⟩ := cells_four hr1
     obtain ⟨d0, d1, d2, d3⟩ := cells_four hr0
     have f0 := frozen_of_row w2 w.heap.size 0 _ _ hr0
     have f1 := frozen_of_row w2 w.heap.size 1 _ _ hr0
     have f2 := frozen_of_row w2 w.heap.size 2 _ _ hr0
     have f3 := frozen_of_row w2 w.heap.size 3 _ _ hr0
     go_wp2
     all_goals exact bodyPost_ret (v := .tuple #[tokV ⟨0, [], 0⟩ k, .int .i64 ((0 : Nat) : Int)]) (by unfold tokV; simp [results, Tryz.results44, go_sem, d0, d1, d2, d3]) rfl ⟨⟨_, _, rfl, (by rw [HN.out]; intro p h; cases h), fun _ => rfl⟩, four_set hbw _ _ _ _⟩
set_option maxRecDepth 100000 in
set_option maxHeartbeats 2000000 in
theorem next_ident (s : ByteArray) (k : Nat) (hs : s.size ≤ 100000) (hk : k < s.size) (c : UInt8) (hx2 : ∀ h, s[k]'h = c) (u : List UInt8) (HU : Hid ((bts s).drop k = c :: u ∧ (bts s).drop (k + 1) = u)) (h10 : c ≠ 10) (h36 : c ≠ 36) (hd : X.isD c = false) (hl : X.isL c = true) (w : World) : Calls Tryz.prog 44 #[.string s, .int .i64 (k : Int)] w fun e w' => AnsT (X.nextL (c :: u)) k e ∧ Below w.heap.size w w' := by
 have e10 : ((c.toNat : Int) == 10) = decide (c = 10) := u8_eq c 10
 rw [decide_eq_false h10] at e10
 have e36 : ((c.toNat : Int) == 36) = decide (c = 36) := u8_eq c 36
 rw [decide_eq_false h36] at e36
 have hdg := digitR_any c ((w.alloc (.cells #[.int .i64 0, .int .i64 0, .string ⟨#[]⟩, .int .i32 0] 58)).alloc (.cells #[.int .i64 0, .int .i64 (k : Int), .string ⟨#[]⟩, .int .i32 0] 58))
 rw [hd] at hdg
 have hlt := fun w => letterR_any c w
 rw [hl] at hlt
 have hr0 := two_old w (.cells #[.int .i64 0, .int .i64 0, .string ⟨#[]⟩, .int .i32 0] 58) (.cells #[.int .i64 0, .int .i64 (k : Int), .string ⟨#[]⟩, .int .i32 0] 58)
 have hr1 := two_new w (.cells #[.int .i64 0, .int .i64 0, .string ⟨#[]⟩, .int .i32 0] 58) (.cells #[.int .i64 0, .int .i64 (k : Int), .string ⟨#[]⟩, .int .i32 0] 58)
 have hbw := two_below w (.cells #[.int .i64 0, .int .i64 0, .string ⟨#[]⟩, .int .i32 0] 58) (.cells #[.int .i64 0, .int .i64 (k : Int), .string ⟨#[]⟩, .int .i32 0] 58)
 have hrun := fun w => run_any s ⟨#[45, 95]⟩ k true hs (by decide) (by omega) w
 rw [runP_I] at hrun
 obtain ⟨m, hm⟩ : ∃ m, (((bts s).drop k).takeWhile X.isI).length = m := ⟨_, rfl⟩
 have hcut := cut_tw X.isI s k m hm
 have hmk : k + m ≤ s.size := by
   have h1 := X.takeWhile_le X.isI ((bts s).drop k)
   rw [hm, List.length_drop, bts_len] at h1
   omega
 have HN : Hid (X.nextL (c :: u) = some (⟨8, (((bts s).drop k).takeWhile X.isI), 0⟩, m)) := hide (by
   rw [← hm, HU.out.1]
   unfold X.nextL
   simp only
   rw [if_neg h10, if_neg h36, if_neg (by rw [hd]; decide), if_pos hl])
 rw [hm] at hrun
 generalize ((bts s).drop k).takeWhile X.isI = T at *
 have HTX := hide hcut
 obtain ⟨t, ht⟩ : ∃ t, s.extract k (k + m) = t := ⟨_, rfl⟩
 rw [ht] at HTX
 clear hm hcut hd hl h10 h36 HU
 have hwr : IntKind.i64.wrap ((k : Int) + (m : Int)) = ((k + m : Nat) : Int) := by rw [IntKind.wrap_i64]; omega
 go_enter Tryz.func44, Tryz.ntmps44
 go_wp2_with fail
 refine (hdg).mono ?_
 rintro e w1 ⟨rfl, hw1⟩
 rw [← hw1] at hr0 hr1 hbw
 clear hw1
 go_wp2_with fail
 refine (hlt _).mono ?_
 rintro e w2 ⟨rfl, hw2⟩
 rw [← hw2] at hr0 hr1 hbw
 clear hw2
 go_wp2_with fail
 refine (hrun w2).mono ?_
 rintro e w3 ⟨rfl, rfl⟩
 obtain ⟨p0, p1, p2, p3, p4, p5, p6⟩ := two_stores hr0 hr1 hbw 8 t
 clear hrun hdg hlt
 go_wp2_with fail
 refine Reg.start (B := w.heap.size) (by kernel_rfl) ?_
 refine Reg.take (fun _ _ _ _ _ h => h) 0 _ 106 (.string s) rfl (by kernel_rfl) (by kernel_rfl) (by kernel_rfl) rfl (by kernel_rfl) (by kernel_rfl) (fun _ _ => Reg.mv rfl rfl) ?_
 refine Reg.take (fun _ _ _ _ _ h => h) 1 _ 107 (.int .i64 (k : Int)) rfl (by kernel_rfl) (by kernel_rfl) (by kernel_rfl) rfl (by kernel_rfl) (by kernel_rfl) (fun _ _ => Reg.mv rfl rfl) ?_
 refine Reg.take (fun _ _ _ _ _ h => h) 2 _ 108 (.int .i64 (k : Int)) rfl (by kernel_rfl) (by kernel_rfl) (by kernel_rfl) rfl (by kernel_rfl) (by kernel_rfl) (fun _ _ => Reg.mv rfl rfl) ?_
 refine Reg.take (fun _ _ _ _ _ h => h) 3 _ 109 (.int .i64 (m : Int)) rfl (by kernel_rfl) (by kernel_rfl) (by kernel_rfl) rfl (by kernel_rfl) (by kernel_rfl) (fun _ _ => Reg.mv rfl rfl) ?_
 refine Reg.take (fun _ _ _ _ _ h => h) 4 _ 110 (.int .i64 ((k + m : Nat) : Int)) rfl (by kernel_rfl) (by kernel_rfl) (by kernel_rfl) rfl (by kernel_rfl) (by kernel_rfl) (fun _ _ => Reg.adK rfl rfl rfl hwr) ?_
 refine Reg.take (fun _ _ _ _ _ h => h) 5 _ 111 (.string t) rfl (by kernel_rfl) (by kernel_rfl) (by kernel_rfl) rfl (by kernel_rfl) (by kernel_rfl) (fun _ _ => Reg.slS rfl rfl rfl rfl (by omega) hmk ht) ?_
 refine Reg.take (fun _ _ _ _ _ h => h) 6 _ 112 (.pointer (some ⟨w.heap.size + 1, 0, none⟩)) rfl (by kernel_rfl) (by kernel_rfl) (by kernel_rfl) rfl (by kernel_rfl) (by kernel_rfl) (fun _ _ => Reg.fa rfl rfl (.inl ⟨rfl, rfl⟩)) ?_
 refine Reg.onlyN 7 _ rfl (by kernel_rfl) rfl (by kernel_rfl) (by kernel_rfl) ⟨w3.drew.setCell ⟨w.heap.size + 1, 0, none⟩ (.int .i64 8), w.heap.size, Reg.st1S rfl rfl rfl p0 p1 (.inl ⟨_, _, rfl⟩) (by kernel_rfl), Nat.le_refl _, (Below.refl _ _).setCell (by simp) _, ?_⟩
 refine Reg.take (fun _ _ _ _ _ h => h) 8 _ 113 (.pointer (some ⟨w.heap.size + 1, 2, none⟩)) rfl (by kernel_rfl) (by kernel_rfl) (by kernel_rfl) rfl (by kernel_rfl) (by kernel_rfl) (fun _ _ => Reg.fa rfl rfl (.inr ⟨rfl, rfl⟩)) ?_
 refine Reg.onlyN 9 _ rfl (by kernel_rfl) rfl (by kernel_rfl) (by kernel_rfl) ⟨(w3.drew.setCell ⟨w.heap.size + 1, 0, none⟩ (.int .i64 8)).setCell ⟨w.heap.size + 1, 2, none⟩ (.string t), w.heap.size, Reg.st1S rfl rfl rfl p2 p3 (.inr ⟨_, rfl⟩) (by kernel_rfl), Nat.le_refl _, (Below.refl _ _).setCell (by simp) _, ?_⟩
 refine Reg.done (by kernel_rfl) ?_
 simp only [Reg.ov, Act.put, List.setIfInBounds_toArray, List.set_cons_succ, List.set_cons_zero]
 obtain ⟨w4, hw4⟩ : ∃ w4, (w3.drew.setCell ⟨w.heap.size + 1, 0, none⟩ (.int .i64 8)).setCell ⟨w.heap.size + 1, 2, none⟩ (.string t) = w4 := ⟨_, rfl⟩
 rw [hw4] at p4 p5 p6 ⊢
 clear hw4 p0 p1 p2 p3 hr0 hr1 hbw
 have hbw := p6
 have hr0 := p4
 have hr1 := p5
 clear p4 p5 p6
 obtain ⟨c0, c1, c2, c3⟩ := cells_four hr1
 obtain ⟨d0, d1, d2, d3⟩ := cells_four hr0
 have f0 := frozen_of_row w4 w.heap.size 0 _ _ hr0
 have f1 := frozen_of_row w4 w.heap.size 1 _ _ hr0
 have f2 := frozen_of_row w4 w.heap.size 2 _ _ hr0
 have f3 := frozen_of_row w4 w.heap.size 3 _ _ hr0
 go_wp2
 exact bodyPost_ret (v := .tuple #[tokV ⟨8, T, 0⟩ k, .int .i64 (((m) : Nat) : Int)]) (by unfold tokV; simp [results, Tryz.results44, go_sem, d0, d1, d2, d3, HTX.out]; try omega) rfl ⟨⟨_, _, rfl, (by rw [HN.out]; intro p h; cases h; exact ⟨rfl, rfl⟩), (by rw [HN.out]; intro h; cases h)⟩, four_set hbw _ _ _ _⟩
set_option maxRecDepth 100000 in
set_option maxHeartbeats 2000000 in
theorem next_name (s : ByteArray) (k : Nat) (hs : s.size ≤ 100000) (hk : k < s.size) (c : UInt8) (hx2 : ∀ h, s[k]'h = c) (u : List UInt8) (HU : Hid ((bts s).drop k = c :: u ∧ (bts s).drop (k + 1) = u)) (h10 : c ≠ 10) (h36 : c = 36) (w : World) : Calls Tryz.prog 44 #[.string s, .int .i64 (k : Int)] w fun e w' => AnsT (X.nextL (c :: u)) k e ∧ Below w.heap.size w w' := by
 have e10 : ((c.toNat : Int) == 10) = decide (c = 10) := u8_eq c 10
 rw [decide_eq_false h10] at e10
 have e36 : ((c.toNat : Int) == 36) = decide (c = 36) := u8_eq c 36
 rw [decide_eq_true h36] at e36
 have hr0 := two_old w (.cells #[.int .i64 0, .int .i64 0, .string ⟨#[]⟩, .int .i32 0] 58) (.cells #[.int .i64 0, .int .i64 (k : Int), .string ⟨#[]⟩, .int .i32 0] 58)
 have hr1 := two_new w (.cells #[.int .i64 0, .int .i64 0, .string ⟨#[]⟩, .int .i32 0] 58) (.cells #[.int .i64 0, .int .i64 (k : Int), .string ⟨#[]⟩, .int .i32 0] 58)
 have hbw := two_below w (.cells #[.int .i64 0, .int .i64 0, .string ⟨#[]⟩, .int .i32 0] 58) (.cells #[.int .i64 0, .int .i64 (k : Int), .string ⟨#[]⟩, .int .i32 0] 58)
 have HC : Hid (X.nextL (c :: u) = if (u.head?.map X.isL) = some true ∧ (u.takeWhile X.isLD).length ≤ 20 then some (⟨1, u.takeWhile X.isLD, 0⟩, 1 + (u.takeWhile X.isLD).length) else none) := hide (by
   unfold X.nextL
   simp only
   rw [if_neg h10, if_pos h36])
 clear h10 h36
 by_cases hlt : k + 1 < s.size
 · have hl : k + 1 < (bts s).length := hlt
   have hy := fun j hj h => idx_at (s := s) hl j hj h
   have HX : Hid (u = (bts s)[k + 1] :: (bts s).drop (k + 2)) := hide (by rw [← HU.out.2]; exact List.drop_eq_getElem_cons hl)
   generalize (bts s)[k + 1] = x at *
   have hy2 : ∀ h, s[((k : Int) + 1).toNat]'h = x := fun h => hy ((k : Int) + 1) (by omega) h
   have hy3 : ∀ h, s[k + 1]'h = x := fun h => hy ((k + 1 : Nat) : Int) rfl h
   clear hy
   have hla := letterR_any x ((w.alloc (.cells #[.int .i64 0, .int .i64 0, .string ⟨#[]⟩, .int .i32 0] 58)).alloc (.cells #[.int .i64 0, .int .i64 (k : Int), .string ⟨#[]⟩, .int .i32 0] 58))
   cases hlx : X.isL x with
   | true =>
     rw [hlx] at hla
     have hrun := fun w => run_any s ⟨#[]⟩ (k + 1) true hs (by decide) (by omega) w
     rw [runP_LD] at hrun
     have hcast : ((k + 1 : Nat) : Int) = (k : Int) + 1 := by omega
     rw [hcast] at hrun
     obtain ⟨m, hm⟩ : ∃ m, (((bts s).drop (k + 1)).takeWhile X.isLD).length = m := ⟨_, rfl⟩
     have hcut := cut_tw X.isLD s (k + 1) m hm
     have hmk : k + 1 + m ≤ s.size := by
       have h1 := X.takeWhile_le X.isLD ((bts s).drop (k + 1))
       rw [hm, List.length_drop, bts_len] at h1
       omega
     have hm1 : 1 ≤ m := by
       rw [← hm, HU.out.2, HX.out, List.takeWhile_cons_of_pos (by simp [X.isLD, hlx])]
       simp
     have HC2 : Hid (X.nextL (c :: u) = if m ≤ 20 then some (⟨1, (((bts s).drop (k + 1)).takeWhile X.isLD), 0⟩, 1 + m) else none) := hide (by
       rw [HC.out, ← hm, HU.out.2]
       have : u.head?.map X.isL = some true := by rw [HX.out]; simp [hlx]
       simp only [this, true_and])
     rw [hm] at hrun
     generalize ((bts s).drop (k + 1)).takeWhile X.isLD = T at *
     have HTX := hide hcut
     obtain ⟨t, ht⟩ : ∃ t, s.extract (k + 1) (k + 1 + m) = t := ⟨_, rfl⟩
     rw [ht] at HTX
     clear hm hcut HC HX HU hcast hlx
     have hw1 : IntKind.i64.wrap ((k : Int) + 1) = ((k + 1 : Nat) : Int) := by rw [IntKind.wrap_i64]; omega
     have hwr : IntKind.i64.wrap ((k : Int) + (1 + (m : Int))) = ((k + 1 + m : Nat) : Int) := by rw [IntKind.wrap_i64]; omega
     by_cases hok : m ≤ 20
     · have HN : Hid (X.nextL (c :: u) = some (⟨1, T, 0⟩, 1 + m)) := hide (by rw [HC2.out, if_pos hok])
       clear HC2
       go_enter Tryz.func44, Tryz.ntmps44
       go_wp2_with fail
       refine (hla).mono ?_
       rintro e w1 ⟨rfl, hww⟩
       rw [← hww] at hr0 hr1 hbw
       clear hww
       go_wp2_with fail
       refine (hrun w1).mono ?_
       rintro e w2 ⟨rfl, rfl⟩
       obtain ⟨p0, p1, p2, p3, p4, p5, p6⟩ := two_stores hr0 hr1 hbw 1 t
       clear hrun hla
       go_wp2_with fail
       refine Reg.start (B := w.heap.size) (by kernel_rfl) ?_
       refine Reg.take (fun _ _ _ _ _ h => h) 0 _ 66 (.string s) rfl (by kernel_rfl) (by kernel_rfl) (by kernel_rfl) rfl (by kernel_rfl) (by kernel_rfl) (fun _ _ => Reg.mv rfl rfl) ?_
       refine Reg.take (fun _ _ _ _ _ h => h) 1 _ 67 (.int .i64 (k : Int)) rfl (by kernel_rfl) (by kernel_rfl) (by kernel_rfl) rfl (by kernel_rfl) (by kernel_rfl) (fun _ _ => Reg.mv rfl rfl) ?_
       refine Reg.take (fun _ _ _ _ _ h => h) 2 _ 68 (.int .i64 ((k + 1 : Nat) : Int)) rfl (by kernel_rfl) (by kernel_rfl) (by kernel_rfl) rfl (by kernel_rfl) (by kernel_rfl) (fun _ _ => Reg.adK rfl rfl rfl hw1) ?_
       refine Reg.take (fun _ _ _ _ _ h => h) 3 _ 69 (.int .i64 (k : Int)) rfl (by kernel_rfl) (by kernel_rfl) (by kernel_rfl) rfl (by kernel_rfl) (by kernel_rfl) (fun _ _ => Reg.mv rfl rfl) ?_
       refine Reg.take (fun _ _ _ _ _ h => h) 4 _ 70 (.int .i64 (1 + (m : Int))) rfl (by kernel_rfl) (by kernel_rfl) (by kernel_rfl) rfl (by kernel_rfl) (by kernel_rfl) (fun _ _ => Reg.mv rfl rfl) ?_
       refine Reg.take (fun _ _ _ _ _ h => h) 5 _ 71 (.int .i64 ((k + 1 + m : Nat) : Int)) rfl (by kernel_rfl) (by kernel_rfl) (by kernel_rfl) rfl (by kernel_rfl) (by kernel_rfl) (fun _ _ => Reg.adK rfl rfl rfl hwr) ?_
       refine Reg.take (fun _ _ _ _ _ h => h) 6 _ 72 (.string t) rfl (by kernel_rfl) (by kernel_rfl) (by kernel_rfl) rfl (by kernel_rfl) (by kernel_rfl) (fun _ _ => Reg.slS rfl rfl rfl rfl (by omega) hmk ht) ?_
       refine Reg.take (fun _ _ _ _ _ h => h) 7 _ 73 (.pointer (some ⟨w.heap.size + 1, 0, none⟩)) rfl (by kernel_rfl) (by kernel_rfl) (by kernel_rfl) rfl (by kernel_rfl) (by kernel_rfl) (fun _ _ => Reg.fa rfl rfl (.inl ⟨rfl, rfl⟩)) ?_
       refine Reg.onlyN 8 _ rfl (by kernel_rfl) rfl (by kernel_rfl) (by kernel_rfl) ⟨w2.drew.setCell ⟨w.heap.size + 1, 0, none⟩ (.int .i64 1), w.heap.size, Reg.st1S rfl rfl rfl p0 p1 (.inl ⟨_, _, rfl⟩) (by kernel_rfl), Nat.le_refl _, (Below.refl _ _).setCell (by simp) _, ?_⟩
       refine Reg.take (fun _ _ _ _ _ h => h) 9 _ 74 (.pointer (some ⟨w.heap.size + 1, 2, none⟩)) rfl (by kernel_rfl) (by kernel_rfl) (by kernel_rfl) rfl (by kernel_rfl) (by kernel_rfl) (fun _ _ => Reg.fa rfl rfl (.inr ⟨rfl, rfl⟩)) ?_
       refine Reg.onlyN 10 _ rfl (by kernel_rfl) rfl (by kernel_rfl) (by kernel_rfl) ⟨(w2.drew.setCell ⟨w.heap.size + 1, 0, none⟩ (.int .i64 1)).setCell ⟨w.heap.size + 1, 2, none⟩ (.string t), w.heap.size, Reg.st1S rfl rfl rfl p2 p3 (.inr ⟨_, rfl⟩) (by kernel_rfl), Nat.le_refl _, (Below.refl _ _).setCell (by simp) _, ?_⟩
       refine Reg.done (by kernel_rfl) ?_
       simp only [Reg.ov, Act.put, List.setIfInBounds_toArray, List.set_cons_succ, List.set_cons_zero]
       obtain ⟨w4, hw4⟩ : ∃ w4, (w2.drew.setCell ⟨w.heap.size + 1, 0, none⟩ (.int .i64 1)).setCell ⟨w.heap.size + 1, 2, none⟩ (.string t) = w4 := ⟨_, rfl⟩
       rw [hw4] at p4 p5 p6 ⊢
       clear hw4 p0 p1 p2 p3 hr0 hr1 hbw
       have hbw := p6
       have hr0 := p4
       have hr1 := p5
       clear p4 p5 p6
       obtain ⟨c0, c1, c2, c3⟩ := cells_four hr1
       obtain ⟨d0, d1, d2, d3⟩ := cells_four hr0
       have f0 := frozen_of_row w4 w.heap.size 0 _ _ hr0
       have f1 := frozen_of_row w4 w.heap.size 1 _ _ hr0
       have f2 := frozen_of_row w4 w.heap.size 2 _ _ hr0
       have f3 := frozen_of_row w4 w.heap.size 3 _ _ hr0
       go_wp2
       exact bodyPost_ret (v := .tuple #[tokV ⟨1, T, 0⟩ k, .int .i64 (((1 + m) : Nat) : Int)]) (by unfold tokV; simp [results, Tryz.results44, go_sem, d0, d1, d2, d3, HTX.out]; try omega) rfl ⟨⟨_, _, rfl, (by rw [HN.out]; intro p h; cases h; exact ⟨rfl, rfl⟩), (by rw [HN.out]; intro h; cases h)⟩, four_set hbw _ _ _ _⟩
     · have HN : Hid (X.nextL (c :: u) = none) := hide (by rw [HC2.out, if_neg hok])
       clear HC2 hwr hw1 ht HTX
       go_enter Tryz.func44, Tryz.ntmps44
       go_wp2_with fail
       refine (hla).mono ?_
       rintro e w1 ⟨rfl, hww⟩
       rw [← hww] at hr0 hr1 hbw
       clear hww
       go_wp2_with fail
       refine (hrun w1).mono ?_
       rintro e w2 ⟨rfl, rfl⟩
       clear hrun hla
       obtain ⟨c0, c1, c2, c3⟩ := cells_four hr1
       obtain ⟨d0, d1, d2, d3⟩ := cells_four hr0
       have f0 := frozen_of_row w2 w.heap.size 0 _ _ hr0
       have f1 := frozen_of_row w2 w.heap.size 1 _ _ hr0
       have f2 := frozen_of_row w2 w.heap.size 2 _ _ hr0
       have f3 := frozen_of_row w2 w.heap.size 3 _ _ hr0
       go_wp2
       exact bodyPost_ret (v := .tuple #[tokV ⟨0, [], 0⟩ k, .int .i64 ((0 : Nat) : Int)]) (by unfold tokV; simp [results, Tryz.results44, go_sem, d0, d1, d2, d3]) rfl ⟨⟨_, _, rfl, (by rw [HN.out]; intro p h; cases h), fun _ => rfl⟩, four_set hbw _ _ _ _⟩
   | false =>
     rw [hlx] at hla
     have HN : Hid (X.nextL (c :: u) = none) := hide (by rw [HC.out, if_neg (by rw [HX.out]; simp [hlx])])
     clear HC HX HU hlx
     go_enter Tryz.func44, Tryz.ntmps44
     go_wp2_with fail
     refine (hla).mono ?_
     rintro e w1 ⟨rfl, hww⟩
     rw [← hww] at hr0 hr1 hbw
     clear hww
     clear hla
     obtain ⟨c0, c1, c2, c3⟩ := cells_four hr1
     obtain ⟨d0, d1, d2, d3⟩ := cells_four hr0
     have f0 := frozen_of_row w1 w.heap.size 0 _ _ hr0
     have f1 := frozen_of_row w1 w.heap.size 1 _ _ hr0
     have f2 := frozen_of_row w1 w.heap.size 2 _ _ hr0
     have f3 := frozen_of_row w1 w.heap.size 3 _ _ hr0
     go_wp2
     exact bodyPost_ret (v := .tuple #[tokV ⟨0, [], 0⟩ k, .int .i64 ((0 : Nat) : Int)]) (by unfold tokV; simp [results, Tryz.results44, go_sem, d0, d1, d2, d3]) rfl ⟨⟨_, _, rfl, (by rw [HN.out]; intro p h; cases h), fun _ => rfl⟩, four_set hbw _ _ _ _⟩
 · have HN : Hid (X.nextL (c :: u) = none) := hide (by
     rw [HC.out, if_neg]
     rw [← HU.out.2, List.drop_eq_nil_of_le (by rw [bts_len]; omega)]
     simp)
   clear HC HU hr0 hr1 hbw
   go_enter Tryz.func44, Tryz.ntmps44
   go_wp2
   exact bodyPost_ret (v := .tuple #[tokV ⟨0, [], 0⟩ k, .int .i64 ((0 : Nat) : Int)]) (by unfold tokV; simp [results, Tryz.results44, go_sem]) rfl ⟨⟨_, _, rfl, (by rw [HN.out]; intro p h; cases h), fun _ => rfl⟩, two_below w _ _⟩
set_option maxRecDepth 100000 in
set_option maxHeartbeats 2000000 in
theorem next_prop (s : ByteArray) (k : Nat) (hs : s.size ≤ 100000) (hk : k < s.size) (c : UInt8) (hx2 : ∀ h, s[k]'h = c) (u : List UInt8) (HU : Hid ((bts s).drop k = c :: u ∧ (bts s).drop (k + 1) = u)) (h10 : c ≠ 10) (h36 : c ≠ 36) (hd : X.isD c = false) (hl : X.isL c = false) (h34 : c ≠ 34) (h39 : c ≠ 39) (h123 : c = 123) (w : World) : Calls Tryz.prog 44 #[.string s, .int .i64 (k : Int)] w fun e w' => AnsT (X.nextL (c :: u)) k e ∧ Below w.heap.size w w' := by
 have e10 : ((c.toNat : Int) == 10) = decide (c = 10) := u8_eq c 10
 rw [decide_eq_false h10] at e10
 have e36 : ((c.toNat : Int) == 36) = decide (c = 36) := u8_eq c 36
 rw [decide_eq_false h36] at e36
 have e34 : ((c.toNat : Int) == 34) = decide (c = 34) := u8_eq c 34
 rw [decide_eq_false h34] at e34
 have e39 : ((c.toNat : Int) == 39) = decide (c = 39) := u8_eq c 39
 rw [decide_eq_false h39] at e39
 have e123 : ((c.toNat : Int) == 123) = decide (c = 123) := u8_eq c 123
 rw [decide_eq_true h123] at e123
 have hdg := digitR_any c ((w.alloc (.cells #[.int .i64 0, .int .i64 0, .string ⟨#[]⟩, .int .i32 0] 58)).alloc (.cells #[.int .i64 0, .int .i64 (k : Int), .string ⟨#[]⟩, .int .i32 0] 58))
 rw [hd] at hdg
 have hlt := fun w => letterR_any c w
 rw [hl] at hlt
 have hr0 := two_old w (.cells #[.int .i64 0, .int .i64 0, .string ⟨#[]⟩, .int .i32 0] 58) (.cells #[.int .i64 0, .int .i64 (k : Int), .string ⟨#[]⟩, .int .i32 0] 58)
 have hr1 := two_new w (.cells #[.int .i64 0, .int .i64 0, .string ⟨#[]⟩, .int .i32 0] 58) (.cells #[.int .i64 0, .int .i64 (k : Int), .string ⟨#[]⟩, .int .i32 0] 58)
 have hbw := two_below w (.cells #[.int .i64 0, .int .i64 0, .string ⟨#[]⟩, .int .i32 0] 58) (.cells #[.int .i64 0, .int .i64 (k : Int), .string ⟨#[]⟩, .int .i32 0] 58)
 have hrun := fun w => run_any s ⟨#[]⟩ (k + 1) false hs (by decide) (by omega) w
 rw [runP_L] at hrun
 have hcast : ((k + 1 : Nat) : Int) = (k : Int) + 1 := by omega
 rw [hcast] at hrun
 obtain ⟨m, hm⟩ : ∃ m, (((bts s).drop (k + 1)).takeWhile X.isL).length = m := ⟨_, rfl⟩
 have hcut := cut_tw X.isL s (k + 1) m hm
 have hmk : k + 1 + m ≤ s.size := by
   have h1 := X.takeWhile_le X.isL ((bts s).drop (k + 1))
   rw [hm, List.length_drop, bts_len] at h1
   omega
 have HC : Hid (X.nextL (c :: u) = if 1 ≤ m ∧ ((bts s).drop (k + 1 + m)).head? = some 125 then some (⟨5, (((bts s).drop (k + 1)).takeWhile X.isL), 0⟩, m + 2) else none) := hide (by
   have e : (bts s).drop (k + 1 + m) = u.drop m := by rw [← HU.out.2, List.drop_drop]
   rw [e, ← hm, HU.out.2]
   unfold X.nextL
   simp only
   rw [if_neg h10, if_neg h36, if_neg (by rw [hd]; decide), if_neg (by rw [hl]; decide), if_neg h34, if_neg h39, if_pos h123])
 rw [hm] at hrun
 generalize ((bts s).drop (k + 1)).takeWhile X.isL = T at *
 have HTX := hide hcut
 obtain ⟨t, ht⟩ : ∃ t, s.extract (k + 1) (k + 1 + m) = t := ⟨_, rfl⟩
 rw [ht] at HTX
 clear hm hcut HU hcast hd hl h10 h36 h34 h39 h123
 have hw1 : IntKind.i64.wrap ((k : Int) + 1) = ((k + 1 : Nat) : Int) := by rw [IntKind.wrap_i64]; omega
 have hwr : IntKind.i64.wrap (((k + 1 : Nat) : Int) + (m : Int)) = ((k + 1 + m : Nat) : Int) := by rw [IntKind.wrap_i64]; omega
 by_cases hlt2 : k + 1 + m < s.size
 · have hll : k + 1 + m < (bts s).length := hlt2
   have hy := fun j hj h => idx_at (s := s) hll j hj h
   rw [List.drop_eq_getElem_cons hll, List.head?_cons] at HC
   generalize (bts s)[k + 1 + m] = x at *
   have hy2 : ∀ h, s[((k : Int) + 1 + (m : Int)).toNat]'h = x := fun h => hy ((k : Int) + 1 + (m : Int)) (by omega) h
   clear hy
   have e125 : ((x.toNat : Int) == 125) = decide (x = 125) := u8_eq x 125
   have n125 : ((x.toNat : Int) != 125) = !decide (x = 125) := by simp only [bne, e125]
   clear e125
   by_cases hok : 1 ≤ m ∧ x = 125
   · have HN : Hid (X.nextL (c :: u) = some (⟨5, T, 0⟩, m + 2)) := hide (by rw [HC.out, if_pos ⟨hok.1, by rw [hok.2]⟩])
     rw [decide_eq_true hok.2] at n125
     have hm1 := hok.1
     clear HC hok
     go_enter Tryz.func44, Tryz.ntmps44
     go_wp2_with fail
     refine (hdg).mono ?_
     rintro e w1 ⟨rfl, hww⟩
     rw [← hww] at hr0 hr1 hbw
     clear hww
     go_wp2_with fail
     refine (hlt _).mono ?_
     rintro e w2 ⟨rfl, hwx⟩
     rw [← hwx] at hr0 hr1 hbw
     clear hwx
     go_wp2_with fail
     refine (hrun w2).mono ?_
     rintro e w3 ⟨rfl, rfl⟩
     obtain ⟨p0, p1, p2, p3, p4, p5, p6⟩ := two_stores hr0 hr1 hbw 5 t
     clear hrun hdg hlt
     go_wp2_with fail
     refine Reg.start (B := w.heap.size) (by kernel_rfl) ?_
     refine Reg.take (fun _ _ _ _ _ h => h) 0 _ 158 (.string s) rfl (by kernel_rfl) (by kernel_rfl) (by kernel_rfl) rfl (by kernel_rfl) (by kernel_rfl) (fun _ _ => Reg.mv rfl rfl) ?_
     refine Reg.take (fun _ _ _ _ _ h => h) 1 _ 159 (.int .i64 (k : Int)) rfl (by kernel_rfl) (by kernel_rfl) (by kernel_rfl) rfl (by kernel_rfl) (by kernel_rfl) (fun _ _ => Reg.mv rfl rfl) ?_
     refine Reg.take (fun _ _ _ _ _ h => h) 2 _ 160 (.int .i64 ((k + 1 : Nat) : Int)) rfl (by kernel_rfl) (by kernel_rfl) (by kernel_rfl) rfl (by kernel_rfl) (by kernel_rfl) (fun _ _ => Reg.adK rfl rfl rfl hw1) ?_
     refine Reg.take (fun _ _ _ _ _ h => h) 3 _ 161 (.int .i64 (k : Int)) rfl (by kernel_rfl) (by kernel_rfl) (by kernel_rfl) rfl (by kernel_rfl) (by kernel_rfl) (fun _ _ => Reg.mv rfl rfl) ?_
     refine Reg.take (fun _ _ _ _ _ h => h) 4 _ 162 (.int .i64 ((k + 1 : Nat) : Int)) rfl (by kernel_rfl) (by kernel_rfl) (by kernel_rfl) rfl (by kernel_rfl) (by kernel_rfl) (fun _ _ => Reg.adK rfl rfl rfl hw1) ?_
     refine Reg.take (fun _ _ _ _ _ h => h) 5 _ 163 (.int .i64 (m : Int)) rfl (by kernel_rfl) (by kernel_rfl) (by kernel_rfl) rfl (by kernel_rfl) (by kernel_rfl) (fun _ _ => Reg.mv rfl rfl) ?_
     refine Reg.take (fun _ _ _ _ _ h => h) 6 _ 164 (.int .i64 ((k + 1 + m : Nat) : Int)) rfl (by kernel_rfl) (by kernel_rfl) (by kernel_rfl) rfl (by kernel_rfl) (by kernel_rfl) (fun _ _ => Reg.adK rfl rfl rfl hwr) ?_
     refine Reg.take (fun _ _ _ _ _ h => h) 7 _ 165 (.string t) rfl (by kernel_rfl) (by kernel_rfl) (by kernel_rfl) rfl (by kernel_rfl) (by kernel_rfl) (fun _ _ => Reg.slS rfl rfl rfl rfl (by omega) hmk ht) ?_
     refine Reg.take (fun _ _ _ _ _ h => h) 8 _ 166 (.pointer (some ⟨w.heap.size + 1, 0, none⟩)) rfl (by kernel_rfl) (by kernel_rfl) (by kernel_rfl) rfl (by kernel_rfl) (by kernel_rfl) (fun _ _ => Reg.fa rfl rfl (.inl ⟨rfl, rfl⟩)) ?_
     refine Reg.onlyN 9 _ rfl (by kernel_rfl) rfl (by kernel_rfl) (by kernel_rfl) ⟨w3.drew.setCell ⟨w.heap.size + 1, 0, none⟩ (.int .i64 5), w.heap.size, Reg.st1S rfl rfl rfl p0 p1 (.inl ⟨_, _, rfl⟩) (by kernel_rfl), Nat.le_refl _, (Below.refl _ _).setCell (by simp) _, ?_⟩
     refine Reg.take (fun _ _ _ _ _ h => h) 10 _ 167 (.pointer (some ⟨w.heap.size + 1, 2, none⟩)) rfl (by kernel_rfl) (by kernel_rfl) (by kernel_rfl) rfl (by kernel_rfl) (by kernel_rfl) (fun _ _ => Reg.fa rfl rfl (.inr ⟨rfl, rfl⟩)) ?_
     refine Reg.onlyN 11 _ rfl (by kernel_rfl) rfl (by kernel_rfl) (by kernel_rfl) ⟨(w3.drew.setCell ⟨w.heap.size + 1, 0, none⟩ (.int .i64 5)).setCell ⟨w.heap.size + 1, 2, none⟩ (.string t), w.heap.size, Reg.st1S rfl rfl rfl p2 p3 (.inr ⟨_, rfl⟩) (by kernel_rfl), Nat.le_refl _, (Below.refl _ _).setCell (by simp) _, ?_⟩
     refine Reg.done (by kernel_rfl) ?_
     simp only [Reg.ov, Act.put, List.setIfInBounds_toArray, List.set_cons_succ, List.set_cons_zero]
     obtain ⟨w4, hw4⟩ : ∃ w4, (w3.drew.setCell ⟨w.heap.size + 1, 0, none⟩ (.int .i64 5)).setCell ⟨w.heap.size + 1, 2, none⟩ (.string t) = w4 := ⟨_, rfl⟩
     rw [hw4] at p4 p5 p6 ⊢
     clear hw4 p0 p1 p2 p3 hr0 hr1 hbw
     have hbw := p6
     have hr0 := p4
     have hr1 := p5
     clear p4 p5 p6
     obtain ⟨c0, c1, c2, c3⟩ := cells_four hr1
     obtain ⟨d0, d1, d2, d3⟩ := cells_four hr0
     have f0 := frozen_of_row w4 w.heap.size 0 _ _ hr0
     have f1 := frozen_of_row w4 w.heap.size 1 _ _ hr0
     have f2 := frozen_of_row w4 w.heap.size 2 _ _ hr0
     have f3 := frozen_of_row w4 w.heap.size 3 _ _ hr0
     go_wp2
     exact bodyPost_ret (v := .tuple #[tokV ⟨5, T, 0⟩ k, .int .i64 (((m + 2) : Nat) : Int)]) (by unfold tokV; simp [results, Tryz.results44, go_sem, d0, d1, d2, d3, HTX.out]; try omega) rfl ⟨⟨_, _, rfl, (by rw [HN.out]; intro p h; cases h; exact ⟨rfl, rfl⟩), (by rw [HN.out]; intro h; cases h)⟩, four_set hbw _ _ _ _⟩
   · have HN : Hid (X.nextL (c :: u) = none) := hide (by rw [HC.out, if_neg (fun h => hok ⟨h.1, by simpa using h.2⟩)])
     clear HC ht HTX hw1 hwr
     have hz : ¬ 1 ≤ m ∨ (1 ≤ m ∧ decide (x = 125) = false) := by
       by_cases h : 1 ≤ m
       · exact .inr ⟨h, decide_eq_false (fun h1 => hok ⟨h, h1⟩)⟩
       · exact .inl h
     clear hok
     rcases hz with hz | ⟨hz, hz1⟩
     · clear n125
       go_enter Tryz.func44, Tryz.ntmps44
       go_wp2_with fail
       refine (hdg).mono ?_
       rintro e w1 ⟨rfl, hww⟩
       rw [← hww] at hr0 hr1 hbw
       clear hww
       go_wp2_with fail
       refine (hlt _).mono ?_
       rintro e w2 ⟨rfl, hwx⟩
       rw [← hwx] at hr0 hr1 hbw
       clear hwx
       go_wp2_with fail
       refine (hrun w2).mono ?_
       rintro e w3 ⟨rfl, rfl⟩
       clear hrun hdg hlt
       obtain ⟨c0, c1, c2, c3⟩ := cells_four hr1
       obtain ⟨d0, d1, d2, d3⟩ := cells_four hr0
       have f0 := frozen_of_row w3 w.heap.size 0 _ _ hr0
       have f1 := frozen_of_row w3 w.heap.size 1 _ _ hr0
       have f2 := frozen_of_row w3 w.heap.size 2 _ _ hr0
       have f3 := frozen_of_row w3 w.heap.size 3 _ _ hr0
       go_wp2
       exact bodyPost_ret (v := .tuple #[tokV ⟨0, [], 0⟩ k, .int .i64 ((0 : Nat) : Int)]) (by unfold tokV; simp [results, Tryz.results44, go_sem, d0, d1, d2, d3]) rfl ⟨⟨_, _, rfl, (by rw [HN.out]; intro p h; cases h), fun _ => rfl⟩, four_set hbw _ _ _ _⟩
     · rw [hz1] at n125
       clear hz1
       go_enter Tryz.func44, Tryz.ntmps44
       go_wp2_with fail
       refine (hdg).mono ?_
       rintro e w1 ⟨rfl, hww⟩
       rw [← hww] at hr0 hr1 hbw
       clear hww
       go_wp2_with fail
       refine (hlt _).mono ?_
       rintro e w2 ⟨rfl, hwx⟩
       rw [← hwx] at hr0 hr1 hbw
       clear hwx
       go_wp2_with fail
       refine (hrun w2).mono ?_
       rintro e w3 ⟨rfl, rfl⟩
       clear hrun hdg hlt
       obtain ⟨c0, c1, c2, c3⟩ := cells_four hr1
       obtain ⟨d0, d1, d2, d3⟩ := cells_four hr0
       have f0 := frozen_of_row w3 w.heap.size 0 _ _ hr0
       have f1 := frozen_of_row w3 w.heap.size 1 _ _ hr0
       have f2 := frozen_of_row w3 w.heap.size 2 _ _ hr0
       have f3 := frozen_of_row w3 w.heap.size 3 _ _ hr0
       go_wp2
       exact bodyPost_ret (v := .tuple #[tokV ⟨0, [], 0⟩ k, .int .i64 ((0 : Nat) : Int)]) (by unfold tokV; simp [results, Tryz.results44, go_sem, d0, d1, d2, d3]) rfl ⟨⟨_, _, rfl, (by rw [HN.out]; intro p h; cases h), fun _ => rfl⟩, four_set hbw _ _ _ _⟩
 · have HN : Hid (X.nextL (c :: u) = none) := hide (by
     rw [HC.out, if_neg]
     rw [List.drop_eq_nil_of_le (by rw [bts_len]; omega)]
     simp)
   clear HC ht HTX hw1 hwr
   go_enter Tryz.func44, Tryz.ntmps44
   go_wp2_with fail
   refine (hdg).mono ?_
   rintro e w1 ⟨rfl, hww⟩
   rw [← hww] at hr0 hr1 hbw
   clear hww
   go_wp2_with fail
   refine (hlt _).mono ?_
   rintro e w2 ⟨rfl, hwx⟩
   rw [← hwx] at hr0 hr1 hbw
   clear hwx
   go_wp2_with fail
   refine (hrun w2).mono ?_
   rintro e w3 ⟨rfl, rfl⟩
   clear hrun hdg hlt
   obtain ⟨c0, c1, c2, c3⟩ := cells_four hr1
   obtain ⟨d0, d1, d2, d3⟩ := cells_four hr0
   have f0 := frozen_of_row w3 w.heap.size 0 _ _ hr0
   have f1 := frozen_of_row w3 w.heap.size 1 _ _ hr0
   have f2 := frozen_of_row w3 w.heap.size 2 _ _ hr0
   have f3 := frozen_of_row w3 w.heap.size 3 _ _ hr0
   go_wp2
   all_goals exact bodyPost_ret (v := .tuple #[tokV ⟨0, [], 0⟩ k, .int .i64 ((0 : Nat) : Int)]) (by unfold tokV; simp [results, Tryz.results44, go_sem, d0, d1, d2, d3]) rfl ⟨⟨_, _, rfl, (by rw [HN.out]; intro p h; cases h), fun _ => rfl⟩, four_set hbw _ _ _ _⟩
end Go.Proofs.YtamhjnemmdcniaaGreatDoor
