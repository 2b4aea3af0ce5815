/- The reference of stage 6: next at a sign. -/
import Derived.Test.YtamhjnemmdcniaaGreatDoorVRg
namespace Go.Proofs.YtamhjnemmdcniaaGreatDoor
open Go.RowKit
set_option maxRecDepth 100000 in
set_option maxHeartbeats 2000000 in
theorem next_sign (s : ByteArray) (k : Nat) (hs : s.size ≤ 100000) (hk : k < s.size) (c : UInt8) (hx2 : ∀ h, s[k]'h = c) (u : List UInt8) (HU : Hid ((bts s).drop k = c :: u ∧ (bts s).drop (k + 1) = u)) (h10 : c ≠ 10) (h36 : c ≠ 36) (hd : X.isD c = false) (hl : X.isL c = false) (h34 : c ≠ 34) (h39 : c ≠ 39) (h123 : c ≠ 123) (hp : ¬ ((c = 62 ∧ u.head? = some 60) ∨ (c = 60 ∧ u.head? = some 62))) (hns : c ∈ X.signs) (w : World) : Calls Tryz.prog 44 #[.string s, .int .i64 (k : Int)] w fun e w' => AnsT (X.nextL (c :: u)) k e ∧ Below w.heap.size w w' := by
 have e10 : ((c.toNat : Int) == 10) = decide (c = 10) := u8_eq c 10
 rw [decide_eq_false h10] at e10
 have e36 : ((c.toNat : Int) == 36) = decide (c = 36) := u8_eq c 36
 rw [decide_eq_false h36] at e36
 have e34 : ((c.toNat : Int) == 34) = decide (c = 34) := u8_eq c 34
 rw [decide_eq_false h34] at e34
 have e39 : ((c.toNat : Int) == 39) = decide (c = 39) := u8_eq c 39
 rw [decide_eq_false h39] at e39
 have e123 : ((c.toNat : Int) == 123) = decide (c = 123) := u8_eq c 123
 rw [decide_eq_false h123] at e123
 have hdg := digitR_any c ((w.alloc (.cells #[.int .i64 0, .int .i64 0, .string ⟨#[]⟩, .int .i32 0] 58)).alloc (.cells #[.int .i64 0, .int .i64 (k : Int), .string ⟨#[]⟩, .int .i32 0] 58))
 rw [hd] at hdg
 have hlt := fun w => letterR_any c w
 rw [hl] at hlt
 have hr0 := two_old w (.cells #[.int .i64 0, .int .i64 0, .string ⟨#[]⟩, .int .i32 0] 58) (.cells #[.int .i64 0, .int .i64 (k : Int), .string ⟨#[]⟩, .int .i32 0] 58)
 have hr1 := two_new w (.cells #[.int .i64 0, .int .i64 0, .string ⟨#[]⟩, .int .i32 0] 58) (.cells #[.int .i64 0, .int .i64 (k : Int), .string ⟨#[]⟩, .int .i32 0] 58)
 have hbw := two_below w (.cells #[.int .i64 0, .int .i64 0, .string ⟨#[]⟩, .int .i32 0] 58) (.cells #[.int .i64 0, .int .i64 (k : Int), .string ⟨#[]⟩, .int .i32 0] 58)
 have HN : Hid (X.nextL (c :: u) = some (⟨6, [c], 0⟩, 1)) := hide (by
   unfold X.nextL
   simp only
   rw [if_neg h10, if_neg h36, if_neg (by rw [hd]; decide), if_neg (by rw [hl]; decide), if_neg h34, if_neg h39, if_neg h123, if_neg hp, if_pos hns])
 have hqq : k + 1 < s.size → ∃ t2, s.extract k ((k : Int) + 2).toNat = t2 ∧ (t2.toList == [62, 60]) = false ∧ (t2.toList == [60, 62]) = false := by
   intro hlt2
   refine ⟨_, rfl, ?_⟩
   have hcu := cut_bts s k (k + 2)
   rw [Nat.add_sub_cancel_left, HU.out.1] at hcu
   have htl : (s.extract k ((k : Int) + 2).toNat).toList = (c :: u).take 2 := (ByteArray.toList_eq _).trans hcu
   rw [htl]
   have h2 := congrArg List.length HU.out.2
   rw [List.length_drop, bts_len] at h2
   cases u with
   | nil => simp at h2; omega
   | cons x v =>
     constructor
     · rw [beq_eq_false_iff_ne]
       intro h
       simp at h
       exact hp (.inl ⟨h.1, by simp [h.2]⟩)
     · rw [beq_eq_false_iff_ne]
       intro h
       simp at h
       exact hp (.inr ⟨h.1, by simp [h.2]⟩)
 obtain ⟨j0, hj0, hje⟩ := List.getElem_of_mem hns
 have HJ : Hid ((∀ j (h : j < X.signs.length), j = j0 → c = X.signs[j]) ∧ ∀ j (h : j < X.signs.length), ¬ j = j0 → c ≠ X.signs[j]) := hide ⟨fun j h e => by subst e; exact hje.symm, fun j h hne e => hne (signs_apart j j0 h hj0 (e.symm.trans hje.symm))⟩
 have HJ2 : Hid (j0 < 13) := hide hj0
 have hcu : s.extract k (k + 1) = ⟨[c].toArray⟩ := by
   have hl : k < (bts s).length := hk
   have e := cut_one hl
   have h1 := List.drop_eq_getElem_cons hl
   rw [HU.out.1] at h1
   rw [e, (List.cons.inj h1).1]
 obtain ⟨t, ht⟩ : ∃ t, s.extract k (k + 1) = t := ⟨_, rfl⟩
 have HTX : Hid (t = ⟨[c].toArray⟩) := hide (ht.symm.trans hcu)
 have hw1 : IntKind.i64.wrap ((k : Int) + 1) = ((k + 1 : Nat) : Int) := by rw [IntKind.wrap_i64]; omega
 clear hd hl h10 h36 h34 h39 h123 HU hp hns hj0 hje hcu
 by_cases hlt2 : k + 1 < s.size
 · obtain ⟨t2, ht2, hq1, hq2⟩ := hqq hlt2
   clear hqq
   go_enter Tryz.func44, Tryz.ntmps44
   go_wp2_with fail
   refine (hdg).mono ?_
   rintro e w1 ⟨rfl, hww⟩
   rw [← hww] at hr0 hr1 hbw
   clear hww
   go_wp2_with fail
   refine (hlt _).mono ?_
   rintro e w2 ⟨rfl, hwx⟩
   rw [← hwx] at hr0 hr1 hbw
   clear hwx
   clear hdg hlt
   go_wp2
   go_loopw [8, 10] (fun n i wr => ∃ j : Nat, i = .int .i64 (j : Int) ∧ j ≤ 13 ∧ Hid ((j ≤ j0 ∧ n = .int .i64 0 ∧ wr.heap[w.heap.size + 1]? = some (.cells #[.int .i64 0, .int .i64 (k : Int), .string ⟨#[]⟩, .int .i32 0] 58)) ∨ (j0 < j ∧ n = .int .i64 1 ∧ wr.heap[w.heap.size + 1]? = some (.cells #[.int .i64 6, .int .i64 (k : Int), .string t, .int .i32 0] 58))) ∧ wr.heap[w.heap.size]? = some (.cells #[.int .i64 0, .int .i64 0, .string ⟨#[]⟩, .int .i32 0] 58) ∧ Below w.heap.size w wr) (fun _ i _ => 13 - (intOf i).toNat)
   case atStart => exact ⟨0, rfl, by omega, hide (.inl ⟨Nat.zero_le _, rfl, hr1⟩), hr0, hbw⟩
   case round =>
     obtain ⟨j, rfl, hj, HS, hr0, hbw⟩ := hrel
     clear hr1
     by_cases hj2 : j < 13
     · by_cases hjj : j = j0
       · have hne := HJ.out.1 j hj2 hjj
         have hjl : j ≤ j0 := by omega
         have hjg : j0 ≤ j := by omega
         clear hjj
         obtain ⟨d, hdd⟩ : ∃ d, X.signs[j]'hj2 = d := ⟨_, rfl⟩
         rw [hdd] at hne
         have hs2 : ∀ h, (⟨#[91, 93, 40, 41, 124, 42, 43, 63, 46, 94, 45, 58, 61]⟩ : ByteArray)[j]'h = d := fun h => (sign_at j hj2 h).trans hdd
         clear hdd
         have hcd := u8_eq c d
         rw [decide_eq_true hne] at hcd
         clear hne
         have HS2 : Hid (u8 = .int .i64 0 ∧ wr.heap[w.heap.size + 1]? = some (.cells #[.int .i64 0, .int .i64 (k : Int), .string ⟨#[]⟩, .int .i32 0] 58)) := hide (HS.out.elim (fun h => h.2) (fun h => by omega))
         clear HS
         have hr1 := HS2.out.2
         obtain ⟨p0, p1, p2, p3, p4, p5, p6⟩ := two_stores hr0 hr1 hbw 6 t
         go_wp2_with fail
         refine Reg.start (B := w.heap.size) (by kernel_rfl) ?_
         refine Reg.take (fun _ _ _ _ _ h => h) 0 _ 27 (.string s) rfl (by kernel_rfl) (by kernel_rfl) (by kernel_rfl) rfl (by kernel_rfl) (by kernel_rfl) (fun _ _ => Reg.mv rfl rfl) ?_
         refine Reg.take (fun _ _ _ _ _ h => h) 1 _ 28 (.int .i64 (k : Int)) rfl (by kernel_rfl) (by kernel_rfl) (by kernel_rfl) rfl (by kernel_rfl) (by kernel_rfl) (fun _ _ => Reg.mv rfl rfl) ?_
         refine Reg.take (fun _ _ _ _ _ h => h) 2 _ 29 (.int .i64 (k : Int)) rfl (by kernel_rfl) (by kernel_rfl) (by kernel_rfl) rfl (by kernel_rfl) (by kernel_rfl) (fun _ _ => Reg.mv rfl rfl) ?_
         refine Reg.take (fun _ _ _ _ _ h => h) 3 _ 30 (.int .i64 ((k + 1 : Nat) : Int)) rfl (by kernel_rfl) (by kernel_rfl) (by kernel_rfl) rfl (by kernel_rfl) (by kernel_rfl) (fun _ _ => Reg.adK rfl rfl rfl hw1) ?_
         refine Reg.take (fun _ _ _ _ _ h => h) 4 _ 31 (.string t) rfl (by kernel_rfl) (by kernel_rfl) (by kernel_rfl) rfl (by kernel_rfl) (by kernel_rfl) (fun _ _ => Reg.slS rfl rfl rfl rfl (by omega) (by omega) ht) ?_
         refine Reg.take (fun _ _ _ _ _ h => h) 5 _ 32 (.pointer (some ⟨w.heap.size + 1, 0, none⟩)) rfl (by kernel_rfl) (by kernel_rfl) (by kernel_rfl) rfl (by kernel_rfl) (by kernel_rfl) (fun _ _ => Reg.fa rfl rfl (.inl ⟨rfl, rfl⟩)) ?_
         refine Reg.onlyN 6 _ rfl (by kernel_rfl) rfl (by kernel_rfl) (by kernel_rfl) ⟨wr.drew.setCell ⟨w.heap.size + 1, 0, none⟩ (.int .i64 6), w.heap.size, Reg.st1S rfl rfl rfl p0 p1 (.inl ⟨_, _, rfl⟩) (by kernel_rfl), Nat.le_refl _, (Below.refl _ _).setCell (by simp) _, ?_⟩
         refine Reg.take (fun _ _ _ _ _ h => h) 7 _ 33 (.pointer (some ⟨w.heap.size + 1, 2, none⟩)) rfl (by kernel_rfl) (by kernel_rfl) (by kernel_rfl) rfl (by kernel_rfl) (by kernel_rfl) (fun _ _ => Reg.fa rfl rfl (.inr ⟨rfl, rfl⟩)) ?_
         refine Reg.onlyN 8 _ rfl (by kernel_rfl) rfl (by kernel_rfl) (by kernel_rfl) ⟨(wr.drew.setCell ⟨w.heap.size + 1, 0, none⟩ (.int .i64 6)).setCell ⟨w.heap.size + 1, 2, none⟩ (.string t), w.heap.size, Reg.st1S rfl rfl rfl p2 p3 (.inr ⟨_, rfl⟩) (by kernel_rfl), Nat.le_refl _, (Below.refl _ _).setCell (by simp) _, ?_⟩
         refine Reg.done (by kernel_rfl) ?_
         simp only [Reg.ov, Act.put, List.setIfInBounds_toArray, List.set_cons_succ, List.set_cons_zero]
         obtain ⟨w4, hw4⟩ : ∃ w4, (wr.drew.setCell ⟨w.heap.size + 1, 0, none⟩ (.int .i64 6)).setCell ⟨w.heap.size + 1, 2, none⟩ (.string t) = w4 := ⟨_, rfl⟩
         rw [hw4] at p4 p5 p6 ⊢
         clear hw4 p0 p1 p2 p3 hr0 hr1 hbw
         have HF := hide p5
         clear p5
         go_wp2
         go_roundw
         case rel => exact ⟨j + 1, by go_num, by omega, hide (.inr ⟨by omega, rfl, HF.out⟩), p4, p6⟩
         case measure => simp [intOf]; omega
       · have hne := HJ.out.2 j hj2 hjj
         obtain ⟨d, hdd⟩ : ∃ d, X.signs[j]'hj2 = d := ⟨_, rfl⟩
         rw [hdd] at hne
         have hs2 : ∀ h, (⟨#[91, 93, 40, 41, 124, 42, 43, 63, 46, 94, 45, 58, 61]⟩ : ByteArray)[j]'h = d := fun h => (sign_at j hj2 h).trans hdd
         clear hdd
         have hcd := u8_eq c d
         rw [decide_eq_false hne] at hcd
         clear hne
         go_wp2
         go_roundw
         case rel => exact ⟨j + 1, by go_num, by omega, hide (HS.out.elim (fun h => .inl ⟨by omega, h.2⟩) (fun h => .inr ⟨by omega, h.2⟩)), hr0, hbw⟩
         case measure => simp [intOf]; omega
     · obtain ⟨rfl, hr1⟩ : u8 = .int .i64 1 ∧ wr.heap[w.heap.size + 1]? = some (.cells #[.int .i64 6, .int .i64 (k : Int), .string t, .int .i32 0] 58) := HS.out.elim (fun h => by have := HJ2.out; omega) (fun h => h.2)
       clear HS
       obtain ⟨c0, c1, c2, c3⟩ := cells_four hr1
       obtain ⟨d0, d1, d2, d3⟩ := cells_four hr0
       have f0 := frozen_of_row wr w.heap.size 0 _ _ hr0
       have f1 := frozen_of_row wr w.heap.size 1 _ _ hr0
       have f2 := frozen_of_row wr w.heap.size 2 _ _ hr0
       have f3 := frozen_of_row wr w.heap.size 3 _ _ hr0
       go_wp2
       exact bodyPost_ret (v := .tuple #[tokV ⟨6, [c], 0⟩ k, .int .i64 (((1) : Nat) : Int)]) (by unfold tokV; simp [results, Tryz.results44, go_sem, d0, d1, d2, d3, HTX.out]; try omega) rfl ⟨⟨_, _, rfl, (by rw [HN.out]; intro p h; cases h; exact ⟨rfl, rfl⟩), (by rw [HN.out]; intro h; cases h)⟩, four_set hbw _ _ _ _⟩
 · clear hqq
   go_enter Tryz.func44, Tryz.ntmps44
   go_wp2_with fail
   refine (hdg).mono ?_
   rintro e w1 ⟨rfl, hww⟩
   rw [← hww] at hr0 hr1 hbw
   clear hww
   go_wp2_with fail
   refine (hlt _).mono ?_
   rintro e w2 ⟨rfl, hwx⟩
   rw [← hwx] at hr0 hr1 hbw
   clear hwx
   clear hdg hlt
   go_wp2
   go_loopw [8, 10] (fun n i wr => ∃ j : Nat, i = .int .i64 (j : Int) ∧ j ≤ 13 ∧ Hid ((j ≤ j0 ∧ n = .int .i64 0 ∧ wr.heap[w.heap.size + 1]? = some (.cells #[.int .i64 0, .int .i64 (k : Int), .string ⟨#[]⟩, .int .i32 0] 58)) ∨ (j0 < j ∧ n = .int .i64 1 ∧ wr.heap[w.heap.size + 1]? = some (.cells #[.int .i64 6, .int .i64 (k : Int), .string t, .int .i32 0] 58))) ∧ wr.heap[w.heap.size]? = some (.cells #[.int .i64 0, .int .i64 0, .string ⟨#[]⟩, .int .i32 0] 58) ∧ Below w.heap.size w wr) (fun _ i _ => 13 - (intOf i).toNat)
   case atStart => exact ⟨0, rfl, by omega, hide (.inl ⟨Nat.zero_le _, rfl, hr1⟩), hr0, hbw⟩
   case round =>
     obtain ⟨j, rfl, hj, HS, hr0, hbw⟩ := hrel
     clear hr1
     by_cases hj2 : j < 13
     · by_cases hjj : j = j0
       · have hne := HJ.out.1 j hj2 hjj
         have hjl : j ≤ j0 := by omega
         have hjg : j0 ≤ j := by omega
         clear hjj
         obtain ⟨d, hdd⟩ : ∃ d, X.signs[j]'hj2 = d := ⟨_, rfl⟩
         rw [hdd] at hne
         have hs2 : ∀ h, (⟨#[91, 93, 40, 41, 124, 42, 43, 63, 46, 94, 45, 58, 61]⟩ : ByteArray)[j]'h = d := fun h => (sign_at j hj2 h).trans hdd
         clear hdd
         have hcd := u8_eq c d
         rw [decide_eq_true hne] at hcd
         clear hne
         have HS2 : Hid (u8 = .int .i64 0 ∧ wr.heap[w.heap.size + 1]? = some (.cells #[.int .i64 0, .int .i64 (k : Int), .string ⟨#[]⟩, .int .i32 0] 58)) := hide (HS.out.elim (fun h => h.2) (fun h => by omega))
         clear HS
         have hr1 := HS2.out.2
         obtain ⟨p0, p1, p2, p3, p4, p5, p6⟩ := two_stores hr0 hr1 hbw 6 t
         go_wp2_with fail
         refine Reg.start (B := w.heap.size) (by kernel_rfl) ?_
         refine Reg.take (fun _ _ _ _ _ h => h) 0 _ 27 (.string s) rfl (by kernel_rfl) (by kernel_rfl) (by kernel_rfl) rfl (by kernel_rfl) (by kernel_rfl) (fun _ _ => Reg.mv rfl rfl) ?_
         refine Reg.take (fun _ _ _ _ _ h => h) 1 _ 28 (.int .i64 (k : Int)) rfl (by kernel_rfl) (by kernel_rfl) (by kernel_rfl) rfl (by kernel_rfl) (by kernel_rfl) (fun _ _ => Reg.mv rfl rfl) ?_
         refine Reg.take (fun _ _ _ _ _ h => h) 2 _ 29 (.int .i64 (k : Int)) rfl (by kernel_rfl) (by kernel_rfl) (by kernel_rfl) rfl (by kernel_rfl) (by kernel_rfl) (fun _ _ => Reg.mv rfl rfl) ?_
         refine Reg.take (fun _ _ _ _ _ h => h) 3 _ 30 (.int .i64 ((k + 1 : Nat) : Int)) rfl (by kernel_rfl) (by kernel_rfl) (by kernel_rfl) rfl (by kernel_rfl) (by kernel_rfl) (fun _ _ => Reg.adK rfl rfl rfl hw1) ?_
         refine Reg.take (fun _ _ _ _ _ h => h) 4 _ 31 (.string t) rfl (by kernel_rfl) (by kernel_rfl) (by kernel_rfl) rfl (by kernel_rfl) (by kernel_rfl) (fun _ _ => Reg.slS rfl rfl rfl rfl (by omega) (by omega) ht) ?_
         refine Reg.take (fun _ _ _ _ _ h => h) 5 _ 32 (.pointer (some ⟨w.heap.size + 1, 0, none⟩)) rfl (by kernel_rfl) (by kernel_rfl) (by kernel_rfl) rfl (by kernel_rfl) (by kernel_rfl) (fun _ _ => Reg.fa rfl rfl (.inl ⟨rfl, rfl⟩)) ?_
         refine Reg.onlyN 6 _ rfl (by kernel_rfl) rfl (by kernel_rfl) (by kernel_rfl) ⟨wr.drew.setCell ⟨w.heap.size + 1, 0, none⟩ (.int .i64 6), w.heap.size, Reg.st1S rfl rfl rfl p0 p1 (.inl ⟨_, _, rfl⟩) (by kernel_rfl), Nat.le_refl _, (Below.refl _ _).setCell (by simp) _, ?_⟩
         refine Reg.take (fun _ _ _ _ _ h => h) 7 _ 33 (.pointer (some ⟨w.heap.size + 1, 2, none⟩)) rfl (by kernel_rfl) (by kernel_rfl) (by kernel_rfl) rfl (by kernel_rfl) (by kernel_rfl) (fun _ _ => Reg.fa rfl rfl (.inr ⟨rfl, rfl⟩)) ?_
         refine Reg.onlyN 8 _ rfl (by kernel_rfl) rfl (by kernel_rfl) (by kernel_rfl) ⟨(wr.drew.setCell ⟨w.heap.size + 1, 0, none⟩ (.int .i64 6)).setCell ⟨w.heap.size + 1, 2, none⟩ (.string t), w.heap.size, Reg.st1S rfl rfl rfl p2 p3 (.inr ⟨_, rfl⟩) (by kernel_rfl), Nat.le_refl _, (Below.refl _ _).setCell (by simp) _, ?_⟩
         refine Reg.done (by kernel_rfl) ?_
         simp only [Reg.ov, Act.put, List.setIfInBounds_toArray, List.set_cons_succ, List.set_cons_zero]
         obtain ⟨w4, hw4⟩ : ∃ w4, (wr.drew.setCell ⟨w.heap.size + 1, 0, none⟩ (.int .i64 6)).setCell ⟨w.heap.size + 1, 2, none⟩ (.string t) = w4 := ⟨_, rfl⟩
         rw [hw4] at p4 p5 p6 ⊢
         clear hw4 p0 p1 p2 p3 hr0 hr1 hbw
         have HF := hide p5
         clear p5
         go_wp2
         go_roundw
         case rel => exact ⟨j + 1, by go_num, by omega, hide (.inr ⟨by omega, rfl, HF.out⟩), p4, p6⟩
         case measure => simp [intOf]; omega
       · have hne := HJ.out.2 j hj2 hjj
         obtain ⟨d, hdd⟩ : ∃ d, X.signs[j]'hj2 = d := ⟨_, rfl⟩
         rw [hdd] at hne
         have hs2 : ∀ h, (⟨#[91, 93, 40, 41, 124, 42, 43, 63, 46, 94, 45, 58, 61]⟩ : ByteArray)[j]'h = d := fun h => (sign_at j hj2 h).trans hdd
         clear hdd
         have hcd := u8_eq c d
         rw [decide_eq_false hne] at hcd
         clear hne
         go_wp2
         go_roundw
         case rel => exact ⟨j + 1, by go_num, by omega, hide (HS.out.elim (fun h => .inl ⟨by omega, h.2⟩) (fun h => .inr ⟨by omega, h.2⟩)), hr0, hbw⟩
         case measure => simp [intOf]; omega
     · obtain ⟨rfl, hr1⟩ : u8 = .int .i64 1 ∧ wr.heap[w.heap.size + 1]? = some (.cells #[.int .i64 6, .int .i64 (k : Int), .string t, .int .i32 0] 58) := HS.out.elim (fun h => by have := HJ2.out; omega) (fun h => h.2)
       clear HS
       obtain ⟨c0, c1, c2, c3⟩ := cells_four hr1
       obtain ⟨d0, d1, d2, d3⟩ := cells_four hr0
       have f0 := frozen_of_row wr w.heap.size 0 _ _ hr0
       have f1 := frozen_of_row wr w.heap.size 1 _ _ hr0
       have f2 := frozen_of_row wr w.heap.size 2 _ _ hr0
       have f3 := frozen_of_row wr w.heap.size 3 _ _ hr0
       go_wp2
       exact bodyPost_ret (v := .tuple #[tokV ⟨6, [c], 0⟩ k, .int .i64 (((1) : Nat) : Int)]) (by unfold tokV; simp [results, Tryz.results44, go_sem, d0, d1, d2, d3, HTX.out]; try omega) rfl ⟨⟨_, _, rfl, (by rw [HN.out]; intro p h; cases h; exact ⟨rfl, rfl⟩), (by rw [HN.out]; intro h; cases h)⟩, four_set hbw _ _ _ _⟩
end Go.Proofs.YtamhjnemmdcniaaGreatDoor
