/- The reference of stage 6: next at a line, a word, a character; small things. -/
import Derived.Test.YtamhjnemmdcniaaGreatDoorVRb
namespace Go.Proofs.YtamhjnemmdcniaaGreatDoor
open Go.RowKit
theorem Reg.st1S {P : Program} {w : World} {ρ : Operand → Value} {o : Oper} {ty : TypeId} {x y : Operand} {b off : Nat} {u v : Value} (hop : o.op = .store ty x y) (hx : ρ x = .pointer (some ⟨b, off, none⟩)) (hy : ρ y = v) (hc : w.cell? ⟨b, off, none⟩ = some u) (hf : w.frozen? ⟨b, off, none⟩ = false) (h1 : (∃ k n, v = .int k n) ∨ ∃ t, v = .string t) (hsz : (sizeOf ty).run P w = .ok 1 w) : (execOp ρ o).run P w = .ok .skip (w.setCell ⟨b, off, none⟩ v) := by
 obtain ⟨dst, op, type, pos, after, guard⟩ := o
 simp only at hop
 subst hop
 have hs : (Instr.storeAt ty (.pointer (some ⟨b, off, none⟩)) v).run P w = .ok () (w.setCell ⟨b, off, none⟩ v) := by
   rcases h1 with ⟨k, n, rfl⟩ | ⟨t, rfl⟩ <;> simp [Instr.storeAt, Instr.sureAddr, storeVar, Sem.run_bind, hsz, hc, hf, Result.andThen, go_sem]
 simp [execOp, hx, hy, hs, Result.andThen]
theorem Reg.fa {w : World} {ρ : Operand → Value} {o : Oper} {x : Operand} {b i j : Nat} (hop : o.op = .fieldAddr 58 x i) (hx : ρ x = .pointer (some ⟨b, 0, none⟩)) (hi : (i = 0 ∧ j = 0) ∨ (i = 2 ∧ j = 2)) : (execOp ρ o).run Tryz.prog w = .ok (.value (.pointer (some ⟨b, j, none⟩))) w := by
 obtain ⟨dst, op, type, pos, after, guard⟩ := o
 simp only at hop
 subst hop
 rcases hi with ⟨rfl, rfl⟩ | ⟨rfl, rfl⟩ <;> simp [execOp, hx, go_sem]
theorem Reg.adK {w : World} {ρ : Operand → Value} {o : Oper} {x y : Operand} {m n c : Int} (hop : o.op = .binOp .add 3 x y 3) (hx : ρ x = .int .i64 m) (hy : ρ y = .int .i64 n) (h : IntKind.i64.wrap (m + n) = c) : (execOp ρ o).run Tryz.prog w = .ok (.value (.int .i64 c)) w := by
 obtain ⟨dst, op, type, pos, after, guard⟩ := o
 simp only at hop
 subst hop
 simp [execOp, hx, hy, eqGuard, h, go_sem]
theorem Reg.slS {w : World} {ρ : Operand → Value} {o : Oper} {x y z : Operand} {s t : ByteArray} {a b : Nat} (hop : o.op = .slice 9 x (some y) (some z) none) (hx : ρ x = .string s) (hy : ρ y = .int .i64 (a : Int)) (hz : ρ z = .int .i64 (b : Int)) (hab : a ≤ b) (hb : b ≤ s.size) (ht : s.extract a b = t) : (execOp ρ o).run Tryz.prog w = .ok (.value (.string t)) w := by
 obtain ⟨dst, op, type, pos, after, guard⟩ := o
 simp only at hop
 subst hop
 have h1 : (0 : Int) ≤ b ∧ (b : Int) ≤ s.size := by omega
 have h2 : (0 : Int) ≤ a ∧ (a : Int) ≤ b := by omega
 simp [execOp, hx, hy, hz, go_sem, hab, hb, ht]
set_option maxRecDepth 100000 in
set_option maxHeartbeats 2000000 in
theorem next_line (s : ByteArray) (k : Nat) (hk : k < s.size) (c : UInt8) (hx2 : ∀ h, s[k]'h = c) (u : List UInt8) (h10 : c = 10) (w : World) : Calls Tryz.prog 44 #[.string s, .int .i64 (k : Int)] w fun e w' => AnsT (X.nextL (c :: u)) k e ∧ Below w.heap.size w w' := by
 have HN : Hid (X.nextL (c :: u) = some (⟨7, [], 0⟩, 1)) := hide (by rw [h10]; rfl)
 have e10 : ((c.toNat : Int) == 10) = decide (c = 10) := u8_eq c 10
 rw [decide_eq_true h10] at e10
 clear h10
 go_enter Tryz.func44, Tryz.ntmps44
 go_wp2
 exact bodyPost_ret (v := .tuple #[tokV ⟨7, [], 0⟩ k, .int .i64 ((1 : Nat) : Int)]) (by unfold tokV; simp [results, Tryz.results44, go_sem]) rfl ⟨⟨_, _, rfl, (by rw [HN.out]; intro p h; cases h; exact ⟨rfl, rfl⟩), (by rw [HN.out]; intro h; cases h)⟩, two_below w _ _⟩
set_option maxRecDepth 100000 in
set_option maxHeartbeats 2000000 in
theorem next_word (s : ByteArray) (k : Nat) (hs : s.size ≤ 100000) (hk : k < s.size) (c : UInt8) (hx2 : ∀ h, s[k]'h = c) (u : List UInt8) (HU : Hid ((bts s).drop k = c :: u ∧ (bts s).drop (k + 1) = u)) (h10 : c ≠ 10) (h36 : c ≠ 36) (hd : X.isD c = false) (hl : X.isL c = false) (h34 : c = 34) (w : World) : Calls Tryz.prog 44 #[.string s, .int .i64 (k : Int)] w fun e w' => AnsT (X.nextL (c :: u)) k e ∧ Below w.heap.size w w' := by
 have HN : Hid (X.nextL (c :: u) = X.word u) := hide (by
   unfold X.nextL
   simp only
   rw [if_neg h10, if_neg h36, if_neg (by rw [hd]; decide), if_neg (by rw [hl]; decide), if_pos h34])
 have e10 : ((c.toNat : Int) == 10) = decide (c = 10) := u8_eq c 10
 rw [decide_eq_false h10] at e10
 have e36 : ((c.toNat : Int) == 36) = decide (c = 36) := u8_eq c 36
 rw [decide_eq_false h36] at e36
 have e34 : ((c.toNat : Int) == 34) = decide (c = 34) := u8_eq c 34
 rw [decide_eq_true h34] at e34
 clear h10 h36 h34
 have hr0 := two_old w (.cells #[.int .i64 0, .int .i64 0, .string ⟨#[]⟩, .int .i32 0] 58) (.cells #[.int .i64 0, .int .i64 (k : Int), .string ⟨#[]⟩, .int .i32 0] 58)
 have hr1 := two_new w (.cells #[.int .i64 0, .int .i64 0, .string ⟨#[]⟩, .int .i32 0] 58) (.cells #[.int .i64 0, .int .i64 (k : Int), .string ⟨#[]⟩, .int .i32 0] 58)
 have hbw := two_below w (.cells #[.int .i64 0, .int .i64 0, .string ⟨#[]⟩, .int .i32 0] 58) (.cells #[.int .i64 0, .int .i64 (k : Int), .string ⟨#[]⟩, .int .i32 0] 58)
 have hdg := digitR_any c ((w.alloc (.cells #[.int .i64 0, .int .i64 0, .string ⟨#[]⟩, .int .i32 0] 58)).alloc (.cells #[.int .i64 0, .int .i64 (k : Int), .string ⟨#[]⟩, .int .i32 0] 58))
 rw [hd] at hdg
 have hlt := fun w => letterR_any c w
 rw [hl] at hlt
 have hcall := fun w => word_any s k hs hk w
 clear hd hl
 go_enter Tryz.func44, Tryz.ntmps44
 go_wp2_with fail
 refine (hdg).mono ?_
 rintro e w1 ⟨rfl, hw1⟩
 rw [← hw1] at hr0 hr1 hbw
 clear hw1
 go_wp2_with fail
 refine (hlt _).mono ?_
 rintro e w2 ⟨rfl, hw2⟩
 rw [← hw2] at hr0 hr1 hbw
 clear hw2
 go_wp2_with fail
 have hc2 := hcall w2
 rw [HU.out.2, ← HN.out] at hc2
 refine hc2.mono ?_
 rintro e w3 ⟨⟨t, n, rfl, hA, hB⟩, hb3⟩
 have hsz : w.heap.size + 1 < w2.heap.size := (Array.getElem?_eq_some_iff.1 hr1).1
 replace hr0 := (hb3.block w.heap.size (by omega)).trans hr0
 replace hr1 := (hb3.block (w.heap.size + 1) (by omega)).trans hr1
 replace hbw := nx hbw hb3
 have HA := hide hA
 have HB := hide hB
 clear hA hB hc2 hcall hlt hdg hb3
 obtain ⟨c0, c1, c2, c3⟩ := cells_four hr1
 obtain ⟨d0, d1, d2, d3⟩ := cells_four hr0
 have f0 := frozen_of_row w3 w.heap.size 0 _ _ hr0
 have f1 := frozen_of_row w3 w.heap.size 1 _ _ hr0
 have f2 := frozen_of_row w3 w.heap.size 2 _ _ hr0
 have f3 := frozen_of_row w3 w.heap.size 3 _ _ hr0
 unfold tokV
 go_wp2
 exact bodyPost_ret (v := .tuple #[tokV t k, .int .i64 (n : Int)]) (by unfold tokV; simp [results, Tryz.results44, go_sem, d0, d1, d2, d3]) rfl ⟨⟨_, _, rfl, HA.out, HB.out⟩, four_set hbw _ _ _ _⟩
theorem char_any (s : ByteArray) (k : Nat) (hs : s.size ≤ 100000) (hk : k < s.size) (w : World) : Calls Tryz.prog 74 #[.string s, .int .i64 (k : Int)] w fun e w' => AnsT (X.charL ((bts s).drop (k + 1))) k e ∧ Below w.heap.size w w' := by
 by_cases h : ∃ h : k + 1 < (bts s).length, (bts s)[k + 1] = 92
 · exact char_num s k hs h.1 h.2 w
 · exact charR_plain s k hs hk (fun h1 h2 => h ⟨h1, h2⟩) w
set_option maxRecDepth 100000 in
set_option maxHeartbeats 2000000 in
theorem next_char (s : ByteArray) (k : Nat) (hs : s.size ≤ 100000) (hk : k < s.size) (c : UInt8) (hx2 : ∀ h, s[k]'h = c) (u : List UInt8) (HU : Hid ((bts s).drop k = c :: u ∧ (bts s).drop (k + 1) = u)) (h10 : c ≠ 10) (h36 : c ≠ 36) (h34 : c ≠ 34) (hd : X.isD c = false) (hl : X.isL c = false) (h39 : c = 39) (w : World) : Calls Tryz.prog 44 #[.string s, .int .i64 (k : Int)] w fun e w' => AnsT (X.nextL (c :: u)) k e ∧ Below w.heap.size w w' := by
 have HN : Hid (X.nextL (c :: u) = X.charL u) := hide (by
   unfold X.nextL
   simp only
   rw [if_neg h10, if_neg h36, if_neg (by rw [hd]; decide), if_neg (by rw [hl]; decide), if_neg h34, if_pos h39])
 have e10 : ((c.toNat : Int) == 10) = decide (c = 10) := u8_eq c 10
 rw [decide_eq_false h10] at e10
 have e36 : ((c.toNat : Int) == 36) = decide (c = 36) := u8_eq c 36
 rw [decide_eq_false h36] at e36
 have e34 : ((c.toNat : Int) == 34) = decide (c = 34) := u8_eq c 34
 rw [decide_eq_false h34] at e34
 have e39 : ((c.toNat : Int) == 39) = decide (c = 39) := u8_eq c 39
 rw [decide_eq_true h39] at e39
 clear h10 h36 h34 h39
 have hr0 := two_old w (.cells #[.int .i64 0, .int .i64 0, .string ⟨#[]⟩, .int .i32 0] 58) (.cells #[.int .i64 0, .int .i64 (k : Int), .string ⟨#[]⟩, .int .i32 0] 58)
 have hr1 := two_new w (.cells #[.int .i64 0, .int .i64 0, .string ⟨#[]⟩, .int .i32 0] 58) (.cells #[.int .i64 0, .int .i64 (k : Int), .string ⟨#[]⟩, .int .i32 0] 58)
 have hbw := two_below w (.cells #[.int .i64 0, .int .i64 0, .string ⟨#[]⟩, .int .i32 0] 58) (.cells #[.int .i64 0, .int .i64 (k : Int), .string ⟨#[]⟩, .int .i32 0] 58)
 have hdg := digitR_any c ((w.alloc (.cells #[.int .i64 0, .int .i64 0, .string ⟨#[]⟩, .int .i32 0] 58)).alloc (.cells #[.int .i64 0, .int .i64 (k : Int), .string ⟨#[]⟩, .int .i32 0] 58))
 rw [hd] at hdg
 have hlt := fun w => letterR_any c w
 rw [hl] at hlt
 have hcall := fun w => char_any s k hs hk w
 clear hd hl
 go_enter Tryz.func44, Tryz.ntmps44
 go_wp2_with fail
 refine (hdg).mono ?_
 rintro e w1 ⟨rfl, hw1⟩
 rw [← hw1] at hr0 hr1 hbw
 clear hw1
 go_wp2_with fail
 refine (hlt _).mono ?_
 rintro e w2 ⟨rfl, hw2⟩
 rw [← hw2] at hr0 hr1 hbw
 clear hw2
 go_wp2_with fail
 have hc2 := hcall w2
 rw [HU.out.2, ← HN.out] at hc2
 refine hc2.mono ?_
 rintro e w3 ⟨⟨t, n, rfl, hA, hB⟩, hb3⟩
 have hsz : w.heap.size + 1 < w2.heap.size := (Array.getElem?_eq_some_iff.1 hr1).1
 replace hr0 := (hb3.block w.heap.size (by omega)).trans hr0
 replace hr1 := (hb3.block (w.heap.size + 1) (by omega)).trans hr1
 replace hbw := nx hbw hb3
 have HA := hide hA
 have HB := hide hB
 clear hA hB hc2 hcall hlt hdg hb3
 obtain ⟨c0, c1, c2, c3⟩ := cells_four hr1
 obtain ⟨d0, d1, d2, d3⟩ := cells_four hr0
 have f0 := frozen_of_row w3 w.heap.size 0 _ _ hr0
 have f1 := frozen_of_row w3 w.heap.size 1 _ _ hr0
 have f2 := frozen_of_row w3 w.heap.size 2 _ _ hr0
 have f3 := frozen_of_row w3 w.heap.size 3 _ _ hr0
 unfold tokV
 go_wp2
 exact bodyPost_ret (v := .tuple #[tokV t k, .int .i64 (n : Int)]) (by unfold tokV; simp [results, Tryz.results44, go_sem, d0, d1, d2, d3]) rfl ⟨⟨_, _, rfl, HA.out, HB.out⟩, four_set hbw _ _ _ _⟩
theorem two_stores {w w2 : World} {k : Nat} {v x : Value} (hr0 : w2.heap[w.heap.size]? = some (.cells #[.int .i64 0, .int .i64 0, .string ⟨#[]⟩, .int .i32 0] 58)) (hr1 : w2.heap[w.heap.size + 1]? = some (.cells #[v, .int .i64 (k : Int), x, .int .i32 0] 58)) (hb : Below w.heap.size w w2) (a : Int) (t : ByteArray) :
   w2.drew.cell? ⟨w.heap.size + 1, 0, none⟩ = some v ∧ w2.drew.frozen? ⟨w.heap.size + 1, 0, none⟩ = false ∧
   (w2.drew.setCell ⟨w.heap.size + 1, 0, none⟩ (.int .i64 a)).cell? ⟨w.heap.size + 1, 2, none⟩ = some x ∧ (w2.drew.setCell ⟨w.heap.size + 1, 0, none⟩ (.int .i64 a)).frozen? ⟨w.heap.size + 1, 2, none⟩ = false ∧
   ((w2.drew.setCell ⟨w.heap.size + 1, 0, none⟩ (.int .i64 a)).setCell ⟨w.heap.size + 1, 2, none⟩ (.string t)).heap[w.heap.size]? = some (.cells #[.int .i64 0, .int .i64 0, .string ⟨#[]⟩, .int .i32 0] 58) ∧
   ((w2.drew.setCell ⟨w.heap.size + 1, 0, none⟩ (.int .i64 a)).setCell ⟨w.heap.size + 1, 2, none⟩ (.string t)).heap[w.heap.size + 1]? = some (.cells #[.int .i64 a, .int .i64 (k : Int), .string t, .int .i32 0] 58) ∧
   Below w.heap.size w ((w2.drew.setCell ⟨w.heap.size + 1, 0, none⟩ (.int .i64 a)).setCell ⟨w.heap.size + 1, 2, none⟩ (.string t)) := by
 have h1 : (w2.drew.setCell ⟨w.heap.size + 1, 0, none⟩ (.int .i64 a)).heap[w.heap.size + 1]? = some (.cells #[.int .i64 a, .int .i64 (k : Int), x, .int .i32 0] 58) := by
   rw [heap_setCell_same w2.drew (w.heap.size + 1) 0 _ 58 _ hr1]
   simp
 have h2 : ((w2.drew.setCell ⟨w.heap.size + 1, 0, none⟩ (.int .i64 a)).setCell ⟨w.heap.size + 1, 2, none⟩ (.string t)).heap[w.heap.size + 1]? = some (.cells #[.int .i64 a, .int .i64 (k : Int), .string t, .int .i32 0] 58) := by
   rw [heap_setCell_same _ (w.heap.size + 1) 2 _ 58 _ h1]
   simp
 refine ⟨(cells_four (W := w2.drew) hr1).1, frozen_of_row w2.drew (w.heap.size + 1) 0 _ _ hr1, (cells_four h1).2.2.1, frozen_of_row _ (w.heap.size + 1) 2 _ _ h1, ?_, h2, (hb.drew.setCell (by simp) _).setCell (by simp) _⟩
 rw [heap_setCell_other _ _ _ _ (by simp), heap_setCell_other _ _ _ _ (by simp)]
 exact hr0
theorem runP_LD : runP true (bts ⟨#[]⟩) = X.isLD := by
 funext c
 simp [runP, X.isLD, bts]
theorem runP_L : runP false (bts ⟨#[]⟩) = X.isL := by
 funext c
 simp [runP, bts]
theorem runP_I : runP true (bts ⟨#[45, 95]⟩) = X.isI := by
 funext c
 simp [runP, X.isI, bts]
 cases X.isL c <;> cases X.isD c <;> simp
 all_goals
   by_cases h1 : c = 45 <;> by_cases h2 : c = 95 <;> simp [h1, h2]
theorem cut_tw (p : UInt8 → Bool) (s : ByteArray) (a m : Nat) (hm : (((bts s).drop a).takeWhile p).length = m) : s.extract a (a + m) = ⟨(((bts s).drop a).takeWhile p).toArray⟩ := by
 have e := cut_bts s a (a + m)
 rw [Nat.add_sub_cancel_left] at e
 have h := List.takeWhile_prefix (p := p) (l := (bts s).drop a)
 rw [List.prefix_iff_eq_take, hm] at h
 rw [← h] at e
 apply ByteArray.ext
 have e2 : (s.extract a (a + m)).data.toList = ((bts s).drop a).takeWhile p := e
 rw [← e2]
theorem sign_at (j : Nat) (hj : j < X.signs.length) : ∀ h, (⟨#[91, 93, 40, 41, 124, 42, 43, 63, 46, 94, 45, 58, 61]⟩ : ByteArray)[j]'h = X.signs[j] := by
 intro h
 exact idx_at (s := ⟨#[91, 93, 40, 41, 124, 42, 43, 63, 46, 94, 45, 58, 61]⟩) (i := j) hj (j : Int) rfl h
theorem signs_apart (i j : Nat) (hi : i < X.signs.length) (hj : j < X.signs.length) (h : X.signs[i] = X.signs[j]) : i = j := by
 have e : ∀ a b : Fin 13, X.signs[a.val]? = X.signs[b.val]? → a = b := by decide
 have := e ⟨i, hi⟩ ⟨j, hj⟩ (by simp only; rw [List.getElem?_eq_getElem hi, List.getElem?_eq_getElem hj, h])
 exact Fin.mk.inj this
end Go.Proofs.YtamhjnemmdcniaaGreatDoor
