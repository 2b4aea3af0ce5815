/- The reference of stage 6: Rword Rst Rchar Rcharn. -/
import Derived.Test.YtamhjnemmdcniaaGreatDoorVRa
import Derived.Test.YtamhjnemmdcniaaGreatDoorVRstx
namespace Go.Proofs.YtamhjnemmdcniaaGreatDoor
open Go.RowKit
theorem app_keepsR {w wr w3 : World} {o : Obj} {j : Nat} (hj : j < w.heap.size + 2) (hsz : w.heap.size + 2 ≤ wr.heap.size) (hb : Below (w.heap.size + 2) (wr.alloc o) w3) : w3.heap[j]? = wr.heap[j]? := (hb.block j hj).trans (Below.heap_alloc wr o j (by omega))
theorem two_old (w : World) (o p : Obj) : ((w.alloc o).alloc p).heap[w.heap.size]? = some o := (Below.heap_alloc (w.alloc o) p w.heap.size (by simp)).trans (heap_alloc_new w o)
theorem two_new (w : World) (o p : Obj) : ((w.alloc o).alloc p).heap[w.heap.size + 1]? = some p := by
 have := heap_alloc_new (w.alloc o) p
 rwa [World.size_alloc] at this
set_option maxRecDepth 100000 in
set_option maxHeartbeats 400000 in
theorem word_any (s : ByteArray) (k : Nat) (hs : s.size ≤ 100000) (hk : k < s.size) (w : World) : Calls Tryz.prog 73 #[.string s, .int .i64 (k : Int)] w fun e w' => AnsT (X.word ((bts s).drop (k + 1))) k e ∧ Below w.heap.size w w' := by
 go_enter Tryz.func73, Tryz.ntmps73
 go_wp2
 go_loopw [7, 8] (fun v u wr => ∃ (pre : List UInt8) (i : Nat), u = .int .i64 (i : Int) ∧ k + 1 ≤ i ∧ i ≤ s.size ∧ pre.length ≤ i ∧ Own wr (w.heap.size + 2) 5 v (cB pre) ∧ wr.heap[w.heap.size]? = some (.cells #[.int .i64 0, .int .i64 0, .string ⟨#[]⟩, .int .i32 0] 58) ∧ wr.heap[w.heap.size + 1]? = some (.cells #[.int .i64 2, .int .i64 (k : Int), .string ⟨#[]⟩, .int .i32 0] 58) ∧ Hid (X.wordB ((bts s).drop (k + 1)) = (X.wordB ((bts s).drop i)).map fun p => (pre ++ p.1, i - (k + 1) + p.2)) ∧ Below w.heap.size w wr) (fun _ u _ => s.size - (intOf u).toNat)
 case atStart => exact ⟨[], k + 1, by go_num, Nat.le_refl _, by omega, by simp, own_nil _ _ _, two_old _ _ _, two_new _ _ _, hide (by simp), ((Below.refl _ _).alloc (Nat.le_refl _) _).alloc (by simp) _⟩
 case round =>
   obtain ⟨pre, i, rfl, hi1, hi2, hpl, hv, hr0, hr1, HW, hb⟩ := hrel
   by_cases hlt : i < s.size
   · have hl : i < (bts s).length := hlt
     have hx := fun j hj h => idx_at (s := s) hl j hj h
     have hdr := List.drop_eq_getElem_cons hl
     have hsz : w.heap.size + 2 ≤ wr.heap.size := (Array.getElem?_eq_some_iff.1 hr1).1
     have HD := hide hdr
     clear hdr
     generalize (bts s)[i] = c at *
     have hx2 : ∀ h, s[i]'h = c := fun h => hx (i : Int) rfl h
     clear hx
     have e34 : ((c.toNat : Int) == 34) = decide (c = 34) := u8_eq c 34
     have e10 : ((c.toNat : Int) == 10) = decide (c = 10) := u8_eq c 10
     have e92 : ((c.toNat : Int) == 92) = decide (c = 92) := u8_eq c 92
     by_cases h34 : c = 34
     · rw [decide_eq_true h34] at e34
       clear e10 e92
       have HW2 : Hid (X.wordB ((bts s).drop (k + 1)) = some (pre, i - (k + 1) + 1)) := hide (by
         rw [HW.out, HD.out, h34, X.wordB_end]
         simp)
       clear HW HD h34
       obtain ⟨ao, cap, rfl, hcap, hnil, hrd⟩ := hv.rd
       have hR := refRunes_any ao cap pre (by omega) (by rw [cB_length] at hcap; exact hcap) hnil wr hrd
       rw [cB_length] at hv hcap ⊢
       cases hg : M.good pre with
       | false =>
         rw [hg] at hR
         have HN : Hid (X.word ((bts s).drop (k + 1)) = none) := hide (by
           unfold X.word
           rw [HW2.out]
           simp only
           rw [if_neg (by rw [hg]; decide)])
         clear HW2 hg
         go_wp2_with fail
         refine hR.mono ?_
         rintro e w1 ⟨v1, u1, rfl, _, _, hb1⟩
         replace hr0 := (hb1.block w.heap.size (by omega)).trans hr0
         replace hr1 := (hb1.block (w.heap.size + 1) (by omega)).trans hr1
         have hbb := nx hb hb1
         clear hR hv hrd hb hb1
         obtain ⟨c0, c1, c2, c3⟩ := cells_four hr1
         obtain ⟨d0, d1, d2, d3⟩ := cells_four hr0
         have f0 := frozen_of_row w1 w.heap.size 0 _ _ hr0
         have f1 := frozen_of_row w1 w.heap.size 1 _ _ hr0
         have f2 := frozen_of_row w1 w.heap.size 2 _ _ hr0
         have f3 := frozen_of_row w1 w.heap.size 3 _ _ hr0
         go_wp2
         exact bodyPost_ret (v := .tuple #[tokV ⟨2, [], 0⟩ k, .int .i64 ((0 : Nat) : Int)]) (by unfold tokV; simp [results, Tryz.results73, go_sem, d0, d1, d2, d3]) rfl ⟨⟨_, _, rfl, (by rw [HN.out]; intro p h; cases h), fun _ => rfl⟩, four_set hbb _ _ _ _⟩
       | true =>
         rw [hg] at hR
         have HN : Hid (X.word ((bts s).drop (k + 1)) = some (⟨2, pre, 0⟩, i + 1 - k)) := hide (by
           unfold X.word
           rw [HW2.out]
           simp only
           rw [if_pos hg, show i - (k + 1) + 1 + 1 = i + 1 - k by omega])
         clear HW2 hg
         go_wp2_with fail
         refine hR.mono ?_
         rintro e w1 ⟨v1, u1, rfl, _, _, hb1⟩
         replace hr0 := (hb1.block w.heap.size (by omega)).trans hr0
         replace hr1 := (hb1.block (w.heap.size + 1) (by omega)).trans hr1
         have hbb := nx hb hb1
         have hcv := conv_any w1 ao pre cap (hrd.later hb1)
         clear hR hv hrd hb hb1
         obtain ⟨c0, c1, c2, c3⟩ := cells_four hr1
         obtain ⟨d0, d1, d2, d3⟩ := cells_four hr0
         have f0 := frozen_of_row w1 w.heap.size 0 _ _ hr0
         have f1 := frozen_of_row w1 w.heap.size 1 _ _ hr0
         have f2 := frozen_of_row w1 w.heap.size 2 _ _ hr0
         have f3 := frozen_of_row w1 w.heap.size 3 _ _ hr0
         have f6 := frozen_of_row w1 (w.heap.size + 1) 2 _ _ hr1
         go_wp2
         exact bodyPost_ret (v := .tuple #[tokV ⟨2, pre, 0⟩ k, .int .i64 ((i + 1 - k : Nat) : Int)]) (by unfold tokV; simp [results, Tryz.results73, go_sem, d0, d1, d2, d3]; try omega) rfl ⟨⟨_, _, rfl, (by rw [HN.out]; intro p h; cases h; exact ⟨rfl, rfl⟩), (by rw [HN.out]; intro h; cases h)⟩, four_set (hbb.setCell (by simp) _) _ _ _ _⟩
     · rw [decide_eq_false h34] at e34
       by_cases h10 : c = 10
       · rw [decide_eq_true h10] at e10
         have HN : Hid (X.word ((bts s).drop (k + 1)) = none) := hide (by
           unfold X.word
           rw [HW.out, HD.out, h10, X.wordB_feed]
           rfl)
         clear HW HD h10 h34 e92
         obtain ⟨c0, c1, c2, c3⟩ := cells_four hr1
         obtain ⟨d0, d1, d2, d3⟩ := cells_four hr0
         have f0 := frozen_of_row wr w.heap.size 0 _ _ hr0
         have f1 := frozen_of_row wr w.heap.size 1 _ _ hr0
         have f2 := frozen_of_row wr w.heap.size 2 _ _ hr0
         have f3 := frozen_of_row wr w.heap.size 3 _ _ hr0
         go_wp2
         exact bodyPost_ret (v := .tuple #[tokV ⟨2, [], 0⟩ k, .int .i64 ((0 : Nat) : Int)]) (by unfold tokV; simp [results, Tryz.results73, go_sem, d0, d1, d2, d3]) rfl ⟨⟨_, _, rfl, (by rw [HN.out]; intro p h; cases h), fun _ => rfl⟩, four_set hb _ _ _ _⟩
       · rw [decide_eq_false h10] at e10
         by_cases h92 : c = 92
         · rw [decide_eq_true h92] at e92
           by_cases hl1 : i + 1 < s.size
           · have hl2 : i + 1 < (bts s).length := hl1
             have hy := fun j hj h => idx_at (s := s) hl2 j hj h
             have hdr := List.drop_eq_getElem_cons hl2
             have HD2 := hide hdr
             clear hdr
             generalize (bts s)[i + 1] = x at *
             have hy2 : ∀ h, s[((i : Int) + 1).toNat]'h = x := fun h => hy ((i : Int) + 1) (by omega) h
             have hy3 : ∀ h, s[i + 1]'h = x := fun h => hy ((i + 1 : Nat) : Int) rfl h
             clear hy
             have x34 : ((x.toNat : Int) == 34) = decide (x = 34) := u8_eq x 34
             have x92 : ((x.toNat : Int) == 92) = decide (x = 92) := u8_eq x 92
             by_cases hx : x = 34 ∨ x = 92
             · have HS : Hid (X.wordB ((bts s).drop (k + 1)) = (X.wordB ((bts s).drop (i + 2))).map fun p => (pre ++ [x] ++ p.1, i + 2 - (k + 1) + p.2)) := hide (by
                 rw [HW.out, HD.out, HD2.out, h92, X.wordB_esc _ hx, Option.map_map]
                 congr 1
                 funext p
                 simp only [Function.comp_apply, List.append_assoc, List.singleton_append]
                 congr 1
                 omega)
               have hxx : ((x.toNat : Int) == 34) = true ∨ (((x.toNat : Int) == 34) = false ∧ ((x.toNat : Int) == 92) = true) := by
                 rw [x34, x92]
                 by_cases h : x = 34
                 · exact .inl (decide_eq_true h)
                 · exact .inr ⟨decide_eq_false h, decide_eq_true (hx.resolve_left h)⟩
               clear HW HD HD2 h34 h10 h92 x34 x92 hx
               rcases hxx with x34 | ⟨x34, x92⟩
               · have n34 : ((x.toNat : Int) != 34) = false := by simp [bne, x34]
                 go_wp2_with (first
                   | (at_builtin; refine wpl_appg Tryz.underlying64 info5 rfl (by decide) rfl _ _ rfl (w.heap.size + 2) _ (cB pre) (some ⟨wr.heap.size, 0, none⟩) [.int .u8 (x.toNat : Int)] 1 1 rfl rfl rfl (hv.later ((Below.refl _ _).alloc (Nat.le_refl _) _)) (by have := hsz; simp; omega) (rd_new _ _ _ _ _ rfl) (by simp [Value.oneCell']) (fun e => by cases e) (by rw [cB_length]; simp; omega) ?_; intro v3 w3 hv3 hb3 hg3))
                 go_roundw
                 case rel => exact ⟨pre ++ [x], i + 2, by go_num, by omega, by omega, by simp; omega, by rw [cB_append]; exact hv3, (app_keepsR (by omega) hsz hb3).trans hr0, (app_keepsR (by omega) hsz hb3).trans hr1, HS, (hb.alloc hb.size _).trans (hb3.mono (by omega))⟩
                 case measure => simp [intOf]; omega
               · have n34 : ((x.toNat : Int) != 34) = true := by simp [bne, x34]
                 have n92 : ((x.toNat : Int) != 92) = false := by simp [bne, x92]
                 go_wp2_with (first
                   | (at_builtin; refine wpl_appg Tryz.underlying64 info5 rfl (by decide) rfl _ _ rfl (w.heap.size + 2) _ (cB pre) (some ⟨wr.heap.size, 0, none⟩) [.int .u8 (x.toNat : Int)] 1 1 rfl rfl rfl (hv.later ((Below.refl _ _).alloc (Nat.le_refl _) _)) (by have := hsz; simp; omega) (rd_new _ _ _ _ _ rfl) (by simp [Value.oneCell']) (fun e => by cases e) (by rw [cB_length]; simp; omega) ?_; intro v3 w3 hv3 hb3 hg3))
                 go_roundw
                 case rel => exact ⟨pre ++ [x], i + 2, by go_num, by omega, by omega, by simp; omega, by rw [cB_append]; exact hv3, (app_keepsR (by omega) hsz hb3).trans hr0, (app_keepsR (by omega) hsz hb3).trans hr1, HS, (hb.alloc hb.size _).trans (hb3.mono (by omega))⟩
                 case measure => simp [intOf]; omega
             · have HN : Hid (X.word ((bts s).drop (k + 1)) = none) := hide (by
                 unfold X.word
                 rw [HW.out, HD.out, HD2.out, h92]
                 conv => lhs; unfold X.wordB
                 simp [hx])
               have n34 : ((x.toNat : Int) != 34) = true := by simp only [bne, x34, decide_eq_false (fun h => hx (.inl h)), Bool.not_false]
               have n92 : ((x.toNat : Int) != 92) = true := by simp only [bne, x92, decide_eq_false (fun h => hx (.inr h)), Bool.not_false]
               clear HW HD HD2 h34 h10 h92 x34 x92 hx
               obtain ⟨c0, c1, c2, c3⟩ := cells_four hr1
               obtain ⟨d0, d1, d2, d3⟩ := cells_four hr0
               have f0 := frozen_of_row wr w.heap.size 0 _ _ hr0
               have f1 := frozen_of_row wr w.heap.size 1 _ _ hr0
               have f2 := frozen_of_row wr w.heap.size 2 _ _ hr0
               have f3 := frozen_of_row wr w.heap.size 3 _ _ hr0
               go_wp2
               exact bodyPost_ret (v := .tuple #[tokV ⟨2, [], 0⟩ k, .int .i64 ((0 : Nat) : Int)]) (by unfold tokV; simp [results, Tryz.results73, go_sem, d0, d1, d2, d3]) rfl ⟨⟨_, _, rfl, (by rw [HN.out]; intro p h; cases h), fun _ => rfl⟩, four_set hb _ _ _ _⟩
           · have HN : Hid (X.word ((bts s).drop (k + 1)) = none) := hide (by
               unfold X.word
               rw [HW.out, HD.out, h92, List.drop_eq_nil_of_le (by rw [bts_len]; omega)]
               rfl)
             clear HW HD h92 h10 h34
             obtain ⟨c0, c1, c2, c3⟩ := cells_four hr1
             obtain ⟨d0, d1, d2, d3⟩ := cells_four hr0
             have f0 := frozen_of_row wr w.heap.size 0 _ _ hr0
             have f1 := frozen_of_row wr w.heap.size 1 _ _ hr0
             have f2 := frozen_of_row wr w.heap.size 2 _ _ hr0
             have f3 := frozen_of_row wr w.heap.size 3 _ _ hr0
             go_wp2
             exact bodyPost_ret (v := .tuple #[tokV ⟨2, [], 0⟩ k, .int .i64 ((0 : Nat) : Int)]) (by unfold tokV; simp [results, Tryz.results73, go_sem, d0, d1, d2, d3]) rfl ⟨⟨_, _, rfl, (by rw [HN.out]; intro p h; cases h), fun _ => rfl⟩, four_set hb _ _ _ _⟩
         · rw [decide_eq_false h92] at e92
           have HS : Hid (X.wordB ((bts s).drop (k + 1)) = (X.wordB ((bts s).drop (i + 1))).map fun p => (pre ++ [c] ++ p.1, i + 1 - (k + 1) + p.2)) := hide (by
             rw [HW.out, HD.out, X.wordB_other _ h34 h10 h92, Option.map_map]
             congr 1
             funext p
             simp only [Function.comp_apply, List.append_assoc, List.singleton_append]
             congr 1
             omega)
           clear HW HD h34 h10 h92
           go_wp2_with (first
             | (at_builtin; refine wpl_appg Tryz.underlying64 info5 rfl (by decide) rfl _ _ rfl (w.heap.size + 2) _ (cB pre) (some ⟨wr.heap.size, 0, none⟩) [.int .u8 (c.toNat : Int)] 1 1 rfl rfl rfl (hv.later ((Below.refl _ _).alloc (Nat.le_refl _) _)) (by have := hsz; simp; omega) (rd_new _ _ _ _ _ rfl) (by simp [Value.oneCell']) (fun e => by cases e) (by rw [cB_length]; simp; omega) ?_; intro v3 w3 hv3 hb3 hg3))
           go_roundw
           case rel => exact ⟨pre ++ [c], i + 1, by go_num, by omega, by omega, by simp; omega, by rw [cB_append]; exact hv3, (app_keepsR (by omega) hsz hb3).trans hr0, (app_keepsR (by omega) hsz hb3).trans hr1, HS, (hb.alloc hb.size _).trans (hb3.mono (by omega))⟩
           case measure => simp [intOf]; omega
   · have HN : Hid (X.word ((bts s).drop (k + 1)) = none) := hide (by
       unfold X.word
       rw [HW.out, List.drop_eq_nil_of_le (by rw [bts_len]; omega)]
       rfl)
     clear HW
     obtain ⟨c0, c1, c2, c3⟩ := cells_four hr1
     obtain ⟨d0, d1, d2, d3⟩ := cells_four hr0
     have f0 := frozen_of_row wr w.heap.size 0 _ _ hr0
     have f1 := frozen_of_row wr w.heap.size 1 _ _ hr0
     have f2 := frozen_of_row wr w.heap.size 2 _ _ hr0
     have f3 := frozen_of_row wr w.heap.size 3 _ _ hr0
     go_wp2
     refine bodyPost_ret (v := .tuple #[tokV ⟨2, [], 0⟩ k, .int .i64 ((0 : Nat) : Int)]) (by unfold tokV; simp [results, Tryz.results73, go_sem, d0, d1, d2, d3]) rfl ⟨⟨_, _, rfl, (by rw [HN.out]; intro p h; cases h), fun _ => rfl⟩, four_set hb _ _ _ _⟩
section
variable {w : World} {ρ : Operand → Value} {o : Oper}
theorem Reg.mv {P : Program} {x : Operand} {v : Value} (hop : o.op = .move x) (hx : ρ x = v) : (execOp ρ o).run P w = .ok (.value v) w := by
 obtain ⟨dst, op, type, pos, after, guard⟩ := o
 simp only at hop
 subst hop
 simp [execOp, hx]
end
theorem oneOut_any (s : ByteArray) (k : Nat) (hk : ¬ k < s.size) (w : World) : Calls Tryz.prog 109 #[.string s, .int .i64 (k : Int)] w fun e w' => e = .returned (.tuple #[.int .i32 0, .int .i64 0]) ∧ w' = w := by
 go_enter Tryz.func109, Tryz.ntmps109
 go_wp2
 go_ret2
 exact ⟨rfl, rfl⟩
set_option maxRecDepth 100000 in
set_option maxHeartbeats 400000 in
theorem charR_plain (s : ByteArray) (k : Nat) (hs : s.size ≤ 100000) (hk : k < s.size) (h92 : ∀ h : k + 1 < (bts s).length, (bts s)[k + 1] ≠ 92) (w : World) : Calls Tryz.prog 74 #[.string s, .int .i64 (k : Int)] w fun e w' => AnsT (X.charL ((bts s).drop (k + 1))) k e ∧ Below w.heap.size w w' := by
 by_cases hlt : k + 1 < s.size
 · have hl : k + 1 < (bts s).length := hlt
   have hne := h92 hl
   clear h92
   have hx := fun j hj h => idx_at (s := s) hl j hj h
   have HD := hide (List.drop_eq_getElem_cons hl)
   generalize (bts s)[k + 1] = c at *
   have hx2 : ∀ h, s[((k : Int) + 1).toNat]'h = c := fun h => hx ((k : Int) + 1) (by omega) h
   have hx3 : ∀ h, s[k + 1]'h = c := fun h => hx ((k + 1 : Nat) : Int) rfl h
   clear hx
   have e92 : ((c.toNat : Int) == 92) = decide (c = 92) := u8_eq c 92
   rw [decide_eq_false hne] at e92
   have hC := one_cases ((bts s).drop (k + 1)) (by rw [HD.out]; simp)
   have HC : Hid (X.charL ((bts s).drop (k + 1)) = if M.ok (M.dec ((bts s).drop (k + 1))) = true ∧ (M.dec ((bts s).drop (k + 1))).1 ≠ 10 then some (⟨4, [], ((M.dec ((bts s).drop (k + 1))).1 : Int)⟩, (M.dec ((bts s).drop (k + 1))).2 + 1) else none) := hide (by
     rw [HD.out]
     unfold X.charL
     simp only
     rw [if_neg hne])
   have hO := fun w => oneAt_any s (k + 1) hs hlt w
   have hcast : ((k + 1 : Nat) : Int) = (k : Int) + 1 := by omega
   rw [hcast] at hO
   clear hcast HD
   generalize X.charL ((bts s).drop (k + 1)) = R at *
   have hdp := M.dec_point ((bts s).drop (k + 1))
   generalize M.one ((bts s).drop (k + 1)) = o at *
   generalize M.dec ((bts s).drop (k + 1)) = d at *
   obtain ⟨r, n⟩ := d
   have hr0 := two_old w (.cells #[.int .i64 0, .int .i64 0, .string ⟨#[]⟩, .int .i32 0] 58) (.cells #[.int .i64 4, .int .i64 (k : Int), .string ⟨#[]⟩, .int .i32 0] 58)
   have hr1 := two_new w (.cells #[.int .i64 0, .int .i64 0, .string ⟨#[]⟩, .int .i32 0] 58) (.cells #[.int .i64 4, .int .i64 (k : Int), .string ⟨#[]⟩, .int .i32 0] 58)
   have hbw : Below w.heap.size w ((w.alloc (.cells #[.int .i64 0, .int .i64 0, .string ⟨#[]⟩, .int .i32 0] 58)).alloc (.cells #[.int .i64 4, .int .i64 (k : Int), .string ⟨#[]⟩, .int .i32 0] 58)) := ((Below.refl _ _).alloc (Nat.le_refl _) _).alloc (by simp) _
   have hOw := hO ((w.alloc (.cells #[.int .i64 0, .int .i64 0, .string ⟨#[]⟩, .int .i32 0] 58)).alloc (.cells #[.int .i64 4, .int .i64 (k : Int), .string ⟨#[]⟩, .int .i32 0] 58))
   have hsz : w.heap.size + 2 ≤ ((w.alloc (.cells #[.int .i64 0, .int .i64 0, .string ⟨#[]⟩, .int .i32 0] 58)).alloc (.cells #[.int .i64 4, .int .i64 (k : Int), .string ⟨#[]⟩, .int .i32 0] 58)).heap.size := by simp
   rcases hC with ⟨hok, rfl, hn1, hn2⟩ | ⟨hok, rfl, hdd⟩
   · simp only [hok, true_and] at HC hOw hn1 hn2 hdp
     have nz : ((n : Int) == 0) = false := by rw [beq_eq_false_iff_ne]; omega
     have hn4 : n ≤ 100000 := by rw [List.length_drop, bts_len] at hn2; omega
     clear hO hok hn2
     by_cases h10 : r = 10
     · have e10 : ((r : Int) == 10) = true := by rw [beq_iff_eq]; omega
       have HN : Hid (R = none) := hide (by rw [HC.out, if_neg (fun h => h h10)])
       clear HC h10
       go_enter Tryz.func74, Tryz.ntmps74
       go_wp2_with fail
       refine hOw.mono ?_
       rintro e w1 ⟨rfl, hb1⟩
       replace hr0 := (hb1.block w.heap.size (by omega)).trans hr0
       replace hr1 := (hb1.block (w.heap.size + 1) (by omega)).trans hr1
       have hbb := nx hbw hb1
       clear hOw hbw hb1 hsz
       obtain ⟨c0, c1, c2, c3⟩ := cells_four hr1
       obtain ⟨d0, d1, d2, d3⟩ := cells_four hr0
       have f0 := frozen_of_row w1 w.heap.size 0 _ _ hr0
       have f1 := frozen_of_row w1 w.heap.size 1 _ _ hr0
       have f2 := frozen_of_row w1 w.heap.size 2 _ _ hr0
       have f3 := frozen_of_row w1 w.heap.size 3 _ _ hr0
       go_wp2
       exact bodyPost_ret (v := .tuple #[tokV ⟨4, [], 0⟩ k, .int .i64 ((0 : Nat) : Int)]) (by unfold tokV; simp [results, Tryz.results74, go_sem, d0, d1, d2, d3]) rfl ⟨⟨_, _, rfl, (by rw [HN.out]; intro p h; cases h), fun _ => rfl⟩, four_set hbb _ _ _ _⟩
     · have e10 : ((r : Int) == 10) = false := by rw [beq_eq_false_iff_ne]; omega
       have HN : Hid (R = some (⟨4, [], (r : Int)⟩, n + 1)) := hide (by rw [HC.out, if_pos h10])
       clear HC h10
       go_enter Tryz.func74, Tryz.ntmps74
       go_wp2_with fail
       refine hOw.mono ?_
       rintro e w1 ⟨rfl, hb1⟩
       replace hr0 := (hb1.block w.heap.size (by omega)).trans hr0
       replace hr1 := (hb1.block (w.heap.size + 1) (by omega)).trans hr1
       have hbb := nx hbw hb1
       clear hOw hbw hb1 hsz
       obtain ⟨c0, c1, c2, c3⟩ := cells_four hr1
       obtain ⟨d0, d1, d2, d3⟩ := cells_four hr0
       have f0 := frozen_of_row w1 w.heap.size 0 _ _ hr0
       have f1 := frozen_of_row w1 w.heap.size 1 _ _ hr0
       have f2 := frozen_of_row w1 w.heap.size 2 _ _ hr0
       have f3 := frozen_of_row w1 w.heap.size 3 _ _ hr0
       have f6 := frozen_of_row w1 (w.heap.size + 1) 3 _ _ hr1
       go_wp2
       exact bodyPost_ret (v := .tuple #[tokV ⟨4, [], (r : Int)⟩ k, .int .i64 ((n + 1 : Nat) : Int)]) (by unfold tokV; simp [results, Tryz.results74, go_sem, d0, d1, d2, d3]; try omega) rfl ⟨⟨_, _, rfl, (by rw [HN.out]; intro p h; cases h; exact ⟨rfl, rfl⟩), (by rw [HN.out]; intro h; cases h)⟩, four_set (hbb.setCell (by simp) _) _ _ _ _⟩
   · cases hdd
     have HN : Hid (R = none) := hide (by rw [HC.out, if_neg (fun h => by rw [hok] at h; exact absurd h.1 (by decide))])
     clear hO hok HC hdp
     go_enter Tryz.func74, Tryz.ntmps74
     go_wp2_with fail
     refine hOw.mono ?_
     rintro e w1 ⟨rfl, hb1⟩
     replace hr0 := (hb1.block w.heap.size (by omega)).trans hr0
     replace hr1 := (hb1.block (w.heap.size + 1) (by omega)).trans hr1
     have hbb := nx hbw hb1
     clear hOw hbw hb1 hsz
     obtain ⟨c0, c1, c2, c3⟩ := cells_four hr1
     obtain ⟨d0, d1, d2, d3⟩ := cells_four hr0
     have f0 := frozen_of_row w1 w.heap.size 0 _ _ hr0
     have f1 := frozen_of_row w1 w.heap.size 1 _ _ hr0
     have f2 := frozen_of_row w1 w.heap.size 2 _ _ hr0
     have f3 := frozen_of_row w1 w.heap.size 3 _ _ hr0
     go_wp2
     exact bodyPost_ret (v := .tuple #[tokV ⟨4, [], 0⟩ k, .int .i64 ((0 : Nat) : Int)]) (by unfold tokV; simp [results, Tryz.results74, go_sem, d0, d1, d2, d3]) rfl ⟨⟨_, _, rfl, (by rw [HN.out]; intro p h; cases h), fun _ => rfl⟩, four_set hbb _ _ _ _⟩
 · have HN : Hid (X.charL ((bts s).drop (k + 1)) = none) := hide (by rw [List.drop_eq_nil_of_le (by rw [bts_len]; omega)]; rfl)
   have hO := fun w => oneOut_any s (k + 1) hlt w
   have hcast : ((k + 1 : Nat) : Int) = (k : Int) + 1 := by omega
   rw [hcast] at hO
   clear hcast
   have hr0 := two_old w (.cells #[.int .i64 0, .int .i64 0, .string ⟨#[]⟩, .int .i32 0] 58) (.cells #[.int .i64 4, .int .i64 (k : Int), .string ⟨#[]⟩, .int .i32 0] 58)
   have hr1 := two_new w (.cells #[.int .i64 0, .int .i64 0, .string ⟨#[]⟩, .int .i32 0] 58) (.cells #[.int .i64 4, .int .i64 (k : Int), .string ⟨#[]⟩, .int .i32 0] 58)
   have hbw : Below w.heap.size w ((w.alloc (.cells #[.int .i64 0, .int .i64 0, .string ⟨#[]⟩, .int .i32 0] 58)).alloc (.cells #[.int .i64 4, .int .i64 (k : Int), .string ⟨#[]⟩, .int .i32 0] 58)) := ((Below.refl _ _).alloc (Nat.le_refl _) _).alloc (by simp) _
   have hOw := hO ((w.alloc (.cells #[.int .i64 0, .int .i64 0, .string ⟨#[]⟩, .int .i32 0] 58)).alloc (.cells #[.int .i64 4, .int .i64 (k : Int), .string ⟨#[]⟩, .int .i32 0] 58))
   go_enter Tryz.func74, Tryz.ntmps74
   go_wp2_with fail
   refine hOw.mono ?_
   rintro e w1 ⟨rfl, hw1⟩
   rw [← hw1] at hr0 hr1 hbw
   clear hOw hO hw1
   obtain ⟨c0, c1, c2, c3⟩ := cells_four hr1
   obtain ⟨d0, d1, d2, d3⟩ := cells_four hr0
   have f0 := frozen_of_row w1 w.heap.size 0 _ _ hr0
   have f1 := frozen_of_row w1 w.heap.size 1 _ _ hr0
   have f2 := frozen_of_row w1 w.heap.size 2 _ _ hr0
   have f3 := frozen_of_row w1 w.heap.size 3 _ _ hr0
   go_wp2
   exact bodyPost_ret (v := .tuple #[tokV ⟨4, [], 0⟩ k, .int .i64 ((0 : Nat) : Int)]) (by unfold tokV; simp [results, Tryz.results74, go_sem, d0, d1, d2, d3]) rfl ⟨⟨_, _, rfl, (by rw [HN.out]; intro p h; cases h), fun _ => rfl⟩, four_set hbw _ _ _ _⟩
theorem two_below (w : World) (o p : Obj) : Below w.heap.size w ((w.alloc o).alloc p) := ((Below.refl _ _).alloc (Nat.le_refl _) _).alloc (by simp) _
section
variable {w : World} {ρ : Operand → Value} {o : Oper}
theorem Reg.ml32 {x y : Operand} {m n c : Int} (hop : o.op = .binOp .mul 21 x y 21) (hx : ρ x = .int .i32 m) (hy : ρ y = .int .i32 n) (h : IntKind.i32.wrap (m * n) = c) : (execOp ρ o).run Tryz.prog w = .ok (.value (.int .i32 c)) w := by
 obtain ⟨dst, op, type, pos, after, guard⟩ := o
 simp only at hop
 subst hop
 simp [execOp, hx, hy, eqGuard, h, go_sem]
theorem Reg.ad32 {x y : Operand} {m n c : Int} (hop : o.op = .binOp .add 21 x y 21) (hx : ρ x = .int .i32 m) (hy : ρ y = .int .i32 n) (h : IntKind.i32.wrap (m + n) = c) : (execOp ρ o).run Tryz.prog w = .ok (.value (.int .i32 c)) w := by
 obtain ⟨dst, op, type, pos, after, guard⟩ := o
 simp only at hop
 subst hop
 simp [execOp, hx, hy, eqGuard, h, go_sem]
theorem Reg.ixS {x y : Operand} {s : ByteArray} {q : Nat} {c : UInt8} (hop : o.op = .index 9 x y) (hx : ρ x = .string s) (hy : ρ y = .int .i64 (q : Int)) (hq : q < s.size) (hc : ∀ h, s[q]'h = c) : (execOp ρ o).run Tryz.prog w = .ok (.value (U8 c)) w := by
 obtain ⟨dst, op, type, pos, after, guard⟩ := o
 simp only at hop
 subst hop
 simp [execOp, hx, hy, go_sem, hq, hc, U8]
theorem Reg.fa3 {x : Operand} {b : Nat} (hop : o.op = .fieldAddr 58 x 3) (hx : ρ x = .pointer (some ⟨b, 0, none⟩)) : (execOp ρ o).run Tryz.prog w = .ok (.value (.pointer (some ⟨b, 3, none⟩))) w := by
 obtain ⟨dst, op, type, pos, after, guard⟩ := o
 simp only at hop
 subst hop
 simp [execOp, hx, go_sem]
end
theorem hexI_some {c : UInt8} {v : Nat} (h : X.hexv c = some v) : hexI c = (v : Int) := by unfold hexI; rw [h]
theorem hexI_none {c : UInt8} (h : X.hexv c = none) : hexI c = -1 := by unfold hexI; rw [h]
theorem hexv_lt {c : UInt8} {v : Nat} (h : X.hexv c = some v) : v < 16 := by
 unfold X.hexv at h
 split at h
 · rename_i hd; have := (isD_iff c).1 hd; cases h; omega
 · split at h
   · cases h; omega
   · split at h
     · cases h; omega
     · cases h
theorem tw_more {p : UInt8 → Bool} {l : List UInt8} {n : Nat} (hn : n ≤ l.length) (h : ∀ c ∈ l.take n, p c = true) : n ≤ (l.takeWhile p).length := by
 have e : l = l.take n ++ l.drop n := (List.take_append_drop n l).symm
 rw [e, List.takeWhile_append_of_pos h, List.length_append, List.length_take]
 omega
set_option maxRecDepth 100000 in
set_option maxHeartbeats 2000000 in
theorem char_num (s : ByteArray) (k : Nat) (hs : s.size ≤ 100000) (hl : k + 1 < (bts s).length) (h92 : (bts s)[k + 1] = 92) (w : World) : Calls Tryz.prog 74 #[.string s, .int .i64 (k : Int)] w fun e w' => AnsT (X.charL ((bts s).drop (k + 1))) k e ∧ Below w.heap.size w w' := by
 have hx := fun j hj h => idx_at (s := s) hl j hj h
 rw [h92] at hx
 have hlt : k + 1 < s.size := hl
 have hx2 : ∀ h, s[((k : Int) + 1).toNat]'h = 92 := fun h => hx ((k : Int) + 1) (by omega) h
 have hx3 : ∀ h, s[k + 1]'h = 92 := fun h => hx ((k + 1 : Nat) : Int) rfl h
 have HD : Hid (X.charL ((bts s).drop (k + 1)) = X.charN ((bts s).drop (k + 2))) := hide (by rw [List.drop_eq_getElem_cons hl, h92]; rfl)
 clear hx h92 hl
 generalize X.charL ((bts s).drop (k + 1)) = R at *
 by_cases h3 : k + 3 < s.size
 · obtain ⟨t, ht⟩ : ∃ t, s.extract (k + 2) (k + 4) = t := ⟨_, rfl⟩
   have hb := cut_bts s (k + 2) (k + 4)
   rw [ht, show k + 4 - (k + 2) = 2 by omega] at hb
   have ht2 : s.extract ((k : Int) + 2).toNat ((k : Int) + 4).toNat = t := ht
   have htl : t.toList = bts t := ByteArray.toList_eq t
   by_cases hq : bts t = [117, 123]
   · have hqq : (t.toList == [117, 123]) = true := by rw [htl, hq]; rfl
     have HL : Hid ((bts s).drop (k + 2) = 117 :: 123 :: (bts s).drop (k + 4)) := hide (by
       have := (List.take_append_drop 2 ((bts s).drop (k + 2))).symm
       rw [← hb, hq, List.drop_drop] at this
       exact this)
     obtain ⟨L, hL⟩ : ∃ L, (bts s).drop (k + 4) = L := ⟨_, rfl⟩
     have hLl : L.length = s.size - (k + 4) := by rw [← hL, List.length_drop, bts_len]
     have HLe := hide hL
     have HC : Hid (R = if 1 ≤ (L.takeWhile X.isH).length ∧ (L.takeWhile X.isH).length ≤ 6 ∧ X.hexN (L.takeWhile X.isH) ≤ 1114111 ∧ (L.drop (L.takeWhile X.isH).length).head? = some 125 then some (⟨4, [], (X.hexN (L.takeWhile X.isH) : Int)⟩, (L.takeWhile X.isH).length + 5) else none) := hide (by
       rw [HD.out, HL.out, hL]
       unfold X.charN
       simp only [true_and])
     clear hL HL HD hb hq htl ht
     go_enter Tryz.func74, Tryz.ntmps74
     go_wp2
     go_loopw [7] (fun u wr => ∃ (q n r : Nat), u = .int .i64 (q : Int) ∧ q ≤ k + 4 + n ∧ k + 4 + n ≤ q ∧ n ≤ 7 ∧ q ≤ s.size ∧ Hid (∀ c ∈ L.take n, X.isH c = true) ∧ Hid (X.hexN (L.take n) = r) ∧ r < 16 ^ n ∧ wr.heap[w.heap.size]? = some (.cells #[.int .i64 0, .int .i64 0, .string ⟨#[]⟩, .int .i32 0] 58) ∧ wr.heap[w.heap.size + 1]? = some (.cells #[.int .i64 4, .int .i64 (k : Int), .string ⟨#[]⟩, .int .i32 (r : Int)] 58) ∧ Below w.heap.size w wr) (fun u _ => s.size - (intOf u).toNat)
     case atStart => exact ⟨k + 4, 0, 0, by go_num, by omega, by omega, by omega, by omega, hide (by simp), hide rfl, by decide, two_old _ _ _, two_new _ _ _, two_below _ _ _⟩
     case round =>
       obtain ⟨q, n, r, rfl, hqk, hqk2, hn7, hqs, HA, HR, hrn, hr0, hr1, hb⟩ := hrel
       have hr32 : r < 268435456 := Nat.lt_of_lt_of_le hrn (Nat.pow_le_pow_right (by omega) hn7)
       obtain ⟨c0, c1, c2, c3⟩ := cells_four hr1
       obtain ⟨d0, d1, d2, d3⟩ := cells_four hr0
       have f0 := frozen_of_row wr w.heap.size 0 _ _ hr0
       have f1 := frozen_of_row wr w.heap.size 1 _ _ hr0
       have f2 := frozen_of_row wr w.heap.size 2 _ _ hr0
       have f3 := frozen_of_row wr w.heap.size 3 _ _ hr0
       have f3' := frozen_of_row wr (w.heap.size + 1) 3 _ _ hr1
       by_cases hlq : q < s.size
       · have hl : q < (bts s).length := hlq
         have hx := fun j hj h => idx_at (s := s) hl j hj h
         have HLn : Hid (∃ h : n < L.length, L[n] = (bts s)[q]) := hide (by
           have h : n < L.length := by omega
           refine ⟨h, ?_⟩
           have := HLe.out
           subst this
           simp only [List.getElem_drop, show k + 4 + n = q by omega])
         generalize (bts s)[q] = c at *
         have hxq : ∀ h, s[q]'h = c := fun h => hx (q : Int) rfl h
         clear hx
         have hhx := hexR_any c wr
         cases hv : X.hexv c with
         | none =>
           have hV := hexI_none hv
           have HTW : Hid ((L.takeWhile X.isH).length = n) := hide (by
             obtain ⟨h, e⟩ := HLn.out
             exact tw_len HA.out (.inr ⟨h, by rw [e]; unfold X.isH; rw [hv]; rfl⟩))
           have HTE : Hid (L.takeWhile X.isH = L.take n) := hide (by
             have := List.takeWhile_prefix (p := X.isH) (l := L)
             rw [List.prefix_iff_eq_take, HTW.out] at this
             exact this)
           rw [hV] at hhx
           have e125 : ((c.toNat : Int) == 125) = decide (c = 125) := u8_eq c 125
           have HC2 : Hid (R = if 1 ≤ n ∧ n ≤ 6 ∧ r ≤ 1114111 ∧ c = 125 then some (⟨4, [], (r : Int)⟩, n + 5) else none) := hide (by
             obtain ⟨h, e⟩ := HLn.out
             rw [HC.out, HTW.out, HTE.out, HR.out, List.drop_eq_getElem_cons h, e]
             simp only [List.head?_cons, Option.some.injEq])
           clear HC HTW HTE HLn HLe HA HR hv hV hrn
           by_cases hok : 1 ≤ n ∧ n ≤ 6 ∧ r ≤ 1114111 ∧ c = 125
           · have HN : Hid (R = some (⟨4, [], (r : Int)⟩, n + 5)) := hide (by rw [HC2.out, if_pos hok])
             obtain ⟨o1, o2, o3, o4⟩ := hok
             have n125 : ((c.toNat : Int) != 125) = false := by simp only [bne, e125, decide_eq_true o4, Bool.not_true]
             clear HC2 o4 e125
             go_wp2_with fail
             refine hhx.mono ?_
             rintro e w1 ⟨rfl, rfl⟩
             go_wp2
             exact bodyPost_ret (v := .tuple #[tokV ⟨4, [], (r : Int)⟩ k, .int .i64 ((n + 5 : Nat) : Int)]) (by unfold tokV; simp [results, Tryz.results74, go_sem, d0, d1, d2, d3]; try omega) rfl ⟨⟨_, _, rfl, (by rw [HN.out]; intro p h; cases h; exact ⟨rfl, rfl⟩), (by rw [HN.out]; intro h; cases h)⟩, four_set hb _ _ _ _⟩
           · have HN : Hid (R = none) := hide (by rw [HC2.out, if_neg hok])
             clear HC2
             have n125 : ((c.toNat : Int) != 125) = !decide (c = 125) := by simp only [bne, e125]
             clear e125
             cases o4 : decide (c = 125) with
             | true =>
               rw [o4] at n125
               have hok2 : ¬ (1 ≤ n ∧ n ≤ 6 ∧ r ≤ 1114111) := fun h => hok ⟨h.1, h.2.1, h.2.2, of_decide_eq_true o4⟩
               clear hok o4
               go_wp2_with fail
               refine hhx.mono ?_
               rintro e w1 ⟨rfl, rfl⟩
               go_wp2
               all_goals exact bodyPost_ret (v := .tuple #[tokV ⟨4, [], (r : Int)⟩ k, .int .i64 ((0 : Nat) : Int)]) (by unfold tokV; simp [results, Tryz.results74, go_sem, d0, d1, d2, d3]) rfl ⟨⟨_, _, rfl, (by rw [HN.out]; intro p h; cases h), fun _ => rfl⟩, four_set hb _ _ _ _⟩
             | false =>
               rw [o4] at n125
               clear hok o4
               go_wp2_with fail
               refine hhx.mono ?_
               rintro e w1 ⟨rfl, rfl⟩
               go_wp2
               all_goals exact bodyPost_ret (v := .tuple #[tokV ⟨4, [], (r : Int)⟩ k, .int .i64 ((0 : Nat) : Int)]) (by unfold tokV; simp [results, Tryz.results74, go_sem, d0, d1, d2, d3]) rfl ⟨⟨_, _, rfl, (by rw [HN.out]; intro p h; cases h), fun _ => rfl⟩, four_set hb _ _ _ _⟩
         | some v =>
           have hV := hexI_some hv
           have hv16 := hexv_lt hv
           by_cases h7 : n = 7
           · have HN : Hid (R = none) := hide (by
               have := tw_more (l := L) (by omega) HA.out
               rw [HC.out, if_neg (by omega)])
             rw [hV] at hhx
             have h7' : 7 ≤ n := by omega
             clear HC HLn HLe HA HR hv hV hrn h7
             go_wp2_with fail
             refine hhx.mono ?_
             rintro e w1 ⟨rfl, rfl⟩
             go_wp2
             all_goals exact bodyPost_ret (v := .tuple #[tokV ⟨4, [], (r : Int)⟩ k, .int .i64 ((0 : Nat) : Int)]) (by unfold tokV; simp [results, Tryz.results74, go_sem, d0, d1, d2, d3]) rfl ⟨⟨_, _, rfl, (by rw [HN.out]; intro p h; cases h), fun _ => rfl⟩, four_set hb _ _ _ _⟩
           · have HV := hide hV
             have hrb : r ≤ 16777215 := by
               have : 16 ^ n ≤ 16 ^ 6 := Nat.pow_le_pow_right (by omega) (by omega)
               omega
             have hm16 : IntKind.i32.wrap ((r : Int) * 16) = (r : Int) * 16 := by rw [IntKind.wrap_i32]; omega
             have had : IntKind.i32.wrap ((r : Int) * 16 + (v : Int)) = (r : Int) * 16 + (v : Int) := by rw [IntKind.wrap_i32]; omega
             have HA2 : Hid (∀ c ∈ L.take (n + 1), X.isH c = true) := hide (by
               obtain ⟨h, e⟩ := HLn.out
               intro x hx
               rw [List.take_succ_eq_append_getElem h, e] at hx
               exact (List.mem_append.1 hx).elim (HA.out x) (fun h => by simp at h; rw [h]; unfold X.isH; rw [hv]; rfl))
             have HR2 : Hid (X.hexN (L.take (n + 1)) = r * 16 + v) := hide (by
               obtain ⟨h, e⟩ := HLn.out
               rw [List.take_succ_eq_append_getElem h, e, X.hexN_snoc, HR.out, hv]
               rfl)
             have HP : Hid (r * 16 + v < 16 ^ (n + 1)) := hide (by rw [Nat.pow_succ]; omega)
             rw [hV] at hhx
             clear hV hv HA HR HLn hrn
             go_wp2_with fail
             refine hhx.mono ?_
             rintro e w1 ⟨rfl, rfl⟩
             go_wp2_with fail
             refine Rst.start 9 (fun w' => w' = w1.drew) (by kernel_rfl) ?_
             refine Rst.take (fun _ _ _ _ _ h => h) 0 _ 59 (.pointer (some ⟨w.heap.size + 1, 3, none⟩)) rfl (by kernel_rfl) rfl (by kernel_rfl) (by kernel_rfl) rfl (fun _ _ => Reg.fa3 rfl rfl) ?_
             refine Rst.take (fun _ _ _ _ _ h => h) 1 _ 60 (.int .i32 (r : Int)) rfl (by kernel_rfl) rfl (by kernel_rfl) (by kernel_rfl) rfl (fun w' hw => by rw [hw]; exact Reg.ld1 rfl rfl c3 (Tryz.isAgg21 _)) ?_
             refine Rst.take (fun _ _ _ _ _ h => h) 2 _ 61 (.int .i32 ((r : Int) * 16)) rfl (by kernel_rfl) rfl (by kernel_rfl) (by kernel_rfl) rfl (fun _ _ => Reg.ml32 rfl rfl rfl hm16) ?_
             refine Rst.take (fun _ _ _ _ _ h => h) 3 _ 62 (.string s) rfl (by kernel_rfl) rfl (by kernel_rfl) (by kernel_rfl) rfl (fun _ _ => Reg.mv rfl rfl) ?_
             refine Rst.take (fun _ _ _ _ _ h => h) 4 _ 63 (.int .i64 (q : Int)) rfl (by kernel_rfl) rfl (by kernel_rfl) (by kernel_rfl) rfl (fun _ _ => Reg.mv rfl rfl) ?_
             refine Rst.take (fun _ _ _ _ _ h => h) 5 _ 64 (U8 c) rfl (by kernel_rfl) rfl (by kernel_rfl) (by kernel_rfl) rfl (fun _ _ => Reg.ixS rfl rfl rfl hlq hxq) ?_
             refine Rst.call 6 _ 65 108 _ _ #[U8 c] rfl (by kernel_rfl) rfl (by kernel_rfl) (by kernel_rfl) rfl (by kernel_rfl) (by kernel_rfl) (hexR_any c w1.drew) ?_
             rintro e w4 ⟨rfl, rfl⟩
             rw [HV.out]
             refine ⟨_, rfl, rfl, ?_⟩
             refine Rst.take (fun _ _ _ _ _ h => h) 7 _ 66 (.int .i32 ((r : Int) * 16 + (v : Int))) rfl (by kernel_rfl) rfl (by kernel_rfl) (by kernel_rfl) rfl (fun _ _ => Reg.ad32 rfl rfl rfl had) ?_
             refine Rst.take (fun _ _ _ _ _ h => h) 8 _ 67 (.pointer (some ⟨w.heap.size + 1, 3, none⟩)) rfl (by kernel_rfl) rfl (by kernel_rfl) (by kernel_rfl) rfl (fun _ _ => Reg.fa3 rfl rfl) ?_
             refine Rst.last _ rfl (by kernel_rfl) rfl (by kernel_rfl) (by kernel_rfl) ⟨_, Reg.st1 rfl rfl rfl c3 f3' (.inl ⟨_, _, rfl⟩) (by kernel_rfl), ?_⟩
             refine Rst.done (by kernel_rfl) ?_
             simp only [Reg.ov, Act.put, List.setIfInBounds_toArray, List.set_cons_succ, List.set_cons_zero]
             go_wp2
             have hB1 : (w1.drew.setCell ⟨w.heap.size + 1, 3, none⟩ (.int .i32 ((r : Int) * 16 + (v : Int)))).heap[w.heap.size + 1]? = some (.cells #[.int .i64 4, .int .i64 (k : Int), .string ⟨#[]⟩, .int .i32 ((r * 16 + v : Nat) : Int)] 58) := by
               rw [heap_setCell_same w1.drew (w.heap.size + 1) 3 _ 58 _ hr1]
               simp
             have hB0 : (w1.drew.setCell ⟨w.heap.size + 1, 3, none⟩ (.int .i32 ((r : Int) * 16 + (v : Int)))).heap[w.heap.size]? = some (.cells #[.int .i64 0, .int .i64 0, .string ⟨#[]⟩, .int .i32 0] 58) := by
               rw [heap_setCell_other _ _ _ _ (by simp)]
               exact hr0
             go_roundw
             case rel => exact ⟨q + 1, n + 1, r * 16 + v, by go_num, by omega, by omega, by omega, by omega, HA2, HR2, HP.out, hB0, hB1, (hb.drew).setCell (by simp) _⟩
             case measure => simp [intOf]; omega
       · have HTW : Hid ((L.takeWhile X.isH).length = n) := hide (tw_len HA.out (.inl (by omega)))
         have HN : Hid (R = none) := hide (by
           rw [HC.out, HTW.out, List.drop_eq_nil_of_le (by omega), if_neg (by simp)])
         clear HC HTW HLe HA HR hrn
         go_wp2
         all_goals exact bodyPost_ret (v := .tuple #[tokV ⟨4, [], (r : Int)⟩ k, .int .i64 ((0 : Nat) : Int)]) (by unfold tokV; simp [results, Tryz.results74, go_sem, d0, d1, d2, d3]) rfl ⟨⟨_, _, rfl, (by rw [HN.out]; intro p h; cases h), fun _ => rfl⟩, four_set hb _ _ _ _⟩
   · have hqq : (t.toList == [117, 123]) = false := by rw [htl, beq_eq_false_iff_ne]; exact hq
     have HN : Hid (R = none) := hide (by
       rw [HD.out]
       unfold X.charN
       split
       · rename_i x y h he
         rw [if_neg]
         rintro ⟨rfl, rfl, _⟩
         apply hq
         rw [hb, he]
         rfl
       · rfl)
     clear HD hb hq htl ht
     go_enter Tryz.func74, Tryz.ntmps74
     go_wp2
     exact bodyPost_ret (v := .tuple #[tokV ⟨4, [], 0⟩ k, .int .i64 ((0 : Nat) : Int)]) (by unfold tokV; simp [results, Tryz.results74, go_sem]) rfl ⟨⟨_, _, rfl, (by rw [HN.out]; intro p h; cases h), fun _ => rfl⟩, two_below w _ _⟩
 · have HN : Hid (R = none) := hide (by
     rw [HD.out]
     have : ((bts s).drop (k + 2)).length ≤ 1 := by rw [List.length_drop, bts_len]; omega
     unfold X.charN
     split
     · rename_i h; rw [h] at this; simp at this
     · rfl)
   clear HD
   go_enter Tryz.func74, Tryz.ntmps74
   go_wp2
   exact bodyPost_ret (v := .tuple #[tokV ⟨4, [], 0⟩ k, .int .i64 ((0 : Nat) : Int)]) (by unfold tokV; simp [results, Tryz.results74, go_sem]) rfl ⟨⟨_, _, rfl, (by rw [HN.out]; intro p h; cases h), fun _ => rfl⟩, two_below w _ _⟩
end Go.Proofs.YtamhjnemmdcniaaGreatDoor
