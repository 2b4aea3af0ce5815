/- Joined: UOrdd UOrde. -/
import Derived.Sort.WalkA6
import Derived.Test.YtgngaldoemopjaaGreatDoorFUOrdb
import Derived.Shelf.SlSortCmp.Xorshift
import Derived.RangeFuncBox
import Derived.Test.YtgngaldoemopjaaGreatDoorFSqr
namespace Go.Proofs.YtgngaldoemopjaaGreatDoor.U
open Go.RowKit
set_option maxRecDepth 100000 in
set_option maxHeartbeats 12000000 in
theorem pins_any (w0 : World) (b off cap : Nat) (d : Array Int) (i0 j0 : Nat) (W : World) (h : Rw w0 b off d W) (hij : i0 < j0) (hj : j0 ≤ d.size) (hs : d.size ≤ 1000000) :
   Calls Tryz.prog 203 #[.slice (some ⟨b, off, none⟩) d.size cap, .int .i64 i0, .int .i64 j0] W fun e W' => ∃ (d' : Array Int) (r : Bool), e = .returned (.bool r) ∧ Sort.partialInsertionSort Sort.ltInt d i0 j0 = (d', r) ∧ Rw w0 b off d' W' := by
 generalize hN : d.size = N at hj hs ⊢
 go_enter Tryz.func203, Tryz.ntmps203
 go_wp2
 go_loopw [7, 8] (fun v u wr => ∃ (i s : Nat) (dk : Array Int), v = .int .i64 (i : Int) ∧ u = .int .i64 (s : Int) ∧ i0 < i ∧ i ≤ j0 ∧ s ≤ 5 ∧ Hid (dk.size = N) ∧ Rw w0 b off dk wr ∧ Hid (Sort.partialIns Sort.ltInt i0 j0 (5 - s) i dk = Sort.partialInsertionSort Sort.ltInt d i0 j0)) (fun _ u _ => 5 - (intOf u).toNat)
 case atStart => exact ⟨i0 + 1, 0, d, by go_num, rfl, by omega, by omega, by omega, hid hN, h, hid rfl⟩
 case round =>
   obtain ⟨i, s, dk, rfl, rfl, h1, h2, h3, hk, hr, HE⟩ := hrel
   by_cases hs5 : s < 5
   · go_wp2
     go_loopw [7] (fun v wq => ∃ k : Nat, v = .int .i64 (k : Int) ∧ i ≤ k ∧ k ≤ j0 ∧ Rw w0 b off dk wq ∧ Hid (Sort.scanSorted Sort.ltInt dk j0 k = Sort.scanSorted Sort.ltInt dk j0 i)) (fun v _ => j0 - (intOf v).toNat)
     case atStart => exact ⟨i, rfl, Nat.le_refl _, h2, hr, hid rfl⟩
     case round =>
       clear hr h2 h3
       obtain ⟨k, rfl, hk1, hk2, hr, HU⟩ := hrel
       obtain ⟨G, HG, hc, hf⟩ := hr.fam hk.out
       by_cases hk3 : k < j0
       · go_wp2_with fail
         go_big_quiet (first | (go_at_call 204; refine Calls.quiet_of_same (less_any _ _ _)))
         cases hl : Sort.ltInt (G k) (G (k - 1)) with
         | false =>
           have HL := hid hl
           clear hl
           go_wp2
           go_roundw
           case rel => exact ⟨k + 1, by go_num, by omega, by omega, hr.draw nq, hid (by rw [← HU.out, ← Proofs.scanSorted_go _ _ _ _ hk3 (by rw [← HG.out, ← HG.out]; exact HL.out)])⟩
           case measure => simp [intOf]; omega
         | true =>
           have HK : Hid (Sort.scanSorted Sort.ltInt dk j0 i = k) := hid (by rw [← HU.out, Proofs.scanSorted_stop _ _ _ _ (.inr (by rw [← HG.out, ← HG.out]; exact hl))])
           clear HU hl
           replace hr := hr.draw nq
           replace hc : ∀ t, t < N → (wr.drewN nq).cell? ⟨b, off + t, none⟩ = some (.int .i32 (G t)) := hc
           replace hf : ∀ t, t < N → (wr.drewN nq).frozen? ⟨b, off + t, none⟩ = false := hf
           generalize wr.drewN nq = wy at *
           clear nq
           have hne : ¬ ((k : Int) = (j0 : Int)) := by omega
           have hne2 : ¬ (k = j0) := by omega
           by_cases h50 : j0 - i0 < 50
           · have h50z : (j0 : Int) - (i0 : Int) < 50 := by omega
             have HM : Hid (Sort.partialInsertionSort Sort.ltInt d i0 j0 = (dk, false)) := hid (by rw [← HE.out, Proofs.pi_short _ _ _ _ _ _ hs5 (by rw [HK.out]; omega) h50])
             go_wp2
             go_ret
             exact ⟨dk, false, rfl, HM.out, hr⟩
           · have h50z : (50 : Int) ≤ (j0 : Int) - (i0 : Int) := by omega
             by_cases h2 : k - i0 ≥ 2
             · by_cases h3 : j0 - k ≥ 2
               · skip
                 have h2z : (2 : Int) ≤ (k : Int) - (i0 : Int) := by omega
                 have h3z : (2 : Int) ≤ (j0 : Int) - (k : Int) := by omega
                 go_wp2_with fail
                 go_region
                 replace hr := hr.swapAt k (k - 1) (by rw [hk.out]; omega) (by rw [hk.out]; omega) rfl rfl (HG.out _) (HG.out _)
                 have hks : Hid ((Sort.swp dk k (k - 1)).size = N) := hid (by rw [Sort.size_swp]; exact hk.out)
                 clear hc hf HG hk
                 generalize ((wy.setCell ⟨b, off + k, none⟩ (.int .i32 (G (k - 1)))).setCell ⟨b, off + (k - 1), none⟩ (.int .i32 (G k))).drew = wz at *
                 go_wp2
                 go_loopw [9] (fun v wq => ∃ (q : Nat) (dn : Array Int), v = .int .i64 (q : Int) ∧ q < k ∧ Hid (dn.size = N) ∧ Rw w0 b off dn wq ∧ Hid (Sort.shiftDown Sort.ltInt q dn = Sort.shiftDown Sort.ltInt (k - 1) (Sort.swp dk k (k - 1)))) (fun v _ => (intOf v).toNat)
                 case atStart => exact ⟨k - 1, _, by go_num, by omega, hks, hr, hid rfl⟩
                 case round =>
                   clear hr
                   obtain ⟨q, dn, rfl, hq1, hkn, hr, HQ⟩ := hrel
                   obtain ⟨G2, HG2, hc, hf⟩ := hr.fam hkn.out
                   by_cases hq3 : 1 ≤ q
                   · have hq3z : (1 : Int) ≤ (q : Int) := by omega
                     go_wp2_with fail
                     go_big_quiet (first | (go_at_call 204; refine Calls.quiet_of_same (less_any _ _ _)))
                     go_wp2_with fail
                     · have hl : Hid (Sort.ltInt (G2 q) (G2 (q - 1)) = false) := hid (by have h9 : (!Sort.ltInt (G2 q) (G2 (q - 1))) = true := (by assumption); simpa using h9)
                       replace hr := hr.draw nq
                       generalize wr.drewN nq = wx at *
                       clear nq hc hf
                       have HDN : Hid (dn = Sort.fixDown Sort.ltInt i0 k (Sort.swp dk k (k - 1))) := hid (by rw [Sort.fixDown, if_pos h2, ← HQ.out, Proofs.shiftDown_stop _ _ _ (.inr (by rw [← HG2.out, ← HG2.out]; exact hl.out))])
                       clear HQ
                       go_wp2
                       go_loopw [10] (fun v wq => ∃ (q : Nat) (dq : Array Int), v = .int .i64 (q : Int) ∧ k + 1 ≤ q ∧ q ≤ j0 ∧ Hid (dq.size = N) ∧ Rw w0 b off dq wq ∧ Hid (Sort.shiftUp Sort.ltInt j0 q dq = Sort.shiftUp Sort.ltInt j0 (k + 1) dn)) (fun v _ => j0 - (intOf v).toNat)
                       case atStart => exact ⟨k + 1, dn, by go_num, Nat.le_refl _, by omega, hkn, hr, hid rfl⟩
                       case round =>
                         clear hr
                         obtain ⟨q, dq, rfl, hq1, hq2, hkq, hr, HQ⟩ := hrel
                         obtain ⟨G, HG, hc, hf⟩ := hr.fam hkq.out
                         by_cases hq3 : q < j0
                         · go_wp2_with fail
                           go_big_quiet (first | (go_at_call 204; refine Calls.quiet_of_same (less_any _ _ _)))
                           go_wp2_with fail
                           · have hl : Hid (Sort.ltInt (G q) (G (q - 1)) = false) := hid (by have h9 : (!Sort.ltInt (G q) (G (q - 1))) = true := (by assumption); simpa using h9)
                             replace hr := hr.draw nq
                             have HN : Hid (Sort.partialIns Sort.ltInt i0 j0 (5 - (s + 1)) k dq = Sort.partialInsertionSort Sort.ltInt d i0 j0) := hid (by rw [← HE.out, Proofs.pi_go _ _ _ _ _ _ _ hs5 HK.out (by omega) h50, ← HDN.out]; exact congrArg _ (by rw [Sort.fixUp, if_pos h3, ← HQ.out, Proofs.shiftUp_stop _ _ _ _ (.inr (by rw [← HG.out, ← HG.out]; exact hl.out))]))
                             go_wp2
                             go_roundw
                             case rel => exact ⟨k, s + 1, dq, rfl, by go_num, by omega, by omega, by omega, hkq, hr, HN⟩
                             case measure => simp [intOf]; omega
                           · have hl : Hid (Sort.ltInt (G q) (G (q - 1)) = true) := hid (by have h9 : (!Sort.ltInt (G q) (G (q - 1))) = false := (by assumption); simpa using h9)
                             replace hr := hr.draw nq
                             replace hc : ∀ t, t < N → (wr.drewN nq).cell? ⟨b, off + t, none⟩ = some (.int .i32 (G t)) := hc
                             replace hf : ∀ t, t < N → (wr.drewN nq).frozen? ⟨b, off + t, none⟩ = false := hf
                             generalize wr.drewN nq = wv at *
                             clear nq
                             go_region
                             go_wp2
                             go_roundw
                             case rel => exact ⟨q + 1, Sort.swp dq q (q - 1), by go_num, by omega, by omega, hid (by rw [Sort.size_swp]; exact hkq.out), hr.swapAt q (q - 1) (by rw [hkq.out]; omega) (by rw [hkq.out]; omega) (by omega) (by omega) (HG.out _) (HG.out _), hid (by rw [← HQ.out, Proofs.shiftUp_go _ _ _ _ hq3 (by rw [← HG.out, ← HG.out]; exact hl.out)])⟩
                             case measure => simp [intOf]; omega
                         · clear hc hf
                           have HN : Hid (Sort.partialIns Sort.ltInt i0 j0 (5 - (s + 1)) k dq = Sort.partialInsertionSort Sort.ltInt d i0 j0) := hid (by rw [← HE.out, Proofs.pi_go _ _ _ _ _ _ _ hs5 HK.out (by omega) h50, ← HDN.out]; exact congrArg _ (by rw [Sort.fixUp, if_pos h3, ← HQ.out, Proofs.shiftUp_stop _ _ _ _ (.inl hq3)]))
                           go_wp2
                           go_roundw
                           case rel => exact ⟨k, s + 1, dq, rfl, by go_num, by omega, by omega, by omega, hkq, hr, HN⟩
                           case measure => simp [intOf]; omega
                     · have hl : Hid (Sort.ltInt (G2 q) (G2 (q - 1)) = true) := hid (by have h9 : (!Sort.ltInt (G2 q) (G2 (q - 1))) = false := (by assumption); simpa using h9)
                       replace hr := hr.draw nq
                       replace hc : ∀ t, t < N → (wr.drewN nq).cell? ⟨b, off + t, none⟩ = some (.int .i32 (G2 t)) := hc
                       replace hf : ∀ t, t < N → (wr.drewN nq).frozen? ⟨b, off + t, none⟩ = false := hf
                       generalize wr.drewN nq = wv at *
                       clear nq
                       go_region
                       go_wp2
                       go_roundw
                       case rel => exact ⟨q - 1, Sort.swp dn q (q - 1), by go_num, by omega, hid (by rw [Sort.size_swp]; exact hkn.out), hr.swapAt q (q - 1) (by rw [hkn.out]; omega) (by rw [hkn.out]; omega) (by omega) (by omega) (HG2.out _) (HG2.out _), hid (by rw [← HQ.out, Proofs.shiftDown_go _ _ _ hq3 (by rw [← HG2.out, ← HG2.out]; exact hl.out)])⟩
                       case measure => simp [intOf]; omega
                   · have hq3z : ¬ ((1 : Int) ≤ (q : Int)) := by omega
                     clear hc hf
                     have HDN : Hid (dn = Sort.fixDown Sort.ltInt i0 k (Sort.swp dk k (k - 1))) := hid (by rw [Sort.fixDown, if_pos h2, ← HQ.out, Proofs.shiftDown_stop _ _ _ (.inl (by omega))])
                     clear HQ
                     go_wp2
                     go_loopw [10] (fun v wq => ∃ (q : Nat) (dq : Array Int), v = .int .i64 (q : Int) ∧ k + 1 ≤ q ∧ q ≤ j0 ∧ Hid (dq.size = N) ∧ Rw w0 b off dq wq ∧ Hid (Sort.shiftUp Sort.ltInt j0 q dq = Sort.shiftUp Sort.ltInt j0 (k + 1) dn)) (fun v _ => j0 - (intOf v).toNat)
                     case atStart => exact ⟨k + 1, dn, by go_num, Nat.le_refl _, by omega, hkn, hr, hid rfl⟩
                     case round =>
                       clear hr
                       obtain ⟨q, dq, rfl, hq1, hq2, hkq, hr, HQ⟩ := hrel
                       obtain ⟨G, HG, hc, hf⟩ := hr.fam hkq.out
                       by_cases hq3 : q < j0
                       · go_wp2_with fail
                         go_big_quiet (first | (go_at_call 204; refine Calls.quiet_of_same (less_any _ _ _)))
                         go_wp2_with fail
                         · have hl : Hid (Sort.ltInt (G q) (G (q - 1)) = false) := hid (by have h9 : (!Sort.ltInt (G q) (G (q - 1))) = true := (by assumption); simpa using h9)
                           replace hr := hr.draw nq
                           have HN : Hid (Sort.partialIns Sort.ltInt i0 j0 (5 - (s + 1)) k dq = Sort.partialInsertionSort Sort.ltInt d i0 j0) := hid (by rw [← HE.out, Proofs.pi_go _ _ _ _ _ _ _ hs5 HK.out (by omega) h50, ← HDN.out]; exact congrArg _ (by rw [Sort.fixUp, if_pos h3, ← HQ.out, Proofs.shiftUp_stop _ _ _ _ (.inr (by rw [← HG.out, ← HG.out]; exact hl.out))]))
                           go_wp2
                           go_roundw
                           case rel => exact ⟨k, s + 1, dq, rfl, by go_num, by omega, by omega, by omega, hkq, hr, HN⟩
                           case measure => simp [intOf]; omega
                         · have hl : Hid (Sort.ltInt (G q) (G (q - 1)) = true) := hid (by have h9 : (!Sort.ltInt (G q) (G (q - 1))) = false := (by assumption); simpa using h9)
                           replace hr := hr.draw nq
                           replace hc : ∀ t, t < N → (wr.drewN nq).cell? ⟨b, off + t, none⟩ = some (.int .i32 (G t)) := hc
                           replace hf : ∀ t, t < N → (wr.drewN nq).frozen? ⟨b, off + t, none⟩ = false := hf
                           generalize wr.drewN nq = wv at *
                           clear nq
                           go_region
                           go_wp2
                           go_roundw
                           case rel => exact ⟨q + 1, Sort.swp dq q (q - 1), by go_num, by omega, by omega, hid (by rw [Sort.size_swp]; exact hkq.out), hr.swapAt q (q - 1) (by rw [hkq.out]; omega) (by rw [hkq.out]; omega) (by omega) (by omega) (HG.out _) (HG.out _), hid (by rw [← HQ.out, Proofs.shiftUp_go _ _ _ _ hq3 (by rw [← HG.out, ← HG.out]; exact hl.out)])⟩
                           case measure => simp [intOf]; omega
                       · clear hc hf
                         have HN : Hid (Sort.partialIns Sort.ltInt i0 j0 (5 - (s + 1)) k dq = Sort.partialInsertionSort Sort.ltInt d i0 j0) := hid (by rw [← HE.out, Proofs.pi_go _ _ _ _ _ _ _ hs5 HK.out (by omega) h50, ← HDN.out]; exact congrArg _ (by rw [Sort.fixUp, if_pos h3, ← HQ.out, Proofs.shiftUp_stop _ _ _ _ (.inl hq3)]))
                         go_wp2
                         go_roundw
                         case rel => exact ⟨k, s + 1, dq, rfl, by go_num, by omega, by omega, by omega, hkq, hr, HN⟩
                         case measure => simp [intOf]; omega
               · skip
                 have h2z : (2 : Int) ≤ (k : Int) - (i0 : Int) := by omega
                 have h3z : ¬ ((2 : Int) ≤ (j0 : Int) - (k : Int)) := by omega
                 go_wp2_with fail
                 go_region
                 replace hr := hr.swapAt k (k - 1) (by rw [hk.out]; omega) (by rw [hk.out]; omega) rfl rfl (HG.out _) (HG.out _)
                 have hks : Hid ((Sort.swp dk k (k - 1)).size = N) := hid (by rw [Sort.size_swp]; exact hk.out)
                 clear hc hf HG hk
                 generalize ((wy.setCell ⟨b, off + k, none⟩ (.int .i32 (G (k - 1)))).setCell ⟨b, off + (k - 1), none⟩ (.int .i32 (G k))).drew = wz at *
                 go_wp2
                 go_loopw [9] (fun v wq => ∃ (q : Nat) (dn : Array Int), v = .int .i64 (q : Int) ∧ q < k ∧ Hid (dn.size = N) ∧ Rw w0 b off dn wq ∧ Hid (Sort.shiftDown Sort.ltInt q dn = Sort.shiftDown Sort.ltInt (k - 1) (Sort.swp dk k (k - 1)))) (fun v _ => (intOf v).toNat)
                 case atStart => exact ⟨k - 1, _, by go_num, by omega, hks, hr, hid rfl⟩
                 case round =>
                   clear hr
                   obtain ⟨q, dn, rfl, hq1, hkn, hr, HQ⟩ := hrel
                   obtain ⟨G2, HG2, hc, hf⟩ := hr.fam hkn.out
                   by_cases hq3 : 1 ≤ q
                   · have hq3z : (1 : Int) ≤ (q : Int) := by omega
                     go_wp2_with fail
                     go_big_quiet (first | (go_at_call 204; refine Calls.quiet_of_same (less_any _ _ _)))
                     go_wp2_with fail
                     · have hl : Hid (Sort.ltInt (G2 q) (G2 (q - 1)) = false) := hid (by have h9 : (!Sort.ltInt (G2 q) (G2 (q - 1))) = true := (by assumption); simpa using h9)
                       replace hr := hr.draw nq
                       generalize wr.drewN nq = wx at *
                       clear nq hc hf
                       have HDN : Hid (dn = Sort.fixDown Sort.ltInt i0 k (Sort.swp dk k (k - 1))) := hid (by rw [Sort.fixDown, if_pos h2, ← HQ.out, Proofs.shiftDown_stop _ _ _ (.inr (by rw [← HG2.out, ← HG2.out]; exact hl.out))])
                       clear HQ
                       have HN : Hid (Sort.partialIns Sort.ltInt i0 j0 (5 - (s + 1)) k dn = Sort.partialInsertionSort Sort.ltInt d i0 j0) := hid (by rw [← HE.out, Proofs.pi_go _ _ _ _ _ _ _ hs5 HK.out (by omega) h50, ← HDN.out]; exact congrArg _ (by rw [Sort.fixUp, if_neg (by omega)]))
                       go_wp2
                       go_roundw
                       case rel => exact ⟨k, s + 1, dn, rfl, by go_num, by omega, by omega, by omega, hkn, hr, HN⟩
                       case measure => simp [intOf]; omega
                     · have hl : Hid (Sort.ltInt (G2 q) (G2 (q - 1)) = true) := hid (by have h9 : (!Sort.ltInt (G2 q) (G2 (q - 1))) = false := (by assumption); simpa using h9)
                       replace hr := hr.draw nq
                       replace hc : ∀ t, t < N → (wr.drewN nq).cell? ⟨b, off + t, none⟩ = some (.int .i32 (G2 t)) := hc
                       replace hf : ∀ t, t < N → (wr.drewN nq).frozen? ⟨b, off + t, none⟩ = false := hf
                       generalize wr.drewN nq = wv at *
                       clear nq
                       go_region
                       go_wp2
                       go_roundw
                       case rel => exact ⟨q - 1, Sort.swp dn q (q - 1), by go_num, by omega, hid (by rw [Sort.size_swp]; exact hkn.out), hr.swapAt q (q - 1) (by rw [hkn.out]; omega) (by rw [hkn.out]; omega) (by omega) (by omega) (HG2.out _) (HG2.out _), hid (by rw [← HQ.out, Proofs.shiftDown_go _ _ _ hq3 (by rw [← HG2.out, ← HG2.out]; exact hl.out)])⟩
                       case measure => simp [intOf]; omega
                   · have hq3z : ¬ ((1 : Int) ≤ (q : Int)) := by omega
                     clear hc hf
                     have HDN : Hid (dn = Sort.fixDown Sort.ltInt i0 k (Sort.swp dk k (k - 1))) := hid (by rw [Sort.fixDown, if_pos h2, ← HQ.out, Proofs.shiftDown_stop _ _ _ (.inl (by omega))])
                     clear HQ
                     have HN : Hid (Sort.partialIns Sort.ltInt i0 j0 (5 - (s + 1)) k dn = Sort.partialInsertionSort Sort.ltInt d i0 j0) := hid (by rw [← HE.out, Proofs.pi_go _ _ _ _ _ _ _ hs5 HK.out (by omega) h50, ← HDN.out]; exact congrArg _ (by rw [Sort.fixUp, if_neg (by omega)]))
                     go_wp2
                     go_roundw
                     case rel => exact ⟨k, s + 1, dn, rfl, by go_num, by omega, by omega, by omega, hkn, hr, HN⟩
                     case measure => simp [intOf]; omega
             · by_cases h3 : j0 - k ≥ 2
               · skip
                 have h2z : ¬ ((2 : Int) ≤ (k : Int) - (i0 : Int)) := by omega
                 have h3z : (2 : Int) ≤ (j0 : Int) - (k : Int) := by omega
                 go_wp2_with fail
                 go_region
                 replace hr := hr.swapAt k (k - 1) (by rw [hk.out]; omega) (by rw [hk.out]; omega) rfl rfl (HG.out _) (HG.out _)
                 have hks : Hid ((Sort.swp dk k (k - 1)).size = N) := hid (by rw [Sort.size_swp]; exact hk.out)
                 clear hc hf HG hk
                 generalize ((wy.setCell ⟨b, off + k, none⟩ (.int .i32 (G (k - 1)))).setCell ⟨b, off + (k - 1), none⟩ (.int .i32 (G k))).drew = wz at *
                 obtain ⟨dn, HDN⟩ : ∃ dn, Hid (dn = Sort.fixDown Sort.ltInt i0 k (Sort.swp dk k (k - 1))) := ⟨_, hid rfl⟩
                 have hdn : Sort.swp dk k (k - 1) = dn := by rw [HDN.out, Sort.fixDown, if_neg h2]
                 rw [hdn] at hks hr
                 have hkn := hks
                 clear hdn hks
                 go_wp2
                 go_loopw [10] (fun v wq => ∃ (q : Nat) (dq : Array Int), v = .int .i64 (q : Int) ∧ k + 1 ≤ q ∧ q ≤ j0 ∧ Hid (dq.size = N) ∧ Rw w0 b off dq wq ∧ Hid (Sort.shiftUp Sort.ltInt j0 q dq = Sort.shiftUp Sort.ltInt j0 (k + 1) dn)) (fun v _ => j0 - (intOf v).toNat)
                 case atStart => exact ⟨k + 1, dn, by go_num, Nat.le_refl _, by omega, hkn, hr, hid rfl⟩
                 case round =>
                   clear hr
                   obtain ⟨q, dq, rfl, hq1, hq2, hkq, hr, HQ⟩ := hrel
                   obtain ⟨G, HG, hc, hf⟩ := hr.fam hkq.out
                   by_cases hq3 : q < j0
                   · go_wp2_with fail
                     go_big_quiet (first | (go_at_call 204; refine Calls.quiet_of_same (less_any _ _ _)))
                     go_wp2_with fail
                     · have hl : Hid (Sort.ltInt (G q) (G (q - 1)) = false) := hid (by have h9 : (!Sort.ltInt (G q) (G (q - 1))) = true := (by assumption); simpa using h9)
                       replace hr := hr.draw nq
                       have HN : Hid (Sort.partialIns Sort.ltInt i0 j0 (5 - (s + 1)) k dq = Sort.partialInsertionSort Sort.ltInt d i0 j0) := hid (by rw [← HE.out, Proofs.pi_go _ _ _ _ _ _ _ hs5 HK.out (by omega) h50, ← HDN.out]; exact congrArg _ (by rw [Sort.fixUp, if_pos h3, ← HQ.out, Proofs.shiftUp_stop _ _ _ _ (.inr (by rw [← HG.out, ← HG.out]; exact hl.out))]))
                       go_wp2
                       go_roundw
                       case rel => exact ⟨k, s + 1, dq, rfl, by go_num, by omega, by omega, by omega, hkq, hr, HN⟩
                       case measure => simp [intOf]; omega
                     · have hl : Hid (Sort.ltInt (G q) (G (q - 1)) = true) := hid (by have h9 : (!Sort.ltInt (G q) (G (q - 1))) = false := (by assumption); simpa using h9)
                       replace hr := hr.draw nq
                       replace hc : ∀ t, t < N → (wr.drewN nq).cell? ⟨b, off + t, none⟩ = some (.int .i32 (G t)) := hc
                       replace hf : ∀ t, t < N → (wr.drewN nq).frozen? ⟨b, off + t, none⟩ = false := hf
                       generalize wr.drewN nq = wv at *
                       clear nq
                       go_region
                       go_wp2
                       go_roundw
                       case rel => exact ⟨q + 1, Sort.swp dq q (q - 1), by go_num, by omega, by omega, hid (by rw [Sort.size_swp]; exact hkq.out), hr.swapAt q (q - 1) (by rw [hkq.out]; omega) (by rw [hkq.out]; omega) (by omega) (by omega) (HG.out _) (HG.out _), hid (by rw [← HQ.out, Proofs.shiftUp_go _ _ _ _ hq3 (by rw [← HG.out, ← HG.out]; exact hl.out)])⟩
                       case measure => simp [intOf]; omega
                   · clear hc hf
                     have HN : Hid (Sort.partialIns Sort.ltInt i0 j0 (5 - (s + 1)) k dq = Sort.partialInsertionSort Sort.ltInt d i0 j0) := hid (by rw [← HE.out, Proofs.pi_go _ _ _ _ _ _ _ hs5 HK.out (by omega) h50, ← HDN.out]; exact congrArg _ (by rw [Sort.fixUp, if_pos h3, ← HQ.out, Proofs.shiftUp_stop _ _ _ _ (.inl hq3)]))
                     go_wp2
                     go_roundw
                     case rel => exact ⟨k, s + 1, dq, rfl, by go_num, by omega, by omega, by omega, hkq, hr, HN⟩
                     case measure => simp [intOf]; omega
               · omega
       · have HK : Hid (Sort.scanSorted Sort.ltInt dk j0 i = k) := hid (by rw [← HU.out, Proofs.scanSorted_stop _ _ _ _ (.inl hk3)])
         have HM : Hid (Sort.partialInsertionSort Sort.ltInt d i0 j0 = (dk, true)) := hid (by rw [← HE.out, Proofs.pi_true _ _ _ _ _ _ hs5 (by rw [HK.out]; omega)])
         obtain rfl : k = j0 := by omega
         have hd : decide ((k : Int) < (k : Int)) = false := by simp
         go_wp2_with fail
         go_big_quiet (first | (go_at_call 204; refine Calls.quiet_of_same (less_any _ _ _)))
         go_wp2
         go_ret
         exact ⟨dk, true, rfl, HM.out, hr.draw nq⟩
   · obtain rfl : s = 5 := by omega
     have HM : Hid (Sort.partialInsertionSort Sort.ltInt d i0 j0 = (dk, false)) := hid (by rw [← HE.out]; rfl)
     go_wp2
     go_ret
     exact ⟨dk, false, rfl, HM.out, hr⟩
end Go.Proofs.YtgngaldoemopjaaGreatDoor.U
namespace Go.Proofs.YtgngaldoemopjaaGreatDoor.U
open Go.RowKit
theorem Rw.box {w0 : World} {b off : Nat} {d : Array Int} {W : World} (h : Rw w0 b off d W) {p : Nat} (hp : w0.heap.size ≤ p) (v : Value) : Rw w0 b off d (W.setCell ⟨p, 0, none⟩ v) :=
 h.later ((RowKit.Below.refl _ W).setCell (p := ⟨p, 0, none⟩) hp v)
theorem boxed_beside {W : World} {B : Nat} {t : TypeId} {v : Value} (h : Boxed W B t v) {b p : Nat} (hb : b ≠ B) (u : Value) : Boxed (W.setCell ⟨b, p, none⟩ u) B t v := by
 unfold Boxed
 rw [Sort.setCell_eq]
 simp only [Sort.mapBlock, Array.getElem?_modify, hb, if_false]
 exact h
set_option maxRecDepth 100000 in
set_option maxHeartbeats 4000000 in
theorem order2_any (w0 : World) (b off cap : Nat) (d : Array Int) (i j p s : Nat) (W : World) (h : Rw w0 b off d W) (hi : i < d.size) (hj : j < d.size) (hp : w0.heap.size ≤ p) (hx : Boxed W p 3 (.int .i64 s)) (hs1 : s ≤ 100) :
   Calls Tryz.prog 232 #[.slice (some ⟨b, off, none⟩) d.size cap, .int .i64 i, .int .i64 j, .pointer (some ⟨p, 0, none⟩)] W fun e W' => ∃ (x y s' : Nat), e = .returned (.tuple #[.int .i64 x, .int .i64 y]) ∧ ((x = i ∧ y = j) ∨ (x = j ∧ y = i)) ∧ s' ≤ s + 1 ∧ Boxed W' p 3 (.int .i64 s') ∧ Rw w0 b off d W' := by
 generalize hN : d.size = N at hi hj ⊢
 obtain ⟨G, HG, hc, hf⟩ := h.fam hN
 go_enter Tryz.func232, Tryz.ntmps232
 go_wp2_with fail
 go_big_quiet (first | (go_at_call 204; refine Calls.quiet_of_same (less_any _ _ _)))
 replace h := h.draw nq
 replace hx : Boxed (W.drewN nq) p 3 (.int .i64 s) := hx
 generalize W.drewN nq = wq at *
 have hcx := hx.cell
 have hfx := hx.frozen
 clear hc hf HG
 go_wp2
 · go_ret2
   exact ⟨j, i, s + 1, rfl, .inr ⟨rfl, rfl⟩, Nat.le_refl _, by have := hx.set (.int .i64 ((s : Int) + 1)); simpa using this, h.box hp _⟩
 · go_ret2
   exact ⟨i, j, s, rfl, .inl ⟨rfl, rfl⟩, by omega, hx, h⟩
set_option maxRecDepth 100000 in
set_option maxHeartbeats 4000000 in
theorem median_any (w0 : World) (b off cap : Nat) (d : Array Int) (i j k p s : Nat) (W : World) (h : Rw w0 b off d W) (hi : i < d.size) (hj : j < d.size) (hk : k < d.size) (hp : w0.heap.size ≤ p) (hx : Boxed W p 3 (.int .i64 s)) (hs1 : s ≤ 90) :
   Calls Tryz.prog 220 #[.slice (some ⟨b, off, none⟩) d.size cap, .int .i64 i, .int .i64 j, .int .i64 k, .pointer (some ⟨p, 0, none⟩)] W fun e W' => ∃ (x s' : Nat), e = .returned (.int .i64 x) ∧ (x = i ∨ x = j ∨ x = k) ∧ s' ≤ s + 3 ∧ Boxed W' p 3 (.int .i64 s') ∧ Rw w0 b off d W' := by
 go_enter Tryz.func220, Tryz.ntmps220
 go_wp2_with fail
 refine (order2_any w0 b off cap d i j p s W h hi hj hp hx (by omega)).mono ?_
 rintro e w1 ⟨x1, y1, s1, rfl, h1, hs2, hx1, hr1⟩
 go_wp2_with fail
 refine (order2_any w0 b off cap d y1 k p s1 w1 hr1 (by omega) hk hp hx1 (by omega)).mono ?_
 rintro e w2 ⟨x2, y2, s2, rfl, h2, hs3, hx2, hr2⟩
 go_wp2_with fail
 refine (order2_any w0 b off cap d x1 x2 p s2 w2 hr2 (by omega) (by omega) hp hx2 (by omega)).mono ?_
 rintro e w3 ⟨x3, y3, s3, rfl, h3, hs4, hx3, hr3⟩
 go_wp2
 go_ret
 exact ⟨y3, s3, rfl, by omega, by omega, hx3, hr3⟩
set_option maxRecDepth 100000 in
set_option maxHeartbeats 4000000 in
theorem medianAdj_any (w0 : World) (b off cap : Nat) (d : Array Int) (i p s : Nat) (W : World) (h : Rw w0 b off d W) (h0 : 0 < i) (hi : i + 1 < d.size) (hs : d.size ≤ 1000000) (hp : w0.heap.size ≤ p) (hx : Boxed W p 3 (.int .i64 s)) (hs1 : s ≤ 90) :
   Calls Tryz.prog 219 #[.slice (some ⟨b, off, none⟩) d.size cap, .int .i64 i, .pointer (some ⟨p, 0, none⟩)] W fun e W' => ∃ (x s' : Nat), e = .returned (.int .i64 x) ∧ (x + 1 = i ∨ x = i ∨ x = i + 1) ∧ s' ≤ s + 3 ∧ Boxed W' p 3 (.int .i64 s') ∧ Rw w0 b off d W' := by
 have hm := median_any w0 b off cap d (i - 1) i (i + 1) p s W h (by omega) (by omega) hi hp hx hs1
 rw [show (((i - 1 : Nat) : Int)) = (i : Int) - 1 by omega, show (((i + 1 : Nat) : Int)) = (i : Int) + 1 by omega] at hm
 go_enter Tryz.func219, Tryz.ntmps219
 go_wp2_with fail
 refine hm.mono ?_
 rintro e w1 ⟨x1, s1, rfl, h1, hs2, hx1, hr1⟩
 clear hm
 go_wp2
 go_ret
 exact ⟨x1, s1, rfl, by omega, hs2, hx1, hr1⟩
set_option maxRecDepth 100000 in
set_option maxHeartbeats 4000000 in
theorem pivot_any (w0 : World) (b off cap : Nat) (d : Array Int) (i0 j0 : Nat) (W : World) (h : Rw w0 b off d W) (hij : i0 + 12 < j0) (hj : j0 ≤ d.size) (hs : d.size ≤ 1000000) :
   Calls Tryz.prog 201 #[.slice (some ⟨b, off, none⟩) d.size cap, .int .i64 i0, .int .i64 j0] W fun e W' => ∃ (x : Nat) (t : Int), e = .returned (.tuple #[.int .i64 x, .int .i64 t]) ∧ i0 ≤ x ∧ x < j0 ∧ (t = 0 ∨ t = 1 ∨ t = 2) ∧ Rw w0 b off d W' := by
 obtain ⟨L, hL⟩ : ∃ L : Nat, (j0 : Int) - (i0 : Int) = (L : Int) := ⟨j0 - i0, by omega⟩
 have hL1 : i0 + L = j0 := by omega
 obtain ⟨q, hq⟩ : ∃ q : Nat, q = L / 4 := ⟨_, rfl⟩
 have hqz : (L : Int).tdiv 4 = (q : Int) := by rw [Int.tdiv_eq_ediv_of_nonneg (by omega)]; omega
 have hqz2 : (L : Int) / 4 = (q : Int) := by omega
 have hq1 : 3 ≤ q := by omega
 have hq2 : i0 + 4 * q ≤ j0 := by omega
 clear hq
 have hsz := h.grown.size
 have h1 := h.alloc (.cells #[.int .i64 0] 3)
 have hx1 : Boxed (W.alloc (.cells #[.int .i64 0] 3)) W.heap.size 3 (.int .i64 ((0 : Nat) : Int)) := Boxed.new W 3 (.int .i64 0)
 have h8 : (8 : Int) ≤ (L : Int) := by omega
 by_cases h50 : 50 ≤ L
 · have h50z : (50 : Int) ≤ (L : Int) := by omega
   have m1 := medianAdj_any w0 b off cap d (i0 + q) W.heap.size 0 _ h1 (by omega) (by omega) hs hsz hx1 (by omega)
   rw [show (((i0 + q : Nat) : Int)) = (i0 : Int) + (q : Int) by omega] at m1
   go_enter Tryz.func201, Tryz.ntmps201
   go_wp2_with fail
   refine m1.mono ?_
   rintro e w1 ⟨x1, s1, rfl, g1, gs1, hx1, hr1⟩
   clear m1
   have m2 := medianAdj_any w0 b off cap d (i0 + q * 2) W.heap.size s1 _ hr1 (by omega) (by omega) hs hsz hx1 (by omega)
   rw [show (((i0 + q * 2 : Nat) : Int)) = (i0 : Int) + (q : Int) * 2 by omega] at m2
   go_wp2_with fail
   refine m2.mono ?_
   rintro e w2 ⟨x2, s2, rfl, g2, gs2, hx2, hr2⟩
   clear m2
   have m3 := medianAdj_any w0 b off cap d (i0 + q * 3) W.heap.size s2 _ hr2 (by omega) (by omega) hs hsz hx2 (by omega)
   rw [show (((i0 + q * 3 : Nat) : Int)) = (i0 : Int) + (q : Int) * 3 by omega] at m3
   go_wp2_with fail
   refine m3.mono ?_
   rintro e w3 ⟨x3, s3, rfl, g3, gs3, hx3, hr3⟩
   clear m3
   have m4 := median_any w0 b off cap d x1 x2 x3 W.heap.size s3 _ hr3 (by omega) (by omega) (by omega) hsz hx3 (by omega)
   go_wp2_with fail
   refine m4.mono ?_
   rintro e w4 ⟨x4, s4, rfl, g4, gs4, hx4, hr4⟩
   clear m4
   have hc := hx4.cell
   go_wp2
   all_goals
     go_ret2
     exact ⟨x4, _, rfl, by omega, by omega, by omega, hr4⟩
 · have h50z : ¬ ((50 : Int) ≤ (L : Int)) := by omega
   have m4 := median_any w0 b off cap d (i0 + q) (i0 + q * 2) (i0 + q * 3) W.heap.size 0 _ h1 (by omega) (by omega) (by omega) hsz hx1 (by omega)
   rw [show (((i0 + q : Nat) : Int)) = (i0 : Int) + (q : Int) by omega, show (((i0 + q * 2 : Nat) : Int)) = (i0 : Int) + (q : Int) * 2 by omega, show (((i0 + q * 3 : Nat) : Int)) = (i0 : Int) + (q : Int) * 3 by omega] at m4
   go_enter Tryz.func201, Tryz.ntmps201
   go_wp2_with fail
   refine m4.mono ?_
   rintro e w4 ⟨x4, s4, rfl, g4, gs4, hx4, hr4⟩
   clear m4
   have hc := hx4.cell
   go_wp2
   all_goals
     go_ret2
     exact ⟨x4, _, rfl, by omega, by omega, by omega, hr4⟩
theorem next_any (p X : Nat) (hX : X < 18446744073709551616) (w : World) (hx : Boxed w p 226 (.int .u64 X)) :
   Calls Tryz.prog 155 #[.pointer (some ⟨p, 0, none⟩)] w fun e w' => ∃ Y : Nat, Y < 18446744073709551616 ∧ e = .returned (.int .u64 (Y : Int)) ∧ w' = (w.setCell ⟨p, 0, none⟩ (.int .u64 (Y : Int))).drewN 3 := by
 have h := AnyF.xorshift_Next (P := Tryz.prog) (ρ := sortIv_ren) { sortIv with } p 0 X hX w hx.cell hx.frozen
 change Calls Tryz.prog 155 _ _ _ at h
 refine h.mono ?_
 rintro e w' ⟨rfl, rfl⟩
 exact ⟨_, Sort.xorNextN_lt X hX, rfl, rfl⟩
theorem pow_any (n : Nat) (hn : n ≤ 1000000) (hn0 : 0 < n) (w : World) :
   Calls Tryz.prog 154 #[.int .i64 n] w fun e w' => ∃ M : Nat, 1 ≤ M ∧ M ≤ 2 * n ∧ e = .returned (.int .u64 (M : Int)) ∧ w' = w := by
 have h := AnyF.nextPowerOfTwo (P := Tryz.prog) (ρ := sortIv_ren) { sortIv with } n (by omega) w
 change Calls Tryz.prog 154 _ _ _ at h
 refine h.mono ?_
 rintro e w' ⟨rfl, rfl⟩
 exact ⟨_, by rw [Nat.one_shiftLeft]; exact Nat.two_pow_pos _, by rw [Nat.one_shiftLeft]; exact Sort.two_pow_bitsLen_le hn0, rfl, rfl⟩
set_option maxRecDepth 100000 in
set_option maxHeartbeats 8000000 in
theorem brk_any (w0 : World) (b off cap : Nat) (d : Array Int) (i0 j0 : Nat) (W : World) (h : Rw w0 b off d W) (hij : i0 + 12 < j0) (hj : j0 ≤ d.size) (hs : d.size ≤ 1000000) :
   Calls Tryz.prog 200 #[.slice (some ⟨b, off, none⟩) d.size cap, .int .i64 i0, .int .i64 j0] W fun e W' => e = .returned (.tuple #[]) ∧ ∃ d', Rw w0 b off d' W' ∧ Sort.PermIn i0 j0 d d' := by
 generalize hN : d.size = N at hj hs ⊢
 obtain ⟨L, hL⟩ : ∃ L : Nat, (j0 : Int) - (i0 : Int) = (L : Int) := ⟨j0 - i0, by omega⟩
 have hL1 : i0 + L = j0 := by omega
 have hL8 : (8 : Int) ≤ (L : Int) := by omega
 obtain ⟨q, hq⟩ : ∃ q : Nat, q = L / 4 := ⟨_, rfl⟩
 have hqz : (L : Int).tdiv 4 = (q : Int) := by rw [Int.tdiv_eq_ediv_of_nonneg (by omega)]; omega
 have hqz2 : (L : Int) / 4 = (q : Int) := by omega
 have hq1 : 3 ≤ q := by omega
 have hq2 : i0 + 4 * q ≤ j0 := by omega
 have hwr : IntKind.u64.wrap (L : Int) = (L : Int) := by simp [IntKind.wrap, IntKind.bits, IntKind.signed]; omega
 have hsz := h.grown.size
 have h1 := h.alloc (.cells #[.int .u64 (L : Int)] 226)
 have hx1 : Boxed (W.alloc (.cells #[.int .u64 (L : Int)] 226)) W.heap.size 226 (.int .u64 (L : Int)) := Boxed.new W 226 _
 have hpow := pow_any L (by omega) (by omega)
 clear hq
 go_enter Tryz.func200, Tryz.ntmps200
 go_wp2_with fail
 refine (hpow _).mono ?_
 rintro e w' ⟨M, hM1, hM2, rfl, rfl⟩
 clear hpow
 generalize W.alloc (.cells #[.int .u64 (L : Int)] 226) = w1 at *
 obtain ⟨c, hcz⟩ : ∃ c : Nat, (i0 : Int) + (q : Int) * 2 - 1 = (c : Int) := ⟨i0 + q * 2 - 1, by omega⟩
 have hc1 : c + 1 = i0 + q * 2 := by omega
 go_wp2
 go_loopw [9] (fun v wr => ∃ (k X : Nat) (dk : Array Int), v = .int .i64 (k : Int) ∧ c ≤ k ∧ k ≤ c + 3 ∧ X < 18446744073709551616 ∧ Boxed wr W.heap.size 226 (.int .u64 (X : Int)) ∧ Hid (dk.size = N) ∧ Rw w0 b off dk wr ∧ Hid (Sort.PermIn i0 j0 d dk)) (fun v _ => (c + 3 - (intOf v).toNat))
 case atStart => exact ⟨c, L, d, by rw [← hcz], Nat.le_refl _, by omega, by omega, hx1, hid hN, h1, hid (Sort.permIn_refl _ _ _)⟩
 case round =>
   obtain ⟨k, X, dk, rfl, hk1, hk2, hX, hx, hk, hr, HP⟩ := hrel
   clear hx1 h1 h
   have hbne : b ≠ W.heap.size := by have := hr.lt; omega
   by_cases hk3 : k ≤ c + 2
   · have hkz : (k : Int) ≤ (i0 : Int) + (q : Int) * 2 + 1 := by omega
     have hnext := next_any W.heap.size X hX wr hx
     clear hcz
     go_wp2_with fail
     refine hnext.mono ?_
     rintro e w2 ⟨Y, hY, rfl, rfl⟩
     clear hnext
     replace hr := (hr.box hsz (.int .u64 (Y : Int))).draw 3
     have hxz : Boxed ((wr.setCell ⟨W.heap.size, 0, none⟩ (.int .u64 (Y : Int))).drewN 3) W.heap.size 226 (.int .u64 (Y : Int)) := hx.set _
     generalize (wr.setCell ⟨W.heap.size, 0, none⟩ (.int .u64 (Y : Int))).drewN 3 = wz at *
     obtain ⟨O, hO⟩ : ∃ O : Nat, O = Y &&& (M - 1) := ⟨_, rfl⟩
     have lO : O ≤ M - 1 := by rw [hO]; exact Nat.and_le_right
     have eAnd : bits .and .u64 (Y : Int) ((M : Int) - 1) = (O : Int) := by
       rw [show ((M : Int) - 1) = ((M - 1 : Nat) : Int) by omega, bits_and_u64_nat _ _ hY (by omega), hO]
     obtain ⟨G, HG, hc, hf⟩ := hr.fam hk.out
     clear hO hx
     by_cases hLO : L ≤ O
     · have hLOz : (L : Int) ≤ (O : Int) := by omega
       obtain ⟨o, ho⟩ : ∃ o : Nat, (O : Int) - (L : Int) = (o : Int) := ⟨O - L, by omega⟩
       have hol : o < L := by omega
       obtain ⟨v', hy'⟩ := cell?_setCell_some (w := wz) (p := ⟨b, off + k, none⟩) (x := .int .i32 (G (i0 + o))) (q := ⟨b, off + (i0 + o), none⟩) (hc (i0 + o) (by omega))
       go_wp2_with fail
       go_region
       go_wp2
       go_roundw
       case rel => exact ⟨k + 1, Y, Sort.swp dk k (i0 + o), by go_num, by omega, by omega, hY, boxed_beside (boxed_beside hxz hbne _) hbne _, hid (by rw [Sort.size_swp]; exact hk.out), hr.swapAt k (i0 + o) (by rw [hk.out]; omega) (by rw [hk.out]; omega) (by omega) (by omega) (gat HG.out (by omega)) (gat HG.out (by omega)), hid (Sort.permIn_trans _ _ _ _ _ HP.out (Sort.swp_permIn _ _ _ _ _ (by omega) (by omega) (by omega) (by omega) (by rw [hk.out]; exact hj)))⟩
       case measure => simp [intOf]; omega
     · have hLOz : ¬ ((L : Int) ≤ (O : Int)) := by omega
       have hol : O < L := by omega
       obtain ⟨v', hy'⟩ := cell?_setCell_some (w := wz) (p := ⟨b, off + k, none⟩) (x := .int .i32 (G (i0 + O))) (q := ⟨b, off + (i0 + O), none⟩) (hc (i0 + O) (by omega))
       go_wp2_with fail
       go_region
       go_wp2
       go_roundw
       case rel => exact ⟨k + 1, Y, Sort.swp dk k (i0 + O), by go_num, by omega, by omega, hY, boxed_beside (boxed_beside hxz hbne _) hbne _, hid (by rw [Sort.size_swp]; exact hk.out), hr.swapAt k (i0 + O) (by rw [hk.out]; omega) (by rw [hk.out]; omega) (by omega) (by omega) (gat HG.out (by omega)) (gat HG.out (by omega)), hid (Sort.permIn_trans _ _ _ _ _ HP.out (Sort.swp_permIn _ _ _ _ _ (by omega) (by omega) (by omega) (by omega) (by rw [hk.out]; exact hj)))⟩
       case measure => simp [intOf]; omega
   · have hkz : ¬ ((k : Int) ≤ (i0 : Int) + (q : Int) * 2 + 1) := by omega
     go_wp2
     go_end0
     exact ⟨rfl, dk, hr, HP.out⟩
end Go.Proofs.YtgngaldoemopjaaGreatDoor.U
