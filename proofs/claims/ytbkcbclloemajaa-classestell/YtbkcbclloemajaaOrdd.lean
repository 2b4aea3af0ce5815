/- The library's sort of numbers of 32 bits: the partial insertion sort. -/
import Derived.Sort.WalkA6
import Derived.Test.YtbkcbclloemajaaOrdb
namespace Go.Proofs.Ytbkcbclloemajaa
open Go.RowKit

set_option maxRecDepth 100000 in
set_option maxHeartbeats 12000000 in
theorem pins_any (w0 : World) (b off cap : Nat) (d : Array Int) (i0 j0 : Nat) (W : World) (h : Rw w0 b off d W) (hij : i0 < j0) (hj : j0 ≤ d.size) (hs : d.size ≤ 1000000) :
    Calls Try.prog 71 #[.slice (some ⟨b, off, none⟩) d.size cap, .int .i64 i0, .int .i64 j0] W fun e W' => ∃ (d' : Array Int) (r : Bool), e = .returned (.bool r) ∧ Sort.partialInsertionSort Sort.ltInt d i0 j0 = (d', r) ∧ Rw w0 b off d' W' := by
  generalize hN : d.size = N at hj hs ⊢
  go_enter Try.func71, Try.ntmps71
  go_wp2
  go_loopw [7, 8] (fun v u wr => ∃ (i s : Nat) (dk : Array Int), v = .int .i64 (i : Int) ∧ u = .int .i64 (s : Int) ∧ i0 < i ∧ i ≤ j0 ∧ s ≤ 5 ∧ Hid (dk.size = N) ∧ Rw w0 b off dk wr ∧ Hid (Sort.partialIns Sort.ltInt i0 j0 (5 - s) i dk = Sort.partialInsertionSort Sort.ltInt d i0 j0)) (fun _ u _ => 5 - (intOf u).toNat)
  case atStart => exact ⟨i0 + 1, 0, d, by go_num, rfl, by omega, by omega, by omega, hid hN, h, hid rfl⟩
  case round =>
    obtain ⟨i, s, dk, rfl, rfl, h1, h2, h3, hk, hr, HE⟩ := hrel
    by_cases hs5 : s < 5
    · go_wp2
      go_loopw [7] (fun v wq => ∃ k : Nat, v = .int .i64 (k : Int) ∧ i ≤ k ∧ k ≤ j0 ∧ Rw w0 b off dk wq ∧ Hid (Sort.scanSorted Sort.ltInt dk j0 k = Sort.scanSorted Sort.ltInt dk j0 i)) (fun v _ => j0 - (intOf v).toNat)
      case atStart => exact ⟨i, rfl, Nat.le_refl _, h2, hr, hid rfl⟩
      case round =>
        clear hr h2 h3
        obtain ⟨k, rfl, hk1, hk2, hr, HU⟩ := hrel
        obtain ⟨G, HG, hc, hf⟩ := hr.fam hk.out
        by_cases hk3 : k < j0
        · go_wp2_with fail
          go_big_quiet (first | (go_at_call 72; refine Calls.quiet_of_same (less_any _ _ _)))
          cases hl : Sort.ltInt (G k) (G (k - 1)) with
          | false =>
            have HL := hid hl
            clear hl
            go_wp2
            go_roundw
            case rel => exact ⟨k + 1, by go_num, by omega, by omega, hr.draw nq, hid (by rw [← HU.out, ← Proofs.scanSorted_go _ _ _ _ hk3 (by rw [← HG.out, ← HG.out]; exact HL.out)])⟩
            case measure => simp [intOf]; omega
          | true =>
            have HK : Hid (Sort.scanSorted Sort.ltInt dk j0 i = k) := hid (by rw [← HU.out, Proofs.scanSorted_stop _ _ _ _ (.inr (by rw [← HG.out, ← HG.out]; exact hl))])
            clear HU hl
            replace hr := hr.draw nq
            replace hc : ∀ t, t < N → (wr.drewN nq).cell? ⟨b, off + t, none⟩ = some (.int .i32 (G t)) := hc
            replace hf : ∀ t, t < N → (wr.drewN nq).frozen? ⟨b, off + t, none⟩ = false := hf
            generalize wr.drewN nq = wy at *
            clear nq

            have hne : ¬ ((k : Int) = (j0 : Int)) := by omega
            have hne2 : ¬ (k = j0) := by omega
            by_cases h50 : j0 - i0 < 50
            · have h50z : (j0 : Int) - (i0 : Int) < 50 := by omega
              have HM : Hid (Sort.partialInsertionSort Sort.ltInt d i0 j0 = (dk, false)) := hid (by rw [← HE.out, Proofs.pi_short _ _ _ _ _ _ hs5 (by rw [HK.out]; omega) h50])
              go_wp2
              go_ret
              exact ⟨dk, false, rfl, HM.out, hr⟩
            · have h50z : (50 : Int) ≤ (j0 : Int) - (i0 : Int) := by omega
              by_cases h2 : k - i0 ≥ 2
              · by_cases h3 : j0 - k ≥ 2
                · skip
                  have h2z : (2 : Int) ≤ (k : Int) - (i0 : Int) := by omega
                  have h3z : (2 : Int) ≤ (j0 : Int) - (k : Int) := by omega
                  go_wp2_with fail
                  go_region
                  replace hr := hr.swapAt k (k - 1) (by rw [hk.out]; omega) (by rw [hk.out]; omega) rfl rfl (HG.out _) (HG.out _)
                  have hks : Hid ((Sort.swp dk k (k - 1)).size = N) := hid (by rw [Sort.size_swp]; exact hk.out)
                  clear hc hf HG hk
                  generalize ((wy.setCell ⟨b, off + k, none⟩ (.int .i32 (G (k - 1)))).setCell ⟨b, off + (k - 1), none⟩ (.int .i32 (G k))).drew = wz at *
                  go_wp2
                  go_loopw [9] (fun v wq => ∃ (q : Nat) (dn : Array Int), v = .int .i64 (q : Int) ∧ q < k ∧ Hid (dn.size = N) ∧ Rw w0 b off dn wq ∧ Hid (Sort.shiftDown Sort.ltInt q dn = Sort.shiftDown Sort.ltInt (k - 1) (Sort.swp dk k (k - 1)))) (fun v _ => (intOf v).toNat)
                  case atStart => exact ⟨k - 1, _, by go_num, by omega, hks, hr, hid rfl⟩
                  case round =>
                    clear hr
                    obtain ⟨q, dn, rfl, hq1, hkn, hr, HQ⟩ := hrel
                    obtain ⟨G2, HG2, hc, hf⟩ := hr.fam hkn.out
                    by_cases hq3 : 1 ≤ q
                    · have hq3z : (1 : Int) ≤ (q : Int) := by omega
                      go_wp2_with fail
                      go_big_quiet (first | (go_at_call 72; refine Calls.quiet_of_same (less_any _ _ _)))
                      go_wp2_with fail
                      · have hl : Hid (Sort.ltInt (G2 q) (G2 (q - 1)) = false) := hid (by have h9 : (!Sort.ltInt (G2 q) (G2 (q - 1))) = true := (by assumption); simpa using h9)
                        replace hr := hr.draw nq
                        generalize wr.drewN nq = wx at *
                        clear nq hc hf
                        have HDN : Hid (dn = Sort.fixDown Sort.ltInt i0 k (Sort.swp dk k (k - 1))) := hid (by rw [Sort.fixDown, if_pos h2, ← HQ.out, Proofs.shiftDown_stop _ _ _ (.inr (by rw [← HG2.out, ← HG2.out]; exact hl.out))])
                        clear HQ
                        go_wp2
                        go_loopw [10] (fun v wq => ∃ (q : Nat) (dq : Array Int), v = .int .i64 (q : Int) ∧ k + 1 ≤ q ∧ q ≤ j0 ∧ Hid (dq.size = N) ∧ Rw w0 b off dq wq ∧ Hid (Sort.shiftUp Sort.ltInt j0 q dq = Sort.shiftUp Sort.ltInt j0 (k + 1) dn)) (fun v _ => j0 - (intOf v).toNat)
                        case atStart => exact ⟨k + 1, dn, by go_num, Nat.le_refl _, by omega, hkn, hr, hid rfl⟩
                        case round =>
                          clear hr
                          obtain ⟨q, dq, rfl, hq1, hq2, hkq, hr, HQ⟩ := hrel
                          obtain ⟨G, HG, hc, hf⟩ := hr.fam hkq.out
                          by_cases hq3 : q < j0
                          · go_wp2_with fail
                            go_big_quiet (first | (go_at_call 72; refine Calls.quiet_of_same (less_any _ _ _)))
                            go_wp2_with fail
                            · have hl : Hid (Sort.ltInt (G q) (G (q - 1)) = false) := hid (by have h9 : (!Sort.ltInt (G q) (G (q - 1))) = true := (by assumption); simpa using h9)
                              replace hr := hr.draw nq
                              have HN : Hid (Sort.partialIns Sort.ltInt i0 j0 (5 - (s + 1)) k dq = Sort.partialInsertionSort Sort.ltInt d i0 j0) := hid (by rw [← HE.out, Proofs.pi_go _ _ _ _ _ _ _ hs5 HK.out (by omega) h50, ← HDN.out]; exact congrArg _ (by rw [Sort.fixUp, if_pos h3, ← HQ.out, Proofs.shiftUp_stop _ _ _ _ (.inr (by rw [← HG.out, ← HG.out]; exact hl.out))]))
                              go_wp2
                              go_roundw
                              case rel => exact ⟨k, s + 1, dq, rfl, by go_num, by omega, by omega, by omega, hkq, hr, HN⟩
                              case measure => simp [intOf]; omega

                            · have hl : Hid (Sort.ltInt (G q) (G (q - 1)) = true) := hid (by have h9 : (!Sort.ltInt (G q) (G (q - 1))) = false := (by assumption); simpa using h9)
                              replace hr := hr.draw nq
                              replace hc : ∀ t, t < N → (wr.drewN nq).cell? ⟨b, off + t, none⟩ = some (.int .i32 (G t)) := hc
                              replace hf : ∀ t, t < N → (wr.drewN nq).frozen? ⟨b, off + t, none⟩ = false := hf
                              generalize wr.drewN nq = wv at *
                              clear nq

                              go_region
                              go_wp2
                              go_roundw
                              case rel => exact ⟨q + 1, Sort.swp dq q (q - 1), by go_num, by omega, by omega, hid (by rw [Sort.size_swp]; exact hkq.out), hr.swapAt q (q - 1) (by rw [hkq.out]; omega) (by rw [hkq.out]; omega) (by omega) (by omega) (HG.out _) (HG.out _), hid (by rw [← HQ.out, Proofs.shiftUp_go _ _ _ _ hq3 (by rw [← HG.out, ← HG.out]; exact hl.out)])⟩
                              case measure => simp [intOf]; omega
                          · clear hc hf
                            have HN : Hid (Sort.partialIns Sort.ltInt i0 j0 (5 - (s + 1)) k dq = Sort.partialInsertionSort Sort.ltInt d i0 j0) := hid (by rw [← HE.out, Proofs.pi_go _ _ _ _ _ _ _ hs5 HK.out (by omega) h50, ← HDN.out]; exact congrArg _ (by rw [Sort.fixUp, if_pos h3, ← HQ.out, Proofs.shiftUp_stop _ _ _ _ (.inl hq3)]))
                            go_wp2
                            go_roundw
                            case rel => exact ⟨k, s + 1, dq, rfl, by go_num, by omega, by omega, by omega, hkq, hr, HN⟩
                            case measure => simp [intOf]; omega

                      · have hl : Hid (Sort.ltInt (G2 q) (G2 (q - 1)) = true) := hid (by have h9 : (!Sort.ltInt (G2 q) (G2 (q - 1))) = false := (by assumption); simpa using h9)
                        replace hr := hr.draw nq
                        replace hc : ∀ t, t < N → (wr.drewN nq).cell? ⟨b, off + t, none⟩ = some (.int .i32 (G2 t)) := hc
                        replace hf : ∀ t, t < N → (wr.drewN nq).frozen? ⟨b, off + t, none⟩ = false := hf
                        generalize wr.drewN nq = wv at *
                        clear nq

                        go_region
                        go_wp2
                        go_roundw
                        case rel => exact ⟨q - 1, Sort.swp dn q (q - 1), by go_num, by omega, hid (by rw [Sort.size_swp]; exact hkn.out), hr.swapAt q (q - 1) (by rw [hkn.out]; omega) (by rw [hkn.out]; omega) (by omega) (by omega) (HG2.out _) (HG2.out _), hid (by rw [← HQ.out, Proofs.shiftDown_go _ _ _ hq3 (by rw [← HG2.out, ← HG2.out]; exact hl.out)])⟩
                        case measure => simp [intOf]; omega
                    · have hq3z : ¬ ((1 : Int) ≤ (q : Int)) := by omega
                      clear hc hf
                      have HDN : Hid (dn = Sort.fixDown Sort.ltInt i0 k (Sort.swp dk k (k - 1))) := hid (by rw [Sort.fixDown, if_pos h2, ← HQ.out, Proofs.shiftDown_stop _ _ _ (.inl (by omega))])
                      clear HQ
                      go_wp2
                      go_loopw [10] (fun v wq => ∃ (q : Nat) (dq : Array Int), v = .int .i64 (q : Int) ∧ k + 1 ≤ q ∧ q ≤ j0 ∧ Hid (dq.size = N) ∧ Rw w0 b off dq wq ∧ Hid (Sort.shiftUp Sort.ltInt j0 q dq = Sort.shiftUp Sort.ltInt j0 (k + 1) dn)) (fun v _ => j0 - (intOf v).toNat)
                      case atStart => exact ⟨k + 1, dn, by go_num, Nat.le_refl _, by omega, hkn, hr, hid rfl⟩
                      case round =>
                        clear hr
                        obtain ⟨q, dq, rfl, hq1, hq2, hkq, hr, HQ⟩ := hrel
                        obtain ⟨G, HG, hc, hf⟩ := hr.fam hkq.out
                        by_cases hq3 : q < j0
                        · go_wp2_with fail
                          go_big_quiet (first | (go_at_call 72; refine Calls.quiet_of_same (less_any _ _ _)))
                          go_wp2_with fail
                          · have hl : Hid (Sort.ltInt (G q) (G (q - 1)) = false) := hid (by have h9 : (!Sort.ltInt (G q) (G (q - 1))) = true := (by assumption); simpa using h9)
                            replace hr := hr.draw nq
                            have HN : Hid (Sort.partialIns Sort.ltInt i0 j0 (5 - (s + 1)) k dq = Sort.partialInsertionSort Sort.ltInt d i0 j0) := hid (by rw [← HE.out, Proofs.pi_go _ _ _ _ _ _ _ hs5 HK.out (by omega) h50, ← HDN.out]; exact congrArg _ (by rw [Sort.fixUp, if_pos h3, ← HQ.out, Proofs.shiftUp_stop _ _ _ _ (.inr (by rw [← HG.out, ← HG.out]; exact hl.out))]))
                            go_wp2
                            go_roundw
                            case rel => exact ⟨k, s + 1, dq, rfl, by go_num, by omega, by omega, by omega, hkq, hr, HN⟩
                            case measure => simp [intOf]; omega

                          · have hl : Hid (Sort.ltInt (G q) (G (q - 1)) = true) := hid (by have h9 : (!Sort.ltInt (G q) (G (q - 1))) = false := (by assumption); simpa using h9)
                            replace hr := hr.draw nq
                            replace hc : ∀ t, t < N → (wr.drewN nq).cell? ⟨b, off + t, none⟩ = some (.int .i32 (G t)) := hc
                            replace hf : ∀ t, t < N → (wr.drewN nq).frozen? ⟨b, off + t, none⟩ = false := hf
                            generalize wr.drewN nq = wv at *
                            clear nq

                            go_region
                            go_wp2
                            go_roundw
                            case rel => exact ⟨q + 1, Sort.swp dq q (q - 1), by go_num, by omega, by omega, hid (by rw [Sort.size_swp]; exact hkq.out), hr.swapAt q (q - 1) (by rw [hkq.out]; omega) (by rw [hkq.out]; omega) (by omega) (by omega) (HG.out _) (HG.out _), hid (by rw [← HQ.out, Proofs.shiftUp_go _ _ _ _ hq3 (by rw [← HG.out, ← HG.out]; exact hl.out)])⟩
                            case measure => simp [intOf]; omega
                        · clear hc hf
                          have HN : Hid (Sort.partialIns Sort.ltInt i0 j0 (5 - (s + 1)) k dq = Sort.partialInsertionSort Sort.ltInt d i0 j0) := hid (by rw [← HE.out, Proofs.pi_go _ _ _ _ _ _ _ hs5 HK.out (by omega) h50, ← HDN.out]; exact congrArg _ (by rw [Sort.fixUp, if_pos h3, ← HQ.out, Proofs.shiftUp_stop _ _ _ _ (.inl hq3)]))
                          go_wp2
                          go_roundw
                          case rel => exact ⟨k, s + 1, dq, rfl, by go_num, by omega, by omega, by omega, hkq, hr, HN⟩
                          case measure => simp [intOf]; omega

                · skip
                  have h2z : (2 : Int) ≤ (k : Int) - (i0 : Int) := by omega
                  have h3z : ¬ ((2 : Int) ≤ (j0 : Int) - (k : Int)) := by omega
                  go_wp2_with fail
                  go_region
                  replace hr := hr.swapAt k (k - 1) (by rw [hk.out]; omega) (by rw [hk.out]; omega) rfl rfl (HG.out _) (HG.out _)
                  have hks : Hid ((Sort.swp dk k (k - 1)).size = N) := hid (by rw [Sort.size_swp]; exact hk.out)
                  clear hc hf HG hk
                  generalize ((wy.setCell ⟨b, off + k, none⟩ (.int .i32 (G (k - 1)))).setCell ⟨b, off + (k - 1), none⟩ (.int .i32 (G k))).drew = wz at *
                  go_wp2
                  go_loopw [9] (fun v wq => ∃ (q : Nat) (dn : Array Int), v = .int .i64 (q : Int) ∧ q < k ∧ Hid (dn.size = N) ∧ Rw w0 b off dn wq ∧ Hid (Sort.shiftDown Sort.ltInt q dn = Sort.shiftDown Sort.ltInt (k - 1) (Sort.swp dk k (k - 1)))) (fun v _ => (intOf v).toNat)
                  case atStart => exact ⟨k - 1, _, by go_num, by omega, hks, hr, hid rfl⟩
                  case round =>
                    clear hr
                    obtain ⟨q, dn, rfl, hq1, hkn, hr, HQ⟩ := hrel
                    obtain ⟨G2, HG2, hc, hf⟩ := hr.fam hkn.out
                    by_cases hq3 : 1 ≤ q
                    · have hq3z : (1 : Int) ≤ (q : Int) := by omega
                      go_wp2_with fail
                      go_big_quiet (first | (go_at_call 72; refine Calls.quiet_of_same (less_any _ _ _)))
                      go_wp2_with fail
                      · have hl : Hid (Sort.ltInt (G2 q) (G2 (q - 1)) = false) := hid (by have h9 : (!Sort.ltInt (G2 q) (G2 (q - 1))) = true := (by assumption); simpa using h9)
                        replace hr := hr.draw nq
                        generalize wr.drewN nq = wx at *
                        clear nq hc hf
                        have HDN : Hid (dn = Sort.fixDown Sort.ltInt i0 k (Sort.swp dk k (k - 1))) := hid (by rw [Sort.fixDown, if_pos h2, ← HQ.out, Proofs.shiftDown_stop _ _ _ (.inr (by rw [← HG2.out, ← HG2.out]; exact hl.out))])
                        clear HQ
                        have HN : Hid (Sort.partialIns Sort.ltInt i0 j0 (5 - (s + 1)) k dn = Sort.partialInsertionSort Sort.ltInt d i0 j0) := hid (by rw [← HE.out, Proofs.pi_go _ _ _ _ _ _ _ hs5 HK.out (by omega) h50, ← HDN.out]; exact congrArg _ (by rw [Sort.fixUp, if_neg (by omega)]))
                        go_wp2
                        go_roundw
                        case rel => exact ⟨k, s + 1, dn, rfl, by go_num, by omega, by omega, by omega, hkn, hr, HN⟩
                        case measure => simp [intOf]; omega

                      · have hl : Hid (Sort.ltInt (G2 q) (G2 (q - 1)) = true) := hid (by have h9 : (!Sort.ltInt (G2 q) (G2 (q - 1))) = false := (by assumption); simpa using h9)
                        replace hr := hr.draw nq
                        replace hc : ∀ t, t < N → (wr.drewN nq).cell? ⟨b, off + t, none⟩ = some (.int .i32 (G2 t)) := hc
                        replace hf : ∀ t, t < N → (wr.drewN nq).frozen? ⟨b, off + t, none⟩ = false := hf
                        generalize wr.drewN nq = wv at *
                        clear nq

                        go_region
                        go_wp2
                        go_roundw
                        case rel => exact ⟨q - 1, Sort.swp dn q (q - 1), by go_num, by omega, hid (by rw [Sort.size_swp]; exact hkn.out), hr.swapAt q (q - 1) (by rw [hkn.out]; omega) (by rw [hkn.out]; omega) (by omega) (by omega) (HG2.out _) (HG2.out _), hid (by rw [← HQ.out, Proofs.shiftDown_go _ _ _ hq3 (by rw [← HG2.out, ← HG2.out]; exact hl.out)])⟩
                        case measure => simp [intOf]; omega
                    · have hq3z : ¬ ((1 : Int) ≤ (q : Int)) := by omega
                      clear hc hf
                      have HDN : Hid (dn = Sort.fixDown Sort.ltInt i0 k (Sort.swp dk k (k - 1))) := hid (by rw [Sort.fixDown, if_pos h2, ← HQ.out, Proofs.shiftDown_stop _ _ _ (.inl (by omega))])
                      clear HQ
                      have HN : Hid (Sort.partialIns Sort.ltInt i0 j0 (5 - (s + 1)) k dn = Sort.partialInsertionSort Sort.ltInt d i0 j0) := hid (by rw [← HE.out, Proofs.pi_go _ _ _ _ _ _ _ hs5 HK.out (by omega) h50, ← HDN.out]; exact congrArg _ (by rw [Sort.fixUp, if_neg (by omega)]))
                      go_wp2
                      go_roundw
                      case rel => exact ⟨k, s + 1, dn, rfl, by go_num, by omega, by omega, by omega, hkn, hr, HN⟩
                      case measure => simp [intOf]; omega

              · by_cases h3 : j0 - k ≥ 2
                · skip
                  have h2z : ¬ ((2 : Int) ≤ (k : Int) - (i0 : Int)) := by omega
                  have h3z : (2 : Int) ≤ (j0 : Int) - (k : Int) := by omega
                  go_wp2_with fail
                  go_region
                  replace hr := hr.swapAt k (k - 1) (by rw [hk.out]; omega) (by rw [hk.out]; omega) rfl rfl (HG.out _) (HG.out _)
                  have hks : Hid ((Sort.swp dk k (k - 1)).size = N) := hid (by rw [Sort.size_swp]; exact hk.out)
                  clear hc hf HG hk
                  generalize ((wy.setCell ⟨b, off + k, none⟩ (.int .i32 (G (k - 1)))).setCell ⟨b, off + (k - 1), none⟩ (.int .i32 (G k))).drew = wz at *
                  obtain ⟨dn, HDN⟩ : ∃ dn, Hid (dn = Sort.fixDown Sort.ltInt i0 k (Sort.swp dk k (k - 1))) := ⟨_, hid rfl⟩
                  have hdn : Sort.swp dk k (k - 1) = dn := by rw [HDN.out, Sort.fixDown, if_neg h2]
                  rw [hdn] at hks hr
                  have hkn := hks
                  clear hdn hks
                  go_wp2
                  go_loopw [10] (fun v wq => ∃ (q : Nat) (dq : Array Int), v = .int .i64 (q : Int) ∧ k + 1 ≤ q ∧ q ≤ j0 ∧ Hid (dq.size = N) ∧ Rw w0 b off dq wq ∧ Hid (Sort.shiftUp Sort.ltInt j0 q dq = Sort.shiftUp Sort.ltInt j0 (k + 1) dn)) (fun v _ => j0 - (intOf v).toNat)
                  case atStart => exact ⟨k + 1, dn, by go_num, Nat.le_refl _, by omega, hkn, hr, hid rfl⟩
                  case round =>
                    clear hr
                    obtain ⟨q, dq, rfl, hq1, hq2, hkq, hr, HQ⟩ := hrel
                    obtain ⟨G, HG, hc, hf⟩ := hr.fam hkq.out
                    by_cases hq3 : q < j0
                    · go_wp2_with fail
                      go_big_quiet (first | (go_at_call 72; refine Calls.quiet_of_same (less_any _ _ _)))
                      go_wp2_with fail
                      · have hl : Hid (Sort.ltInt (G q) (G (q - 1)) = false) := hid (by have h9 : (!Sort.ltInt (G q) (G (q - 1))) = true := (by assumption); simpa using h9)
                        replace hr := hr.draw nq
                        have HN : Hid (Sort.partialIns Sort.ltInt i0 j0 (5 - (s + 1)) k dq = Sort.partialInsertionSort Sort.ltInt d i0 j0) := hid (by rw [← HE.out, Proofs.pi_go _ _ _ _ _ _ _ hs5 HK.out (by omega) h50, ← HDN.out]; exact congrArg _ (by rw [Sort.fixUp, if_pos h3, ← HQ.out, Proofs.shiftUp_stop _ _ _ _ (.inr (by rw [← HG.out, ← HG.out]; exact hl.out))]))
                        go_wp2
                        go_roundw
                        case rel => exact ⟨k, s + 1, dq, rfl, by go_num, by omega, by omega, by omega, hkq, hr, HN⟩
                        case measure => simp [intOf]; omega

                      · have hl : Hid (Sort.ltInt (G q) (G (q - 1)) = true) := hid (by have h9 : (!Sort.ltInt (G q) (G (q - 1))) = false := (by assumption); simpa using h9)
                        replace hr := hr.draw nq
                        replace hc : ∀ t, t < N → (wr.drewN nq).cell? ⟨b, off + t, none⟩ = some (.int .i32 (G t)) := hc
                        replace hf : ∀ t, t < N → (wr.drewN nq).frozen? ⟨b, off + t, none⟩ = false := hf
                        generalize wr.drewN nq = wv at *
                        clear nq

                        go_region
                        go_wp2
                        go_roundw
                        case rel => exact ⟨q + 1, Sort.swp dq q (q - 1), by go_num, by omega, by omega, hid (by rw [Sort.size_swp]; exact hkq.out), hr.swapAt q (q - 1) (by rw [hkq.out]; omega) (by rw [hkq.out]; omega) (by omega) (by omega) (HG.out _) (HG.out _), hid (by rw [← HQ.out, Proofs.shiftUp_go _ _ _ _ hq3 (by rw [← HG.out, ← HG.out]; exact hl.out)])⟩
                        case measure => simp [intOf]; omega
                    · clear hc hf
                      have HN : Hid (Sort.partialIns Sort.ltInt i0 j0 (5 - (s + 1)) k dq = Sort.partialInsertionSort Sort.ltInt d i0 j0) := hid (by rw [← HE.out, Proofs.pi_go _ _ _ _ _ _ _ hs5 HK.out (by omega) h50, ← HDN.out]; exact congrArg _ (by rw [Sort.fixUp, if_pos h3, ← HQ.out, Proofs.shiftUp_stop _ _ _ _ (.inl hq3)]))
                      go_wp2
                      go_roundw
                      case rel => exact ⟨k, s + 1, dq, rfl, by go_num, by omega, by omega, by omega, hkq, hr, HN⟩
                      case measure => simp [intOf]; omega

                · omega

        · have HK : Hid (Sort.scanSorted Sort.ltInt dk j0 i = k) := hid (by rw [← HU.out, Proofs.scanSorted_stop _ _ _ _ (.inl hk3)])
          have HM : Hid (Sort.partialInsertionSort Sort.ltInt d i0 j0 = (dk, true)) := hid (by rw [← HE.out, Proofs.pi_true _ _ _ _ _ _ hs5 (by rw [HK.out]; omega)])
          obtain rfl : k = j0 := by omega
          have hd : decide ((k : Int) < (k : Int)) = false := by simp
          go_wp2_with fail
          go_big_quiet (first | (go_at_call 72; refine Calls.quiet_of_same (less_any _ _ _)))
          go_wp2
          go_ret
          exact ⟨dk, true, rfl, HM.out, hr.draw nq⟩
    · obtain rfl : s = 5 := by omega
      have HM : Hid (Sort.partialInsertionSort Sort.ltInt d i0 j0 = (dk, false)) := hid (by rw [← HE.out]; rfl)
      go_wp2
      go_ret
      exact ⟨dk, false, rfl, HM.out, hr⟩
end Go.Proofs.Ytbkcbclloemajaa
