/- Joined: UOrdb. -/
import Derived.Test.YtgngaldoemopjaaGreatDoorFUOrd
namespace Go.Proofs.YtgngaldoemopjaaGreatDoor.U
open Go.RowKit
theorem gat {d : Array Int} {G : Nat → Int} (h : ∀ t, G t = d[t]!) {k j : Nat} (e : k = j) : G k = d[j]! := by rw [h, e]
theorem gcg {G : Nat → Int} {x y x' y' : Nat} {r : Bool} (h : Sort.ltInt (G x) (G y) = r) (e1 : x = x') (e2 : y = y') : Sort.ltInt (G x') (G y') = r := by rw [← e1, ← e2]; exact h
theorem Rw.swapAt {w0 : World} {b off : Nat} {d : Array Int} {W : World} (h : Rw w0 b off d W) (i j : Nat) (hi : i < d.size) (hj : j < d.size) {p q : Nat} (hp : p = off + i) (hq : q = off + j) {x y : Int} (hx : x = d[j]!) (hy : y = d[i]!) :
   Rw w0 b off (Sort.swp d i j) ((W.setCell ⟨b, p, none⟩ (.int .i32 x)).setCell ⟨b, q, none⟩ (.int .i32 y)).drew := by
 subst hp hq
 exact h.swap hi hj hx hy
set_option maxRecDepth 100000 in
set_option maxHeartbeats 4000000 in
theorem rev_any (w0 : World) (b off cap : Nat) (d : Array Int) (i0 j0 : Nat) (W : World) (h : Rw w0 b off d W) (hij : i0 < j0) (hj : j0 ≤ d.size) (hs : d.size ≤ 1000000) :
   Calls Tryz.prog 202 #[.slice (some ⟨b, off, none⟩) d.size cap, .int .i64 i0, .int .i64 j0] W fun e W' => e = .returned (.tuple #[]) ∧ ∃ d', Rw w0 b off d' W' ∧ Sort.PermIn i0 j0 d d' := by
 generalize hN : d.size = N at hj hs ⊢
 go_enter Tryz.func202, Tryz.ntmps202
 go_wp2
 go_loopw [6, 7] (fun v u wr => ∃ (i j : Nat) (dk : Array Int), v = .int .i64 (i : Int) ∧ u = .int .i64 (j : Int) ∧ i0 ≤ i ∧ j < j0 ∧ Hid (dk.size = N) ∧ Rw w0 b off dk wr ∧ Hid (Sort.PermIn i0 j0 d dk)) (fun _ u _ => (intOf u).toNat)
 case atStart => exact ⟨i0, j0 - 1, d, rfl, by go_num, Nat.le_refl _, by omega, hN, h, Sort.permIn_refl _ _ _⟩
 case round =>
   obtain ⟨i, j, dk, rfl, rfl, h1, h2, hk, hr, HP⟩ := hrel
   by_cases hlt : i < j
   · obtain ⟨G, HG, hc, hf⟩ := hr.fam hk.out
     go_wp2_with fail
     go_region
     go_wp2
     go_roundw
     case rel =>
       refine ⟨i + 1, j - 1, Sort.swp dk i j, by go_num, by go_num, by omega, by omega, hid (by rw [Sort.size_swp]; exact hk.out), hr.swapAt i j (by rw [hk.out]; omega) (by rw [hk.out]; omega) (by omega) (by omega) (HG.out _) (HG.out _), hid (Sort.permIn_trans _ _ _ _ _ HP.out (Sort.swp_permIn _ _ _ _ _ h1 (by omega) (by omega) h2 (by rw [hk.out]; exact hj)))⟩
     case measure => simp [intOf]; omega
   · go_wp2
     go_end0
     exact ⟨rfl, dk, hr, HP.out⟩
set_option maxRecDepth 100000 in
set_option maxHeartbeats 8000000 in
theorem sift_any (w0 : World) (b off cap : Nat) (d : Array Int) (r0 hi lo : Nat) (W : World) (h : Rw w0 b off d W) (hij : r0 ≤ hi) (hj : lo + hi ≤ d.size) (hs : d.size ≤ 1000000) :
   Calls Tryz.prog 218 #[.slice (some ⟨b, off, none⟩) d.size cap, .int .i64 r0, .int .i64 hi, .int .i64 lo] W fun e W' => e = .returned (.tuple #[]) ∧ Rw w0 b off (Sort.siftDown Sort.ltInt hi lo r0 d) W' := by
 generalize hN : d.size = N at hj hs ⊢
 go_enter Tryz.func218, Tryz.ntmps218
 go_wp2
 go_loopw [8] (fun v wr => ∃ (root : Nat) (dk : Array Int), v = .int .i64 (root : Int) ∧ root ≤ hi ∧ Hid (dk.size = N) ∧ Rw w0 b off dk wr ∧ Hid (Sort.siftDown Sort.ltInt hi lo root dk = Sort.siftDown Sort.ltInt hi lo r0 d)) (fun v _ => hi - (intOf v).toNat)
 case atStart => exact ⟨r0, d, rfl, hij, hN, h, rfl⟩
 case round =>
   obtain ⟨root, dk, rfl, h1, hk, hr, HE⟩ := hrel
   by_cases h0 : hi ≤ 2 * root + 1
   · have h0z : (hi : Int) ≤ 2 * (root : Int) + 1 := by omega
     go_wp2
     go_end0
     exact ⟨rfl, by rw [← HE.out, Sort.sd_end _ _ h0]; exact hr⟩
   · have h0z : ¬ ((hi : Int) ≤ 2 * (root : Int) + 1) := by omega
     obtain ⟨G, HG, hc, hf⟩ := hr.fam hk.out
     by_cases h2 : 2 * root + 2 < hi
     · have h2z : 2 * (root : Int) + 1 + 1 < (hi : Int) := by omega
       go_wp2_with fail
       go_big_quiet (first | (go_at_call 204; refine Calls.quiet_of_same (less_any _ _ _)))
       go_wp2_with fail
       · have hL : Hid (Sort.ltInt (G (lo + 2 * root + 1)) (G (lo + 2 * root + 2)) = true) := by assumption
         replace hr := hr.draw nq
         replace hc : ∀ t, t < N → (wr.drewN nq).cell? ⟨b, off + t, none⟩ = some (.int .i32 (G t)) := hc
         replace hf : ∀ t, t < N → (wr.drewN nq).frozen? ⟨b, off + t, none⟩ = false := hf
         generalize wr.drewN nq = wy at *
         clear nq
         go_big_quiet (first | (go_at_call 204; refine Calls.quiet_of_same (less_any _ _ _)))
         go_wp2_with fail
         · have hl : Hid (Sort.ltInt (G (lo + root)) (G (lo + 2 * root + 2)) = false) := hid (by have h9 : (!Sort.ltInt (G (lo + root)) (G (lo + 2 * root + 2))) = true := (by assumption); simpa using h9)
           (try simp only [Exit.inBlock, Exit.then]); refine bodyPost_ret (results_none rfl _ _ _) rfl ?_
           refine ⟨rfl, ?_⟩
           rw [← HE.out, Sort.sd_right_stop Sort.ltInt dk h2 (by rw [← HG.out, ← HG.out]; exact gcg hL.out (by omega) (by omega)) (by rw [← HG.out, ← HG.out]; exact gcg hl.out (by omega) (by omega))]
           exact hr.draw nq
         · have hl : Hid (Sort.ltInt (G (lo + root)) (G (lo + 2 * root + 2)) = true) := hid (by have h9 : (!Sort.ltInt (G (lo + root)) (G (lo + 2 * root + 2))) = false := (by assumption); simpa using h9)
           replace hr := hr.draw nq
           replace hc : ∀ t, t < N → (wy.drewN nq).cell? ⟨b, off + t, none⟩ = some (.int .i32 (G t)) := hc
           replace hf : ∀ t, t < N → (wy.drewN nq).frozen? ⟨b, off + t, none⟩ = false := hf
           generalize wy.drewN nq = wz at *
           go_region
           go_wp2
           go_roundw
           case rel => exact ⟨2 * root + 2, Sort.swp dk (lo + root) (lo + (2 * root + 2)), by go_num, by omega, hid (by rw [Sort.size_swp]; exact hk.out), hr.swapAt (lo + root) (lo + (2 * root + 2)) (by rw [hk.out]; omega) (by rw [hk.out]; omega) (by omega) (by omega) (gat HG.out (by omega)) (gat HG.out (by omega)), hid (by rw [← HE.out, Sort.sd_right_go Sort.ltInt dk h2 (by rw [← HG.out, ← HG.out]; exact gcg hL.out (by omega) (by omega)) (by rw [← HG.out, ← HG.out]; exact gcg hl.out (by omega) (by omega))])⟩
           case measure => simp [intOf]; omega
       · have hL : Hid (Sort.ltInt (G (lo + 2 * root + 1)) (G (lo + 2 * root + 2)) = false) := by assumption
         replace hr := hr.draw nq
         replace hc : ∀ t, t < N → (wr.drewN nq).cell? ⟨b, off + t, none⟩ = some (.int .i32 (G t)) := hc
         replace hf : ∀ t, t < N → (wr.drewN nq).frozen? ⟨b, off + t, none⟩ = false := hf
         generalize wr.drewN nq = wy at *
         clear nq
         go_big_quiet (first | (go_at_call 204; refine Calls.quiet_of_same (less_any _ _ _)))
         go_wp2_with fail
         · have hl : Hid (Sort.ltInt (G (lo + root)) (G (lo + 2 * root + 1)) = false) := hid (by have h9 : (!Sort.ltInt (G (lo + root)) (G (lo + 2 * root + 1))) = true := (by assumption); simpa using h9)
           (try simp only [Exit.inBlock, Exit.then]); refine bodyPost_ret (results_none rfl _ _ _) rfl ?_
           refine ⟨rfl, ?_⟩
           rw [← HE.out, Sort.sd_left_stop Sort.ltInt dk (by omega) (fun _ => (by rw [← HG.out, ← HG.out]; exact gcg hL.out (by omega) (by omega))) (by rw [← HG.out, ← HG.out]; exact gcg hl.out (by omega) (by omega))]
           exact hr.draw nq
         · have hl : Hid (Sort.ltInt (G (lo + root)) (G (lo + 2 * root + 1)) = true) := hid (by have h9 : (!Sort.ltInt (G (lo + root)) (G (lo + 2 * root + 1))) = false := (by assumption); simpa using h9)
           replace hr := hr.draw nq
           replace hc : ∀ t, t < N → (wy.drewN nq).cell? ⟨b, off + t, none⟩ = some (.int .i32 (G t)) := hc
           replace hf : ∀ t, t < N → (wy.drewN nq).frozen? ⟨b, off + t, none⟩ = false := hf
           generalize wy.drewN nq = wz at *
           go_region
           go_wp2
           go_roundw
           case rel => exact ⟨2 * root + 1, Sort.swp dk (lo + root) (lo + (2 * root + 1)), by go_num, by omega, hid (by rw [Sort.size_swp]; exact hk.out), hr.swapAt (lo + root) (lo + (2 * root + 1)) (by rw [hk.out]; omega) (by rw [hk.out]; omega) (by omega) (by omega) (gat HG.out (by omega)) (gat HG.out (by omega)), hid (by rw [← HE.out, Sort.sd_left_go Sort.ltInt dk (by omega) (fun _ => (by rw [← HG.out, ← HG.out]; exact gcg hL.out (by omega) (by omega))) (by rw [← HG.out, ← HG.out]; exact gcg hl.out (by omega) (by omega))])⟩
           case measure => simp [intOf]; omega
     · have h2z : decide (2 * (root : Int) + 1 + 1 < (hi : Int)) = false := decide_eq_false (by omega)
       go_wp2_with fail
       go_big_quiet (first | (go_at_call 204; refine Calls.quiet_of_same (less_any _ _ _)))
       go_wp2_with fail
       replace hr := hr.draw nq
       replace hc : ∀ t, t < N → (wr.drewN nq).cell? ⟨b, off + t, none⟩ = some (.int .i32 (G t)) := hc
       replace hf : ∀ t, t < N → (wr.drewN nq).frozen? ⟨b, off + t, none⟩ = false := hf
       generalize wr.drewN nq = wy at *
       clear nq
       go_big_quiet (first | (go_at_call 204; refine Calls.quiet_of_same (less_any _ _ _)))
       go_wp2_with fail
       · have hl : Hid (Sort.ltInt (G (lo + root)) (G (lo + 2 * root + 1)) = false) := hid (by have h9 : (!Sort.ltInt (G (lo + root)) (G (lo + 2 * root + 1))) = true := (by assumption); simpa using h9)
         (try simp only [Exit.inBlock, Exit.then]); refine bodyPost_ret (results_none rfl _ _ _) rfl ?_
         refine ⟨rfl, ?_⟩
         rw [← HE.out, Sort.sd_left_stop Sort.ltInt dk (by omega) (fun h => absurd h h2) (by rw [← HG.out, ← HG.out]; exact gcg hl.out (by omega) (by omega))]
         exact hr.draw nq
       · have hl : Hid (Sort.ltInt (G (lo + root)) (G (lo + 2 * root + 1)) = true) := hid (by have h9 : (!Sort.ltInt (G (lo + root)) (G (lo + 2 * root + 1))) = false := (by assumption); simpa using h9)
         replace hr := hr.draw nq
         replace hc : ∀ t, t < N → (wy.drewN nq).cell? ⟨b, off + t, none⟩ = some (.int .i32 (G t)) := hc
         replace hf : ∀ t, t < N → (wy.drewN nq).frozen? ⟨b, off + t, none⟩ = false := hf
         generalize wy.drewN nq = wz at *
         go_region
         go_wp2
         go_roundw
         case rel => exact ⟨2 * root + 1, Sort.swp dk (lo + root) (lo + (2 * root + 1)), by go_num, by omega, hid (by rw [Sort.size_swp]; exact hk.out), hr.swapAt (lo + root) (lo + (2 * root + 1)) (by rw [hk.out]; omega) (by rw [hk.out]; omega) (by omega) (by omega) (gat HG.out (by omega)) (gat HG.out (by omega)), hid (by rw [← HE.out, Sort.sd_left_go Sort.ltInt dk (by omega) (fun h => absurd h h2) (by rw [← HG.out, ← HG.out]; exact gcg hl.out (by omega) (by omega))])⟩
         case measure => simp [intOf]; omega
set_option maxRecDepth 100000 in
set_option maxHeartbeats 8000000 in
theorem heap_any (w0 : World) (b off cap : Nat) (d : Array Int) (i0 j0 : Nat) (W : World) (h : Rw w0 b off d W) (hij : i0 ≤ j0) (hj : j0 ≤ d.size) (hs : d.size ≤ 1000000) :
   Calls Tryz.prog 199 #[.slice (some ⟨b, off, none⟩) d.size cap, .int .i64 i0, .int .i64 j0] W fun e W' => e = .returned (.tuple #[]) ∧ Rw w0 b off (Sort.heapSort Sort.ltInt d i0 j0) W' := by
 generalize hN : d.size = N at hj hs ⊢
 have ec : ((j0 - i0 : Nat) : Int) = (j0 : Int) - (i0 : Int) := by omega
 go_enter Tryz.func199, Tryz.ntmps199
 go_wp2
 go_loopw [9] (fun v wr => ∃ (k : Nat) (dk : Array Int), v = .int .i64 ((k : Int) - 1) ∧ k ≤ (j0 - i0 - 1) / 2 + 1 ∧ Hid (dk.size = N) ∧ Rw w0 b off dk wr ∧ Hid (Sort.heapBuild Sort.ltInt (j0 - i0) i0 k dk = Sort.heapBuild Sort.ltInt (j0 - i0) i0 ((j0 - i0 - 1) / 2 + 1) d)) (fun v _ => (intOf v + 1).toNat)
 case atStart => exact ⟨(j0 - i0 - 1) / 2 + 1, d, by rw [Proofs.half_start hij], Nat.le_refl _, hN, h, rfl⟩
 case round =>
   obtain ⟨k, dk, rfl, h1, hk, hr, HE⟩ := hrel
   cases k with
   | zero =>
     have HB : Hid (dk = Sort.heapBuild Sort.ltInt (j0 - i0) i0 ((j0 - i0 - 1) / 2 + 1) d) := HE
     clear HE h1
     rw [show (((0 : Nat) : Int) - 1) = (-1 : Int) from rfl]
     go_wp2
     go_loopw [10] (fun v wr => ∃ (k : Nat) (dj : Array Int), v = .int .i64 ((k : Int) - 1) ∧ k ≤ j0 - i0 ∧ Hid (dj.size = N) ∧ Rw w0 b off dj wr ∧ Hid (Sort.heapPop Sort.ltInt i0 k dj = Sort.heapPop Sort.ltInt i0 (j0 - i0) dk)) (fun v _ => (intOf v + 1).toNat)
     case atStart => exact ⟨j0 - i0, dk, by rw [ec], Nat.le_refl _, hk, hr, rfl⟩
     case round =>
       rename World => wq
       obtain ⟨k, dj, rfl, h1, hk2, hr2, HE⟩ := hrel
       cases k with
       | zero =>
         go_wp2
         go_end0
         refine ⟨rfl, ?_⟩
         rw [show Sort.heapSort Sort.ltInt d i0 j0 = dj by rw [Sort.heapSort, ← HB.out, ← HE.out]; rfl]
         exact hr2
       | succ k =>
         obtain ⟨G, HG, hc, hf⟩ := hr2.fam hk2.out
         have hcall : ∀ dn wn, dn.size = N → Rw w0 b off dn wn → Calls Tryz.prog 218 #[.slice (some ⟨b, off, none⟩) N cap, .int .i64 0, .int .i64 k, .int .i64 i0] wn fun e W' => e = .returned (.tuple #[]) ∧ Rw w0 b off (Sort.siftDown Sort.ltInt k i0 0 dn) W' := by
           intro dn wn h8 h9
           subst h8
           exact sift_any w0 b off cap dn 0 k i0 wn h9 (Nat.zero_le _) (by omega) (by omega)
         rcases Nat.eq_zero_or_pos k with rfl | hkp
         · go_wp2_with fail
           go_region
           go_wp2_with fail
           refine (hcall (Sort.swp dj i0 (i0 + 0)) _ (by rw [Sort.size_swp]; exact hk2.out) (hr2.swapAt i0 (i0 + 0) (by rw [hk2.out]; omega) (by rw [hk2.out]; omega) (by omega) (by omega) (gat HG.out (by omega)) (gat HG.out (by omega)))).mono ?_
           rintro e w1 ⟨rfl, hr3⟩
           clear hcall hc hf
           go_wp2
           go_roundw
           case rel => exact ⟨0, _, by go_num, by omega, hid (by rw [Sort.size_siftDown _ _ _ _ _ _ (Nat.le_refl _), Sort.size_swp]; exact hk2.out), hr3, HE⟩
           case measure => simp [intOf]
         · go_wp2_with fail
           go_region
           go_wp2_with fail
           refine (hcall (Sort.swp dj i0 (i0 + k)) _ (by rw [Sort.size_swp]; exact hk2.out) (hr2.swapAt i0 (i0 + k) (by rw [hk2.out]; omega) (by rw [hk2.out]; omega) (by omega) (by omega) (gat HG.out (by omega)) (gat HG.out (by omega)))).mono ?_
           rintro e w1 ⟨rfl, hr3⟩
           clear hcall hc hf
           go_wp2
           go_roundw
           case rel => exact ⟨k, _, by go_num, by omega, hid (by rw [Sort.size_siftDown _ _ _ _ _ _ (Nat.le_refl _), Sort.size_swp]; exact hk2.out), hr3, HE⟩
           case measure => simp [intOf]
   | succ k =>
     have hcall : Calls Tryz.prog 218 #[.slice (some ⟨b, off, none⟩) N cap, .int .i64 k, .int .i64 ((j0 : Int) - (i0 : Int)), .int .i64 i0] wr fun e W' => e = .returned (.tuple #[]) ∧ Rw w0 b off (Sort.siftDown Sort.ltInt (j0 - i0) i0 k dk) W' := by
       have h8 := hk.out
       subst h8
       rw [← ec]
       exact sift_any w0 b off cap dk k (j0 - i0) i0 wr hr (by omega) (by omega) (by omega)
     go_wp2_with fail
     refine hcall.mono ?_
     rintro e w1 ⟨rfl, hr3⟩
     clear hcall
     go_wp2
     go_roundw
     case rel => exact ⟨k, _, by go_num, by omega, hid (by rw [Sort.size_siftDown _ _ _ _ _ _ (Nat.le_refl _)]; exact hk.out), hr3, HE⟩
     case measure => simp [intOf]
end Go.Proofs.YtgngaldoemopjaaGreatDoor.U
