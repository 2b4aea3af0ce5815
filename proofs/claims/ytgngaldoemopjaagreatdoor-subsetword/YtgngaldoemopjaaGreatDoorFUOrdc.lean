/- Joined: UOrdc. -/
import Derived.Sort.WalkC4
import Derived.Test.YtgngaldoemopjaaGreatDoorFUOrdb
namespace Go.Proofs.YtgngaldoemopjaaGreatDoor.U
open Go.RowKit
set_option maxRecDepth 100000 in
set_option maxHeartbeats 12000000 in
theorem parteq_any (w0 : World) (b off cap : Nat) (d : Array Int) (i0 j0 pv : Nat) (W : World) (h : Rw w0 b off d W) (hp0 : i0 ≤ pv) (hp1 : pv < j0) (hj : j0 ≤ d.size) (hs : d.size ≤ 1000000) :
   Calls Tryz.prog 205 #[.slice (some ⟨b, off, none⟩) d.size cap, .int .i64 i0, .int .i64 j0, .int .i64 pv] W fun e W' => ∃ (mid : Nat) (d' : Array Int), e = .returned (.int .i64 mid) ∧ Sort.partitionEqual Sort.ltInt d i0 j0 pv = (mid, d') ∧ Rw w0 b off d' W' := by
 generalize hN : d.size = N at hj hs ⊢
 obtain ⟨G, HG, hc, hf⟩ := h.fam hN
 obtain ⟨v', hy'⟩ := cell?_setCell_some (w := W) (p := ⟨b, off + i0, none⟩) (x := .int .i32 (G pv)) (q := ⟨b, off + pv, none⟩) (hc pv (by omega))
 go_enter Tryz.func205, Tryz.ntmps205
 go_wp2_with fail
 go_region
 have h2 := h.swapAt i0 pv (by omega) (by omega) rfl rfl (HG.out pv) (HG.out i0)
 clear hc hf hy' HG h
 go_wp2
 go_loopw [9, 10] (fun v u wr => ∃ (i j : Nat) (dk : Array Int), v = .int .i64 (i : Int) ∧ u = .int .i64 (j : Int) ∧ i0 < i ∧ i ≤ j + 1 ∧ j < j0 ∧ Hid (dk.size = N) ∧ Rw w0 b off dk wr ∧ Hid (Sort.partEqLoop Sort.ltInt i0 i j dk = Sort.partitionEqual Sort.ltInt d i0 j0 pv)) (fun _ u _ => (intOf u).toNat)
 case atStart => exact ⟨i0 + 1, j0 - 1, Sort.swp d i0 pv, by go_num, by go_num, by omega, by omega, by omega, hid (by rw [Sort.size_swp]; exact hN), h2, hid rfl⟩
 case round =>
   obtain ⟨i, j, dk, rfl, rfl, h1, h2, h3, hk, hr, HE⟩ := hrel
   go_wp2
   go_loopw [9] (fun v wq => ∃ i2 : Nat, v = .int .i64 (i2 : Int) ∧ i ≤ i2 ∧ i2 ≤ j + 1 ∧ Rw w0 b off dk wq ∧ Hid (Sort.scanUp (fun x => !Sort.ltInt dk[i0]! x) dk j i2 = Sort.scanUp (fun x => !Sort.ltInt dk[i0]! x) dk j i)) (fun v _ => j + 1 - (intOf v).toNat)
   case atStart => exact ⟨i, rfl, Nat.le_refl _, h2, hr, hid rfl⟩
   case round =>
     clear hr
     obtain ⟨i2, rfl, hi1, hi2, hr, HU⟩ := hrel
     obtain ⟨G, HG, hc, hf⟩ := hr.fam hk.out
     by_cases hle : i2 ≤ j
     · go_wp2_with fail
       go_big_quiet (first | (go_at_call 204; refine Calls.quiet_of_same (less_any _ _ _)))
       go_wp2_with fail
       · have hp : Hid ((!Sort.ltInt (G i0) (G i2)) = true) := by assumption
         go_wp2
         go_roundw
         case rel => exact ⟨i2 + 1, by go_num, by omega, by omega, hr.draw nq, hid (by rw [← HU.out, ← Proofs.scanUp_go _ _ _ _ hle (by have := hp.out; rw [HG.out, HG.out] at this; exact this)])⟩
         case measure => simp [intOf]; omega
       · have hp : Hid ((!Sort.ltInt (G i0) (G i2)) = false) := by assumption
         have HU2 : Hid (i2 = Sort.scanUp (fun x => !Sort.ltInt dk[i0]! x) dk j i) := hid (by rw [← HU.out, Proofs.scanUp_end _ _ _ _ (.inr (by have := hp.out; rw [HG.out, HG.out] at this; exact this))])
         clear HU hp
         replace hr := hr.draw nq
         generalize wr.drewN nq = wx at *
         clear nq hc hf HG
         go_loopw [10] (fun v wq => ∃ j2 : Nat, v = .int .i64 (j2 : Int) ∧ j2 ≤ j ∧ i2 ≤ j2 + 1 ∧ Rw w0 b off dk wq ∧ Hid (Sort.scanDown (fun x => Sort.ltInt dk[i0]! x) dk i2 j2 = Sort.scanDown (fun x => Sort.ltInt dk[i0]! x) dk i2 j)) (fun v _ => (intOf v).toNat)
         case atStart => exact ⟨j, rfl, Nat.le_refl _, hi2, hr, hid rfl⟩
         case round =>
           clear hr
           obtain ⟨j2, rfl, hj1, hj2, hr, HD⟩ := hrel
           obtain ⟨G, HG, hc, hf⟩ := hr.fam hk.out
           by_cases hle2 : i2 ≤ j2
           · go_wp2_with fail
             go_big_quiet (first | (go_at_call 204; refine Calls.quiet_of_same (less_any _ _ _)))
             go_wp2_with fail
             · have hp : Hid (Sort.ltInt (G i0) (G j2) = true) := by assumption
               go_wp2
               go_roundw
               case rel => exact ⟨j2 - 1, by go_num, by omega, by omega, hr.draw nq, hid (by rw [← HD.out, ← Proofs.scanDown_go _ _ _ _ hle2 (by omega) (by have := hp.out; rw [HG.out, HG.out] at this; exact this)])⟩
               case measure => simp [intOf]; omega
             · have hp : Hid (Sort.ltInt (G i0) (G j2) = false) := by assumption
               have HD2 : Hid (j2 = Sort.scanDown (fun x => Sort.ltInt dk[i0]! x) dk i2 j) := hid (by rw [← HD.out, Proofs.scanDown_end _ _ _ _ (.inr (by have := hp.out; rw [HG.out, HG.out] at this; exact this))])
               clear HD hp
               replace hr := hr.draw nq
               replace hc : ∀ t, t < N → (wr.drewN nq).cell? ⟨b, off + t, none⟩ = some (.int .i32 (G t)) := hc
               replace hf : ∀ t, t < N → (wr.drewN nq).frozen? ⟨b, off + t, none⟩ = false := hf
               generalize wr.drewN nq = wy at *
               clear nq
               have hlt2 : i2 < j2 := Proofs.scans_lt _ _ _ _ _ (by omega) HU2.out HD2.out hle2
               go_wp2_with fail
               go_region
               go_wp2
               go_roundw
               case rel => exact ⟨i2 + 1, j2 - 1, Sort.swp dk i2 j2, by go_num, by go_num, by omega, by omega, by omega, hid (by rw [Sort.size_swp]; exact hk.out), hr.swapAt i2 j2 (by rw [hk.out]; omega) (by rw [hk.out]; omega) (by omega) (by omega) (HG.out _) (HG.out _), hid (by rw [← HE.out, Proofs.partEq_go _ _ _ _ _ HU2.out HD2.out (by omega)])⟩
               case measure => simp [intOf]; omega
           · have hd : decide ((i2 : Int) ≤ (j2 : Int)) = false := by simp; omega
             go_wp2_with fail
             go_big_quiet (first | (go_at_call 204; refine Calls.quiet_of_same (less_any _ _ _)))
             go_wp2_with fail
             have HD2 : Hid (j2 = Sort.scanDown (fun x => Sort.ltInt dk[i0]! x) dk i2 j) := hid (by rw [← HD.out, Proofs.scanDown_end _ _ _ _ (.inl hle2)])
             have hov : j2 < i2 := by omega
             clear HD hd
             replace hr := hr.draw nq
             replace hc : ∀ t, t < N → (wr.drewN nq).cell? ⟨b, off + t, none⟩ = some (.int .i32 (G t)) := hc
             replace hf : ∀ t, t < N → (wr.drewN nq).frozen? ⟨b, off + t, none⟩ = false := hf
             generalize wr.drewN nq = wy at *
             clear nq
             have HM : Hid (Sort.partitionEqual Sort.ltInt d i0 j0 pv = (i2, dk)) := hid (by rw [← HE.out, Proofs.partEq_break _ _ _ _ _ HU2.out HD2.out hov])
             go_wp2
             go_ret
             exact ⟨i2, dk, rfl, HM.out, hr⟩
     · have hd : decide ((i2 : Int) ≤ (j : Int)) = false := by simp; omega
       go_wp2_with fail
       go_big_quiet (first | (go_at_call 204; refine Calls.quiet_of_same (less_any _ _ _)))
       go_wp2_with fail
       have HU2 : Hid (i2 = Sort.scanUp (fun x => !Sort.ltInt dk[i0]! x) dk j i) := hid (by rw [← HU.out, Proofs.scanUp_end _ _ _ _ (.inl hle)])
       clear HU hd
       replace hr := hr.draw nq
       generalize wr.drewN nq = wx at *
       clear nq hc hf HG G
       go_loopw [10] (fun v wq => v = .int .i64 (j : Int) ∧ Rw w0 b off dk wq) (fun _ _ => 0)
       case atStart => exact ⟨rfl, hr⟩
       case round =>
         clear hr
         obtain ⟨rfl, hr⟩ := hrel
         obtain ⟨G, HG, hc, hf⟩ := hr.fam hk.out
         have hd : decide ((i2 : Int) ≤ (j : Int)) = false := by simp; omega
         go_wp2_with fail
         go_big_quiet (first | (go_at_call 204; refine Calls.quiet_of_same (less_any _ _ _)))
         go_wp2_with fail
         obtain ⟨j2, hj2⟩ : ∃ j2, j2 = j := ⟨j, rfl⟩
         have HD2 : Hid (j2 = Sort.scanDown (fun x => Sort.ltInt dk[i0]! x) dk i2 j) := hid (by rw [Proofs.scanDown_end _ _ _ _ (.inl hle)]; exact hj2)
         subst hj2
         have hov : j2 < i2 := by omega
         replace hr := hr.draw nq
         replace hc : ∀ t, t < N → (wr.drewN nq).cell? ⟨b, off + t, none⟩ = some (.int .i32 (G t)) := hc
         replace hf : ∀ t, t < N → (wr.drewN nq).frozen? ⟨b, off + t, none⟩ = false := hf
         generalize wr.drewN nq = wy at *
         clear nq
         have HM : Hid (Sort.partitionEqual Sort.ltInt d i0 j0 pv = (i2, dk)) := hid (by rw [← HE.out, Proofs.partEq_break _ _ _ _ _ HU2.out HD2.out hov])
         go_wp2
         go_ret
         exact ⟨i2, dk, rfl, HM.out, hr⟩
set_option maxRecDepth 100000 in
set_option maxHeartbeats 12000000 in
theorem part_any (w0 : World) (b off cap : Nat) (d : Array Int) (i0 j0 pv : Nat) (W : World) (h : Rw w0 b off d W) (hp0 : i0 ≤ pv) (hp1 : pv < j0) (hj : j0 ≤ d.size) (hs : d.size ≤ 1000000) :
   Calls Tryz.prog 206 #[.slice (some ⟨b, off, none⟩) d.size cap, .int .i64 i0, .int .i64 j0, .int .i64 pv] W fun e W' => ∃ (mid : Nat) (al : Bool) (d' : Array Int), e = .returned (.tuple #[.int .i64 mid, .bool al]) ∧ Sort.partition Sort.ltInt d i0 j0 pv = (mid, al, d') ∧ Rw w0 b off d' W' := by
 generalize hN : d.size = N at hj hs ⊢
 obtain ⟨G, HG, hc, hf⟩ := h.fam hN
 obtain ⟨v', hy'⟩ := cell?_setCell_some (w := W) (p := ⟨b, off + i0, none⟩) (x := .int .i32 (G pv)) (q := ⟨b, off + pv, none⟩) (hc pv (by omega))
 go_enter Tryz.func206, Tryz.ntmps206
 go_wp2_with fail
 go_region
 have hr := h.swapAt i0 pv (by omega) (by omega) rfl rfl (HG.out pv) (HG.out i0)
 have hk : Hid ((Sort.swp d i0 pv).size = N) := hid (by rw [Sort.size_swp]; exact hN)
 clear hc hf hy' HG h
 obtain ⟨dk, hdk⟩ : ∃ dk, Hid (dk = Sort.swp d i0 pv) := ⟨_, hid rfl⟩
 rw [← hdk.out] at hr hk
 obtain ⟨i, hi⟩ : ∃ i, Hid (i = i0 + 1) := ⟨_, hid rfl⟩
 obtain ⟨j, hj9⟩ : ∃ j, Hid (j = j0 - 1) := ⟨_, hid rfl⟩
 have h1 : i0 < i := by have := hi.out; omega
 have h2 : i ≤ j + 1 := by have := hi.out; have := hj9.out; omega
 have h3 : j < j0 := by have := hj9.out; omega
 have e1 : ((i0 : Int) + 1) = (i : Int) := by have := hi.out; omega
 have e2 : ((j0 : Int) - 1) = (j : Int) := by have := hj9.out; omega
 go_wp2
 clear e1 e2
 go_loopw [10] (fun v wq => ∃ i2 : Nat, v = .int .i64 (i2 : Int) ∧ i ≤ i2 ∧ i2 ≤ j + 1 ∧ Rw w0 b off dk wq ∧ Hid (Sort.scanUp (fun x => Sort.ltInt x dk[i0]!) dk j i2 = Sort.scanUp (fun x => Sort.ltInt x dk[i0]!) dk j i)) (fun v _ => j + 1 - (intOf v).toNat)
 case atStart => exact ⟨i, rfl, Nat.le_refl _, h2, hr, hid rfl⟩
 case round =>
   clear hr
   obtain ⟨i2, rfl, hi1, hi2, hr, HU⟩ := hrel
   obtain ⟨G, HG, hc, hf⟩ := hr.fam hk.out
   by_cases hle : i2 ≤ j
   · go_wp2_with fail
     go_big_quiet (first | (go_at_call 204; refine Calls.quiet_of_same (less_any _ _ _)))
     go_wp2_with fail
     · have hp : Hid (Sort.ltInt (G i2) (G i0) = true) := by assumption
       go_wp2
       go_roundw
       case rel => exact ⟨i2 + 1, by go_num, by omega, by omega, hr.draw nq, hid (by rw [← HU.out, ← Proofs.scanUp_go _ _ _ _ hle (by have := hp.out; rw [HG.out, HG.out] at this; exact this)])⟩
       case measure => simp [intOf]; omega
     · have hp : Hid (Sort.ltInt (G i2) (G i0) = false) := by assumption
       have HU2 : Hid (i2 = Sort.scanUp (fun x => Sort.ltInt x dk[i0]!) dk j i) := hid (by rw [← HU.out, Proofs.scanUp_end _ _ _ _ (.inr (by have := hp.out; rw [HG.out, HG.out] at this; exact this))])
       clear HU hp
       replace hr := hr.draw nq
       generalize wr.drewN nq = wx at *
       clear nq hc hf HG
       go_loopw [11] (fun v wq => ∃ j2 : Nat, v = .int .i64 (j2 : Int) ∧ j2 ≤ j ∧ i2 ≤ j2 + 1 ∧ Rw w0 b off dk wq ∧ Hid (Sort.scanDown (fun x => !Sort.ltInt x dk[i0]!) dk i2 j2 = Sort.scanDown (fun x => !Sort.ltInt x dk[i0]!) dk i2 j)) (fun v _ => (intOf v).toNat)
       case atStart => exact ⟨j, rfl, Nat.le_refl _, hi2, hr, hid rfl⟩
       case round =>
         clear hr
         obtain ⟨j2, rfl, hj1, hj2, hr, HD⟩ := hrel
         obtain ⟨G, HG, hc, hf⟩ := hr.fam hk.out
         by_cases hle2 : i2 ≤ j2
         · go_wp2_with fail
           go_big_quiet (first | (go_at_call 204; refine Calls.quiet_of_same (less_any _ _ _)))
           go_wp2_with fail
           · have hp : Hid ((!Sort.ltInt (G j2) (G i0)) = true) := by assumption
             go_wp2
             go_roundw
             case rel => exact ⟨j2 - 1, by go_num, by omega, by omega, hr.draw nq, hid (by rw [← HD.out, ← Proofs.scanDown_go _ _ _ _ hle2 (by omega) (by have := hp.out; rw [HG.out, HG.out] at this; exact this)])⟩
             case measure => simp [intOf]; omega
           · have hp : Hid ((!Sort.ltInt (G j2) (G i0)) = false) := by assumption
             have HD2 : Hid (j2 = Sort.scanDown (fun x => !Sort.ltInt x dk[i0]!) dk i2 j) := hid (by rw [← HD.out, Proofs.scanDown_end _ _ _ _ (.inr (by have := hp.out; rw [HG.out, HG.out] at this; exact this))])
             clear HD hp
             replace hr := hr.draw nq
             replace hc : ∀ t, t < N → (wr.drewN nq).cell? ⟨b, off + t, none⟩ = some (.int .i32 (G t)) := hc
             replace hf : ∀ t, t < N → (wr.drewN nq).frozen? ⟨b, off + t, none⟩ = false := hf
             generalize wr.drewN nq = wy at *
             clear nq
             have hlt2 : i2 < j2 := Proofs.part_scans_lt _ _ _ _ _ (by omega) HU2.out HD2.out hle2
             have HF : Hid (Sort.partition Sort.ltInt d i0 j0 pv = ((Sort.partLoop Sort.ltInt i0 (i2 + 1) (j2 - 1) (Sort.swp dk i2 j2)).1, false, Sort.swp (Sort.partLoop Sort.ltInt i0 (i2 + 1) (j2 - 1) (Sort.swp dk i2 j2)).2 (Sort.partLoop Sort.ltInt i0 (i2 + 1) (j2 - 1) (Sort.swp dk i2 j2)).1 i0)) := hid (Proofs.part_first_go _ _ _ _ _ hi.out hj9.out hdk.out HU2.out HD2.out (by omega))
             go_wp2_with fail
             go_region
             replace hr := hr.swapAt i2 j2 (by rw [hk.out]; omega) (by rw [hk.out]; omega) rfl rfl (HG.out j2) (HG.out i2)
             have hk3 : Hid ((Sort.swp dk i2 j2).size = N) := hid (by rw [Sort.size_swp]; exact hk.out)
             clear hc hf HG HU2 HD2 hk
             generalize Sort.swp dk i2 j2 = ds at *
             go_wp2
             go_loopw [10, 11] (fun v u wr => ∃ (i j : Nat) (dk : Array Int), v = .int .i64 (i : Int) ∧ u = .int .i64 (j : Int) ∧ i0 < i ∧ i ≤ j + 1 ∧ j < j0 ∧ Hid (dk.size = N) ∧ Rw w0 b off dk wr ∧ Hid (Sort.partLoop Sort.ltInt i0 i j dk = Sort.partLoop Sort.ltInt i0 (i2 + 1) (j2 - 1) ds)) (fun _ u _ => (intOf u).toNat)
             case atStart => exact ⟨i2 + 1, j2 - 1, ds, by go_num, by go_num, by omega, by omega, by omega, hk3, hr, hid rfl⟩
             case round =>
               clear hr hk3 hdk hi hj9 h1 h2 h3
               obtain ⟨i, j, dk, rfl, rfl, h1, h2, h3, hk, hr, HE⟩ := hrel
               go_wp2
               go_loopw [10] (fun v wq => ∃ i2 : Nat, v = .int .i64 (i2 : Int) ∧ i ≤ i2 ∧ i2 ≤ j + 1 ∧ Rw w0 b off dk wq ∧ Hid (Sort.scanUp (fun x => Sort.ltInt x dk[i0]!) dk j i2 = Sort.scanUp (fun x => Sort.ltInt x dk[i0]!) dk j i)) (fun v _ => j + 1 - (intOf v).toNat)
               case atStart => exact ⟨i, rfl, Nat.le_refl _, h2, hr, hid rfl⟩
               case round =>
                 clear hr
                 obtain ⟨i2, rfl, hi1, hi2, hr, HU⟩ := hrel
                 obtain ⟨G, HG, hc, hf⟩ := hr.fam hk.out
                 by_cases hle : i2 ≤ j
                 · go_wp2_with fail
                   go_big_quiet (first | (go_at_call 204; refine Calls.quiet_of_same (less_any _ _ _)))
                   go_wp2_with fail
                   · have hp : Hid (Sort.ltInt (G i2) (G i0) = true) := by assumption
                     go_wp2
                     go_roundw
                     case rel => exact ⟨i2 + 1, by go_num, by omega, by omega, hr.draw nq, hid (by rw [← HU.out, ← Proofs.scanUp_go _ _ _ _ hle (by have := hp.out; rw [HG.out, HG.out] at this; exact this)])⟩
                     case measure => simp [intOf]; omega
                   · have hp : Hid (Sort.ltInt (G i2) (G i0) = false) := by assumption
                     have HU2 : Hid (i2 = Sort.scanUp (fun x => Sort.ltInt x dk[i0]!) dk j i) := hid (by rw [← HU.out, Proofs.scanUp_end _ _ _ _ (.inr (by have := hp.out; rw [HG.out, HG.out] at this; exact this))])
                     clear HU hp
                     replace hr := hr.draw nq
                     generalize wr.drewN nq = wx at *
                     clear nq hc hf HG
                     go_loopw [11] (fun v wq => ∃ j2 : Nat, v = .int .i64 (j2 : Int) ∧ j2 ≤ j ∧ i2 ≤ j2 + 1 ∧ Rw w0 b off dk wq ∧ Hid (Sort.scanDown (fun x => !Sort.ltInt x dk[i0]!) dk i2 j2 = Sort.scanDown (fun x => !Sort.ltInt x dk[i0]!) dk i2 j)) (fun v _ => (intOf v).toNat)
                     case atStart => exact ⟨j, rfl, Nat.le_refl _, hi2, hr, hid rfl⟩
                     case round =>
                       clear hr
                       obtain ⟨j2, rfl, hj1, hj2, hr, HD⟩ := hrel
                       obtain ⟨G, HG, hc, hf⟩ := hr.fam hk.out
                       by_cases hle2 : i2 ≤ j2
                       · go_wp2_with fail
                         go_big_quiet (first | (go_at_call 204; refine Calls.quiet_of_same (less_any _ _ _)))
                         go_wp2_with fail
                         · have hp : Hid ((!Sort.ltInt (G j2) (G i0)) = true) := by assumption
                           go_wp2
                           go_roundw
                           case rel => exact ⟨j2 - 1, by go_num, by omega, by omega, hr.draw nq, hid (by rw [← HD.out, ← Proofs.scanDown_go _ _ _ _ hle2 (by omega) (by have := hp.out; rw [HG.out, HG.out] at this; exact this)])⟩
                           case measure => simp [intOf]; omega
                         · have hp : Hid ((!Sort.ltInt (G j2) (G i0)) = false) := by assumption
                           have HD2 : Hid (j2 = Sort.scanDown (fun x => !Sort.ltInt x dk[i0]!) dk i2 j) := hid (by rw [← HD.out, Proofs.scanDown_end _ _ _ _ (.inr (by have := hp.out; rw [HG.out, HG.out] at this; exact this))])
                           clear HD hp
                           replace hr := hr.draw nq
                           replace hc : ∀ t, t < N → (wr.drewN nq).cell? ⟨b, off + t, none⟩ = some (.int .i32 (G t)) := hc
                           replace hf : ∀ t, t < N → (wr.drewN nq).frozen? ⟨b, off + t, none⟩ = false := hf
                           generalize wr.drewN nq = wy at *
                           clear nq
                           by_cases hle3 : i2 ≤ j2
                           · have hlt2 : i2 < j2 := Proofs.part_scans_lt _ _ _ _ _ (by omega) HU2.out HD2.out hle2
                             go_wp2_with fail
                             go_region
                             go_wp2
                             go_roundw
                             case rel => exact ⟨i2 + 1, j2 - 1, Sort.swp dk i2 j2, by go_num, by go_num, by omega, by omega, by omega, hid (by rw [Sort.size_swp]; exact hk.out), hr.swapAt i2 j2 (by rw [hk.out]; omega) (by rw [hk.out]; omega) (by omega) (by omega) (HG.out _) (HG.out _), hid (by rw [← HE.out, Proofs.part_go _ _ _ _ _ HU2.out HD2.out (by omega)])⟩
                             case measure => simp [intOf]; omega
                           · omega
                       · have hd : decide ((i2 : Int) ≤ (j2 : Int)) = false := by simp; omega
                         go_wp2_with fail
                         go_big_quiet (first | (go_at_call 204; refine Calls.quiet_of_same (less_any _ _ _)))
                         go_wp2_with fail
                         have HD2 : Hid (j2 = Sort.scanDown (fun x => !Sort.ltInt x dk[i0]!) dk i2 j) := hid (by rw [← HD.out, Proofs.scanDown_end _ _ _ _ (.inl hle2)])
                         have hov : j2 < i2 := by omega
                         clear HD hd
                         replace hr := hr.draw nq
                         replace hc : ∀ t, t < N → (wr.drewN nq).cell? ⟨b, off + t, none⟩ = some (.int .i32 (G t)) := hc
                         replace hf : ∀ t, t < N → (wr.drewN nq).frozen? ⟨b, off + t, none⟩ = false := hf
                         generalize wr.drewN nq = wy at *
                         clear nq
                         have HM : Hid (Sort.partition Sort.ltInt d i0 j0 pv = (j2, false, Sort.swp dk j2 i0)) := hid (by rw [HF.out, ← HE.out, Proofs.part_break _ _ _ _ _ HU2.out HD2.out hov])
                         have hj2a : i0 ≤ j2 := by omega
                         obtain ⟨v', hy'⟩ := cell?_setCell_some (w := wy) (p := ⟨b, off + j2, none⟩) (x := .int .i32 (G i0)) (q := ⟨b, off + i0, none⟩) (hc i0 (by omega))
                         go_wp2_with fail
                         go_region
                         replace hr := hr.swapAt j2 i0 (by rw [hk.out]; omega) (by rw [hk.out]; omega) rfl rfl (HG.out i0) (HG.out j2)
                         clear hc hf hy' HG
                         go_wp2
                         go_ret2
                         exact ⟨j2, false, _, rfl, HM.out, hr⟩
                 · have hd : decide ((i2 : Int) ≤ (j : Int)) = false := by simp; omega
                   go_wp2_with fail
                   go_big_quiet (first | (go_at_call 204; refine Calls.quiet_of_same (less_any _ _ _)))
                   go_wp2_with fail
                   have HU2 : Hid (i2 = Sort.scanUp (fun x => Sort.ltInt x dk[i0]!) dk j i) := hid (by rw [← HU.out, Proofs.scanUp_end _ _ _ _ (.inl hle)])
                   clear HU hd
                   replace hr := hr.draw nq
                   generalize wr.drewN nq = wx at *
                   clear nq hc hf HG G
                   go_loopw [11] (fun v wq => v = .int .i64 (j : Int) ∧ Rw w0 b off dk wq) (fun _ _ => 0)
                   case atStart => exact ⟨rfl, hr⟩
                   case round =>
                     clear hr
                     obtain ⟨rfl, hr⟩ := hrel
                     obtain ⟨G, HG, hc, hf⟩ := hr.fam hk.out
                     have hd : decide ((i2 : Int) ≤ (j : Int)) = false := by simp; omega
                     go_wp2_with fail
                     go_big_quiet (first | (go_at_call 204; refine Calls.quiet_of_same (less_any _ _ _)))
                     go_wp2_with fail
                     obtain ⟨j2, hj2⟩ : ∃ j2, j2 = j := ⟨j, rfl⟩
                     have HD2 : Hid (j2 = Sort.scanDown (fun x => !Sort.ltInt x dk[i0]!) dk i2 j) := hid (by rw [Proofs.scanDown_end _ _ _ _ (.inl hle)]; exact hj2)
                     subst hj2
                     have hov : j2 < i2 := by omega
                     replace hr := hr.draw nq
                     replace hc : ∀ t, t < N → (wr.drewN nq).cell? ⟨b, off + t, none⟩ = some (.int .i32 (G t)) := hc
                     replace hf : ∀ t, t < N → (wr.drewN nq).frozen? ⟨b, off + t, none⟩ = false := hf
                     generalize wr.drewN nq = wy at *
                     clear nq
                     have HM : Hid (Sort.partition Sort.ltInt d i0 j0 pv = (j2, false, Sort.swp dk j2 i0)) := hid (by rw [HF.out, ← HE.out, Proofs.part_break _ _ _ _ _ HU2.out HD2.out hov])
                     have hj2a : i0 ≤ j2 := by omega
                     obtain ⟨v', hy'⟩ := cell?_setCell_some (w := wy) (p := ⟨b, off + j2, none⟩) (x := .int .i32 (G i0)) (q := ⟨b, off + i0, none⟩) (hc i0 (by omega))
                     go_wp2_with fail
                     go_region
                     replace hr := hr.swapAt j2 i0 (by rw [hk.out]; omega) (by rw [hk.out]; omega) rfl rfl (HG.out i0) (HG.out j2)
                     clear hc hf hy' HG
                     go_wp2
                     go_ret2
                     exact ⟨j2, false, _, rfl, HM.out, hr⟩
         · have hd : decide ((i2 : Int) ≤ (j2 : Int)) = false := by simp; omega
           go_wp2_with fail
           go_big_quiet (first | (go_at_call 204; refine Calls.quiet_of_same (less_any _ _ _)))
           go_wp2_with fail
           have HD2 : Hid (j2 = Sort.scanDown (fun x => !Sort.ltInt x dk[i0]!) dk i2 j) := hid (by rw [← HD.out, Proofs.scanDown_end _ _ _ _ (.inl hle2)])
           have hov : j2 < i2 := by omega
           clear HD hd
           replace hr := hr.draw nq
           replace hc : ∀ t, t < N → (wr.drewN nq).cell? ⟨b, off + t, none⟩ = some (.int .i32 (G t)) := hc
           replace hf : ∀ t, t < N → (wr.drewN nq).frozen? ⟨b, off + t, none⟩ = false := hf
           generalize wr.drewN nq = wy at *
           clear nq
           have HM : Hid (Sort.partition Sort.ltInt d i0 j0 pv = (j2, true, Sort.swp dk j2 i0)) := hid (Proofs.part_first_break _ _ _ _ _ hi.out hj9.out hdk.out HU2.out HD2.out hov)
           have hj2a : i0 ≤ j2 := by omega
           obtain ⟨v', hy'⟩ := cell?_setCell_some (w := wy) (p := ⟨b, off + j2, none⟩) (x := .int .i32 (G i0)) (q := ⟨b, off + i0, none⟩) (hc i0 (by omega))
           go_wp2_with fail
           go_region
           replace hr := hr.swapAt j2 i0 (by rw [hk.out]; omega) (by rw [hk.out]; omega) rfl rfl (HG.out i0) (HG.out j2)
           clear hc hf hy' HG
           go_wp2
           go_ret2
           exact ⟨j2, true, _, rfl, HM.out, hr⟩
   · have hd : decide ((i2 : Int) ≤ (j : Int)) = false := by simp; omega
     go_wp2_with fail
     go_big_quiet (first | (go_at_call 204; refine Calls.quiet_of_same (less_any _ _ _)))
     go_wp2_with fail
     have HU2 : Hid (i2 = Sort.scanUp (fun x => Sort.ltInt x dk[i0]!) dk j i) := hid (by rw [← HU.out, Proofs.scanUp_end _ _ _ _ (.inl hle)])
     clear HU hd
     replace hr := hr.draw nq
     generalize wr.drewN nq = wx at *
     clear nq hc hf HG G
     go_loopw [11] (fun v wq => v = .int .i64 (j : Int) ∧ Rw w0 b off dk wq) (fun _ _ => 0)
     case atStart => exact ⟨rfl, hr⟩
     case round =>
       clear hr
       obtain ⟨rfl, hr⟩ := hrel
       obtain ⟨G, HG, hc, hf⟩ := hr.fam hk.out
       have hd : decide ((i2 : Int) ≤ (j : Int)) = false := by simp; omega
       go_wp2_with fail
       go_big_quiet (first | (go_at_call 204; refine Calls.quiet_of_same (less_any _ _ _)))
       go_wp2_with fail
       obtain ⟨j2, hj2⟩ : ∃ j2, j2 = j := ⟨j, rfl⟩
       have HD2 : Hid (j2 = Sort.scanDown (fun x => !Sort.ltInt x dk[i0]!) dk i2 j) := hid (by rw [Proofs.scanDown_end _ _ _ _ (.inl hle)]; exact hj2)
       subst hj2
       have hov : j2 < i2 := by omega
       replace hr := hr.draw nq
       replace hc : ∀ t, t < N → (wr.drewN nq).cell? ⟨b, off + t, none⟩ = some (.int .i32 (G t)) := hc
       replace hf : ∀ t, t < N → (wr.drewN nq).frozen? ⟨b, off + t, none⟩ = false := hf
       generalize wr.drewN nq = wy at *
       clear nq
       have HM : Hid (Sort.partition Sort.ltInt d i0 j0 pv = (j2, true, Sort.swp dk j2 i0)) := hid (Proofs.part_first_break _ _ _ _ _ hi.out hj9.out hdk.out HU2.out HD2.out hov)
       have hj2a : i0 ≤ j2 := by omega
       obtain ⟨v', hy'⟩ := cell?_setCell_some (w := wy) (p := ⟨b, off + j2, none⟩) (x := .int .i32 (G i0)) (q := ⟨b, off + i0, none⟩) (hc i0 (by omega))
       go_wp2_with fail
       go_region
       replace hr := hr.swapAt j2 i0 (by rw [hk.out]; omega) (by rw [hk.out]; omega) rfl rfl (HG.out i0) (HG.out j2)
       clear hc hf hy' HG
       go_wp2
       go_ret2
       exact ⟨j2, true, _, rfl, HM.out, hr⟩
end Go.Proofs.YtgngaldoemopjaaGreatDoor.U
