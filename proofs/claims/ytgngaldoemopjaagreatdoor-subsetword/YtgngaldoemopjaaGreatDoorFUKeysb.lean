/- Joined: UOrdf UOrdg UKeys UKeysb. -/
import Derived.Deep.Cut
import Derived.Deep.LoopGhost
import Derived.Test.YtgngaldoemopjaaGreatDoorFUOrdc
import Derived.Test.YtgngaldoemopjaaGreatDoorFUOrde
import Derived.RangeFuncKeeps
import Derived.Test.YtgngaldoemopjaaGreatDoorFUOrd
import Derived.Test.YtgngaldoemopjaaGreatDoorFJB
namespace Go.Proofs.YtgngaldoemopjaaGreatDoor.U
open Go.RowKit
def Fin (i0 j0 : Nat) (d : Array Int) (a c : Nat) (dk : Array Int) : Prop := ∀ R, Sort.PermIn a c dk R → Sort.SortedIn Sort.ltInt a c R → Sort.PermIn i0 j0 d R ∧ Sort.SortedIn Sort.ltInt i0 j0 R
theorem Fin.perm {i0 j0 : Nat} {d : Array Int} {a c : Nat} {dk d1 : Array Int} (h : Fin i0 j0 d a c dk) (hp : Sort.PermIn a c dk d1) : Fin i0 j0 d a c d1 := fun R h1 h2 => h R (Sort.permIn_trans _ _ _ _ _ hp h1) h2
set_option maxRecDepth 100000 in
set_option maxHeartbeats 16000000 in
theorem pdq_any (w0 : World) (b off cap N : Nat) (hs : N ≤ 1000000) : ∀ (n : Nat) (d : Array Int) (i0 j0 lim : Nat) (W : World), j0 - i0 ≤ n → Rw w0 b off d W → d.size = N → i0 ≤ j0 → j0 ≤ N → lim ≤ 100 → Sort.Below Sort.ltInt i0 j0 d →
   Calls Tryz.prog 182 #[.slice (some ⟨b, off, none⟩) N cap, .int .i64 i0, .int .i64 j0, .int .i64 lim] W fun e W' => e = .returned (.tuple #[]) ∧ ∃ R, Rw w0 b off R W' ∧ Sort.PermIn i0 j0 d R ∧ Sort.SortedIn Sort.ltInt i0 j0 R := by
 intro n
 induction n with
 | zero =>
   intro d i0 j0 lim W hn h hN hij hj hl hB
   have hz : (j0 : Int) - (i0 : Int) ≤ 12 := by omega
   have hc := ins_any w0 b off cap d i0 j0 W h hij (by omega) (by omega)
   rw [hN] at hc
   have hh := Sort.insertionSort_holds (lt := Sort.ltInt) Sort.swo_ltInt d i0 j0 hij (by omega)
   have HH := hid hh
   clear hh
   go_enter Tryz.func182, Tryz.ntmps182
   go_wp2
   go_loopg [1, 2, 3, 8, 9] 1 (fun _ s1 s2 _ _ _ wr => s1 = .int .i64 (i0 : Int) ∧ s2 = .int .i64 (j0 : Int) ∧ wr = W)
   case atStart => exact ⟨rfl, rfl, rfl⟩
   case round =>
     obtain ⟨rfl, rfl, rfl⟩ := hrel
     go_wp2_with fail
     refine hc.mono ?_
     rintro e w1 ⟨rfl, hr1⟩
     go_wp2
     (try simp only [Exit.inBlock, Exit.then])
     refine bodyPost_ret (results_none rfl _ _ _) rfl ?_
     exact ⟨rfl, _, hr1, HH.out.1, HH.out.2⟩
 | succ n ih =>
   intro d i0 j0 lim W hn h hN hij hj hl hB
   have IH := hid ih
   clear ih
   go_enter Tryz.func182, Tryz.ntmps182
   go_wp2
   go_loopg [1, 2, 3, 8, 9] (j0 - i0) (fun k s1 s2 s3 s8 s9 wr => ∃ (a c l : Nat) (wb wp : Bool) (dk : Array Int), s1 = .int .i64 (a : Int) ∧ s2 = .int .i64 (c : Int) ∧ s3 = .int .i64 (l : Int) ∧ s8 = .bool wb ∧ s9 = .bool wp ∧ a ≤ c ∧ c ≤ N ∧ l ≤ 100 ∧ c - a ≤ k ∧ c - a ≤ j0 - i0 ∧ Hid (dk.size = N) ∧ Rw w0 b off dk wr ∧ Hid (Sort.Below Sort.ltInt a c dk) ∧ Hid (Fin i0 j0 d a c dk))
   case atStart => exact ⟨i0, j0, lim, true, true, d, rfl, rfl, rfl, rfl, rfl, hij, hj, hl, Nat.le_refl _, Nat.le_refl _, hid hN, h, hid hB, hid fun R h1 h2 => ⟨h1, h2⟩⟩
   case round =>
     obtain ⟨a, c, l, wb, wp, dk, rfl, rfl, rfl, rfl, rfl, hac, hcN, hl1, hk1, hk2, hk, hr, HB, HF⟩ := hrel
     clear h hB
     by_cases h12 : c - a ≤ 12
     · have hz : (c : Int) - (a : Int) ≤ 12 := by omega
       have hc := ins_any w0 b off cap dk a c wr hr hac (by rw [hk.out]; exact hcN) (by rw [hk.out]; exact hs)
       rw [hk.out] at hc
       have HH := hid (HF.out _ (Sort.insertionSort_holds (lt := Sort.ltInt) Sort.swo_ltInt dk a c hac (by rw [hk.out]; exact hcN)).1 (Sort.insertionSort_holds (lt := Sort.ltInt) Sort.swo_ltInt dk a c hac (by rw [hk.out]; exact hcN)).2)
       go_wp2_with fail
       refine hc.mono ?_
       rintro e w1 ⟨rfl, hr1⟩
       go_wp2
       (try simp only [Exit.inBlock, Exit.then])
       refine bodyPost_ret (results_none rfl _ _ _) rfl ?_
       exact ⟨rfl, _, hr1, HH.out.1, HH.out.2⟩
     · have hz : ¬ ((c : Int) - (a : Int) ≤ 12) := by omega
       by_cases hl0 : l = 0
       · subst hl0
         have hc := heap_any w0 b off cap dk a c wr hr hac (by rw [hk.out]; exact hcN) (by rw [hk.out]; exact hs)
         rw [hk.out] at hc
         have HH := hid (HF.out _ (Sort.heapSort_holds (lt := Sort.ltInt) Sort.swo_ltInt dk a c hac (by rw [hk.out]; exact hcN)).1 (Sort.heapSort_holds (lt := Sort.ltInt) Sort.swo_ltInt dk a c hac (by rw [hk.out]; exact hcN)).2)
         go_wp2_with fail
         refine hc.mono ?_
         rintro e w1 ⟨rfl, hr1⟩
         go_wp2
         (try simp only [Exit.inBlock, Exit.then])
         refine bodyPost_ret (results_none rfl _ _ _) rfl ?_
         exact ⟨rfl, _, hr1, HH.out.1, HH.out.2⟩
       · have hlz : ¬ ((l : Int) = 0) := by omega
         have hlb : ((l : Int) == 0) = false := by simpa using hl0
         go_upto_if 35 with fail
         go_cut [3] from 19 (fun s3 wc => ∃ (l' : Nat) (d1 : Array Int), s3 = .int .i64 (l' : Int) ∧ l' ≤ 100 ∧ Hid (d1.size = N) ∧ Rw w0 b off d1 wc ∧ Hid (Sort.PermIn a c dk d1))
         case first =>
           cases wb with
           | true =>
             go_wp2
             go_meet
             exact ⟨l, dk, rfl, hl1, hk, hr, hid (Sort.permIn_refl _ _ _)⟩
           | false =>
             have hc := brk_any w0 b off cap dk a c wr hr (by omega) (by rw [hk.out]; exact hcN) (by rw [hk.out]; exact hs)
             rw [hk.out] at hc
             go_wp2_with fail
             refine hc.mono ?_
             rintro e w1 ⟨rfl, d1, hr1, hp1⟩
             clear hc
             have HP := hid hp1
             clear hp1
             go_wp2
             go_meet
             exact ⟨l - 1, d1, by go_num, by omega, hid (HP.out.1.trans hk.out), hr1, HP⟩
         case rest =>
           obtain ⟨l', d1, rfl, hl2, hkd1, hr1, HP1⟩ := hcut
           have HB1 := hid (HB.out.perm (by rw [hk.out]; exact hcN) HP1.out)
           have HF1 := hid (HF.out.perm HP1.out)
           clear HB HF HP1 hr hk hl0 hlz hlb hl1
           have hpv := pivot_any w0 b off cap d1 a c wc hr1 (by omega) (by rw [hkd1.out]; exact hcN) (by rw [hkd1.out]; exact hs)
           rw [hkd1.out] at hpv
           go_upto_if 50 with (go_at_call 201; refine hpv.mono ?_; rintro e w2 ⟨x, t, rfl, hx1, hx2, ht, hr2⟩)
           clear hpv
           go_cut [11, 12] from 19 (fun s11 s12 wc => ∃ (x : Nat) (t : Int) (d2 : Array Int), s11 = .int .i64 (x : Int) ∧ s12 = .int .i64 t ∧ a ≤ x ∧ x < c ∧ (t = 0 ∨ t = 1) ∧ Hid (d2.size = N) ∧ Rw w0 b off d2 wc ∧ Hid (Sort.PermIn a c d1 d2))
           case first =>
             rcases ht with rfl | rfl | rfl
             · go_wp2
               go_meet
               exact ⟨x, 0, d1, rfl, rfl, hx1, hx2, .inl rfl, hkd1, hr2, hid (Sort.permIn_refl _ _ _)⟩
             · go_wp2
               go_meet
               exact ⟨x, 1, d1, rfl, rfl, hx1, hx2, .inr rfl, hkd1, hr2, hid (Sort.permIn_refl _ _ _)⟩
             · have hc := rev_any w0 b off cap d1 a c w2 hr2 (by omega) (by rw [hkd1.out]; exact hcN) (by rw [hkd1.out]; exact hs)
               rw [hkd1.out] at hc
               go_wp2_with fail
               refine hc.mono ?_
               rintro e w1 ⟨rfl, d2, hr3, hp1⟩
               clear hc
               have HP := hid hp1
               clear hp1
               go_wp2
               go_meet
               exact ⟨c - 1 - (x - a), 1, d2, by go_num, rfl, by omega, by omega, .inr rfl, hid (HP.out.1.trans hkd1.out), hr3, HP⟩
           case rest =>
             clear ht hx1 hx2 hr2
             rename World => wc2
             obtain ⟨x, t, d2, rfl, rfl, hx1, hx2, ht, hkd2, hr2, HP2⟩ := hcut
             have HB2 := hid (HB1.out.perm (by rw [hkd1.out]; exact hcN) HP2.out)
             have HF2 := hid (HF1.out.perm HP2.out)
             clear HB1 HF1 HP2 hr1 hkd1
             go_upto_region 15 with fail
             go_cut [68] from 19 (fun s68 wx => ∃ bb : Bool, s68 = .bool bb ∧ wx = wc2)
             case first =>
               cases wb <;> cases wp <;> rcases ht with rfl | rfl <;> (go_wp2; go_meet; exact ⟨_, rfl, rfl⟩)
             case rest =>
               clear ht
               rename World => wx
               obtain ⟨bb, rfl, rfl⟩ := hcut
               go_upto_if 68 with fail
               go_cut [] from 19 (fun wx => ∃ d3 : Array Int, Hid (d3.size = N) ∧ Rw w0 b off d3 wx ∧ Hid (Sort.PermIn a c d2 d3))
               case first =>
                 cases bb with
                 | false =>
                   go_wp2
                   go_meet
                   exact ⟨d2, hkd2, hr2, hid (Sort.permIn_refl _ _ _)⟩
                 | true =>
                   have hc := pins_any w0 b off cap d2 a c _ hr2 (by omega) (by rw [hkd2.out]; exact hcN) (by rw [hkd2.out]; exact hs)
                   rw [hkd2.out] at hc
                   have HH := hid (Sort.partialInsertionSort_holds (lt := Sort.ltInt) Sort.swo_ltInt d2 a c (by omega) (by rw [hkd2.out]; exact hcN) HB2.out)
                   go_wp2_with fail
                   refine hc.mono ?_
                   rintro e w1 ⟨d3, r, rfl, he, hr3⟩
                   clear hc
                   have HP : Hid (Sort.PermIn a c d2 d3) := hid (by have := HH.out.1; rw [he] at this; exact this)
                   have HS : Hid (r = true → Sort.SortedIn Sort.ltInt a c d3) := hid (by have := HH.out.2; rw [he] at this; exact this)
                   clear HH he
                   cases r with
                   | true =>
                     have HE := hid (HF2.out d3 HP.out (HS.out rfl))
                     clear HS
                     go_wp2
                     (try simp only [Exit.inBlock, Exit.then])
                     refine bodyPost_ret (results_none rfl _ _ _) rfl ?_
                     exact ⟨rfl, _, hr3, HE.out.1, HE.out.2⟩
                   | false =>
                     clear HS
                     go_wp2
                     go_meet
                     exact ⟨d3, hid (HP.out.1.trans hkd2.out), hr3, HP⟩
               case rest =>
                 rename World => wx3
                 obtain ⟨d3, hkd3, hr3, HP3⟩ := hcut
                 have HB3 := hid (HB2.out.perm (by rw [hkd2.out]; exact hcN) HP3.out)
                 have HF3 := hid (HF2.out.perm HP3.out)
                 clear HB2 HF2 HP3 hr2 hkd2
                 obtain ⟨G, HG, hc, hf⟩ := hr3.fam hkd3.out
                 go_upto_region 17 with fail
                 go_cut [87] from 19 (fun s87 wx => ∃ bb : Bool, s87 = .bool bb ∧ Rw w0 b off d3 wx ∧ Hid (bb = true → 0 < a ∧ Sort.ltInt d3[a - 1]! d3[x]! = false))
                 case first =>
                   by_cases ha0 : 0 < a
                   · have ha0z : (0 : Int) < (a : Int) := by omega
                     go_big_quiet (first | (go_at_call 204; refine Calls.quiet_of_same (less_any _ _ _)))
                     go_wp2
                     go_meet
                     exact ⟨_, rfl, hr3.draw nq, hid fun h9 => ⟨ha0, by rw [← HG.out, ← HG.out]; simpa using h9⟩⟩
                   · have hd : decide ((0 : Int) < (a : Int)) = false := by simp; omega
                     have hd2 : decide (0 < a) = false := by simp; omega
                     go_big_quiet (first | (go_at_call 204; refine Calls.quiet_of_same (less_any _ _ _)))
                     go_wp2
                     go_meet
                     exact ⟨false, rfl, hr3.draw nq, hid fun h9 => by cases h9⟩
                 case rest =>
                   rename World => wx4
                   clear hc hf HG hr3
                   obtain ⟨bb, rfl, hr3, HT⟩ := hcut
                   cases bb with
                   | true =>
                     have hcl := parteq_any w0 b off cap d3 a c x wx4 hr3 hx1 hx2 (by rw [hkd3.out]; exact hcN) (by rw [hkd3.out]; exact hs)
                     rw [hkd3.out] at hcl
                     go_wp2_with fail
                     refine hcl.mono ?_
                     rintro e w1 ⟨mid, d4, rfl, he, hr4⟩
                     clear hcl
                     have HR := hid (Sort.round_eq Sort.swo_ltInt (Sort.partitionEqual_holds _) (HT.out (by first | trivial | rfl)).1 hx1 hx2 (by rw [hkd3.out]; exact hcN) HB3.out (HT.out (by first | trivial | rfl)).2 he)
                     have hm1 : a < mid := HR.out.1
                     have hm2 : mid ≤ c := HR.out.2.1
                     have hkd4 : Hid (d4.size = N) := hid (HR.out.2.2.1.trans hkd3.out)
                     have HB4 := hid HR.out.2.2.2.1
                     have HF4 : Hid (Fin i0 j0 d mid c d4) := hid fun R h1 h2 => HF3.out R (HR.out.2.2.2.2 R h1 h2).1 (HR.out.2.2.2.2 R h1 h2).2
                     clear HR he HT HB3 HF3 hr3
                     go_wp2
                     go_roundg (c - mid)
                     case measure => omega
                     case rel => exact ⟨mid, c, l', wb, wp, d4, rfl, rfl, rfl, rfl, rfl, hm2, hcN, hl2, Nat.le_refl _, by omega, hkd4, hr4, HB4, HF4⟩
                   | false =>
                     have hcl := part_any w0 b off cap d3 a c x wx4 hr3 hx1 hx2 (by rw [hkd3.out]; exact hcN) (by rw [hkd3.out]; exact hs)
                     rw [hkd3.out] at hcl
                     clear HT
                     go_wp2_with fail
                     refine hcl.mono ?_
                     rintro e w1 ⟨mid, al, d4, rfl, he, hr4⟩
                     clear hcl
                     have HR := hid (Sort.round_part Sort.swo_ltInt (Sort.partition_holds _) hx1 hx2 (by rw [hkd3.out]; exact hcN) HB3.out he)
                     have hm1 : a ≤ mid := HR.out.1
                     have hm2 : mid < c := HR.out.2.1
                     have hkd4 : Hid (d4.size = N) := hid (HR.out.2.2.1.trans hkd3.out)
                     have HBl := hid HR.out.2.2.2.1
                     have HBr := hid HR.out.2.2.2.2.1
                     have HL := hid HR.out.2.2.2.2.2.1
                     have HR2 := hid HR.out.2.2.2.2.2.2
                     clear HR he HB3 hr3
                     by_cases hlt : mid - a < c - mid
                     · have hltz : (mid : Int) - (a : Int) < (c : Int) - (mid : Int) := by omega
                       have hcl := IH.out d4 a mid l' w1 (by omega) hr4 hkd4.out hm1 (by omega) hl2 HBl.out
                       go_wp2_with fail
                       refine hcl.mono ?_
                       rintro e w5 ⟨rfl, R, hr5, hp5, hs5⟩
                       clear hcl
                       have HX := hid (HL.out R hp5 hs5)
                       have hkR : Hid (R.size = N) := hid (hp5.1.trans hkd4.out)
                       have HF5 : Hid (Fin i0 j0 d (mid + 1) c R) := hid fun R' h1 h2 => HF3.out R' (HX.out.2 R' h1 h2).1 (HX.out.2 R' h1 h2).2
                       have HB5 := hid HX.out.1
                       clear HX hp5 hs5 HL HR2 HBl HBr HF3
                       go_wp2
                       go_roundg (c - (mid + 1))
                       case measure => omega
                       case rel => exact ⟨mid + 1, c, l', _, al, R, by go_num, rfl, rfl, rfl, rfl, by omega, hcN, hl2, Nat.le_refl _, by omega, hkR, hr5, HB5, HF5⟩
                     · have hltz : ¬ ((mid : Int) - (a : Int) < (c : Int) - (mid : Int)) := by omega
                       have hcl := IH.out d4 (mid + 1) c l' w1 (by omega) hr4 hkd4.out (by omega) hcN hl2 HBr.out
                       rw [show (((mid + 1 : Nat) : Int)) = (mid : Int) + 1 by omega] at hcl
                       go_wp2_with fail
                       refine hcl.mono ?_
                       rintro e w5 ⟨rfl, R, hr5, hp5, hs5⟩
                       clear hcl
                       have HX := hid (HR2.out R hp5 hs5)
                       have hkR : Hid (R.size = N) := hid (hp5.1.trans hkd4.out)
                       have HF5 : Hid (Fin i0 j0 d a mid R) := hid fun R' h1 h2 => HF3.out R' (HX.out.2 R' h1 h2).1 (HX.out.2 R' h1 h2).2
                       have HB5 := hid HX.out.1
                       clear HX hp5 hs5 HL HR2 HBl HBr HF3
                       go_wp2
                       go_roundg (mid - a)
                       case measure => omega
                       case rel => exact ⟨a, mid, l', _, al, R, rfl, rfl, rfl, rfl, rfl, hm1, by omega, hl2, Nat.le_refl _, by omega, hkR, hr5, HB5, HF5⟩
end Go.Proofs.YtgngaldoemopjaaGreatDoor.U
namespace Go.Proofs.YtgngaldoemopjaaGreatDoor.U
open Go.RowKit
def OwnI (w : World) (B : Nat) (v : Value) (zs : List Int) : Prop := w.ownsRow B 21 1 v zs.length (zs.map (Value.int .i32))
set_option maxRecDepth 100000 in
set_option maxHeartbeats 4000000 in
theorem ins0_any (ao : Option Addr) (cap : Nat) (W : World) : Calls Tryz.prog 198 #[.slice ao 0 cap, .int .i64 0, .int .i64 0] W fun e W' => e = .returned (.tuple #[]) ∧ W' = W := by
 go_enter Tryz.func198, Tryz.ntmps198
 go_wp2
 go_loopw [6] (fun v wr => v = .int .i64 1 ∧ wr = W) (fun _ _ => 0)
 case atStart => exact ⟨rfl, rfl⟩
 case round =>
   obtain ⟨rfl, rfl⟩ := hrel
   go_wp2
   go_end0
   exact ⟨rfl, rfl⟩
set_option maxRecDepth 100000 in
set_option maxHeartbeats 4000000 in
theorem pdq0_any (ao : Option Addr) (cap : Nat) (l : Int) (W : World) : Calls Tryz.prog 182 #[.slice ao 0 cap, .int .i64 0, .int .i64 0, .int .i64 l] W fun e W' => e = .returned (.tuple #[]) ∧ W' = W := by
 have hc := ins0_any ao cap W
 go_enter Tryz.func182, Tryz.ntmps182
 go_wp2
 go_loopg [1, 2, 3, 8, 9] 1 (fun _ s1 s2 _ _ _ wr => s1 = .int .i64 0 ∧ s2 = .int .i64 0 ∧ wr = W)
 case atStart => exact ⟨rfl, rfl, rfl⟩
 case round =>
   obtain ⟨rfl, rfl, rfl⟩ := hrel
   go_wp2_with fail
   refine hc.mono ?_
   rintro e w1 ⟨rfl, rfl⟩
   go_wp2
   (try simp only [Exit.inBlock, Exit.then])
   refine bodyPost_ret (results_none rfl _ _ _) rfl ?_
   exact ⟨rfl, rfl⟩
theorem len_any (n : Nat) (hn : n ≤ 1000000) (W : World) : Calls Tryz.prog 96 #[.int .u64 (n : Int)] W fun e W' => ∃ l : Nat, l ≤ 100 ∧ e = .returned (.int .i64 (l : Int)) ∧ W' = W := by
 have h := Any.bits_Len (P := Tryz.prog) (ρ := sortIv_ren.viaSlsf) (SlLaysF0.n15.bits (P := Tryz.prog) (ρ := sortIv_ren) { sortIv with }) (n : Int) W (by omega) (by omega)
 change Calls Tryz.prog 96 _ _ _ at h
 refine h.mono ?_
 rintro e w' ⟨rfl, rfl⟩
 refine ⟨_, ?_, rfl, rfl⟩
 have := Lib.bitLen_le (n : Int).toNat 62 (by omega) (by omega)
 omega
theorem list_get (zs : List Int) (j : Nat) (h : j < zs.length) : zs.toArray[j]! = zs[j] := by
 rw [getElem!_pos zs.toArray j (by simpa using h)]
 simp
theorem OwnI.rw {w : World} {B g cap : Nat} {zs : List Int} (h : OwnI w B (.slice (some ⟨g, 0, none⟩) zs.length cap) zs) : Rw w g 0 zs.toArray w := by
 obtain ⟨_, ⟨e, _⟩ | ⟨g', cap', cur, e, _, hgb, hle, _, hsz, htk⟩⟩ := h
 · cases e
 cases e
 have hc : ∀ j (hj : j < zs.length), cur[j]? = some (.int .i32 zs[j]) := by
   intro j hj
   have h1 : (cur.toList.take (zs.length * 1))[j]? = (zs.map (Value.int .i32))[j]? := by rw [htk]
   rw [List.getElem?_take, if_pos (by omega)] at h1
   simpa [hj] using h1
 refine Rw.start hgb (fun j hj => ?_) (fun j hj => by simp [World.frozen?, hgb])
 have hj' : j < zs.length := by simpa using hj
 rw [list_get zs j hj']
 simp [World.cell?, hgb, hc j hj']
theorem Rw.own {w W : World} {B g cap : Nat} {zs : List Int} {R : Array Int} (h : OwnI w B (.slice (some ⟨g, 0, none⟩) zs.length cap) zs) (hr : Rw w g 0 R W) (hs : R.size = zs.length) : OwnI W B (.slice (some ⟨g, 0, none⟩) zs.length cap) R.toList := by
 obtain ⟨h1, ⟨e, _⟩ | ⟨g', cap', cur, e, hB, hgb, hle, hm, hsz, htk⟩⟩ := h
 · cases e
 cases e
 obtain ⟨c0, c, t, fr, h2, h3, h4⟩ := hr.rest
 rw [hgb] at h2
 cases h2
 have hl : R.toList.length = zs.length := by simpa using hs
 refine ⟨by simp, .inr ⟨g, cap, c, by rw [hl], hB, h3, by rw [hl]; exact hle, hm, by rw [h4]; exact hsz, ?_⟩⟩
 apply List.ext_getElem?
 intro j
 rw [List.getElem?_take]
 by_cases hj : j < R.toList.length
 · rw [if_pos (by omega)]
   have hj' : j < R.size := by simpa using hj
   have := hr.cell j hj'
   simp [World.cell?, h3] at this
   rw [Array.getElem?_toList, this]
   simp [hj']
 · rw [if_neg (by omega)]
   have hj2 : R.size ≤ j := by simpa using hj
   exact (List.getElem?_eq_none (by simpa using hj2)).symm
theorem grown_under {w W : World} {g B : Nat} (h : w.grownBy W (some g)) (hB : B ≤ g) (hw : B ≤ w.heap.size) : RowKit.Below B w W := ⟨h.os, h.tape, h.output, h.size, fun k hk => h.block k (by omega) (fun e => by cases e; omega)⟩
set_option maxRecDepth 100000 in
set_option maxHeartbeats 4000000 in
theorem sort_any (u : Value) (zs : List Int) (hl : zs.length ≤ 1000000) (B : Nat) (w : World) (h : OwnI w B u zs) (hB : B ≤ w.heap.size) :
   Calls Tryz.prog 163 #[u] w fun e W' => e = .returned (.tuple #[]) ∧ ∃ ys : List Int, OwnI W' B u ys ∧ ys.Perm zs ∧ ys.Pairwise (· ≤ ·) ∧ RowKit.Below B w W' := by
 have hlen := len_any zs.length hl
 have hwrap : IntKind.u64.wrap (zs.length : Int) = (zs.length : Int) := by simp [IntKind.wrap, IntKind.bits, IntKind.signed]; omega
 rcases h' : h.2 with ⟨rfl, hn⟩ | ⟨g, cap, cur, rfl, hBg, hgb, _⟩
 · have hz : zs = [] := List.eq_nil_of_length_eq_zero hn
   subst hz
   go_enter Tryz.func163, Tryz.ntmps163
   go_wp2_with fail
   refine (hlen _).mono ?_
   rintro e w1 ⟨l, hl1, rfl, hw1⟩
   subst hw1
   have hc := pdq0_any none 0 l w1
   go_wp2_with fail
   refine hc.mono ?_
   rintro e w1 ⟨rfl, rfl⟩
   go_wp2
   go_end0
   exact ⟨rfl, [], h, .refl _, List.Pairwise.nil, RowKit.Below.refl _ _⟩
 · have hr := OwnI.rw h
   have HO := hid h
   clear h h'
   generalize hN : zs.length = N at hlen hwrap hl ⊢
   go_enter Tryz.func163, Tryz.ntmps163
   go_wp2_with fail
   refine (hlen _).mono ?_
   rintro e w1 ⟨l, hl1, rfl, hw1⟩
   subst hw1
   have hc := pdq_any w1 g 0 cap N hl N zs.toArray 0 N l w1 (by omega) hr (by simpa using hN) (Nat.zero_le _) (Nat.le_refl _) hl1 (.inl rfl)
   go_wp2_with fail
   refine hc.mono ?_
   rintro e w1 ⟨rfl, R, hr1, hp, hs⟩
   go_wp2
   go_end0
   have hRs : R.size = zs.length := by have := hp.1; simpa using this
   refine ⟨rfl, R.toList, ?_, ?_, ?_, grown_under hr1.grown hBg hB⟩
   · have := Rw.own HO.out hr1 hRs
     rw [hN] at this
     exact this
   · have h2 := hp.2.2
     rw [show N = R.size by omega, Array.extract_size] at h2
     rw [hRs, show zs.length = zs.toArray.size by simp, Array.extract_size] at h2
     exact h2
   · rw [List.pairwise_iff_getElem]
     intro i j hi hj hij
     have := hs i j (Nat.zero_le _) hij (by simp at hj; omega)
     rw [getElem!_pos R j (by simpa using hj), getElem!_pos R i (by simpa using hi)] at this
     simp [Sort.ltInt] at this
     simpa using this
end Go.Proofs.YtgngaldoemopjaaGreatDoor.U
namespace Go.Proofs.YtgngaldoemopjaaGreatDoor.U
open Go.RowKit Go.Shelf
attribute [local go_sem] Oper.semAt_some
def Came (D : DataW Unit) (left : Lit → Bool) (ss : List Int) : Prop := ss.Nodup ∧ ∀ x, x ∈ ss ↔ (Maps.has D (.int .i32 x) = true ∧ left (.int .i32 x) = false)
theorem Came.start (D : DataW Unit) : Came D (Maps.has D) [] := ⟨List.nodup_nil, fun x => by cases Maps.has D (.int .i32 x) <;> simp⟩
theorem Came.step {D : DataW Unit} {left : Lit → Bool} {ss : List Int} (h : Came D left ss) {x : Int} (hl : left (.int .i32 x) = true) (hh : Maps.has D (.int .i32 x) = true) : Came D (fun z => left z && !z.sameKey (.int .i32 x)) (ss ++ [x]) := by
 have hn : x ∉ ss := fun hx => by rw [((h.2 x).1 hx).2] at hl; cases hl
 refine ⟨List.nodup_append.2 ⟨h.1, by simp, ?_⟩, fun y => ?_⟩
 · intro a ha b hb
   obtain rfl : b = x := by simpa using hb
   exact fun e => hn (e ▸ ha)
 · rw [List.mem_append, h.2 y]
   by_cases e : y = x
   · subst e
     simp [hh, Lit.sameKey]
   · simp [e, Lit.sameKey]
def enc32 (x : Int) : Array Value := #[.int .i32 x]
set_option maxRecDepth 100000 in
set_option maxHeartbeats 4000000 in
theorem keys1_in (n : Nat) (hn : 1 ≤ n) (l Bm b nn : Nat) (D : DataW Unit) (J Jx : List Int → World → Prop)
   (hY : ∀ pre x W1, J pre W1 → pre.length < Maps.size D → YieldAt Fence.wide (n - 1) Tryz.prog l (enc32 x) W1 fun e W' => (e = .returned (.bool true) ∧ J (pre ++ [x]) W' ∧ KeepsWalks W1 W') ∨ (e = .returned (.bool false) ∧ Jx (pre ++ [x]) W'))
   (W : World) (hJ : AbidesFrom W.heap.size J) (hm : W.cell? ⟨Bm, 0, none⟩ = some (.map (some b))) (hown : W.ownsMap Tryz.prog 21 (plainElem Tryz.prog 141) b nn D) (h0 : J [] W) :
   CallsIn Fence.wide n Tryz.prog 164 #[.func (.yield l) #[] #[], .pointer (some ⟨Bm, 0, none⟩)] W fun e W' => (∃ v, e = .returned v) ∧
     ((∃ ys : List Int, (ys.Nodup ∧ ∀ x, x ∈ ys ↔ Maps.has D (.int .i32 x) = true) ∧ J ys W') ∨ (∃ pre : List Int, True ∧ Jx pre W')) := by
 have K := Maps.int_keyed Tryz.underlying21
 refine callsIn_of_wp Tryz.func164 rfl trivial ?_ rfl
 simp only [Tryz.ntmps164, List.size_toArray, List.length_cons, List.length_nil, Nat.reduceAdd, Nat.reduceSub, Array.replicate_succ, Array.replicate_zero, List.push_toArray, List.append_toArray, List.nil_append, List.cons_append]
 gi_wp2_with (first | (gi_at_range; refine wpListIn_range_own _ rfl _ 214 rfl 21 141 K Tryz.underlying214 _ b nn _ rfl hown ?_; intro w0 hrg0 hg0 hs0) | gi_in)
 go_frame
 gi_loopw [3] (fun _ wr => ∃ (left : Lit → Bool) (cnt : Nat) (ss : List Int), wr.ranges Tryz.prog 21 (plainElem Tryz.prog 141) b W.heap.size nn D left cnt ∧ ss.length + cnt ≤ Maps.size D ∧ Came D left ss ∧ J ss wr) (fun _ wr => wr.rangeLeft b W.heap.size)
 case atStart => exact ⟨_, _, [], hrg0, by simp, Came.start D, hJ [] W w0 none h0 hg0 (fun r e => by cases e)⟩
 case round =>
   obtain ⟨left, cnt, ss, hrg, hcs, hC, hJs⟩ := hrel
   gi_wp2_with (first | (gi_at_next; refine wpListIn_next_ranges _ rfl _ rfl 21 K (plainElem Tryz.prog 141) (Value.int .i32) id (fun key kl hk => by obtain ⟨x, hx, _⟩ := Maps.keyOf_int_inv Tryz.underlying21 hk; exact ⟨x, hx⟩) (fun v _ _ => ⟨v, rfl⟩) b W.heap.size nn _ _ _ rfl hrg ?_ ?_) | gi_in)
   · intro hc0 hl0
     gi_wp2
     go_end0
     exact ⟨⟨_, rfl⟩, .inl ⟨ss, ⟨hC.1, fun x => by rw [hC.2 x, hl0]; simp⟩, hJs⟩⟩
   · intro x c kl yd yp w2 cnt2 hkey hlk hv hat hrg2 hlt hg2 hs2 hen
     obtain ⟨x', ex, rfl, _⟩ := Maps.keyOf_int_inv Tryz.underlying21 hkey
     obtain rfl : x = x' := by simpa using ex
     have hJ2 : J ss w2 := hJ ss wr w2 (some W.heap.size) hJs hg2 (fun r e => by cases e; exact ⟨Nat.le_refl _, hrg.iter_walk⟩)
     obtain ⟨fn, tmps, assign, body, hy, hR⟩ := hY ss x w2 hJ2 (by omega)
     simp only [enc32] at hy
     clear hs2
     gi_wp2
     refine hR.mono ?_
     have hC2 := hC.step hlk (Maps.has_true_of_atKey hat)
     rintro e W3 (⟨rfl, hJ3, hk3⟩ | ⟨rfl, hJx3⟩)
     · gi_wp2
       have hrg3 := hrg2.of_walks hk3
       go_roundw
       case rel => exact ⟨_, cnt2, ss ++ [x], hrg3, by simp; omega, hC2, hJ3⟩
       case measure => rw [hrg3.left_eq, hrg.left_eq]; exact hlt
     · gi_wp2
       refine bodyPost_ret (results_none rfl _ _ _) rfl ?_
       exact ⟨⟨_, rfl⟩, .inr ⟨ss ++ [x], trivial, hJx3⟩⟩
theorem keys_stops (n : Nat) (hn : 1 ≤ n) (Bm b nn : Nat) (D : DataW Unit) (w : World) (hBm : Bm < w.heap.size) (hm : w.cell? ⟨Bm, 0, none⟩ = some (.map (some b))) (hown : w.ownsMap Tryz.prog 21 (plainElem Tryz.prog 141) b nn D) :
   SeqStopsK Fence.wide n Tryz.prog 164 #[.pointer (some ⟨Bm, 0, none⟩)] enc32 KeepsWalks (fun ys => ys.Nodup ∧ ∀ x, x ∈ ys ↔ Maps.has D (.int .i32 x) = true) (fun _ => True) (Maps.size D) w := fun l J Jx W hW hJ _ hY h0 => by
 have hown' : W.ownsMap Tryz.prog 21 (plainElem Tryz.prog 141) b nn D := by
   have hbl := hown.lt
   obtain ⟨es, clock, hb, Ft, hs, hD⟩ := hown
   exact ⟨es, clock, (hW.block b hbl).trans hb, Ft, hs, hD⟩
 exact keys1_in n hn l Bm b nn D J Jx hY W hJ ((hW.cell (p := ⟨Bm, 0, none⟩) hBm).trans hm) hown' h0
set_option maxHeartbeats 1000000 in
theorem keysMake_any (mb : Option Nat) (w : World) : Calls Tryz.prog 133 #[.map mb] w fun e w' => e = .returned (.func (.func 164) #[] #[.pointer (some ⟨w.heap.size, 0, none⟩)]) ∧ w' = w.alloc (.cells #[.map mb] 214) := by
 go_enter Tryz.func133, Tryz.ntmps133
 go_wp2
 go_ret
 exact ⟨rfl, rfl⟩
theorem info21 : (Tryz.prog.info? 21).map (fun i => (i.zero, i.size, i.bytes)) = some (some (.int .i32 0), 1, 4) := by kernel_rfl
set_option maxRecDepth 100000 in
set_option maxHeartbeats 4000000 in
theorem appendSeq32_any (Bm b nn : Nat) (D : DataW Unit) (hl : Maps.size D ≤ 1000000) (w : World) (hBm : Bm < w.heap.size) (hm : w.cell? ⟨Bm, 0, none⟩ = some (.map (some b))) (hown : w.ownsMap Tryz.prog 21 (plainElem Tryz.prog 141) b nn D) :
   Calls Tryz.prog 181 #[.slice none 0 0, .func (.func 164) #[] #[.pointer (some ⟨Bm, 0, none⟩)]] w fun e W' => ∃ (u : Value) (ys : List Int), e = .returned u ∧ OwnI W' w.heap.size u ys ∧ ys.Nodup ∧ (∀ x, x ∈ ys ↔ Maps.has D (.int .i32 x) = true) ∧ Below w.heap.size w W' := by
 obtain ⟨i0, hi, hz0, hz1, hz2⟩ := info_parts2 info21
 refine (callsIn_wide (n := 5)).1 ?_
 refine callsIn_of_wp_marks Tryz.func181 rfl trivial ?_ rfl
 simp only [Tryz.ntmps181, List.size_toArray, List.length_cons, List.length_nil, Nat.reduceAdd, Nat.reduceSub, Array.replicate_succ, Array.replicate_zero, List.push_toArray, List.append_toArray, List.nil_append, List.cons_append]
 gi_wp2
 have bP := Boxed.new w 39 (.slice none 0 0)
 have hB0 := al1 w (.cells #[.slice none 0 0] 39)
 have hsz : (w.alloc (.cells #[.slice none 0 0] 39)).heap.size = w.heap.size + 1 := by simp
 have hown0 := hown.alloc (.cells #[.slice none 0 0] 39)
 have hm0 := cell_later hB0 hm
 obtain ⟨W0, hW0⟩ : ∃ W0, w.alloc (.cells #[.slice none 0 0] 39) = W0 := ⟨_, rfl⟩
 rw [hW0] at bP hB0 hsz hown0 hm0 ⊢
 clear hW0
 refine wpIn_rangeFunc_ownH rfl (by omega) (gf := 164) (lb := #[.pointer (some ⟨Bm, 0, none⟩)]) rfl trivial (enters_of Tryz.func164 (by kernel_rfl) rfl) (keys_stops 4 (by omega) Bm b nn D W0 (by omega) hm0 hown0) walksK_t walksK_b (Below.refl _ _) (fun _ => rfl)
   (fun pre W => (∃ v, Boxed W w.heap.size 39 v ∧ W.ownsRow w.heap.size 21 1 v pre.length (pre.map (Value.int .i32)) ∧ True) ∧ Below w.heap.size w W)
   (fun _ _ _ => False)
   (OwnFrom.and (Own.from (holdsRow_own w.heap.size w.heap.size 39 21 1 (fun pre : List Int => pre.length) (fun pre : List Int => pre.map (Value.int .i32)) (fun _ _ => True)) _) (ownFrom_below (Nat.le_refl _) (by omega)))
   (fun _ _ _ _ _ hs _ _ => hs)
   ⟨⟨_, bP, World.ownsRow_nil _ _ _ _, trivial⟩, hB0⟩
   (fun x a' _ => a' = { tmps := #[.slice none 0 0, .func (.func 164) #[] #[.pointer (some ⟨Bm, 0, none⟩)], .pointer (some ⟨w.heap.size, 0, none⟩), undef, .slice none 0 0, .int .i32 x, .func (.func 164) #[] #[.pointer (some ⟨Bm, 0, none⟩)], .int .i32 x, undef, undef, undef, undef, undef], defers := [] })
   (fun x a' _ X Y row hs hg hr => hs)
   ?assign ?body ?done ?stop
 case assign =>
   rintro l pre x W K ⟨⟨v, bP1, rP1, _⟩, hB1⟩ hK
   simp only [enc32]
   gi_wp2
   exact hK _ _ (KeepsFrom.refl _ _) (KeepsWalks.refl _) ⟨⟨v, bP1, rP1, trivial⟩, hB1⟩ rfl
 case body =>
   rintro l pre x a' W hl ⟨r, hr⟩ ⟨⟨v, bP1, rP1, _⟩, hB1⟩ rfl hlt
   have cP := bP1.cell
   gi_wp2_with (gi_at_builtin; refine wpListIn_append_own_at _ rfl _ _ 39 rfl w.heap.size 21 i0 (.int .i32 0) 1 4 Tryz.underlying39 hi hz0 hz1 hz2 rfl (by decide) _ _ _ rfl (rP1.alloc _) ⟨W.heap.size, 0, none⟩ 1 1 [.int .i32 x] rfl rfl (cell_one_new _ _ _) (by simp [Value.oneCell']) (by unfold maxLen; omega) (by omega) (by have := hB1.size; simp; omega) ?_; intro v' w1 hown' hgrow _ hat; obtain ⟨g', cap', rfl⟩ := ownsRow_succ hown'; obtain ⟨hv1, hv2, hr2, hk2, hb2⟩ := bP1.appended (by decide) rP1 hB1.size (Nat.le_refl _) hown' hgrow; have hc1 := hv1.cell; have hf1 := hv1.frozen; clear cP)
   refine ⟨hk2.from _, hk2.walks, ⟨_, hv2, ?_, trivial⟩, hB1.trans hb2⟩
   rw [List.map_append, List.length_append]
   exact hr2
 case done =>
   rintro D' ys W hD ⟨hy1, hy2⟩ ⟨⟨v, bP1, rP1, _⟩, hB1⟩ hK
   have c1 := bP1.cell
   gi_wp2
   refine ⟨by simp, .inl ⟨_, _, rfl, run_takeDeferred hK, ?_⟩⟩
   exact ⟨_, results_tmp rfl _ _ _, v, ys, rfl, ownsRow_putObj rP1 _ hK rfl, hy1, hy2, hB1.trans (belowK_b (w := w) (Nat.le_refl _) _ D' _ _ (by omega) hK rfl rfl)⟩
 case stop =>
   rintro D' c pre W _ _ h _
   exact h.elim
end Go.Proofs.YtgngaldoemopjaaGreatDoor.U
namespace Go.Proofs.YtgngaldoemopjaaGreatDoor.U
open Go.RowKit Go.Shelf
def RdI (w : World) (ao : Option Addr) (ys : List Int) : Prop := ∀ i (h : i < ys.length), ∃ b off, ao = some ⟨b, off, none⟩ ∧ w.cell? ⟨b, off + i, none⟩ = some (.int .i32 ys[i])
theorem OwnI.rd {w : World} {B : Nat} {v : Value} {ys : List Int} (h : OwnI w B v ys) : ∃ ao cap, v = .slice ao ys.length cap ∧ (∀ g off, ao = some ⟨g, off, none⟩ → B ≤ g ∧ (∃ cur, w.heap[g]? = some (.cells cur 21 (0, 0))) ∧ off = 0) ∧ RdI w ao ys := by
 obtain ⟨_, h | ⟨g, cap, cur, rfl, hB, hg, hle, _, hsz, hxs⟩⟩ := h
 · obtain ⟨rfl, hn⟩ := h
   have : ys = [] := List.eq_nil_of_length_eq_zero hn
   subst this
   exact ⟨none, 0, rfl, (fun g off e => by cases e), (fun i hi => by simp at hi)⟩
 · refine ⟨_, cap, rfl, (fun g' off e => by cases e; exact ⟨hB, ⟨cur, hg⟩, rfl⟩), fun i hi => ⟨g, 0, rfl, ?_⟩⟩
   have h1 : (cur.toList.take (ys.length * 1))[i]? = (ys.map (Value.int .i32))[i]? := by rw [hxs]
   rw [List.getElem?_take, if_pos (by omega)] at h1
   simp [World.cell?, hg]
   simpa [hi] using h1
theorem has_wf {w : World} {b n : Nat} {D : DataW Unit} (h : w.ownsMap Tryz.prog 21 (plainElem Tryz.prog 141) b n D) {x : Int} (hx : Maps.has D (.int .i32 x) = true) : (Lit.int .i32 x).wf = true := by
 obtain ⟨es, rfl, hk⟩ := h.keysOf
 rw [Maps.has_eq, List.any_eq_true] at hx
 obtain ⟨p, hp, hs⟩ := hx
 obtain ⟨v, hv⟩ := hk p hp
 obtain ⟨y, _, h2, h3⟩ := Maps.keyOf_int_inv Tryz.underlying21 hv
 rw [h2] at hs
 simp [Lit.sameKey] at hs
 subst hs
 exact h3
set_option maxHeartbeats 1000000 in
theorem sorted32_any (Bm b nn : Nat) (f : Int → Option Int) (hl : nn ≤ 1000000) (w : World) (hBm : Bm < w.heap.size) (hm : w.cell? ⟨Bm, 0, none⟩ = some (.map (some b))) (hown : Mp w 21 .i32 141 .u64 b nn f) :
   Calls Tryz.prog 132 #[.func (.func 164) #[] #[.pointer (some ⟨Bm, 0, none⟩)]] w fun e W' => ∃ (u : Value) (ys : List Int), e = .returned u ∧ OwnI W' w.heap.size u ys ∧ ys.Pairwise (· < ·) ∧ (∀ x, x ∈ ys ↔ ((Lit.int .i32 x).wf = true ∧ (f x).isSome = true)) ∧ ys.length ≤ 1000000 ∧ Below w.heap.size w W' := by
 obtain ⟨D, hD, hf⟩ := hown
 have hsz := hD.size_le
 have h1 : Calls Tryz.prog 162 #[.func (.func 164) #[] #[.pointer (some ⟨Bm, 0, none⟩)]] w fun e W' => ∃ (u : Value) (ys : List Int), e = .returned u ∧ OwnI W' w.heap.size u ys ∧ ys.Nodup ∧ (∀ x, x ∈ ys ↔ Maps.has D (.int .i32 x) = true) ∧ Below w.heap.size w W' := by
   have h := appendSeq32_any Bm b nn D (by omega) w hBm hm hD
   go_enter Tryz.func162, Tryz.ntmps162
   go_wp2_with (go_at_call 181; refine h.mono ?_; rintro e W' ⟨u, ys, rfl, ho, hb⟩)
   go_ret
   exact ⟨u, ys, rfl, ho, hb⟩
 have hlen : ∀ ys : List Int, ys.Nodup → (∀ x, x ∈ ys ↔ Maps.has D (.int .i32 x) = true) → ys.length ≤ 1000000 := by
   intro ys g1 g2
   obtain ⟨es, rfl, hk⟩ := hD.keysOf
   have : ys.length ≤ (es.map fun p => p.1).length := by
     have h3 : (ys.map (Lit.int .i32)).length ≤ (es.map fun p => p.1).length := by
       refine List.Nodup.length_le_of_subset (List.Pairwise.map _ (fun a b hne e => hne (by simpa using e)) g1) ?_
       intro z hz
       obtain ⟨x, hx, rfl⟩ := List.mem_map.1 hz
       have := (g2 x).1 hx
       rw [Maps.has_eq, List.any_eq_true] at this
       obtain ⟨p, hp, hs⟩ := this
       obtain ⟨v, hv⟩ := hk p hp
       obtain ⟨y, _, h2, h3⟩ := Maps.keyOf_int_inv Tryz.underlying21 hv
       rw [h2] at hs
       simp [Lit.sameKey] at hs
       subst hs
       exact List.mem_map.2 ⟨p, hp, h2⟩
     simpa using h3
   rw [List.length_map] at this
   rw [Maps.size_eq] at hsz
   omega
 go_enter Tryz.func132, Tryz.ntmps132
 go_wp2_with fail
 refine h1.mono ?_
 rintro e w1 ⟨u, ys, rfl, ho, hnd, hmem, hb⟩
 have hl2 := hlen ys hnd hmem
 have hs := sort_any u ys hl2 w.heap.size w1 ho hb.size
 clear h1 hlen
 go_wp2_with fail
 refine hs.mono ?_
 rintro e w2 ⟨rfl, zs, ho2, hp, hsd, hb2⟩
 clear hs
 go_wp2
 go_ret
 refine ⟨u, zs, rfl, ho2, ?_, fun x => ?_, by rw [hp.length_eq]; exact hl2, hb.trans hb2⟩
 · have hz : zs.Nodup := hp.nodup_iff.2 hnd
   rw [List.pairwise_iff_getElem] at hsd ⊢
   intro i j hi hj hij
   have h1 := hsd i j hi hj hij
   have h2 := (List.pairwise_iff_getElem.1 hz) i j hi hj hij
   omega
 · rw [hp.mem_iff, hmem x]
   constructor
   · intro h
     have hw := has_wf hD h
     exact ⟨hw, by rw [← (hf x hw).1]; exact h⟩
   · rintro ⟨hw, h⟩
     rw [(hf x hw).1]
     exact h
end Go.Proofs.YtgngaldoemopjaaGreatDoor.U
