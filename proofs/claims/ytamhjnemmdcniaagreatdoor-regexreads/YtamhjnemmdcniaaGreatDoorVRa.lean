/- The reference of stage 6: Bas Rrun Uone Uref Uon. -/
import Derived.WalkKit
import Derived.WalkSpells
import Derived.WalkLawsBesides
import Derived.BigQuiet
import Derived.Laws.BitsLemmas
import Derived.Lib.ConvBytes
import Derived.Test.YtamhjnemmdcniaaGreatDoorVJK
import Derived.Test.YtamhjnemmdcniaaGreatDoorVJH
namespace Go.Proofs.YtamhjnemmdcniaaGreatDoor
open Go.RowKit
set_option maxHeartbeats 1000000 in
theorem letterR_any (c : UInt8) (w : World) : Calls Tryz.prog 69 #[U8 c] w fun e w' => e = .returned (.bool (X.isL c)) ∧ w' = w := by
 have hc := c.toNat_lt
 generalize hr : X.isL c = r
 unfold U8
 go_enter Tryz.func69, Tryz.ntmps69
 go_wp2
 all_goals
   go_ret
   refine ⟨?_, rfl⟩
   subst hr
   simp [X.isL, *]
   first | omega | (rw [Bool.eq_iff_iff]; simp; omega)
theorem digitR_any (c : UInt8) (w : World) : Calls Tryz.prog 71 #[U8 c] w fun e w' => e = .returned (.bool (X.isD c)) ∧ w' = w := by
 have hc := c.toNat_lt
 generalize hr : X.isD c = r
 unfold U8
 go_enter Tryz.func71, Tryz.ntmps71
 go_wp2
 all_goals
   go_ret
   refine ⟨?_, rfl⟩
   subst hr
   simp [X.isD, *]
   first | omega | (rw [Bool.eq_iff_iff]; simp; omega)
set_option maxRecDepth 100000 in
set_option maxHeartbeats 4000000 in
theorem digits_any (s : ByteArray) (k : Nat) (hs : s.size ≤ 100000) (hk : k ≤ s.size) (w : World) : Calls Tryz.prog 72 #[.string s, .int .i64 (k : Int)] w fun e w' => e = .returned (.int .i64 ((((bts s).drop k).takeWhile X.isD).length : Int)) ∧ w' = w := by
 go_enter Tryz.func72, Tryz.ntmps72
 go_wp2
 go_loopw [5] (fun u wr => ∃ n : Nat, u = .int .i64 (n : Int) ∧ k + n ≤ s.size ∧ Hid (∀ c ∈ ((bts s).drop k).take n, X.isD c = true) ∧ wr = w) (fun u _ => s.size - (intOf u).toNat)
 case atStart => exact ⟨0, rfl, by omega, hide (fun c hc => by simp at hc), by first | rfl | trivial⟩
 case round =>
   obtain ⟨n, rfl, hn, HA, rfl⟩ := hrel
   by_cases hlt : k + n < s.size
   · have hl : k + n < (bts s).length := hlt
     have hx := fun j hj h => idx_at (s := s) hl j hj h
     have HT := hide (take_snoc hl)
     have HE : Hid (X.isD (bts s)[k + n] = false → (((bts s).drop k).takeWhile X.isD).length = n) := hide (fun h => tw_len HA.out (.inr ⟨by rw [List.length_drop]; omega, by simpa using h⟩))
     generalize (bts s)[k + n] = c at *
     have hx2 := fun h => hx ((k : Int) + n) (by omega) h
     clear hx
     have hdg := digitR_any c wr
     cases hd : X.isD c with
     | true =>
       rw [hd] at hdg
       go_wp2_with fail
       refine hdg.mono ?_
       rintro e w1 ⟨rfl, rfl⟩
       go_wp2
       go_roundw
       case rel => exact ⟨n + 1, by go_num, by omega, hide (fun x hx => by rw [HT.out] at hx; exact (List.mem_append.1 hx).elim (HA.out x) (fun h => by simp at h; rw [h]; exact hd)), by first | rfl | trivial⟩
       case measure => simp [intOf]; omega
     | false =>
       rw [hd] at hdg
       have HE2 := hide (HE.out hd)
       clear HE HT HA
       go_wp2_with fail
       refine hdg.mono ?_
       rintro e w1 ⟨rfl, rfl⟩
       go_wp2
       go_ret
       exact ⟨by rw [HE2.out]; rfl, rfl⟩
   · have HE : Hid ((((bts s).drop k).takeWhile X.isD).length = n) := hide (tw_len HA.out (.inl (by rw [List.length_drop, bts_len]; omega)))
     clear HA
     go_wp2
     go_ret
     exact ⟨by rw [HE.out]; rfl, rfl⟩
def runP (dg : Bool) (ot : List UInt8) (c : UInt8) : Bool := (X.isL c || (dg && X.isD c)) || decide (c ∈ ot)
set_option maxRecDepth 100000 in
set_option maxHeartbeats 4000000 in
theorem run_any (s ot : ByteArray) (k : Nat) (dg : Bool) (hs : s.size ≤ 100000) (ho : ot.size ≤ 100) (hk : k ≤ s.size) (w : World) : Calls Tryz.prog 70 #[.string s, .int .i64 (k : Int), .bool dg, .string ot] w fun e w' => e = .returned (.int .i64 ((((bts s).drop k).takeWhile (runP dg (bts ot))).length : Int)) ∧ w' = w := by
 go_enter Tryz.func70, Tryz.ntmps70
 go_wp2
 go_loopw [9] (fun u wr => ∃ n : Nat, u = .int .i64 (n : Int) ∧ k + n ≤ s.size ∧ Hid (∀ c ∈ ((bts s).drop k).take n, runP dg (bts ot) c = true) ∧ wr = w) (fun u _ => s.size - (intOf u).toNat)
 case atStart => exact ⟨0, rfl, by omega, hide (fun c hc => by simp at hc), by first | rfl | trivial⟩
 case round =>
   obtain ⟨n, rfl, hn, HA, rfl⟩ := hrel
   by_cases hlt : k + n < s.size
   · have hl : k + n < (bts s).length := hlt
     have hx := fun j hj h => idx_at (s := s) hl j hj h
     have HT := hide (take_snoc hl)
     have HE : Hid (runP dg (bts ot) (bts s)[k + n] = false → (((bts s).drop k).takeWhile (runP dg (bts ot))).length = n) := hide (fun h => tw_len HA.out (.inr ⟨by rw [List.length_drop]; omega, by simpa using h⟩))
     generalize (bts s)[k + n] = c at *
     have hx2 := fun h => hx ((k : Int) + n) (by omega) h
     clear hx
     have hlt2 := letterR_any c wr
     have hdg := digitR_any c wr
     have HRP : Hid (∀ bl bd b, X.isL c = bl → X.isD c = bd → ((bl || (dg && bd)) || decide (c ∈ bts ot)) = b → runP dg (bts ot) c = b) := hide (fun bl bd b h1 h2 h3 => by unfold runP; rw [h1, h2, h3])
     cases hbl : X.isL c with
     | true =>
       rw [hbl] at hlt2
       have tail : Hid (∀ b, (true || decide (c ∈ bts ot)) = b → runP dg (bts ot) c = b) := hide (fun b h => HRP.out true _ b hbl rfl (by rw [← h]; simp))
       clear HRP hbl
       go_wp2_with fail
       refine hlt2.mono ?_
       rintro e w1 ⟨rfl, rfl⟩
       clear hlt2 hdg
       go_wp2
       go_loopw [11, 12] (fun v u wr2 => ∃ (j : Nat) (b : Bool), u = .int .i64 (j : Int) ∧ v = .bool b ∧ j ≤ ot.size ∧ Hid (b = (true || decide (c ∈ (bts ot).take j))) ∧ wr2 = w1) (fun _ u _ => ot.size - (intOf u).toNat)
       case atStart => exact ⟨0, true, rfl, rfl, Nat.zero_le _, hide (by simp), by first | rfl | trivial⟩
       case round =>
         obtain ⟨j, b, rfl, rfl, hj, HBB, rfl⟩ := hrel
         by_cases hjl : j < ot.size
         · have hl2 : j < (bts ot).length := hjl
           have hy := fun i hi h => idx_at (s := ot) hl2 i hi h
           have HS : Hid (∀ e, decide (c = (bts ot)[j]) = e → (b || e) = (true || decide (c ∈ (bts ot).take (j + 1)))) := hide (fun e he => by
             rw [HBB.out, List.take_succ_eq_append_getElem hl2, ← he]
             simp only [List.mem_append, List.mem_singleton, Bool.decide_or, Bool.or_assoc])
           generalize (bts ot)[j] = d at *
           have hy2 : ∀ h, ot[j]'h = d := fun h => hy (j : Int) rfl h
           have hcd := u8_eq c d
           obtain ⟨e, he⟩ : ∃ e, decide (c = d) = e := ⟨_, rfl⟩
           rw [he] at hcd
           have HSE := hide (HS.out e he)
           clear hy HS HBB he
           cases b with
           | true =>
             go_wp2
             go_roundw
             case rel => exact ⟨j + 1, true, by go_num, rfl, by omega, hide (by rw [← HSE.out]; rfl), by first | rfl | trivial⟩
             case measure => simp [intOf]; omega
           | false =>
             go_wp2
             go_roundw
             case rel => exact ⟨j + 1, e, by go_num, rfl, by omega, hide (by rw [← HSE.out]; simp), by first | rfl | trivial⟩
             case measure => simp [intOf]; omega
         · have hbe : b = (true || decide (c ∈ bts ot)) := by
             have := HBB.out
             rwa [List.take_of_length_le (by rw [bts_len]; omega)] at this
           have HP := hide (tail.out b hbe.symm)
           clear HBB tail hbe
           cases b with
           | true =>
             go_wp2
             go_roundw
             case rel => exact ⟨n + 1, by go_num, by omega, hide (fun x hx => by rw [HT.out] at hx; exact (List.mem_append.1 hx).elim (HA.out x) (fun h => by simp at h; rw [h]; exact HP.out)), by first | rfl | trivial⟩
             case measure => simp [intOf]; omega
           | false =>
             have HE2 := hide (HE.out HP.out)
             clear HE HT HA
             go_wp2
             go_ret
             exact ⟨by rw [HE2.out]; rfl, rfl⟩
     | false =>
       rw [hbl] at hlt2
       cases dg with
       | false =>
         have tail : Hid (∀ b, (false || decide (c ∈ bts ot)) = b → runP false (bts ot) c = b) := hide (fun b h => HRP.out false _ b hbl rfl (by rw [← h]; simp))
         clear HRP hbl
         go_wp2_with fail
         refine hlt2.mono ?_
         rintro e w1 ⟨rfl, rfl⟩
         clear hlt2 hdg
         go_wp2
         go_loopw [11, 12] (fun v u wr2 => ∃ (j : Nat) (b : Bool), u = .int .i64 (j : Int) ∧ v = .bool b ∧ j ≤ ot.size ∧ Hid (b = (false || decide (c ∈ (bts ot).take j))) ∧ wr2 = w1) (fun _ u _ => ot.size - (intOf u).toNat)
         case atStart => exact ⟨0, false, rfl, rfl, Nat.zero_le _, hide (by simp), by first | rfl | trivial⟩
         case round =>
           obtain ⟨j, b, rfl, rfl, hj, HBB, rfl⟩ := hrel
           by_cases hjl : j < ot.size
           · have hl2 : j < (bts ot).length := hjl
             have hy := fun i hi h => idx_at (s := ot) hl2 i hi h
             have HS : Hid (∀ e, decide (c = (bts ot)[j]) = e → (b || e) = (false || decide (c ∈ (bts ot).take (j + 1)))) := hide (fun e he => by
               rw [HBB.out, List.take_succ_eq_append_getElem hl2, ← he]
               simp only [List.mem_append, List.mem_singleton, Bool.decide_or, Bool.or_assoc])
             generalize (bts ot)[j] = d at *
             have hy2 : ∀ h, ot[j]'h = d := fun h => hy (j : Int) rfl h
             have hcd := u8_eq c d
             obtain ⟨e, he⟩ : ∃ e, decide (c = d) = e := ⟨_, rfl⟩
             rw [he] at hcd
             have HSE := hide (HS.out e he)
             clear hy HS HBB he
             cases b with
             | true =>
               go_wp2
               go_roundw
               case rel => exact ⟨j + 1, true, by go_num, rfl, by omega, hide (by rw [← HSE.out]; rfl), by first | rfl | trivial⟩
               case measure => simp [intOf]; omega
             | false =>
               go_wp2
               go_roundw
               case rel => exact ⟨j + 1, e, by go_num, rfl, by omega, hide (by rw [← HSE.out]; simp), by first | rfl | trivial⟩
               case measure => simp [intOf]; omega
           · have hbe : b = (false || decide (c ∈ bts ot)) := by
               have := HBB.out
               rwa [List.take_of_length_le (by rw [bts_len]; omega)] at this
             have HP := hide (tail.out b hbe.symm)
             clear HBB tail hbe
             cases b with
             | true =>
               go_wp2
               go_roundw
               case rel => exact ⟨n + 1, by go_num, by omega, hide (fun x hx => by rw [HT.out] at hx; exact (List.mem_append.1 hx).elim (HA.out x) (fun h => by simp at h; rw [h]; exact HP.out)), by first | rfl | trivial⟩
               case measure => simp [intOf]; omega
             | false =>
               have HE2 := hide (HE.out HP.out)
               clear HE HT HA
               go_wp2
               go_ret
               exact ⟨by rw [HE2.out]; rfl, rfl⟩
       | true =>
         cases hbd : X.isD c with
         | true =>
           rw [hbd] at hdg
           have tail : Hid (∀ b, (true || decide (c ∈ bts ot)) = b → runP true (bts ot) c = b) := hide (fun b h => HRP.out false true b hbl hbd (by rw [← h]; simp))
           clear HRP hbl hbd
           go_wp2_with fail
           refine hlt2.mono ?_
           rintro e w1 ⟨rfl, rfl⟩
           go_wp2_with fail
           refine hdg.mono ?_
           rintro e w1 ⟨rfl, rfl⟩
           clear hlt2 hdg
           go_wp2
           go_loopw [11, 12] (fun v u wr2 => ∃ (j : Nat) (b : Bool), u = .int .i64 (j : Int) ∧ v = .bool b ∧ j ≤ ot.size ∧ Hid (b = (true || decide (c ∈ (bts ot).take j))) ∧ wr2 = w1) (fun _ u _ => ot.size - (intOf u).toNat)
           case atStart => exact ⟨0, true, rfl, rfl, Nat.zero_le _, hide (by simp), by first | rfl | trivial⟩
           case round =>
             obtain ⟨j, b, rfl, rfl, hj, HBB, rfl⟩ := hrel
             by_cases hjl : j < ot.size
             · have hl2 : j < (bts ot).length := hjl
               have hy := fun i hi h => idx_at (s := ot) hl2 i hi h
               have HS : Hid (∀ e, decide (c = (bts ot)[j]) = e → (b || e) = (true || decide (c ∈ (bts ot).take (j + 1)))) := hide (fun e he => by
                 rw [HBB.out, List.take_succ_eq_append_getElem hl2, ← he]
                 simp only [List.mem_append, List.mem_singleton, Bool.decide_or, Bool.or_assoc])
               generalize (bts ot)[j] = d at *
               have hy2 : ∀ h, ot[j]'h = d := fun h => hy (j : Int) rfl h
               have hcd := u8_eq c d
               obtain ⟨e, he⟩ : ∃ e, decide (c = d) = e := ⟨_, rfl⟩
               rw [he] at hcd
               have HSE := hide (HS.out e he)
               clear hy HS HBB he
               cases b with
               | true =>
                 go_wp2
                 go_roundw
                 case rel => exact ⟨j + 1, true, by go_num, rfl, by omega, hide (by rw [← HSE.out]; rfl), by first | rfl | trivial⟩
                 case measure => simp [intOf]; omega
               | false =>
                 go_wp2
                 go_roundw
                 case rel => exact ⟨j + 1, e, by go_num, rfl, by omega, hide (by rw [← HSE.out]; simp), by first | rfl | trivial⟩
                 case measure => simp [intOf]; omega
             · have hbe : b = (true || decide (c ∈ bts ot)) := by
                 have := HBB.out
                 rwa [List.take_of_length_le (by rw [bts_len]; omega)] at this
               have HP := hide (tail.out b hbe.symm)
               clear HBB tail hbe
               cases b with
               | true =>
                 go_wp2
                 go_roundw
                 case rel => exact ⟨n + 1, by go_num, by omega, hide (fun x hx => by rw [HT.out] at hx; exact (List.mem_append.1 hx).elim (HA.out x) (fun h => by simp at h; rw [h]; exact HP.out)), by first | rfl | trivial⟩
                 case measure => simp [intOf]; omega
               | false =>
                 have HE2 := hide (HE.out HP.out)
                 clear HE HT HA
                 go_wp2
                 go_ret
                 exact ⟨by rw [HE2.out]; rfl, rfl⟩
         | false =>
           rw [hbd] at hdg
           have tail : Hid (∀ b, (false || decide (c ∈ bts ot)) = b → runP true (bts ot) c = b) := hide (fun b h => HRP.out false false b hbl hbd (by rw [← h]; simp))
           clear HRP hbl hbd
           go_wp2_with fail
           refine hlt2.mono ?_
           rintro e w1 ⟨rfl, rfl⟩
           go_wp2_with fail
           refine hdg.mono ?_
           rintro e w1 ⟨rfl, rfl⟩
           clear hlt2 hdg
           go_wp2
           go_loopw [11, 12] (fun v u wr2 => ∃ (j : Nat) (b : Bool), u = .int .i64 (j : Int) ∧ v = .bool b ∧ j ≤ ot.size ∧ Hid (b = (false || decide (c ∈ (bts ot).take j))) ∧ wr2 = w1) (fun _ u _ => ot.size - (intOf u).toNat)
           case atStart => exact ⟨0, false, rfl, rfl, Nat.zero_le _, hide (by simp), by first | rfl | trivial⟩
           case round =>
             obtain ⟨j, b, rfl, rfl, hj, HBB, rfl⟩ := hrel
             by_cases hjl : j < ot.size
             · have hl2 : j < (bts ot).length := hjl
               have hy := fun i hi h => idx_at (s := ot) hl2 i hi h
               have HS : Hid (∀ e, decide (c = (bts ot)[j]) = e → (b || e) = (false || decide (c ∈ (bts ot).take (j + 1)))) := hide (fun e he => by
                 rw [HBB.out, List.take_succ_eq_append_getElem hl2, ← he]
                 simp only [List.mem_append, List.mem_singleton, Bool.decide_or, Bool.or_assoc])
               generalize (bts ot)[j] = d at *
               have hy2 : ∀ h, ot[j]'h = d := fun h => hy (j : Int) rfl h
               have hcd := u8_eq c d
               obtain ⟨e, he⟩ : ∃ e, decide (c = d) = e := ⟨_, rfl⟩
               rw [he] at hcd
               have HSE := hide (HS.out e he)
               clear hy HS HBB he
               cases b with
               | true =>
                 go_wp2
                 go_roundw
                 case rel => exact ⟨j + 1, true, by go_num, rfl, by omega, hide (by rw [← HSE.out]; rfl), by first | rfl | trivial⟩
                 case measure => simp [intOf]; omega
               | false =>
                 go_wp2
                 go_roundw
                 case rel => exact ⟨j + 1, e, by go_num, rfl, by omega, hide (by rw [← HSE.out]; simp), by first | rfl | trivial⟩
                 case measure => simp [intOf]; omega
             · have hbe : b = (false || decide (c ∈ bts ot)) := by
                 have := HBB.out
                 rwa [List.take_of_length_le (by rw [bts_len]; omega)] at this
               have HP := hide (tail.out b hbe.symm)
               clear HBB tail hbe
               cases b with
               | true =>
                 go_wp2
                 go_roundw
                 case rel => exact ⟨n + 1, by go_num, by omega, hide (fun x hx => by rw [HT.out] at hx; exact (List.mem_append.1 hx).elim (HA.out x) (fun h => by simp at h; rw [h]; exact HP.out)), by first | rfl | trivial⟩
                 case measure => simp [intOf]; omega
               | false =>
                 have HE2 := hide (HE.out HP.out)
                 clear HE HT HA
                 go_wp2
                 go_ret
                 exact ⟨by rw [HE2.out]; rfl, rfl⟩
   · have HE : Hid ((((bts s).drop k).takeWhile (runP dg (bts ot))).length = n) := hide (tw_len HA.out (.inl (by rw [List.length_drop, bts_len]; omega)))
     clear HA
     go_wp2
     go_ret
     exact ⟨by rw [HE.out]; rfl, rfl⟩
namespace M
def acc (r0 : Nat) (bs : List UInt8) : Nat → Nat
 | 0 => r0
 | 1 => r0
 | j + 2 => acc r0 bs (j + 1) * 64 + (bs.getD (j + 1) 0).toNat % 64
theorem acc_step (r0 : Nat) (bs : List UInt8) (j : Nat) (hj : 1 ≤ j) : acc r0 bs (j + 1) = acc r0 bs j * 64 + (bs.getD j 0).toNat % 64 := by
 cases j with
 | zero => omega
 | succ j => rfl
theorem acc_lt (r0 : Nat) (bs : List UInt8) (h : r0 < 32) : ∀ j, j ≤ 4 → acc r0 bs j < 32 * 64 ^ (j - 1) := by
 intro j
 induction j with
 | zero => intro _; simpa [acc] using h
 | succ j ih =>
   intro hj
   cases j with
   | zero => simpa [acc] using h
   | succ j =>
     have := ih (by omega)
     rw [acc_step _ _ _ (by omega)]
     simp only [Nat.add_sub_cancel] at this ⊢
     rw [Nat.pow_succ]
     omega
def one (bs : List UInt8) : Nat × Nat := if ok (dec bs) = true then dec bs else (0, 0)
set_option maxRecDepth 100000 in
theorem and192_yes : ∀ x : Fin 256, x.val / 64 = 2 → bits .and .u8 ((x.val : Nat) : Int) 192 = 128 := by decide
set_option maxRecDepth 100000 in
theorem and192_no : ∀ x : Fin 256, ¬ x.val / 64 = 2 → (bits .and .u8 ((x.val : Nat) : Int) 192 != 128) = true := by decide
theorem i32_and31 (x : Int) (h0 : 0 ≤ x) (h1 : x < 2147483648) : bits .and .i32 x 31 = x % 32 := bits_mask .i32 31 (by decide) wraps_i32 5 (by decide) x h0 h1
theorem i32_and15 (x : Int) (h0 : 0 ≤ x) (h1 : x < 2147483648) : bits .and .i32 x 15 = x % 16 := bits_mask .i32 31 (by decide) wraps_i32 4 (by decide) x h0 h1
theorem i32_and7 (x : Int) (h0 : 0 ≤ x) (h1 : x < 2147483648) : bits .and .i32 x 7 = x % 8 := bits_mask .i32 31 (by decide) wraps_i32 3 (by decide) x h0 h1
end M
set_option maxRecDepth 100000 in
set_option maxHeartbeats 2000000 in
theorem one_two (ao : Option Addr) (cap : Nat) (bs : List UInt8) (c : Nat) (R : Nat × Nat) (w : World) (hl : bs.length ≤ 100000) (hb : 1 ≤ bs.length) (hc : Rd w ao (cB bs)) (h0 : (bs.getD 0 0).toNat = c) (h1 : 192 ≤ c) (h2 : c < 224)
   (hR0 : bs.length < 2 → R = (0, 0)) (hR1 : ∀ t, 1 ≤ t → t < 2 → ¬ (bs.getD t 0).toNat / 64 = 2 → R = (0, 0))
   (hR2 : 2 ≤ bs.length → (∀ t, 1 ≤ t → t < 2 → (bs.getD t 0).toNat / 64 = 2) → R = if M.acc (c % 32) bs 2 < 128 ∨ 1114111 < M.acc (c % 32) bs 2 ∨ (55296 ≤ M.acc (c % 32) bs 2 ∧ M.acc (c % 32) bs 2 ≤ 57343) then (0, 0) else (M.acc (c % 32) bs 2, 2)) :
   Calls Tryz.prog 140 #[.slice ao bs.length cap] w fun e w' => e = .returned (.tuple #[.int .i32 (R.1 : Nat), .int .i64 (R.2 : Nat)]) ∧ w = w' := by
 have hcell : ∀ t, t < bs.length → ∃ b off, ao = some ⟨b, off, none⟩ ∧ w.cell? ⟨b, off + t, none⟩ = some (.int .u8 ((bs.getD t 0).toNat : Int)) := by
   intro t ht
   obtain ⟨b, off, e, h⟩ := hc.byte t ht
   exact ⟨b, off, e, by rw [h, List.getD_eq_getElem?_getD, List.getElem?_eq_getElem ht]; rfl⟩
 obtain ⟨b, off, rfl, hc0⟩ := hcell 0 (by omega)
 rw [h0, Nat.add_zero] at hc0
 have m0 := M.i32_and31 (c : Int) (by omega) (by omega)
 have hal := M.acc_lt (c % 32) bs (by omega)
 by_cases hs : bs.length < 2
 · have HR := hide (hR0 hs)
   have e1 : decide ((bs.length : Int) < 2) = true := by simp; omega
   go_enter Tryz.func140, Tryz.ntmps140
   go_wp2
   go_ret2
   exact ⟨by rw [HR.out]; rfl, rfl⟩
 · have e1 : decide ((bs.length : Int) < 2) = false := by simp; omega
   go_enter Tryz.func140, Tryz.ntmps140
   go_wp2
   go_loop [6, 8] (fun r i => ∃ j : Nat, 1 ≤ j ∧ j ≤ 2 ∧ i = .int .i64 (j : Int) ∧ r = .int .i32 ((M.acc (c % 32) bs j : Nat) : Int) ∧ Hid (∀ t, 1 ≤ t → t < j → (bs.getD t 0).toNat / 64 = 2)) (fun _ i => 2 - (intOf i).toNat)
   case atStart => exact ⟨1, by omega, by omega, rfl, by simp [M.acc], fun t a b => by omega⟩
   case round =>
     obtain ⟨j, hj1, hj2, rfl, rfl, HT⟩ := hrel
     by_cases hlt : j < 2
     · obtain ⟨b', off', e, hcj⟩ := hcell j (by omega)
       cases e
       have hx := UInt8.toNat_lt (bs.getD j 0)
       have HST := hide (M.acc_step (c % 32) bs j hj1)
       have hac := hal j (by omega)
       have hac2 : M.acc (c % 32) bs j < 8388608 := by
         have : 64 ^ (j - 1) ≤ 64 ^ 3 := Nat.pow_le_pow_right (by omega) (by omega)
         omega
       have hno := fun h => hide (hR1 j hj1 hlt h)
       clear hal hac hcell hR0 hR1 hR2
       have hyes := M.and192_yes ⟨_, hx⟩
       have hnot := M.and192_no ⟨_, hx⟩
       have HT2 : ∀ (_ : (bs.getD j 0).toNat / 64 = 2) t, 1 ≤ t → t < j + 1 → (bs.getD t 0).toNat / 64 = 2 := by
         intro h t a b
         by_cases htj : t = j
         · rw [htj]; exact h
         · exact HT.out t a (by omega)
       simp only at hyes hnot
       have m1 := u8_and63 ((bs.getD j 0).toNat : Int) (by omega) (by omega)
       generalize (bs.getD j 0).toNat = x at *
       generalize M.acc (c % 32) bs j = A at *
       have m2 := i32_or6 ((A : Int) * 64) ((x : Int) % 64) (by omega) (by omega) (by omega) (by omega) (by omega)
       by_cases hco : x / 64 = 2
       · have m3 := hyes hco
         clear hyes hnot hno
         have HT3 := hide (HT2 hco)
         clear HT2
         go_wp2
         go_round
         case rel => exact ⟨j + 1, by omega, by omega, by go_num, by rw [HST.out]; simp, HT3.out⟩
         case measure => simp [intOf]; omega
       · have m3 := hnot hco
         have HR := hno hco
         clear hyes hnot hno HT2
         go_wp2
         go_ret2
         exact ⟨by rw [HR.out]; rfl, rfl⟩
     · obtain rfl : j = 2 := by omega
       have HR := hide (hR2 (by omega) HT.out)
       clear hR0 hR1 hR2 hcell
       generalize M.acc (c % 32) bs 2 = A at *
       go_wp2
       all_goals
         go_ret2
         refine ⟨?_, rfl⟩
         rw [HR.out]
         first
           | (rw [if_pos (by omega)]; rfl)
           | (rw [if_neg (by omega)]; rfl)
set_option maxRecDepth 100000 in
set_option maxHeartbeats 2000000 in
theorem one_three (ao : Option Addr) (cap : Nat) (bs : List UInt8) (c : Nat) (R : Nat × Nat) (w : World) (hl : bs.length ≤ 100000) (hb : 1 ≤ bs.length) (hc : Rd w ao (cB bs)) (h0 : (bs.getD 0 0).toNat = c) (h1 : 224 ≤ c) (h2 : c < 240)
   (hR0 : bs.length < 3 → R = (0, 0)) (hR1 : ∀ t, 1 ≤ t → t < 3 → ¬ (bs.getD t 0).toNat / 64 = 2 → R = (0, 0))
   (hR2 : 3 ≤ bs.length → (∀ t, 1 ≤ t → t < 3 → (bs.getD t 0).toNat / 64 = 2) → R = if M.acc (c % 16) bs 3 < 2048 ∨ 1114111 < M.acc (c % 16) bs 3 ∨ (55296 ≤ M.acc (c % 16) bs 3 ∧ M.acc (c % 16) bs 3 ≤ 57343) then (0, 0) else (M.acc (c % 16) bs 3, 3)) :
   Calls Tryz.prog 140 #[.slice ao bs.length cap] w fun e w' => e = .returned (.tuple #[.int .i32 (R.1 : Nat), .int .i64 (R.2 : Nat)]) ∧ w = w' := by
 have hcell : ∀ t, t < bs.length → ∃ b off, ao = some ⟨b, off, none⟩ ∧ w.cell? ⟨b, off + t, none⟩ = some (.int .u8 ((bs.getD t 0).toNat : Int)) := by
   intro t ht
   obtain ⟨b, off, e, h⟩ := hc.byte t ht
   exact ⟨b, off, e, by rw [h, List.getD_eq_getElem?_getD, List.getElem?_eq_getElem ht]; rfl⟩
 obtain ⟨b, off, rfl, hc0⟩ := hcell 0 (by omega)
 rw [h0, Nat.add_zero] at hc0
 have m0 := M.i32_and15 (c : Int) (by omega) (by omega)
 have hal := M.acc_lt (c % 16) bs (by omega)
 by_cases hs : bs.length < 3
 · have HR := hide (hR0 hs)
   have e1 : decide ((bs.length : Int) < 3) = true := by simp; omega
   go_enter Tryz.func140, Tryz.ntmps140
   go_wp2
   go_ret2
   exact ⟨by rw [HR.out]; rfl, rfl⟩
 · have e1 : decide ((bs.length : Int) < 3) = false := by simp; omega
   go_enter Tryz.func140, Tryz.ntmps140
   go_wp2
   go_loop [6, 8] (fun r i => ∃ j : Nat, 1 ≤ j ∧ j ≤ 3 ∧ i = .int .i64 (j : Int) ∧ r = .int .i32 ((M.acc (c % 16) bs j : Nat) : Int) ∧ Hid (∀ t, 1 ≤ t → t < j → (bs.getD t 0).toNat / 64 = 2)) (fun _ i => 3 - (intOf i).toNat)
   case atStart => exact ⟨1, by omega, by omega, rfl, by simp [M.acc], fun t a b => by omega⟩
   case round =>
     obtain ⟨j, hj1, hj2, rfl, rfl, HT⟩ := hrel
     by_cases hlt : j < 3
     · obtain ⟨b', off', e, hcj⟩ := hcell j (by omega)
       cases e
       have hx := UInt8.toNat_lt (bs.getD j 0)
       have HST := hide (M.acc_step (c % 16) bs j hj1)
       have hac := hal j (by omega)
       have hac2 : M.acc (c % 16) bs j < 8388608 := by
         have : 64 ^ (j - 1) ≤ 64 ^ 3 := Nat.pow_le_pow_right (by omega) (by omega)
         omega
       have hno := fun h => hide (hR1 j hj1 hlt h)
       clear hal hac hcell hR0 hR1 hR2
       have hyes := M.and192_yes ⟨_, hx⟩
       have hnot := M.and192_no ⟨_, hx⟩
       have HT2 : ∀ (_ : (bs.getD j 0).toNat / 64 = 2) t, 1 ≤ t → t < j + 1 → (bs.getD t 0).toNat / 64 = 2 := by
         intro h t a b
         by_cases htj : t = j
         · rw [htj]; exact h
         · exact HT.out t a (by omega)
       simp only at hyes hnot
       have m1 := u8_and63 ((bs.getD j 0).toNat : Int) (by omega) (by omega)
       generalize (bs.getD j 0).toNat = x at *
       generalize M.acc (c % 16) bs j = A at *
       have m2 := i32_or6 ((A : Int) * 64) ((x : Int) % 64) (by omega) (by omega) (by omega) (by omega) (by omega)
       by_cases hco : x / 64 = 2
       · have m3 := hyes hco
         clear hyes hnot hno
         have HT3 := hide (HT2 hco)
         clear HT2
         go_wp2
         go_round
         case rel => exact ⟨j + 1, by omega, by omega, by go_num, by rw [HST.out]; simp, HT3.out⟩
         case measure => simp [intOf]; omega
       · have m3 := hnot hco
         have HR := hno hco
         clear hyes hnot hno HT2
         go_wp2
         go_ret2
         exact ⟨by rw [HR.out]; rfl, rfl⟩
     · obtain rfl : j = 3 := by omega
       have HR := hide (hR2 (by omega) HT.out)
       clear hR0 hR1 hR2 hcell
       generalize M.acc (c % 16) bs 3 = A at *
       go_wp2
       all_goals
         go_ret2
         refine ⟨?_, rfl⟩
         rw [HR.out]
         first
           | (rw [if_pos (by omega)]; rfl)
           | (rw [if_neg (by omega)]; rfl)
set_option maxRecDepth 100000 in
set_option maxHeartbeats 2000000 in
theorem one_four (ao : Option Addr) (cap : Nat) (bs : List UInt8) (c : Nat) (R : Nat × Nat) (w : World) (hl : bs.length ≤ 100000) (hb : 1 ≤ bs.length) (hc : Rd w ao (cB bs)) (h0 : (bs.getD 0 0).toNat = c) (h1 : 240 ≤ c) (h2 : c < 248)
   (hR0 : bs.length < 4 → R = (0, 0)) (hR1 : ∀ t, 1 ≤ t → t < 4 → ¬ (bs.getD t 0).toNat / 64 = 2 → R = (0, 0))
   (hR2 : 4 ≤ bs.length → (∀ t, 1 ≤ t → t < 4 → (bs.getD t 0).toNat / 64 = 2) → R = if M.acc (c % 8) bs 4 < 65536 ∨ 1114111 < M.acc (c % 8) bs 4 ∨ (55296 ≤ M.acc (c % 8) bs 4 ∧ M.acc (c % 8) bs 4 ≤ 57343) then (0, 0) else (M.acc (c % 8) bs 4, 4)) :
   Calls Tryz.prog 140 #[.slice ao bs.length cap] w fun e w' => e = .returned (.tuple #[.int .i32 (R.1 : Nat), .int .i64 (R.2 : Nat)]) ∧ w = w' := by
 have hcell : ∀ t, t < bs.length → ∃ b off, ao = some ⟨b, off, none⟩ ∧ w.cell? ⟨b, off + t, none⟩ = some (.int .u8 ((bs.getD t 0).toNat : Int)) := by
   intro t ht
   obtain ⟨b, off, e, h⟩ := hc.byte t ht
   exact ⟨b, off, e, by rw [h, List.getD_eq_getElem?_getD, List.getElem?_eq_getElem ht]; rfl⟩
 obtain ⟨b, off, rfl, hc0⟩ := hcell 0 (by omega)
 rw [h0, Nat.add_zero] at hc0
 have m0 := M.i32_and7 (c : Int) (by omega) (by omega)
 have hal := M.acc_lt (c % 8) bs (by omega)
 by_cases hs : bs.length < 4
 · have HR := hide (hR0 hs)
   have e1 : decide ((bs.length : Int) < 4) = true := by simp; omega
   go_enter Tryz.func140, Tryz.ntmps140
   go_wp2
   go_ret2
   exact ⟨by rw [HR.out]; rfl, rfl⟩
 · have e1 : decide ((bs.length : Int) < 4) = false := by simp; omega
   go_enter Tryz.func140, Tryz.ntmps140
   go_wp2
   go_loop [6, 8] (fun r i => ∃ j : Nat, 1 ≤ j ∧ j ≤ 4 ∧ i = .int .i64 (j : Int) ∧ r = .int .i32 ((M.acc (c % 8) bs j : Nat) : Int) ∧ Hid (∀ t, 1 ≤ t → t < j → (bs.getD t 0).toNat / 64 = 2)) (fun _ i => 4 - (intOf i).toNat)
   case atStart => exact ⟨1, by omega, by omega, rfl, by simp [M.acc], fun t a b => by omega⟩
   case round =>
     obtain ⟨j, hj1, hj2, rfl, rfl, HT⟩ := hrel
     by_cases hlt : j < 4
     · obtain ⟨b', off', e, hcj⟩ := hcell j (by omega)
       cases e
       have hx := UInt8.toNat_lt (bs.getD j 0)
       have HST := hide (M.acc_step (c % 8) bs j hj1)
       have hac := hal j (by omega)
       have hac2 : M.acc (c % 8) bs j < 8388608 := by
         have : 64 ^ (j - 1) ≤ 64 ^ 3 := Nat.pow_le_pow_right (by omega) (by omega)
         omega
       have hno := fun h => hide (hR1 j hj1 hlt h)
       clear hal hac hcell hR0 hR1 hR2
       have hyes := M.and192_yes ⟨_, hx⟩
       have hnot := M.and192_no ⟨_, hx⟩
       have HT2 : ∀ (_ : (bs.getD j 0).toNat / 64 = 2) t, 1 ≤ t → t < j + 1 → (bs.getD t 0).toNat / 64 = 2 := by
         intro h t a b
         by_cases htj : t = j
         · rw [htj]; exact h
         · exact HT.out t a (by omega)
       simp only at hyes hnot
       have m1 := u8_and63 ((bs.getD j 0).toNat : Int) (by omega) (by omega)
       generalize (bs.getD j 0).toNat = x at *
       generalize M.acc (c % 8) bs j = A at *
       have m2 := i32_or6 ((A : Int) * 64) ((x : Int) % 64) (by omega) (by omega) (by omega) (by omega) (by omega)
       by_cases hco : x / 64 = 2
       · have m3 := hyes hco
         clear hyes hnot hno
         have HT3 := hide (HT2 hco)
         clear HT2
         go_wp2
         go_round
         case rel => exact ⟨j + 1, by omega, by omega, by go_num, by rw [HST.out]; simp, HT3.out⟩
         case measure => simp [intOf]; omega
       · have m3 := hnot hco
         have HR := hno hco
         clear hyes hnot hno HT2
         go_wp2
         go_ret2
         exact ⟨by rw [HR.out]; rfl, rfl⟩
     · obtain rfl : j = 4 := by omega
       have HR := hide (hR2 (by omega) HT.out)
       clear hR0 hR1 hR2 hcell
       generalize M.acc (c % 8) bs 4 = A at *
       go_wp2
       all_goals
         go_ret2
         refine ⟨?_, rfl⟩
         rw [HR.out]
         first
           | (rw [if_pos (by omega)]; rfl)
           | (rw [if_neg (by omega)]; rfl)
namespace M
open Go.Lib
theorem one_bad {bs : List UInt8} (h : dec bs = (65533, 1)) : one bs = (0, 0) := by unfold one; rw [h]; rfl
theorem one_good {bs : List UInt8} {p n : Nat} (h : dec bs = (p, n)) (hn : 1 < n ∨ p < 128) : one bs = (p, n) := by
 unfold one
 rw [h]
 have : ok (p, n) = true := by
   unfold ok
   rcases hn with hn | hn
   · simp [hn]
   · have : ¬ p = 65533 := by omega
     simp [this]
 rw [if_pos this]
end M
theorem cells_of {ao : Option Addr} {bs : List UInt8} {w : World} (hc : Rd w ao (cB bs)) : ∀ t, t < bs.length → ∃ b off, ao = some ⟨b, off, none⟩ ∧ w.cell? ⟨b, off + t, none⟩ = some (.int .u8 ((bs.getD t 0).toNat : Int)) := by
 intro t ht
 obtain ⟨b, off, e, h⟩ := hc.byte t ht
 exact ⟨b, off, e, by rw [h, List.getD_eq_getElem?_getD, List.getElem?_eq_getElem ht]; rfl⟩
set_option maxRecDepth 100000 in
set_option maxHeartbeats 1000000 in
theorem one_ascii (ao : Option Addr) (cap : Nat) (bs : List UInt8) (c : Nat) (w : World) (hl : bs.length ≤ 100000) (hb : 1 ≤ bs.length) (hc : Rd w ao (cB bs)) (h0 : (bs.getD 0 0).toNat = c) (h1 : c < 128) :
   Calls Tryz.prog 140 #[.slice ao bs.length cap] w fun e w' => e = .returned (.tuple #[.int .i32 (c : Nat), .int .i64 1]) ∧ w = w' := by
 obtain ⟨b, off, rfl, hc0⟩ := cells_of hc 0 (by omega)
 rw [h0, Nat.add_zero] at hc0
 clear h0
 go_enter Tryz.func140, Tryz.ntmps140
 go_wp2
 go_ret2
 exact ⟨rfl, rfl⟩
set_option maxRecDepth 100000 in
set_option maxHeartbeats 1000000 in
theorem one_none (ao : Option Addr) (cap : Nat) (bs : List UInt8) (c : Nat) (w : World) (hl : bs.length ≤ 100000) (hb : 1 ≤ bs.length) (hc : Rd w ao (cB bs)) (h0 : (bs.getD 0 0).toNat = c) (h1 : (128 ≤ c ∧ c < 192) ∨ (248 ≤ c ∧ c < 256)) :
   Calls Tryz.prog 140 #[.slice ao bs.length cap] w fun e w' => e = .returned (.tuple #[.int .i32 0, .int .i64 0]) ∧ w = w' := by
 obtain ⟨b, off, rfl, hc0⟩ := cells_of hc 0 (by omega)
 rw [h0, Nat.add_zero] at hc0
 clear h0
 rcases h1 with ⟨h1, h2⟩ | ⟨h1, h2⟩
 all_goals
   go_enter Tryz.func140, Tryz.ntmps140
   go_wp2
   go_ret2
   exact ⟨rfl, rfl⟩
set_option maxHeartbeats 4000000 in
theorem one_any (ao : Option Addr) (cap : Nat) (bs : List UInt8) (w : World) (hl : bs.length ≤ 100000) (hb : 1 ≤ bs.length) (hc : Rd w ao (cB bs)) :
   Calls Tryz.prog 140 #[.slice ao bs.length cap] w fun e w' => e = .returned (.tuple #[.int .i32 ((M.one bs).1 : Nat), .int .i64 ((M.one bs).2 : Nat)]) ∧ w = w' := by
 have hd : M.dec bs = Lib.decodeN bs.length (bs.getD 0 0).toNat (bs.getD 1 0).toNat (bs.getD 2 0).toNat (bs.getD 3 0).toNat := rfl
 have hx0 := UInt8.toNat_lt (bs.getD 0 0)
 by_cases h1 : (bs.getD 0 0).toNat < 128
 · have e : M.dec bs = ((bs.getD 0 0).toNat, 1) := by rw [hd]; unfold Lib.decodeN; rw [if_pos h1]
   rw [M.one_good e (.inr h1)]
   exact one_ascii ao cap bs _ w hl hb hc rfl h1
 by_cases h2 : (bs.getD 0 0).toNat < 192 ∨ 248 ≤ (bs.getD 0 0).toNat
 · have e : M.dec bs = (65533, 1) := by
     rw [hd]; unfold Lib.decodeN
     rw [if_neg (by omega), if_neg (by omega), if_neg (by omega), if_neg (by omega)]
   rw [M.one_bad e]
   exact one_none ao cap bs _ w hl hb hc rfl (by omega)
 by_cases h3 : (bs.getD 0 0).toNat < 224
 · refine one_two ao cap bs _ (M.one bs) w hl hb hc rfl (by omega) h3 (fun h => M.one_bad ?_) (fun t a b h => M.one_bad ?_) (fun h ht => ?_)
   · rw [hd]; unfold Lib.decodeN
     rw [if_neg (by omega), if_neg (by omega), if_neg (by omega), if_neg (by omega)]
   · obtain rfl : t = 1 := by omega
     rw [hd]; unfold Lib.decodeN
     rw [if_neg (by omega), if_neg (by omega), if_neg (by omega), if_neg (by omega)]
   · have t1 := ht 1 (by omega) (by omega)
     have ea : M.acc ((bs.getD 0 0).toNat % 32) bs 2 = (bs.getD 0 0).toNat % 32 * 64 + (bs.getD 1 0).toNat % 64 := rfl
     rw [ea]
     split
     · refine M.one_bad ?_
       rw [hd]; unfold Lib.decodeN
       rw [if_neg (by omega), if_pos (by omega), if_neg (by omega)]
     · refine M.one_good ?_ (.inl (by omega))
       rw [hd]; unfold Lib.decodeN
       rw [if_neg (by omega), if_pos (by omega), if_pos (by omega)]
 by_cases h4 : (bs.getD 0 0).toNat < 240
 · refine one_three ao cap bs _ (M.one bs) w hl hb hc rfl (by omega) h4 (fun h => M.one_bad ?_) (fun t a b h => M.one_bad ?_) (fun h ht => ?_)
   · rw [hd]; unfold Lib.decodeN
     rw [if_neg (by omega), if_neg (by omega), if_neg (by omega), if_neg (by omega)]
   · rw [hd]; unfold Lib.decodeN
     have : t = 1 ∨ t = 2 := by omega
     rcases this with rfl | rfl
     all_goals rw [if_neg (by omega), if_neg (by omega), if_neg (by omega), if_neg (by omega)]
   · have t1 := ht 1 (by omega) (by omega)
     have t2 := ht 2 (by omega) (by omega)
     have ea : M.acc ((bs.getD 0 0).toNat % 16) bs 3 = ((bs.getD 0 0).toNat % 16 * 64 + (bs.getD 1 0).toNat % 64) * 64 + (bs.getD 2 0).toNat % 64 := rfl
     rw [ea]
     split
     · refine M.one_bad ?_
       rw [hd]; unfold Lib.decodeN
       rw [if_neg (by omega), if_neg (by omega), if_pos (by omega), if_neg (by omega)]
     · refine M.one_good ?_ (.inl (by omega))
       rw [hd]; unfold Lib.decodeN
       rw [if_neg (by omega), if_neg (by omega), if_pos (by omega), if_pos (by omega)]
       congr 1
       omega
 · refine one_four ao cap bs _ (M.one bs) w hl hb hc rfl (by omega) (by omega) (fun h => M.one_bad ?_) (fun t a b h => M.one_bad ?_) (fun h ht => ?_)
   · rw [hd]; unfold Lib.decodeN
     rw [if_neg (by omega), if_neg (by omega), if_neg (by omega), if_neg (by omega)]
   · rw [hd]; unfold Lib.decodeN
     have : t = 1 ∨ t = 2 ∨ t = 3 := by omega
     rcases this with rfl | rfl | rfl
     all_goals rw [if_neg (by omega), if_neg (by omega), if_neg (by omega), if_neg (by omega)]
   · have t1 := ht 1 (by omega) (by omega)
     have t2 := ht 2 (by omega) (by omega)
     have t3 := ht 3 (by omega) (by omega)
     have ea : M.acc ((bs.getD 0 0).toNat % 8) bs 4 = (((bs.getD 0 0).toNat % 8 * 64 + (bs.getD 1 0).toNat % 64) * 64 + (bs.getD 2 0).toNat % 64) * 64 + (bs.getD 3 0).toNat % 64 := rfl
     rw [ea]
     split
     · refine M.one_bad ?_
       rw [hd]; unfold Lib.decodeN
       rw [if_neg (by omega), if_neg (by omega), if_neg (by omega), if_pos (by omega), if_neg (by omega)]
     · refine M.one_good ?_ (.inl (by omega))
       rw [hd]; unfold Lib.decodeN
       rw [if_neg (by omega), if_neg (by omega), if_neg (by omega), if_pos (by omega), if_pos (by omega)]
       congr 1
       omega
theorem Own.beside {w w' : World} {B : Nat} {e e' : TypeId} {v u : Value} {vs us : List Value} (hu : Own w B e' u us) (hv : Own w B e v vs) (hee : e' ≠ e) (hg : w.grownBy w' v.ownBlock) : Own w' B e' u us := by
 refine World.ownsRow.kept hu hg ?_
 rcases hu.2 with ⟨rfl, _⟩ | ⟨g, cap, cur, rfl, _, hgb, _⟩
 · exact .inl rfl
 · exact .inr (not_row hgb hee hv)
theorem one_cases (bs : List UInt8) (hb : bs ≠ []) : (M.ok (M.dec bs) = true ∧ M.one bs = M.dec bs ∧ 1 ≤ (M.dec bs).2 ∧ (M.dec bs).2 ≤ bs.length) ∨ (M.ok (M.dec bs) = false ∧ M.one bs = (0, 0) ∧ M.dec bs = (65533, 1)) := by
 have hs := M.dec_size hb
 unfold M.one
 cases h : M.ok (M.dec bs) with
 | true => exact .inl ⟨rfl, if_pos rfl, hs.1, hs.2.1⟩
 | false =>
   refine .inr ⟨rfl, if_neg (by simp), ?_⟩
   unfold M.ok at h
   simp at h
   exact Prod.ext h.1 (by omega)
set_option maxRecDepth 100000 in
set_option maxHeartbeats 4000000 in
theorem refRunes_any (ao : Option Addr) (cap : Nat) (bs : List UInt8) (hl : bs.length ≤ 100000) (hcap : bs.length ≤ cap) (hnil : ao = none → cap = 0) (w : World) (hc : Rd w ao (cB bs)) :
   Calls Tryz.prog 107 #[.slice ao bs.length cap] w fun e W' => ∃ v u, e = .returned (.tuple #[v, u, .bool (M.good bs)]) ∧ Own W' w.heap.size 21 v (cI (M.pts bs)) ∧ Own W' w.heap.size 3 u (cN (M.sts bs)) ∧ Below w.heap.size w W' := by
 have hrl := M.rs_length bs 0
 go_enter Tryz.func107, Tryz.ntmps107
 go_wp2
 go_loopw [5, 6, 7, 8] (fun v u g i wr => ∃ (pre : List M.Sq) (k : Nat), k ≤ bs.length ∧ i = .int .i64 (k : Int) ∧ g = .bool (pre.all fun s => s.2.2) ∧ Hid (M.rs 0 bs = pre ++ M.rs k (bs.drop k)) ∧ Own wr w.heap.size 21 v (cI (ptsOf pre)) ∧ Own wr w.heap.size 3 u (cN (stsOf pre)) ∧ Below w.heap.size w wr) (fun _ _ _ i _ => bs.length - (intOf i).toNat)
 case atStart => exact ⟨[], 0, Nat.zero_le _, rfl, rfl, by rw [List.drop_zero]; exact rfl, own_nil _ _ _, own_nil _ _ _, Below.refl _ _⟩
 case round =>
   obtain ⟨pre, k, hk, rfl, rfl, HP, hv, hu, hb⟩ := hrel
   by_cases hlt : k < bs.length
   · obtain ⟨a1, c1, hr1, _, _, hcut⟩ := cut_from (T := 64) Tryz.underlying64 elemSize64 wr ao (cB bs) bs.length cap k (cB_length bs) hk hcap hnil (hc.later hb)
     obtain ⟨ds, hds⟩ : ∃ ds, ds = bs.drop k := ⟨_, rfl⟩
     have hdl : ds.length = bs.length - k := by rw [hds, List.length_drop]
     rw [show (cB bs).drop k = cB ds by rw [hds]; simp [cB]] at hr1
     rw [← hdl] at hcut
     have hne : ds ≠ [] := by intro e; rw [e] at hdl; simp at hdl; omega
     have HQ : Hid (M.rs 0 bs = pre ++ ((k, (M.dec ds).1, M.ok (M.dec ds)) :: M.rs (k + (M.dec ds).2) (bs.drop (k + (M.dec ds).2)))) := by
       show _ = _
       rw [HP.out, ← hds, M.rs_step k hne, hds, List.drop_drop]
     clear HP
     have hpl : pre.length ≤ bs.length := by have := congrArg List.length HQ.out; rw [List.length_append] at this; omega
     have hD := one_any a1 c1 ds wr (by omega) (by omega) hr1
     have hcs := one_cases ds hne
     have hd1 : k + ds.length ≤ bs.length := by omega
     have hpa := ptsOf_length pre
     have hsa := stsOf_length pre
     have hla : (cI (ptsOf pre)).length ≤ 100000 := by rw [cI_length]; omega
     have hlb : (cN (stsOf pre)).length ≤ 100000 := by rw [cN_length]; omega
     have hall : ∀ g : Bool, (pre ++ [(k, (M.dec ds).1, g)]).all (fun s => s.2.2) = (pre.all (fun s => s.2.2) && g) := by intro g; simp
     clear hds hne hdl hpa hsa hpl
     generalize M.one ds = d1 at *
     generalize M.dec ds = d at *
     obtain ⟨p, m⟩ := d
     rcases hcs with ⟨hok, rfl, hm1, hm2⟩ | ⟨hok, rfl, hdd⟩
     · rw [hok] at HQ
       have HG := hide (hall true)
       rw [Bool.and_true] at HG
       clear hall hok
       simp only at hm1 hm2 hD HQ HG
       have hmz : ((m : Int) == 0) = false := by simp; omega
       generalize (pre.all fun s => s.2.2) = gb at *
       go_wp2_with fail
       refine hD.mono ?_
       rintro e w2 ⟨rfl, rfl⟩
       clear hD hcut hr1
       go_wp2_with (first
         | (at_builtin; refine wpl_appg Tryz.underlying48 info21 rfl (by decide) rfl _ _ rfl w.heap.size _ (cI (ptsOf pre)) (some ⟨wr.heap.size, 0, none⟩) [.int .i32 (p : Int)] 1 1 rfl rfl rfl (hv.later ((Below.refl _ _).alloc (Nat.le_refl _) _)) (by have := hb.size; simp; omega) (rd_new _ _ _ _ _ rfl) (by simp [Value.oneCell']) (fun e => by cases e) (by simp; omega) ?_; intro v3 w3 hv3 hb3 hg3; have hu3 := (hu.later ((Below.refl _ _).alloc (Nat.le_refl _) _)).beside (hv.later ((Below.refl _ _).alloc (Nat.le_refl _) _)) (by decide) hg3; have hB3 : Below w.heap.size w w3 := ((hb.alloc hb.size _).trans hb3))
         | (at_builtin; refine wpl_appg Tryz.underlying145 info3 rfl (by decide) rfl _ _ rfl w.heap.size _ (cN (stsOf pre)) (some ⟨w3.heap.size, 0, none⟩) [.int .i64 (k : Int)] 1 1 rfl rfl rfl (hu3.later ((Below.refl _ _).alloc (Nat.le_refl _) _)) (by have := hB3.size; simp; omega) (rd_new _ _ _ _ _ rfl) (by simp [Value.oneCell']) (fun e => by cases e) (by simp; omega) ?_; intro u4 w4 hu4 hb4 hg4; have hv4 := (hv3.later ((Below.refl _ _).alloc (Nat.le_refl _) _)).beside (hu3.later ((Below.refl _ _).alloc (Nat.le_refl _) _)) (by decide) hg4; have hB4 : Below w.heap.size w w4 := ((hB3.alloc hB3.size _).trans hb4)))
       go_roundw
       case rel => exact ⟨pre ++ [(k, p, true)], k + m, by omega, by go_num, by rw [HG.out], by rw [List.append_assoc]; exact HQ, by rw [ptsOf_snoc, cI_append]; exact hv4, by rw [stsOf_snoc, cN_append]; exact hu4, hB4⟩
       case measure => simp [intOf]; omega
     · cases hdd
       rw [hok] at HQ
       have HG := hide (hall false)
       rw [Bool.and_false] at HG
       clear hall hok
       simp only at hD HQ HG
       generalize (pre.all fun s => s.2.2) = gb at *
       go_wp2_with fail
       refine hD.mono ?_
       rintro e w2 ⟨rfl, rfl⟩
       clear hD hcut hr1
       go_wp2_with (first
         | (at_builtin; refine wpl_appg Tryz.underlying48 info21 rfl (by decide) rfl _ _ rfl w.heap.size _ (cI (ptsOf pre)) (some ⟨wr.heap.size, 0, none⟩) [.int .i32 65533] 1 1 rfl rfl rfl (hv.later ((Below.refl _ _).alloc (Nat.le_refl _) _)) (by have := hb.size; simp; omega) (rd_new _ _ _ _ _ rfl) (by simp [Value.oneCell']) (fun e => by cases e) (by simp; omega) ?_; intro v3 w3 hv3 hb3 hg3; have hu3 := (hu.later ((Below.refl _ _).alloc (Nat.le_refl _) _)).beside (hv.later ((Below.refl _ _).alloc (Nat.le_refl _) _)) (by decide) hg3; have hB3 : Below w.heap.size w w3 := ((hb.alloc hb.size _).trans hb3))
         | (at_builtin; refine wpl_appg Tryz.underlying145 info3 rfl (by decide) rfl _ _ rfl w.heap.size _ (cN (stsOf pre)) (some ⟨w3.heap.size, 0, none⟩) [.int .i64 (k : Int)] 1 1 rfl rfl rfl (hu3.later ((Below.refl _ _).alloc (Nat.le_refl _) _)) (by have := hB3.size; simp; omega) (rd_new _ _ _ _ _ rfl) (by simp [Value.oneCell']) (fun e => by cases e) (by simp; omega) ?_; intro u4 w4 hu4 hb4 hg4; have hv4 := (hv3.later ((Below.refl _ _).alloc (Nat.le_refl _) _)).beside (hu3.later ((Below.refl _ _).alloc (Nat.le_refl _) _)) (by decide) hg4; have hB4 : Below w.heap.size w w4 := ((hB3.alloc hB3.size _).trans hb4)))
       go_roundw
       case rel => exact ⟨pre ++ [(k, 65533, false)], k + 1, by omega, by go_num, by rw [HG.out], by rw [List.append_assoc]; exact HQ, by rw [ptsOf_snoc, cI_append]; exact hv4, by rw [stsOf_snoc, cN_append]; exact hu4, hB4⟩
       case measure => simp [intOf]; omega
   · obtain rfl : k = bs.length := by omega
     have HE : Hid (M.rs 0 bs = pre) := by show _ = _; rw [HP.out, List.drop_length, M.rs_nil, List.append_nil]
     clear HP
     go_wp2
     go_ret3
     refine ⟨u5, u6, ?_, ?_, ?_, hb⟩
     · unfold M.good; rw [HE.out]; rfl
     · unfold M.pts; rw [HE.out]; exact hv
     · unfold M.sts; rw [HE.out]; exact hu
theorem dec_four (l : List UInt8) : M.dec (l.take 4) = M.dec l := by
 unfold M.dec
 have e : ∀ i, i < 4 → (l.take 4).getD i 0 = l.getD i 0 := by
   intro i hi
   rw [List.getD_eq_getElem?_getD, List.getD_eq_getElem?_getD, List.getElem?_take, if_pos hi]
 rw [e 0 (by omega), e 1 (by omega), e 2 (by omega), e 3 (by omega), List.length_take]
 by_cases h : 4 ≤ l.length
 · rw [Nat.min_eq_left h]
   unfold Lib.decodeN
   simp only [eq_true (show 1 < l.length by omega), eq_true (show 2 < l.length by omega), eq_true (show 3 < l.length by omega), eq_true (show 1 < 4 by omega), eq_true (show 2 < 4 by omega), eq_true (show 3 < 4 by omega)]
 · rw [Nat.min_eq_right (by omega)]
theorem one_four' (l : List UInt8) : M.one (l.take 4) = M.one l := by unfold M.one; rw [dec_four]
theorem cut_bts (s : ByteArray) (a b : Nat) : bts (s.extract a b) = ((bts s).drop a).take (b - a) := by
 unfold bts
 rw [ByteArray.data_extract, Array.toList_extract]
set_option maxRecDepth 100000 in
set_option maxHeartbeats 400000 in
theorem oneAt_any (s : ByteArray) (k : Nat) (hs : s.size ≤ 100000) (hk : k < s.size) (w : World) : Calls Tryz.prog 109 #[.string s, .int .i64 (k : Int)] w fun e w' => e = .returned (.tuple #[.int .i32 ((M.one ((bts s).drop k)).1 : Nat), .int .i64 ((M.one ((bts s).drop k)).2 : Nat)]) ∧ Below w.heap.size w w' := by
 by_cases h4 : k + 4 < s.size
 · obtain ⟨t, ht⟩ : ∃ t, s.extract k (k + 4) = t := ⟨_, rfl⟩
   have hb := cut_bts s k (k + 4)
   rw [ht, Nat.add_sub_cancel_left] at hb
   have htl : (bts t).length = 4 := by rw [hb, List.length_take, List.length_drop, bts_len]; omega
   have HO := hide (one_four' ((bts s).drop k))
   rw [← hb] at HO
   obtain ⟨cap, W, hrun, hrd, hbl⟩ := bytes_of t w
   have hone := one_any (some ⟨w.heap.size, 0, none⟩) cap (bts t) W (by omega) (by omega) hrd
   have hts : (bts t).length = t.size := rfl
   rw [hts] at hone
   clear hts htl
   have hm : min (s.size : Int) ((k : Int) + 4) = (k : Int) + 4 := by omega
   have ht2 : s.extract k ((k : Int) + 4).toNat = t := ht
   clear hb
   generalize M.one (bts t) = o at *
   go_enter Tryz.func109, Tryz.ntmps109
   go_wp2_with fail
   refine hone.mono ?_
   rintro e w1 ⟨rfl, rfl⟩
   go_wp2
   go_ret2
   exact ⟨by rw [← HO.out]; rfl, hbl⟩
 · obtain ⟨t, ht⟩ : ∃ t, s.extract k s.size = t := ⟨_, rfl⟩
   have hb := cut_bts s k s.size
   rw [ht, List.take_of_length_le (by rw [List.length_drop, bts_len]; omega)] at hb
   have htl : (bts t).length = s.size - k := by rw [hb, List.length_drop, bts_len]
   have HO := hide (congrArg M.one hb)
   obtain ⟨cap, W, hrun, hrd, hbl⟩ := bytes_of t w
   have hone := one_any (some ⟨w.heap.size, 0, none⟩) cap (bts t) W (by omega) (by omega) hrd
   have hts : (bts t).length = t.size := rfl
   rw [hts] at hone
   clear hts htl
   have hm : min (s.size : Int) ((k : Int) + 4) = (s.size : Int) := by omega
   clear hb
   generalize M.one (bts t) = o at *
   go_enter Tryz.func109, Tryz.ntmps109
   go_wp2_with fail
   refine hone.mono ?_
   rintro e w1 ⟨rfl, rfl⟩
   go_wp2
   go_ret2
   exact ⟨by rw [← HO.out]; rfl, hbl⟩
def hexI (c : UInt8) : Int := match X.hexv c with
 | some n => n
 | none => -1
theorem isD_iff (c : UInt8) : X.isD c = true ↔ 48 ≤ c.toNat ∧ c.toNat ≤ 57 := by simp [X.isD]
set_option maxHeartbeats 1000000 in
theorem hexR_any (c : UInt8) (w : World) : Calls Tryz.prog 108 #[U8 c] w fun e w' => e = .returned (.int .i32 (hexI c)) ∧ w' = w := by
 have hc := c.toNat_lt
 have hdg := digitR_any c w
 have hi := isD_iff c
 cases hd : X.isD c with
 | true =>
   rw [hd] at hdg
   have hh := hi.1 hd
   have HE : Hid (hexI c = (c.toNat : Int) - 48) := hide (by unfold hexI X.hexv; rw [if_pos hd]; simp; omega)
   clear hi hd
   unfold U8 at *
   go_enter Tryz.func108, Tryz.ntmps108
   go_wp2_with fail
   refine hdg.mono ?_
   rintro e w1 ⟨rfl, rfl⟩
   go_wp2
   go_ret
   exact ⟨by rw [HE.out]; rfl, rfl⟩
 | false =>
   rw [hd] at hdg
   have hh : ¬ (48 ≤ c.toNat ∧ c.toNat ≤ 57) := fun h => by rw [hi.2 h] at hd; cases hd
   have HE : Hid (hexI c = if 97 ≤ c.toNat ∧ c.toNat ≤ 102 then (c.toNat : Int) - 97 + 10 else if 65 ≤ c.toNat ∧ c.toNat ≤ 70 then (c.toNat : Int) - 65 + 10 else -1) := hide (by
     unfold hexI X.hexv; rw [if_neg (by rw [hd]; decide)]
     by_cases h1 : 97 ≤ c.toNat ∧ c.toNat ≤ 102
     · rw [if_pos h1, if_pos h1]; simp only; omega
     · rw [if_neg h1, if_neg h1]
       by_cases h2 : 65 ≤ c.toNat ∧ c.toNat ≤ 70
       · rw [if_pos h2, if_pos h2]; simp only; omega
       · rw [if_neg h2, if_neg h2])
   clear hi hd
   unfold U8 at *
   go_enter Tryz.func108, Tryz.ntmps108
   go_wp2_with fail
   refine hdg.mono ?_
   rintro e w1 ⟨rfl, rfl⟩
   go_wp2
   all_goals
     go_ret
     refine ⟨?_, rfl⟩
     rw [HE.out]
     first
       | (rw [if_pos (by omega)]; rfl)
       | (rw [if_neg (by omega), if_pos (by omega)]; rfl)
       | (rw [if_neg (by omega), if_neg (by omega)]; rfl)
end Go.Proofs.YtamhjnemmdcniaaGreatDoor
