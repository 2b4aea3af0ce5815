/- The reference of stage 6: Rscan. -/
import Derived.Test.YtamhjnemmdcniaaGreatDoorVRh
import Derived.Test.YtamhjnemmdcniaaGreatDoorVRi
import Derived.Test.YtamhjnemmdcniaaGreatDoorVRj
namespace Go.Proofs.YtamhjnemmdcniaaGreatDoor
open Go.RowKit
theorem nextR_any (s : ByteArray) (k : Nat) (hs : s.size ≤ 100000) (hk : k < s.size) (w : World) : Calls Tryz.prog 44 #[.string s, .int .i64 (k : Int)] w fun e w' => AnsT (X.nextL ((bts s).drop k)) k e ∧ Below w.heap.size w w' := by
 have hl : k < (bts s).length := hk
 obtain ⟨c, hc⟩ : ∃ c, (bts s)[k]'hl = c := ⟨_, rfl⟩
 obtain ⟨u, hu⟩ : ∃ u, (bts s).drop (k + 1) = u := ⟨_, rfl⟩
 have hx2 : ∀ h, s[k]'h = c := fun h => (idx_at (s := s) hl (k : Int) rfl h).trans hc
 have hdr := List.drop_eq_getElem_cons hl
 rw [hc, hu] at hdr
 have HU : Hid ((bts s).drop k = c :: u ∧ (bts s).drop (k + 1) = u) := hide ⟨hdr, hu⟩
 rw [hdr]
 clear hdr hc hu
 by_cases h10 : c = 10
 · exact next_line s k hk c hx2 u h10 w
 by_cases h36 : c = 36
 · exact next_name s k hs hk c hx2 u HU h10 h36 w
 cases hd : X.isD c with
 | true => exact next_num s k hs hk c hx2 u HU h10 h36 hd w
 | false =>
   cases hll : X.isL c with
   | true => exact next_ident s k hs hk c hx2 u HU h10 h36 hd hll w
   | false =>
     by_cases h34 : c = 34
     · exact next_word s k hs hk c hx2 u HU h10 h36 hd hll h34 w
     by_cases h39 : c = 39
     · exact next_char s k hs hk c hx2 u HU h10 h36 h34 hd hll h39 w
     by_cases h123 : c = 123
     · exact next_prop s k hs hk c hx2 u HU h10 h36 hd hll h34 h39 h123 w
     by_cases hp : (c = 62 ∧ u.head? = some 60) ∨ (c = 60 ∧ u.head? = some 62)
     · exact next_pair s k hs hk c hx2 u HU h10 h36 hd hll h34 h39 h123 hp w
     by_cases hns : c ∈ X.signs
     · exact next_sign s k hs hk c hx2 u HU h10 h36 hd hll h34 h39 h123 hp hns w
     · exact next_none s k hs hk c hx2 u HU h10 h36 hd hll h34 h39 h123 hp hns w
def AnsS (r : Except Nat (List (X.Tk × Nat))) (B : Nat) (e : Ending) (w' : World) : Prop :=
 (∃ l v, r = .ok l ∧ e = .returned (.tuple #[v, .int .i64 0, .bool true]) ∧ OwnK w' B v l) ∨ ∃ at_ : Nat, r = .error at_ ∧ e = .returned (.tuple #[.slice none 0 0, .int .i64 (at_ : Int), .bool false])
set_option maxRecDepth 100000 in
set_option maxHeartbeats 2000000 in
theorem scan_any (s : ByteArray) (hs : s.size ≤ 100000) (w : World) : Calls Tryz.prog 22 #[.string s] w fun e w' => AnsS (X.scan 0 (bts s)) w.heap.size e w' ∧ Below w.heap.size w w' := by
 go_enter Tryz.func22, Tryz.ntmps22
 go_wp2
 go_loopw [5, 6] (fun v u wr => ∃ (l : List (X.Tk × Nat)) (i : Nat), u = .int .i64 (i : Int) ∧ i ≤ s.size ∧ l.length ≤ i ∧ OwnK wr w.heap.size v l ∧ Hid (X.scan 0 (bts s) = (X.scan i ((bts s).drop i)).map fun m => l ++ m) ∧ Below w.heap.size w wr) (fun _ u _ => s.size - (intOf u).toNat)
 case atStart => exact ⟨[], 0, rfl, Nat.zero_le _, by simp, ownK_nil _ _, hide (by simp only [List.drop_zero, List.nil_append]; exact (emap_id _).symm), Below.refl _ _⟩
 case round =>
   obtain ⟨l, i, rfl, hi, hll, hv, HS, hb⟩ := hrel
   by_cases hlt : i < s.size
   · have hl : i < (bts s).length := hlt
     obtain ⟨c, hc⟩ : ∃ c, (bts s)[i]'hl = c := ⟨_, rfl⟩
     obtain ⟨u, hu⟩ : ∃ u, (bts s).drop (i + 1) = u := ⟨_, rfl⟩
     have hx2 : ∀ h, s[i]'h = c := fun h => (idx_at (s := s) hl (i : Int) rfl h).trans hc
     have hdr := List.drop_eq_getElem_cons hl
     rw [hc, hu] at hdr
     have HD := hide hdr
     have HU := hide hu
     clear hdr hc hu
     have e32 : ((c.toNat : Int) == 32) = decide (c = 32) := u8_eq c 32
     have e9 : ((c.toNat : Int) == 9) = decide (c = 9) := u8_eq c 9
     have e13 : ((c.toNat : Int) == 13) = decide (c = 13) := u8_eq c 13
     have e35 : ((c.toNat : Int) == 35) = decide (c = 35) := u8_eq c 35
     cases hbl : X.blank c with
     | true =>
       have HS2 : Hid (X.scan 0 (bts s) = (X.scan (i + 1) ((bts s).drop (i + 1))).map fun m => l ++ m) := hide (by
         rw [HS.out, HD.out, X.scan_blank _ _ hbl, HU.out])
       have hz : decide (c = 32) = true ∨ (decide (c = 32) = false ∧ decide (c = 9) = true) ∨ (decide (c = 32) = false ∧ decide (c = 9) = false ∧ decide (c = 13) = true) := by
         unfold X.blank at hbl
         by_cases h1 : c = 32
         · exact .inl (decide_eq_true h1)
         · by_cases h2 : c = 9
           · exact .inr (.inl ⟨decide_eq_false h1, decide_eq_true h2⟩)
           · refine .inr (.inr ⟨decide_eq_false h1, decide_eq_false h2, decide_eq_true ?_⟩)
             simpa [h1, h2] using hbl
       clear HS HD HU hbl e35
       rcases hz with h1 | ⟨h1, h2⟩ | ⟨h1, h2, h3⟩
       · rw [h1] at e32
         clear h1 e9 e13
         go_wp2
         go_roundw
         case rel => exact ⟨l, i + 1, by go_num, by omega, by omega, hv, HS2, hb⟩
         case measure => simp [intOf]; omega
       · rw [h1] at e32
         rw [h2] at e9
         clear h1 h2 e13
         go_wp2
         go_roundw
         case rel => exact ⟨l, i + 1, by go_num, by omega, by omega, hv, HS2, hb⟩
         case measure => simp [intOf]; omega
       · rw [h1] at e32
         rw [h2] at e9
         rw [h3] at e13
         clear h1 h2 h3
         go_wp2
         go_roundw
         case rel => exact ⟨l, i + 1, by go_num, by omega, by omega, hv, HS2, hb⟩
         case measure => simp [intOf]; omega
     | false =>
       have hz : decide (c = 32) = false ∧ decide (c = 9) = false ∧ decide (c = 13) = false := by
         unfold X.blank at hbl
         simp only [Bool.or_eq_false_iff, beq_eq_false_iff_ne] at hbl
         exact ⟨decide_eq_false hbl.1.1, decide_eq_false hbl.1.2, decide_eq_false hbl.2⟩
       rw [hz.1] at e32
       rw [hz.2.1] at e9
       rw [hz.2.2] at e13
       clear hz
       by_cases h35 : c = 35
       · rw [decide_eq_true h35] at e35
         have HS2 : Hid (X.scan 0 (bts s) = (X.scan (i + (((bts s).drop i).takeWhile (· ≠ 10)).length) ((bts s).drop (i + (((bts s).drop i).takeWhile (· ≠ 10)).length))).map fun m => l ++ m) := hide (by
           rw [← List.drop_drop, HS.out, HD.out, h35, X.scan_com])
         have hm1 : 1 ≤ (((bts s).drop i).takeWhile (· ≠ 10)).length := by
           rw [HD.out, h35]
           exact X.com_pos u
         clear HS HD HU hbl h35
         go_wp2
         go_loopw [6] (fun u2 wr2 => ∃ j n : Nat, u2 = .int .i64 (j : Int) ∧ j ≤ i + n ∧ i + n ≤ j ∧ j ≤ s.size ∧ Hid (∀ x ∈ ((bts s).drop i).take n, (fun y : UInt8 => decide (y ≠ 10)) x = true) ∧ wr2 = wr) (fun u2 _ => s.size - (intOf u2).toNat)
         case atStart => exact ⟨i, 0, rfl, by omega, by omega, by omega, hide (by simp), by first | rfl | trivial⟩
         case round =>
           obtain ⟨j, n, rfl, hj1, hj2, hjs, HA, rfl⟩ := hrel
           by_cases hjl : j < s.size
           · have hl2 : i + n < (bts s).length := by rw [bts_len]; omega
             obtain ⟨d, hd⟩ : ∃ d, (bts s)[i + n]'hl2 = d := ⟨_, rfl⟩
             have hy2 : ∀ h, s[j]'h = d := fun h => (idx_at (s := s) hl2 (j : Int) (by omega) h).trans hd
             have HT := hide (take_snoc hl2)
             rw [hd] at HT
             have n10 : ((d.toNat : Int) != 10) = !decide (d = 10) := by
               have e := u8_eq d 10
               simp only [bne]
               rw [← e]
               rfl
             by_cases h10 : d = 10
             · have HE : Hid ((((bts s).drop i).takeWhile (· ≠ 10)).length = n) := hide (tw_len HA.out (.inr ⟨by rw [List.length_drop]; omega, by simp [hd, h10]⟩))
               rw [decide_eq_true h10] at n10
               clear HA HT hd h10
               rw [HE.out] at HS2 hm1
               go_wp2
               go_roundw
               case rel => exact ⟨l, i + n, by go_num, by omega, by omega, hv, HS2, hb⟩
               case measure => simp [intOf]; omega
             · rw [decide_eq_false h10] at n10
               have HA2 : Hid (∀ x ∈ ((bts s).drop i).take (n + 1), (fun y : UInt8 => decide (y ≠ 10)) x = true) := hide (fun x hx => by
                 rw [HT.out] at hx
                 exact (List.mem_append.1 hx).elim (HA.out x) (fun h => by simp at h; rw [h]; simp [h10]))
               clear HA HT hd h10
               go_wp2
               go_roundw
               case rel => exact ⟨j + 1, n + 1, by go_num, by omega, by omega, by omega, HA2, by first | rfl | trivial⟩
               case measure => simp [intOf]; omega
           · have HE : Hid ((((bts s).drop i).takeWhile (· ≠ 10)).length = n) := hide (tw_len HA.out (.inl (by rw [List.length_drop, bts_len]; omega)))
             clear HA
             rw [HE.out] at HS2 hm1
             go_wp2
             go_roundw
             case rel => exact ⟨l, i + n, by go_num, by omega, by omega, hv, HS2, hb⟩
             case measure => simp [intOf]; omega
       · rw [decide_eq_false h35] at e35
         have hN := nextR_any s i hs hlt wr
         rw [HD.out] at hN
         cases hnx : X.nextL (c :: u) with
         | none =>
           have HR : Hid (X.scan 0 (bts s) = .error i) := hide (by
             rw [HS.out, HD.out, X.scan_none _ _ hbl h35 hnx]
             rfl)
           rw [hnx] at hN
           clear HS HD HU hbl h35 hnx
           go_wp2_with fail
           refine hN.mono ?_
           rintro e w1 ⟨⟨t, n, rfl, _, hn0⟩, hb1⟩
           obtain rfl := hn0 rfl
           have hbb := nx hb hb1
           clear hN hn0
           unfold tokV
           go_wp2
           go_ret3
           exact ⟨.inr ⟨i, HR.out, rfl⟩, hbb.alloc hbb.size _⟩
         | some p =>
           obtain ⟨t, n⟩ := p
           have hsz := X.next_size hnx
           have HR : Hid (X.scan 0 (bts s) = (X.scan (i + n) ((bts s).drop (i + n))).map fun m => (l ++ [(t, i)]) ++ m) := hide (by
             rw [HS.out, HD.out, X.scan_some _ _ hbl h35 hnx, emap_emap, ← HD.out, List.drop_drop]
             congr 1
             funext m
             simp)
           have hn1 := hsz.1
           have hn2 : i + n ≤ s.size := by
             have h2 := hsz.2
             rw [← HD.out, List.length_drop, bts_len] at h2
             omega
           rw [hnx] at hN
           clear HS HD HU hbl h35 hnx hsz
           go_wp2_with fail
           refine hN.mono ?_
           rintro e w1 ⟨⟨t1, n1, rfl, hA, _⟩, hb1⟩
           obtain ⟨rfl, rfl⟩ := hA _ rfl
           have hbb := nx hb hb1
           have hv1 := hv.later hb1
           have nz : ((n1 : Int) == 0) = false := by rw [beq_eq_false_iff_ne]; omega
           clear hN hA hb hb1 hv
           unfold tokV
           go_wp2_with (first
             | (at_builtin; refine wpl_appK rfl _ _ rfl w.heap.size _ l (t1, i) (w1.heap.size + 1) rfl rfl (hv1.later (two_below w1 _ _)) (by have := hbb.size; simp; omega) (two_new w1 _ _) (by omega) ?_; intro v3 w3 hv3 hb3; have hB3 : Below w.heap.size w w3 := (nx hbb (two_below w1 _ _)).trans hb3))
           go_roundw
           case rel => exact ⟨l ++ [(t1, i)], i + n1, by go_num, by omega, by simp; omega, hv3, HR, hB3⟩
           case measure => simp [intOf]; omega
   · obtain rfl : i = s.size := by omega
     have HR : Hid (X.scan 0 (bts s) = .ok (l ++ [(⟨0, [], 0⟩, s.size)])) := hide (by
       rw [HS.out, ← bts_len, List.drop_length]
       rfl)
     clear HS
     go_wp2_with (first
       | (at_builtin; refine wpl_appK rfl _ _ rfl w.heap.size _ l (⟨0, [], 0⟩, s.size) wr.heap.size rfl rfl (hv.later (al1 _ _)) (by have := hb.size; simp; omega) (heap_alloc_new wr _) (by omega) ?_; intro v3 w3 hv3 hb3; have hB3 : Below w.heap.size w w3 := (hb.alloc hb.size _).trans hb3))
     go_ret3
     exact ⟨.inl ⟨_, _, HR.out, rfl, hv3⟩, hB3⟩
end Go.Proofs.YtamhjnemmdcniaaGreatDoor
