/- Joined: JD. -/
import Derived.Test.YtgngaldoemopjaaGreatDoorFJA
import Derived.Lib.Strings
import Derived.Lib.Slices
import Derived.Lib.Walk
import Derived.Lib.Bytealg
import Derived.Shelf.Strings.BuilderK
import Derived.Shelf.Strings.Builder2
import Derived.Shelf.Strconv.Clone
import Derived.Shelf.Spec.DecodeRune
import Derived.Test.YtgngaldoemopjaaGreatDoorProg
import Derived.OrdersHeld
import Derived.Below
import Derived.KernelRfl
import Derived.BigCall
import Derived.Deep.MidRow
namespace Go.Proofs.YtgngaldoemopjaaGreatDoor
open Go.RowKit
set_option maxRecDepth 100000 in
set_option maxHeartbeats 4000000 in
theorem run_alnum (s : ByteArray) (hs : s.size ≤ 100000) (w : World) : Calls Tryz.prog 166 #[.string s, .func (.func 167) #[] #[]] w fun e w' => e = .returned (.int .i64 (((bts s).takeWhile X.isLD).length : Int)) ∧ w' = w := by
 go_enter Tryz.func166, Tryz.ntmps166
 go_wp2
 go_loopw [5] (fun u wr => ∃ n : Nat, u = .int .i64 (n : Int) ∧ n ≤ s.size ∧ Hid (∀ c ∈ (bts s).take n, X.isLD c = true) ∧ wr = w) (fun u _ => s.size - (intOf u).toNat)
 case atStart => exact ⟨0, rfl, by omega, hide (fun c hc => by simp at hc), by first | rfl | trivial⟩
 case round =>
   obtain ⟨n, rfl, hn, HA, rfl⟩ := hrel
   by_cases hlt : n < s.size
   · have hl : n < (bts s).length := hlt
     have hx := fun j hj h => idx_at (s := s) hl j hj h
     have HT := hide (take_snoc0 hl)
     have HE : Hid (X.isLD (bts s)[n] = false → ((bts s).takeWhile X.isLD).length = n) := hide (fun h => tw_len HA.out (.inr ⟨hl, h⟩))
     generalize (bts s)[n] = c at *
     have hx2 : ∀ h, s[n]'h = c := fun h => hx (n : Int) rfl h
     clear hx
     have hdg := alnum_any c wr
     cases hd : X.isLD c with
     | true =>
       rw [hd] at hdg
       go_wp2_with fail
       refine hdg.mono ?_
       rintro e w1 ⟨rfl, rfl⟩
       go_wp2
       go_roundw
       case rel => exact ⟨n + 1, by go_num, by omega, hide (fun x hx => by rw [HT.out] at hx; exact (List.mem_append.1 hx).elim (HA.out x) (fun h => by simp at h; rw [h]; exact hd)), by first | rfl | trivial⟩
       case measure => simp [intOf]; omega
     | false =>
       rw [hd] at hdg
       have HE2 := hide (HE.out hd)
       clear HE HT HA
       go_wp2_with fail
       refine hdg.mono ?_
       rintro e w1 ⟨rfl, rfl⟩
       go_wp2
       go_ret
       exact ⟨by rw [HE2.out]; rfl, rfl⟩
   · have HE : Hid (((bts s).takeWhile X.isLD).length = n) := hide (tw_len HA.out (.inl (by rw [bts_len]; omega)))
     clear HA
     go_wp2
     go_ret
     exact ⟨by rw [HE.out]; rfl, rfl⟩
set_option maxRecDepth 100000 in
set_option maxHeartbeats 4000000 in
theorem run_digit (s : ByteArray) (hs : s.size ≤ 100000) (w : World) : Calls Tryz.prog 166 #[.string s, .func (.func 139) #[] #[]] w fun e w' => e = .returned (.int .i64 (((bts s).takeWhile X.isD).length : Int)) ∧ w' = w := by
 go_enter Tryz.func166, Tryz.ntmps166
 go_wp2
 go_loopw [5] (fun u wr => ∃ n : Nat, u = .int .i64 (n : Int) ∧ n ≤ s.size ∧ Hid (∀ c ∈ (bts s).take n, X.isD c = true) ∧ wr = w) (fun u _ => s.size - (intOf u).toNat)
 case atStart => exact ⟨0, rfl, by omega, hide (fun c hc => by simp at hc), by first | rfl | trivial⟩
 case round =>
   obtain ⟨n, rfl, hn, HA, rfl⟩ := hrel
   by_cases hlt : n < s.size
   · have hl : n < (bts s).length := hlt
     have hx := fun j hj h => idx_at (s := s) hl j hj h
     have HT := hide (take_snoc0 hl)
     have HE : Hid (X.isD (bts s)[n] = false → ((bts s).takeWhile X.isD).length = n) := hide (fun h => tw_len HA.out (.inr ⟨hl, h⟩))
     generalize (bts s)[n] = c at *
     have hx2 : ∀ h, s[n]'h = c := fun h => hx (n : Int) rfl h
     clear hx
     have hdg := digit_any c wr
     cases hd : X.isD c with
     | true =>
       rw [hd] at hdg
       go_wp2_with fail
       refine hdg.mono ?_
       rintro e w1 ⟨rfl, rfl⟩
       go_wp2
       go_roundw
       case rel => exact ⟨n + 1, by go_num, by omega, hide (fun x hx => by rw [HT.out] at hx; exact (List.mem_append.1 hx).elim (HA.out x) (fun h => by simp at h; rw [h]; exact hd)), by first | rfl | trivial⟩
       case measure => simp [intOf]; omega
     | false =>
       rw [hd] at hdg
       have HE2 := hide (HE.out hd)
       clear HE HT HA
       go_wp2_with fail
       refine hdg.mono ?_
       rintro e w1 ⟨rfl, rfl⟩
       go_wp2
       go_ret
       exact ⟨by rw [HE2.out]; rfl, rfl⟩
   · have HE : Hid (((bts s).takeWhile X.isD).length = n) := hide (tw_len HA.out (.inl (by rw [bts_len]; omega)))
     clear HA
     go_wp2
     go_ret
     exact ⟨by rw [HE.out]; rfl, rfl⟩
set_option maxRecDepth 100000 in
set_option maxHeartbeats 4000000 in
theorem run_ident (s : ByteArray) (hs : s.size ≤ 100000) (w : World) : Calls Tryz.prog 166 #[.string s, .func (.func 169) #[] #[]] w fun e w' => e = .returned (.int .i64 (((bts s).takeWhile X.isI).length : Int)) ∧ w' = w := by
 go_enter Tryz.func166, Tryz.ntmps166
 go_wp2
 go_loopw [5] (fun u wr => ∃ n : Nat, u = .int .i64 (n : Int) ∧ n ≤ s.size ∧ Hid (∀ c ∈ (bts s).take n, X.isI c = true) ∧ wr = w) (fun u _ => s.size - (intOf u).toNat)
 case atStart => exact ⟨0, rfl, by omega, hide (fun c hc => by simp at hc), by first | rfl | trivial⟩
 case round =>
   obtain ⟨n, rfl, hn, HA, rfl⟩ := hrel
   by_cases hlt : n < s.size
   · have hl : n < (bts s).length := hlt
     have hx := fun j hj h => idx_at (s := s) hl j hj h
     have HT := hide (take_snoc0 hl)
     have HE : Hid (X.isI (bts s)[n] = false → ((bts s).takeWhile X.isI).length = n) := hide (fun h => tw_len HA.out (.inr ⟨hl, h⟩))
     generalize (bts s)[n] = c at *
     have hx2 : ∀ h, s[n]'h = c := fun h => hx (n : Int) rfl h
     clear hx
     have hdg := ident_any c wr
     cases hd : X.isI c with
     | true =>
       rw [hd] at hdg
       go_wp2_with fail
       refine hdg.mono ?_
       rintro e w1 ⟨rfl, rfl⟩
       go_wp2
       go_roundw
       case rel => exact ⟨n + 1, by go_num, by omega, hide (fun x hx => by rw [HT.out] at hx; exact (List.mem_append.1 hx).elim (HA.out x) (fun h => by simp at h; rw [h]; exact hd)), by first | rfl | trivial⟩
       case measure => simp [intOf]; omega
     | false =>
       rw [hd] at hdg
       have HE2 := hide (HE.out hd)
       clear HE HT HA
       go_wp2_with fail
       refine hdg.mono ?_
       rintro e w1 ⟨rfl, rfl⟩
       go_wp2
       go_ret
       exact ⟨by rw [HE2.out]; rfl, rfl⟩
   · have HE : Hid (((bts s).takeWhile X.isI).length = n) := hide (tw_len HA.out (.inl (by rw [bts_len]; omega)))
     clear HA
     go_wp2
     go_ret
     exact ⟨by rw [HE.out]; rfl, rfl⟩
set_option maxRecDepth 100000 in
set_option maxHeartbeats 4000000 in
theorem run_letter (s : ByteArray) (hs : s.size ≤ 100000) (w : World) : Calls Tryz.prog 166 #[.string s, .func (.func 141) #[] #[]] w fun e w' => e = .returned (.int .i64 (((bts s).takeWhile X.isL).length : Int)) ∧ w' = w := by
 go_enter Tryz.func166, Tryz.ntmps166
 go_wp2
 go_loopw [5] (fun u wr => ∃ n : Nat, u = .int .i64 (n : Int) ∧ n ≤ s.size ∧ Hid (∀ c ∈ (bts s).take n, X.isL c = true) ∧ wr = w) (fun u _ => s.size - (intOf u).toNat)
 case atStart => exact ⟨0, rfl, by omega, hide (fun c hc => by simp at hc), by first | rfl | trivial⟩
 case round =>
   obtain ⟨n, rfl, hn, HA, rfl⟩ := hrel
   by_cases hlt : n < s.size
   · have hl : n < (bts s).length := hlt
     have hx := fun j hj h => idx_at (s := s) hl j hj h
     have HT := hide (take_snoc0 hl)
     have HE : Hid (X.isL (bts s)[n] = false → ((bts s).takeWhile X.isL).length = n) := hide (fun h => tw_len HA.out (.inr ⟨hl, h⟩))
     generalize (bts s)[n] = c at *
     have hx2 : ∀ h, s[n]'h = c := fun h => hx (n : Int) rfl h
     clear hx
     have hdg := letter_any c wr
     cases hd : X.isL c with
     | true =>
       rw [hd] at hdg
       go_wp2_with fail
       refine hdg.mono ?_
       rintro e w1 ⟨rfl, rfl⟩
       go_wp2
       go_roundw
       case rel => exact ⟨n + 1, by go_num, by omega, hide (fun x hx => by rw [HT.out] at hx; exact (List.mem_append.1 hx).elim (HA.out x) (fun h => by simp at h; rw [h]; exact hd)), by first | rfl | trivial⟩
       case measure => simp [intOf]; omega
     | false =>
       rw [hd] at hdg
       have HE2 := hide (HE.out hd)
       clear HE HT HA
       go_wp2_with fail
       refine hdg.mono ?_
       rintro e w1 ⟨rfl, rfl⟩
       go_wp2
       go_ret
       exact ⟨by rw [HE2.out]; rfl, rfl⟩
   · have HE : Hid (((bts s).takeWhile X.isL).length = n) := hide (tw_len HA.out (.inl (by rw [bts_len]; omega)))
     clear HA
     go_wp2
     go_ret
     exact ⟨by rw [HE.out]; rfl, rfl⟩
set_option maxRecDepth 100000 in
set_option maxHeartbeats 4000000 in
theorem run_hex (s : ByteArray) (hs : s.size ≤ 100000) (w : World) : Calls Tryz.prog 166 #[.string s, .func (.func 186) #[] #[]] w fun e w' => e = .returned (.int .i64 (((bts s).takeWhile X.isH).length : Int)) ∧ w' = w := by
 go_enter Tryz.func166, Tryz.ntmps166
 go_wp2
 go_loopw [5] (fun u wr => ∃ n : Nat, u = .int .i64 (n : Int) ∧ n ≤ s.size ∧ Hid (∀ c ∈ (bts s).take n, X.isH c = true) ∧ wr = w) (fun u _ => s.size - (intOf u).toNat)
 case atStart => exact ⟨0, rfl, by omega, hide (fun c hc => by simp at hc), by first | rfl | trivial⟩
 case round =>
   obtain ⟨n, rfl, hn, HA, rfl⟩ := hrel
   by_cases hlt : n < s.size
   · have hl : n < (bts s).length := hlt
     have hx := fun j hj h => idx_at (s := s) hl j hj h
     have HT := hide (take_snoc0 hl)
     have HE : Hid (X.isH (bts s)[n] = false → ((bts s).takeWhile X.isH).length = n) := hide (fun h => tw_len HA.out (.inr ⟨hl, h⟩))
     generalize (bts s)[n] = c at *
     have hx2 : ∀ h, s[n]'h = c := fun h => hx (n : Int) rfl h
     clear hx
     have hdg := hex_any c wr
     cases hd : X.isH c with
     | true =>
       rw [hd] at hdg
       go_wp2_with fail
       refine hdg.mono ?_
       rintro e w1 ⟨rfl, rfl⟩
       go_wp2
       go_roundw
       case rel => exact ⟨n + 1, by go_num, by omega, hide (fun x hx => by rw [HT.out] at hx; exact (List.mem_append.1 hx).elim (HA.out x) (fun h => by simp at h; rw [h]; exact hd)), by first | rfl | trivial⟩
       case measure => simp [intOf]; omega
     | false =>
       rw [hd] at hdg
       have HE2 := hide (HE.out hd)
       clear HE HT HA
       go_wp2_with fail
       refine hdg.mono ?_
       rintro e w1 ⟨rfl, rfl⟩
       go_wp2
       go_ret
       exact ⟨by rw [HE2.out]; rfl, rfl⟩
   · have HE : Hid (((bts s).takeWhile X.isH).length = n) := hide (tw_len HA.out (.inl (by rw [bts_len]; omega)))
     clear HA
     go_wp2
     go_ret
     exact ⟨by rw [HE.out]; rfl, rfl⟩
end Go.Proofs.YtgngaldoemopjaaGreatDoor
namespace Go.Proofs.YtgngaldoemopjaaGreatDoor
open Go.RowKit
set_option maxHeartbeats 1000000 in
theorem pre_in (s p : ByteArray) (w : World) : Calls Tryz.prog 188 #[.string s, .string p] w fun e w' => e = .returned (.bool (Lib.hasPrefix (bts s) (bts p))) ∧ w' = w := by
 have hp : Lib.hasPrefix (bts s) (bts p) = (decide (p.size ≤ s.size) && ((s.extract 0 p.size).toList == p.toList)) := (Lib.hasPrefix_raw s p).symm
 rw [hp]
 go_enter Tryz.func188, Tryz.ntmps188
 go_wp2
 · rename_i h
   go_ret
   refine ⟨?_, rfl⟩
   show Ending.returned (Value.bool ((s.extract 0 p.size).toList == p.toList)) = _
   rw [decide_eq_true h, Bool.true_and]
 · rename_i h
   go_ret
   refine ⟨?_, rfl⟩
   show Ending.returned (Value.bool false) = _
   rw [decide_eq_false (by omega), Bool.false_and]
theorem pre_any (s p : ByteArray) (w : World) : Calls Tryz.prog 175 #[.string s, .string p] w fun e w' => e = .returned (.bool (Lib.hasPrefix (bts s) (bts p))) ∧ w' = w := by
 go_enter Tryz.func175, Tryz.ntmps175
 go_wp2_with fail
 refine (pre_in s p w).mono ?_
 rintro e w' ⟨rfl, rfl⟩
 go_wp2
 go_ret
 exact ⟨rfl, rfl⟩
theorem cutp_in (s p : ByteArray) (w : World) : Calls Tryz.prog 185 #[.string s, .string p] w fun e w' => e = .returned (.tuple #[.string (if Lib.hasPrefix (bts s) (bts p) then s.extract p.size s.size else s), .bool (Lib.hasPrefix (bts s) (bts p))]) ∧ w' = w := by
 have hi := pre_in s p w
 have hle : Lib.hasPrefix (bts s) (bts p) = true → p.size ≤ s.size := fun h => by
   have := Lib.hasPrefix_raw s p
   have e : (decide (p.size ≤ s.size) && ((s.extract 0 p.size).toList == p.toList)) = true := this.trans h
   simp only [Bool.and_eq_true, decide_eq_true_eq] at e
   exact e.1
 generalize Lib.hasPrefix (bts s) (bts p) = b at *
 cases b with
 | true =>
   have h := hle rfl
   clear hle
   go_enter Tryz.func185, Tryz.ntmps185
   go_wp2_with fail
   refine hi.mono ?_
   rintro e w' ⟨rfl, rfl⟩
   go_wp2
   go_ret2
   exact ⟨rfl, rfl⟩
 | false =>
   clear hle
   go_enter Tryz.func185, Tryz.ntmps185
   go_wp2_with fail
   refine hi.mono ?_
   rintro e w' ⟨rfl, rfl⟩
   go_wp2
   go_ret2
   exact ⟨rfl, rfl⟩
theorem cutp_any (s p : ByteArray) (w : World) : Calls Tryz.prog 171 #[.string s, .string p] w fun e w' => e = .returned (.tuple #[.string (if Lib.hasPrefix (bts s) (bts p) then s.extract p.size s.size else s), .bool (Lib.hasPrefix (bts s) (bts p))]) ∧ w' = w := by
 have hi := cutp_in s p w
 generalize Lib.hasPrefix (bts s) (bts p) = b at *
 generalize (if b then s.extract p.size s.size else s) = t at *
 go_enter Tryz.func171, Tryz.ntmps171
 go_wp2_with fail
 refine hi.mono ?_
 rintro e w' ⟨rfl, rfl⟩
 go_wp2
 go_ret2
 exact ⟨rfl, rfl⟩
set_option maxHeartbeats 1000000 in
set_option maxRecDepth 100000 in
theorem idxb_in (s : ByteArray) (c : Int) (w : World) : Calls Tryz.prog 183 #[.string s, .int .u8 c] w fun e w' => e = .returned (.int .i64 (Lib.indexByte (bts s) c.toNat.toUInt8)) ∧ w' = w := by
 go_enter Tryz.func183, Tryz.ntmps183
 go_wp2
 rw [run_callFunc_extern Tryz.func207 (by kernel_rfl) (by kernel_rfl) (by kernel_rfl) (e := Extern.BytealgIndexByte.indexByte) (by kernel_rfl), Lib.run_indexByteString]
 simp only [Result.andThen]
 rw [Oper.upon_value]
 go_wp2
 go_ret
 exact ⟨rfl, rfl⟩
theorem idxb_any (s : ByteArray) (c : Int) (w : World) : Calls Tryz.prog 165 #[.string s, .int .u8 c] w fun e w' => e = .returned (.int .i64 (Lib.indexByte (bts s) c.toNat.toUInt8)) ∧ w' = w := by
 have hi := idxb_in s c w
 generalize Lib.indexByte (bts s) c.toNat.toUInt8 = n at *
 go_enter Tryz.func165, Tryz.ntmps165
 go_wp2_with fail
 refine hi.mono ?_
 rintro e w' ⟨rfl, rfl⟩
 go_wp2
 go_ret
 exact ⟨rfl, rfl⟩
end Go.Proofs.YtgngaldoemopjaaGreatDoor
namespace Go.Proofs.YtgngaldoemopjaaGreatDoor
open Go.RowKit
theorem idx_tw (c : UInt8) : ∀ (l : List UInt8), (Lib.indexByte l c = -1 ∧ (l.takeWhile (· ≠ c)).length = l.length) ∨ (Lib.indexByte l c = ((l.takeWhile (· ≠ c)).length : Int))
 | [] => .inl ⟨rfl, rfl⟩
 | b :: l => by
   by_cases h : b = c
   · refine .inr ?_
     rw [List.takeWhile_cons_of_neg (by simp [h])]
     simp [Lib.indexByte, h]
   · rw [List.takeWhile_cons_of_pos (by simp [h])]
     have hb : (b == c) = false := by simp [h]
     rcases idx_tw c l with ⟨h1, h2⟩ | h1
     · refine .inl ⟨?_, by rw [List.length_cons, List.length_cons, h2]⟩
       simp [Lib.indexByte, hb, h1]
     · refine .inr ?_
       have hn : (Lib.indexByte l c == -1) = false := by rw [h1, beq_eq_false_iff_ne]; omega
       simp only [Lib.indexByte, hb, hn, Bool.false_eq_true, if_false]
       rw [h1, List.length_cons]
       omega
set_option maxHeartbeats 1000000 in
theorem line_any (s : ByteArray) (w : World) : Calls Tryz.prog 137 #[.string s] w fun e w' => e = .returned (.int .i64 (((bts s).takeWhile (· ≠ 10)).length : Int)) ∧ w' = w := by
 have hi := idxb_any s 10 w
 have hx := idx_tw 10 (bts s)
 have hl := bts_len s
 have e10 : (10 : Int).toNat.toUInt8 = 10 := rfl
 rw [e10] at hi
 have hle := X.takeWhile_le (fun x : UInt8 => decide (x ≠ 10)) (bts s)
 obtain ⟨n, hn⟩ : ∃ n, ((bts s).takeWhile (· ≠ 10)).length = n := ⟨_, rfl⟩
 rw [hn] at hx hle
 have HN := hide hn
 clear hn
 rcases hx with ⟨h1, h2⟩ | h1
 · rw [h1] at hi
   have HE : Hid (((bts s).takeWhile (· ≠ 10)).length = s.size) := hide (by rw [HN.out, h2, hl])
   clear HN h1 h2 hl
   go_enter Tryz.func137, Tryz.ntmps137
   go_wp2_with fail
   refine hi.mono ?_
   rintro e w' ⟨rfl, rfl⟩
   go_wp2
   go_ret
   exact ⟨by rw [HE.out]; rfl, rfl⟩
 · rw [h1] at hi
   clear h1 hl
   go_enter Tryz.func137, Tryz.ntmps137
   go_wp2_with fail
   refine hi.mono ?_
   rintro e w' ⟨rfl, rfl⟩
   go_wp2
   go_ret
   exact ⟨by rw [HN.out]; rfl, rfl⟩
theorem bts_extract (s : ByteArray) (i : Nat) : bts (s.extract i s.size) = (bts s).drop i := by
 unfold bts
 rw [← Lib.toList_data, Lib.extract_toList]
 exact List.take_of_length_le (by rw [List.length_drop, ← Lib.size_eq]; exact Nat.le_refl _)
theorem extract_size (s : ByteArray) (i : Nat) : (s.extract i s.size).size = s.size - i := by
 have := congrArg List.length (bts_extract s i)
 rw [bts_len, List.length_drop, bts_len] at this
 exact this
def Beh (s : ByteArray) (i j : Nat) : Prop := i ≤ j ∧ j ≤ s.size ∧ X.scan i ((bts s).drop i) = X.scan j ((bts s).drop j) ∧ (j < s.size → ∃ c u, (bts s).drop j = c :: u ∧ X.blank c = false ∧ c ≠ 35)
set_option maxRecDepth 100000 in
set_option maxHeartbeats 4000000 in
theorem behind_any (s : ByteArray) (hs : s.size ≤ 100000) (i : Nat) (hi : i ≤ s.size) (w : World) : Calls Tryz.prog 109 #[.string s, .int .i64 (i : Int)] w fun e w' => (∃ j : Nat, e = .returned (.int .i64 (j : Int)) ∧ Beh s i j) ∧ w' = w := by
 go_enter Tryz.func109, Tryz.ntmps109
 go_wp2
 go_loopw [1] (fun u wr => ∃ j : Nat, u = .int .i64 (j : Int) ∧ i ≤ j ∧ j ≤ s.size ∧ Hid (X.scan i ((bts s).drop i) = X.scan j ((bts s).drop j)) ∧ wr = w) (fun u _ => s.size - (intOf u).toNat)
 case atStart => exact ⟨i, rfl, by omega, hi, hide rfl, by first | rfl | trivial⟩
 case round =>
   obtain ⟨j, rfl, hij, hj, HS, rfl⟩ := hrel
   by_cases hlt : j < s.size
   · have hl : j < (bts s).length := hlt
     obtain ⟨c, hc⟩ : ∃ c, (bts s)[j]'hl = c := ⟨_, rfl⟩
     obtain ⟨u, hu⟩ : ∃ u, (bts s).drop (j + 1) = u := ⟨_, rfl⟩
     have hx2 : ∀ h, s[j]'h = c := fun h => (idx_at (s := s) hl (j : Int) rfl h).trans hc
     have hdr := List.drop_eq_getElem_cons hl
     rw [hc, hu] at hdr
     have HD := hide hdr
     have HU := hide hu
     clear hdr hc hu
     have e32 : ((c.toNat : Int) == 32) = decide (c = 32) := u8_eq c 32
     have e9 : ((c.toNat : Int) == 9) = decide (c = 9) := u8_eq c 9
     have e13 : ((c.toNat : Int) == 13) = decide (c = 13) := u8_eq c 13
     have e35 : ((c.toNat : Int) == 35) = decide (c = 35) := u8_eq c 35
     cases hbl : X.blank c with
     | true =>
       have HS2 : Hid (X.scan i ((bts s).drop i) = X.scan (j + 1) ((bts s).drop (j + 1))) := hide (by
         rw [HS.out, HD.out, X.scan_blank _ _ hbl, HU.out])
       have hz : decide (c = 32) = true ∨ (decide (c = 32) = false ∧ decide (c = 9) = true) ∨ (decide (c = 32) = false ∧ decide (c = 9) = false ∧ decide (c = 13) = true) := by
         unfold X.blank at hbl
         by_cases h1 : c = 32
         · exact .inl (decide_eq_true h1)
         · by_cases h2 : c = 9
           · exact .inr (.inl ⟨decide_eq_false h1, decide_eq_true h2⟩)
           · refine .inr (.inr ⟨decide_eq_false h1, decide_eq_false h2, decide_eq_true ?_⟩)
             simpa [h1, h2] using hbl
       clear HS HD HU hbl e35
       rcases hz with h1 | ⟨h1, h2⟩ | ⟨h1, h2, h3⟩
       · rw [h1] at e32
         clear h1 e9 e13
         go_wp2
         go_roundw
         case rel => exact ⟨j + 1, by go_num, by omega, by omega, HS2, by first | rfl | trivial⟩
         case measure => simp [intOf]; omega
       · rw [h1] at e32
         rw [h2] at e9
         clear h1 h2 e13
         go_wp2
         go_roundw
         case rel => exact ⟨j + 1, by go_num, by omega, by omega, HS2, by first | rfl | trivial⟩
         case measure => simp [intOf]; omega
       · rw [h1] at e32
         rw [h2] at e9
         rw [h3] at e13
         clear h1 h2 h3
         go_wp2
         go_roundw
         case rel => exact ⟨j + 1, by go_num, by omega, by omega, HS2, by first | rfl | trivial⟩
         case measure => simp [intOf]; omega
     | false =>
       have hz : decide (c = 32) = false ∧ decide (c = 9) = false ∧ decide (c = 13) = false := by
         unfold X.blank at hbl
         simp only [Bool.or_eq_false_iff, beq_eq_false_iff_ne] at hbl
         exact ⟨decide_eq_false hbl.1.1, decide_eq_false hbl.1.2, decide_eq_false hbl.2⟩
       rw [hz.1] at e32
       rw [hz.2.1] at e9
       rw [hz.2.2] at e13
       clear hz
       by_cases h35 : c = 35
       · rw [decide_eq_true h35] at e35
         have hL := line_any (s.extract j s.size) wr
         rw [bts_extract s j] at hL
         have HS2 : Hid (X.scan i ((bts s).drop i) = X.scan (j + (((bts s).drop j).takeWhile (· ≠ 10)).length) ((bts s).drop (j + (((bts s).drop j).takeWhile (· ≠ 10)).length))) := hide (by
           rw [← List.drop_drop, HS.out, HD.out, h35, X.scan_com])
         have hm1 : 1 ≤ (((bts s).drop j).takeWhile (· ≠ 10)).length := by
           rw [HD.out, h35]
           exact X.com_pos u
         have hm2 := X.takeWhile_le (fun x : UInt8 => decide (x ≠ 10)) ((bts s).drop j)
         rw [List.length_drop, bts_len] at hm2
         clear HS HD HU hbl h35
         generalize (((bts s).drop j).takeWhile (· ≠ 10)).length = n at *
         go_wp2_with fail
         refine hL.mono ?_
         rintro e w1 ⟨rfl, rfl⟩
         go_wp2
         go_roundw
         case rel => exact ⟨j + n, by go_num, by omega, by omega, HS2, by first | rfl | trivial⟩
         case measure => simp [intOf]; omega
       · rw [decide_eq_false h35] at e35
         have HB : Hid (Beh s i j) := hide ⟨hij, hj, HS.out, fun _ => ⟨c, u, HD.out, hbl, h35⟩⟩
         clear HS HD HU hbl h35
         go_wp2
         go_ret
         exact ⟨⟨j, rfl, HB.out⟩, rfl⟩
   · have HB : Hid (Beh s i j) := hide ⟨hij, hj, HS.out, fun h => absurd h hlt⟩
     clear HS
     go_wp2
     go_ret
     exact ⟨⟨j, rfl, HB.out⟩, rfl⟩
end Go.Proofs.YtgngaldoemopjaaGreatDoor
namespace Go.Proofs.YtgngaldoemopjaaGreatDoor
open Go.Shelf Go.RowKit
def laysM316_ren : Go.Shelf.Ren := ⟨fun | 316 => 94 | n => n, fun | 9 => 9 | 3 => 3 | 4 => 4 | 37 => 63 | 0 => 0 | 127 => 202 | 5 => 5 | n => n, fun | n => n⟩
theorem laysM316 : Go.Proofs.LaysM.n316 Tryz.prog laysM316_ren := {
 mixed := by kernel_rfl
 f316 := Tryz.func94.trans (congrArg some (by kernel_rfl))
 t0 := Tryz.underlying0
 a0 := Tryz.isAgg0
 z0 := Tryz.sizeOf0
 v0 := Tryz.zeroValue0
 t3 := Tryz.underlying3
 a3 := Tryz.isAgg3
 z3 := Tryz.sizeOf3
 v3 := Tryz.zeroValue3
 t4 := Tryz.underlying4
 a4 := Tryz.isAgg4
 z4 := Tryz.sizeOf4
 v4 := Tryz.zeroValue4
 t9 := Tryz.underlying9
 a9 := Tryz.isAgg9
 z9 := Tryz.sizeOf9
 v9 := Tryz.zeroValue9
 t37 := Tryz.underlying63
 a37 := Tryz.isAgg63
 z37 := Tryz.sizeOf63
 v37 := Tryz.zeroValue63
 t127 := Tryz.underlying202
 a127 := Tryz.isAgg202
 z127 := Tryz.sizeOf202
 v127 := Tryz.zeroValue202
 t5 := Tryz.underlying5
 a5 := Tryz.isAgg5
 z5 := Tryz.sizeOf5
 v5 := Tryz.zeroValue5
 i0 := by kernel_rfl
 i3 := by kernel_rfl
 i4 := by kernel_rfl
 i5 := by kernel_rfl
 i9 := by kernel_rfl
 i37 := by kernel_rfl
 i127 := by kernel_rfl }
theorem stringslite_Clone (s : ByteArray) (w : World) (hlim : s.size ≤ 281474976710656) :
  Calls Tryz.prog 94 #[.string s] w fun e w' => e = .returned (.string s) ∧ Below w.heap.size w w' := Any.stringslite_Clone laysM316 s w hlim
def lays32_ren : Go.Shelf.Ren := ⟨fun | 32 => 209 | 49 => 221 | n => n, fun | 30 => 63 | 21 => 21 | 3 => 3 | 0 => 0 | 5 => 5 | 4 => 4 | 33 => 243 | 66 => 298 | 25 => 61 | 69 => 301 | 68 => 300 | n => n, fun | 2 => 2 | 3 => 3 | n => n⟩
theorem lays32 : Go.Proofs.Lays7.n32 Tryz.prog lays32_ren := {
 mixed := by kernel_rfl
 f32 := Tryz.func209.trans (congrArg some (by kernel_rfl))
 f49 := Tryz.func221.trans (congrArg some (by kernel_rfl))
 t0 := Tryz.underlying0
 a0 := Tryz.isAgg0
 z0 := Tryz.sizeOf0
 v0 := Tryz.zeroValue0
 i0 := by kernel_rfl
 t3 := Tryz.underlying3
 a3 := Tryz.isAgg3
 z3 := Tryz.sizeOf3
 v3 := Tryz.zeroValue3
 i3 := by kernel_rfl
 t4 := Tryz.underlying4
 a4 := Tryz.isAgg4
 z4 := Tryz.sizeOf4
 v4 := Tryz.zeroValue4
 i4 := by kernel_rfl
 t5 := Tryz.underlying5
 a5 := Tryz.isAgg5
 z5 := Tryz.sizeOf5
 v5 := Tryz.zeroValue5
 i5 := by kernel_rfl
 t21 := Tryz.underlying21
 a21 := Tryz.isAgg21
 z21 := Tryz.sizeOf21
 v21 := Tryz.zeroValue21
 i21 := by kernel_rfl
 t25 := Tryz.underlying61
 a25 := Tryz.isAgg61
 z25 := Tryz.sizeOf61
 v25 := Tryz.zeroValue61
 i25 := by kernel_rfl
 t30 := Tryz.underlying63
 a30 := Tryz.isAgg63
 z30 := Tryz.sizeOf63
 v30 := Tryz.zeroValue63
 i30 := by kernel_rfl
 t33 := Tryz.underlying243
 a33 := Tryz.isAgg243
 z33 := Tryz.sizeOf243
 v33 := Tryz.zeroValue243
 i33 := by kernel_rfl
 t66 := Tryz.underlying298
 a66 := Tryz.isAgg298
 z66 := Tryz.sizeOf298
 t68 := Tryz.underlying300
 a68 := Tryz.isAgg300
 z68 := Tryz.sizeOf300
 v68 := Tryz.zeroValue300
 i68 := by kernel_rfl
 t69 := Tryz.underlying301
 a69 := Tryz.isAgg301
 z69 := Tryz.sizeOf301
 v69 := Tryz.zeroValue301
 i69 := by kernel_rfl
 g2 := by kernel_rfl
 g3 := by kernel_rfl }
end Go.Proofs.YtgngaldoemopjaaGreatDoor
namespace Go.Proofs.YtgngaldoemopjaaGreatDoor
open Go.RowKit
def tokV (t : X.Tk) (k : Nat) : Value := .agg #[.int .i64 (t.kind : Int), .int .i64 (k : Int), .string ⟨t.text.toArray⟩, .int .i32 t.r]
def AnsT (o : Option (X.Tk × Nat)) (k : Nat) (e : Ending) : Prop := ∃ t n, e = .returned (.tuple #[tokV t k, .int .i64 ((n : Nat) : Int)]) ∧ (∀ p, o = some p → t = p.1 ∧ n = p.2) ∧ (o = none → n = 0)
def tz : X.Tk := ⟨0, [], 0⟩
theorem ansT_none {o : Option (X.Tk × Nat)} (h : o = none) : AnsT o 0 (.returned (.tuple #[tokV tz 0, .int .i64 0])) := ⟨tz, 0, rfl, (by rw [h]; intro p h; cases h), fun _ => rfl⟩
theorem ansT_some {o : Option (X.Tk × Nat)} {t : X.Tk} {n : Nat} (h : o = some (t, n)) : AnsT o 0 (.returned (.tuple #[tokV t 0, .int .i64 (n : Int)])) := ⟨t, n, rfl, (by rw [h]; intro p h; cases h; exact ⟨rfl, rfl⟩), (by rw [h]; intro h; cases h)⟩
theorem cells_four {W : World} {k : Nat} {u v x y : Value} {t : TypeId} (h : W.heap[k]? = some (.cells #[u, v, x, y] t)) : W.cell? ⟨k, 0, none⟩ = some u ∧ W.cell? ⟨k, 1, none⟩ = some v ∧ W.cell? ⟨k, 2, none⟩ = some x ∧ W.cell? ⟨k, 3, none⟩ = some y := by
 simp [World.cell?, h]
theorem frozen_row {W : World} {k : Nat} {cs : Array Value} {t : TypeId} (h : W.heap[k]? = some (.cells cs t)) (j : Nat) : W.frozen? ⟨k, j, none⟩ = false := by
 simp [World.frozen?, h]
theorem four_set {w wr : World} (hb : Below w.heap.size w wr) (a b c d : Value) : Below w.heap.size w ((((wr.setCell ⟨w.heap.size, 0, none⟩ a).setCell ⟨w.heap.size, 1, none⟩ b).setCell ⟨w.heap.size, 2, none⟩ c).setCell ⟨w.heap.size, 3, none⟩ d) :=
 ((((hb.setCell (p := ⟨w.heap.size, 0, none⟩) (Nat.le_refl _) a).setCell (p := ⟨w.heap.size, 1, none⟩) (Nat.le_refl _) b).setCell (p := ⟨w.heap.size, 2, none⟩) (Nat.le_refl _) c).setCell (p := ⟨w.heap.size, 3, none⟩) (Nat.le_refl _) d)
abbrev room : Obj := .cells #[.int .i64 0, .int .i64 0, .string ⟨#[]⟩, .int .i32 0] 111
theorem room_kept {w w1 : World} {o : Obj} (hb : Below (w.alloc o).heap.size (w.alloc o) w1) : w1.heap[w.heap.size]? = some o ∧ Below w.heap.size w w1 :=
 ⟨(hb.block w.heap.size (by simp)).trans (heap_alloc_new w o), nx (al1 w o) hb⟩
theorem clone_any (s : ByteArray) (hs : s.size ≤ 100000) (w : World) : Calls Tryz.prog 60 #[.string s] w fun e w' => e = .returned (.string s) ∧ Below w.heap.size w w' := by
 have hc := stringslite_Clone s w (by omega)
 go_enter Tryz.func60, Tryz.ntmps60
 go_wp2_with fail
 refine hc.mono ?_
 rintro e w' ⟨rfl, hb⟩
 go_wp2
 go_ret
 exact ⟨rfl, hb⟩
set_option maxHeartbeats 1000000 in
theorem named_any (k : Int) (s : ByteArray) (hs : s.size ≤ 100000) (w : World) : Calls Tryz.prog 168 #[.int .i64 k, .string s] w fun e w' => e = .returned (.agg #[.int .i64 k, .int .i64 0, .string s, .int .i32 0]) ∧ Below w.heap.size w w' := by
 go_enter Tryz.func168, Tryz.ntmps168
 go_wp2_with fail
 refine (clone_any s hs _).mono ?_
 rintro e w1 ⟨rfl, hb⟩
 obtain ⟨hr0, hbb⟩ := room_kept hb
 clear hb
 obtain ⟨d0, d1, d2, d3⟩ := cells_four hr0
 have f0 := frozen_row hr0 0
 have f1 := frozen_row hr0 1
 have f2 := frozen_row hr0 2
 have f3 := frozen_row hr0 3
 go_wp2
 exact bodyPost_ret (v := .agg #[.int .i64 k, .int .i64 0, .string s, .int .i32 0]) (by simp [results, Tryz.results168, go_sem, d0, d1, d2, d3]) rfl ⟨rfl, four_set hbb _ _ _ _⟩
theorem bts_ext (s : ByteArray) (a b : Nat) : bts (s.extract a b) = ((bts s).drop a).take (b - a) := by
 unfold bts
 rw [← Lib.toList_data, Lib.extract_toList]
theorem bts_take (s : ByteArray) (n : Nat) : bts (s.extract 0 n) = (bts s).take n := by
 rw [bts_ext, List.drop_zero, Nat.sub_zero]
theorem ext_size (s : ByteArray) (a b : Nat) (h : b ≤ s.size) : (s.extract a b).size = b - a := by
 have := congrArg List.length (bts_ext s a b)
 rw [bts_len, List.length_take, List.length_drop, bts_len] at this
 omega
set_option maxHeartbeats 1000000 in
theorem ident_lex (s : ByteArray) (hs : s.size ≤ 100000) (w : World) : Calls Tryz.prog 142 #[.string s] w fun e w' => AnsT (some (⟨8, (bts s).takeWhile X.isI, 0⟩, ((bts s).takeWhile X.isI).length)) 0 e ∧ Below w.heap.size w w' := by
 have hrun := run_ident s hs (w.alloc room)
 have hle := X.takeWhile_le X.isI (bts s)
 rw [bts_len] at hle
 obtain ⟨n, hn⟩ : ∃ n, ((bts s).takeWhile X.isI).length = n := ⟨_, rfl⟩
 have ht : (bts s).takeWhile X.isI = bts (s.extract 0 n) := by
   rw [bts_take, ← hn]
   exact List.prefix_iff_eq_take.1 (List.takeWhile_prefix X.isI)
 rw [hn] at hrun hle
 have HN := hide hn
 have HT := hide ht
 clear hn ht
 go_enter Tryz.func142, Tryz.ntmps142
 go_wp2_with fail
 refine hrun.mono ?_
 rintro e w1 ⟨rfl, rfl⟩
 have hnm := named_any 8 (s.extract 0 n) (by rw [ext_size _ _ _ hle]; omega) (w.alloc room)
 go_wp2_with fail
 refine hnm.mono ?_
 rintro e w1 ⟨rfl, hb⟩
 obtain ⟨hr0, hbb⟩ := room_kept hb
 clear hb hnm hrun
 obtain ⟨d0, d1, d2, d3⟩ := cells_four hr0
 have f0 := frozen_row hr0 0
 have f1 := frozen_row hr0 1
 have f2 := frozen_row hr0 2
 have f3 := frozen_row hr0 3
 go_wp2
 exact bodyPost_ret (v := .tuple #[.agg #[.int .i64 8, .int .i64 0, .string (s.extract 0 n), .int .i32 0], .int .i64 (n : Int)]) (by simp [results, Tryz.results142, go_sem, d0, d1, d2, d3]) rfl ⟨ansT_some (t := ⟨8, bts (s.extract 0 n), 0⟩) (n := n) (by rw [HN.out, HT.out]), four_set hbb _ _ _ _⟩
end Go.Proofs.YtgngaldoemopjaaGreatDoor
namespace Go.Proofs.YtgngaldoemopjaaGreatDoor
namespace Reg
open Go.RowKit
def ov (a : Act) : List (Nat × Value) → Act
 | [] => a
 | p :: l => (ov a l).put (some p.1) p.2
def look (a : Act) : List (Nat × Value) → Nat → Value
 | [], t => a.tmps.getD t undef
 | p :: l, t => cond (Nat.beq p.1 t) p.2 (look a l t)
def ev (a : Act) (l : List (Nat × Value)) : Operand → Value
 | .tmp t => look a l t
 | .const v => v
 | .global g => .pointer (some ⟨g, 0, none⟩)
 | .func f => .func (.func f) #[] #[]
def inB (a : Act) : List (Nat × Value) → Bool
 | [] => true
 | p :: l => Nat.blt p.1 a.tmps.size && inB a l
theorem ov_size (a : Act) : ∀ l, (ov a l).tmps.size = a.tmps.size
 | [] => rfl
 | p :: l => by simp only [ov, Act.put, Array.size_setIfInBounds]; exact ov_size a l
theorem ov_defers (a : Act) : ∀ l, (ov a l).defers = a.defers
 | [] => rfl
 | p :: l => by simp only [ov, Act.put]; exact ov_defers a l
theorem ov_look (a : Act) (t : Nat) : ∀ l, inB a l = true → (ov a l).tmps.getD t undef = look a l t
 | [], _ => rfl
 | p :: l, h => by
   simp only [inB, Bool.and_eq_true] at h
   have hp : p.1 < a.tmps.size := by have := h.1; rw [Nat.blt_eq] at this; exact this
   have ih := ov_look a t l h.2
   simp only [ov, Act.put, look]
   by_cases e : p.1 = t
   · subst e
     rw [show Nat.beq p.1 p.1 = true from Nat.beq_refl _, cond_true]
     simp [Array.getD, ov_size, hp]
   · have hne : Nat.beq p.1 t = false := by
       cases hb : Nat.beq p.1 t with
       | true => exact absurd (Nat.eq_of_beq_eq_true hb) e
       | false => rfl
     rw [hne, cond_false, ← ih]
     simp only [Array.getD_eq_getD_getElem?, Array.getElem?_setIfInBounds_ne e]
theorem ov_eval (a : Act) (l : List (Nat × Value)) (h : inB a l = true) : (ov a l).eval = ev a l := by
 funext x
 cases x with
 | tmp t => exact ov_look a t l h
 | const v => rfl
 | global g => rfl
 | func f => rfl
def wantB (ops : Array Oper) (a : Act) (l : List (Nat × Value)) (o : Oper) : Bool :=
 match o.guard with
 | none => true
 | some (j, want) => match (ops[j]?).bind (·.dst) with
   | none => false
   | some d => Nat.blt d a.tmps.size && (match look a l d with
     | .bool b => b == want
     | _ => false)
theorem wanted_of (ops : Array Oper) (a : Act) (l : List (Nat × Value)) (o : Oper) (hb : inB a l = true) (h : wantB ops a l o = true) : Region.wanted o (yielded ops (ov a l).tmps) = true := by
 unfold wantB at h
 unfold Region.wanted
 split at h
 · rename_i hg; rw [hg]
 · rename_i j want hg
   rw [hg]
   simp only
   split at h
   · cases h
   · rename_i d hd
     simp only [Bool.and_eq_true] at h
     have hlt : d < (ov a l).tmps.size := by rw [ov_size]; have := h.1; rw [Nat.blt_eq] at this; exact this
     have hlk := ov_look a d l hb
     unfold yielded
     rw [hd, Option.bind_some]
     have e : (ov a l).tmps[d]? = some (look a l d) := by
       rw [← hlk, Array.getElem?_eq_getElem hlt]
       simp [Array.getD, hlt]
     rw [e]
     have h2 := h.2
     split at h2
     · rename_i b hb'
       rw [hb']
       simpa using h2
     · cases h2
def lst (n : Nat) : List Nat → Array Bool
 | [] => Array.replicate n false
 | i :: ks => (lst n ks).setIfInBounds i true
def G (P : Program) (ops : Array Oper) (Q : Exit → Act → World → Prop) (a : Act) (B : Nat) (fuel : Nat) (ks : List Nat) (l : List (Nat × Value)) (w : World) : Prop :=
 wpAnyH P .any ops Q (fun w' => Below B w w') fuel (lst ops.size ks) (ov a l) w
section
variable {P : Program} {ops : Array Oper} {Q : Exit → Act → World → Prop} {a : Act} {B fuel : Nat} {ks : List Nat} {l : List (Nat × Value)} {w : World}
theorem mono_held {S S' : World → Prop} (h : ∀ w, S' w → S w) : ∀ (fuel : Nat) (listed : Array Bool) (a : Act) (w : World), wpAnyH P .any ops Q S' fuel listed a w → wpAnyH P .any ops Q S fuel listed a w
 | 0, _, _, _, hh => hh
 | fuel + 1, _, _, _, hh => ⟨hh.1, fun i hi => wpOp_mono (fun a' w' h' => ⟨h w' h'.1, mono_held h fuel _ a' w' h'.2⟩) (hh.2 i hi)⟩
theorem start {id : Nat} (hm : P.follows .mixedOrders = true) (h : G P ops Q a B ops.size [] [] w.drew) : (Code.region id ops true).wp P Q a w :=
 wp_region_held hm h
theorem done (hr : Region.ready .any ops (lst ops.size ks) = []) (h : Q .normal (ov a l) w) : G P ops Q a B fuel ks l w := wpAnyH_done hr h fuel
theorem take (hQ : ∀ c (a : Act) (d : Nat) v w, Q (.panic c) (a.put (some d) v) w → Q (.panic c) a w) (i : Nat) (o : Oper) (d : Nat) (v : Value) (hi : ops[i]? = some o) (hs : Region.noSelect ops = true) (hf : Region.free .any ops (lst ops.size ks) i = true)
   (hr : (Region.ready .any ops (lst ops.size ks)).contains i = true) (hd : o.dst = some d) (hb : inB a l = true) (hw : wantB ops a l o = true)
   (hy : ∀ w', Below B w w' → (execOp (ev a l) o).run P w' = .ok (.value v) w') (h : G P ops Q a B fuel (i :: ks) ((d, v) :: l) w) : G P ops Q a B (fuel + 1) ks l w := by
 refine wpAnyH_take (v := v) hi hs hf hr (fun c a' w' hh => hQ c a' d v w' (by rw [hd] at hh; exact hh)) (.inl ⟨wanted_of ops a l o hb hw, fun w' hw' => ?_⟩) (Below.refl _ _) ?_
 · rw [ov_eval a l hb]; exact hy w' hw'
 · rw [hd]; exact h
theorem only (i : Nat) (o : Oper) (d : Nat) (hi : ops[i]? = some o) (hr : Region.ready .any ops (lst ops.size ks) = [i]) (hd : o.dst = some d) (hb : inB a l = true) (hw : wantB ops a l o = true)
   (h : ∃ v w' B', (execOp (ev a l) o).run P w = .ok (.value v) w' ∧ B ≤ B' ∧ Below B w w' ∧ G P ops Q a B' fuel (i :: ks) ((d, v) :: l) w') : G P ops Q a B (fuel + 1) ks l w := by
 obtain ⟨v, w', B', hrun, hBB, hbl, hg⟩ := h
 refine wpAnyH_all hr (by simp) fun j hj => ?_
 obtain rfl : j = i := by simpa using hj
 unfold wpOp
 simp only [hi]
 rw [if_pos (wanted_of ops a l o hb hw)]
 refine .inl ?_
 unfold Oper.wp
 rw [ov_eval a l hb, hrun]
 simp only [Oper.upon, hd]
 exact ⟨hbl, mono_held (fun x hx => hbl.trans (hx.mono hBB)) _ _ _ _ hg⟩
theorem call (i : Nat) (o : Oper) (d f : Nat) (xs : Array Operand) (ats : Array TypeId) (vs : Array Value) (hi : ops[i]? = some o) (hr : Region.ready .any ops (lst ops.size ks) = [i]) (hd : o.dst = some d) (hb : inB a l = true) (hw : wantB ops a l o = true)
   (hop : o.op = .call { callee := .value (.func f), args := xs, argTypes := ats }) (hvs : #[] ++ xs.map (ev a l) ++ #[] = vs) (hent : (callFunc f vs).run P w = .ok (.enter f vs) w)
   {R : Ending → World → Prop} (hc : Calls P f vs w R) (hR : ∀ e w', R e w' → ∃ v B', e = .returned v ∧ B ≤ B' ∧ Below B w w' ∧ G P ops Q a B' fuel (i :: ks) ((d, v) :: l) w') : G P ops Q a B (fuel + 1) ks l w := by
 refine wpAnyH_all hr (by simp) fun j hj => ?_
 obtain rfl : j = i := by simpa using hj
 unfold wpOp
 simp only [hi]
 rw [if_pos (wanted_of ops a l o hb hw)]
 refine .inl ?_
 unfold Oper.wp
 have he : (execOp (ev a l) o).run P w = .ok (.enter f vs) w := by
   obtain ⟨dst, op, type, pos, after, guard⟩ := o
   simp only at hop
   subst hop
   show (callFunc f (#[] ++ xs.map (ev a l) ++ #[])).run P w = _
   rw [hvs]
   exact hent
 rw [ov_eval a l hb, he]
 simp only [Oper.upon]
 refine hc.mono fun e w' hr' => ?_
 obtain ⟨v, B', rfl, hBB, hbl, hg⟩ := hR e w' hr'
 simp only [hd]
 exact ⟨hbl, mono_held (fun x hx => hbl.trans (hx.mono hBB)) _ _ _ _ hg⟩
end
theorem app {P : Program} {w w' : World} {ρ : Operand → Value} {o : Oper} {t u : TypeId} {x y : Operand} {vx vy v : Value} (hop : o.op = .call { callee := .builtin .append, args := #[x, y], argTypes := #[t, u] }) (hx : ρ x = vx) (hy : ρ y = vy)
   (h : (Builtin.append_ #[t, u] o.type #[vx, vy]).run P w = .ok v w') : (execOp ρ o).run P w = .ok (.value v) w' := by
 obtain ⟨dst, op, type, pos, after, guard⟩ := o
 simp only at hop h
 subst hop
 simp [execOp, resolve, invoke, builtin, hx, hy, h, Result.andThen]
theorem ld {P : Program} {w : World} {ρ : Operand → Value} {o : Oper} {ty : TypeId} {x : Operand} {b off : Nat} {cs : List Value} {d : TypeDesc} (hop : o.op = .load ty x) (hx : ρ x = .pointer (some ⟨b, off, none⟩)) (hc : w.rangeAt b off cs)
   (hu : P.underlying ty = some d) (hd : d.isRow = true) (hi : (P.info? ty).map (·.size) = some cs.length) : (execOp ρ o).run P w = .ok (.value (.agg cs.toArray)) w := by
 obtain ⟨dst, op, type, pos, after, guard⟩ := o
 simp only at hop
 subst hop
 simp only [execOp, hx, Sem.run_bind, run_loadAt_mid w b off ty cs d hc hu hd hi, Result.andThen_ok, Sem.run_pure]
end Reg
end Go.Proofs.YtgngaldoemopjaaGreatDoor
