/- known, few. -/
import Derived.Test.YtbkcbclloemajaaTel
namespace Go.Proofs.Ytbkcbclloemajaa
open Go.RowKit Go.Shelf

theorem rds_one {w : World} {b : Nat} {ao : Option Addr} {c : Nat} {xs : List S.R} (hc : w.cell? ⟨b, 0, none⟩ = some (.slice ao xs.length c)) (hr : RdR w ao xs) : RdS w (some ⟨b, 0, none⟩) [(ao, c, xs)] := by
  intro i hi
  obtain rfl : i = 0 := by simpa using hi
  exact ⟨b, 0, rfl, hc, hr⟩
theorem rds_nil (w : World) (sao : Option Addr) : RdS w sao [] := fun i h => by simp at h

/-- One list of one range. -/
def K1 (b : Nat) : List L3 := [(some ⟨b, 0, none⟩, 1, [(97, 122)])]
theorem k1_ms (b : Nat) : msL (K1 b) = [0, 1] := by unfold msL K1; rw [PC_one]; rfl
theorem k1_mk (b : Nat) (p : Int) : mkL (K1 b) p = if S.hB [(97, 122)] p then 1 else 0 := by simp [mkL, msk, TOf, K1]
theorem k1_of0 (b : Nat) : ofL (K1 b) 0 = 0 := by unfold ofL; rw [k1_ms, k1_mk]; decide
theorem k1_of98 (b : Nat) : ofL (K1 b) 98 = 1 := by unfold ofL; rw [k1_ms, k1_mk]; decide
theorem k1_ofm (b : Nat) : ofL (K1 b) (-1) = -1 := by unfold ofL; rw [if_neg (by omega)]
section
variable {w : World} {pc b : Nat}
theorem k1_len (h : Tel w pc (K1 b)) : Calls Try.prog 12 #[.pointer (some ⟨pc, 0, none⟩)] w fun e w2 => e = .returned (.int .i64 2) ∧ w2 = w := by
  have := tel_len h
  rw [k1_ms] at this
  exact this
theorem k1_0 (h : Tel w pc (K1 b)) : Calls Try.prog 13 #[.pointer (some ⟨pc, 0, none⟩), .int .i32 0] w fun e w2 => e = .returned (.int .i64 0) ∧ Below w.heap.size w w2 := by
  have := tel_of h 0
  rw [k1_of0] at this
  exact this
theorem k1_98 (h : Tel w pc (K1 b)) : Calls Try.prog 13 #[.pointer (some ⟨pc, 0, none⟩), .int .i32 98] w fun e w2 => e = .returned (.int .i64 1) ∧ Below w.heap.size w w2 := by
  have := tel_of h 98
  rw [k1_of98] at this
  exact this
theorem k1_m (h : Tel w pc (K1 b)) : Calls Try.prog 13 #[.pointer (some ⟨pc, 0, none⟩), .int .i32 (-1)] w fun e w2 => e = .returned (.int .i64 (-1)) ∧ Below w.heap.size w w2 := by
  have := tel_of h (-1)
  rw [k1_ofm] at this
  exact this
theorem k1_in1 (h : Tel w pc (K1 b)) : Calls Try.prog 18 #[.pointer (some ⟨pc, 0, none⟩), .int .i64 1, .int .i64 0] w fun e w2 => e = .returned (.bool true) ∧ w2 = w := by
  have := tel_in h 1 0
  rw [k1_ms] at this
  exact this
theorem k1_in0 (h : Tel w pc (K1 b)) : Calls Try.prog 18 #[.pointer (some ⟨pc, 0, none⟩), .int .i64 0, .int .i64 0] w fun e w2 => e = .returned (.bool false) ∧ w2 = w := by
  have := tel_in h 0 0
  rw [k1_ms] at this
  exact this
theorem k1_sets (h : Tel w pc (K1 b)) : Calls Try.prog 15 #[.pointer (some ⟨pc, 0, none⟩)] w fun e w2 => e = .returned (.int .i64 1) ∧ w2 = w := tel_sets h
theorem k0_len (h : Tel w pc []) : Calls Try.prog 12 #[.pointer (some ⟨pc, 0, none⟩)] w fun e w2 => e = .returned (.int .i64 1) ∧ w2 = w := by
  have := tel_len h
  rw [msL_nil] at this
  exact this
theorem k1_cut (w : World) : Calls Try.prog 10 #[.slice (some ⟨w.heap.size + 1, 0, none⟩) 1 1] ((w.alloc (.cells #[.int .i32 97, .int .i32 122] 48)).alloc (.cells #[.slice (some ⟨w.heap.size, 0, none⟩) 1 1] 35)) fun e W' => ∃ pc, e = .returned (.pointer (some ⟨pc, 0, none⟩)) ∧ Tel W' pc (K1 w.heap.size) ∧ Below w.heap.size w W' := by
  have h1 := al1 w (.cells #[.int .i32 97, .int .i32 122] 48)
  have r1 := rdr_new w 97 122 48
  have h2 := al1 (w.alloc (.cells #[.int .i32 97, .int .i32 122] 48)) (.cells #[.slice (some ⟨w.heap.size, 0, none⟩) 1 1] 35)
  have r2 := r1.later h2
  have c2 := (Boxed.new (w.alloc (.cells #[.int .i32 97, .int .i32 122] 48)) 35 (.slice (some ⟨w.heap.size, 0, none⟩) 1 1)).cell
  rw [World.size_alloc] at c2
  refine (cut_tel (some ⟨w.heap.size + 1, 0, none⟩) 1 (K1 w.heap.size) (by simp [K1]) (by simp [K1]) _ (rds_one c2 r2)).mono ?_
  rintro e W' ⟨rfl, hT, hb⟩
  exact ⟨_, rfl, hT, nx (nx h1 h2) hb⟩
theorem k0_cut (w : World) : Calls Try.prog 10 #[.slice none 0 0] w fun e W' => ∃ pc, e = .returned (.pointer (some ⟨pc, 0, none⟩)) ∧ Tel W' pc [] ∧ Below w.heap.size w W' := by
  refine (cut_tel none 0 [] (by simp) (by simp) w (rds_nil w none)).mono ?_
  rintro e W' ⟨rfl, hT, hb⟩
  exact ⟨_, rfl, hT, hb⟩
end
set_option maxRecDepth 100000 in
set_option maxHeartbeats 2000000 in
theorem known_any (w : World) : Calls Try.prog 8 #[] w fun e w' => e = .returned (.bool true) ∧ Below w.heap.size w w' := by
  have hcut := k1_cut w
  go_enter Try.func8, Try.ntmps8
  go_wp2_with fail
  refine (hcut).mono ?_
  rintro e w1 ⟨pc, rfl, hT, hb0⟩
  go_wp2_with fail
  refine (k1_len hT).mono ?_
  rintro e w2 ⟨rfl, rfl⟩
  go_wp2_with fail
  refine (k1_0 hT).mono ?_
  rintro e w3 ⟨rfl, hb2⟩
  replace hb0 := nx hb0 hb2
  replace hT := hT.later hb2
  clear hb2
  go_wp2_with fail
  refine (k1_98 hT).mono ?_
  rintro e w4 ⟨rfl, hb2⟩
  replace hb0 := nx hb0 hb2
  replace hT := hT.later hb2
  clear hb2
  go_wp2_with fail
  refine (k1_in1 hT).mono ?_
  rintro e w5 ⟨rfl, rfl⟩
  go_wp2_with fail
  refine (k1_in0 hT).mono ?_
  rintro e w6 ⟨rfl, rfl⟩
  go_wp2_with fail
  refine (k1_sets hT).mono ?_
  rintro e w7 ⟨rfl, rfl⟩
  go_wp2_with fail
  refine (k1_m hT).mono ?_
  rintro e w8 ⟨rfl, hb2⟩
  replace hb0 := nx hb0 hb2
  replace hT := hT.later hb2
  clear hb2
  go_wp2_with fail
  refine (k0_cut _).mono ?_
  rintro e w9 ⟨p0, rfl, hT0, hb2⟩
  replace hb0 := nx hb0 hb2
  clear hb2 hT
  go_wp2_with fail
  refine (k0_len hT0).mono ?_
  rintro e w10 ⟨rfl, rfl⟩
  go_wp2_with fail
  go_ret
  exact ⟨rfl, hb0⟩

/-- At most 70 lists, each of at most 20 ranges. -/
def fewB (ls : List L3) : Bool := ls.all (fun p => decide (p.2.2.length ≤ 20)) && decide (ls.length ≤ 70)
set_option maxRecDepth 100000 in
set_option maxHeartbeats 4000000 in
theorem few_any (sao : Option Addr) (cap : Nat) (ls : List L3) (hl : ls.length ≤ 9223372036854775807) (w : World) (h : RdS w sao ls) : Calls Try.prog 9 #[.slice sao ls.length cap] w fun e w' => e = .returned (.bool (fewB ls)) ∧ w' = w := by
  go_enter Try.func9, Try.ntmps9
  go_wp2
  go_loopw [3] (fun v wr => ∃ i : Nat, v = .int .i64 (i : Int) ∧ i ≤ ls.length ∧ wr = w ∧ Hid (∀ p, p ∈ ls.take i → p.2.2.length ≤ 20)) (fun v _ => ls.length - (intOf v).toNat)
  case atStart => exact ⟨0, rfl, Nat.zero_le _, by first | rfl | trivial, hide (fun p hp => by simp at hp)⟩
  case round =>
    obtain ⟨i, rfl, hi, rfl, HA⟩ := hrel
    by_cases hlt : i < ls.length
    · obtain ⟨b, off, rfl, c1, _⟩ := h i hlt
      have HT : Hid (ls.take (i + 1) = ls.take i ++ [ls[i]]) := hide (List.take_succ_eq_append_getElem hlt)
      obtain ⟨n, hn⟩ : ∃ n, n = ls[i].2.2.length := ⟨_, rfl⟩
      rw [← hn] at c1
      have HN := hide hn
      clear hn
      by_cases h20 : n ≤ 20
      · go_wp2
        go_roundw
        case rel =>
          refine ⟨i + 1, by go_num, by omega, by first | rfl | trivial, hide (fun p hp => ?_)⟩
          rw [HT.out] at hp
          rcases List.mem_append.1 hp with h1 | h1
          · exact HA.out p h1
          · obtain rfl : p = ls[i] := by simpa using h1
            rw [← HN.out]; exact h20
        case measure => simp [intOf]; omega
      · have h20' : 20 < n := by omega
        have hf : fewB ls = false := by
          unfold fewB
          rw [Bool.and_eq_false_iff]
          left
          rw [List.all_eq_false]
          exact ⟨ls[i], List.getElem_mem hlt, by rw [← HN.out]; simpa using h20'⟩
        go_wp2
        go_ret
        exact ⟨by rw [hf]; rfl, rfl⟩
    · obtain rfl : i = ls.length := by omega
      have hf : fewB ls = decide (ls.length ≤ 70) := by
        have h1 := HA.out
        rw [List.take_length] at h1
        unfold fewB
        rw [List.all_eq_true.2 (fun p hp => by simpa using h1 p hp), Bool.true_and]
      have HF := hide hf
      clear hf
      go_wp2
      go_ret
      exact ⟨by rw [HF.out]; simp; omega, rfl⟩
end Go.Proofs.Ytbkcbclloemajaa
