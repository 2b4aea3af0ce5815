/- PlacesJoin. -/
import Derived.Test.YtemanednddhfaaaGreatDoorPlt
namespace Go.Proofs.YtemanednddhfaaaGreatDoor
open Go.RowKit Go.Shelf
open E (T)
attribute [local go_sem] Oper.semAt_some
namespace PA
theorem behind_bit (a : Au) (s j : Nat) : (behind a s).testBit j = true ↔ (s.testBit 63 = true ∧ a.w.f.testBit j = true) ∨ ∃ i < a.pl.length, s.testBit i = true ∧ (fol a i).testBit j = true := by
  unfold behind
  rw [orL_bit, Bool.or_eq_true, List.any_eq_true]
  constructor
  · rintro (h | ⟨i, hi, h⟩)
    · left
      cases hb : s.testBit 63 with
      | true => rw [hb] at h; exact ⟨rfl, h⟩
      | false => rw [hb] at h; simp at h
    · right
      cases hb : s.testBit i with
      | true => rw [hb] at h; exact ⟨i, List.mem_range.1 hi, hb, h⟩
      | false => rw [hb] at h; simp at h
  · rintro (⟨h1, h2⟩ | ⟨i, hi, h1, h2⟩)
    · left; rw [h1]; exact h2
    · right; exact ⟨i, List.mem_range.2 hi, by rw [h1]; exact h2⟩
theorem behind_or (a : Au) (s t : Nat) : behind a (s ||| t) = behind a s ||| behind a t := by
  refine Nat.eq_of_testBit_eq fun j => ?_
  rw [Bool.eq_iff_iff, Nat.testBit_or, Bool.or_eq_true, behind_bit, behind_bit, behind_bit, Nat.testBit_or, Bool.or_eq_true]
  simp only [Nat.testBit_or, Bool.or_eq_true]
  constructor
  · rintro (⟨h | h, h2⟩ | ⟨i, hi, h | h, h2⟩)
    · exact .inl (.inl ⟨h, h2⟩)
    · exact .inr (.inl ⟨h, h2⟩)
    · exact .inl (.inr ⟨i, hi, h, h2⟩)
    · exact .inr (.inr ⟨i, hi, h, h2⟩)
  · rintro ((⟨h, h2⟩ | ⟨i, hi, h, h2⟩) | (⟨h, h2⟩ | ⟨i, hi, h, h2⟩))
    · exact .inl ⟨.inl h, h2⟩
    · exact .inr ⟨i, hi, .inl h, h2⟩
    · exact .inl ⟨.inr h, h2⟩
    · exact .inr ⟨i, hi, .inr h, h2⟩
theorem stp_bit (a : Au) (s : Nat) (r : Int) (j : Nat) : (stp a s r).testBit j = true ↔ j < a.pl.length ∧ (behind a s).testBit j = true ∧ hasB a r j = true := by
  unfold stp
  rw [orL_bit, Nat.zero_testBit, Bool.false_or, List.any_eq_true]
  constructor
  · rintro ⟨i, hi, h⟩
    split at h
    · rename_i hc
      rw [Nat.testBit_two_pow] at h
      obtain rfl : i = j := by simpa using h
      simp only [Bool.and_eq_true] at hc
      exact ⟨List.mem_range.1 hi, hc.1, hc.2⟩
    · simp at h
  · rintro ⟨h1, h2, h3⟩
    refine ⟨j, List.mem_range.2 h1, ?_⟩
    rw [if_pos (by rw [h2, h3]; rfl), Nat.testBit_two_pow]
    simp
theorem stp_or (a : Au) (s t : Nat) (r : Int) : stp a (s ||| t) r = stp a s r ||| stp a t r := by
  refine Nat.eq_of_testBit_eq fun j => ?_
  rw [Bool.eq_iff_iff, Nat.testBit_or, Bool.or_eq_true, stp_bit, stp_bit, stp_bit, behind_or, Nat.testBit_or, Bool.or_eq_true]
  constructor
  · rintro ⟨h1, h | h, h2⟩
    · exact .inl ⟨h1, h, h2⟩
    · exact .inr ⟨h1, h, h2⟩
  · rintro (⟨h1, h, h2⟩ | ⟨h1, h, h2⟩)
    · exact ⟨h1, .inl h, h2⟩
    · exact ⟨h1, .inr h, h2⟩
theorem acc_or (a : Au) (s t : Nat) : acc a (s ||| t) = (acc a s || acc a t) := by
  unfold acc
  rw [Bool.eq_iff_iff]
  simp only [Bool.or_eq_true, Bool.and_eq_true, decide_eq_true_eq, Nat.testBit_or, Nat.and_or_distrib_right]
  rw [Ne, Nat.or_eq_zero_iff]
  constructor
  · rintro (h | ⟨h | h, h2⟩)
    · by_cases h1 : s &&& a.w.l = 0
      · exact .inr (.inl fun h2 => h ⟨h1, h2⟩)
      · exact .inl (.inl h1)
    · exact .inl (.inr ⟨h, h2⟩)
    · exact .inr (.inr ⟨h, h2⟩)
  · rintro ((h | ⟨h, h2⟩) | (h | ⟨h, h2⟩))
    · exact .inl fun h3 => h h3.1
    · exact .inr ⟨.inl h, h2⟩
    · exact .inl fun h3 => h h3.2
    · exact .inr ⟨.inr h, h2⟩
end PA
theorem AnsW.cs {t : T} {w W : World} {e : Ending} (h : AnsW t w e W) : Below w.heap.size w W ∧ ((∃ c : Nat, 0 < c ∧ e = .returned (.tuple #[.pointer none, .int .i64 (c : Int)])) ∨ (PA.Acc t ∧ PA.ct t ≤ 60 ∧ ∃ A, e = .returned (.tuple #[.pointer (some ⟨A, 0, none⟩), .int .i64 0]) ∧ AutoAt W w.heap.size A (PA.auto t).w (PA.auto t).pl)) := by
  obtain ⟨hb, ⟨_, h1⟩ | ⟨_, _, h1⟩ | h1⟩ := h
  · exact ⟨hb, .inl ⟨70, by decide, h1⟩⟩
  · exact ⟨hb, .inl ⟨72, by decide, h1⟩⟩
  · exact ⟨hb, .inr h1⟩
set_option maxRecDepth 100000 in
set_option maxHeartbeats 4000000 in
theorem join13_any (t : T) (hF : InT t) (d : ND) (a b : Nat) (r : Int) (ha : a < 2 ^ 64) (hb : b < 2 ^ 64) (w : World) (ht : Tabs w) (hd : Deb w) (hT : TR w (fun _ => True) t d.v) :
    Calls Tryz.prog 5 #[d.v, .int .u64 (a : Int), .int .u64 (b : Int), .int .i32 r] w fun e w' => e = .returned (.bool true) ∧ Below w.heap.size w w' := by
  have b1 := al1 w (.cells #[.int .i64 d.k, .int .i64 d.a, .slice d.sp d.sl d.sc, .string d.n, .slice d.kp d.kl d.kc] 26)
  have n1 := heap_alloc_new w (.cells #[.int .i64 d.k, .int .i64 d.a, .slice d.sp d.sl d.sc, .string d.n, .slice d.kp d.kl d.kc] 26)
  have s1 : (w.alloc (.cells #[.int .i64 d.k, .int .i64 d.a, .slice d.sp d.sl d.sc, .string d.n, .slice d.kp d.kl d.kc] 26)).heap.size = w.heap.size + 1 := by simp
  obtain ⟨X, hX⟩ : ∃ X, w.alloc (.cells #[.int .i64 d.k, .int .i64 d.a, .slice d.sp d.sl d.sc, .string d.n, .slice d.kp d.kl d.kc] 26) = X := ⟨_, rfl⟩
  rw [hX] at b1 n1 s1
  have HLAT := hide (fun W (hb : Below w.heap.size w W) => (⟨ht.later hb, hd.later hb, TR.later (fun k hk => hb.block k hk) _ hT⟩ : Tabs W ∧ Deb W ∧ TR W (fun _ => True) t d.v))
  have hk := known13_any X (HLAT.out X b1).1 (HLAT.out X b1).2.1
  clear ht hd hT
  unfold ND.v
  go_enter Tryz.func5, Tryz.ntmps5
  go_wp2_with fail
  refine hk.mono ?_
  rintro e W1 ⟨rfl, hb1⟩
  have B1 := nx b1 hb1
  have m1 := (hb1.block _ (by omega)).trans n1
  have hc := count_any t hF d W1 300 (by decide) (HLAT.out W1 B1).2.2
  have z1 : w.heap.size + 1 ≤ W1.heap.size := by have := hb1.size; omega
  obtain ⟨q0, q1, q2, q3, q4⟩ := cells_five m1
  have HSZ : Hid (sz t = (E.pre t t).length) := rfl
  obtain ⟨sc, hsc⟩ : ∃ sc, min (sz t) (300 + 1) = sc := ⟨_, rfl⟩
  rw [hsc] at hc
  have HSC := hide hsc
  have hle : sc ≤ 301 := by omega
  unfold ND.v at hc
  rw [show ((300 : Nat) : Int) = 300 from rfl] at hc
  clear hk hb1 n1 s1 hX hsc b1
  go_wp2_with fail
  refine hc.mono ?_
  rintro e W2 ⟨rfl, hb2⟩
  have B2 := nx B1 hb2
  have m2 := (hb2.block _ (by omega)).trans m1
  have z2 : w.heap.size + 1 ≤ W2.heap.size := Nat.le_trans z1 hb2.size
  clear hc hb2 m1 z1 B1 q0 q1 q2 q3 q4
  by_cases hbig : 300 < sc
  · go_wp2
    go_ret
    exact ⟨rfl, B2⟩
  · have hsz : (E.pre t t).length ≤ 1000000 := by have h1 := HSC.out; have h2 := HSZ.out; omega
    have hN := new_any t d W2 (HLAT.out W2 B2).1 (HLAT.out W2 B2).2.1 (HLAT.out W2 B2).2.2 hsz hF
    obtain ⟨q0, q1, q2, q3, q4⟩ := cells_five m2
    unfold ND.v at hN
    clear hsz
    go_wp2_with fail
    refine hN.mono ?_
    intro e W3 hw
    obtain ⟨hb3, ⟨c, hc0, rfl⟩ | ⟨hac, hct, A, rfl, hA⟩⟩ := hw.cs
    · have B3 := nx B2 hb3
      have hne : ((c : Int) != 0) = true := by simp; omega
      clear hN hw q0 q1 q2 q3 q4
      go_wp2
      go_ret
      exact ⟨rfl, B3⟩
    · have B3 := nx B2 hb3
      have hg := PA.good_auto hac hct
      have hl := hg.len
      have HST := hide (fun W (hb : Below W3.heap.size W3 W) s (hs : s < 2 ^ 64) => AutoAt.step (a := PA.auto t) (hA.later hb) hg s r hs (HLAT.out W (nx B3 hb)).2.1)
      have HAC := hide (fun W (hb : Below W3.heap.size W3 W) s (hs : s < 2 ^ 64) => AutoAt.accept (a := PA.auto t) (hA.later hb) hg s hs)
      have hs1 := PA.up (PA.stp_lt (PA.auto t) a r) hl
      have hs2 := PA.up (PA.stp_lt (PA.auto t) b r) hl
      have HOR := hide (PA.stp_or (PA.auto t) a b r)
      have HAO := hide (PA.acc_or (PA.auto t) a b)
      have HZ := hide (PA.stp_zero (PA.auto t) r)
      have HAZ := hide (PA.acc_zero (PA.auto t))
      have hst1 := HST.out W3 (Below.refl _ _) a ha
      have e1 := bits_or_u64_nat a b ha hb
      have hab := PA.or_lt ha hb
      obtain ⟨au, hau⟩ : ∃ au, PA.auto t = au := ⟨_, rfl⟩
      rw [hau] at HST HAC hs1 hs2 HOR HAO HZ HAZ hst1
      clear hN hw q0 q1 q2 q3 q4 hg hl hA hac hct hau m2
      go_wp2_with fail
      refine hst1.mono ?_
      rintro e W4 ⟨rfl, hb4⟩
      have hst2 := HST.out W4 hb4 b hb
      go_wp2_with fail
      refine hst2.mono ?_
      rintro e W5 ⟨rfl, hb5⟩
      have B5 := nx hb4 hb5
      have hst3 := HST.out W5 B5 (a ||| b) hab
      rw [HOR.out] at hst3
      obtain ⟨sa, hsa⟩ : ∃ sa, PA.stp au a r = sa := ⟨_, rfl⟩
      obtain ⟨sb, hsb⟩ : ∃ sb, PA.stp au b r = sb := ⟨_, rfl⟩
      rw [hsa] at hs1
      rw [hsb] at hs2
      rw [hsa, hsb] at hst3 ⊢
      have e2 := bits_or_u64_nat sa sb (by omega) (by omega)
      clear hst1 hst2 HOR hsa hsb hb4 hb5
      go_wp2_with fail
      refine hst3.mono ?_
      rintro e W6 ⟨rfl, hb6⟩
      have B6 := nx B5 hb6
      have hst4 := HST.out W6 B6 0 (by decide)
      rw [HZ.out] at hst4
      clear hst3 hb6 HZ HST B5
      go_wp2_with fail
      refine hst4.mono ?_
      rintro e W7 ⟨rfl, hb7⟩
      have B7 := nx B6 hb7
      have hac1 := HAC.out W7 B7 (a ||| b) hab
      rw [HAO.out] at hac1
      clear hst4 hb7 B6
      go_wp2_with fail
      refine hac1.mono ?_
      rintro e W8 ⟨rfl, rfl⟩
      have hac2 := HAC.out W8 B7 a ha
      have hac3 := HAC.out W8 B7 b hb
      have hac4 := HAC.out W8 B7 0 (by decide)
      rw [HAZ.out] at hac4
      clear hac1 HAO HAZ HAC
      obtain ⟨aa, haa⟩ : ∃ aa, PA.acc au a = aa := ⟨_, rfl⟩
      obtain ⟨ab, hab'⟩ : ∃ ab, PA.acc au b = ab := ⟨_, rfl⟩
      rw [haa] at hac2 ⊢
      rw [hab'] at hac3 ⊢
      clear haa hab'
      cases aa
      · cases ab
        · go_wp2_with fail
          refine hac2.mono ?_
          rintro e W9 ⟨rfl, rfl⟩
          go_wp2_with fail
          refine hac3.mono ?_
          rintro e W8 ⟨rfl, rfl⟩
          go_wp2_with fail
          refine hac4.mono ?_
          rintro e W9 ⟨rfl, rfl⟩
          go_wp2
          go_ret
          exact ⟨rfl, nx B3 B7⟩
        · go_wp2_with fail
          refine hac2.mono ?_
          rintro e W9 ⟨rfl, rfl⟩
          go_wp2_with fail
          refine hac3.mono ?_
          rintro e W8 ⟨rfl, rfl⟩
          go_wp2_with fail
          refine hac4.mono ?_
          rintro e W9 ⟨rfl, rfl⟩
          go_wp2
          go_ret
          exact ⟨rfl, nx B3 B7⟩
      · rw [Bool.true_or]
        go_wp2_with fail
        refine hac2.mono ?_
        rintro e W9 ⟨rfl, rfl⟩
        go_wp2_with fail
        refine hac4.mono ?_
        rintro e W8 ⟨rfl, rfl⟩
        go_wp2
        go_ret
        exact ⟨rfl, nx B3 B7⟩
end Go.Proofs.YtemanednddhfaaaGreatDoor
