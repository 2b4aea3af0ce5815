/- The library's sort of numbers of 32 bits: pdqsort, slices.Sort. -/
import Derived.Deep.Cut
import Derived.Deep.LoopGhost
import Derived.Test.YtbkcbclloemajaaOrdc
import Derived.Test.YtbkcbclloemajaaOrdd
import Derived.Test.YtbkcbclloemajaaOrde
namespace Go.Proofs.Ytbkcbclloemajaa
open Go.RowKit

/-- Where what is left, once sorted, makes the whole sorted. -/
def Fin (i0 j0 : Nat) (d : Array Int) (a c : Nat) (dk : Array Int) : Prop := ∀ R, Sort.PermIn a c dk R → Sort.SortedIn Sort.ltInt a c R → Sort.PermIn i0 j0 d R ∧ Sort.SortedIn Sort.ltInt i0 j0 R
theorem Fin.perm {i0 j0 : Nat} {d : Array Int} {a c : Nat} {dk d1 : Array Int} (h : Fin i0 j0 d a c dk) (hp : Sort.PermIn a c dk d1) : Fin i0 j0 d a c d1 := fun R h1 h2 => h R (Sort.permIn_trans _ _ _ _ _ hp h1) h2
theorem Rw.sized {w0 : World} {b off : Nat} {d d' : Array Int} {W : World} {N : Nat} (_ : Rw w0 b off d' W) (hd : d.size = N) {a c : Nat} (hp : Sort.PermIn a c d d') : d'.size = N := hp.1.trans hd

set_option maxRecDepth 100000 in
set_option maxHeartbeats 16000000 in
theorem pdq_any (w0 : World) (b off cap N : Nat) (hs : N ≤ 1000000) : ∀ (n : Nat) (d : Array Int) (i0 j0 lim : Nat) (W : World), j0 - i0 ≤ n → Rw w0 b off d W → d.size = N → i0 ≤ j0 → j0 ≤ N → lim ≤ 100 → Sort.Below Sort.ltInt i0 j0 d →
    Calls Try.prog 62 #[.slice (some ⟨b, off, none⟩) N cap, .int .i64 i0, .int .i64 j0, .int .i64 lim] W fun e W' => e = .returned (.tuple #[]) ∧ ∃ R, Rw w0 b off R W' ∧ Sort.PermIn i0 j0 d R ∧ Sort.SortedIn Sort.ltInt i0 j0 R := by
  intro n
  induction n with
  | zero =>
    intro d i0 j0 lim W hn h hN hij hj hl hB
    have hz : (j0 : Int) - (i0 : Int) ≤ 12 := by omega
    have hc := ins_any w0 b off cap d i0 j0 W h hij (by omega) (by omega)
    rw [hN] at hc
    have hh := Sort.insertionSort_holds (lt := Sort.ltInt) Sort.swo_ltInt d i0 j0 hij (by omega)
    have HH := hid hh
    clear hh
    go_enter Try.func62, Try.ntmps62
    go_wp2
    go_loopg [1, 2, 3, 8, 9] 1 (fun _ s1 s2 _ _ _ wr => s1 = .int .i64 (i0 : Int) ∧ s2 = .int .i64 (j0 : Int) ∧ wr = W)
    case atStart => exact ⟨rfl, rfl, rfl⟩
    case round =>
      obtain ⟨rfl, rfl, rfl⟩ := hrel
      go_wp2_with fail
      refine hc.mono ?_
      rintro e w1 ⟨rfl, hr1⟩
      go_wp2
      (try simp only [Exit.inBlock, Exit.then])
      refine bodyPost_ret (results_none rfl _ _ _) rfl ?_
      exact ⟨rfl, _, hr1, HH.out.1, HH.out.2⟩
  | succ n ih =>
    intro d i0 j0 lim W hn h hN hij hj hl hB
    have IH := hid ih
    clear ih
    go_enter Try.func62, Try.ntmps62
    go_wp2
    go_loopg [1, 2, 3, 8, 9] (j0 - i0) (fun k s1 s2 s3 s8 s9 wr => ∃ (a c l : Nat) (wb wp : Bool) (dk : Array Int), s1 = .int .i64 (a : Int) ∧ s2 = .int .i64 (c : Int) ∧ s3 = .int .i64 (l : Int) ∧ s8 = .bool wb ∧ s9 = .bool wp ∧ a ≤ c ∧ c ≤ N ∧ l ≤ 100 ∧ c - a ≤ k ∧ c - a ≤ j0 - i0 ∧ Hid (dk.size = N) ∧ Rw w0 b off dk wr ∧ Hid (Sort.Below Sort.ltInt a c dk) ∧ Hid (Fin i0 j0 d a c dk))
    case atStart => exact ⟨i0, j0, lim, true, true, d, rfl, rfl, rfl, rfl, rfl, hij, hj, hl, Nat.le_refl _, Nat.le_refl _, hid hN, h, hid hB, hid fun R h1 h2 => ⟨h1, h2⟩⟩
    case round =>
      obtain ⟨a, c, l, wb, wp, dk, rfl, rfl, rfl, rfl, rfl, hac, hcN, hl1, hk1, hk2, hk, hr, HB, HF⟩ := hrel
      clear h hB
      by_cases h12 : c - a ≤ 12
      · have hz : (c : Int) - (a : Int) ≤ 12 := by omega
        have hc := ins_any w0 b off cap dk a c wr hr hac (by rw [hk.out]; exact hcN) (by rw [hk.out]; exact hs)
        rw [hk.out] at hc
        have HH := hid (HF.out _ (Sort.insertionSort_holds (lt := Sort.ltInt) Sort.swo_ltInt dk a c hac (by rw [hk.out]; exact hcN)).1 (Sort.insertionSort_holds (lt := Sort.ltInt) Sort.swo_ltInt dk a c hac (by rw [hk.out]; exact hcN)).2)
        go_wp2_with fail
        refine hc.mono ?_
        rintro e w1 ⟨rfl, hr1⟩
        go_wp2
        (try simp only [Exit.inBlock, Exit.then])
        refine bodyPost_ret (results_none rfl _ _ _) rfl ?_
        exact ⟨rfl, _, hr1, HH.out.1, HH.out.2⟩
      · have hz : ¬ ((c : Int) - (a : Int) ≤ 12) := by omega
        by_cases hl0 : l = 0
        · subst hl0
          have hc := heap_any w0 b off cap dk a c wr hr hac (by rw [hk.out]; exact hcN) (by rw [hk.out]; exact hs)
          rw [hk.out] at hc
          have HH := hid (HF.out _ (Sort.heapSort_holds (lt := Sort.ltInt) Sort.swo_ltInt dk a c hac (by rw [hk.out]; exact hcN)).1 (Sort.heapSort_holds (lt := Sort.ltInt) Sort.swo_ltInt dk a c hac (by rw [hk.out]; exact hcN)).2)
          go_wp2_with fail
          refine hc.mono ?_
          rintro e w1 ⟨rfl, hr1⟩
          go_wp2
          (try simp only [Exit.inBlock, Exit.then])
          refine bodyPost_ret (results_none rfl _ _ _) rfl ?_
          exact ⟨rfl, _, hr1, HH.out.1, HH.out.2⟩
        · have hlz : ¬ ((l : Int) = 0) := by omega
          have hlb : ((l : Int) == 0) = false := by simpa using hl0
          go_upto_if 35 with fail
          go_cut [3] from 19 (fun s3 wc => ∃ (l' : Nat) (d1 : Array Int), s3 = .int .i64 (l' : Int) ∧ l' ≤ 100 ∧ Hid (d1.size = N) ∧ Rw w0 b off d1 wc ∧ Hid (Sort.PermIn a c dk d1))
          case first =>
            cases wb with
            | true =>
              go_wp2
              go_meet
              exact ⟨l, dk, rfl, hl1, hk, hr, hid (Sort.permIn_refl _ _ _)⟩
            | false =>
              have hc := brk_any w0 b off cap dk a c wr hr (by omega) (by rw [hk.out]; exact hcN) (by rw [hk.out]; exact hs)
              rw [hk.out] at hc
              go_wp2_with fail
              refine hc.mono ?_
              rintro e w1 ⟨rfl, d1, hr1, hp1⟩
              clear hc
              have HP := hid hp1
              clear hp1
              go_wp2
              go_meet
              exact ⟨l - 1, d1, by go_num, by omega, hid (HP.out.1.trans hk.out), hr1, HP⟩
          case rest =>
            obtain ⟨l', d1, rfl, hl2, hkd1, hr1, HP1⟩ := hcut
            have HB1 := hid (HB.out.perm (by rw [hk.out]; exact hcN) HP1.out)
            have HF1 := hid (HF.out.perm HP1.out)
            clear HB HF HP1 hr hk hl0 hlz hlb hl1
            have hpv := pivot_any w0 b off cap d1 a c wc hr1 (by omega) (by rw [hkd1.out]; exact hcN) (by rw [hkd1.out]; exact hs)
            rw [hkd1.out] at hpv
            go_upto_if 50 with (go_at_call 69; refine hpv.mono ?_; rintro e w2 ⟨x, t, rfl, hx1, hx2, ht, hr2⟩)
            clear hpv
            go_cut [11, 12] from 19 (fun s11 s12 wc => ∃ (x : Nat) (t : Int) (d2 : Array Int), s11 = .int .i64 (x : Int) ∧ s12 = .int .i64 t ∧ a ≤ x ∧ x < c ∧ (t = 0 ∨ t = 1) ∧ Hid (d2.size = N) ∧ Rw w0 b off d2 wc ∧ Hid (Sort.PermIn a c d1 d2))
            case first =>
              rcases ht with rfl | rfl | rfl
              · go_wp2
                go_meet
                exact ⟨x, 0, d1, rfl, rfl, hx1, hx2, .inl rfl, hkd1, hr2, hid (Sort.permIn_refl _ _ _)⟩
              · go_wp2
                go_meet
                exact ⟨x, 1, d1, rfl, rfl, hx1, hx2, .inr rfl, hkd1, hr2, hid (Sort.permIn_refl _ _ _)⟩
              · have hc := rev_any w0 b off cap d1 a c w2 hr2 (by omega) (by rw [hkd1.out]; exact hcN) (by rw [hkd1.out]; exact hs)
                rw [hkd1.out] at hc
                go_wp2_with fail
                refine hc.mono ?_
                rintro e w1 ⟨rfl, d2, hr3, hp1⟩
                clear hc
                have HP := hid hp1
                clear hp1
                go_wp2
                go_meet
                exact ⟨c - 1 - (x - a), 1, d2, by go_num, rfl, by omega, by omega, .inr rfl, hid (HP.out.1.trans hkd1.out), hr3, HP⟩
            case rest =>
              clear ht hx1 hx2 hr2
              rename World => wc2
              obtain ⟨x, t, d2, rfl, rfl, hx1, hx2, ht, hkd2, hr2, HP2⟩ := hcut
              have HB2 := hid (HB1.out.perm (by rw [hkd1.out]; exact hcN) HP2.out)
              have HF2 := hid (HF1.out.perm HP2.out)
              clear HB1 HF1 HP2 hr1 hkd1
              go_upto_region 15 with fail
              go_cut [68] from 19 (fun s68 wx => ∃ bb : Bool, s68 = .bool bb ∧ wx = wc2)
              case first =>
                cases wb <;> cases wp <;> rcases ht with rfl | rfl <;> (go_wp2; go_meet; exact ⟨_, rfl, rfl⟩)
              case rest =>
                clear ht
                rename World => wx
                obtain ⟨bb, rfl, rfl⟩ := hcut
                go_upto_if 68 with fail
                go_cut [] from 19 (fun wx => ∃ d3 : Array Int, Hid (d3.size = N) ∧ Rw w0 b off d3 wx ∧ Hid (Sort.PermIn a c d2 d3))
                case first =>
                  cases bb with
                  | false =>
                    go_wp2
                    go_meet
                    exact ⟨d2, hkd2, hr2, hid (Sort.permIn_refl _ _ _)⟩
                  | true =>
                    have hc := pins_any w0 b off cap d2 a c _ hr2 (by omega) (by rw [hkd2.out]; exact hcN) (by rw [hkd2.out]; exact hs)
                    rw [hkd2.out] at hc
                    have HH := hid (Sort.partialInsertionSort_holds (lt := Sort.ltInt) Sort.swo_ltInt d2 a c (by omega) (by rw [hkd2.out]; exact hcN) HB2.out)
                    go_wp2_with fail
                    refine hc.mono ?_
                    rintro e w1 ⟨d3, r, rfl, he, hr3⟩
                    clear hc
                    have HP : Hid (Sort.PermIn a c d2 d3) := hid (by have := HH.out.1; rw [he] at this; exact this)
                    have HS : Hid (r = true → Sort.SortedIn Sort.ltInt a c d3) := hid (by have := HH.out.2; rw [he] at this; exact this)
                    clear HH he
                    cases r with
                    | true =>
                      have HE := hid (HF2.out d3 HP.out (HS.out rfl))
                      clear HS
                      go_wp2
                      (try simp only [Exit.inBlock, Exit.then])
                      refine bodyPost_ret (results_none rfl _ _ _) rfl ?_
                      exact ⟨rfl, _, hr3, HE.out.1, HE.out.2⟩
                    | false =>
                      clear HS
                      go_wp2
                      go_meet
                      exact ⟨d3, hid (HP.out.1.trans hkd2.out), hr3, HP⟩
                case rest =>
                  rename World => wx3
                  obtain ⟨d3, hkd3, hr3, HP3⟩ := hcut
                  have HB3 := hid (HB2.out.perm (by rw [hkd2.out]; exact hcN) HP3.out)
                  have HF3 := hid (HF2.out.perm HP3.out)
                  clear HB2 HF2 HP3 hr2 hkd2
                  obtain ⟨G, HG, hc, hf⟩ := hr3.fam hkd3.out
                  go_upto_region 17 with fail
                  go_cut [87] from 19 (fun s87 wx => ∃ bb : Bool, s87 = .bool bb ∧ Rw w0 b off d3 wx ∧ Hid (bb = true → 0 < a ∧ Sort.ltInt d3[a - 1]! d3[x]! = false))
                  case first =>
                    by_cases ha0 : 0 < a
                    · have ha0z : (0 : Int) < (a : Int) := by omega
                      go_big_quiet (first | (go_at_call 72; refine Calls.quiet_of_same (less_any _ _ _)))
                      go_wp2
                      go_meet
                      exact ⟨_, rfl, hr3.draw nq, hid fun h9 => ⟨ha0, by rw [← HG.out, ← HG.out]; simpa using h9⟩⟩
                    · have hd : decide ((0 : Int) < (a : Int)) = false := by simp; omega
                      have hd2 : decide (0 < a) = false := by simp; omega
                      go_big_quiet (first | (go_at_call 72; refine Calls.quiet_of_same (less_any _ _ _)))
                      go_wp2
                      go_meet
                      exact ⟨false, rfl, hr3.draw nq, hid fun h9 => by cases h9⟩
                  case rest =>
                    rename World => wx4
                    clear hc hf HG hr3
                    obtain ⟨bb, rfl, hr3, HT⟩ := hcut
                    cases bb with
                    | true =>
                      have hcl := parteq_any w0 b off cap d3 a c x wx4 hr3 hx1 hx2 (by rw [hkd3.out]; exact hcN) (by rw [hkd3.out]; exact hs)
                      rw [hkd3.out] at hcl
                      go_wp2_with fail
                      refine hcl.mono ?_
                      rintro e w1 ⟨mid, d4, rfl, he, hr4⟩
                      clear hcl
                      have HR := hid (Sort.round_eq Sort.swo_ltInt (Sort.partitionEqual_holds _) (HT.out (by first | trivial | rfl)).1 hx1 hx2 (by rw [hkd3.out]; exact hcN) HB3.out (HT.out (by first | trivial | rfl)).2 he)
                      have hm1 : a < mid := HR.out.1
                      have hm2 : mid ≤ c := HR.out.2.1
                      have hkd4 : Hid (d4.size = N) := hid (HR.out.2.2.1.trans hkd3.out)
                      have HB4 := hid HR.out.2.2.2.1
                      have HF4 : Hid (Fin i0 j0 d mid c d4) := hid fun R h1 h2 => HF3.out R (HR.out.2.2.2.2 R h1 h2).1 (HR.out.2.2.2.2 R h1 h2).2
                      clear HR he HT HB3 HF3 hr3
                      go_wp2
                      go_roundg (c - mid)
                      case measure => omega
                      case rel => exact ⟨mid, c, l', wb, wp, d4, rfl, rfl, rfl, rfl, rfl, hm2, hcN, hl2, Nat.le_refl _, by omega, hkd4, hr4, HB4, HF4⟩
                    | false =>
                      have hcl := part_any w0 b off cap d3 a c x wx4 hr3 hx1 hx2 (by rw [hkd3.out]; exact hcN) (by rw [hkd3.out]; exact hs)
                      rw [hkd3.out] at hcl
                      clear HT
                      go_wp2_with fail
                      refine hcl.mono ?_
                      rintro e w1 ⟨mid, al, d4, rfl, he, hr4⟩
                      clear hcl
                      have HR := hid (Sort.round_part Sort.swo_ltInt (Sort.partition_holds _) hx1 hx2 (by rw [hkd3.out]; exact hcN) HB3.out he)
                      have hm1 : a ≤ mid := HR.out.1
                      have hm2 : mid < c := HR.out.2.1
                      have hkd4 : Hid (d4.size = N) := hid (HR.out.2.2.1.trans hkd3.out)
                      have HBl := hid HR.out.2.2.2.1
                      have HBr := hid HR.out.2.2.2.2.1
                      have HL := hid HR.out.2.2.2.2.2.1
                      have HR2 := hid HR.out.2.2.2.2.2.2
                      clear HR he HB3 hr3
                      by_cases hlt : mid - a < c - mid
                      · have hltz : (mid : Int) - (a : Int) < (c : Int) - (mid : Int) := by omega
                        have hcl := IH.out d4 a mid l' w1 (by omega) hr4 hkd4.out hm1 (by omega) hl2 HBl.out
                        go_wp2_with fail
                        refine hcl.mono ?_
                        rintro e w5 ⟨rfl, R, hr5, hp5, hs5⟩
                        clear hcl
                        have HX := hid (HL.out R hp5 hs5)
                        have hkR : Hid (R.size = N) := hid (hp5.1.trans hkd4.out)
                        have HF5 : Hid (Fin i0 j0 d (mid + 1) c R) := hid fun R' h1 h2 => HF3.out R' (HX.out.2 R' h1 h2).1 (HX.out.2 R' h1 h2).2
                        have HB5 := hid HX.out.1
                        clear HX hp5 hs5 HL HR2 HBl HBr HF3
                        go_wp2
                        go_roundg (c - (mid + 1))
                        case measure => omega
                        case rel => exact ⟨mid + 1, c, l', _, al, R, by go_num, rfl, rfl, rfl, rfl, by omega, hcN, hl2, Nat.le_refl _, by omega, hkR, hr5, HB5, HF5⟩
                      · have hltz : ¬ ((mid : Int) - (a : Int) < (c : Int) - (mid : Int)) := by omega
                        have hcl := IH.out d4 (mid + 1) c l' w1 (by omega) hr4 hkd4.out (by omega) hcN hl2 HBr.out
                        rw [show (((mid + 1 : Nat) : Int)) = (mid : Int) + 1 by omega] at hcl
                        go_wp2_with fail
                        refine hcl.mono ?_
                        rintro e w5 ⟨rfl, R, hr5, hp5, hs5⟩
                        clear hcl
                        have HX := hid (HR2.out R hp5 hs5)
                        have hkR : Hid (R.size = N) := hid (hp5.1.trans hkd4.out)
                        have HF5 : Hid (Fin i0 j0 d a mid R) := hid fun R' h1 h2 => HF3.out R' (HX.out.2 R' h1 h2).1 (HX.out.2 R' h1 h2).2
                        have HB5 := hid HX.out.1
                        clear HX hp5 hs5 HL HR2 HBl HBr HF3
                        go_wp2
                        go_roundg (mid - a)
                        case measure => omega
                        case rel => exact ⟨a, mid, l', _, al, R, rfl, rfl, rfl, rfl, rfl, hm1, by omega, hl2, Nat.le_refl _, by omega, hkR, hr5, HB5, HF5⟩
end Go.Proofs.Ytbkcbclloemajaa
