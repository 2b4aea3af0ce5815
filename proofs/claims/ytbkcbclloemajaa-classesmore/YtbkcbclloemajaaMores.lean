/- ClassesMore. -/
import Derived.Test.YtbkcbclloemajaaMethc
namespace Go.Proofs.Ytbkcbclloemajaa
open Go.RowKit Go.Shelf

set_option maxRecDepth 100000 in
set_option maxHeartbeats 2000000 in
theorem more_any (sao : Option Addr) (cap : Nat) (ls : List L3) (hcap : ls.length ≤ cap) (hl : ls.length ≤ 9223372036854775807) (hsn : sao = none → cap = 0) (bo : Option Addr) (cb : Nat) (ys : List S.R) (hyl : ys.length ≤ 9223372036854775807) (w : World) (hrd : RdS w sao ls) (hry : RdR w bo ys) :
    Calls Try.prog 7 #[.slice sao ls.length cap, .slice bo ys.length cb] w fun e w' => e = .returned (.bool true) ∧ Below w.heap.size w w' := by
  go_enter Try.func7, Try.ntmps7
  go_wp2_with fail
  refine (known_any w).mono ?_
  rintro e w1 ⟨rfl, hb1⟩
  go_wp2_with fail
  refine (few_any sao cap ls hl w1 (hrd.later hb1)).mono ?_
  rintro e w2 ⟨rfl, rfl⟩
  cases hf : fewB ls with
  | false =>
    go_wp2_with fail
    go_ret
    exact ⟨rfl, hb1⟩
  | true =>
    obtain ⟨h20, h70⟩ := few_each hf
    clear hf
    by_cases h10 : ls.length ≤ 10
    · by_cases hy20 : ys.length ≤ 20
      · go_wp2_with fail
        refine (cut_tel sao cap ls hcap (fun p hp => by have := h20 p hp; omega) w2 (hrd.later hb1)).mono ?_
        rintro e w3 ⟨rfl, hT, hb3⟩
        rw [List.take_of_length_le (by omega)] at hT
        have hB3 := nx hb1 hb3
        have hrd3 := hrd.later hB3
        have hry3 := hry.later hB3
        generalize hpc : w2.heap.size = pc at hT ⊢
        clear hpc hb1 hb3 hrd hry
        go_wp2_with (first
          | (at_builtin; refine wpl_appN rfl _ _ rfl sao cap ls rfl rfl hrd3 hsn (by omega) ?_; intro v4 w4 ho4 hb4; have hb5 := al1 w4 (.cells #[.slice bo ys.length cb] 35); have hc5 := (Boxed.new w4 35 (.slice bo ys.length cb)).cell; have ho5 := own_same ho4 (fun g hg => hb5.block g (ho4.lt g hg).2); have hle5 := Nat.le_trans hb4.size hb5.size)
          | (at_builtin; refine wpl_appS rfl _ _ rfl w3.heap.size _ ls.length (ls.map encL) w4.heap.size (.slice bo ys.length cb) rfl rfl hc5 rfl ho5 hle5 (by omega) ?_; intro v6 w6 ho6 hch6))
        have hb36 : Below w3.heap.size w3 w6 := below_chg (nx hb4 hb5) hch6 (Nat.le_refl _) (fun j hj e => by have := (ho5.lt j e.symm).1; omega)
        have hB6 := nx hB3 hb36
        have hT6 := hT.later hb36
        obtain ⟨L2, hL2⟩ : ∃ L2, L2 = ls ++ [(bo, cb, ys)] := ⟨_, rfl⟩
        have hl2 : L2.length = ls.length + 1 := by rw [hL2]; simp
        obtain ⟨sao2, cap2, hv, hcap2, hrd6⟩ := row_rds (ls := L2) (by rw [hl2, hL2, List.map_append]; exact ho6) (fun p hp => by
          rw [hL2] at hp
          rcases List.mem_append.1 hp with h | h
          · obtain ⟨j, hj, rfl⟩ := List.getElem_of_mem h
            obtain ⟨_, _, _, _, hr⟩ := hrd3 j hj
            exact hr.later hb36
          · obtain rfl : p = (bo, cb, ys) := by simpa using h
            exact hry3.later hb36)
        subst hv
        have h202 : ∀ p ∈ L2, p.2.2.length ≤ 5000 := fun p hp => by
          rw [hL2] at hp
          rcases List.mem_append.1 hp with h | h
          · have := h20 p h; omega
          · obtain rfl : p = (bo, cb, ys) := by simpa using h
            simp only; omega
        have HML := hide (more_len (L := ls) (by omega) (bo, cb, ys))
        rw [← hL2] at HML
        clear ho4 ho5 ho6 hch6 hc5 hle5 hb4 hb5 hT hB3 hrd3 hry3 hL2
        have hpcl := PC_len2 ls (by omega) 20 h20
        have hpcl2 : (PC ls).length ≤ 401 := by omega
        have hml : (msL ls).length ≤ 401 := Nat.le_trans (msOf_length _) hpcl2
        have hsl := fun j => Nat.le_trans (setL_len2 ls j) hpcl2
        clear hpcl hpcl2 h20 h70
        refine (cut_tel sao2 cap2 L2 hcap2 h202 _ hrd6).mono ?_
        rintro e w7 ⟨rfl, hTd, hb7⟩
        rw [List.take_of_length_le (by omega)] at hTd
        have hT7 := hT6.later hb7
        have hB7 := nx hB6 hb7
        generalize hpd : w6.heap.size = pd at hTd ⊢
        clear hpd hT6 hB6 hb7 hrd6 h202 hcap2 hb36
        have hlc := fun w' (h : Tel w' pc ls) => tel_len h
        have hld := tel_len hTd
        obtain ⟨n, hn⟩ : ∃ n, (msL ls).length = n := ⟨_, rfl⟩
        obtain ⟨d, hd⟩ : ∃ d, (msL L2).length = d := ⟨_, rfl⟩
        rw [hn] at hml HML
        rw [hd] at hld HML
        simp only [hn] at hlc
        have hd1 := HML.out.1
        have hd2 := HML.out.2
        have HN := hide hn
        clear HML hd hn
        go_wp2_with fail
        refine hld.mono ?_
        rintro e w8 ⟨rfl, rfl⟩
        go_wp2_with fail
        refine (hlc _ hT7).mono ?_
        rintro e w9 ⟨rfl, rfl⟩
        go_wp2_with fail
        refine hld.mono ?_
        rintro e w10 ⟨rfl, rfl⟩
        go_wp2_with fail
        refine (hlc _ hT7).mono ?_
        rintro e w11 ⟨rfl, rfl⟩
        clear hld hTd
        go_wp2_with fail
        have e1 : decide ((10 : Int) < (ls.length : Int)) = false := by simp; omega
        have e2 : decide ((20 : Int) < (ys.length : Int)) = false := by simp; omega
        have e4 : decide (2 * (n : Int) < (d : Int)) = false := by simp; omega
        have e3 : decide (d < n) = false := by simp; omega
        try simp only [e1, e2, e3, e4, Bool.or_self]
        clear e1 e2 e3 e4
        go_loopw [7, 8] (fun v u wr => ∃ (i : Nat) (lo : List L3), u = .int .i64 (i : Int) ∧ i ≤ n ∧ i ≤ 64 ∧ lo.length = i ∧ Rl wr w11.heap.size v lo ∧ Hid (TOf lo = (List.range i).map fun k : Nat => setL ls (k : Int)) ∧ Below w11.heap.size w11 wr) (fun _ u _ => 64 - (intOf u).toNat)
        case atStart => exact ⟨0, [], rfl, Nat.zero_le _, Nat.zero_le _, rfl, ⟨World.ownsRow_nil _ _ _ _, fun p hp => by simp at hp, Nat.le_refl _⟩, hide rfl, Below.refl _ _⟩
        case round =>
          obtain ⟨i, lo, rfl, hi, hi64, hlo, hR, HTo, hb⟩ := hrel
          have hT := hT7.later hb
          go_wp2_with fail
          refine (hlc _ hT).mono ?_
          rintro e w12 ⟨rfl, rfl⟩
          have HLO := hide hlo
          have hll : lo.length ≤ 64 := by omega
          clear hlo
          by_cases hlt : i < n
          · by_cases h64 : i < 64
            · have hset := tel_set_own hT (i := i) (by rw [HN.out]; exact hlt)
              have hsi := hsl (i : Int)
              obtain ⟨xs, hxs⟩ : ∃ xs, xs = setL ls (i : Int) := ⟨_, rfl⟩
              rw [← hxs] at hset hsi
              have HXS := hide hxs
              clear hxs
              go_wp2_with fail
              refine hset.mono ?_
              clear hset
              rintro e w13 ⟨v13, rfl, ho13, hb13⟩
              obtain ⟨a13, c13, rfl, -, -, -⟩ := own_slice ho13
              have hb14 := al1 w13 (.cells #[.slice a13 xs.length c13] 35)
              have hc14 := (Boxed.new w13 35 (.slice a13 xs.length c13)).cell
              have hR14 := hR.later (nx hb13 hb14)
              have ho14 := OwnR.later ho13 hb14
              have hB14 := nx hb (nx hb13 hb14)
              clear hR ho13 hb13 hb14 hb hT
              go_wp2_with (at_builtin; refine wpl_appS rfl _ _ rfl w11.heap.size _ lo.length (lo.map encL) w13.heap.size (.slice a13 xs.length c13) rfl rfl hc14 rfl hR14.row hR14.le (by omega) ?_; intro v15 w15 ho15 hch15)
              go_roundw
              case rel =>
                refine ⟨i + 1, lo ++ [(a13, c13, xs)], by go_num, by omega, by omega, by rw [List.length_append, HLO.out]; rfl, hR14.snoc (p := (a13, c13, xs)) ho14 ho15 hch15, hide ?_, below_chg hB14 hch15 (Nat.le_refl _) (fun j hj e => by have := (hR14.row.lt j e.symm).1; omega)⟩
                rw [List.range_succ, List.map_append, ← HTo.out]
                simp [TOf, HXS.out]
              case measure => simp [intOf]; omega
            · obtain rfl : i = 64 := by omega
              go_wp2_with fail
              refine (hlc _ hT).mono ?_
              rintro e w20 ⟨rfl, rfl⟩
              have hB20 := nx hB7 hb
              go_wp2_with fail
              go_ret
              exact ⟨rfl, hB20⟩
          · obtain rfl : i = n := by omega
            obtain ⟨sao3, cap3, hv, hcap3, hrd20⟩ := hR.rds
            subst hv
            have h5000 : ∀ p ∈ lo, p.2.2.length ≤ 5000 := fun p hp => by
              have hp2 : p.2.2 ∈ TOf lo := List.mem_map.2 ⟨p, hp, rfl⟩
              rw [HTo.out] at hp2
              obtain ⟨k, _, e⟩ := List.mem_map.1 hp2
              have := hsl (k : Int)
              rw [← e]
              omega
            go_wp2_with fail
            refine (hlc _ hT).mono ?_
            rintro e w20 ⟨rfl, rfl⟩
            go_wp2_with fail
            refine (cut_tel sao3 cap3 lo hcap3 h5000 _ hrd20).mono ?_
            rintro e w21 ⟨rfl, hTe, hb21⟩
            rw [List.take_of_length_le (by omega)] at hTe
            have hTc := hT.later hb21
            have hB21 := nx (nx hB7 hb) hb21
            have HO : Hid (TOf lo = (List.range (msL ls).length).map fun k : Nat => setL ls (k : Int)) := hide (by rw [HN.out]; exact HTo.out)
            have HLO2 : Hid (lo.length = (msL ls).length) := hide (by rw [HN.out]; exact HLO.out)
            have hmle : (msL lo).length = i := by rw [own_ms (by omega) (by rw [HN.out]; omega) HLO2.out HO.out, List.length_map]; exact HN.out
            have hpl := PC_len2 lo (by omega) 401 (fun p hp => by
              have hp2 : p.2.2 ∈ TOf lo := List.mem_map.2 ⟨p, hp, rfl⟩
              rw [HTo.out] at hp2
              obtain ⟨k, _, e⟩ := List.mem_map.1 hp2
              have := hsl (k : Int)
              rw [← e]
              exact this)
            have hpl2 : (PC lo).length ≤ 51329 := by
              have : lo.length * (2 * 401) ≤ 64 * (2 * 401) := Nat.mul_le_mul_right _ hll
              omega
            have hsl2 := fun j => Nat.le_trans (setL_len2 lo j) hpl2
            have hle := tel_len hTe
            rw [hmle] at hle
            have HSET : Hid (∀ j : Nat, j < i → S.set (setL lo (j : Int)) = S.set (setL ls (j : Int))) := hide fun j hj => own_set (by omega) (by rw [HN.out]; omega) HLO2.out HO.out (by rw [HN.out]; exact hj)
            generalize hpe : w20.heap.size = pe at hTe hle ⊢
            clear hpe hrd20 hcap3 h5000 hb21 hT hb hpl hpl2 hmle hR hT7 hB7
            go_wp2_with fail
            refine hle.mono ?_
            rintro e w22 ⟨rfl, rfl⟩
            go_wp2_with fail
            refine (hlc _ hTc).mono ?_
            rintro e w23 ⟨rfl, rfl⟩
            go_wp2_with fail
            go_loopw [10] (fun u wr => ∃ j : Nat, u = .int .i64 (j : Int) ∧ j ≤ i ∧ Below w23.heap.size w23 wr) (fun u _ => i - (intOf u).toNat)
            case atStart => exact ⟨0, rfl, Nat.zero_le _, Below.refl _ _⟩
            case round =>
              obtain ⟨j, rfl, hj, hb⟩ := hrel
              have hTc2 := hTc.later hb
              have hTe2 := hTe.later hb
              go_wp2_with fail
              refine (hlc _ hTc2).mono ?_
              rintro e w24 ⟨rfl, rfl⟩
              by_cases hji : j < i
              · have hs1 := tel_set hTe2 (j : Int)
                have hs2 := fun w' (h : Tel w' pc ls) => tel_set h (j : Int)
                have hx1 := hsl2 (j : Int)
                have hx2 := hsl (j : Int)
                have HEQ := hide (HSET.out j hji)
                obtain ⟨z1, hz1⟩ : ∃ z1, setL lo (j : Int) = z1 := ⟨_, rfl⟩
                obtain ⟨z2, hz2⟩ : ∃ z2, setL ls (j : Int) = z2 := ⟨_, rfl⟩
                rw [hz1] at hs1 hx1 HEQ
                rw [hz2] at hx2 HEQ
                simp only [hz2] at hs2
                clear hz1 hz2
                go_wp2_with fail
                refine hs1.mono ?_
                clear hs1
                rintro e w25 ⟨a1, c1, rfl, hr1, -, hb25⟩
                go_wp2_with fail
                refine (hs2 _ (hTc2.later hb25)).mono ?_
                clear hs2
                rintro e w26 ⟨a2, c2, rfl, hr2, -, hb26⟩
                go_wp2_with fail
                refine (same_any a1 a2 c1 c2 z1 z2 (by omega) (by omega) w26 (hr1.later hb26) hr2).mono ?_
                rintro e w27 ⟨⟨bb, rfl, htold⟩, hb27⟩
                obtain rfl : bb = true := htold.2 HEQ.out
                have hB27 := nx hb (nx hb25 (nx hb26 hb27))
                clear hb25 hb26 hb27 hr1 hr2 htold hb hTc2 hTe2
                go_wp2_with fail
                go_roundw
                case rel => exact ⟨j + 1, by go_num, by omega, hB27⟩
                case measure => simp [intOf]; omega
              · obtain rfl : j = i := by omega
                have hB28 := nx hB21 hb
                go_wp2_with fail
                go_ret
                exact ⟨rfl, hB28⟩
      · have hy' : 20 < ys.length := by omega
        go_wp2_with fail
        go_ret
        exact ⟨rfl, hb1⟩
    · have h10' : 10 < ls.length := by omega
      go_wp2_with fail
      go_ret
      exact ⟨rfl, hb1⟩
end Go.Proofs.Ytbkcbclloemajaa
