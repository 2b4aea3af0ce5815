/- ClassesUnite. -/
import Derived.Test.YtbkcbclloemajaaKnown
import Derived.Test.YtbkcbclloemajaaSame
namespace Go.Proofs.Ytbkcbclloemajaa
open Go.RowKit Go.Shelf

theorem PC_len2 (L : List L3) (h : L.length ≤ 64) (m : Nat) (h2 : ∀ p ∈ L, p.2.2.length ≤ m) : (PC L).length ≤ L.length * (2 * m) + 1 := by
  have h3 := (pieces_in (endsZ_in L h)).1
  have h4 := ksOf_length (endsL L)
  have h5 := evT_length (T := TOf L) (m := m) (fun x hx => by obtain ⟨p, hp, rfl⟩ := List.mem_map.1 hx; exact h2 p hp) L.length
  have h6 : (endsZ L).length = (ksOf (endsL L)).length := by unfold endsZ; rw [List.length_map]
  unfold PC
  unfold endsL at *
  omega
theorem setL_len2 (L : List L3) (j : Int) : (setL L j).length ≤ (PC L).length := by
  unfold setL
  split
  · cases (msL L)[j.toNat]? with
    | none => simp
    | some m =>
      simp only [Option.map_some, Option.getD_some]
      unfold stL setsOf
      rw [List.length_map]
      exact List.length_filter_le _ _
  · simp
theorem few_each {ls : List L3} (h : fewB ls = true) : (∀ p ∈ ls, p.2.2.length ≤ 20) ∧ ls.length ≤ 70 := by
  unfold fewB at h
  simp only [Bool.and_eq_true, decide_eq_true_eq] at h
  exact ⟨fun p hp => by simpa using List.all_eq_true.1 h.1 p hp, h.2⟩
/-- The first i classes that set k has, together. -/
def Uni (L : List L3) (k i : Nat) (z : List S.R) : Prop := ∀ p, S.hs z p ↔ ∃ j, ∃ hj : j < (msL L).length, j < i ∧ (msL L)[j].testBit k = true ∧ 0 ≤ p ∧ p ≤ 1114111 ∧ mkL L p = (msL L)[j]

theorem mkL_bit (L : List L3) (p : Int) (k : Nat) (hk : k < L.length) : (mkL L p).testBit k = S.hB L[k].2.2 p := by
  unfold mkL
  rw [mk_bit, TOf_at L k hk]
  simp [hk]
theorem uni_end {L : List L3} (h : L.length ≤ 64) {k : Nat} (hk : k < L.length) {z : List S.R} (hz : Uni L k (msL L).length z) : S.set z = S.set (S.set (L[k].2.2 ++ [])) := by
  refine S.canon_eq (S.set_canon _) (S.set_canon _) fun p => ?_
  rw [S.set_has, S.set_has, (S.set_canon _).hs, S.set_has, List.append_nil, hz p]
  constructor
  · rintro ⟨j, hj, _, h1, h2, h3, h4⟩
    rw [← h4, mkL_bit L p k hk, S.hB_iff] at h1
    exact h1
  · intro hp
    have hb := S.hs_bounds hp
    have hm : mkL L p ∈ msL L := (msL_mem h _).2 ⟨p, hb.1, hb.2, rfl⟩
    obtain ⟨j, hj, e⟩ := List.getElem_of_mem hm
    refine ⟨j, hj, hj, ?_, hb.1, hb.2, e.symm⟩
    rw [e, mkL_bit L p k hk, S.hB_iff]
    exact hp
theorem uni_no {L : List L3} {k i : Nat} {z : List S.R} (h : Uni L k i z) (hi : i < (msL L).length) (hb : (msL L)[i].testBit k = false) : Uni L k (i + 1) z := fun p => by
  rw [h p]
  constructor
  · rintro ⟨j, hj, h1, h2⟩
    exact ⟨j, hj, by omega, h2⟩
  · rintro ⟨j, hj, h1, h2, h3⟩
    refine ⟨j, hj, ?_, h2, h3⟩
    rcases Nat.lt_or_ge j i with h4 | h4
    · exact h4
    · obtain rfl : j = i := by omega
      rw [hb] at h2
      cases h2
theorem uni_yes {L : List L3} (hl : L.length ≤ 64) {k i : Nat} {z : List S.R} (h : Uni L k i z) (hi : i < (msL L).length) (hb : (msL L)[i].testBit k = true) : Uni L k (i + 1) (S.set (z ++ setL L (i : Int))) := fun p => by
  rw [(S.set_canon _).hs, S.set_has, S.hs_append, h p, setL_hs hl hi]
  constructor
  · rintro (⟨j, hj, h1, h2⟩ | h1)
    · exact ⟨j, hj, by omega, h2⟩
    · exact ⟨i, hi, by omega, hb, h1⟩
  · rintro ⟨j, hj, h1, h2, h3⟩
    rcases Nat.lt_or_ge j i with h4 | h4
    · exact .inl ⟨j, hj, h4, h2, h3⟩
    · obtain rfl : j = i := by omega
      exact .inr h3

set_option maxRecDepth 100000 in
set_option maxHeartbeats 2000000 in
theorem unite_any (sao : Option Addr) (cap : Nat) (ls : List L3) (q : Nat) (hq : q ≤ 255) (hcap : ls.length ≤ cap) (hl : ls.length ≤ 9223372036854775807) (w : World) (hrd : RdS w sao ls) :
    Calls Try.prog 5 #[.slice sao ls.length cap, .int .u8 (q : Int)] w fun e w' => e = .returned (.bool true) ∧ Below w.heap.size w w' := by
  go_enter Try.func5, Try.ntmps5
  go_wp2_with fail
  refine (known_any w).mono ?_
  rintro e w1 ⟨rfl, hb1⟩
  go_wp2_with fail
  refine (few_any sao cap ls hl w1 (hrd.later hb1)).mono ?_
  rintro e w2 ⟨rfl, rfl⟩
  cases hf : fewB ls with
  | false =>
    go_wp2_with fail
    go_ret
    exact ⟨rfl, hb1⟩
  | true =>
    obtain ⟨h20, h70⟩ := few_each hf
    clear hf
    by_cases h15 : ls.length ≤ 15
    · by_cases h0 : 0 < ls.length
      · have hne : ((ls.length : Int) == 0) = false := by
          rw [beq_eq_false_iff_ne]
          omega
        go_wp2_with fail
        refine (cut_tel sao cap ls hcap (fun p hp => by have := h20 p hp; omega) w2 (hrd.later hb1)).mono ?_
        rintro e w3 ⟨rfl, hT, hb3⟩
        rw [List.take_of_length_le (by omega)] at hT
        have hkl : q % ls.length < ls.length := Nat.mod_lt _ h0
        have hrd3 := hrd.later (nx hb1 hb3)
        have hB3 := nx hb1 hb3
        obtain ⟨k, hk⟩ : ∃ k, q % ls.length = k := ⟨_, rfl⟩
        have hkm : (q : Int) % (ls.length : Int) = (k : Int) := by rw [← hk]; rfl
        rw [hk] at hkl
        have h20k := h20 _ (List.getElem_mem hkl)
        have hpc := PC_len2 ls (by omega) 20 h20
        have hpcl : (PC ls).length ≤ 601 := by omega
        have hml : (msL ls).length ≤ 601 := Nat.le_trans (msOf_length _) hpcl
        have hsl := fun j => Nat.le_trans (setL_len2 ls j) hpcl
        clear hk hpc hpcl hne hb1 hb3 hrd h20 h70
        have HU0 : Hid (Uni ls k 0 []) := hide fun p => by
          constructor
          · rintro ⟨r, hr, _⟩; simp [S.goods] at hr
          · rintro ⟨j, _, hj, _⟩; omega
        have HKM := hide hkm
        clear hkm
        go_wp2_with fail
        rw [HKM.out]
        clear HKM
        go_loopw [7, 8] (fun v u wr => ∃ (i : Nat) (a : Option Addr) (c : Nat) (z : List S.R), v = .slice a z.length c ∧ u = .int .i64 (i : Int) ∧ i ≤ (msL ls).length ∧ z.length ≤ i * 601 ∧ RdR wr a z ∧ Hid (Uni ls k i z) ∧ Tel wr w2.heap.size ls ∧ Below w.heap.size w wr ∧ RdS wr sao ls) (fun _ u _ => (msL ls).length - (intOf u).toNat)
        case atStart => exact ⟨0, none, 0, [], rfl, rfl, Nat.zero_le _, by simp, rdr_nil _ _, HU0, hT, hB3, hrd3⟩
        case round =>
          clear hT hB3 hrd3 HU0
          obtain ⟨i, a, c, z, rfl, rfl, hi, hzl, hrz, HU, hT, hB, hrd⟩ := hrel
          go_wp2_with fail
          refine (tel_len hT).mono ?_
          rintro e w4 ⟨rfl, rfl⟩
          by_cases hlt : i < (msL ls).length
          · go_wp2_with fail
            have hin := tel_in hT (i : Int) (k : Int)
            rw [decide_eq_true (by omega : 0 ≤ (i : Int)), decide_eq_true (by omega : 0 ≤ (k : Int)), decide_eq_true (by omega : (k : Int) < ls.length), Int.toNat_natCast, Int.toNat_natCast, List.getElem?_eq_getElem hlt] at hin
            simp only [Bool.true_and, Option.getD_some] at hin
            have HY := hide fun h => uni_yes (by omega) HU.out hlt h
            have HN := hide fun h => uni_no HU.out hlt h
            obtain ⟨b, hb⟩ : ∃ b, (msL ls)[i].testBit k = b := ⟨_, rfl⟩
            rw [hb] at hin HY HN
            clear hb
            refine hin.mono ?_
            clear hin
            rintro e w5 ⟨rfl, rfl⟩
            cases b with
            | false =>
              go_wp2_with fail
              go_roundw
              case rel => exact ⟨i + 1, a, c, z, rfl, by go_num, by omega, by omega, hrz, hide (HN.out trivial), hT, hB, hrd⟩
              case measure => simp [intOf]; omega
            | true =>
              go_wp2_with fail
              refine (tel_set hT (i : Int)).mono ?_
              rintro e w6 ⟨a6, c6, rfl, hr6, _, hb6⟩
              have hs6 := hsl (i : Int)
              go_wp2_with fail
              refine (union_any a a6 c c6 z (setL ls (i : Int)) (by omega) w6 (hrz.later hb6) hr6).mono ?_
              rintro e w7 ⟨a7, c7, rfl, hr7, _, hb7⟩
              have hs7 := S.set_length (z ++ setL ls (i : Int))
              rw [List.length_append] at hs7
              have hb67 := nx hb6 hb7
              go_wp2_with fail
              go_roundw
              case rel => exact ⟨i + 1, a7, c7, S.set (z ++ setL ls (i : Int)), rfl, by go_num, by omega, by omega, hr7, hide (HY.out trivial), hT.later hb67, nx hB hb67, hrd.later hb67⟩
              case measure => simp [intOf]; omega
          · obtain rfl : i = (msL ls).length := by omega
            obtain ⟨b, off, rfl, c1, hr1⟩ := hrd k hkl
            have HE := hide (uni_end (by omega) hkl HU.out)
            obtain ⟨xs, hxs⟩ : ∃ xs, ls[k].2.2 = xs := ⟨_, rfl⟩
            obtain ⟨ca, hca⟩ : ∃ ca, ls[k].2.1 = ca := ⟨_, rfl⟩
            obtain ⟨ao, hao⟩ : ∃ ao, ls[k].1 = ao := ⟨_, rfl⟩
            rw [hxs, hca, hao] at c1
            rw [hxs, hao] at hr1
            rw [hxs] at HE
            have hxl : xs.length ≤ 20 := by rw [← hxs]; exact h20k
            clear hxs hca hao
            have hun := union_any ao none ca 0 xs [] (by simp; omega) _ hr1 (rdr_nil _ _)
            rw [List.append_nil] at hun HE
            obtain ⟨zs, hzs⟩ : ∃ zs, S.set xs = zs := ⟨_, rfl⟩
            have hs7 := S.set_length xs
            rw [hzs] at hun HE hs7
            clear hzs
            go_wp2_with fail
            refine hun.mono ?_
            clear hun
            rintro e w7 ⟨a7, c7, rfl, hr7, _, hb7⟩
            go_wp2_with fail
            refine (same_any a a7 c c7 z zs (by omega) (by omega) w7 (hrz.later hb7) hr7).mono ?_
            rintro e w8 ⟨⟨bb, rfl, htold⟩, hb8⟩
            obtain rfl : bb = true := htold.2 HE.out
            have hB8 := nx (nx hB hb7) hb8
            go_wp2_with fail
            go_ret
            exact ⟨rfl, hB8⟩
      · have h0' : ls.length = 0 := by omega
        go_wp2_with fail
        go_ret
        exact ⟨rfl, hb1⟩
    · have h15' : 15 < ls.length := by omega
      go_wp2_with fail
      go_ret
      exact ⟨rfl, hb1⟩
theorem unite_all (sao : Option Addr) (cap : Nat) (ls : List L3) (q : Int) (h0 : 0 ≤ q) (h1 : q ≤ 255) (hcap : ls.length ≤ cap) (hl : ls.length ≤ 9223372036854775807) (w : World) (hrd : RdS w sao ls) :
    Calls Try.prog 5 #[.slice sao ls.length cap, .int .u8 q] w fun e w' => e = .returned (.bool true) ∧ Below w.heap.size w w' := by
  obtain ⟨k, rfl⟩ : ∃ k : Nat, q = (k : Int) := ⟨q.toNat, by omega⟩
  exact unite_any sao cap ls k (by omega) hcap hl w hrd
end Go.Proofs.Ytbkcbclloemajaa
