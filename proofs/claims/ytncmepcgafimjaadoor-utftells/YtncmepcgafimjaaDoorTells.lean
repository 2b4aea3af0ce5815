/- The walk of UtfTells: it answers true whatever the bytes and the numbers, and nothing that was there has turned. -/
import Derived.Test.YtncmepcgafimjaaDoorRef
import Derived.Test.YtncmepcgafimjaaDoorBack
namespace Go.Proofs.YtncmepcgafimjaaDoor
open Go.RowKit

set_option maxRecDepth 100000 in
set_option maxHeartbeats 4000000 in
theorem tells_any (a0 : Option Addr) (cap0 : Nat) (bs : List UInt8) (hmb : bs.length ≤ 9223372036854775807) (hcap : bs.length ≤ cap0) (hn0 : a0 = none → cap0 = 0)
    (ra : Option Addr) (rcap : Nat) (l : List Int) (hml : l.length ≤ 9223372036854775807) (h32 : ∀ x ∈ l, -2147483648 ≤ x ∧ x ≤ 2147483647) (w : World) (ht : Tabs w) (hr0 : Rd w a0 (cB bs)) (hl0 : Rd w ra (cI l)) :
    Calls Tryd.prog 3 #[.slice a0 bs.length cap0, .slice ra l.length rcap] w fun e w' => e = .returned (.bool true) ∧ Below w.heap.size w w' := by
  by_cases hbig : 400 < bs.length
  · go_enter Tryd.func3, Tryd.ntmps3
    go_wp2_with fail
    refine (known_any w ht).mono ?_
    rintro e w1 ⟨rfl, hb1⟩
    go_wp2
    all_goals
      go_ret
      exact ⟨rfl, hb1⟩
  by_cases hbig2 : 200 < l.length
  · go_enter Tryd.func3, Tryd.ntmps3
    go_wp2_with fail
    refine (known_any w ht).mono ?_
    rintro e w1 ⟨rfl, hb1⟩
    go_wp2
    all_goals
      go_ret
      exact ⟨rfl, hb1⟩
  clear hmb hml
  have e1 : decide ((400 : Int) < (bs.length : Int)) = false := by simp; omega
  have e2 : decide ((200 : Int) < (l.length : Int)) = false := by simp; omega
  go_enter Tryd.func3, Tryd.ntmps3
  go_wp2_with fail
  refine (known_any w ht).mono ?_
  rintro e w1 ⟨rfl, hb1⟩
  go_wp2_with (at_builtin; refine wpl_app8 rfl _ _ rfl w1.heap.size (.slice none 0 0) [] a0 bs bs.length cap0 rfl rfl rfl (own_nil _ _ _) (Nat.le_refl _) (hr0.later hb1) hn0 (by simp; omega) ?_; intro v2 w2 ho2 hb2; rw [List.nil_append] at ho2; obtain ⟨a2, c2, rfl, hc2, hn2, hr2⟩ := ho2.rd; rw [cB_length] at hc2 ⊢)
  clear e1 e2
  have hB2 := nx hb1 hb2
  clear hb1 hb2 ho2
  refine (runes_any a2 c2 bs (by omega) hc2 hn2 w2 (ht.later hB2) hr2).mono ?_
  rintro e w3 ⟨v, u, rfl, hv, hu, hb3⟩
  obtain ⟨ap, cp, rfl, hcp, hnp, hrp⟩ := hv.rd
  obtain ⟨aq, cq, rfl, hcq, hnq, hrq⟩ := hu.rd
  have hpl := M.pts_le bs
  have hsm : (M.sts bs).length ≤ 400 := by rw [← M.pts_length]; omega
  rw [cI_length] at hcp ⊢
  rw [cN_length] at hcq ⊢
  have hB3 := nx hB2 hb3
  clear hv hu hr2
  go_wp2_with fail
  refine (refRunes_any a0 cap0 bs (by omega) hcap hn0 w3 (hr0.later hB3)).mono ?_
  rintro e w4 ⟨v4, u4, rfl, hv4, hu4, hb4⟩
  obtain ⟨ay, cy, rfl, hcy, hny, hry⟩ := hv4.rd
  obtain ⟨az, cz, rfl, hcz, hnz, hrz⟩ := hu4.rd
  rw [cI_length] at hcy ⊢
  rw [cN_length] at hcz ⊢
  have hB4 := nx hB3 hb4
  have hrp4 := hrp.later hb4
  have hrq4 := hrq.later hb4
  have HG : Hid (M.good bs = M.good bs) := rfl
  have hgd := good_any a0 cap0 bs (by omega) hcap hn0
  clear hv4 hu4 hrp hrq hb3 hb4
  generalize M.good bs = gb at *
  generalize M.pts bs = ps at *
  generalize M.sts bs = ss at *
  go_wp2_with fail
  refine (same_any ap ay cp cy ps ps (by omega) w4 hrp4 hry).mono ?_
  rintro e w5 ⟨rfl, hb5⟩
  rw [decide_eq_true rfl]
  have hB5 := nx hB4 hb5
  have hrq5 := hrq4.later hb5
  have hrz5 := hrz.later hb5
  clear hrp4 hry hrq4 hrz hb5
  go_wp2_with fail
  refine (hgd w5 (ht.later hB5) (hr0.later hB5)).mono ?_
  rintro e w6 ⟨rfl, hb6⟩
  have hB6 := nx hB5 hb6
  have hrq6 := hrq5.later hb6
  have hrz6 := hrz5.later hb6
  clear hrq5 hrz5 hb6 hgd HG
  go_wp2
  go_loopw [10] (fun i wr => ∃ j : Int, -1 ≤ j ∧ j ≤ (ss.length : Int) + 2 ∧ i = .int .i64 j ∧ Below w6.heap.size w6 wr) (fun i _ => ((ss.length : Int) + 2 - intOf i).toNat)
  case atStart => exact ⟨-1, by omega, by omega, rfl, Below.refl _ _⟩
  case round =>
    obtain ⟨j, hj1, hj2, rfl, hbr⟩ := hrel
    have hrqr := hrq6.later hbr
    have hrzr := hrz6.later hbr
    by_cases hend : j ≤ (ss.length : Int) + 1
    · have hA := at_any aq cq ss (bs.length : Int) j wr (by omega) hrqr
      by_cases h1 : j < 0
      · obtain rfl : j = -1 := by omega
        have HM : Hid (M.at ss (bs.length : Int) (-1) = -1) := if_pos (.inl (by omega))
        rw [HM.out] at hA
        clear hrq6 hrz6 hrqr hrzr
        go_wp2_with fail
        refine hA.mono ?_
        rintro e w7 ⟨rfl, rfl⟩
        go_wp2
        go_roundw
        case rel => exact ⟨0, by omega, by omega, by go_num, hbr⟩
        case measure => simp [intOf]; omega
      obtain ⟨k, rfl⟩ := Int.eq_ofNat_of_zero_le (show 0 ≤ j by omega)
      by_cases h2 : k < ss.length
      · obtain ⟨b, off, rfl, hc1⟩ := hrqr.num k h2
        obtain ⟨b2, off2, rfl, hc2'⟩ := hrzr.num k h2
        have HM : Hid (M.at ss (bs.length : Int) (k : Int) = ss[k]) := by show _ = _; unfold M.at; rw [if_neg (by omega), if_neg (by omega), Int.toNat_natCast, List.getD_eq_getElem?_getD, List.getElem?_eq_getElem h2]; rfl
        rw [HM.out] at hA
        clear HM
        generalize ss[k] = y at *
        clear hrq6 hrz6 hrqr hrzr
        have h3 : ((k : Int) == (ss.length : Int)) = false := by simp; omega
        go_wp2_with fail
        refine hA.mono ?_
        rintro e w7 ⟨rfl, rfl⟩
        go_wp2
        go_roundw
        case rel => exact ⟨(k : Int) + 1, by omega, by omega, by go_num, hbr⟩
        case measure => simp [intOf]; omega
      by_cases h3 : k = ss.length
      · have HM : Hid (M.at ss (bs.length : Int) (k : Int) = (bs.length : Int)) := by show _ = _; unfold M.at; rw [if_neg (by omega), if_pos (by omega)]
        rw [HM.out] at hA
        clear HM
        subst h3
        clear hrq6 hrz6 hrqr hrzr
        go_wp2_with fail
        refine hA.mono ?_
        rintro e w7 ⟨rfl, rfl⟩
        go_wp2
        go_roundw
        case rel => exact ⟨(ss.length : Int) + 1, by omega, by omega, by go_num, hbr⟩
        case measure => simp [intOf]; omega
      · have HM : Hid (M.at ss (bs.length : Int) (k : Int) = -1) := by show _ = _; unfold M.at; rw [if_pos (by omega)]
        rw [HM.out] at hA
        clear HM
        clear hrq6 hrz6 hrqr hrzr
        have h4 : ((k : Int) == (ss.length : Int)) = false := by simp; omega
        go_wp2_with fail
        refine hA.mono ?_
        rintro e w7 ⟨rfl, rfl⟩
        go_wp2
        go_roundw
        case rel => exact ⟨(k : Int) + 1, by omega, by omega, by go_num, hbr⟩
        case measure => simp [intOf]; omega
    · clear hrq6 hrz6 hrqr hrzr
      have hBr := nx hB6 hbr
      have hlr := hl0.later hBr
      go_wp2_with fail
      refine Reg.start (B := wr.drew.heap.size) (by kernel_rfl) ?_
      obtain ⟨wa, hwa⟩ : ∃ wa, wa = wr.drew := ⟨_, rfl⟩
      rw [← hwa]
      have hBa : Below w.heap.size w wa := by rw [hwa]; exact hBr.drew
      have hL : Rd wa ra (cI l) := by rw [hwa]; exact (show Rd wr ra (cI l) from hlr)
      clear hwa hlr hBr
      refine Reg.take (fun _ _ _ _ _ h => h) 0 _ 89 (.slice ra l.length rcap) rfl (by kernel_rfl) (by kernel_rfl) (by kernel_rfl) rfl (by kernel_rfl) (by kernel_rfl) (fun w' hb => by kernel_rfl) ?_
      refine Reg.take (fun _ _ _ _ _ h => h) 3 _ 92 (.slice ra l.length rcap) rfl (by kernel_rfl) (by kernel_rfl) (by kernel_rfl) rfl (by kernel_rfl) (by kernel_rfl) (fun w' hb => by kernel_rfl) ?_
      have hcall := bytes_any ra rcap l (by omega) h32 wa hL
      refine Reg.call 1 _ 90 14 _ _ #[.slice ra l.length rcap] rfl (by kernel_rfl) rfl (by kernel_rfl) (by kernel_rfl) rfl (by kernel_rfl) (by kernel_rfl) hcall ?_
      clear hcall
      rintro e wb ⟨vb, rfl, hob, hbb⟩
      refine ⟨_, wb.heap.size, rfl, hbb.size, hbb, ?_⟩
      obtain ⟨ab, cb, rfl, hcb, hnb, hrb⟩ := hob.rd
      rw [cB_length] at hcb ⊢
      have hBb := nx hBa hbb
      replace hL := hL.later hbb
      clear hob
      refine Reg.take (fun _ _ _ _ _ h => h) 2 _ 91 (.string ⟨(M.encs l).toArray⟩) rfl (by kernel_rfl) (by kernel_rfl) (by kernel_rfl) rfl (by kernel_rfl) (by kernel_rfl) (fun w' hb => Reg.cvt rfl (u := .slice ab (M.encs l).length cb) (by kernel_rfl) (conv_any w' ab (M.encs l) cb (hrb.later hb))) ?_
      have hcall := refBytes_any ra rcap l (by omega) wb hL
      refine Reg.call 4 _ 93 15 _ _ #[.slice ra l.length rcap] rfl (by kernel_rfl) rfl (by kernel_rfl) (by kernel_rfl) rfl (by kernel_rfl) (by kernel_rfl) hcall ?_
      clear hcall
      rintro e wc ⟨vc, rfl, hoc, hbc⟩
      refine ⟨_, wc.heap.size, rfl, hbc.size, hbc, ?_⟩
      obtain ⟨ac, cc, rfl, hcc, hnc, hrc⟩ := hoc.rd
      rw [cB_length] at hcc ⊢
      have hBc := nx hBb hbc
      clear hoc
      refine Reg.take (fun _ _ _ _ _ h => h) 5 _ 94 (.string ⟨(M.encs l).toArray⟩) rfl (by kernel_rfl) (by kernel_rfl) (by kernel_rfl) rfl (by kernel_rfl) (by kernel_rfl) (fun w' hb => Reg.cvt rfl (u := .slice ac (M.encs l).length cc) (by kernel_rfl) (conv_any w' ac (M.encs l) cc (hrc.later hb))) ?_
      refine Reg.take (fun _ _ _ _ _ h => h) 6 _ 95 (.bool true) rfl (by kernel_rfl) (by kernel_rfl) (by kernel_rfl) rfl (by kernel_rfl) (by kernel_rfl) (fun w' hb => Reg.eqS (s := ⟨(M.encs l).toArray⟩) rfl (by kernel_rfl) (by kernel_rfl)) ?_
      refine Reg.take (fun _ _ _ _ _ h => h) 7 _ 4 (.bool true) rfl (by kernel_rfl) (by kernel_rfl) (by kernel_rfl) rfl (by kernel_rfl) (by kernel_rfl) (fun w' hb => by kernel_rfl) ?_
      refine Reg.done (by kernel_rfl) ?_
      go_wp2
      refine bodyPost_ret (results_tmp rfl _ _ _) ((Reg.ov_defers _ _).trans rfl) ?_
      exact ⟨congrArg Ending.returned ((Reg.ov_look _ 4 _ (by kernel_rfl)).trans (by kernel_rfl)), hBc⟩
end Go.Proofs.YtncmepcgafimjaaDoor
