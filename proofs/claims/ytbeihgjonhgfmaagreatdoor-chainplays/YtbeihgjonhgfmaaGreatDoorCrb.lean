/- The reference's Chain, Check, Under. -/
import Derived.Test.YtbeihgjonhgfmaaGreatDoorCra
import Derived.Test.YtbeihgjonhgfmaaGreatDoorChl
namespace Go.Proofs.YtbeihgjonhgfmaaGreatDoor
open Go.RowKit Go.Shelf Go.Maps
attribute [local go_sem] Oper.semAt_some
namespace C
theorem own_one (w : World) (x : Tx) : OwnN (w.alloc (.cells #[tx x] 9)) w.heap.size (.slice (some ⟨w.heap.size, 0, none⟩) 1 1) [x] :=
  ⟨rfl, .inr ⟨w.heap.size, 1, #[tx x], rfl, Nat.le_refl _, heap_alloc_new _ _, Nat.le_refl _, by decide, rfl, rfl⟩⟩
theorem go_next {L : Row} {met : List Tx} {one : Tx} (hl : met.length ≤ 6) : go L (7 - met.length) met one = if (next L one).2.1 then (if room (next L one).1 (met ++ [one]) = 0 then go L (6 - met.length) (met ++ [one]) (next L one).1 else ([], room (next L one).1 (met ++ [one]))) else if (next L one).2.2 = 0 then (met ++ [one], 0) else ([], (next L one).2.2) := by
  rw [show 7 - met.length = (6 - met.length) + 1 by omega, go_succ]
theorem next_len2 {L : Row} (hs : Srt L) (hsm : ∀ y ∈ L, y.1.length ≤ 40 ∧ y.2.length ≤ 40) (x : Tx) : (next L x).1.length ≤ 40 := by
  unfold next
  cases hg : get L x with
  | none => simp
  | some p =>
    simp only
    split
    · split
      · rename_i u hu
        exact (ups_len x u (List.mem_of_find?_eq_some hu)).1
      · simp
    · split
      · exact (hsm _ ((get_mem hs).1 hg)).2
      · simp
set_option maxRecDepth 100000 in
set_option maxHeartbeats 4000000 in
theorem refChain_any {n0 : Nat} {w : World} {a : Nat} {vT vN : Value} {L : Row} (h : RO n0 w a vT vN L) (hl : L.length ≤ 1000) (x : Tx) (hx : x.length ≤ 60) :
    Calls Tryz.prog 40 #[.pointer (some ⟨a, 0, none⟩), tx x] w fun e W' => AnsH L x w e W' ∧ Below w.heap.size w W' := by
  obtain ⟨i0, hi0, hz0, hz1, hz2⟩ := info_parts9 info9N
  have hes := elemSize30
  have hpx := place_any h hl x
  have hnx := fun W (hW : Below w.heap.size w W) (t : Tx) (ht : t.length ≤ 60) => refNext_any (h.later hW) hl t ht
  have HNL := hide (fun t => next_len2 h.srt h.small t)
  unfold AnsH AnsN at *
  cases hh : has L x with
  | false =>
    have HC : Hid (chain L x = ([], 240)) := hide (by unfold chain; rw [hh]; rfl)
    rw [plI_lt hh] at hpx
    clear h hh hnx
    unfold tx at *
    go_enter Tryz.func40, Tryz.ntmps40
    go_wp2_with fail
    refine hpx.mono ?_
    rintro e w1 ⟨rfl, b1⟩
    clear hpx
    go_wp2
    exact bodyPost_ret (v := .tuple #[.slice none 0 0, .int .i64 240]) (by simp [results, Tryz.results40, go_sem]) rfl ⟨⟨_, by rw [HC.out]; rfl, by rw [HC.out]; exact ownN_nil _ _⟩, b1⟩
  | true =>
    obtain ⟨ix, _, hix⟩ := plI_ge hh
    have HC : Hid (chain L x = go L 7 [] x) := hide (by unfold chain; rw [hh]; rfl)
    rw [hix] at hpx
    clear h hh hix
    generalize chain L x = cx at *
    unfold tx at *
    go_enter Tryz.func40, Tryz.ntmps40
    go_wp2_with fail
    refine hpx.mono ?_
    rintro e w1 ⟨rfl, b1⟩
    have o2 := own_one w1 x
    have a2 := al1 w1 (.cells #[.string ⟨x.toArray⟩] 9)
    have hws := b1.size
    clear hpx
    go_wp2
    have H0 : Hid (OwnN (w1.alloc (.cells #[.string ⟨x.toArray⟩] 9)) w1.heap.size (.slice (some ⟨w1.heap.size, 0, none⟩) 1 1) [x]) := hide o2
    have H1 := hide a2
    clear o2 a2
    go_loopw [6] (fun v wr => ∃ (met : List Tx) (one : Tx), OwnN wr w1.heap.size v (met ++ [one]) ∧ met.length ≤ 5 ∧ one.length ≤ 60 ∧ Hid (cx = go L (7 - met.length) met one) ∧ Below w1.heap.size w1 wr) (fun v _ => match v with | .slice _ n _ => 7 - n | _ => 0)
    case atStart => exact ⟨[], x, H0.out, by simp, hx, HC, H1.out⟩
    case round =>
      obtain ⟨met, one, hO, hm5, h1l, HG, hb⟩ := hrel
      have hbw : Below w.heap.size w wr := b1.trans (hb.mono hws)
      have hnw := hnx wr hbw one h1l
      have hnl := HNL.out one
      obtain ⟨ao, cap, rfl, _, hrd⟩ := hO.rd
      have hml : (met ++ [one]).length = met.length + 1 := by simp
      obtain ⟨lb, lof, rfl, hrb⟩ := RdT.at hrd (by omega)
      have clast := hrb.2 met.length (by omega)
      have e1 : (met ++ [one])[met.length]'(by simp) = one := by simp
      rw [e1] at clast
      have HG2 : Hid (cx = if (next L one).2.1 then (if room (next L one).1 (met ++ [one]) = 0 then go L (6 - met.length) (met ++ [one]) (next L one).1 else ([], room (next L one).1 (met ++ [one]))) else if (next L one).2.2 = 0 then (met ++ [one], 0) else ([], (next L one).2.2)) := hide (by rw [HG.out, go_next (by omega)])
      have HNM : Hid ((next L one).2.1 = true → (next L one).2.2 = 0) := hide next_more
      have HO := hide hO
      have HB := hide hb
      have HRB := hide hrb
      rw [hml]
      have hsub : ((met.length + 1 : Nat) : Int) - 1 = (met.length : Int) := by omega
      clear hO hb hrd hrb HG e1 H0 H1 HC
      generalize hms : met ++ [one] = ms at *
      have HMS := hide hms
      clear hms
      generalize next L one = nn at *
      obtain ⟨t, mr, er⟩ := nn
      simp only at hnw hnl HG2 HNM
      have hml2 : ms.length ≤ 6 := by omega
      have HML := hide hml
      unfold tx at *
      have HR : Hid (room t ms = if ms.contains t then 111 else if 6 ≤ ms.length then 112 else 0) := hide rfl
      go_wp2_with fail
      refine hnw.mono ?_
      rintro e w2 ⟨rfl, b2⟩
      have HO2 := hide (HO.out.later b2)
      have HB2 : Hid (Below w1.heap.size w1 w2) := hide (HB.out.trans (b2.mono HB.out.size))
      have hbz := HB.out.size
      have hb2z := b2.size
      have HRB2 := hide (fun j (hj : j < ms.length) => cell_later b2 ((HRB.out).2 j hj))
      have hlbz := HRB.out.1
      clear hnw clast HRB
      cases mr with
      | false =>
        by_cases he0 : er = 0
        · subst he0
          have HX : Hid (cx = (ms, 0)) := hide (by rw [HG2.out]; simp)
          clear HG2 HNM HR
          go_wp2
          exact bodyPost_ret (v := .tuple #[.slice (some ⟨lb, lof, none⟩) (met.length + 1) cap, .int .i64 0]) (by simp [results, Tryz.results40, go_sem]) rfl ⟨⟨_, by rw [HX.out]; try rfl, by rw [HX.out]; have := HO2.out; (try rw [HML.out] at this); exact this.low hws⟩, b1.trans (HB2.out.mono hws)⟩
        · have g1 : ((er : Int) == 0) = false := by simp; omega
          have HX : Hid (cx = ([], er)) := hide (by rw [HG2.out]; simp [he0])
          clear HG2 HNM HR
          go_wp2
          exact bodyPost_ret (v := .tuple #[.slice none 0 0, .int .i64 (er : Int)]) (by simp [results, Tryz.results40, go_sem]) rfl ⟨⟨_, by rw [HX.out], by rw [HX.out]; exact ownN_nil _ _⟩, b1.trans (HB2.out.mono hws)⟩
      | true =>
        have he0 : er = 0 := HNM.out rfl
        subst he0
        have HX : Hid (cx = if room t ms = 0 then go L (6 - met.length) ms t else ([], room t ms)) := hide (by rw [HG2.out]; simp)
        clear HG2 HNM
        go_wp2
        go_loopw [10] (fun u wq => ∃ i : Nat, u = .int .i64 (i : Int) ∧ i ≤ ms.length ∧ Hid (∀ j (h : j < ms.length), j < i → ¬ ms[j] = t) ∧ wq = w2) (fun u _ => ms.length - (intOf u).toNat)
        case atStart => exact ⟨0, rfl, by omega, hide (fun j h h0 => by omega), by first | rfl | trivial⟩
        case round =>
          obtain ⟨i, rfl, hi, HN, rfl⟩ := hrel
          by_cases hlt : i < ms.length
          · have hc := HRB2.out i hlt
            by_cases hq : ms[i] = t
            · have HF : Hid (room t ms = 111) := hide (by
                rw [HR.out, if_pos]
                simp only [List.contains_iff_mem]
                rw [← hq]; exact List.getElem_mem hlt)
              rw [hq] at hc
              have he : (t == t) = true := by simp
              have HX2 : Hid (cx = ([], 111)) := hide (by rw [HX.out, HF.out]; rfl)
              rw [HML.out] at hlt
              clear HN HX HF HR hq
              unfold tx at *
              go_wp2
              exact bodyPost_ret (v := .tuple #[.slice none 0 0, .int .i64 111]) (by simp [results, Tryz.results40, go_sem]) rfl ⟨⟨_, by rw [HX2.out]; rfl, by rw [HX2.out]; exact ownN_nil _ _⟩, b1.trans (HB2.out.mono hws)⟩
            · have HN2 : Hid (∀ j (h : j < ms.length), j < i + 1 → ¬ ms[j] = t) := hide (fun j h hj => by
                rcases Nat.lt_or_ge j i with h1 | h1
                · exact HN.out j h h1
                · obtain rfl : j = i := by omega
                  exact hq)
              have he : (ms[i] == t) = false := by simpa using hq
              generalize ms[i] = y at *
              have hlt2 := hlt
              rw [HML.out] at hlt2
              clear hq HN
              unfold tx at *
              go_wp2
              go_roundw
              case rel => exact ⟨i + 1, by go_num, by omega, HN2, by first | rfl | trivial⟩
              case measure => simp [intOf]; omega
          · have HNC : Hid (ms.contains t = false) := hide (by
              cases hcc : ms.contains t with
              | false => rfl
              | true =>
                simp only [List.contains_iff_mem] at hcc
                obtain ⟨j, hj, hjt⟩ := List.mem_iff_getElem.1 hcc
                exact absurd hjt (HN.out j hj (by omega)))
            have hlt2 := hlt
            rw [HML.out] at hlt2
            clear HN
            by_cases h6 : met.length = 5
            · have HX2 : Hid (cx = ([], 112)) := hide (by
                have hr : room t ms = 112 := by rw [HR.out, HNC.out]; simp; have := HML.out; omega
                rw [HX.out, hr]; rfl)
              clear HX HR HNC
              have g6 : (((met.length : Int) + 1) == 6) = true := by simp; omega
              go_wp2
              exact bodyPost_ret (v := .tuple #[.slice none 0 0, .int .i64 112]) (by simp [results, Tryz.results40, go_sem]) rfl ⟨⟨_, by rw [HX2.out]; rfl, by rw [HX2.out]; exact ownN_nil _ _⟩, b1.trans (HB2.out.mono hws)⟩
            · have HX2 : Hid (cx = go L (6 - met.length) ms t) := hide (by
                have hr : room t ms = 0 := by rw [HR.out, HNC.out]; simp; have := HML.out; omega
                rw [HX.out, hr]; rfl)
              have g6 : (((met.length : Int) + 1) == 6) = false := by simp; omega
              have rO : wr.ownsRow w1.heap.size 9 1 (.slice (some ⟨lb, lof, none⟩) (met.length + 1) cap) ms.length (ms.map tx) := by have := HO2.out; unfold OwnN at this; rw [HML.out] at this; rw [HML.out]; exact this
              clear HX HR HNC
              rw [HML.out] at rO
              go_wp2_with (at_builtin; refine wpList_append_own_at _ rfl _ _ 30 rfl w1.heap.size 9 i0 (.string ByteArray.empty) 1 16 Tryz.underlying30 hi0 hz0 hz1 hz2 rfl (by decide) _ _ _ rfl (rO.alloc _) ⟨wr.heap.size, 0, none⟩ 1 1 [.string ⟨t.toArray⟩] rfl rfl (one_new _ _ _) (by simp [Value.oneCell']) (by unfold maxLen; omega) (by omega) (by simp; omega) ?_; intro v9 w9 hown9 hgrow9 _ hat9; obtain ⟨g9, cap9, rfl⟩ := ownsRow_succ hown9)
              have fin := own_app HO2.out (by omega) (by rw [HML.out]; exact hown9) hgrow9
              go_roundw
              case rel => exact ⟨ms, t, fin.1, by have := HML.out; omega, by omega, by have e := HML.out; rw [show 7 - ms.length = 6 - met.length by omega]; exact HX2, HB2.out.trans fin.2⟩
              case measure => simp; omega
end C
end Go.Proofs.YtbeihgjonhgfmaaGreatDoor
