/- ChainUnder. -/
import Derived.Test.YtbeihgjonhgfmaaGreatDoorCho
namespace Go.Proofs.YtbeihgjonhgfmaaGreatDoor
open Go.RowKit Go.Shelf Go.Maps
attribute [local go_sem] Oper.semAt_some
namespace C
set_option maxRecDepth 100000 in
set_option maxHeartbeats 4000000 in
theorem under3_any (so : Option Addr) (scap : Nat) (l : List Stp) (which : UInt8) (w : World) (hA : AF w) (hl63 : l.length ≤ 9223372036854775807) (hs : 0 < l.length → ∃ sb sof, so = some ⟨sb, sof, none⟩ ∧ RdS w sb sof l) :
    Calls Tryz.prog 3 #[.slice so l.length scap, U8 which] w fun e W' => e = .returned (.bool true) ∧ Below w.heap.size w W' := by
  have hz := AF.pos hA
  have hes := elemSize30
  have hkn := known_any w hA
  have hbk := which.toNat_lt
  have HA := hide hA
  clear hA
  unfold U8 at *
  go_enter Tryz.func3, Tryz.ntmps3
  go_wp2_with fail
  refine hkn.mono ?_
  rintro e w1 ⟨rfl, b1⟩
  clear hkn
  by_cases hl20 : 20 < l.length
  · clear hs
    go_wp2
    go_ret
    exact ⟨rfl, b1⟩
  · have hnew := new_any w1
    have HSS := hide hs
    have hl21 : l.length ≤ 20 := by omega
    clear hl20 hs
    go_wp2_with fail
    refine hnew.mono ?_
    rintro e w2 hn2
    have f2 := FB.new hn2
    obtain ⟨rfl, _, b2⟩ := hn2
    have hs1 := b1.size
    have hs2 := b2.size
    clear hnew
    go_wp2
    go_loopw [6] (fun u wr => ∃ i : Nat, u = .int .i64 (i : Int) ∧ i ≤ l.length ∧ Hid (FB w1.heap.size wr w1.heap.size (rowS (l.take i))) ∧ Hid (Below w1.heap.size w1 wr)) (fun u _ => l.length - (intOf u).toNat)
    case atStart => exact ⟨0, rfl, by omega, hide f2, hide b2⟩
    case round =>
      obtain ⟨i, rfl, hi, HF, HB⟩ := hrel
      by_cases hlt : i < l.length
      · obtain ⟨sb, sof, rfl, hrd⟩ := HSS.out (by omega)
        have hrw : RdS wr sb sof l := hrd.later (b1.trans (HB.out.mono hs1))
        have hsb : sb < w1.heap.size := Nat.lt_of_lt_of_le hrd.1 hs1
        have hdr : ∀ n, Below n wr wr.drew := fun n => (Below.refl n wr).drew
        have hset := setB_any (HF.out.later (hdr _)) HB.out.size l[i].2.1 l[i].2.2 (hrd.2 i hlt).2.2.2.1 (hrd.2 i hlt).2.2.2.2 (by have := rowS_len l i; omega) (HA.out.later (b1.trans ((HB.out.trans (hdr _)).mono hs1)))
        have HRW := hide (rowS_succ hlt)
        have hct : ∀ w', Below w1.heap.size wr.drew w' → w'.cell? ⟨sb, sof + i * 3 + 1, none⟩ = some (tx l[i].2.1) := fun w' hw => ((hrw.below ((hdr _).trans hw) hsb).2 i hlt).2.1
        have hcq : ∀ w', Below w1.heap.size wr.drew w' → w'.cell? ⟨sb, sof + i * 3 + 2, none⟩ = some (tx l[i].2.2) := fun w' hw => ((hrw.below ((hdr _).trans hw) hsb).2 i hlt).2.2.1
        generalize l[i].2.1 = t at *
        generalize l[i].2.2 = q at *
        clear hrw hrd
        go_wp2
        refine Reg.start (B := w1.heap.size) (by kernel_rfl) ?_
        refine Reg.take (fun _ _ _ _ _ h => h) 0 _ 29 (.pointer (some ⟨w1.heap.size, 0, none⟩)) rfl (by kernel_rfl) (by kernel_rfl) (by kernel_rfl) rfl (by kernel_rfl) (by kernel_rfl) (fun w' hw => by kernel_rfl) ?_
        refine Reg.take (fun _ _ _ _ _ h => h) 1 _ 30 (.slice (some ⟨sb, sof, none⟩) l.length scap) rfl (by kernel_rfl) (by kernel_rfl) (by kernel_rfl) rfl (by kernel_rfl) (by kernel_rfl) (fun w' hw => by kernel_rfl) ?_
        refine Reg.take (fun _ _ _ _ _ h => h) 2 _ 31 (.int .i64 (i : Int)) rfl (by kernel_rfl) (by kernel_rfl) (by kernel_rfl) rfl (by kernel_rfl) (by kernel_rfl) (fun w' hw => by kernel_rfl) ?_
        refine Reg.take (fun _ _ _ _ _ h => h) 3 _ 32 (.pointer (some ⟨sb, sof + i * 3, none⟩)) rfl (by kernel_rfl) (by kernel_rfl) (by kernel_rfl) rfl (by kernel_rfl) (by kernel_rfl) (fun w' hw => ixR rfl rfl rfl hlt under22 (elemSize22 _)) ?_
        refine Reg.take (fun _ _ _ _ _ h => h) 4 _ 33 (.pointer (some ⟨sb, sof + i * 3 + 1, none⟩)) rfl (by kernel_rfl) (by kernel_rfl) (by kernel_rfl) rfl (by kernel_rfl) (by kernel_rfl) (fun w' hw => faS rfl rfl (.inr (.inl rfl))) ?_
        refine Reg.take (fun _ _ _ _ _ h => h) 5 _ 34 (tx t) rfl (by kernel_rfl) (by kernel_rfl) (by kernel_rfl) rfl (by kernel_rfl) (by kernel_rfl) (fun w' hw => Reg.ldS rfl rfl (hct w' hw) (Tryz.isAgg9 _)) ?_
        refine Reg.take (fun _ _ _ _ _ h => h) 6 _ 35 (.slice (some ⟨sb, sof, none⟩) l.length scap) rfl (by kernel_rfl) (by kernel_rfl) (by kernel_rfl) rfl (by kernel_rfl) (by kernel_rfl) (fun w' hw => by kernel_rfl) ?_
        refine Reg.take (fun _ _ _ _ _ h => h) 7 _ 36 (.int .i64 (i : Int)) rfl (by kernel_rfl) (by kernel_rfl) (by kernel_rfl) rfl (by kernel_rfl) (by kernel_rfl) (fun w' hw => by kernel_rfl) ?_
        refine Reg.take (fun _ _ _ _ _ h => h) 8 _ 37 (.pointer (some ⟨sb, sof + i * 3, none⟩)) rfl (by kernel_rfl) (by kernel_rfl) (by kernel_rfl) rfl (by kernel_rfl) (by kernel_rfl) (fun w' hw => ixR rfl rfl rfl hlt under22 (elemSize22 _)) ?_
        refine Reg.take (fun _ _ _ _ _ h => h) 9 _ 38 (.pointer (some ⟨sb, sof + i * 3 + 2, none⟩)) rfl (by kernel_rfl) (by kernel_rfl) (by kernel_rfl) rfl (by kernel_rfl) (by kernel_rfl) (fun w' hw => faS rfl rfl (.inr (.inr rfl))) ?_
        refine Reg.take (fun _ _ _ _ _ h => h) 10 _ 39 (tx q) rfl (by kernel_rfl) (by kernel_rfl) (by kernel_rfl) rfl (by kernel_rfl) (by kernel_rfl) (fun w' hw => Reg.ldS rfl rfl (hcq w' hw) (Tryz.isAgg9 _)) ?_
        refine Reg.call 11 _ 40 11 _ _ #[.pointer (some ⟨w1.heap.size, 0, none⟩), tx t, tx q] rfl (by kernel_rfl) rfl (by kernel_rfl) (by kernel_rfl) rfl (by kernel_rfl) (by kernel_rfl) hset ?_
        rintro e w5 ⟨⟨cc, rfl⟩, f5, b5, k5⟩
        refine ⟨_, w1.heap.size, rfl, Nat.le_refl _, b5, ?_⟩
        refine Reg.done (by kernel_rfl) ?_
        simp only [Reg.ov, Act.put, List.setIfInBounds_toArray, List.set_cons_succ, List.set_cons_zero]
        go_wp2
        go_roundw
        case rel => exact ⟨i + 1, by go_num, by omega, hide (by rw [HRW.out]; exact f5), hide ((HB.out.trans (hdr _)).trans b5)⟩
        case measure => simp [intOf]; omega
      · obtain rfl : i = l.length := by omega
        rw [List.take_length] at HF
        have hrl : (rowS l).length ≤ 20 := by have := rowS_len l l.length; rw [List.take_length] at this; omega
        generalize rowS l = L at *
        have hal := allB HF.out (by omega)
        have HKS := hide (ks_len40 HF.out)
        have HSR := hide HF.out.srt
        have hkl : (ks L).length = L.length := by unfold ks; simp
        go_wp2_with fail
        refine hal.mono ?_
        rintro e w4 ⟨v4, rfl, o4, b4⟩
        obtain ⟨ao4, cap4, rfl, _, hrd4⟩ := o4.rd
        have HF4 := hide (HF.out.later b4)
        have HB4 : Hid (Below w1.heap.size w1 w4) := hide (HB.out.trans (b4.mono HB.out.size))
        have HRT4 := hide hrd4
        clear hal o4 b4 hrd4 HF HB HSS f2 b2
        by_cases hn0 : (ks L).length = 0
        · rw [hn0]
          clear hn0
          go_wp2
          go_ret
          exact ⟨rfl, b1.trans (HB4.out.mono hs1)⟩
        · obtain ⟨x, hx⟩ : ∃ x, x = which.toNat % (ks L).length := ⟨_, rfl⟩
          have hxl : x < (ks L).length := by rw [hx]; exact Nat.mod_lt _ (by omega)
          have e2 : ((which.toNat : Int) % ((ks L).length : Int)) = (x : Int) := by rw [hx]; omega
          have e3 : ((which.toNat : Int).tmod ((ks L).length : Int)) = (x : Int) := by rw [hx]; exact (Int.ofNat_tmod _ _).symm
          obtain ⟨lb, lof, rfl, hrb⟩ := RdT.at HRT4.out (by omega)
          have ctx := hrb.2 x hxl
          have hAr := fun W (hW : Below w1.heap.size w1 W) => HA.out.later (b1.trans (hW.mono hs1))
          have htl := HKS.out _ (List.getElem_mem hxl)
          have HTM : Hid ((ks L)[x] ∈ ks L) := hide (List.getElem_mem hxl)
          have hun := underB HF4.out (by omega) (hAr w4 HB4.out) (ks L)[x]
          rw [under_has] at hun
          have g0 : (((ks L).length : Int) == 0) = false := by rw [beq_eq_false_iff_ne]; omega
          have HRB4 := hide hrb
          generalize (ks L)[x] = t at *
          have hkp : 0 < (ks L).length := by omega
          have hk20 : (ks L).length ≤ 20 := by omega
          have HKL := hide hkl
          clear hrb hx hn0 HRT4 hkl
          generalize hK : ks L = K at *
          have HK := hide hK
          clear hK
          unfold tx at *
          go_wp2_with fail
          refine hun.mono ?_
          rintro e w5 ⟨v5, rfl, o5, b5⟩
          obtain ⟨ao5, cap5, rfl, _, hrd5⟩ := o5.rd
          have HF5 := hide (HF4.out.later b5)
          have HB5 : Hid (Below w1.heap.size w1 w5) := hide (HB4.out.trans (b5.mono HB4.out.size))
          have HRB5 : Hid (RdB w5 lb lof K) := hide (RdB.of (HRB4.out.rdt.later b5) hkp)
          have HRU5 := hide hrd5
          obtain ⟨U, hU⟩ : ∃ U, U = K.filter (hasB L t) := ⟨_, rfl⟩
          rw [← hU] at HRU5 ⊢
          have hul : U.length ≤ 20 := by rw [hU]; exact Nat.le_trans (List.length_filter_le _ _) hk20
          have HU := hide hU
          clear hun o5 b5 hrd5 HF4 HB4 HRB4 ctx e2 e3 hU
          go_wp2
          go_loopw [10, 11] (fun v u wr => ∃ (i n : Nat), u = .int .i64 (i : Int) ∧ v = .int .i64 (n : Int) ∧ i ≤ K.length ∧ n ≤ i ∧ Hid (n = ((K.take i).filter (hasB L t)).length) ∧ Below w5.heap.size w5 wr) (fun _ u _ => K.length - (intOf u).toNat)
          case atStart => exact ⟨0, 0, rfl, rfl, by omega, by omega, hide (by simp), Below.refl _ _⟩
          case round =>
            obtain ⟨i, n, rfl, rfl, hi, hni, HN, hb⟩ := hrel
            have HRBw : Hid (RdB wr lb lof K) := hide (RdB.of (HRB5.out.rdt.later hb) hkp)
            have HFw := hide (HF5.out.later hb)
            have HBw : Hid (Below w1.heap.size w1 wr) := hide (HB5.out.trans (hb.mono HB5.out.size))
            by_cases hlt : i < K.length
            · have cki := HRBw.out.2 i hlt
              have hkl4 := HKS.out _ (List.getElem_mem hlt)
              have HT : Hid (K.take (i + 1) = K.take i ++ [K[i]]) := hide (by rw [List.take_succ_eq_append_getElem hlt])
              have HXI : Hid (K = K.take i ++ K[i] :: K.drop (i + 1)) := hide (by rw [List.getElem_cons_drop, List.take_append_drop])
              have hch := chainB HFw.out K[i] (Nat.le_trans hkl4 (by decide)) (hAr wr HBw.out)
              unfold AnsH at hch
              generalize K[i] = k at *
              have HN1 : Hid (hasB L t k = true → n + 1 = ((K.take (i + 1)).filter (hasB L t)).length ∧ ∃ h : n < U.length, U[n] = k) := hide (fun hh => by
                constructor
                · rw [HT.out, List.filter_append, List.length_append, ← HN.out, List.filter_cons, if_pos hh]; rfl
                · have e : U = (K.take i).filter (hasB L t) ++ k :: (K.drop (i + 1)).filter (hasB L t) := by
                    rw [HU.out]
                    conv => lhs; rw [HXI.out]
                    rw [List.filter_append, List.filter_cons, if_pos hh]
                  have hlt2 : n < U.length := by rw [e, List.length_append, List.length_cons, ← HN.out]; omega
                  refine ⟨hlt2, ?_⟩
                  have : U[n]? = some k := by rw [e, HN.out, List.getElem?_append_right (Nat.le_refl _), Nat.sub_self]; rfl
                  rw [List.getElem?_eq_getElem hlt2] at this
                  injection this)
              have HN0 : Hid (hasB L t k = false → n = ((K.take (i + 1)).filter (hasB L t)).length) := hide (fun hh => by
                rw [HT.out, List.filter_append, List.length_append, ← HN.out, List.filter_cons, hh]
                simp)
              have HHB : Hid (hasB L t k = ((chain L k).2 == 0 && ((chain L k).1.drop 1).contains t)) := hide rfl
              have HC8 : Hid ((chain L k).2 = 0 → (chain L k).1.length ≤ 6 ∧ 0 < (chain L k).1.length) := hide (fun he => by
                obtain ⟨r, h1, _, h3, _⟩ := chain_ok he
                rw [h1]; exact ⟨h3, by simp⟩)
              have HB := hide hb
              clear HXI HT hb HN
              generalize hasB L t k = bb at *
              generalize chain L k = ck at *
              obtain ⟨c, er⟩ := ck
              simp only at hch HHB HC8
              unfold tx at *
              go_wp2_with fail
              refine hch.mono ?_
              rintro e w6 ⟨⟨v6, rfl, o6⟩, b6⟩
              obtain ⟨ao6, cap6, rfl, _, hrd6⟩ := o6.rd
              have HR6 := hide hrd6
              have HB6 : Hid (Below w5.heap.size w5 w6) := hide (HB.out.trans (b6.mono HB.out.size))
              have cki6 := cell_later b6 cki
              clear hch o6 hrd6 b6 cki HFw HBw HRBw
              have HIN : Hid (er ≠ 0 → bb = false) := hide (fun he => by rw [HHB.out]; simp [he])
              by_cases her : er = 0
              · subst her
                simp only [show ((0 : Nat) : Int) = 0 from rfl]
                have hc6 := (HC8.out rfl).1
                have hc1 := (HC8.out rfl).2
                have HHC : Hid (bb = (c.drop 1).contains t) := hide (by rw [HHB.out]; rfl)
                obtain ⟨cb, cof, rfl, hrc⟩ := RdT.at HR6.out hc1
                have HRC := hide hrc
                clear HIN HHB HC8 hrc HR6
                go_wp2
                go_loopw [14, 15] (fun v u wr => ∃ (kk : Nat) (b : Bool), u = .int .i64 (kk : Int) ∧ v = .bool b ∧ 1 ≤ kk ∧ kk ≤ c.length ∧ Hid (b = ((c.take kk).drop 1).contains t) ∧ wr = w6) (fun _ u _ => c.length - (intOf u).toNat)
                case atStart => exact ⟨1, false, rfl, rfl, by omega, by omega, hide (by cases c <;> simp), by first | rfl | trivial⟩
                case round =>
                  obtain ⟨kk, b, rfl, rfl, hk1, hkc, HBB, rfl⟩ := hrel
                  by_cases hkl : kk < c.length
                  · have ck := HRC.out.2 kk hkl
                    have HTK : Hid ((c.take (kk + 1)).drop 1 = (c.take kk).drop 1 ++ [c[kk]]) := hide (by
                      rw [List.take_succ_eq_append_getElem hkl, List.drop_append_of_le_length (by rw [List.length_take]; omega)])
                    generalize c[kk] = y at *
                    unfold tx at *
                    cases b with
                    | true =>
                      have HB2 : Hid (true = ((c.take (kk + 1)).drop 1).contains t) := hide (by
                        have h := HBB.out
                        rw [HTK.out]
                        simp at h ⊢
                        exact .inl h)
                      clear HTK HBB
                      go_wp2
                      go_roundw
                      case rel => exact ⟨kk + 1, true, by go_num, rfl, by omega, by omega, HB2, by first | rfl | trivial⟩
                      case measure => simp [intOf]; omega
                    | false =>
                      by_cases hyt : y = t
                      · have he : (y == t) = true := by simpa using hyt
                        have HB2 : Hid (true = ((c.take (kk + 1)).drop 1).contains t) := hide (by
                          rw [HTK.out]
                          simp [hyt])
                        clear HTK HBB hyt
                        go_wp2
                        go_roundw
                        case rel => exact ⟨kk + 1, true, by go_num, rfl, by omega, by omega, HB2, by first | rfl | trivial⟩
                        case measure => simp [intOf]; omega
                      · have he : (y == t) = false := by simpa using hyt
                        have HB2 : Hid (false = ((c.take (kk + 1)).drop 1).contains t) := hide (by
                          have h := HBB.out
                          rw [HTK.out]
                          have hty : ¬ t = y := fun e => hyt e.symm
                          simp [hty] at h ⊢
                          exact h)
                        clear HTK HBB hyt
                        go_wp2
                        go_roundw
                        case rel => exact ⟨kk + 1, false, by go_num, rfl, by omega, by omega, HB2, by first | rfl | trivial⟩
                        case measure => simp [intOf]; omega
                  · have HE : Hid (b = bb) := hide (by rw [HBB.out, HHC.out, List.take_of_length_le (by omega)])
                    rw [HE.out]
                    clear HBB HHC HE
                    cases bb with
                    | false =>
                      have HN2 := hide (HN0.out rfl)
                      clear HN0 HN1
                      go_wp2
                      go_roundw
                      case rel => exact ⟨i + 1, n, by go_num, rfl, by omega, by omega, HN2, HB6.out⟩
                      case measure => simp [intOf]; omega
                    | true =>
                      obtain ⟨hn1, hnu, hun⟩ := HN1.out rfl
                      have HN2 := hide hn1
                      have hru := HRU5.out.later HB6.out
                      obtain ⟨ub, uof, rfl, hrub⟩ := RdT.at hru (by omega)
                      have cun := hrub.2 n hnu
                      rw [hun] at cun
                      have g7 : decide ((U.length : Int) ≤ (n : Int)) = false := decide_eq_false (by omega)
                      have g8 : decide (U.length ≤ n) = false := decide_eq_false (by omega)
                      have g9 : (k == k) = true := by simp
                      clear HN0 HN1 hn1 hun hru hrub
                      unfold tx at *
                      go_wp2
                      go_quiet (fail)
                      go_wp2
                      go_roundw
                      case rel => exact ⟨i + 1, n + 1, by go_num, by go_num, by omega, by omega, HN2, drewN_b HB6.out⟩
                      case measure => simp [intOf]; omega
              · have hbf := HIN.out her
                subst hbf
                have g1 : ((er : Int) == 0) = false := by rw [beq_eq_false_iff_ne]; omega
                have HN2 := hide (HN0.out rfl)
                clear HIN HHB HC8 HR6 her HN0 HN1
                go_wp2
                go_loopw [14, 15] (fun v u wr => u = .int .i64 1 ∧ v = .bool false ∧ wr = w6) (fun _ _ _ => 0)
                case atStart => exact ⟨rfl, rfl, by first | rfl | trivial⟩
                case round =>
                  obtain ⟨rfl, rfl, rfl⟩ := hrel
                  go_wp2
                  go_roundw
                  case rel => exact ⟨i + 1, n, by go_num, rfl, by omega, by omega, HN2, HB6.out⟩
                  case measure => simp [intOf]; omega
            · have HE : Hid (n = U.length) := hide (by rw [HN.out, HU.out, List.take_of_length_le (by omega)])
              have hE := HE.out
              clear HN HE
              subst hE
              have hcp := copyFB HFw.out
              have hth : has L t = true := has_ks.2 (by rw [HK.out]; exact HTM.out)
              have hdh := del_has HSR.out t
              have hdl : L.length = (del L t).length + 1 := del_len HSR.out (by rw [HK.out]; exact HTM.out)
              obtain ⟨m, hm⟩ : ∃ m, m = (del L t).length := ⟨_, rfl⟩
              have hks1 : (ks L).length = m + 1 := by unfold ks; rw [List.length_map, hdl, hm]
              have hks2 : (ks (del L t)).length = m := by unfold ks; rw [List.length_map, hm]
              have hm20 : m ≤ 20 := by omega
              have hdl2 : (del L t).length ≤ 20 := by omega
              clear hdl hm
              have HSD := hide (srt_del HSR.out t)
              have HFW := hide HFw.out
              have HBW := hide HBw.out
              clear hb HFw HBw HRBw
              go_wp2_with fail
              refine hcp.mono ?_
              rintro e w7 ⟨ca, rfl, fc7, b7⟩
              have hz7 := b7.size
              have hd8 := dropB fc7 hz7 t (Nat.le_trans htl (by decide))
              rw [hth] at hd8
              simp only [if_true] at hd8
              unfold tx at hd8
              have HB7 := hide b7
              clear hcp fc7 b7
              go_wp2_with fail
              refine hd8.mono ?_
              rintro e w8 ⟨rfl, fc8, b8, _⟩
              have HB8 : Hid (Below wr.heap.size wr w8) := hide (HB7.out.trans b8)
              have HC8' := hide fc8
              have hh1 := hasFB (HFW.out.later HB8.out) t (Nat.le_trans htl (by decide))
              rw [hth] at hh1
              unfold tx at hh1
              clear hd8 fc8 b8 HB7
              go_wp2_with fail
              refine hh1.mono ?_
              rintro e w9 ⟨rfl, b9⟩
              have HB9 : Hid (Below wr.heap.size wr w9) := hide (nx HB8.out b9)
              have HC9 := hide (HC8'.out.later b9)
              have hh2 := hasFB HC9.out t (Nat.le_trans htl (by decide))
              rw [hdh] at hh2
              unfold tx at hh2
              clear hh1 b9 HB8 HC8'
              go_wp2_with fail
              refine hh2.mono ?_
              rintro e w10 ⟨rfl, b10⟩
              have HB10 : Hid (Below wr.heap.size wr w10) := hide (nx HB9.out b10)
              have HC10 := hide (HC9.out.later b10)
              have ha1 := allB (HFW.out.later HB10.out) (by omega)
              clear hh2 b10 HB9 HC9
              go_wp2_with fail
              refine ha1.mono ?_
              rintro e w11 ⟨v11, rfl, o11, b11⟩
              obtain ⟨ao11, cap11, rfl, _, _⟩ := o11.rd
              have HB11 : Hid (Below wr.heap.size wr w11) := hide (nx HB10.out b11)
              have HC11 := hide (HC10.out.later b11)
              have ha2 := allB HC11.out (by omega)
              clear ha1 b11 o11 HB10 HC10
              go_wp2_with fail
              refine ha2.mono ?_
              rintro e w12 ⟨v12, rfl, o12, b12⟩
              obtain ⟨ao12, cap12, rfl, _, _⟩ := o12.rd
              have HB12 : Hid (Below wr.heap.size wr w12) := hide (nx HB11.out b12)
              have HC12 := hide (HC11.out.later b12)
              have hd13 := dropB HC12.out (by have := HB12.out.size; omega) t (Nat.le_trans htl (by decide))
              rw [hdh] at hd13
              simp only [Bool.false_eq_true, if_false] at hd13
              unfold tx at hd13
              rw [hks2]
              clear ha2 b12 o12 HB11 HC11 hks1 hks2
              go_wp2_with fail
              refine hd13.mono ?_
              rintro e w13 ⟨rfl, _, b13, _⟩
              clear hd13
              go_wp2
              go_ret
              exact ⟨rfl, b1.trans ((HBW.out.trans ((HB12.out.trans b13).mono HBW.out.size)).mono hs1)⟩
end C
end Go.Proofs.YtbeihgjonhgfmaaGreatDoor
