/- ChainEnds. -/
import Derived.Test.YtbeihgjonhgfmaaGreatDoorCho
namespace Go.Proofs.YtbeihgjonhgfmaaGreatDoor
open Go.RowKit Go.Shelf Go.Maps
attribute [local go_sem] Oper.semAt_some
namespace C
/-- A set that is taken back where something errs. -/
def setE (L : Row) (k p : Tx) : Row := if (check (setM L k p)).2 = 0 then setM L k p else del (setM L k p) k
theorem setE_len (L : Row) (k p : Tx) : (setE L k p).length ≤ L.length + 1 := by
  unfold setE
  have h1 := setM_len L k p
  have h2 := len_del (setM L k p) k
  split <;> omega
def rowE (l : List Stp) : Row := l.foldl (fun L s => setE L s.2.1 s.2.2) []
theorem rowE_succ {l : List Stp} {i : Nat} (h : i < l.length) : rowE (l.take (i + 1)) = setE (rowE (l.take i)) l[i].2.1 l[i].2.2 := by
  unfold rowE
  rw [List.take_succ_eq_append_getElem h, List.foldl_append]
  rfl
theorem rowE_len : ∀ (l : List Stp) (i : Nat), (rowE (l.take i)).length ≤ i
  | l, 0 => by simp [rowE]
  | l, i + 1 => by
    by_cases h : i < l.length
    · rw [rowE_succ h]
      have := setE_len (rowE (l.take i)) l[i].2.1 l[i].2.2
      have := rowE_len l i
      omega
    · have e : l.take (i + 1) = l.take i := by rw [List.take_of_length_le (by omega), List.take_of_length_le (by omega)]
      rw [e]
      have := rowE_len l i
      omega
theorem check_zero {L : Row} (h : (check L).2 = 0) : ∀ k ∈ ks L, (chain L k).2 = 0 := by
  unfold check at h
  cases hf : (ks L).find? (fun k => !((chain L k).2 == 0)) with
  | none =>
    intro k hk
    have := List.find?_eq_none.1 hf k hk
    simpa using this
  | some k =>
    rw [hf] at h
    have := List.find?_some hf
    simp at this
    exact absurd h this
set_option maxRecDepth 100000 in
set_option maxHeartbeats 4000000 in
theorem ends_any (so : Option Addr) (scap : Nat) (l : List Stp) (w : World) (hA : AF w) (hl63 : l.length ≤ 9223372036854775807) (hs : 0 < l.length → ∃ sb sof, so = some ⟨sb, sof, none⟩ ∧ RdS w sb sof l) :
    Calls Tryz.prog 5 #[.slice so l.length scap] w fun e W' => e = .returned (.bool true) ∧ Below w.heap.size w W' := by
  have hz := AF.pos hA
  have hes := elemSize30
  have hes22 := elemSize22
  have hkn := known_any w hA
  have HA := hide hA
  clear hA
  go_enter Tryz.func5, Tryz.ntmps5
  go_wp2_with fail
  refine hkn.mono ?_
  rintro e w1 ⟨rfl, b1⟩
  clear hkn
  by_cases hl20 : 30 < l.length
  · clear hs
    go_wp2
    go_ret
    exact ⟨rfl, b1⟩
  · have hnew := new_any w1
    have HSS := hide hs
    have hl21 : l.length ≤ 30 := by omega
    clear hl20 hs
    go_wp2_with fail
    refine hnew.mono ?_
    rintro e w2 hn2
    have f2 := FB.new hn2
    obtain ⟨rfl, _, b2⟩ := hn2
    have hs1 := b1.size
    have hs2 := b2.size
    clear hnew
    have hAr := fun W (hW : Below w1.heap.size w1 W) => HA.out.later (b1.trans (hW.mono hs1))
    go_wp2
    go_loopw [4] (fun u wr => ∃ i : Nat, u = .int .i64 (i : Int) ∧ i ≤ l.length ∧ Hid (FB w1.heap.size wr w1.heap.size (rowE (l.take i))) ∧ Hid (Below w1.heap.size w1 wr)) (fun u _ => l.length - (intOf u).toNat)
    case atStart => exact ⟨0, rfl, by omega, hide f2, hide b2⟩
    case round =>
      obtain ⟨i, rfl, hi, HF, HB⟩ := hrel
      by_cases hlt : i < l.length
      · obtain ⟨sb, sof, rfl, hrd⟩ := HSS.out (by omega)
        have hrw : RdS wr sb sof l := hrd.later (b1.trans (HB.out.mono hs1))
        have hsb : sb < w1.heap.size := Nat.lt_of_lt_of_le hrd.1 hs1
        have hdr : ∀ n, Below n wr wr.drew := fun n => (Below.refl n wr).drew
        have hrl := rowE_len l i
        have hset := setB_any (HF.out.later (hdr _)) HB.out.size l[i].2.1 l[i].2.2 (hrd.2 i hlt).2.2.2.1 (hrd.2 i hlt).2.2.2.2 (by omega) (hAr _ (HB.out.trans (hdr _)))
        have HRW := hide (rowE_succ hlt)
        have hct : ∀ w', Below w1.heap.size wr.drew w' → w'.cell? ⟨sb, sof + i * 3 + 1, none⟩ = some (tx l[i].2.1) := fun w' hw => ((hrw.below ((hdr _).trans hw) hsb).2 i hlt).2.1
        have hcq : ∀ w', Below w1.heap.size wr.drew w' → w'.cell? ⟨sb, sof + i * 3 + 2, none⟩ = some (tx l[i].2.2) := fun w' hw => ((hrw.below ((hdr _).trans hw) hsb).2 i hlt).2.2.1
        have htl := (hrd.2 i hlt).2.2.2.1
        have hsl := setM_len (rowE (l.take i)) l[i].2.1 l[i].2.2
        generalize l[i].2.1 = t at *
        generalize l[i].2.2 = q at *
        clear hrw hrd
        go_wp2
        refine Reg.start (B := w1.heap.size) (by kernel_rfl) ?_
        refine Reg.take (fun _ _ _ _ _ h => h) 0 _ 30 (.pointer (some ⟨w1.heap.size, 0, none⟩)) rfl (by kernel_rfl) (by kernel_rfl) (by kernel_rfl) rfl (by kernel_rfl) (by kernel_rfl) (fun w' hw => by kernel_rfl) ?_
        refine Reg.take (fun _ _ _ _ _ h => h) 1 _ 31 (.slice (some ⟨sb, sof, none⟩) l.length scap) rfl (by kernel_rfl) (by kernel_rfl) (by kernel_rfl) rfl (by kernel_rfl) (by kernel_rfl) (fun w' hw => by kernel_rfl) ?_
        refine Reg.take (fun _ _ _ _ _ h => h) 2 _ 32 (.int .i64 (i : Int)) rfl (by kernel_rfl) (by kernel_rfl) (by kernel_rfl) rfl (by kernel_rfl) (by kernel_rfl) (fun w' hw => by kernel_rfl) ?_
        refine Reg.take (fun _ _ _ _ _ h => h) 3 _ 33 (.pointer (some ⟨sb, sof + i * 3, none⟩)) rfl (by kernel_rfl) (by kernel_rfl) (by kernel_rfl) rfl (by kernel_rfl) (by kernel_rfl) (fun w' hw => ixR rfl rfl rfl hlt under22 (elemSize22 _)) ?_
        refine Reg.take (fun _ _ _ _ _ h => h) 4 _ 34 (.pointer (some ⟨sb, sof + i * 3 + 1, none⟩)) rfl (by kernel_rfl) (by kernel_rfl) (by kernel_rfl) rfl (by kernel_rfl) (by kernel_rfl) (fun w' hw => faS rfl rfl (.inr (.inl rfl))) ?_
        refine Reg.take (fun _ _ _ _ _ h => h) 5 _ 35 (tx t) rfl (by kernel_rfl) (by kernel_rfl) (by kernel_rfl) rfl (by kernel_rfl) (by kernel_rfl) (fun w' hw => Reg.ldS rfl rfl (hct w' hw) (Tryz.isAgg9 _)) ?_
        refine Reg.take (fun _ _ _ _ _ h => h) 6 _ 36 (.slice (some ⟨sb, sof, none⟩) l.length scap) rfl (by kernel_rfl) (by kernel_rfl) (by kernel_rfl) rfl (by kernel_rfl) (by kernel_rfl) (fun w' hw => by kernel_rfl) ?_
        refine Reg.take (fun _ _ _ _ _ h => h) 7 _ 37 (.int .i64 (i : Int)) rfl (by kernel_rfl) (by kernel_rfl) (by kernel_rfl) rfl (by kernel_rfl) (by kernel_rfl) (fun w' hw => by kernel_rfl) ?_
        refine Reg.take (fun _ _ _ _ _ h => h) 8 _ 38 (.pointer (some ⟨sb, sof + i * 3, none⟩)) rfl (by kernel_rfl) (by kernel_rfl) (by kernel_rfl) rfl (by kernel_rfl) (by kernel_rfl) (fun w' hw => ixR rfl rfl rfl hlt under22 (elemSize22 _)) ?_
        refine Reg.take (fun _ _ _ _ _ h => h) 9 _ 39 (.pointer (some ⟨sb, sof + i * 3 + 2, none⟩)) rfl (by kernel_rfl) (by kernel_rfl) (by kernel_rfl) rfl (by kernel_rfl) (by kernel_rfl) (fun w' hw => faS rfl rfl (.inr (.inr rfl))) ?_
        refine Reg.take (fun _ _ _ _ _ h => h) 10 _ 40 (tx q) rfl (by kernel_rfl) (by kernel_rfl) (by kernel_rfl) rfl (by kernel_rfl) (by kernel_rfl) (fun w' hw => Reg.ldS rfl rfl (hcq w' hw) (Tryz.isAgg9 _)) ?_
        refine Reg.call 11 _ 41 11 _ _ #[.pointer (some ⟨w1.heap.size, 0, none⟩), tx t, tx q] rfl (by kernel_rfl) rfl (by kernel_rfl) (by kernel_rfl) rfl (by kernel_rfl) (by kernel_rfl) hset ?_
        rintro e w5 ⟨⟨cc, rfl⟩, f5, b5, k5⟩
        refine ⟨_, w1.heap.size, rfl, Nat.le_refl _, b5, ?_⟩
        refine Reg.done (by kernel_rfl) ?_
        simp only [Reg.ov, Act.put, List.setIfInBounds_toArray, List.set_cons_succ, List.set_cons_zero]
        have HB5 : Hid (Below w1.heap.size w1 w5) := hide ((HB.out.trans (hdr _)).trans b5)
        have hck := checkB f5 (by omega) (hAr w5 HB5.out)
        have hc5 := hct w5 b5
        have HF5 := hide f5
        have HSE : Hid (setE (rowE (l.take i)) t q = if (check (setM (rowE (l.take i)) t q)).2 = 0 then setM (rowE (l.take i)) t q else del (setM (rowE (l.take i)) t q) t) := hide rfl
        clear hset f5 b5 k5 hct hcq HF HB hdr
        generalize rowE (l.take i) = L0 at *
        generalize setM L0 t q = L1 at *
        by_cases her : (check L1).2 = 0
        · rw [if_pos her] at HSE
          rw [her] at hck
          simp only [show ((0 : Nat) : Int) = 0 from rfl] at hck
          clear her
          generalize (check L1).1 = c1 at *
          unfold tx at *
          go_wp2_with fail
          refine hck.mono ?_
          rintro e w6 ⟨rfl, b6⟩
          have HF6 := hide (HF5.out.later b6)
          have HB6 : Hid (Below w1.heap.size w1 w6) := hide (HB5.out.trans (b6.mono HB5.out.size))
          clear hck b6 hc5
          go_wp2
          go_roundw
          case rel => exact ⟨i + 1, by go_num, by omega, hide (by rw [HRW.out, HSE.out]; exact HF6.out), HB6⟩
          case measure => simp [intOf]; omega
        · rw [if_neg her] at HSE
          have g1 : (((check L1).2 : Int) == 0) = false := by rw [beq_eq_false_iff_ne]; omega
          have hdp := fun W (f : FB w1.heap.size W w1.heap.size L1) (b : Below w1.heap.size w1 W) => dropB f b.size t htl
          generalize (check L1).1 = c1 at *
          generalize (check L1).2 = c2 at *
          clear her
          unfold tx at *
          go_wp2_with fail
          refine hck.mono ?_
          rintro e w6 ⟨rfl, b6⟩
          have HF6 := hide (HF5.out.later b6)
          have HB6 : Hid (Below w1.heap.size w1 w6) := hide (HB5.out.trans (b6.mono HB5.out.size))
          have hc6 := cell_later b6 hc5
          have hd6 := hdp w6 HF6.out HB6.out
          generalize (if has L1 t then (0 : Int) else 240) = dv at *
          clear hck b6 hc5 hdp
          go_wp2_with fail
          refine hd6.mono ?_
          rintro e w7 ⟨rfl, f7, b7, _⟩
          clear hd6
          go_wp2
          go_roundw
          case rel => exact ⟨i + 1, by go_num, by omega, hide (by rw [HRW.out, HSE.out]; exact f7), hide (HB6.out.trans b7)⟩
          case measure => simp [intOf]; omega
      · obtain rfl : i = l.length := by omega
        rw [List.take_length] at HF
        have hrl : (rowE l).length ≤ 30 := by have := rowE_len l l.length; rw [List.take_length] at this; omega
        generalize rowE l = L at *
        have hck := checkB HF.out (by omega) (hAr wr HB.out)
        have hal := fun W (f : FB w1.heap.size W w1.heap.size L) => allB f (by omega)
        have HKS := hide (ks_len40 HF.out)
        have hkl : (ks L).length = L.length := by unfold ks; simp
        have HCZ := hide (fun h => check_zero (L := L) h)
        have HF' := hide HF.out
        have HB' := hide HB.out
        clear HF HB HSS f2 b2
        generalize check L = ck at *
        obtain ⟨c1, c2⟩ := ck
        simp only at hck HCZ
        unfold tx at *
        go_wp2_with fail
        refine hck.mono ?_
        rintro e w4 ⟨rfl, b4⟩
        have HF4 := hide (HF'.out.later b4)
        have HB4 : Hid (Below w1.heap.size w1 w4) := hide (HB'.out.trans (b4.mono HB'.out.size))
        have ha4 := hal w4 HF4.out
        clear hck b4 hal HF' HB'
        go_wp2_with fail
        refine ha4.mono ?_
        rintro e w5 ⟨v5, rfl, o5, b5⟩
        have HF5 := hide (HF4.out.later b5)
        have HB5 : Hid (Below w1.heap.size w1 w5) := hide (HB4.out.trans (b5.mono HB4.out.size))
        obtain ⟨ao5, cap5, rfl, _, hrd5⟩ := o5.rd
        have HRT5 := hide hrd5
        have hk30 : (ks L).length ≤ 30 := by omega
        clear ha4 b5 o5 hrd5 HF4 HB4 hkl
        generalize hK : ks L = K at *
        clear hK
        by_cases hc2 : c2 = 0
        · subst hc2
          have HAL := hide (HCZ.out rfl)
          simp only [show ((0 : Nat) : Int) = 0 from rfl]
          clear HCZ
          go_wp2
          go_loopw [10] (fun u wr => ∃ i : Nat, u = .int .i64 (i : Int) ∧ i ≤ K.length ∧ Below w5.heap.size w5 wr) (fun u _ => K.length - (intOf u).toNat)
          case atStart => exact ⟨0, rfl, by omega, Below.refl _ _⟩
          case round =>
            obtain ⟨i, rfl, hi, hb⟩ := hrel
            have HFw := hide (HF5.out.later hb)
            have HBw : Hid (Below w1.heap.size w1 wr) := hide (HB5.out.trans (hb.mono HB5.out.size))
            have HRw := hide (HRT5.out.later hb)
            have HBB := hide hb
            clear hb
            by_cases hlt : i < K.length
            · obtain ⟨lb, lof, rfl, hrb⟩ := RdT.at HRw.out (by omega)
              have cki := hrb.2 i hlt
              have hkl4 := HKS.out _ (List.getElem_mem hlt)
              have hok := HAL.out _ (List.getElem_mem hlt)
              have hch := chainB HFw.out K[i] (Nat.le_trans hkl4 (by decide)) (hAr wr HBw.out)
              obtain ⟨r, hr1, hr2, hr3, hr4⟩ := chain_ok hok
              unfold AnsH at hch
              rw [hok, hr1] at hch
              have HCL : Hid (∀ y ∈ K[i] :: r, y.length ≤ 40) := hide (by
                obtain ⟨mb, hfo, _⟩ := HFw.out
                intro y hy
                have h1 := steps_len hfo K[i]
                rcases steps_chain L K[i] with ⟨_, h2⟩ | ⟨h2, _⟩
                · rw [h2, hr1] at h1
                  exact h1 (y, 0) (List.mem_map.2 ⟨y, hy, rfl⟩)
                · exact absurd hok h2)
              have HND := hide hr2
              have HLD := hide (fun k hk => lds_at hr4 k hk)
              have hc0 : (K[i] :: r)[0]? = some K[i] := rfl
              clear hok hr1 hr2 hr4 hrb HRw
              generalize K[i] = k at *
              generalize hcc : k :: r = c at *
              have hcl : 0 < c.length := by rw [← hcc]; simp
              clear hcc
              simp only [show ((0 : Nat) : Int) = 0 from rfl] at hch
              unfold tx at *
              go_wp2_with fail
              refine hch.mono ?_
              rintro e w6 ⟨⟨v6, rfl, o6⟩, b6⟩
              have cki6 := cell_later b6 cki
              obtain ⟨ao6, cap6, rfl, _, hrd6⟩ := o6.rd
              obtain ⟨cb, cof, rfl, hrc⟩ := RdT.at hrd6 hcl
              have cc0 := hrc.2 0 hcl
              rw [List.getElem?_eq_getElem hcl] at hc0
              injection hc0 with hc0
              rw [hc0] at cc0
              simp only [Nat.add_zero] at cc0
              have HRC := hide hrc
              have HF6 := hide (HFw.out.later b6)
              have HB6 : Hid (Below w5.heap.size w5 w6) := hide (HBB.out.trans (b6.mono HBB.out.size))
              have HB6' : Hid (Below w1.heap.size w1 w6) := hide (HBw.out.trans (b6.mono HBw.out.size))
              have g6 : decide ((6 : Int) < (c.length : Int)) = false := decide_eq_false (by omega)
              have g7 : decide (6 < c.length) = false := decide_eq_false (by omega)
              have g8 : (k == k) = true := by simp
              clear hch o6 b6 hrd6 hrc cki HFw HBw HBB
              unfold tx at *
              go_wp2
              go_quiet (fail)
              have HRCd := hide (show RdB (w6.drewN nq) cb cof c from HRC.out)
              have HF6d := hide (HF6.out.later (drewN_b (Below.refl _ w6) (k := nq)))
              have HB6d : Hid (Below w5.heap.size w5 (w6.drewN nq)) := hide (drewN_b HB6.out)
              have HB6d' : Hid (Below w1.heap.size w1 (w6.drewN nq)) := hide (drewN_b HB6'.out)
              clear HRC HF6 HB6 HB6' cc0 cki6 g6 g7 g8
              generalize w6.drewN nq = w7 at *
              go_wp2
              go_loopw [13] (fun u wr => ∃ kk : Nat, u = .int .i64 (kk : Int) ∧ kk ≤ c.length ∧ Below w7.heap.size w7 wr) (fun u _ => c.length - (intOf u).toNat)
              case atStart => exact ⟨0, rfl, by omega, Below.refl _ _⟩
              case round =>
                obtain ⟨kk, rfl, hkk, hb7⟩ := hrel
                have HRCw : Hid (RdB wr cb cof c) := hide (RdB.of (HRCd.out.rdt.later hb7) hcl)
                have HFw := hide (HF6d.out.later hb7)
                have HBw : Hid (Below w1.heap.size w1 wr) := hide (HB6d'.out.trans (hb7.mono HB6d'.out.size))
                have HB7 := hide hb7
                clear hb7
                by_cases hk1 : kk < c.length
                · have ckk := HRCw.out.2 kk hk1
                  have hyl := HCL.out c[kk] (List.getElem_mem hk1)
                  have hnx := nextFB HFw.out c[kk] (Nat.le_trans hyl (by decide)) (hAr wr HBw.out)
                  obtain ⟨ld1, ld2, ld3⟩ := HLD.out kk hk1
                  have hcn := fun h : kk + 1 < c.length => HRCw.out.2 (kk + 1) h
                  have HNX : Hid (∀ h : kk + 1 < c.length, (next L c[kk]).1 = c[kk + 1]) := hide ld3
                  have HNJ : Hid (∀ j (h : j < kk), c[j]? ≠ some c[kk]) := hide (fun j h e => by
                    rw [List.getElem?_eq_getElem (by omega)] at e
                    injection e with e
                    exact (List.pairwise_iff_getElem.1 HND.out j kk (by omega) hk1 h) e)
                  have HYE : Hid (c[kk]? = some c[kk]) := hide (List.getElem?_eq_getElem hk1)
                  unfold AnsN at hnx
                  rw [ld1, ld2] at hnx
                  simp only [show ((0 : Nat) : Int) = 0 from rfl] at hnx
                  clear ld1 ld2 ld3
                  generalize c[kk] = y at *
                  generalize hnn : (next L y).1 = nn at *
                  clear hnn
                  unfold tx at *
                  by_cases hk2 : kk + 1 < c.length
                  · have hcn1 := hcn hk2
                    rw [← HNX.out hk2] at hcn1
                    have g1 : decide (kk + 1 < c.length) = true := decide_eq_true hk2
                    have g2 : decide ((kk : Int) + 1 < (c.length : Int)) = true := decide_eq_true (by omega)
                    have g3 : (nn == nn) = true := by simp
                    rw [g1] at hnx
                    clear hcn HNX
                    go_wp2_with fail
                    refine hnx.mono ?_
                    rintro e w8 ⟨rfl, b8⟩
                    have hcn8 := cell_later b8 hcn1
                    have HB8 : Hid (Below w7.heap.size w7 w8) := hide (HB7.out.trans (b8.mono HB7.out.size))
                    have HRC8 : Hid (RdB w8 cb cof c) := hide (RdB.of (HRCw.out.rdt.later b8) hcl)
                    clear hnx hcn1 b8 ckk
                    unfold tx at *
                    go_wp2
                    go_loopw [17] (fun u wr => ∃ j : Nat, u = .int .i64 (j : Int) ∧ j ≤ kk ∧ Below w8.heap.size w8 wr) (fun u _ => kk - (intOf u).toNat)
                    case atStart => exact ⟨0, rfl, by omega, Below.refl _ _⟩
                    case round =>
                      obtain ⟨j, rfl, hj, hb9⟩ := hrel
                      have HRC9 : Hid (RdB wr cb cof c) := hide (RdB.of (HRC8.out.rdt.later hb9) hcl)
                      have HB9 : Hid (Below w8.heap.size w8 wr) := hide hb9
                      clear hb9
                      by_cases hjk : j < kk
                      · have cj := HRC9.out.2 j (by omega)
                        have ck2 := HRC9.out.2 kk hk1
                        have hyy : c[kk] = y := by have h := HYE.out; rw [List.getElem?_eq_getElem hk1] at h; injection h
                        rw [hyy] at ck2
                        have hne : ¬ c[j] = y := fun e => HNJ.out j hjk (by rw [List.getElem?_eq_getElem (by omega), e])
                        generalize c[j] = z at *
                        have he : (z == y) = false := by simpa using hne
                        clear hne hyy
                        unfold tx at *
                        go_wp2
                        go_quiet (fail)
                        go_wp2
                        go_roundw
                        case rel => exact ⟨j + 1, by go_num, by omega, drewN_b HB9.out⟩
                        case measure => simp [intOf]; omega
                      · go_wp2
                        go_roundw
                        case rel => exact ⟨kk + 1, by go_num, by omega, HB8.out.trans (HB9.out.mono HB8.out.size)⟩
                        case measure => simp [intOf]; omega
                  · have g1 : decide (kk + 1 < c.length) = false := decide_eq_false hk2
                    have g2 : decide ((kk : Int) + 1 < (c.length : Int)) = false := decide_eq_false (by omega)
                    rw [g1] at hnx
                    clear hcn HNX
                    go_wp2_with fail
                    refine hnx.mono ?_
                    rintro e w8 ⟨rfl, b8⟩
                    have HB8 : Hid (Below w7.heap.size w7 w8) := hide (HB7.out.trans (b8.mono HB7.out.size))
                    have HRC8 : Hid (RdB w8 cb cof c) := hide (RdB.of (HRCw.out.rdt.later b8) hcl)
                    clear hnx b8 ckk
                    unfold tx at *
                    go_wp2
                    go_loopw [17] (fun u wr => ∃ j : Nat, u = .int .i64 (j : Int) ∧ j ≤ kk ∧ Below w8.heap.size w8 wr) (fun u _ => kk - (intOf u).toNat)
                    case atStart => exact ⟨0, rfl, by omega, Below.refl _ _⟩
                    case round =>
                      obtain ⟨j, rfl, hj, hb9⟩ := hrel
                      have HRC9 : Hid (RdB wr cb cof c) := hide (RdB.of (HRC8.out.rdt.later hb9) hcl)
                      have HB9 : Hid (Below w8.heap.size w8 wr) := hide hb9
                      clear hb9
                      by_cases hjk : j < kk
                      · have cj := HRC9.out.2 j (by omega)
                        have ck2 := HRC9.out.2 kk hk1
                        have hyy : c[kk] = y := by have h := HYE.out; rw [List.getElem?_eq_getElem hk1] at h; injection h
                        rw [hyy] at ck2
                        have hne : ¬ c[j] = y := fun e => HNJ.out j hjk (by rw [List.getElem?_eq_getElem (by omega), e])
                        generalize c[j] = z at *
                        have he : (z == y) = false := by simpa using hne
                        clear hne hyy
                        unfold tx at *
                        go_wp2
                        go_quiet (fail)
                        go_wp2
                        go_roundw
                        case rel => exact ⟨j + 1, by go_num, by omega, drewN_b HB9.out⟩
                        case measure => simp [intOf]; omega
                      · go_wp2
                        go_roundw
                        case rel => exact ⟨kk + 1, by go_num, by omega, HB8.out.trans (HB9.out.mono HB8.out.size)⟩
                        case measure => simp [intOf]; omega
                · go_wp2
                  go_roundw
                  case rel => exact ⟨i + 1, by go_num, by omega, HB6d.out.trans (HB7.out.mono HB6d.out.size)⟩
                  case measure => simp [intOf]; omega
            · clear HFw HBw HRw
              go_wp2
              go_ret
              exact ⟨rfl, b1.trans ((HB5.out.trans (HBB.out.mono HB5.out.size)).mono hs1)⟩
        · have g1 : ((c2 : Int) == 0) = false := by rw [beq_eq_false_iff_ne]; omega
          clear HCZ hc2
          go_wp2
          go_loopw [10] (fun u wr => u = .int .i64 0 ∧ wr = w5) (fun _ _ => 0)
          case atStart => exact ⟨rfl, by first | rfl | trivial⟩
          case round =>
            obtain ⟨rfl, rfl⟩ := hrel
            go_wp2
            go_ret
            exact ⟨rfl, b1.trans (HB5.out.mono hs1)⟩
end C
end Go.Proofs.YtbeihgjonhgfmaaGreatDoor
