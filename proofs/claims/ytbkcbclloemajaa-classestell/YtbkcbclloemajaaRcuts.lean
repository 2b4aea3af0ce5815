/- The reference's Cut: its walk. -/
import Derived.Test.YtbkcbclloemajaaRefax
import Derived.Test.YtbkcbclloemajaaRefh
namespace Go.Proofs.Ytbkcbclloemajaa
open Go.RowKit Go.Shelf

theorem OwnI.later {w w' : World} {B : Nat} {v : Value} {fs : List Int} (h : OwnI w B v fs) (hb : Below w.heap.size w w') : OwnI w' B v fs := by
  obtain ⟨h1, h2 | ⟨g, cap, cur, rfl, h3, h4, h5⟩⟩ := h
  · exact ⟨h1, .inl h2⟩
  · exact ⟨h1, .inr ⟨g, cap, cur, rfl, h3, (hb.block g (Array.getElem?_eq_some_iff.1 h4).1).trans h4, h5⟩⟩
theorem OwnI.block {w : World} {B : Nat} {v : Value} {fs : List Int} (h : OwnI w B v fs) : ∀ k, v.ownBlock = some k → B ≤ k := by
  intro g hg
  obtain ⟨_, ⟨rfl, _⟩ | ⟨g', cap', cur', rfl, hg', _⟩⟩ := h
  · simp [Value.ownBlock] at hg
  · simp [Value.ownBlock] at hg; omega
theorem OwnI.keep {A B : World} {b b' : Nat} {v u : Value} {fs : List Int} {zs : List S.R} (h : OwnI A b v fs) (h2 : OwnR A b' 48 u zs) (hc : Chg (fun k => some k = v.ownBlock) A B) : OwnR B b' 48 u zs :=
  own_chg hc (b := b') (e := 48) (s := 2) h2 fun g hg e => own_apart (b := b') (e := 48) (s := 2) h2 h (by decide) hg e
theorem belowI {w A B : World} {v : Value} {fs : List Int} (hb : Below w.heap.size w A) (h : OwnI A w.heap.size v fs) (hc : Chg (fun k => some k = v.ownBlock) A B) : Below w.heap.size w B :=
  below_chg hb hc (Nat.le_refl _) fun i hi e => by have := h.block i e.symm; omega
theorem ownI_new (w : World) : OwnI (w.alloc (.cells #[.int .i32 0] 21)) w.heap.size (.slice (some ⟨w.heap.size, 0, none⟩) 1 1) [0] :=
  ⟨rfl, .inr ⟨w.heap.size, 1, _, rfl, Nat.le_refl _, World.alloc_heap_new w _, Nat.le_refl _, by unfold maxLen; omega, rfl, rfl⟩⟩

/-- The masks, the classes, told so far. -/
noncomputable def msP (L : List L3) (fs : List Int) (i : Nat) : List Nat := msOf (plF L (fs.take i))
noncomputable def clP (L : List L3) (fs : List Int) (i : Nat) : List Nat := (psOf (msP L fs i) (plF L (fs.take i))).map (·.2)
theorem plF_take (L : List L3) (fs : List Int) {i : Nat} (h : i < fs.length) : plF L (fs.take (i + 1)) = plF L (fs.take i) ++ [((fs[i], fs[i]), mkL L fs[i])] := by
  unfold plF
  rw [List.take_succ_eq_append_getElem h, List.map_append]
  rfl
theorem clP_len (L : List L3) (fs : List Int) (i : Nat) (h : i ≤ fs.length) : (clP L fs i).length = i := by simp [clP, psOf, plF]; omega
theorem msP_len (L : List L3) (fs : List Int) (i : Nat) : (msP L fs i).length ≤ fs.length := Nat.le_trans (msOf_length _) (by simp [plF]; omega)
theorem step_old (L : List L3) (fs : List Int) {i : Nat} (h : i < fs.length) (hm : mkL L fs[i] ∈ msP L fs i) : msP L fs (i + 1) = msP L fs i ∧ clP L fs (i + 1) = clP L fs i ++ [(msP L fs i).idxOf (mkL L fs[i])] := by
  have e : msP L fs (i + 1) = msP L fs i := by
    unfold msP at hm ⊢
    rw [plF_take L fs h, msOf_snoc, if_pos hm]
  refine ⟨e, ?_⟩
  have e2 := psOf_snoc (plF L (fs.take i)) ((fs[i], fs[i]), mkL L fs[i])
  rw [← plF_take L fs h] at e2
  unfold clP
  rw [show psOf (msP L fs (i + 1)) (plF L (fs.take (i + 1))) = _ from e2, List.map_append]
  show _ ++ [(msP L fs (i + 1)).idxOf _] = _
  rw [e]
  rfl
theorem step_new (L : List L3) (fs : List Int) {i : Nat} (h : i < fs.length) (hm : mkL L fs[i] ∉ msP L fs i) : msP L fs (i + 1) = msP L fs i ++ [mkL L fs[i]] ∧ clP L fs (i + 1) = clP L fs i ++ [(msP L fs i).length] := by
  have e : msP L fs (i + 1) = msP L fs i ++ [mkL L fs[i]] := by
    unfold msP at hm ⊢
    rw [plF_take L fs h, msOf_snoc, if_neg hm]
  refine ⟨e, ?_⟩
  have e2 := psOf_snoc (plF L (fs.take i)) ((fs[i], fs[i]), mkL L fs[i])
  rw [← plF_take L fs h] at e2
  unfold clP
  rw [show psOf (msP L fs (i + 1)) (plF L (fs.take (i + 1))) = _ from e2, List.map_append]
  show _ ++ [(msP L fs (i + 1)).idxOf _] = _
  rw [e, idx_new hm]
  rfl
theorem msP_end {L : List L3} (h64 : L.length ≤ 64) {fs : List Int} (h : Plc (evT (TOf L) L.length) fs) : msP L fs fs.length = msL L ∧ clP L fs fs.length = clF L fs := by
  have e : msP L fs fs.length = msL L := by unfold msP; rw [List.take_length]; exact plF_ms h64 h
  refine ⟨e, ?_⟩
  unfold clP clF
  rw [e, List.take_length]
  simp [psOf, plF]
theorem or_xor (m k : Nat) (h : m < 2 ^ k) : m ||| 2 ^ k = m ^^^ 2 ^ k := by
  refine Nat.eq_of_testBit_eq fun j => ?_
  rw [Nat.testBit_or, Nat.testBit_xor]
  by_cases hj : j = k
  · subst hj
    rw [Nat.testBit_lt_two_pow h]
    simp
  · have : (2 ^ k).testBit j = false := by rw [Nat.testBit_two_pow]; simpa using fun e => hj e.symm
    rw [this]
    simp
theorem info3 : (Try.prog.info? 3).map (fun i => (i.zero, i.size, i.bytes)) = some (some (.int .i64 0), 1, 8) := by kernel_rfl
theorem info59 : (Try.prog.info? 59).map (fun i => (i.zero, i.size, i.bytes)) = some (some (.int .u64 0), 1, 8) := by kernel_rfl
theorem elemSize22c (w : World) : (sizeOf (Try.prog.elem 22)).run Try.prog w = .ok 1 w := by kernel_rfl
theorem ownsRow_later {w w' : World} {B e s n : Nat} {v : Value} {xs : List Value} (h : w.ownsRow B e s v n xs) (hb : Below w.heap.size w w') : w'.ownsRow B e s v n xs := by
  obtain ⟨h1, h2 | ⟨g, cap, cur, rfl, h3, h4, h5⟩⟩ := h
  · exact ⟨h1, .inl h2⟩
  · exact ⟨h1, .inr ⟨g, cap, cur, rfl, h3, (hb.block g (Array.getElem?_eq_some_iff.1 h4).1).trans h4, h5⟩⟩
theorem keepRow {A B : World} {b b' e e' s s' n n' : Nat} {v v' : Value} {xs xs' : List Value} (h : A.ownsRow b e s v n xs) (h' : A.ownsRow b' e' s' v' n' xs') (hne : e ≠ e') (hc : Chg (fun k => some k = v'.ownBlock) A B) : B.ownsRow b e s v n xs :=
  own_chg hc h fun _ hg ee => own_apart h h' hne hg ee
theorem chgApp {A B : World} {tmp : Obj} {v : Value} (hg : (A.alloc tmp).grownBy B v.ownBlock) : Chg (fun k => some k = v.ownBlock) A B :=
  ⟨hg.os, hg.tape, hg.output, Nat.le_trans (by simp) hg.size, fun k hk hne => (hg.block k (by simp; omega) hne).trans (Below.heap_alloc _ _ _ hk)⟩
theorem belowRow {w A B : World} {e s n : Nat} {v : Value} {xs : List Value} (hb : Below w.heap.size w A) (h : A.ownsRow w.heap.size e s v n xs) (hc : Chg (fun k => some k = v.ownBlock) A B) : Below w.heap.size w B :=
  below_chg hb hc (Nat.le_refl _) fun i hi ee => by have := (h.lt i ee.symm).1; omega
theorem nodup_at {l : List Nat} (h : l.Nodup) (i j : Nat) (hi : i < l.length) (hj : j < l.length) (e : l[i] = l[j]) : i = j := by
  rcases Nat.lt_trichotomy i j with hl | hl | hl
  · exact absurd e (List.pairwise_iff_getElem.1 h i j hi hj hl)
  · exact hl
  · exact absurd e.symm (List.pairwise_iff_getElem.1 h j i hj hi hl)
abbrev I64N (k : Nat) : Value := Value.int .i64 (k : Int)
abbrev U64N (k : Nat) : Value := Value.int .u64 (k : Int)

set_option maxRecDepth 100000 in
set_option maxHeartbeats 8000000 in
theorem rcut_any (sao : Option Addr) (cap : Nat) (ls L : List L3) (hL : ls.take 64 = L) (hl2 : ∀ p ∈ ls, p.2.2.length ≤ 20) (hl70 : ls.length ≤ 70) (w : World) (hrd : RdS w sao ls) :
    Calls Try.prog 11 #[.slice sao ls.length cap] w fun e W' => ∃ fo cf ko ck fs, e = .returned (.tuple #[.slice fo fs.length cf, .slice ko fs.length ck, .int .i64 ((msL L).length : Int)]) ∧ RdI W' fo fs ∧ RdN W' ko (clF L fs) ∧ Plc (evT (TOf L) L.length) fs ∧ fs.length ≤ 10000 ∧ Below w.heap.size w W' := by
  obtain ⟨iu0, hiu, hu0, hu1, hu2⟩ := info_parts2 info59
  obtain ⟨in0, hin0, hq0, hq1, hq2⟩ := info_parts2 info3
  have hmin : (min (ls.length : Int) 64) = ((L.length : Nat) : Int) := by rw [← hL, List.length_take]; omega
  have hn : L.length ≤ 64 := by rw [← hL, List.length_take]; omega
  have hnl : L.length ≤ ls.length := by rw [← hL, List.length_take]; omega
  have HLS : Hid (∀ i (h : i < L.length), L[i] = ls[i]'(by omega)) := hide (fun i h => by subst hL; simp)
  clear hL
  obtain ⟨n, hnn⟩ : ∃ n, L.length = n := ⟨_, rfl⟩
  have HNN := hide hnn
  rw [hnn] at hmin hn hnl
  clear hnn
  go_enter Try.func11, Try.ntmps11
  go_wp2
  have hO0 := ownI_new w
  have hb0 := al1 w (.cells #[.int .i32 0] 21)
  generalize w.alloc (.cells #[.int .i32 0] 21) = w0 at *
  go_loopw [5, 7] (fun v u wr => ∃ (i : Nat) (fs : List Int), u = .int .i64 (i : Int) ∧ i ≤ n ∧ OwnI wr w.heap.size v fs ∧ Hid (Plc (evT (TOf L) i) fs) ∧ fs.length ≤ 1 + i * 40 ∧ Below w.heap.size w wr) (fun _ u _ => n - (intOf u).toNat)
  case atStart => exact ⟨0, [0], rfl, Nat.zero_le _, hO0, hide plc_start, by simp, hb0⟩
  case round =>
    obtain ⟨i, fs, rfl, hin, hO, HP, hfl, hB⟩ := hrel
    by_cases hlt : i < n
    · have hlt2 : i < ls.length := by omega
      obtain ⟨b, off, rfl, hd, hrd2⟩ := (hrd.later hB) i hlt2
      have hx20 := hl2 _ (List.getElem_mem hlt2)
      have HTX : Hid ((TOf L).getD i [] = ls[i].2.2) := hide (by rw [TOf_at L i (by rw [HNN.out]; exact hlt), HLS.out i (by rw [HNN.out]; exact hlt)])
      generalize ls[i].2.2 = xs at *
      generalize ls[i].2.1 = ca at *
      generalize ls[i].1 = ax at *
      have hsl := S.set_length xs
      have hcan := S.set_canon xs
      have HEV : Hid (evT (TOf L) (i + 1) = evT (TOf L) i ++ evR i (S.set xs)) := hide (by rw [evT_succ, HTX.out])
      have hof := refOf_own ax ca xs (by omega) wr hrd2
      generalize S.set xs = zs at *
      clear HTX hrd2
      go_wp2_with fail
      refine hof.mono ?_
      rintro e w1 ⟨us, rfl, hos, hb1⟩
      clear hof hd
      have hO1 := hO.later hb1
      have hB1 := nx hB hb1
      clear hO hB hb1
      obtain ⟨B2, hB2⟩ : ∃ B2, wr.heap.size = B2 := ⟨_, rfl⟩
      rw [hB2] at hos
      clear hB2
      obtain ⟨as_, cs, rfl, _, _, _⟩ := hos.rd
      go_wp2
      generalize wr = wq at *
      go_loopw [5, 9] (fun v u wr => ∃ (k : Nat) (fs : List Int), u = .int .i64 (k : Int) ∧ k ≤ zs.length ∧ OwnI wr w.heap.size v fs ∧ OwnR wr B2 48 (.slice as_ zs.length cs) zs ∧ Hid (Plc (evT (TOf L) i ++ evR i (zs.take k)) fs) ∧ fs.length ≤ 1 + i * 40 + k * 2 ∧ Below w.heap.size w wr) (fun _ u _ => zs.length - (intOf u).toNat)
      case atStart => exact ⟨0, fs, rfl, Nat.zero_le _, hO1, hos, hide (by rw [List.take_zero]; simpa [evR] using HP.out), by omega, hB1⟩
      case round =>
        clear hO1 hos HP hfl hB1
        obtain ⟨k, fs, rfl, hk, hO, hos, HP, hfl, hB⟩ := hrel
        by_cases hkl : k < zs.length
        · obtain ⟨a', c', e', _, _, hrs⟩ := hos.rd
          cases e'
          obtain ⟨b2, off2, rfl, hd1, hd2⟩ := hrs k hkl
          have hgk := (S.good_iff _).1 (hcan.good _ (List.getElem_mem hkl))
          have HRD : Hid (∀ W, OwnR W B2 48 (.slice (some ⟨b2, off2, none⟩) zs.length cs) zs → W.cell? ⟨b2, off2 + k * 2 + 1, none⟩ = some (.int .i32 zs[k].2)) := hide (fun W h => by
            obtain ⟨a', c', e', _, _, hr⟩ := h.rd
            cases e'
            obtain ⟨_, _, e3, _, h2⟩ := hr k hkl
            cases e3
            exact h2)
          have HE2 : Hid (evR i (zs.take (k + 1)) = evR i (zs.take k) ++ [(zs[k].1, i)] ++ [(zs[k].2 + 1, i)]) := hide (evR_take i zs k hkl)
          generalize zs[k] = z at *
          obtain ⟨lo, hi⟩ := z
          simp only at hd1 hd2 hgk HE2 HRD
          have hadd := add_any _ fs lo w.heap.size wr hO hB.size (by omega) HP.out.rise
          go_wp2_with fail
          refine hadd.mono ?_
          rintro e w2 ⟨v2, fs2, rfl, hO2, hI2, hc2⟩
          have hos2 := hO.keep hos hc2
          have hB2 := belowI hB hO hc2
          have HP2 := hide (HP.out.ins (j := i) hI2 (by omega) (by omega))
          have hfl2 := hI2.len
          have hd3 := HRD.out _ hos2
          have HA : Hid (evT (TOf L) i ++ evR i (zs.take (k + 1)) = ((evT (TOf L) i ++ evR i (zs.take k)) ++ [(lo, i)]) ++ [(hi + 1, i)]) := hide (by rw [HE2.out]; simp only [List.append_assoc])
          have hrise2 := HP2.out.rise
          clear hadd hO hos HP hrs hd1 hd2 HE2 hI2 hc2 hB
          by_cases hhi : hi < 1114111
          · have hwr : IntKind.i32.wrap (hi + 1) = hi + 1 := by simp [IntKind.wrap, IntKind.bits, IntKind.signed]; omega
            have hadd := add_any v2 fs2 (hi + 1) w.heap.size w2 hO2 hB2.size (by omega) hrise2
            go_wp2_with fail
            refine hadd.mono ?_
            rintro e w3 ⟨v3, fs3, rfl, hO3, hI3, hc3⟩
            have hos3 := hO2.keep hos2 hc3
            have hB3 := belowI hB2 hO2 hc3
            have HP3 : Hid (Plc (evT (TOf L) i ++ evR i (zs.take (k + 1))) fs3) := hide (by rw [HA.out]; exact HP2.out.ins (j := i) hI3 (by omega) (by omega))
            have hfl3 := hI3.len
            clear hadd hO2 hos2 HP2 HA hI3 hc3 hB2 HRD hd3
            go_wp2
            go_roundw
            case rel => exact ⟨k + 1, fs3, by go_num, by omega, hO3, hos3, HP3, by omega, hB3⟩
            case measure => simp [intOf]; omega
          · have HP3 : Hid (Plc (evT (TOf L) i ++ evR i (zs.take (k + 1))) fs2) := hide (by rw [HA.out]; exact HP2.out.over (by omega))
            have hhi2 : (1114111 : Int) ≤ hi := by omega
            go_wp2
            go_roundw
            case rel => exact ⟨k + 1, fs2, by go_num, by omega, hO2, hos2, HP3, by omega, hB2⟩
            case measure => simp [intOf]; omega
        · obtain rfl : k = zs.length := by omega
          have HP2 : Hid (Plc (evT (TOf L) (i + 1)) fs) := hide (by rw [HEV.out]; have := HP.out; rwa [List.take_length] at this)
          clear HP hos
          go_wp2
          go_roundw
          case rel => exact ⟨i + 1, fs, by go_num, by omega, hO, HP2, by omega, hB⟩
          case measure => simp [intOf]; omega
    · have hge : n ≤ i := by omega
      have HP2 : Hid (Plc (evT (TOf L) L.length) fs) := hide (by have := HP.out; rwa [show i = L.length by rw [HNN.out]; omega] at this)
      have hfl2 : fs.length ≤ 3000 := by omega
      clear HP hfl
      obtain ⟨a5, c5, rfl, hx5, _⟩ := hO.rd
      clear hx5
      generalize wr = wa at *
      go_wp2
      go_loopw [10, 11, 12] (fun vc vm u wr => ∃ j : Nat, u = .int .i64 (j : Int) ∧ j ≤ fs.length ∧ OwnI wr w.heap.size (.slice a5 fs.length c5) fs ∧ wr.ownsRow w.heap.size 3 1 vc j ((clP L fs j).map I64N) ∧ wr.ownsRow w.heap.size 59 1 vm (msP L fs j).length ((msP L fs j).map U64N) ∧ Below w.heap.size w wr) (fun _ _ u _ => fs.length - (intOf u).toNat)
      case atStart => exact ⟨0, rfl, Nat.zero_le _, hO, World.ownsRow_nil _ _ _ _, World.ownsRow_nil _ _ _ _, hB⟩
      case round =>
        clear hO hB
        obtain ⟨j, rfl, hj, hO, hc, hm, hB⟩ := hrel
        by_cases hjl : j < fs.length
        · obtain ⟨_, _, e5, hx5, hrI⟩ := hO.rd
          cases e5
          clear hx5
          obtain ⟨b5, off5, rfl, hp⟩ := hrI j hjl
          have HST1 := hide (step_old L fs hjl)
          have HST2 := hide (step_new L fs hjl)
          have HMK : Hid (mkL L fs[j] = msk (TOf L) fs[j] n) := hide (by unfold mkL; rw [HNN.out])
          generalize fs[j] = p at *
          have hml := msP_len L fs j
          have HND : Hid ((msP L fs j).Nodup) := hide (msOf_nodup _)
          have hcl := clP_len L fs j hj
          generalize clP L fs j = ks at *
          generalize msP L fs j = ms at *
          clear hrI
          go_wp2
          generalize wr = wb at *
          go_loopw [13, 14] (fun um uk wr => ∃ k : Nat, uk = .int .i64 (k : Int) ∧ k ≤ n ∧ um = .int .u64 ((msk (TOf L) p k : Nat) : Int) ∧ Below wb.heap.size wb wr) (fun _ uk _ => n - (intOf uk).toNat)
          case atStart => exact ⟨0, rfl, Nat.zero_le _, rfl, Below.refl _ _⟩
          case round =>
            obtain ⟨k, rfl, hk, rfl, hBk⟩ := hrel
            by_cases hkn : k < n
            · have hk2 : k < ls.length := by omega
              obtain ⟨b, off, rfl, hd, hrd2⟩ := (hrd.later (nx hB hBk)) k hk2
              have hx20 := hl2 _ (List.getElem_mem hk2)
              have HTX : Hid ((TOf L).getD k [] = ls[k].2.2) := hide (by rw [TOf_at L k (by rw [HNN.out]; exact hkn), HLS.out k (by rw [HNN.out]; exact hkn)])
              have HMS : Hid (msk (TOf L) p (k + 1) = msk (TOf L) p k ^^^ (if S.hB ls[k].2.2 p then 2 ^ k else 0)) := hide (by rw [msk, HTX.out])
              generalize ls[k].2.2 = xs at *
              generalize ls[k].2.1 = ca at *
              generalize ls[k].1 = ax at *
              have hmlt := mk_lt (TOf L) p k
              have hpk := cell_later hBk hp
              rw [← Nat.mul_one k] at hd
              rw [← Nat.mul_one j] at hpk
              have hhas : Calls Try.prog 19 #[.slice ax xs.length ca, .int .i32 p] wr.drew (fun e W' => e = .returned (.bool (S.hB xs p)) ∧ Below wr.drew.heap.size wr.drew W') := refHas_any ax ca xs p (by omega) wr.drew hrd2
              generalize hmk : msk (TOf L) p k = m at *
              clear hmk HTX
              cases hbv : S.hB xs p with
              | true =>
                rw [hbv] at hhas
                rw [if_pos hbv] at HMS
                have hk64 : k < 64 := by omega
                have h64 : (2 : Nat) ^ k < 2 ^ 64 := Nat.pow_lt_pow_right (by decide) hk64
                have hbor : bits .or .u64 ((m : Nat) : Int) (IntKind.u64.wrap (2 ^ k)) = ((msk (TOf L) p (k + 1) : Nat) : Int) := by
                  rw [wrap_pow k hk64, bits_or_u64_nat _ _ (by omega) (by omega), or_xor m k hmlt, HMS.out]
                clear hbv HMS h64
                go_wp2_with fail
                refine Reg.start (B := wr.heap.size) (by kernel_rfl) ?_
                refine Reg.take (fun _ _ _ _ _ h => h) 0 _ 69 (.slice (some ⟨b, off, none⟩) ls.length cap) rfl (by kernel_rfl) (by kernel_rfl) (by kernel_rfl) rfl (by kernel_rfl) (by kernel_rfl) (fun _ _ => Reg.mv rfl rfl) ?_
                refine Reg.take (fun _ _ _ _ _ h => h) 1 _ 70 (.int .i64 (k : Int)) rfl (by kernel_rfl) (by kernel_rfl) (by kernel_rfl) rfl (by kernel_rfl) (by kernel_rfl) (fun _ _ => Reg.mv rfl rfl) ?_
                refine Reg.take (fun _ _ _ _ _ h => h) 2 _ 71 (.pointer (some ⟨b, off + k * 1, none⟩)) rfl (by kernel_rfl) (by kernel_rfl) (by kernel_rfl) rfl (by kernel_rfl) (by kernel_rfl) (fun w' _ => Reg.ix rfl rfl rfl hk2 (by kernel_rfl) (elemSize22c w')) ?_
                refine Reg.take (fun _ _ _ _ _ h => h) 3 _ 72 (.slice ax xs.length ca) rfl (by kernel_rfl) (by kernel_rfl) (by kernel_rfl) rfl (by kernel_rfl) (by kernel_rfl) (fun w' hw => Reg.ld1 rfl rfl (cell_later (w := wr.drew) hw hd) (Try.isAgg35 _)) ?_
                refine Reg.take (fun _ _ _ _ _ h => h) 4 _ 73 (.slice (some ⟨b5, off5, none⟩) fs.length c5) rfl (by kernel_rfl) (by kernel_rfl) (by kernel_rfl) rfl (by kernel_rfl) (by kernel_rfl) (fun _ _ => Reg.mv rfl rfl) ?_
                refine Reg.take (fun _ _ _ _ _ h => h) 5 _ 74 (.int .i64 (j : Int)) rfl (by kernel_rfl) (by kernel_rfl) (by kernel_rfl) rfl (by kernel_rfl) (by kernel_rfl) (fun _ _ => Reg.mv rfl rfl) ?_
                refine Reg.take (fun _ _ _ _ _ h => h) 6 _ 75 (.pointer (some ⟨b5, off5 + j * 1, none⟩)) rfl (by kernel_rfl) (by kernel_rfl) (by kernel_rfl) rfl (by kernel_rfl) (by kernel_rfl) (fun w' _ => Reg.ix rfl rfl rfl hjl (by kernel_rfl) (elemSize27 w')) ?_
                refine Reg.take (fun _ _ _ _ _ h => h) 7 _ 76 (.int .i32 p) rfl (by kernel_rfl) (by kernel_rfl) (by kernel_rfl) rfl (by kernel_rfl) (by kernel_rfl) (fun w' hw => Reg.ld1 rfl rfl (cell_later (w := wr.drew) hw hpk) (Try.isAgg21 _)) ?_
                refine Reg.call 8 _ 77 19 _ _ #[.slice ax xs.length ca, .int .i32 p] rfl (by kernel_rfl) rfl (by kernel_rfl) (by kernel_rfl) rfl (by kernel_rfl) (by kernel_rfl) (hhas) ?_
                rintro e w9 ⟨rfl, hb9⟩
                refine ⟨_, w9.heap.size, rfl, hb9.size, hb9, ?_⟩
                refine Reg.done (by kernel_rfl) ?_
                simp only [Reg.ov, Act.put, List.setIfInBounds_toArray, List.set_cons_succ, List.set_cons_zero]
                have hB9 := nx hBk (nx ((Below.refl _ wr).drew) hb9)
                clear hhas hd hpk hrd2 hBk hb9
                go_wp2
                exact ⟨⟨k + 1, by go_num, by omega, rfl, hB9⟩, by simp [intOf]; omega⟩
              | false =>
                rw [hbv] at hhas
                rw [if_neg (by rw [hbv]; decide), Nat.xor_zero] at HMS
                clear hbv
                go_wp2_with fail
                refine Reg.start (B := wr.heap.size) (by kernel_rfl) ?_
                refine Reg.take (fun _ _ _ _ _ h => h) 0 _ 69 (.slice (some ⟨b, off, none⟩) ls.length cap) rfl (by kernel_rfl) (by kernel_rfl) (by kernel_rfl) rfl (by kernel_rfl) (by kernel_rfl) (fun _ _ => Reg.mv rfl rfl) ?_
                refine Reg.take (fun _ _ _ _ _ h => h) 1 _ 70 (.int .i64 (k : Int)) rfl (by kernel_rfl) (by kernel_rfl) (by kernel_rfl) rfl (by kernel_rfl) (by kernel_rfl) (fun _ _ => Reg.mv rfl rfl) ?_
                refine Reg.take (fun _ _ _ _ _ h => h) 2 _ 71 (.pointer (some ⟨b, off + k * 1, none⟩)) rfl (by kernel_rfl) (by kernel_rfl) (by kernel_rfl) rfl (by kernel_rfl) (by kernel_rfl) (fun w' _ => Reg.ix rfl rfl rfl hk2 (by kernel_rfl) (elemSize22c w')) ?_
                refine Reg.take (fun _ _ _ _ _ h => h) 3 _ 72 (.slice ax xs.length ca) rfl (by kernel_rfl) (by kernel_rfl) (by kernel_rfl) rfl (by kernel_rfl) (by kernel_rfl) (fun w' hw => Reg.ld1 rfl rfl (cell_later (w := wr.drew) hw hd) (Try.isAgg35 _)) ?_
                refine Reg.take (fun _ _ _ _ _ h => h) 4 _ 73 (.slice (some ⟨b5, off5, none⟩) fs.length c5) rfl (by kernel_rfl) (by kernel_rfl) (by kernel_rfl) rfl (by kernel_rfl) (by kernel_rfl) (fun _ _ => Reg.mv rfl rfl) ?_
                refine Reg.take (fun _ _ _ _ _ h => h) 5 _ 74 (.int .i64 (j : Int)) rfl (by kernel_rfl) (by kernel_rfl) (by kernel_rfl) rfl (by kernel_rfl) (by kernel_rfl) (fun _ _ => Reg.mv rfl rfl) ?_
                refine Reg.take (fun _ _ _ _ _ h => h) 6 _ 75 (.pointer (some ⟨b5, off5 + j * 1, none⟩)) rfl (by kernel_rfl) (by kernel_rfl) (by kernel_rfl) rfl (by kernel_rfl) (by kernel_rfl) (fun w' _ => Reg.ix rfl rfl rfl hjl (by kernel_rfl) (elemSize27 w')) ?_
                refine Reg.take (fun _ _ _ _ _ h => h) 7 _ 76 (.int .i32 p) rfl (by kernel_rfl) (by kernel_rfl) (by kernel_rfl) rfl (by kernel_rfl) (by kernel_rfl) (fun w' hw => Reg.ld1 rfl rfl (cell_later (w := wr.drew) hw hpk) (Try.isAgg21 _)) ?_
                refine Reg.call 8 _ 77 19 _ _ #[.slice ax xs.length ca, .int .i32 p] rfl (by kernel_rfl) rfl (by kernel_rfl) (by kernel_rfl) rfl (by kernel_rfl) (by kernel_rfl) (hhas) ?_
                rintro e w9 ⟨rfl, hb9⟩
                refine ⟨_, w9.heap.size, rfl, hb9.size, hb9, ?_⟩
                refine Reg.done (by kernel_rfl) ?_
                simp only [Reg.ov, Act.put, List.setIfInBounds_toArray, List.set_cons_succ, List.set_cons_zero]
                have hB9 := nx hBk (nx ((Below.refl _ wr).drew) hb9)
                clear hhas hd hpk hrd2 hBk hb9
                go_wp2
                go_roundw
                case rel => exact ⟨k + 1, by go_num, by omega, by rw [HMS.out], hB9⟩
                case measure => simp [intOf]; omega
            · have hge2 : n ≤ k := by omega
              have hkn2 : Hid (k = n) := hide (by omega)
              have HMM : Hid (msk (TOf L) p k = mkL L p) := hide (by rw [HMK.out, hkn2.out])
              have hm64 : mkL L p < 2 ^ 64 := Nat.lt_of_lt_of_le (mkL_lt L p) (Nat.pow_le_pow_right (by decide) (by rw [HNN.out]; omega))
              rw [HMM.out]
              clear HMM HMK
              generalize mkL L p = m at *
              have hO2 := hO.later hBk
              have hc2 := ownsRow_later hc hBk
              have hm2 := ownsRow_later hm hBk
              have hB2 := nx hB hBk
              clear hO hc hm hB hBk hp
              obtain ⟨am, cm, rfl, hxm, hxm2, hrm⟩ := own_slice hm2
              clear hxm hxm2
              generalize wr = wc at *
              have hrm2 : Hid (∀ q (h : q < ms.length), ∃ g, am = some ⟨g, 0, none⟩ ∧ wc.cell? ⟨g, q, none⟩ = some (.int .u64 ((ms[q] : Nat) : Int))) := hide (fun q h => hrm q _ (by simp [h]))
              clear hrm
              go_wp2
              go_loopw [15, 16] (fun ua uk wr => ∃ (k : Nat) (q : Int), uk = .int .i64 (k : Int) ∧ k ≤ ms.length ∧ ua = .int .i64 q ∧ Hid ((m ∈ ms.take k ∧ q = (ms.idxOf m : Int)) ∨ (m ∉ ms.take k ∧ q = -1)) ∧ wr = wc) (fun _ uk _ => ms.length - (intOf uk).toNat)
              case atStart => exact ⟨0, -1, rfl, Nat.zero_le _, rfl, hide (.inr ⟨by simp, rfl⟩), by first | rfl | trivial⟩
              case round =>
                obtain ⟨k2, q, rfl, hk2, rfl, HQ, rfl⟩ := hrel
                by_cases hkl : k2 < ms.length
                · obtain ⟨g, rfl, hdg⟩ := hrm2.out k2 hkl
                  have HX : Hid (ms.take (k2 + 1) = ms.take k2 ++ [ms[k2]]) := hide (List.take_succ_eq_append_getElem hkl)
                  have HI : Hid (ms[k2] = m → ms.idxOf m = k2) := hide (fun e => by
                    have hmem : m ∈ ms := e ▸ List.getElem_mem hkl
                    have h1 := List.getElem_idxOf (List.idxOf_lt_length_of_mem hmem)
                    exact nodup_at HND.out _ _ (List.idxOf_lt_length_of_mem hmem) hkl (h1.trans e.symm))
                  generalize ms[k2] = y at *
                  by_cases hy : y = m
                  · subst hy
                    have HI2 := hide (HI.out rfl)
                    clear HI
                    go_wp2
                    go_roundw
                    case rel => exact ⟨k2 + 1, (k2 : Int), by go_num, by omega, rfl, hide (.inl ⟨by rw [HX.out]; simp, by rw [HI2.out]⟩), by first | rfl | trivial⟩
                    case measure => simp [intOf]; omega
                  · have hy1 : ((y : Int) == (m : Int)) = false := by rw [beq_eq_false_iff_ne]; omega
                    have hy2 : (y == m) = false := by simpa using hy
                    have HQ2 : Hid ((m ∈ ms.take (k2 + 1) ∧ q = (ms.idxOf m : Int)) ∨ (m ∉ ms.take (k2 + 1) ∧ q = -1)) := hide (by
                      rw [HX.out]
                      rcases HQ.out with ⟨h1, h2⟩ | ⟨h1, h2⟩
                      · exact .inl ⟨List.mem_append_left _ h1, h2⟩
                      · refine .inr ⟨fun h => ?_, h2⟩
                        rcases List.mem_append.1 h with h3 | h3
                        · exact h1 h3
                        · simp at h3; exact hy h3.symm)
                    clear HI HQ
                    go_wp2
                    go_roundw
                    case rel => exact ⟨k2 + 1, q, by go_num, by omega, rfl, HQ2, by first | rfl | trivial⟩
                    case measure => simp [intOf]; omega
                · obtain rfl : k2 = ms.length := by omega
                  have HQ2 := HQ.out
                  rw [List.take_length] at HQ2
                  clear HQ hrm2
                  rcases HQ2 with ⟨hmem, rfl⟩ | ⟨hmem, rfl⟩
                  · have HS := hide (HST1.out hmem)
                    have htl : ms.idxOf m < ms.length := List.idxOf_lt_length_of_mem hmem
                    clear HST1 HST2 hmem
                    generalize ms.idxOf m = t at *
                    go_wp2_with (at_builtin; refine wpList_append_own_at _ rfl _ _ 28 rfl w.heap.size 3 in0 (.int .i64 0) 1 8 Try.underlying28 hin0 hq0 hq1 hq2 rfl (by decide) _ _ _ rfl (hc2.alloc _) ⟨wr.heap.size, 0, none⟩ 1 1 [.int .i64 (t : Int)] rfl rfl (one_new _ _ _) (by simp [Value.oneCell']) (by unfold maxLen; omega) (by omega) (by have := hB2.size; simp; omega) ?_; intro vc8 w8 hc8 hg8 _ hat8; have hch8 := chgApp hg8; clear hg8 hat8)
                    have hm8 := keepRow hm2 hc2 (by decide) hch8
                    have hO8 := keepRow hO2 hc2 (by decide) hch8
                    have hB8 := belowRow hB2 hc2 hch8
                    refine ⟨⟨j + 1, by go_num, by omega, hO8, ?_, ?_, hB8⟩, by simp [intOf]; omega⟩
                    · rw [HS.out.2, List.map_append]; exact hc8
                    · rw [HS.out.1]; exact hm8
                  · have HS := hide (HST2.out hmem)
                    clear HST1 HST2 hmem
                    go_wp2_with (first | (at_builtin; refine wpList_append_own_at _ rfl _ _ 68 rfl w.heap.size 59 iu0 (.int .u64 0) 1 8 Try.underlying68 hiu hu0 hu1 hu2 rfl (by decide) _ _ _ rfl (hm2.alloc _) ⟨wr.heap.size, 0, none⟩ 1 1 [.int .u64 (m : Int)] rfl rfl (one_new _ _ _) (by simp [Value.oneCell']) (by unfold maxLen; omega) (by omega) (by have := hB2.size; simp; omega) ?_; intro vm7 w7 hm7 hg7 _ hat7; have hch7 := chgApp hg7; have hc7 := keepRow hc2 hm2 (by decide) hch7; have hO7 := keepRow hO2 hm2 (by decide) hch7; have hB7 := belowRow hB2 hm2 hch7; clear hg7 hat7 hc2 hO2) | (at_builtin; refine wpList_append_own_at _ rfl _ _ 28 rfl w.heap.size 3 in0 (.int .i64 0) 1 8 Try.underlying28 hin0 hq0 hq1 hq2 rfl (by decide) _ _ _ rfl (hc7.alloc _) ⟨w7.heap.size, 0, none⟩ 1 1 [.int .i64 (ms.length : Int)] rfl rfl (one_new _ _ _) (by simp [Value.oneCell']) (by unfold maxLen; omega) (by omega) (by have := hB7.size; simp; omega) ?_; intro vc8 w8 hc8 hg8 _ hat8; have hch8 := chgApp hg8; clear hg8 hat8))
                    have hm8 := keepRow hm7 hc7 (by decide) hch8
                    have hO8 := keepRow hO7 hc7 (by decide) hch8
                    have hB8 := belowRow hB7 hc7 hch8
                    refine ⟨⟨j + 1, by go_num, by omega, hO8, ?_, ?_, hB8⟩, by simp [intOf]; omega⟩
                    · rw [HS.out.2, List.map_append]; exact hc8
                    · rw [HS.out.1, List.map_append, List.length_append]; exact hm8
        · obtain rfl : j = fs.length := by omega
          have he := msP_end (by rw [HNN.out]; exact hn) HP2.out
          rw [he.1] at hm
          rw [he.2] at hc
          clear he
          obtain ⟨ko, ck, rfl, hx1, hx2, hrk⟩ := own_slice hc
          obtain ⟨am, cm, rfl, hx3, hx4, _⟩ := own_slice hm
          obtain ⟨_, _, e5, hx5, hrI⟩ := hO.rd
          cases e5
          clear hx1 hx2 hx3 hx4 hx5
          have HRK : Hid (RdN wr ko (clF L fs)) := hide (fun q h => by
            obtain ⟨g, e, h1⟩ := hrk q (I64N (clF L fs)[q]) (by simp [h])
            exact ⟨g, 0, e, by rw [Nat.zero_add]; exact h1⟩)
          have HRI := hide hrI
          clear hrk hrI hO hc hm
          obtain ⟨nm, hnm⟩ : ∃ nm, (msL L).length = nm := ⟨_, rfl⟩
          have HNM := hide hnm
          rw [hnm]
          clear hnm
          go_wp2
          go_ret3
          exact ⟨a5, c5, ko, ck, fs, by rw [HNM.out]; rfl, HRI.out, HRK.out, HP2.out, by omega, hB⟩
end Go.Proofs.Ytbkcbclloemajaa
