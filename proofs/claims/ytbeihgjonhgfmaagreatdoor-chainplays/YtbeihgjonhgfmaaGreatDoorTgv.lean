/- The reference's Canon, walked: a script and more behind it. -/
import Derived.Test.YtbeihgjonhgfmaaGreatDoorTgq
namespace Go.Proofs.YtbeihgjonhgfmaaGreatDoor
open Go.RowKit Go.Shelf
set_option maxRecDepth 100000 in
set_option maxHeartbeats 8000000 in
theorem refC_4 (s : List UInt8) (h40 : s.length ≤ 40) (hr : ¬ s.map G.lo = G.rootB) (x0 : List UInt8) (rest cs : List (List UInt8)) (hcs : G.cut s = cs) (hcs0 : cs = x0 :: rest) (hl : G.lang x0 = true) (x1 x : List UInt8) (r2 : List (List UInt8)) (hre : rest = x1 :: x :: r2) (hsc : G.script x1 = true) (w : World) : Calls Tryz.prog 55 #[tx s] w fun e w' => AnsR s e ∧ Below w.heap.size w w' := by
  obtain ⟨L2, L3, LA⟩ := G.lang_len hl
  have hz := sz_tx s
  have g40 : decide ((40 : Int) < (s.length : Int)) = false := decide_eq_false (by omega)
  have h26 := small_any s (by omega) w
  have e0 : (s.map G.lo == [114, 111, 111, 116]) = false := beq_eq_false_iff_ne.2 hr
  have h16 := fun W => split_any s (by omega) W
  have hcl := size_parts s
  have HXL : Hid (∀ i (h : i < cs.length), cs[i].length ≤ 40) := hide (fun i h => by have := cut_lens s cs[i] (by rw [hcs]; exact List.getElem_mem h); omega)
  rw [hcs] at h16 hcl
  have es := elemSize30
  have hn1 : 0 < cs.length := by rw [hcs0]; simp
  have HX0 : Hid (cs[0] = x0) := hide (by subst hcs0; rfl)
  have hcs1 := hcs.trans hcs0
  have hd2 : cs.drop 2 = x :: r2 := by rw [hcs0, hre]; rfl
  have hd3 : cs.drop 3 = r2 := by rw [hcs0, hre]; rfl
  have HNR1 : Hid (G.region x = false → G.canon s = G.rv [] (cs.drop 2) (x0.map G.lo ++ [45] ++ (x1.take 1).map G.up ++ (x1.drop 1).map G.lo)) := hide (fun h => by
    rw [hd2]
    exact G.ref_10 h40 hr hcs1 hl hre hsc (fun y r e => by
      injection e with e1 e2
      subst e1
      exact ⟨fun hh => by omega, fun hh => by rw [h] at hh; exact absurd hh.2 (by decide)⟩))
  have HYR1 : Hid (G.region x = true → G.canon s = G.rv [] (cs.drop 3) (x0.map G.lo ++ [45] ++ (x1.take 1).map G.up ++ (x1.drop 1).map G.lo ++ [45] ++ x.map G.up)) := hide (fun h => by
    rw [hd3]
    exact G.ref_11 h40 hr hcs1 hl hre hsc h)
  have hin : 1 < cs.length := by rw [hcs0, hre]; simp
  have hin2 : 2 < cs.length := by rw [hcs0, hre]; simp
  have hxl1 : x1.length ≤ 40 := by have := HXL.out 1 hin; subst hcs0; subst hre; exact this
  have hxl : x.length ≤ 40 := by have := HXL.out 2 hin2; subst hcs0; subst hre; exact this
  have HX1 : Hid (∀ h : 1 < cs.length, cs[1] = x1) := hide (fun h => by subst hcs0; subst hre; rfl)
  have HX2 : Hid (∀ h : 2 < cs.length, cs[2] = x) := hide (fun h => by subst hcs0; subst hre; rfl)
  have zx := sz_tx x1
  have zx2 := sz_tx x
  clear hd2 hd3 hre
  have HCS := hide hcs0
  have h27a := fun W => allL_any x0 (by omega) W
  rw [LA] at h27a
  have h26a := fun W => small_any x0 (by omega) W
  have z0 := sz_tx x0
  have ho0 : (x0.map G.lo).length ≤ 41 * 1 := by rw [List.length_map]; omega
  generalize x0.map G.lo = o0 at *
  generalize s.map G.lo = ls at *
  clear hcs hcs0 hcs1 hl hr LA
  unfold tx at h26 h27a h26a ⊢
  go_enter Tryz.func55, Tryz.ntmps55
  go_wp2_with fail
  with_reducible refine h26.mono ?_
  rintro e w1 ⟨rfl, b1⟩
  unfold tx at h16
  go_wp2_with fail
  with_reducible refine (h16 w1).mono ?_
  rintro e w2 ⟨u, rfl, ho, b2⟩
  have HB2 := hide (nx b1 b2)
  obtain ⟨ao, cap, rfl, hcap, hrd⟩ := ho.rd
  obtain ⟨b, off, rfl, hbs, hc0⟩ := hrd 0 hn1
  have HCELL : Hid (∀ W, Below w2.heap.size w2 W → ∀ j (hj : j < cs.length), W.cell? ⟨b, off + j, none⟩ = some (tx cs[j])) := hide (fun W hW j hj => by
    obtain ⟨b', off', e, _, hc⟩ := hrd j hj
    cases e
    exact cell_later hW hc)
  rw [HX0.out, Nat.add_zero] at hc0
  clear h26 h16 b1 b2 ho hrd hbs HX0
  unfold tx at hc0
  go_wp2_with fail
  with_reducible refine (h27a w2).mono ?_
  rintro e w3 ⟨rfl, hw3⟩
  obtain rfl := hw3.symm
  clear hw3
  go_wp2_with fail
  with_reducible refine (h26a w2).mono ?_
  rintro e w4 ⟨rfl, b4⟩
  have HBC := hide b4
  clear h27a h26a b4 hc0
  have hcx := HCELL.out w4 HBC.out 1 hin
  rw [HX1.out hin] at hcx
  obtain ⟨l4, hal⟩ := G.script_len hsc
  have e4 : ((x1.length : Int) == 4) = true := by rw [l4]; rfl
  have h27 := allL_any x1 (by omega) w4
  rw [hal] at h27
  have h28 := fun W => capital_any (x1.take 1) (by rw [List.length_take]; omega) W
  have h26b := fun W => small_any (x1.drop 1) (by rw [List.length_drop]; omega) W
  have q1 : (o0 ++ [45]).length ≤ 42 := by rw [List.length_append]; simp only [List.length_cons, List.length_nil]; omega
  have q2 : (o0 ++ [45] ++ (x1.take 1).map G.up).length ≤ 43 := by rw [List.length_append, List.length_map, List.length_take]; omega
  have q3 : (o0 ++ [45] ++ (x1.take 1).map G.up ++ (x1.drop 1).map G.lo).length ≤ 41 * 2 := by rw [List.length_append, List.length_map, List.length_drop]; omega
  have l4' : 4 ≤ x1.length := by omega
  have l4'' : x1.length ≤ 4 := by omega
  unfold tx at h27 hcx h28 h26b
  clear l4 hal hsc
  go_wp2_with fail
  with_reducible refine h27.mono ?_
  rintro e wD ⟨rfl, rfl⟩
  go_wp2
  refine Reg.start (B := wD.drew.heap.size) (by kernel_rfl) ?_
  obtain ⟨wa, hwa⟩ : ∃ wa, wa = wD.drew := ⟨_, rfl⟩
  rw [← hwa]
  have HBA : Hid (Below w2.heap.size w2 wa) := hide (by rw [hwa]; exact HBC.out.drew)
  have hca : wa.cell? ⟨b, off + 1, none⟩ = some (.string ⟨x1.toArray⟩) := by rw [hwa]; exact hcx
  clear hwa hcx HBC
  refine Reg.take (fun _ _ _ _ _ h => h) 0 _ 59 (.string ⟨o0.toArray⟩) rfl (by kernel_rfl) (by kernel_rfl) (by kernel_rfl) rfl (by kernel_rfl) (by kernel_rfl) (fun _ _ => by kernel_rfl) ?_
  refine Reg.take (fun _ _ _ _ _ h => h) 1 _ 60 (.string ⟨(o0 ++ [45]).toArray⟩) rfl (by kernel_rfl) (by kernel_rfl) (by kernel_rfl) rfl (by kernel_rfl) (by kernel_rfl) (fun _ _ => adS (s := ⟨o0.toArray⟩) (t := ⟨#[45]⟩) rfl (by kernel_rfl) (by kernel_rfl) (add_tx o0 [45]) (by rw [sz_tx]; omega)) ?_
  refine Reg.take (fun _ _ _ _ _ h => h) 2 _ 61 (.slice (some ⟨b, off, none⟩) cs.length cap) rfl (by kernel_rfl) (by kernel_rfl) (by kernel_rfl) rfl (by kernel_rfl) (by kernel_rfl) (fun _ _ => by kernel_rfl) ?_
  refine Reg.take (fun _ _ _ _ _ h => h) 3 _ 62 (.int .i64 1) rfl (by kernel_rfl) (by kernel_rfl) (by kernel_rfl) rfl (by kernel_rfl) (by kernel_rfl) (fun _ _ => by kernel_rfl) ?_
  refine Reg.take (fun _ _ _ _ _ h => h) 4 _ 63 (.pointer (some ⟨b, off + 1, none⟩)) rfl (by kernel_rfl) (by kernel_rfl) (by kernel_rfl) rfl (by kernel_rfl) (by kernel_rfl) (fun _ _ => ixA (b := b) (off := off) (n := cs.length) (cap := cap) (k := 1) rfl (by kernel_rfl) (by kernel_rfl) (by omega)) ?_
  refine Reg.take (fun _ _ _ _ _ h => h) 5 _ 64 (.string ⟨x1.toArray⟩) rfl (by kernel_rfl) (by kernel_rfl) (by kernel_rfl) rfl (by kernel_rfl) (by kernel_rfl) (fun w4 h4 => Reg.ldS rfl rfl (cell_later h4 hca) (Tryz.isAgg9 _)) ?_
  refine Reg.take (fun _ _ _ _ _ h => h) 6 _ 65 (.string ⟨(x1.take 1).toArray⟩) rfl (by kernel_rfl) (by kernel_rfl) (by kernel_rfl) rfl (by kernel_rfl) (by kernel_rfl) (fun _ _ => slT (s := ⟨x1.toArray⟩) (b := 1) rfl (by kernel_rfl) (by kernel_rfl) (by rw [sz_tx]; omega) (by rw [ext_tx]; simp)) ?_
  refine Reg.take (fun _ _ _ _ _ h => h) 9 _ 68 (.slice (some ⟨b, off, none⟩) cs.length cap) rfl (by kernel_rfl) (by kernel_rfl) (by kernel_rfl) rfl (by kernel_rfl) (by kernel_rfl) (fun _ _ => by kernel_rfl) ?_
  refine Reg.take (fun _ _ _ _ _ h => h) 10 _ 69 (.int .i64 1) rfl (by kernel_rfl) (by kernel_rfl) (by kernel_rfl) rfl (by kernel_rfl) (by kernel_rfl) (fun _ _ => by kernel_rfl) ?_
  refine Reg.take (fun _ _ _ _ _ h => h) 11 _ 70 (.pointer (some ⟨b, off + 1, none⟩)) rfl (by kernel_rfl) (by kernel_rfl) (by kernel_rfl) rfl (by kernel_rfl) (by kernel_rfl) (fun _ _ => ixA (b := b) (off := off) (n := cs.length) (cap := cap) (k := 1) rfl (by kernel_rfl) (by kernel_rfl) (by omega)) ?_
  refine Reg.take (fun _ _ _ _ _ h => h) 12 _ 71 (.string ⟨x1.toArray⟩) rfl (by kernel_rfl) (by kernel_rfl) (by kernel_rfl) rfl (by kernel_rfl) (by kernel_rfl) (fun w4 h4 => Reg.ldS rfl rfl (cell_later h4 hca) (Tryz.isAgg9 _)) ?_
  refine Reg.take (fun _ _ _ _ _ h => h) 13 _ 72 (.string ⟨(x1.drop 1).toArray⟩) rfl (by kernel_rfl) (by kernel_rfl) (by kernel_rfl) rfl (by kernel_rfl) (by kernel_rfl) (fun _ _ => slF (s := ⟨x1.toArray⟩) (a := 1) rfl (by kernel_rfl) (by kernel_rfl) (by rw [sz_tx]; omega) (by rw [ext_tx, sz_tx, List.take_of_length_le (by rw [List.length_drop]; omega)])) ?_
  refine Reg.call 7 _ 66 79 _ _ #[.string ⟨(x1.take 1).toArray⟩] rfl (by kernel_rfl) rfl (by kernel_rfl) (by kernel_rfl) rfl (by kernel_rfl) (by kernel_rfl) (h28 wa) ?_
  rintro e w5 ⟨rfl, b5⟩
  refine ⟨_, w5.heap.size, rfl, b5.size, b5, ?_⟩
  refine Reg.take (fun _ _ _ _ _ h => h) 8 _ 67 (.string ⟨(o0 ++ [45] ++ (x1.take 1).map G.up).toArray⟩) rfl (by kernel_rfl) (by kernel_rfl) (by kernel_rfl) rfl (by kernel_rfl) (by kernel_rfl) (fun _ _ => adS (s := ⟨(o0 ++ [45]).toArray⟩) (t := ⟨((x1.take 1).map G.up).toArray⟩) rfl (by kernel_rfl) (by kernel_rfl) (add_tx _ _) (by rw [sz_tx]; omega)) ?_
  refine Reg.call 14 _ 73 76 _ _ #[.string ⟨(x1.drop 1).toArray⟩] rfl (by kernel_rfl) rfl (by kernel_rfl) (by kernel_rfl) rfl (by kernel_rfl) (by kernel_rfl) (h26b w5) ?_
  rintro e w6 ⟨rfl, b6⟩
  refine ⟨_, w6.heap.size, rfl, b6.size, b6, ?_⟩
  refine Reg.take (fun _ _ _ _ _ h => h) 15 _ 74 (.string ⟨(o0 ++ [45] ++ (x1.take 1).map G.up ++ (x1.drop 1).map G.lo).toArray⟩) rfl (by kernel_rfl) (by kernel_rfl) (by kernel_rfl) rfl (by kernel_rfl) (by kernel_rfl) (fun _ _ => adS (s := ⟨(o0 ++ [45] ++ (x1.take 1).map G.up).toArray⟩) (t := ⟨((x1.drop 1).map G.lo).toArray⟩) rfl (by kernel_rfl) (by kernel_rfl) (add_tx _ _) (by rw [sz_tx]; omega)) ?_
  refine Reg.take (fun _ _ _ _ _ h => h) 16 _ 5 (.string ⟨(o0 ++ [45] ++ (x1.take 1).map G.up ++ (x1.drop 1).map G.lo).toArray⟩) rfl (by kernel_rfl) (by kernel_rfl) (by kernel_rfl) rfl (by kernel_rfl) (by kernel_rfl) (fun _ _ => by kernel_rfl) ?_
  refine Reg.done (by kernel_rfl) ?_
  simp only [Reg.ov, Act.put, List.setIfInBounds_toArray, List.set_cons_succ, List.set_cons_zero]
  have HBC : Hid (Below w2.heap.size w2 w6) := hide (nx HBA.out (nx b5 b6))
  clear HBA b5 b6 hca
  have ho1 := q3
  have HNR := HNR1
  have HYR := HYR1
  clear q1 q2 q3 HNR1 HYR1 ho0 h28 h26b h27
  generalize o0 ++ [45] ++ (x1.take 1).map G.up ++ (x1.drop 1).map G.lo = o2 at *
  generalize o0 ++ [45] ++ (x1.take 1).map G.up = o3 at *
  generalize o0 ++ [45] = o4 at *
  obtain ⟨oz, hoz⟩ : ∃ oz, oz = o2 := ⟨_, rfl⟩
  have hcx := HCELL.out w6 HBC.out 2 hin2
  rw [HX2.out hin2] at hcx
  clear hoz
  unfold tx at hcx
  by_cases l2 : x.length = 2
  · have e2 : ((x.length : Int) == 2) = true := by rw [l2]; rfl
    have e3 : ((x.length : Int) == 3) = false := by rw [l2]; rfl
    have h27 := allL_any x (by omega) w6
    unfold tx at h27
    cases hal : x.all G.isL with
    | true =>
      rw [hal] at h27
      have hreg : G.region x = true := by unfold G.region G.run; rw [l2, hal]; rfl
      clear l2 hal
      go_wp2_with fail
      with_reducible refine h27.mono ?_
      rintro e wD ⟨rfl, rfl⟩
      have h28 := capital_any x (by omega) wD
      have a1 := add_tx o2 [45]
      have a2 := add_tx (o2 ++ [45]) (x.map G.up)
      have z1 := sz_tx o2
      have z2 := sz_tx (o2 ++ [45])
      have z3 := sz_tx (x.map G.up)
      have g1 : (o2 ++ [45]).length ≤ 41 * 2 + 1 := by rw [List.length_append]; simp only [List.length_cons, List.length_nil]; omega
      have g2 : (x.map G.up).length ≤ 40 := by rw [List.length_map]; omega
      have hoo : (o2 ++ [45] ++ x.map G.up).length ≤ 41 * 3 := by rw [List.length_append]; omega
      have HR0 := hide (HYR.out hreg)
      unfold tx at h28
      generalize o2 ++ [45] ++ x.map G.up = oo at *
      generalize x.map G.up = ux at *
      generalize o2 ++ [45] = o1 at *
      clear HNR HYR hreg
      go_wp2_with fail
      with_reducible refine h28.mono ?_
      rintro e wE ⟨rfl, bE⟩
      have HB0 := hide (nx HBC.out bE)
      clear HBC bE h28 h27
      go_wp2
      go_loopw [5, 6] (fun v u wr => ∃ (i : Nat) (o : List UInt8), v = .string ⟨o.toArray⟩ ∧ u = .int .i64 (i : Int) ∧ 3 ≤ i ∧ i ≤ cs.length ∧ o.length ≤ 41 * i ∧ Hid (G.canon s = G.rv (((cs.take i).drop 3).map (List.map G.lo)) (cs.drop i) o) ∧ Hid (Below w2.heap.size w2 wr)) (fun _ u _ => cs.length - (intOf u).toNat)
      case atStart => exact ⟨3, oo, rfl, rfl, by omega, by omega, hoo, hide (by rw [HR0.out]; rw [show (cs.take 3).drop 3 = [] by simp]; rfl), HB0⟩
      case round =>
        obtain ⟨i, o, rfl, rfl, hfi, hin, hol, HRV, HBW⟩ := hrel
        clear HR0 HB0 hoo
        by_cases hlt : i < cs.length
        · have hcx := HCELL.out wr HBW.out i hlt
          have hxl := HXL.out i hlt
          have HDR : Hid (cs.drop i = cs[i] :: cs.drop (i + 1)) := hide (List.drop_eq_getElem_cons hlt)
          have HTK : Hid ((cs.take (i + 1)).drop 3 = (cs.take i).drop 3 ++ [cs[i]]) := hide (by rw [List.take_succ_eq_append_getElem hlt, List.drop_append_of_le_length (by rw [List.length_take]; omega)])
          have HCI : Hid (∀ W, Below w2.heap.size w2 W → W.cell? ⟨b, off + i, none⟩ = some (tx cs[i])) := hide (fun W h => HCELL.out W h i hlt)
          generalize cs[i] = x at *
          have HRV2 : Hid (G.canon s = if G.variant x = false then none else if (((cs.take i).drop 3).map (List.map G.lo)).contains (x.map G.lo) then none else G.rv ((((cs.take i).drop 3).map (List.map G.lo)) ++ [x.map G.lo]) (cs.drop (i + 1)) (o ++ [45] ++ x.map G.lo)) := hide (by rw [HRV.out, HDR.out]; rfl)
          have hvr := variantR_any x (by omega) wr
          unfold tx at hcx hvr
          clear HRV HDR
          go_wp2_with fail
          with_reducible refine hvr.mono ?_
          rintro e w3 ⟨rfl, rfl⟩
          cases hvx : G.variant x with
          | false =>
            have HF : Hid (G.canon s = none) := hide (by rw [HRV2.out, if_pos hvx])
            clear HRV2 hvr HTK HCI
            go_wp2
            go_ret2
            exact ⟨.inr ⟨HF.out, rfl⟩, nx HB2.out HBW.out⟩
          | true =>
            rw [if_neg (by rw [hvx]; decide)] at HRV2
            clear hvr hvx
            go_wp2
            go_loopw [8] (fun u wr => ∃ k : Nat, u = .int .i64 (k : Int) ∧ 3 ≤ k ∧ k ≤ i ∧ Hid (∀ j (hj : j < cs.length), 3 ≤ j → j < k → ¬ (cs[j]).map G.lo = x.map G.lo) ∧ Hid (Below w2.heap.size w2 wr)) (fun u _ => i - (intOf u).toNat)
            case atStart => exact ⟨3, rfl, by omega, hfi, hide (fun j hj h1 h2 => by omega), HBW⟩
            case round =>
              obtain ⟨k, rfl, hfk, hki, HNE, HBW2⟩ := hrel
              clear HBW hcx
              by_cases hkl : k < i
              · have hkc : k < cs.length := by omega
                have hck := HCELL.out wr HBW2.out k hkc
                have hcx2 := HCI.out wr HBW2.out
                have hkl2 := HXL.out k hkc
                have HMEM : Hid ((cs[k]).map G.lo = x.map G.lo → (((cs.take i).drop 3).map (List.map G.lo)).contains (x.map G.lo) = true) := hide (fun h => by
                  rw [List.contains_iff_mem, ← h]
                  refine List.mem_map_of_mem ?_
                  rw [List.mem_iff_getElem?]
                  exact ⟨k - 3, by rw [List.getElem?_drop, List.getElem?_take, if_pos (by omega), show 3 + (k - 3) = k by omega, List.getElem?_eq_getElem hkc]⟩)
                have HNE2 : Hid (¬ (cs[k]).map G.lo = x.map G.lo → ∀ j (hj : j < cs.length), 3 ≤ j → j < k + 1 → ¬ (cs[j]).map G.lo = x.map G.lo) := hide (fun h j hj h1 h2 => by
                  by_cases e : j = k
                  · subst e; exact h
                  · exact HNE.out j hj h1 (by omega))
                generalize cs[k] = y at *
                have hs1 := fun W => small_any y (by omega) W
                have hs2 := fun W => small_any x (by omega) W
                generalize y.map G.lo = ly at *
                generalize hlx : x.map G.lo = lx at *
                clear HNE hlx
                go_wp2
                refine Reg.start (B := wr.drew.heap.size) (by kernel_rfl) ?_
                obtain ⟨wa, hwa⟩ : ∃ wa, wa = wr.drew := ⟨_, rfl⟩
                rw [← hwa]
                have HBA : Hid (Below w2.heap.size w2 wa) := hide (by rw [hwa]; exact HBW2.out.drew)
                have hca : wa.cell? ⟨b, off + k, none⟩ = some (.string ⟨y.toArray⟩) := by rw [hwa]; exact hck
                have hcb : wa.cell? ⟨b, off + i, none⟩ = some (.string ⟨x.toArray⟩) := by rw [hwa]; exact hcx2
                clear hwa hck hcx2 HBW2
                refine Reg.take (fun _ _ _ _ _ h => h) 0 _ 140 (.slice (some ⟨b, off, none⟩) cs.length cap) rfl (by kernel_rfl) (by kernel_rfl) (by kernel_rfl) rfl (by kernel_rfl) (by kernel_rfl) (fun _ _ => by kernel_rfl) ?_
                refine Reg.take (fun _ _ _ _ _ h => h) 1 _ 141 (.int .i64 (k : Int)) rfl (by kernel_rfl) (by kernel_rfl) (by kernel_rfl) rfl (by kernel_rfl) (by kernel_rfl) (fun _ _ => by kernel_rfl) ?_
                refine Reg.take (fun _ _ _ _ _ h => h) 2 _ 142 (.pointer (some ⟨b, off + k, none⟩)) rfl (by kernel_rfl) (by kernel_rfl) (by kernel_rfl) rfl (by kernel_rfl) (by kernel_rfl) (fun _ _ => ixA (b := b) (off := off) (n := cs.length) (cap := cap) (k := k) rfl (by kernel_rfl) (by kernel_rfl) (by omega)) ?_
                refine Reg.take (fun _ _ _ _ _ h => h) 3 _ 143 (.string ⟨y.toArray⟩) rfl (by kernel_rfl) (by kernel_rfl) (by kernel_rfl) rfl (by kernel_rfl) (by kernel_rfl) (fun w4 h4 => Reg.ldS rfl rfl (cell_later h4 hca) (Tryz.isAgg9 _)) ?_
                refine Reg.take (fun _ _ _ _ _ h => h) 5 _ 145 (.slice (some ⟨b, off, none⟩) cs.length cap) rfl (by kernel_rfl) (by kernel_rfl) (by kernel_rfl) rfl (by kernel_rfl) (by kernel_rfl) (fun _ _ => by kernel_rfl) ?_
                refine Reg.take (fun _ _ _ _ _ h => h) 6 _ 146 (.int .i64 (i : Int)) rfl (by kernel_rfl) (by kernel_rfl) (by kernel_rfl) rfl (by kernel_rfl) (by kernel_rfl) (fun _ _ => by kernel_rfl) ?_
                refine Reg.take (fun _ _ _ _ _ h => h) 7 _ 147 (.pointer (some ⟨b, off + i, none⟩)) rfl (by kernel_rfl) (by kernel_rfl) (by kernel_rfl) rfl (by kernel_rfl) (by kernel_rfl) (fun _ _ => ixA (b := b) (off := off) (n := cs.length) (cap := cap) (k := i) rfl (by kernel_rfl) (by kernel_rfl) (by omega)) ?_
                refine Reg.take (fun _ _ _ _ _ h => h) 8 _ 148 (.string ⟨x.toArray⟩) rfl (by kernel_rfl) (by kernel_rfl) (by kernel_rfl) rfl (by kernel_rfl) (by kernel_rfl) (fun w4 h4 => Reg.ldS rfl rfl (cell_later h4 hcb) (Tryz.isAgg9 _)) ?_
                refine Reg.call 4 _ 144 76 _ _ #[tx y] rfl (by kernel_rfl) rfl (by kernel_rfl) (by kernel_rfl) rfl (by kernel_rfl) (by kernel_rfl) (hs1 wa) ?_
                rintro e w5 ⟨rfl, b5⟩
                refine ⟨_, w5.heap.size, rfl, b5.size, b5, ?_⟩
                refine Reg.call 9 _ 149 76 _ _ #[tx x] rfl (by kernel_rfl) rfl (by kernel_rfl) (by kernel_rfl) rfl (by kernel_rfl) (by kernel_rfl) (hs2 w5) ?_
                rintro e w6 ⟨rfl, b6⟩
                refine ⟨_, w6.heap.size, rfl, b6.size, b6, ?_⟩
                have HB6 : Hid (Below w2.heap.size w2 w6) := hide (nx HBA.out (nx b5 b6))
                by_cases hyx : ly = lx
                · have HF : Hid (G.canon s = none) := hide (by rw [HRV2.out, HMEM.out hyx]; rfl)
                  refine Reg.take (fun _ _ _ _ _ h => h) 10 _ 150 (.bool true) rfl (by kernel_rfl) (by kernel_rfl) (by kernel_rfl) rfl (by kernel_rfl) (by kernel_rfl) (fun _ _ => eqS2 (l := ly) (m := lx) rfl (by kernel_rfl) (by kernel_rfl) (by rw [hyx]; simp)) ?_
                  refine Reg.done (by kernel_rfl) ?_
                  simp only [Reg.ov, Act.put, List.setIfInBounds_toArray, List.set_cons_succ, List.set_cons_zero]
                  clear HRV2 HMEM HNE2
                  go_wp2
                  go_ret2
                  exact ⟨.inr ⟨HF.out, rfl⟩, nx HB2.out HB6.out⟩
                · have HX := hide (HNE2.out hyx)
                  refine Reg.take (fun _ _ _ _ _ h => h) 10 _ 150 (.bool false) rfl (by kernel_rfl) (by kernel_rfl) (by kernel_rfl) rfl (by kernel_rfl) (by kernel_rfl) (fun _ _ => eqS2 (l := ly) (m := lx) rfl (by kernel_rfl) (by kernel_rfl) (by simp [hyx])) ?_
                  refine Reg.done (by kernel_rfl) ?_
                  simp only [Reg.ov, Act.put, List.setIfInBounds_toArray, List.set_cons_succ, List.set_cons_zero]
                  clear HMEM HNE2
                  go_wp2
                  go_roundw
                  case rel => exact ⟨k + 1, by go_num, by omega, by omega, HX, HB6⟩
                  case measure => simp [intOf]; omega
              · obtain rfl : k = i := by omega
                have hcx2 := HCI.out wr HBW2.out
                have hs2 := small_any x (by omega) wr
                have HNC : Hid ((((cs.take k).drop 3).map (List.map G.lo)).contains (x.map G.lo) = false) := hide (by
                  rw [← Bool.not_eq_true, List.contains_iff_mem]
                  intro hm
                  obtain ⟨y, hy, e⟩ := List.mem_map.1 hm
                  obtain ⟨j, hj⟩ := List.mem_iff_getElem?.1 hy
                  rw [List.getElem?_drop, List.getElem?_take] at hj
                  split at hj
                  · rename_i h1
                    obtain ⟨h2, rfl⟩ := List.getElem?_eq_some_iff.1 hj
                    exact HNE.out _ h2 (by omega) h1 e
                  · cases hj)
                have HRN : Hid (G.canon s = G.rv (((cs.take (k + 1)).drop 3).map (List.map G.lo)) (cs.drop (k + 1)) (o ++ [45] ++ x.map G.lo)) := hide (by rw [HRV2.out, HNC.out, HTK.out, List.map_append]; rfl)
                have a1 := add_tx o [45]
                have a2 := add_tx (o ++ [45]) (x.map G.lo)
                have z1 := sz_tx o
                have z2 := sz_tx (o ++ [45])
                have z3 := sz_tx (x.map G.lo)
                have hob : o.length ≤ 1700 := by omega
                have g1 : (o ++ [45]).length ≤ 1701 := by rw [List.length_append]; simp only [List.length_cons, List.length_nil]; omega
                have g2 : (x.map G.lo).length ≤ 40 := by rw [List.length_map]; omega
                have g3 : (o ++ [45] ++ x.map G.lo).length ≤ 41 * (k + 1) := by rw [List.length_append, List.length_append]; simp only [List.length_cons, List.length_nil]; omega
                unfold tx at hcx2 hs2
                generalize o ++ [45] ++ x.map G.lo = o2 at *
                generalize x.map G.lo = lx at *
                generalize o ++ [45] = o1 at *
                clear HRV2 HNC HTK HNE
                go_wp2_with fail
                with_reducible refine hs2.mono ?_
                rintro e w5 ⟨rfl, b5⟩
                go_wp2
                go_roundw
                case rel => exact ⟨k + 1, o2, rfl, by go_num, by omega, by omega, g3, HRN, hide (nx HBW2.out b5)⟩
                case measure => simp [intOf]; omega
        · have HF : Hid (G.canon s = some o) := hide (by rw [HRV.out, show cs.drop i = [] from List.drop_of_length_le (by omega)]; rfl)
          clear HRV
          go_wp2
          go_ret2
          exact ⟨.inl ⟨_, HF.out, rfl⟩, nx HB2.out HBW.out⟩
    | false =>
      rw [hal] at h27
      have hnr : G.region x = false := by unfold G.region G.run; rw [l2, hal]; rfl
      clear l2 hal
      go_wp2_with fail
      with_reducible refine h27.mono ?_
      rintro e wD ⟨rfl, rfl⟩
      obtain ⟨oo, hoo', HO⟩ : ∃ oo, oo = o2 ∧ True := ⟨_, rfl, trivial⟩
      subst hoo'
      have hoo := ho1
      have HB0 := HBC
      have HR0 : Hid (G.canon s = G.rv [] (cs.drop 2) oo) := hide (HNR.out (by exact hnr))
      clear HBC HNR HYR ho1
      clear hnr h27
      go_wp2
      go_loopw [5, 6] (fun v u wr => ∃ (i : Nat) (o : List UInt8), v = .string ⟨o.toArray⟩ ∧ u = .int .i64 (i : Int) ∧ 2 ≤ i ∧ i ≤ cs.length ∧ o.length ≤ 41 * i ∧ Hid (G.canon s = G.rv (((cs.take i).drop 2).map (List.map G.lo)) (cs.drop i) o) ∧ Hid (Below w2.heap.size w2 wr)) (fun _ u _ => cs.length - (intOf u).toNat)
      case atStart => exact ⟨2, oo, rfl, rfl, by omega, by omega, hoo, hide (by rw [HR0.out]; rw [show (cs.take 2).drop 2 = [] by simp]; rfl), HB0⟩
      case round =>
        obtain ⟨i, o, rfl, rfl, hfi, hin, hol, HRV, HBW⟩ := hrel
        clear HR0 HB0 hoo
        by_cases hlt : i < cs.length
        · have hcx := HCELL.out wr HBW.out i hlt
          have hxl := HXL.out i hlt
          have HDR : Hid (cs.drop i = cs[i] :: cs.drop (i + 1)) := hide (List.drop_eq_getElem_cons hlt)
          have HTK : Hid ((cs.take (i + 1)).drop 2 = (cs.take i).drop 2 ++ [cs[i]]) := hide (by rw [List.take_succ_eq_append_getElem hlt, List.drop_append_of_le_length (by rw [List.length_take]; omega)])
          have HCI : Hid (∀ W, Below w2.heap.size w2 W → W.cell? ⟨b, off + i, none⟩ = some (tx cs[i])) := hide (fun W h => HCELL.out W h i hlt)
          generalize cs[i] = x at *
          have HRV2 : Hid (G.canon s = if G.variant x = false then none else if (((cs.take i).drop 2).map (List.map G.lo)).contains (x.map G.lo) then none else G.rv ((((cs.take i).drop 2).map (List.map G.lo)) ++ [x.map G.lo]) (cs.drop (i + 1)) (o ++ [45] ++ x.map G.lo)) := hide (by rw [HRV.out, HDR.out]; rfl)
          have hvr := variantR_any x (by omega) wr
          unfold tx at hcx hvr
          clear HRV HDR
          go_wp2_with fail
          with_reducible refine hvr.mono ?_
          rintro e w3 ⟨rfl, rfl⟩
          cases hvx : G.variant x with
          | false =>
            have HF : Hid (G.canon s = none) := hide (by rw [HRV2.out, if_pos hvx])
            clear HRV2 hvr HTK HCI
            go_wp2
            go_ret2
            exact ⟨.inr ⟨HF.out, rfl⟩, nx HB2.out HBW.out⟩
          | true =>
            rw [if_neg (by rw [hvx]; decide)] at HRV2
            clear hvr hvx
            go_wp2
            go_loopw [8] (fun u wr => ∃ k : Nat, u = .int .i64 (k : Int) ∧ 2 ≤ k ∧ k ≤ i ∧ Hid (∀ j (hj : j < cs.length), 2 ≤ j → j < k → ¬ (cs[j]).map G.lo = x.map G.lo) ∧ Hid (Below w2.heap.size w2 wr)) (fun u _ => i - (intOf u).toNat)
            case atStart => exact ⟨2, rfl, by omega, hfi, hide (fun j hj h1 h2 => by omega), HBW⟩
            case round =>
              obtain ⟨k, rfl, hfk, hki, HNE, HBW2⟩ := hrel
              clear HBW hcx
              by_cases hkl : k < i
              · have hkc : k < cs.length := by omega
                have hck := HCELL.out wr HBW2.out k hkc
                have hcx2 := HCI.out wr HBW2.out
                have hkl2 := HXL.out k hkc
                have HMEM : Hid ((cs[k]).map G.lo = x.map G.lo → (((cs.take i).drop 2).map (List.map G.lo)).contains (x.map G.lo) = true) := hide (fun h => by
                  rw [List.contains_iff_mem, ← h]
                  refine List.mem_map_of_mem ?_
                  rw [List.mem_iff_getElem?]
                  exact ⟨k - 2, by rw [List.getElem?_drop, List.getElem?_take, if_pos (by omega), show 2 + (k - 2) = k by omega, List.getElem?_eq_getElem hkc]⟩)
                have HNE2 : Hid (¬ (cs[k]).map G.lo = x.map G.lo → ∀ j (hj : j < cs.length), 2 ≤ j → j < k + 1 → ¬ (cs[j]).map G.lo = x.map G.lo) := hide (fun h j hj h1 h2 => by
                  by_cases e : j = k
                  · subst e; exact h
                  · exact HNE.out j hj h1 (by omega))
                generalize cs[k] = y at *
                have hs1 := fun W => small_any y (by omega) W
                have hs2 := fun W => small_any x (by omega) W
                generalize y.map G.lo = ly at *
                generalize hlx : x.map G.lo = lx at *
                clear HNE hlx
                go_wp2
                refine Reg.start (B := wr.drew.heap.size) (by kernel_rfl) ?_
                obtain ⟨wa, hwa⟩ : ∃ wa, wa = wr.drew := ⟨_, rfl⟩
                rw [← hwa]
                have HBA : Hid (Below w2.heap.size w2 wa) := hide (by rw [hwa]; exact HBW2.out.drew)
                have hca : wa.cell? ⟨b, off + k, none⟩ = some (.string ⟨y.toArray⟩) := by rw [hwa]; exact hck
                have hcb : wa.cell? ⟨b, off + i, none⟩ = some (.string ⟨x.toArray⟩) := by rw [hwa]; exact hcx2
                clear hwa hck hcx2 HBW2
                refine Reg.take (fun _ _ _ _ _ h => h) 0 _ 140 (.slice (some ⟨b, off, none⟩) cs.length cap) rfl (by kernel_rfl) (by kernel_rfl) (by kernel_rfl) rfl (by kernel_rfl) (by kernel_rfl) (fun _ _ => by kernel_rfl) ?_
                refine Reg.take (fun _ _ _ _ _ h => h) 1 _ 141 (.int .i64 (k : Int)) rfl (by kernel_rfl) (by kernel_rfl) (by kernel_rfl) rfl (by kernel_rfl) (by kernel_rfl) (fun _ _ => by kernel_rfl) ?_
                refine Reg.take (fun _ _ _ _ _ h => h) 2 _ 142 (.pointer (some ⟨b, off + k, none⟩)) rfl (by kernel_rfl) (by kernel_rfl) (by kernel_rfl) rfl (by kernel_rfl) (by kernel_rfl) (fun _ _ => ixA (b := b) (off := off) (n := cs.length) (cap := cap) (k := k) rfl (by kernel_rfl) (by kernel_rfl) (by omega)) ?_
                refine Reg.take (fun _ _ _ _ _ h => h) 3 _ 143 (.string ⟨y.toArray⟩) rfl (by kernel_rfl) (by kernel_rfl) (by kernel_rfl) rfl (by kernel_rfl) (by kernel_rfl) (fun w4 h4 => Reg.ldS rfl rfl (cell_later h4 hca) (Tryz.isAgg9 _)) ?_
                refine Reg.take (fun _ _ _ _ _ h => h) 5 _ 145 (.slice (some ⟨b, off, none⟩) cs.length cap) rfl (by kernel_rfl) (by kernel_rfl) (by kernel_rfl) rfl (by kernel_rfl) (by kernel_rfl) (fun _ _ => by kernel_rfl) ?_
                refine Reg.take (fun _ _ _ _ _ h => h) 6 _ 146 (.int .i64 (i : Int)) rfl (by kernel_rfl) (by kernel_rfl) (by kernel_rfl) rfl (by kernel_rfl) (by kernel_rfl) (fun _ _ => by kernel_rfl) ?_
                refine Reg.take (fun _ _ _ _ _ h => h) 7 _ 147 (.pointer (some ⟨b, off + i, none⟩)) rfl (by kernel_rfl) (by kernel_rfl) (by kernel_rfl) rfl (by kernel_rfl) (by kernel_rfl) (fun _ _ => ixA (b := b) (off := off) (n := cs.length) (cap := cap) (k := i) rfl (by kernel_rfl) (by kernel_rfl) (by omega)) ?_
                refine Reg.take (fun _ _ _ _ _ h => h) 8 _ 148 (.string ⟨x.toArray⟩) rfl (by kernel_rfl) (by kernel_rfl) (by kernel_rfl) rfl (by kernel_rfl) (by kernel_rfl) (fun w4 h4 => Reg.ldS rfl rfl (cell_later h4 hcb) (Tryz.isAgg9 _)) ?_
                refine Reg.call 4 _ 144 76 _ _ #[tx y] rfl (by kernel_rfl) rfl (by kernel_rfl) (by kernel_rfl) rfl (by kernel_rfl) (by kernel_rfl) (hs1 wa) ?_
                rintro e w5 ⟨rfl, b5⟩
                refine ⟨_, w5.heap.size, rfl, b5.size, b5, ?_⟩
                refine Reg.call 9 _ 149 76 _ _ #[tx x] rfl (by kernel_rfl) rfl (by kernel_rfl) (by kernel_rfl) rfl (by kernel_rfl) (by kernel_rfl) (hs2 w5) ?_
                rintro e w6 ⟨rfl, b6⟩
                refine ⟨_, w6.heap.size, rfl, b6.size, b6, ?_⟩
                have HB6 : Hid (Below w2.heap.size w2 w6) := hide (nx HBA.out (nx b5 b6))
                by_cases hyx : ly = lx
                · have HF : Hid (G.canon s = none) := hide (by rw [HRV2.out, HMEM.out hyx]; rfl)
                  refine Reg.take (fun _ _ _ _ _ h => h) 10 _ 150 (.bool true) rfl (by kernel_rfl) (by kernel_rfl) (by kernel_rfl) rfl (by kernel_rfl) (by kernel_rfl) (fun _ _ => eqS2 (l := ly) (m := lx) rfl (by kernel_rfl) (by kernel_rfl) (by rw [hyx]; simp)) ?_
                  refine Reg.done (by kernel_rfl) ?_
                  simp only [Reg.ov, Act.put, List.setIfInBounds_toArray, List.set_cons_succ, List.set_cons_zero]
                  clear HRV2 HMEM HNE2
                  go_wp2
                  go_ret2
                  exact ⟨.inr ⟨HF.out, rfl⟩, nx HB2.out HB6.out⟩
                · have HX := hide (HNE2.out hyx)
                  refine Reg.take (fun _ _ _ _ _ h => h) 10 _ 150 (.bool false) rfl (by kernel_rfl) (by kernel_rfl) (by kernel_rfl) rfl (by kernel_rfl) (by kernel_rfl) (fun _ _ => eqS2 (l := ly) (m := lx) rfl (by kernel_rfl) (by kernel_rfl) (by simp [hyx])) ?_
                  refine Reg.done (by kernel_rfl) ?_
                  simp only [Reg.ov, Act.put, List.setIfInBounds_toArray, List.set_cons_succ, List.set_cons_zero]
                  clear HMEM HNE2
                  go_wp2
                  go_roundw
                  case rel => exact ⟨k + 1, by go_num, by omega, by omega, HX, HB6⟩
                  case measure => simp [intOf]; omega
              · obtain rfl : k = i := by omega
                have hcx2 := HCI.out wr HBW2.out
                have hs2 := small_any x (by omega) wr
                have HNC : Hid ((((cs.take k).drop 2).map (List.map G.lo)).contains (x.map G.lo) = false) := hide (by
                  rw [← Bool.not_eq_true, List.contains_iff_mem]
                  intro hm
                  obtain ⟨y, hy, e⟩ := List.mem_map.1 hm
                  obtain ⟨j, hj⟩ := List.mem_iff_getElem?.1 hy
                  rw [List.getElem?_drop, List.getElem?_take] at hj
                  split at hj
                  · rename_i h1
                    obtain ⟨h2, rfl⟩ := List.getElem?_eq_some_iff.1 hj
                    exact HNE.out _ h2 (by omega) h1 e
                  · cases hj)
                have HRN : Hid (G.canon s = G.rv (((cs.take (k + 1)).drop 2).map (List.map G.lo)) (cs.drop (k + 1)) (o ++ [45] ++ x.map G.lo)) := hide (by rw [HRV2.out, HNC.out, HTK.out, List.map_append]; rfl)
                have a1 := add_tx o [45]
                have a2 := add_tx (o ++ [45]) (x.map G.lo)
                have z1 := sz_tx o
                have z2 := sz_tx (o ++ [45])
                have z3 := sz_tx (x.map G.lo)
                have hob : o.length ≤ 1700 := by omega
                have g1 : (o ++ [45]).length ≤ 1701 := by rw [List.length_append]; simp only [List.length_cons, List.length_nil]; omega
                have g2 : (x.map G.lo).length ≤ 40 := by rw [List.length_map]; omega
                have g3 : (o ++ [45] ++ x.map G.lo).length ≤ 41 * (k + 1) := by rw [List.length_append, List.length_append]; simp only [List.length_cons, List.length_nil]; omega
                unfold tx at hcx2 hs2
                generalize o ++ [45] ++ x.map G.lo = o2 at *
                generalize x.map G.lo = lx at *
                generalize o ++ [45] = o1 at *
                clear HRV2 HNC HTK HNE
                go_wp2_with fail
                with_reducible refine hs2.mono ?_
                rintro e w5 ⟨rfl, b5⟩
                go_wp2
                go_roundw
                case rel => exact ⟨k + 1, o2, rfl, by go_num, by omega, by omega, g3, HRN, hide (nx HBW2.out b5)⟩
                case measure => simp [intOf]; omega
        · have HF : Hid (G.canon s = some o) := hide (by rw [HRV.out, show cs.drop i = [] from List.drop_of_length_le (by omega)]; rfl)
          clear HRV
          go_wp2
          go_ret2
          exact ⟨.inl ⟨_, HF.out, rfl⟩, nx HB2.out HBW.out⟩
  · have e2 : ((x.length : Int) == 2) = false := by simp; omega
    by_cases l3 : x.length = 3
    · have e3 : ((x.length : Int) == 3) = true := by rw [l3]; rfl
      have h29 := numbersR_any x (by omega) w6
      unfold tx at h29
      cases hal : x.all G.isD with
      | true =>
        rw [hal] at h29
        have hreg : G.region x = true := by unfold G.region G.run; rw [l3, hal]; simp
        clear l2 l3 hal
        go_wp2_with fail
        with_reducible refine h29.mono ?_
        rintro e wD ⟨rfl, rfl⟩
        have h28 := capital_any x (by omega) wD
        have a1 := add_tx o2 [45]
        have a2 := add_tx (o2 ++ [45]) (x.map G.up)
        have z1 := sz_tx o2
        have z2 := sz_tx (o2 ++ [45])
        have z3 := sz_tx (x.map G.up)
        have g1 : (o2 ++ [45]).length ≤ 41 * 2 + 1 := by rw [List.length_append]; simp only [List.length_cons, List.length_nil]; omega
        have g2 : (x.map G.up).length ≤ 40 := by rw [List.length_map]; omega
        have hoo : (o2 ++ [45] ++ x.map G.up).length ≤ 41 * 3 := by rw [List.length_append]; omega
        have HR0 := hide (HYR.out hreg)
        unfold tx at h28
        generalize o2 ++ [45] ++ x.map G.up = oo at *
        generalize x.map G.up = ux at *
        generalize o2 ++ [45] = o1 at *
        clear HNR HYR hreg
        go_wp2_with fail
        with_reducible refine h28.mono ?_
        rintro e wE ⟨rfl, bE⟩
        have HB0 := hide (nx HBC.out bE)
        clear HBC bE h28 h29
        go_wp2
        go_loopw [5, 6] (fun v u wr => ∃ (i : Nat) (o : List UInt8), v = .string ⟨o.toArray⟩ ∧ u = .int .i64 (i : Int) ∧ 3 ≤ i ∧ i ≤ cs.length ∧ o.length ≤ 41 * i ∧ Hid (G.canon s = G.rv (((cs.take i).drop 3).map (List.map G.lo)) (cs.drop i) o) ∧ Hid (Below w2.heap.size w2 wr)) (fun _ u _ => cs.length - (intOf u).toNat)
        case atStart => exact ⟨3, oo, rfl, rfl, by omega, by omega, hoo, hide (by rw [HR0.out]; rw [show (cs.take 3).drop 3 = [] by simp]; rfl), HB0⟩
        case round =>
          obtain ⟨i, o, rfl, rfl, hfi, hin, hol, HRV, HBW⟩ := hrel
          clear HR0 HB0 hoo
          by_cases hlt : i < cs.length
          · have hcx := HCELL.out wr HBW.out i hlt
            have hxl := HXL.out i hlt
            have HDR : Hid (cs.drop i = cs[i] :: cs.drop (i + 1)) := hide (List.drop_eq_getElem_cons hlt)
            have HTK : Hid ((cs.take (i + 1)).drop 3 = (cs.take i).drop 3 ++ [cs[i]]) := hide (by rw [List.take_succ_eq_append_getElem hlt, List.drop_append_of_le_length (by rw [List.length_take]; omega)])
            have HCI : Hid (∀ W, Below w2.heap.size w2 W → W.cell? ⟨b, off + i, none⟩ = some (tx cs[i])) := hide (fun W h => HCELL.out W h i hlt)
            generalize cs[i] = x at *
            have HRV2 : Hid (G.canon s = if G.variant x = false then none else if (((cs.take i).drop 3).map (List.map G.lo)).contains (x.map G.lo) then none else G.rv ((((cs.take i).drop 3).map (List.map G.lo)) ++ [x.map G.lo]) (cs.drop (i + 1)) (o ++ [45] ++ x.map G.lo)) := hide (by rw [HRV.out, HDR.out]; rfl)
            have hvr := variantR_any x (by omega) wr
            unfold tx at hcx hvr
            clear HRV HDR
            go_wp2_with fail
            with_reducible refine hvr.mono ?_
            rintro e w3 ⟨rfl, rfl⟩
            cases hvx : G.variant x with
            | false =>
              have HF : Hid (G.canon s = none) := hide (by rw [HRV2.out, if_pos hvx])
              clear HRV2 hvr HTK HCI
              go_wp2
              go_ret2
              exact ⟨.inr ⟨HF.out, rfl⟩, nx HB2.out HBW.out⟩
            | true =>
              rw [if_neg (by rw [hvx]; decide)] at HRV2
              clear hvr hvx
              go_wp2
              go_loopw [8] (fun u wr => ∃ k : Nat, u = .int .i64 (k : Int) ∧ 3 ≤ k ∧ k ≤ i ∧ Hid (∀ j (hj : j < cs.length), 3 ≤ j → j < k → ¬ (cs[j]).map G.lo = x.map G.lo) ∧ Hid (Below w2.heap.size w2 wr)) (fun u _ => i - (intOf u).toNat)
              case atStart => exact ⟨3, rfl, by omega, hfi, hide (fun j hj h1 h2 => by omega), HBW⟩
              case round =>
                obtain ⟨k, rfl, hfk, hki, HNE, HBW2⟩ := hrel
                clear HBW hcx
                by_cases hkl : k < i
                · have hkc : k < cs.length := by omega
                  have hck := HCELL.out wr HBW2.out k hkc
                  have hcx2 := HCI.out wr HBW2.out
                  have hkl2 := HXL.out k hkc
                  have HMEM : Hid ((cs[k]).map G.lo = x.map G.lo → (((cs.take i).drop 3).map (List.map G.lo)).contains (x.map G.lo) = true) := hide (fun h => by
                    rw [List.contains_iff_mem, ← h]
                    refine List.mem_map_of_mem ?_
                    rw [List.mem_iff_getElem?]
                    exact ⟨k - 3, by rw [List.getElem?_drop, List.getElem?_take, if_pos (by omega), show 3 + (k - 3) = k by omega, List.getElem?_eq_getElem hkc]⟩)
                  have HNE2 : Hid (¬ (cs[k]).map G.lo = x.map G.lo → ∀ j (hj : j < cs.length), 3 ≤ j → j < k + 1 → ¬ (cs[j]).map G.lo = x.map G.lo) := hide (fun h j hj h1 h2 => by
                    by_cases e : j = k
                    · subst e; exact h
                    · exact HNE.out j hj h1 (by omega))
                  generalize cs[k] = y at *
                  have hs1 := fun W => small_any y (by omega) W
                  have hs2 := fun W => small_any x (by omega) W
                  generalize y.map G.lo = ly at *
                  generalize hlx : x.map G.lo = lx at *
                  clear HNE hlx
                  go_wp2
                  refine Reg.start (B := wr.drew.heap.size) (by kernel_rfl) ?_
                  obtain ⟨wa, hwa⟩ : ∃ wa, wa = wr.drew := ⟨_, rfl⟩
                  rw [← hwa]
                  have HBA : Hid (Below w2.heap.size w2 wa) := hide (by rw [hwa]; exact HBW2.out.drew)
                  have hca : wa.cell? ⟨b, off + k, none⟩ = some (.string ⟨y.toArray⟩) := by rw [hwa]; exact hck
                  have hcb : wa.cell? ⟨b, off + i, none⟩ = some (.string ⟨x.toArray⟩) := by rw [hwa]; exact hcx2
                  clear hwa hck hcx2 HBW2
                  refine Reg.take (fun _ _ _ _ _ h => h) 0 _ 140 (.slice (some ⟨b, off, none⟩) cs.length cap) rfl (by kernel_rfl) (by kernel_rfl) (by kernel_rfl) rfl (by kernel_rfl) (by kernel_rfl) (fun _ _ => by kernel_rfl) ?_
                  refine Reg.take (fun _ _ _ _ _ h => h) 1 _ 141 (.int .i64 (k : Int)) rfl (by kernel_rfl) (by kernel_rfl) (by kernel_rfl) rfl (by kernel_rfl) (by kernel_rfl) (fun _ _ => by kernel_rfl) ?_
                  refine Reg.take (fun _ _ _ _ _ h => h) 2 _ 142 (.pointer (some ⟨b, off + k, none⟩)) rfl (by kernel_rfl) (by kernel_rfl) (by kernel_rfl) rfl (by kernel_rfl) (by kernel_rfl) (fun _ _ => ixA (b := b) (off := off) (n := cs.length) (cap := cap) (k := k) rfl (by kernel_rfl) (by kernel_rfl) (by omega)) ?_
                  refine Reg.take (fun _ _ _ _ _ h => h) 3 _ 143 (.string ⟨y.toArray⟩) rfl (by kernel_rfl) (by kernel_rfl) (by kernel_rfl) rfl (by kernel_rfl) (by kernel_rfl) (fun w4 h4 => Reg.ldS rfl rfl (cell_later h4 hca) (Tryz.isAgg9 _)) ?_
                  refine Reg.take (fun _ _ _ _ _ h => h) 5 _ 145 (.slice (some ⟨b, off, none⟩) cs.length cap) rfl (by kernel_rfl) (by kernel_rfl) (by kernel_rfl) rfl (by kernel_rfl) (by kernel_rfl) (fun _ _ => by kernel_rfl) ?_
                  refine Reg.take (fun _ _ _ _ _ h => h) 6 _ 146 (.int .i64 (i : Int)) rfl (by kernel_rfl) (by kernel_rfl) (by kernel_rfl) rfl (by kernel_rfl) (by kernel_rfl) (fun _ _ => by kernel_rfl) ?_
                  refine Reg.take (fun _ _ _ _ _ h => h) 7 _ 147 (.pointer (some ⟨b, off + i, none⟩)) rfl (by kernel_rfl) (by kernel_rfl) (by kernel_rfl) rfl (by kernel_rfl) (by kernel_rfl) (fun _ _ => ixA (b := b) (off := off) (n := cs.length) (cap := cap) (k := i) rfl (by kernel_rfl) (by kernel_rfl) (by omega)) ?_
                  refine Reg.take (fun _ _ _ _ _ h => h) 8 _ 148 (.string ⟨x.toArray⟩) rfl (by kernel_rfl) (by kernel_rfl) (by kernel_rfl) rfl (by kernel_rfl) (by kernel_rfl) (fun w4 h4 => Reg.ldS rfl rfl (cell_later h4 hcb) (Tryz.isAgg9 _)) ?_
                  refine Reg.call 4 _ 144 76 _ _ #[tx y] rfl (by kernel_rfl) rfl (by kernel_rfl) (by kernel_rfl) rfl (by kernel_rfl) (by kernel_rfl) (hs1 wa) ?_
                  rintro e w5 ⟨rfl, b5⟩
                  refine ⟨_, w5.heap.size, rfl, b5.size, b5, ?_⟩
                  refine Reg.call 9 _ 149 76 _ _ #[tx x] rfl (by kernel_rfl) rfl (by kernel_rfl) (by kernel_rfl) rfl (by kernel_rfl) (by kernel_rfl) (hs2 w5) ?_
                  rintro e w6 ⟨rfl, b6⟩
                  refine ⟨_, w6.heap.size, rfl, b6.size, b6, ?_⟩
                  have HB6 : Hid (Below w2.heap.size w2 w6) := hide (nx HBA.out (nx b5 b6))
                  by_cases hyx : ly = lx
                  · have HF : Hid (G.canon s = none) := hide (by rw [HRV2.out, HMEM.out hyx]; rfl)
                    refine Reg.take (fun _ _ _ _ _ h => h) 10 _ 150 (.bool true) rfl (by kernel_rfl) (by kernel_rfl) (by kernel_rfl) rfl (by kernel_rfl) (by kernel_rfl) (fun _ _ => eqS2 (l := ly) (m := lx) rfl (by kernel_rfl) (by kernel_rfl) (by rw [hyx]; simp)) ?_
                    refine Reg.done (by kernel_rfl) ?_
                    simp only [Reg.ov, Act.put, List.setIfInBounds_toArray, List.set_cons_succ, List.set_cons_zero]
                    clear HRV2 HMEM HNE2
                    go_wp2
                    go_ret2
                    exact ⟨.inr ⟨HF.out, rfl⟩, nx HB2.out HB6.out⟩
                  · have HX := hide (HNE2.out hyx)
                    refine Reg.take (fun _ _ _ _ _ h => h) 10 _ 150 (.bool false) rfl (by kernel_rfl) (by kernel_rfl) (by kernel_rfl) rfl (by kernel_rfl) (by kernel_rfl) (fun _ _ => eqS2 (l := ly) (m := lx) rfl (by kernel_rfl) (by kernel_rfl) (by simp [hyx])) ?_
                    refine Reg.done (by kernel_rfl) ?_
                    simp only [Reg.ov, Act.put, List.setIfInBounds_toArray, List.set_cons_succ, List.set_cons_zero]
                    clear HMEM HNE2
                    go_wp2
                    go_roundw
                    case rel => exact ⟨k + 1, by go_num, by omega, by omega, HX, HB6⟩
                    case measure => simp [intOf]; omega
                · obtain rfl : k = i := by omega
                  have hcx2 := HCI.out wr HBW2.out
                  have hs2 := small_any x (by omega) wr
                  have HNC : Hid ((((cs.take k).drop 3).map (List.map G.lo)).contains (x.map G.lo) = false) := hide (by
                    rw [← Bool.not_eq_true, List.contains_iff_mem]
                    intro hm
                    obtain ⟨y, hy, e⟩ := List.mem_map.1 hm
                    obtain ⟨j, hj⟩ := List.mem_iff_getElem?.1 hy
                    rw [List.getElem?_drop, List.getElem?_take] at hj
                    split at hj
                    · rename_i h1
                      obtain ⟨h2, rfl⟩ := List.getElem?_eq_some_iff.1 hj
                      exact HNE.out _ h2 (by omega) h1 e
                    · cases hj)
                  have HRN : Hid (G.canon s = G.rv (((cs.take (k + 1)).drop 3).map (List.map G.lo)) (cs.drop (k + 1)) (o ++ [45] ++ x.map G.lo)) := hide (by rw [HRV2.out, HNC.out, HTK.out, List.map_append]; rfl)
                  have a1 := add_tx o [45]
                  have a2 := add_tx (o ++ [45]) (x.map G.lo)
                  have z1 := sz_tx o
                  have z2 := sz_tx (o ++ [45])
                  have z3 := sz_tx (x.map G.lo)
                  have hob : o.length ≤ 1700 := by omega
                  have g1 : (o ++ [45]).length ≤ 1701 := by rw [List.length_append]; simp only [List.length_cons, List.length_nil]; omega
                  have g2 : (x.map G.lo).length ≤ 40 := by rw [List.length_map]; omega
                  have g3 : (o ++ [45] ++ x.map G.lo).length ≤ 41 * (k + 1) := by rw [List.length_append, List.length_append]; simp only [List.length_cons, List.length_nil]; omega
                  unfold tx at hcx2 hs2
                  generalize o ++ [45] ++ x.map G.lo = o2 at *
                  generalize x.map G.lo = lx at *
                  generalize o ++ [45] = o1 at *
                  clear HRV2 HNC HTK HNE
                  go_wp2_with fail
                  with_reducible refine hs2.mono ?_
                  rintro e w5 ⟨rfl, b5⟩
                  go_wp2
                  go_roundw
                  case rel => exact ⟨k + 1, o2, rfl, by go_num, by omega, by omega, g3, HRN, hide (nx HBW2.out b5)⟩
                  case measure => simp [intOf]; omega
          · have HF : Hid (G.canon s = some o) := hide (by rw [HRV.out, show cs.drop i = [] from List.drop_of_length_le (by omega)]; rfl)
            clear HRV
            go_wp2
            go_ret2
            exact ⟨.inl ⟨_, HF.out, rfl⟩, nx HB2.out HBW.out⟩
      | false =>
        rw [hal] at h29
        have hnr : G.region x = false := by unfold G.region G.run; rw [l3, hal]; simp
        clear l2 l3 hal
        go_wp2_with fail
        with_reducible refine h29.mono ?_
        rintro e wD ⟨rfl, rfl⟩
        obtain ⟨oo, hoo', HO⟩ : ∃ oo, oo = o2 ∧ True := ⟨_, rfl, trivial⟩
        subst hoo'
        have hoo := ho1
        have HB0 := HBC
        have HR0 : Hid (G.canon s = G.rv [] (cs.drop 2) oo) := hide (HNR.out (by exact hnr))
        clear HBC HNR HYR ho1
        clear hnr h29
        go_wp2
        go_loopw [5, 6] (fun v u wr => ∃ (i : Nat) (o : List UInt8), v = .string ⟨o.toArray⟩ ∧ u = .int .i64 (i : Int) ∧ 2 ≤ i ∧ i ≤ cs.length ∧ o.length ≤ 41 * i ∧ Hid (G.canon s = G.rv (((cs.take i).drop 2).map (List.map G.lo)) (cs.drop i) o) ∧ Hid (Below w2.heap.size w2 wr)) (fun _ u _ => cs.length - (intOf u).toNat)
        case atStart => exact ⟨2, oo, rfl, rfl, by omega, by omega, hoo, hide (by rw [HR0.out]; rw [show (cs.take 2).drop 2 = [] by simp]; rfl), HB0⟩
        case round =>
          obtain ⟨i, o, rfl, rfl, hfi, hin, hol, HRV, HBW⟩ := hrel
          clear HR0 HB0 hoo
          by_cases hlt : i < cs.length
          · have hcx := HCELL.out wr HBW.out i hlt
            have hxl := HXL.out i hlt
            have HDR : Hid (cs.drop i = cs[i] :: cs.drop (i + 1)) := hide (List.drop_eq_getElem_cons hlt)
            have HTK : Hid ((cs.take (i + 1)).drop 2 = (cs.take i).drop 2 ++ [cs[i]]) := hide (by rw [List.take_succ_eq_append_getElem hlt, List.drop_append_of_le_length (by rw [List.length_take]; omega)])
            have HCI : Hid (∀ W, Below w2.heap.size w2 W → W.cell? ⟨b, off + i, none⟩ = some (tx cs[i])) := hide (fun W h => HCELL.out W h i hlt)
            generalize cs[i] = x at *
            have HRV2 : Hid (G.canon s = if G.variant x = false then none else if (((cs.take i).drop 2).map (List.map G.lo)).contains (x.map G.lo) then none else G.rv ((((cs.take i).drop 2).map (List.map G.lo)) ++ [x.map G.lo]) (cs.drop (i + 1)) (o ++ [45] ++ x.map G.lo)) := hide (by rw [HRV.out, HDR.out]; rfl)
            have hvr := variantR_any x (by omega) wr
            unfold tx at hcx hvr
            clear HRV HDR
            go_wp2_with fail
            with_reducible refine hvr.mono ?_
            rintro e w3 ⟨rfl, rfl⟩
            cases hvx : G.variant x with
            | false =>
              have HF : Hid (G.canon s = none) := hide (by rw [HRV2.out, if_pos hvx])
              clear HRV2 hvr HTK HCI
              go_wp2
              go_ret2
              exact ⟨.inr ⟨HF.out, rfl⟩, nx HB2.out HBW.out⟩
            | true =>
              rw [if_neg (by rw [hvx]; decide)] at HRV2
              clear hvr hvx
              go_wp2
              go_loopw [8] (fun u wr => ∃ k : Nat, u = .int .i64 (k : Int) ∧ 2 ≤ k ∧ k ≤ i ∧ Hid (∀ j (hj : j < cs.length), 2 ≤ j → j < k → ¬ (cs[j]).map G.lo = x.map G.lo) ∧ Hid (Below w2.heap.size w2 wr)) (fun u _ => i - (intOf u).toNat)
              case atStart => exact ⟨2, rfl, by omega, hfi, hide (fun j hj h1 h2 => by omega), HBW⟩
              case round =>
                obtain ⟨k, rfl, hfk, hki, HNE, HBW2⟩ := hrel
                clear HBW hcx
                by_cases hkl : k < i
                · have hkc : k < cs.length := by omega
                  have hck := HCELL.out wr HBW2.out k hkc
                  have hcx2 := HCI.out wr HBW2.out
                  have hkl2 := HXL.out k hkc
                  have HMEM : Hid ((cs[k]).map G.lo = x.map G.lo → (((cs.take i).drop 2).map (List.map G.lo)).contains (x.map G.lo) = true) := hide (fun h => by
                    rw [List.contains_iff_mem, ← h]
                    refine List.mem_map_of_mem ?_
                    rw [List.mem_iff_getElem?]
                    exact ⟨k - 2, by rw [List.getElem?_drop, List.getElem?_take, if_pos (by omega), show 2 + (k - 2) = k by omega, List.getElem?_eq_getElem hkc]⟩)
                  have HNE2 : Hid (¬ (cs[k]).map G.lo = x.map G.lo → ∀ j (hj : j < cs.length), 2 ≤ j → j < k + 1 → ¬ (cs[j]).map G.lo = x.map G.lo) := hide (fun h j hj h1 h2 => by
                    by_cases e : j = k
                    · subst e; exact h
                    · exact HNE.out j hj h1 (by omega))
                  generalize cs[k] = y at *
                  have hs1 := fun W => small_any y (by omega) W
                  have hs2 := fun W => small_any x (by omega) W
                  generalize y.map G.lo = ly at *
                  generalize hlx : x.map G.lo = lx at *
                  clear HNE hlx
                  go_wp2
                  refine Reg.start (B := wr.drew.heap.size) (by kernel_rfl) ?_
                  obtain ⟨wa, hwa⟩ : ∃ wa, wa = wr.drew := ⟨_, rfl⟩
                  rw [← hwa]
                  have HBA : Hid (Below w2.heap.size w2 wa) := hide (by rw [hwa]; exact HBW2.out.drew)
                  have hca : wa.cell? ⟨b, off + k, none⟩ = some (.string ⟨y.toArray⟩) := by rw [hwa]; exact hck
                  have hcb : wa.cell? ⟨b, off + i, none⟩ = some (.string ⟨x.toArray⟩) := by rw [hwa]; exact hcx2
                  clear hwa hck hcx2 HBW2
                  refine Reg.take (fun _ _ _ _ _ h => h) 0 _ 140 (.slice (some ⟨b, off, none⟩) cs.length cap) rfl (by kernel_rfl) (by kernel_rfl) (by kernel_rfl) rfl (by kernel_rfl) (by kernel_rfl) (fun _ _ => by kernel_rfl) ?_
                  refine Reg.take (fun _ _ _ _ _ h => h) 1 _ 141 (.int .i64 (k : Int)) rfl (by kernel_rfl) (by kernel_rfl) (by kernel_rfl) rfl (by kernel_rfl) (by kernel_rfl) (fun _ _ => by kernel_rfl) ?_
                  refine Reg.take (fun _ _ _ _ _ h => h) 2 _ 142 (.pointer (some ⟨b, off + k, none⟩)) rfl (by kernel_rfl) (by kernel_rfl) (by kernel_rfl) rfl (by kernel_rfl) (by kernel_rfl) (fun _ _ => ixA (b := b) (off := off) (n := cs.length) (cap := cap) (k := k) rfl (by kernel_rfl) (by kernel_rfl) (by omega)) ?_
                  refine Reg.take (fun _ _ _ _ _ h => h) 3 _ 143 (.string ⟨y.toArray⟩) rfl (by kernel_rfl) (by kernel_rfl) (by kernel_rfl) rfl (by kernel_rfl) (by kernel_rfl) (fun w4 h4 => Reg.ldS rfl rfl (cell_later h4 hca) (Tryz.isAgg9 _)) ?_
                  refine Reg.take (fun _ _ _ _ _ h => h) 5 _ 145 (.slice (some ⟨b, off, none⟩) cs.length cap) rfl (by kernel_rfl) (by kernel_rfl) (by kernel_rfl) rfl (by kernel_rfl) (by kernel_rfl) (fun _ _ => by kernel_rfl) ?_
                  refine Reg.take (fun _ _ _ _ _ h => h) 6 _ 146 (.int .i64 (i : Int)) rfl (by kernel_rfl) (by kernel_rfl) (by kernel_rfl) rfl (by kernel_rfl) (by kernel_rfl) (fun _ _ => by kernel_rfl) ?_
                  refine Reg.take (fun _ _ _ _ _ h => h) 7 _ 147 (.pointer (some ⟨b, off + i, none⟩)) rfl (by kernel_rfl) (by kernel_rfl) (by kernel_rfl) rfl (by kernel_rfl) (by kernel_rfl) (fun _ _ => ixA (b := b) (off := off) (n := cs.length) (cap := cap) (k := i) rfl (by kernel_rfl) (by kernel_rfl) (by omega)) ?_
                  refine Reg.take (fun _ _ _ _ _ h => h) 8 _ 148 (.string ⟨x.toArray⟩) rfl (by kernel_rfl) (by kernel_rfl) (by kernel_rfl) rfl (by kernel_rfl) (by kernel_rfl) (fun w4 h4 => Reg.ldS rfl rfl (cell_later h4 hcb) (Tryz.isAgg9 _)) ?_
                  refine Reg.call 4 _ 144 76 _ _ #[tx y] rfl (by kernel_rfl) rfl (by kernel_rfl) (by kernel_rfl) rfl (by kernel_rfl) (by kernel_rfl) (hs1 wa) ?_
                  rintro e w5 ⟨rfl, b5⟩
                  refine ⟨_, w5.heap.size, rfl, b5.size, b5, ?_⟩
                  refine Reg.call 9 _ 149 76 _ _ #[tx x] rfl (by kernel_rfl) rfl (by kernel_rfl) (by kernel_rfl) rfl (by kernel_rfl) (by kernel_rfl) (hs2 w5) ?_
                  rintro e w6 ⟨rfl, b6⟩
                  refine ⟨_, w6.heap.size, rfl, b6.size, b6, ?_⟩
                  have HB6 : Hid (Below w2.heap.size w2 w6) := hide (nx HBA.out (nx b5 b6))
                  by_cases hyx : ly = lx
                  · have HF : Hid (G.canon s = none) := hide (by rw [HRV2.out, HMEM.out hyx]; rfl)
                    refine Reg.take (fun _ _ _ _ _ h => h) 10 _ 150 (.bool true) rfl (by kernel_rfl) (by kernel_rfl) (by kernel_rfl) rfl (by kernel_rfl) (by kernel_rfl) (fun _ _ => eqS2 (l := ly) (m := lx) rfl (by kernel_rfl) (by kernel_rfl) (by rw [hyx]; simp)) ?_
                    refine Reg.done (by kernel_rfl) ?_
                    simp only [Reg.ov, Act.put, List.setIfInBounds_toArray, List.set_cons_succ, List.set_cons_zero]
                    clear HRV2 HMEM HNE2
                    go_wp2
                    go_ret2
                    exact ⟨.inr ⟨HF.out, rfl⟩, nx HB2.out HB6.out⟩
                  · have HX := hide (HNE2.out hyx)
                    refine Reg.take (fun _ _ _ _ _ h => h) 10 _ 150 (.bool false) rfl (by kernel_rfl) (by kernel_rfl) (by kernel_rfl) rfl (by kernel_rfl) (by kernel_rfl) (fun _ _ => eqS2 (l := ly) (m := lx) rfl (by kernel_rfl) (by kernel_rfl) (by simp [hyx])) ?_
                    refine Reg.done (by kernel_rfl) ?_
                    simp only [Reg.ov, Act.put, List.setIfInBounds_toArray, List.set_cons_succ, List.set_cons_zero]
                    clear HMEM HNE2
                    go_wp2
                    go_roundw
                    case rel => exact ⟨k + 1, by go_num, by omega, by omega, HX, HB6⟩
                    case measure => simp [intOf]; omega
                · obtain rfl : k = i := by omega
                  have hcx2 := HCI.out wr HBW2.out
                  have hs2 := small_any x (by omega) wr
                  have HNC : Hid ((((cs.take k).drop 2).map (List.map G.lo)).contains (x.map G.lo) = false) := hide (by
                    rw [← Bool.not_eq_true, List.contains_iff_mem]
                    intro hm
                    obtain ⟨y, hy, e⟩ := List.mem_map.1 hm
                    obtain ⟨j, hj⟩ := List.mem_iff_getElem?.1 hy
                    rw [List.getElem?_drop, List.getElem?_take] at hj
                    split at hj
                    · rename_i h1
                      obtain ⟨h2, rfl⟩ := List.getElem?_eq_some_iff.1 hj
                      exact HNE.out _ h2 (by omega) h1 e
                    · cases hj)
                  have HRN : Hid (G.canon s = G.rv (((cs.take (k + 1)).drop 2).map (List.map G.lo)) (cs.drop (k + 1)) (o ++ [45] ++ x.map G.lo)) := hide (by rw [HRV2.out, HNC.out, HTK.out, List.map_append]; rfl)
                  have a1 := add_tx o [45]
                  have a2 := add_tx (o ++ [45]) (x.map G.lo)
                  have z1 := sz_tx o
                  have z2 := sz_tx (o ++ [45])
                  have z3 := sz_tx (x.map G.lo)
                  have hob : o.length ≤ 1700 := by omega
                  have g1 : (o ++ [45]).length ≤ 1701 := by rw [List.length_append]; simp only [List.length_cons, List.length_nil]; omega
                  have g2 : (x.map G.lo).length ≤ 40 := by rw [List.length_map]; omega
                  have g3 : (o ++ [45] ++ x.map G.lo).length ≤ 41 * (k + 1) := by rw [List.length_append, List.length_append]; simp only [List.length_cons, List.length_nil]; omega
                  unfold tx at hcx2 hs2
                  generalize o ++ [45] ++ x.map G.lo = o2 at *
                  generalize x.map G.lo = lx at *
                  generalize o ++ [45] = o1 at *
                  clear HRV2 HNC HTK HNE
                  go_wp2_with fail
                  with_reducible refine hs2.mono ?_
                  rintro e w5 ⟨rfl, b5⟩
                  go_wp2
                  go_roundw
                  case rel => exact ⟨k + 1, o2, rfl, by go_num, by omega, by omega, g3, HRN, hide (nx HBW2.out b5)⟩
                  case measure => simp [intOf]; omega
          · have HF : Hid (G.canon s = some o) := hide (by rw [HRV.out, show cs.drop i = [] from List.drop_of_length_le (by omega)]; rfl)
            clear HRV
            go_wp2
            go_ret2
            exact ⟨.inl ⟨_, HF.out, rfl⟩, nx HB2.out HBW.out⟩
    · have e3 : ((x.length : Int) == 3) = false := by simp; omega
      have hnr : G.region x = false := by unfold G.region G.run; rw [Bool.or_eq_false_iff]; constructor <;> (rw [← Bool.not_eq_true]; simp; omega)
      clear l2 l3
      obtain ⟨oo, hoo', HO⟩ : ∃ oo, oo = o2 ∧ True := ⟨_, rfl, trivial⟩
      subst hoo'
      have hoo := ho1
      have HB0 := HBC
      have HR0 : Hid (G.canon s = G.rv [] (cs.drop 2) oo) := hide (HNR.out (by exact hnr))
      clear HBC HNR HYR ho1
      clear hnr
      go_wp2
      go_loopw [5, 6] (fun v u wr => ∃ (i : Nat) (o : List UInt8), v = .string ⟨o.toArray⟩ ∧ u = .int .i64 (i : Int) ∧ 2 ≤ i ∧ i ≤ cs.length ∧ o.length ≤ 41 * i ∧ Hid (G.canon s = G.rv (((cs.take i).drop 2).map (List.map G.lo)) (cs.drop i) o) ∧ Hid (Below w2.heap.size w2 wr)) (fun _ u _ => cs.length - (intOf u).toNat)
      case atStart => exact ⟨2, oo, rfl, rfl, by omega, by omega, hoo, hide (by rw [HR0.out]; rw [show (cs.take 2).drop 2 = [] by simp]; rfl), HB0⟩
      case round =>
        obtain ⟨i, o, rfl, rfl, hfi, hin, hol, HRV, HBW⟩ := hrel
        clear HR0 HB0 hoo
        by_cases hlt : i < cs.length
        · have hcx := HCELL.out wr HBW.out i hlt
          have hxl := HXL.out i hlt
          have HDR : Hid (cs.drop i = cs[i] :: cs.drop (i + 1)) := hide (List.drop_eq_getElem_cons hlt)
          have HTK : Hid ((cs.take (i + 1)).drop 2 = (cs.take i).drop 2 ++ [cs[i]]) := hide (by rw [List.take_succ_eq_append_getElem hlt, List.drop_append_of_le_length (by rw [List.length_take]; omega)])
          have HCI : Hid (∀ W, Below w2.heap.size w2 W → W.cell? ⟨b, off + i, none⟩ = some (tx cs[i])) := hide (fun W h => HCELL.out W h i hlt)
          generalize cs[i] = x at *
          have HRV2 : Hid (G.canon s = if G.variant x = false then none else if (((cs.take i).drop 2).map (List.map G.lo)).contains (x.map G.lo) then none else G.rv ((((cs.take i).drop 2).map (List.map G.lo)) ++ [x.map G.lo]) (cs.drop (i + 1)) (o ++ [45] ++ x.map G.lo)) := hide (by rw [HRV.out, HDR.out]; rfl)
          have hvr := variantR_any x (by omega) wr
          unfold tx at hcx hvr
          clear HRV HDR
          go_wp2_with fail
          with_reducible refine hvr.mono ?_
          rintro e w3 ⟨rfl, rfl⟩
          cases hvx : G.variant x with
          | false =>
            have HF : Hid (G.canon s = none) := hide (by rw [HRV2.out, if_pos hvx])
            clear HRV2 hvr HTK HCI
            go_wp2
            go_ret2
            exact ⟨.inr ⟨HF.out, rfl⟩, nx HB2.out HBW.out⟩
          | true =>
            rw [if_neg (by rw [hvx]; decide)] at HRV2
            clear hvr hvx
            go_wp2
            go_loopw [8] (fun u wr => ∃ k : Nat, u = .int .i64 (k : Int) ∧ 2 ≤ k ∧ k ≤ i ∧ Hid (∀ j (hj : j < cs.length), 2 ≤ j → j < k → ¬ (cs[j]).map G.lo = x.map G.lo) ∧ Hid (Below w2.heap.size w2 wr)) (fun u _ => i - (intOf u).toNat)
            case atStart => exact ⟨2, rfl, by omega, hfi, hide (fun j hj h1 h2 => by omega), HBW⟩
            case round =>
              obtain ⟨k, rfl, hfk, hki, HNE, HBW2⟩ := hrel
              clear HBW hcx
              by_cases hkl : k < i
              · have hkc : k < cs.length := by omega
                have hck := HCELL.out wr HBW2.out k hkc
                have hcx2 := HCI.out wr HBW2.out
                have hkl2 := HXL.out k hkc
                have HMEM : Hid ((cs[k]).map G.lo = x.map G.lo → (((cs.take i).drop 2).map (List.map G.lo)).contains (x.map G.lo) = true) := hide (fun h => by
                  rw [List.contains_iff_mem, ← h]
                  refine List.mem_map_of_mem ?_
                  rw [List.mem_iff_getElem?]
                  exact ⟨k - 2, by rw [List.getElem?_drop, List.getElem?_take, if_pos (by omega), show 2 + (k - 2) = k by omega, List.getElem?_eq_getElem hkc]⟩)
                have HNE2 : Hid (¬ (cs[k]).map G.lo = x.map G.lo → ∀ j (hj : j < cs.length), 2 ≤ j → j < k + 1 → ¬ (cs[j]).map G.lo = x.map G.lo) := hide (fun h j hj h1 h2 => by
                  by_cases e : j = k
                  · subst e; exact h
                  · exact HNE.out j hj h1 (by omega))
                generalize cs[k] = y at *
                have hs1 := fun W => small_any y (by omega) W
                have hs2 := fun W => small_any x (by omega) W
                generalize y.map G.lo = ly at *
                generalize hlx : x.map G.lo = lx at *
                clear HNE hlx
                go_wp2
                refine Reg.start (B := wr.drew.heap.size) (by kernel_rfl) ?_
                obtain ⟨wa, hwa⟩ : ∃ wa, wa = wr.drew := ⟨_, rfl⟩
                rw [← hwa]
                have HBA : Hid (Below w2.heap.size w2 wa) := hide (by rw [hwa]; exact HBW2.out.drew)
                have hca : wa.cell? ⟨b, off + k, none⟩ = some (.string ⟨y.toArray⟩) := by rw [hwa]; exact hck
                have hcb : wa.cell? ⟨b, off + i, none⟩ = some (.string ⟨x.toArray⟩) := by rw [hwa]; exact hcx2
                clear hwa hck hcx2 HBW2
                refine Reg.take (fun _ _ _ _ _ h => h) 0 _ 140 (.slice (some ⟨b, off, none⟩) cs.length cap) rfl (by kernel_rfl) (by kernel_rfl) (by kernel_rfl) rfl (by kernel_rfl) (by kernel_rfl) (fun _ _ => by kernel_rfl) ?_
                refine Reg.take (fun _ _ _ _ _ h => h) 1 _ 141 (.int .i64 (k : Int)) rfl (by kernel_rfl) (by kernel_rfl) (by kernel_rfl) rfl (by kernel_rfl) (by kernel_rfl) (fun _ _ => by kernel_rfl) ?_
                refine Reg.take (fun _ _ _ _ _ h => h) 2 _ 142 (.pointer (some ⟨b, off + k, none⟩)) rfl (by kernel_rfl) (by kernel_rfl) (by kernel_rfl) rfl (by kernel_rfl) (by kernel_rfl) (fun _ _ => ixA (b := b) (off := off) (n := cs.length) (cap := cap) (k := k) rfl (by kernel_rfl) (by kernel_rfl) (by omega)) ?_
                refine Reg.take (fun _ _ _ _ _ h => h) 3 _ 143 (.string ⟨y.toArray⟩) rfl (by kernel_rfl) (by kernel_rfl) (by kernel_rfl) rfl (by kernel_rfl) (by kernel_rfl) (fun w4 h4 => Reg.ldS rfl rfl (cell_later h4 hca) (Tryz.isAgg9 _)) ?_
                refine Reg.take (fun _ _ _ _ _ h => h) 5 _ 145 (.slice (some ⟨b, off, none⟩) cs.length cap) rfl (by kernel_rfl) (by kernel_rfl) (by kernel_rfl) rfl (by kernel_rfl) (by kernel_rfl) (fun _ _ => by kernel_rfl) ?_
                refine Reg.take (fun _ _ _ _ _ h => h) 6 _ 146 (.int .i64 (i : Int)) rfl (by kernel_rfl) (by kernel_rfl) (by kernel_rfl) rfl (by kernel_rfl) (by kernel_rfl) (fun _ _ => by kernel_rfl) ?_
                refine Reg.take (fun _ _ _ _ _ h => h) 7 _ 147 (.pointer (some ⟨b, off + i, none⟩)) rfl (by kernel_rfl) (by kernel_rfl) (by kernel_rfl) rfl (by kernel_rfl) (by kernel_rfl) (fun _ _ => ixA (b := b) (off := off) (n := cs.length) (cap := cap) (k := i) rfl (by kernel_rfl) (by kernel_rfl) (by omega)) ?_
                refine Reg.take (fun _ _ _ _ _ h => h) 8 _ 148 (.string ⟨x.toArray⟩) rfl (by kernel_rfl) (by kernel_rfl) (by kernel_rfl) rfl (by kernel_rfl) (by kernel_rfl) (fun w4 h4 => Reg.ldS rfl rfl (cell_later h4 hcb) (Tryz.isAgg9 _)) ?_
                refine Reg.call 4 _ 144 76 _ _ #[tx y] rfl (by kernel_rfl) rfl (by kernel_rfl) (by kernel_rfl) rfl (by kernel_rfl) (by kernel_rfl) (hs1 wa) ?_
                rintro e w5 ⟨rfl, b5⟩
                refine ⟨_, w5.heap.size, rfl, b5.size, b5, ?_⟩
                refine Reg.call 9 _ 149 76 _ _ #[tx x] rfl (by kernel_rfl) rfl (by kernel_rfl) (by kernel_rfl) rfl (by kernel_rfl) (by kernel_rfl) (hs2 w5) ?_
                rintro e w6 ⟨rfl, b6⟩
                refine ⟨_, w6.heap.size, rfl, b6.size, b6, ?_⟩
                have HB6 : Hid (Below w2.heap.size w2 w6) := hide (nx HBA.out (nx b5 b6))
                by_cases hyx : ly = lx
                · have HF : Hid (G.canon s = none) := hide (by rw [HRV2.out, HMEM.out hyx]; rfl)
                  refine Reg.take (fun _ _ _ _ _ h => h) 10 _ 150 (.bool true) rfl (by kernel_rfl) (by kernel_rfl) (by kernel_rfl) rfl (by kernel_rfl) (by kernel_rfl) (fun _ _ => eqS2 (l := ly) (m := lx) rfl (by kernel_rfl) (by kernel_rfl) (by rw [hyx]; simp)) ?_
                  refine Reg.done (by kernel_rfl) ?_
                  simp only [Reg.ov, Act.put, List.setIfInBounds_toArray, List.set_cons_succ, List.set_cons_zero]
                  clear HRV2 HMEM HNE2
                  go_wp2
                  go_ret2
                  exact ⟨.inr ⟨HF.out, rfl⟩, nx HB2.out HB6.out⟩
                · have HX := hide (HNE2.out hyx)
                  refine Reg.take (fun _ _ _ _ _ h => h) 10 _ 150 (.bool false) rfl (by kernel_rfl) (by kernel_rfl) (by kernel_rfl) rfl (by kernel_rfl) (by kernel_rfl) (fun _ _ => eqS2 (l := ly) (m := lx) rfl (by kernel_rfl) (by kernel_rfl) (by simp [hyx])) ?_
                  refine Reg.done (by kernel_rfl) ?_
                  simp only [Reg.ov, Act.put, List.setIfInBounds_toArray, List.set_cons_succ, List.set_cons_zero]
                  clear HMEM HNE2
                  go_wp2
                  go_roundw
                  case rel => exact ⟨k + 1, by go_num, by omega, by omega, HX, HB6⟩
                  case measure => simp [intOf]; omega
              · obtain rfl : k = i := by omega
                have hcx2 := HCI.out wr HBW2.out
                have hs2 := small_any x (by omega) wr
                have HNC : Hid ((((cs.take k).drop 2).map (List.map G.lo)).contains (x.map G.lo) = false) := hide (by
                  rw [← Bool.not_eq_true, List.contains_iff_mem]
                  intro hm
                  obtain ⟨y, hy, e⟩ := List.mem_map.1 hm
                  obtain ⟨j, hj⟩ := List.mem_iff_getElem?.1 hy
                  rw [List.getElem?_drop, List.getElem?_take] at hj
                  split at hj
                  · rename_i h1
                    obtain ⟨h2, rfl⟩ := List.getElem?_eq_some_iff.1 hj
                    exact HNE.out _ h2 (by omega) h1 e
                  · cases hj)
                have HRN : Hid (G.canon s = G.rv (((cs.take (k + 1)).drop 2).map (List.map G.lo)) (cs.drop (k + 1)) (o ++ [45] ++ x.map G.lo)) := hide (by rw [HRV2.out, HNC.out, HTK.out, List.map_append]; rfl)
                have a1 := add_tx o [45]
                have a2 := add_tx (o ++ [45]) (x.map G.lo)
                have z1 := sz_tx o
                have z2 := sz_tx (o ++ [45])
                have z3 := sz_tx (x.map G.lo)
                have hob : o.length ≤ 1700 := by omega
                have g1 : (o ++ [45]).length ≤ 1701 := by rw [List.length_append]; simp only [List.length_cons, List.length_nil]; omega
                have g2 : (x.map G.lo).length ≤ 40 := by rw [List.length_map]; omega
                have g3 : (o ++ [45] ++ x.map G.lo).length ≤ 41 * (k + 1) := by rw [List.length_append, List.length_append]; simp only [List.length_cons, List.length_nil]; omega
                unfold tx at hcx2 hs2
                generalize o ++ [45] ++ x.map G.lo = o2 at *
                generalize x.map G.lo = lx at *
                generalize o ++ [45] = o1 at *
                clear HRV2 HNC HTK HNE
                go_wp2_with fail
                with_reducible refine hs2.mono ?_
                rintro e w5 ⟨rfl, b5⟩
                go_wp2
                go_roundw
                case rel => exact ⟨k + 1, o2, rfl, by go_num, by omega, by omega, g3, HRN, hide (nx HBW2.out b5)⟩
                case measure => simp [intOf]; omega
        · have HF : Hid (G.canon s = some o) := hide (by rw [HRV.out, show cs.drop i = [] from List.drop_of_length_le (by omega)]; rfl)
          clear HRV
          go_wp2
          go_ret2
          exact ⟨.inl ⟨_, HF.out, rfl⟩, nx HB2.out HBW.out⟩
end Go.Proofs.YtbeihgjonhgfmaaGreatDoor
