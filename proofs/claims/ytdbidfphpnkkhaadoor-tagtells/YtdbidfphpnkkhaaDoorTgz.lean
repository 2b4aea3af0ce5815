/- TagTells: every text's tag, or that it is none; its parts, its parent. -/
import Derived.Test.YtdbidfphpnkkhaaDoorTgw
namespace Go.Proofs.YtdbidfphpnkkhaaDoor
open Go.RowKit Go.Shelf

theorem neS2 {w : World} {ρ : Operand → Value} {o : Oper} {t t' : TypeId} {x y : Operand} {l : List UInt8} (hop : o.op = .binOp .neq t x y t') (hx : ρ x = .string ⟨l.toArray⟩) (hy : ρ y = .string ⟨l.toArray⟩) : (execOp ρ o).run Tryd.prog w = .ok (.value (.bool false)) w := by
  obtain ⟨dst, op, type, pos, after, guard⟩ := o
  simp only at hop
  subst hop
  simp [execOp, hx, hy, eqGuard, binOp, Op.stringOp, Sem.run_pure]
theorem parts_nil_of {s : List UInt8} (h : G.isT s = false) : G.parts s = [] := by unfold G.parts; rw [if_neg (by rw [h]; decide)]
set_option maxRecDepth 100000 in
set_option maxHeartbeats 4000000 in
theorem tells_any (s : List UInt8) (hs : s.length ≤ 9223372036854775807) (w : World) (hA : AF w) : Calls Tryd.prog 3 #[tx s] w fun e W' => e = .returned (.bool true) ∧ Below w.heap.size w W' := by
  have hk := known_any w hA
  have HA := hide hA
  have hz := sz_tx s
  by_cases h100 : 100 < s.length
  · clear hA HA
    unfold tx at *
    go_enter Tryd.func3, Tryd.ntmps3
    go_wp2_with fail
    with_reducible refine hk.mono ?_
    rintro e w1 ⟨rfl, b1⟩
    go_wp2
    go_ret
    exact ⟨rfl, b1⟩
  · have hp13 := fun W (hW : AF W) => parent_any s hs W hW
    have hp14 := fun W => refParent_any s (by omega) W
    have hp11 := fun W (hW : AF W) => is_any s hs W hW
    have hp12 := fun W => refIs_any s (by omega) W
    have epp : (G.parent s == G.parent s) = true := by simp
    cases hcn : G.canon s with
    | none =>
      have k9 := fun W (hW : AF W) => canon_no hcn hs W hW
      have k10 : ∀ W, Calls Tryd.prog 10 #[tx s] W fun e w' => e = .returned (.tuple #[tx [], .bool false]) ∧ Below W.heap.size W w' := fun W => (refCanon_any s (by omega) W).mono (by
        rintro e w' ⟨⟨t, ht, _⟩ | ⟨_, rfl⟩, hb⟩
        · rw [hcn] at ht; cases ht
        · exact ⟨rfl, hb⟩)
      have hI : G.isT s = false := by
        cases h : G.isT s with
        | false => rfl
        | true => rw [G.isT_iff.1 h] at hcn; cases hcn
      have k15a := fun W (hW : AF W) => parts_any [] (by decide) W hW
      rw [parts_nil_of (show G.isT [] = false by decide +kernel)] at k15a
      have k15b := fun W (hW : AF W) => parts_any s hs W hW
      rw [parts_nil_of hI] at k15b
      rw [hI] at hp11 hp12
      clear hcn hI hA
      unfold tx at *
      generalize G.parent s = pp at *
      go_enter Tryd.func3, Tryd.ntmps3
      go_wp2_with fail
      with_reducible refine hk.mono ?_
      rintro e w1 ⟨rfl, b1⟩
      have A1 := hide (HA.out.later b1)
      have B1 := hide b1
      clear HA hk b1
      go_wp2_with fail
      with_reducible refine (k9 w1 A1.out).mono ?_
      rintro e w2 ⟨rfl, b2⟩
      have A2 := hide (A1.out.later b2)
      have B2 := hide (nx B1.out b2)
      clear A1 B1 b2 k9
      go_wp2_with fail
      with_reducible refine (k10 w2).mono ?_
      rintro e w3 ⟨rfl, b3⟩
      have A3 := hide (A2.out.later b3)
      have B3 := hide (nx B2.out b3)
      clear A2 B2 b3 k10
      go_wp2_with fail
      with_reducible refine (hp11 w3 A3.out).mono ?_
      rintro e w4 ⟨rfl, b4⟩
      have A4 := hide (A3.out.later b4)
      have B4 := hide (nx B3.out b4)
      clear A3 B3 b4 hp11
      go_wp2_with fail
      with_reducible refine (hp12 w4).mono ?_
      rintro e w5 ⟨rfl, b5⟩
      have A5 := hide (A4.out.later b5)
      have B5 := hide (nx B4.out b5)
      clear A4 B4 b5 hp12
      go_wp2_with fail
      with_reducible refine (hp13 w5 A5.out).mono ?_
      rintro e w6 ⟨rfl, b6⟩
      have A6 := hide (A5.out.later b6)
      have B6 := hide (nx B5.out b6)
      clear A5 B5 b6 hp13
      go_wp2_with fail
      with_reducible refine (hp14 w6).mono ?_
      rintro e w7 ⟨rfl, b7⟩
      have A7 := hide (A6.out.later b7)
      have B7 := hide (nx B6.out b7)
      clear A6 B6 b7 hp14
      go_wp2_with fail
      with_reducible refine (k15a w7 A7.out).mono ?_
      rintro e w8 ⟨u, rfl, ho, b8⟩
      obtain ⟨ao, cap, rfl, _, _⟩ := ho.rd
      have A8 := hide (A7.out.later b8)
      have B8 := hide (nx B7.out b8)
      clear A7 B7 b8 k15a ho
      simp only [List.length_nil]
      go_wp2_with fail
      with_reducible refine (k15b w8 A8.out).mono ?_
      rintro e w9 ⟨u, rfl, ho, b9⟩
      obtain ⟨ao2, cap2, rfl, _, _⟩ := ho.rd
      have B9 := hide (nx B8.out b9)
      clear A8 B8 b9 k15b ho
      simp only [List.length_nil]
      go_wp2
      go_ret
      exact ⟨rfl, B9.out⟩
    | some t =>
      have k9 := fun W (hW : AF W) => canon_ok hcn W hW
      have k10 : ∀ W, Calls Tryd.prog 10 #[tx s] W fun e w' => e = .returned (.tuple #[tx t, .bool true]) ∧ Below W.heap.size W w' := fun W => (refCanon_any s (by omega) W).mono (by
        rintro e w' ⟨⟨t', ht, rfl⟩ | ⟨ht, _⟩, hb⟩
        · rw [hcn] at ht; cases ht; exact ⟨rfl, hb⟩
        · rw [hcn] at ht; cases ht)
      have hT := G.isT_canon hcn
      have htl : t.length ≤ 40 := by
        rcases G.canon_cases hcn with h | ⟨_, _, _, h, _⟩
        · rw [h]; decide
        · exact h
      have k15 := fun W (hW : AF W) => parts_any t (by omega) W hW
      rw [show G.parts t = G.cut t by unfold G.parts; rw [if_pos hT]] at k15
      have k16 := fun W => split_any t (by omega) W
      have hcl := size_parts t
      have ett : (t == t) = true := by simp
      have es := elemSize30
      clear hcn hT hA
      unfold tx at *
      generalize G.parent s = pp at *
      generalize G.isT s = ii at *
      generalize G.cut t = cs at *
      go_enter Tryd.func3, Tryd.ntmps3
      go_wp2_with fail
      with_reducible refine hk.mono ?_
      rintro e w1 ⟨rfl, b1⟩
      have A1 := hide (HA.out.later b1)
      have B1 := hide b1
      clear HA hk b1
      go_wp2_with fail
      with_reducible refine (k9 w1 A1.out).mono ?_
      rintro e w2 ⟨rfl, b2⟩
      have A2 := hide (A1.out.later b2)
      have B2 := hide (nx B1.out b2)
      clear A1 B1 b2 k9
      go_wp2_with fail
      with_reducible refine (k10 w2).mono ?_
      rintro e w3 ⟨rfl, b3⟩
      have A3 := hide (A2.out.later b3)
      have B3 := hide (nx B2.out b3)
      clear A2 B2 b3 k10
      go_wp2_with fail
      with_reducible refine (hp11 w3 A3.out).mono ?_
      rintro e w4 ⟨rfl, b4⟩
      have A4 := hide (A3.out.later b4)
      have B4 := hide (nx B3.out b4)
      clear A3 B3 b4 hp11
      go_wp2_with fail
      with_reducible refine (hp12 w4).mono ?_
      rintro e w5 ⟨rfl, b5⟩
      have A5 := hide (A4.out.later b5)
      have B5 := hide (nx B4.out b5)
      clear A4 B4 b5 hp12
      go_wp2_with fail
      with_reducible refine (hp13 w5 A5.out).mono ?_
      rintro e w6 ⟨rfl, b6⟩
      have A6 := hide (A5.out.later b6)
      have B6 := hide (nx B5.out b6)
      clear A5 B5 b6 hp13
      go_wp2_with fail
      with_reducible refine (hp14 w6).mono ?_
      rintro e w7 ⟨rfl, b7⟩
      have A7 := hide (A6.out.later b7)
      have B7 := hide (nx B6.out b7)
      clear A6 B6 b7 hp14
      go_wp2_with fail
      with_reducible refine (k15 w7 A7.out).mono ?_
      rintro e w8 ⟨u, rfl, ho, b8⟩
      obtain ⟨ao, cap, rfl, _, hrd⟩ := ho.rd
      have B8 := hide (nx B7.out b8)
      clear A7 B7 b8 k15 ho
      go_wp2_with fail
      with_reducible refine (k16 w8).mono ?_
      rintro e w9 ⟨u, rfl, ho, b9⟩
      obtain ⟨ao2, cap2, rfl, _, hrd2⟩ := ho.rd
      have B9 := hide (nx B8.out b9)
      have HR1 := hide (hrd.later b9)
      have HR2 := hide hrd2
      clear B8 b9 k16 ho hrd hrd2
      go_wp2
      go_loopw [9] (fun u wr => ∃ i : Nat, u = .int .i64 (i : Int) ∧ i ≤ cs.length ∧ Hid (Below w9.heap.size w9 wr)) (fun u _ => cs.length - (intOf u).toNat)
      case atStart => exact ⟨0, rfl, by omega, hide (Below.refl _ _)⟩
      case round =>
        obtain ⟨i, rfl, hi, HBW⟩ := hrel
        by_cases hlt : i < cs.length
        · obtain ⟨b1, off1, rfl, _, c1⟩ := HR1.out i hlt
          obtain ⟨b2, off2, rfl, _, c2⟩ := HR2.out i hlt
          have d1 := cell_later HBW.out c1
          have d2 := cell_later HBW.out c2
          generalize cs[i] = x at *
          clear c1 c2
          go_wp2
          refine Reg.start (B := wr.drew.heap.size) (by kernel_rfl) ?_
          obtain ⟨wa, hwa⟩ : ∃ wa, wa = wr.drew := ⟨_, rfl⟩
          rw [← hwa]
          have HBA : Hid (Below w9.heap.size w9 wa) := hide (by rw [hwa]; exact HBW.out.drew)
          have hca : wa.cell? ⟨b1, off1 + i, none⟩ = some (.string ⟨x.toArray⟩) := by rw [hwa]; exact d1
          have hcb : wa.cell? ⟨b2, off2 + i, none⟩ = some (.string ⟨x.toArray⟩) := by rw [hwa]; exact d2
          clear hwa d1 d2 HBW
          refine Reg.take (fun _ _ _ _ _ h => h) 0 _ 82 (.slice (some ⟨b1, off1, none⟩) cs.length cap) rfl (by kernel_rfl) (by kernel_rfl) (by kernel_rfl) rfl (by kernel_rfl) (by kernel_rfl) (fun _ _ => by kernel_rfl) ?_
          refine Reg.take (fun _ _ _ _ _ h => h) 1 _ 83 (.int .i64 (i : Int)) rfl (by kernel_rfl) (by kernel_rfl) (by kernel_rfl) rfl (by kernel_rfl) (by kernel_rfl) (fun _ _ => by kernel_rfl) ?_
          refine Reg.take (fun _ _ _ _ _ h => h) 2 _ 84 (.pointer (some ⟨b1, off1 + i, none⟩)) rfl (by kernel_rfl) (by kernel_rfl) (by kernel_rfl) rfl (by kernel_rfl) (by kernel_rfl) (fun _ _ => ixA (b := b1) (off := off1) (n := cs.length) (cap := cap) (k := i) rfl (by kernel_rfl) (by kernel_rfl) (by omega)) ?_
          refine Reg.take (fun _ _ _ _ _ h => h) 3 _ 85 (.string ⟨x.toArray⟩) rfl (by kernel_rfl) (by kernel_rfl) (by kernel_rfl) rfl (by kernel_rfl) (by kernel_rfl) (fun w4 h4 => Reg.ldS rfl rfl (cell_later h4 hca) (Tryd.isAgg9 _)) ?_
          refine Reg.take (fun _ _ _ _ _ h => h) 4 _ 86 (.slice (some ⟨b2, off2, none⟩) cs.length cap2) rfl (by kernel_rfl) (by kernel_rfl) (by kernel_rfl) rfl (by kernel_rfl) (by kernel_rfl) (fun _ _ => by kernel_rfl) ?_
          refine Reg.take (fun _ _ _ _ _ h => h) 5 _ 87 (.int .i64 (i : Int)) rfl (by kernel_rfl) (by kernel_rfl) (by kernel_rfl) rfl (by kernel_rfl) (by kernel_rfl) (fun _ _ => by kernel_rfl) ?_
          refine Reg.take (fun _ _ _ _ _ h => h) 6 _ 88 (.pointer (some ⟨b2, off2 + i, none⟩)) rfl (by kernel_rfl) (by kernel_rfl) (by kernel_rfl) rfl (by kernel_rfl) (by kernel_rfl) (fun _ _ => ixA (b := b2) (off := off2) (n := cs.length) (cap := cap2) (k := i) rfl (by kernel_rfl) (by kernel_rfl) (by omega)) ?_
          refine Reg.take (fun _ _ _ _ _ h => h) 7 _ 89 (.string ⟨x.toArray⟩) rfl (by kernel_rfl) (by kernel_rfl) (by kernel_rfl) rfl (by kernel_rfl) (by kernel_rfl) (fun w4 h4 => Reg.ldS rfl rfl (cell_later h4 hcb) (Tryd.isAgg9 _)) ?_
          refine Reg.take (fun _ _ _ _ _ h => h) 8 _ 90 (.bool false) rfl (by kernel_rfl) (by kernel_rfl) (by kernel_rfl) rfl (by kernel_rfl) (by kernel_rfl) (fun _ _ => neS2 (l := x) rfl (by kernel_rfl) (by kernel_rfl)) ?_
          refine Reg.done (by kernel_rfl) ?_
          simp only [Reg.ov, Act.put, List.setIfInBounds_toArray, List.set_cons_succ, List.set_cons_zero]
          clear hca hcb
          go_wp2
          go_roundw
          case rel => exact ⟨i + 1, by go_num, by omega, HBA⟩
          case measure => simp [intOf]; omega
        · go_wp2
          go_ret
          exact ⟨rfl, nx B9.out HBW.out⟩
end Go.Proofs.YtdbidfphpnkkhaaDoor
