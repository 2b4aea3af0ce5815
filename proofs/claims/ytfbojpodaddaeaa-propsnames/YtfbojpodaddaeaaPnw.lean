/- PropsNames: its walk. -/
import Derived.Test.YtfbojpodaddaeaaPnm
namespace Go.Proofs.Ytfbojpodaddaeaa
open Go.RowKit Go.Shelf

theorem Reg.eqJ {w : World} {ρ : Operand → Value} {o : Oper} {x y : Operand} {m n : Int} {b : Bool} (hop : o.op = .binOp .eql 3 x y 3) (hx : ρ x = .int .i64 m) (hy : ρ y = .int .i64 n) (h : (m == n) = b) : (execOp ρ o).run Try.prog w = .ok (.value (.bool b)) w := by
  obtain ⟨dst, op, type, pos, after, guard⟩ := o
  simp only at hop
  subst hop
  subst h
  simp only [execOp, hx, hy]
  kernel_rfl
theorem Reg.gtI {w : World} {ρ : Operand → Value} {o : Oper} {x y : Operand} {m n : Int} {b : Bool} (hop : o.op = .binOp .gtr 3 x y 3) (hx : ρ x = .int .i64 m) (hy : ρ y = .int .i64 n) (h : decide (n < m) = b) : (execOp ρ o).run Try.prog w = .ok (.value (.bool b)) w := by
  obtain ⟨dst, op, type, pos, after, guard⟩ := o
  simp only at hop
  subst hop
  simp [execOp, hx, hy, eqGuard, h, go_sem]
theorem Reg.sbI {w : World} {ρ : Operand → Value} {o : Oper} {x y : Operand} {m n c : Int} (hop : o.op = .binOp .sub 3 x y 3) (hx : ρ x = .int .i64 m) (hy : ρ y = .int .i64 n) (h : IntKind.i64.wrap (m - n) = c) : (execOp ρ o).run Try.prog w = .ok (.value (.int .i64 c)) w := by
  obtain ⟨dst, op, type, pos, after, guard⟩ := o
  simp only at hop
  subst hop
  simp [execOp, hx, hy, eqGuard, h, go_sem]
theorem elemSize23 (w : World) : (sizeOf (Try.prog.elem 23)).run Try.prog w = .ok 1 w := by kernel_rfl
theorem told_true {p : Prop} {e : Ending} (h : Told p e) (hp : p) : e = .returned (.bool true) := by
  obtain ⟨b, rfl, hb⟩ := h
  rw [hb.2 hp]

set_option maxRecDepth 100000 in
set_option maxHeartbeats 8000000 in
theorem pnames_any (r : Int) (w : World) : Calls Try.prog 5 #[.int .i32 r] w fun e W' => e = .returned (.bool true) ∧ Below w.heap.size w W' := by
  go_enter Try.func5, Try.ntmps5
  go_wp2_with fail
  refine (known_any w).mono ?_
  rintro e w0 ⟨rfl, hb0⟩
  go_wp2_with fail
  refine (names_any hT_all w0).mono ?_
  rintro e w1 ⟨u, rfl, ho, hb1⟩
  obtain ⟨al, cl, rfl, _, hl⟩ := ho.rd
  have hl11 : nm.length = 11 := rfl
  rw [hl11]
  clear ho
  go_wp2_with fail
  refine (of_any r w1).mono ?_
  rintro e w2 ⟨u, rfl, ho, hb2⟩
  obtain ⟨ao, co, rfl, _, hof⟩ := ho.rd
  clear ho
  replace hl := hl.later hb2
  have B2 := nx (nx hb0 hb1) hb2
  have hol : (ofL r).length ≤ 11 := List.length_filter_le _ _
  have HOF := hide (of_at r)
  have HC0 := hide (cnt_step r)
  have HE : Hid (((nm.take 11).filter (hb r)).length = (ofL r).length) := hide rfl
  generalize ofL r = ol at *
  clear hb0 hb1 hb2
  go_wp2
  go_loopw [5, 6] (fun n i wr => ∃ k m : Nat, i = .int .i64 (k : Int) ∧ n = .int .i64 (m : Int) ∧ k ≤ 11 ∧ Hid (m = ((nm.take k).filter (hb r)).length) ∧ Below w2.heap.size w2 wr) (fun _ i _ => 11 - (intOf i).toNat)
  case atStart => exact ⟨0, 0, rfl, rfl, Nat.zero_le _, hide rfl, Below.refl _ _⟩
  case round =>
    obtain ⟨k, m, rfl, rfl, hk, HM, hB⟩ := hrel
    by_cases hlt : k < 11
    · have hkl : k < nm.length := hlt
      obtain ⟨b, off, rfl, hd⟩ := (hl.later hB) k hkl
      have hprev : Hid (0 < k → ∃ s0, wr.cell? ⟨b, off + (k - 1), none⟩ = some (.string s0) ∧ ∀ w, (binOp .geq 9 (.string s0) (.string nm[k])).run Try.prog w = .ok (.bool false) w) := hide (by
        intro h0
        obtain ⟨b', off', e, h1⟩ := (hl.later hB) (k - 1) (by omega)
        cases e
        obtain ⟨j, rfl⟩ : ∃ j, k = j + 1 := ⟨k - 1, by omega⟩
        exact ⟨_, h1, nm_rise j hkl⟩)
      have hfact := nm_fact (List.getElem_mem hkl)
      have HO := hide (HOF.out k hkl)
      have HC := hide (HC0.out k hkl)
      have HHB : Hid (hb r nm[k] = S.hB (tl nm[k].toList) r) := hide rfl
      rw [← HM.out] at HO HC
      generalize nm[k] = s at *
      obtain ⟨hkn, hcan, hpos, h32⟩ := hfact
      have hset := set_any s wr
      have hlen := tl_len s.toList
      generalize kn s.toList = kk at *
      subst hkn
      have hci := fun ao ca w hr => is_any ao ca (tl s.toList) h32 (by omega) w hr
      have hch := fun ao ca w hr => has_any ao ca (tl s.toList) r (by omega) w hr
      have HCAN := hide hcan
      clear hcan h32
      generalize tl s.toList = zs at *
      have e0 : eNo true = 0 := rfl
      rw [e0] at hset
      go_wp2_with fail
      refine hset.mono ?_
      rintro e w3 ⟨a3, c3, rfl, hr3, _, hb3⟩
      clear hset
      have hzl : ((zs.length : Int) == 0) = false := by rw [beq_eq_false_iff_ne]; omega
      have hd3 := cell_later hb3 hd
      rw [← Nat.mul_one k] at hd3
      go_wp2_with fail
      by_cases hk0 : 0 < k
      · obtain ⟨s0, hd0, hge⟩ := hprev.out hk0
        have hd03 := cell_later hb3 hd0
        rw [← Nat.mul_one (k - 1)] at hd03
        have hkg : decide ((0 : Int) < (k : Int)) = true := by simp; omega
        have hks : IntKind.i64.wrap ((k : Int) - 1) = ((k - 1 : Nat) : Int) := by simp [IntKind.wrap, IntKind.bits, IntKind.signed]; omega
        refine Reg.start (B := w3.heap.size) (by kernel_rfl) ?_
        refine Reg.take (fun _ _ _ _ _ h => h) 0 _ 28 (.int .i64 0) rfl (by kernel_rfl) (by kernel_rfl) (by kernel_rfl) rfl (by kernel_rfl) (by kernel_rfl) (fun _ _ => Reg.mv rfl rfl) ?_
        refine Reg.take (fun _ _ _ _ _ h => h) 1 _ 29 (.bool false) rfl (by kernel_rfl) (by kernel_rfl) (by kernel_rfl) rfl (by kernel_rfl) (by kernel_rfl) (fun _ _ => by kernel_rfl) ?_
        refine Reg.take (fun _ _ _ _ _ h => h) 2 _ 30 (.bool false) rfl (by kernel_rfl) (by kernel_rfl) (by kernel_rfl) rfl (by kernel_rfl) (by kernel_rfl) (fun _ _ => Reg.mv rfl rfl) ?_
        refine Reg.take (fun _ _ _ _ _ h => h) 3 _ 31 (.slice a3 zs.length c3) rfl (by kernel_rfl) (by kernel_rfl) (by kernel_rfl) rfl (by kernel_rfl) (by kernel_rfl) (fun _ _ => Reg.mv rfl rfl) ?_
        refine Reg.call 4 _ 32 17 _ _ #[.slice a3 zs.length c3] rfl (by kernel_rfl) rfl (by kernel_rfl) (by kernel_rfl) rfl (by kernel_rfl) (by kernel_rfl) (hci a3 c3 w3.drew hr3) ?_
        rintro e w4 ⟨hT, hb4⟩
        obtain rfl := told_true hT HCAN.out
        clear hT
        refine ⟨_, w4.heap.size, rfl, hb4.size, hb4, ?_⟩
        have hd04 := cell_later (w := w3.drew) hb4 hd03
        have hd4 := cell_later (w := w3.drew) hb4 hd3
        refine Reg.take (fun _ _ _ _ _ h => h) 5 _ 33 (.bool false) rfl (by kernel_rfl) (by kernel_rfl) (by kernel_rfl) rfl (by kernel_rfl) (by kernel_rfl) (fun _ _ => by kernel_rfl) ?_
        refine Reg.take (fun _ _ _ _ _ h => h) 6 _ 34 (.bool false) rfl (by kernel_rfl) (by kernel_rfl) (by kernel_rfl) rfl (by kernel_rfl) (by kernel_rfl) (fun _ _ => Reg.pk (b := false) rfl rfl rfl) ?_
        refine Reg.take (fun _ _ _ _ _ h => h) 7 _ 35 (.bool false) rfl (by kernel_rfl) (by kernel_rfl) (by kernel_rfl) rfl (by kernel_rfl) (by kernel_rfl) (fun _ _ => Reg.mv rfl rfl) ?_
        refine Reg.take (fun _ _ _ _ _ h => h) 8 _ 36 (.slice a3 zs.length c3) rfl (by kernel_rfl) (by kernel_rfl) (by kernel_rfl) rfl (by kernel_rfl) (by kernel_rfl) (fun _ _ => Reg.mv rfl rfl) ?_
        refine Reg.take (fun _ _ _ _ _ h => h) 9 _ 37 (.int .i64 (zs.length : Int)) rfl (by kernel_rfl) (by kernel_rfl) (by kernel_rfl) rfl (by kernel_rfl) (by kernel_rfl) (fun _ _ => by kernel_rfl) ?_
        refine Reg.take (fun _ _ _ _ _ h => h) 10 _ 38 (.bool false) rfl (by kernel_rfl) (by kernel_rfl) (by kernel_rfl) rfl (by kernel_rfl) (by kernel_rfl) (fun _ _ => Reg.eqJ rfl rfl rfl hzl) ?_
        refine Reg.take (fun _ _ _ _ _ h => h) 11 _ 39 (.bool false) rfl (by kernel_rfl) (by kernel_rfl) (by kernel_rfl) rfl (by kernel_rfl) (by kernel_rfl) (fun _ _ => Reg.pk (b := false) rfl rfl rfl) ?_
        refine Reg.take (fun _ _ _ _ _ h => h) 12 _ 40 (.bool false) rfl (by kernel_rfl) (by kernel_rfl) (by kernel_rfl) rfl (by kernel_rfl) (by kernel_rfl) (fun _ _ => Reg.mv rfl rfl) ?_
        refine Reg.take (fun _ _ _ _ _ h => h) 13 _ 41 (.int .i64 (k : Int)) rfl (by kernel_rfl) (by kernel_rfl) (by kernel_rfl) rfl (by kernel_rfl) (by kernel_rfl) (fun _ _ => Reg.mv rfl rfl) ?_
        refine Reg.take (fun _ _ _ _ _ h => h) 14 _ 42 (.bool true) rfl (by kernel_rfl) (by kernel_rfl) (by kernel_rfl) rfl (by kernel_rfl) (by kernel_rfl) (fun _ _ => Reg.gtI rfl rfl rfl hkg) ?_
        refine Reg.take (fun _ _ _ _ _ h => h) 15 _ 43 (.bool true) rfl (by kernel_rfl) (by kernel_rfl) (by kernel_rfl) rfl (by kernel_rfl) (by kernel_rfl) (fun _ _ => Reg.mv rfl rfl) ?_
        refine Reg.take (fun _ _ _ _ _ h => h) 16 _ 44 (.slice (some ⟨b, off, none⟩) 11 cl) rfl (by kernel_rfl) (by kernel_rfl) (by kernel_rfl) rfl (by kernel_rfl) (by kernel_rfl) (fun _ _ => Reg.mv rfl rfl) ?_
        refine Reg.take (fun _ _ _ _ _ h => h) 17 _ 45 (.int .i64 (k : Int)) rfl (by kernel_rfl) (by kernel_rfl) (by kernel_rfl) rfl (by kernel_rfl) (by kernel_rfl) (fun _ _ => Reg.mv rfl rfl) ?_
        refine Reg.take (fun _ _ _ _ _ h => h) 18 _ 46 (.int .i64 ((k - 1 : Nat) : Int)) rfl (by kernel_rfl) (by kernel_rfl) (by kernel_rfl) rfl (by kernel_rfl) (by kernel_rfl) (fun _ _ => Reg.sbI rfl rfl rfl hks) ?_
        refine Reg.take (fun _ _ _ _ _ h => h) 19 _ 47 (.pointer (some ⟨b, off + (k - 1) * 1, none⟩)) rfl (by kernel_rfl) (by kernel_rfl) (by kernel_rfl) rfl (by kernel_rfl) (by kernel_rfl) (fun w' _ => Reg.ix rfl rfl rfl (by omega) (by kernel_rfl) (elemSize23 w')) ?_
        refine Reg.take (fun _ _ _ _ _ h => h) 20 _ 48 (.string s0) rfl (by kernel_rfl) (by kernel_rfl) (by kernel_rfl) rfl (by kernel_rfl) (by kernel_rfl) (fun w' hw => Reg.ld1 rfl rfl (cell_later (w := w4) hw hd04) (Try.isAgg9 _)) ?_
        refine Reg.take (fun _ _ _ _ _ h => h) 21 _ 49 (.slice (some ⟨b, off, none⟩) 11 cl) rfl (by kernel_rfl) (by kernel_rfl) (by kernel_rfl) rfl (by kernel_rfl) (by kernel_rfl) (fun _ _ => Reg.mv rfl rfl) ?_
        refine Reg.take (fun _ _ _ _ _ h => h) 22 _ 50 (.int .i64 (k : Int)) rfl (by kernel_rfl) (by kernel_rfl) (by kernel_rfl) rfl (by kernel_rfl) (by kernel_rfl) (fun _ _ => Reg.mv rfl rfl) ?_
        refine Reg.take (fun _ _ _ _ _ h => h) 23 _ 51 (.pointer (some ⟨b, off + k * 1, none⟩)) rfl (by kernel_rfl) (by kernel_rfl) (by kernel_rfl) rfl (by kernel_rfl) (by kernel_rfl) (fun w' _ => Reg.ix rfl rfl rfl hlt (by kernel_rfl) (elemSize23 w')) ?_
        refine Reg.take (fun _ _ _ _ _ h => h) 24 _ 52 (.string s) rfl (by kernel_rfl) (by kernel_rfl) (by kernel_rfl) rfl (by kernel_rfl) (by kernel_rfl) (fun w' hw => Reg.ld1 rfl rfl (cell_later (w := w4) hw hd4) (Try.isAgg9 _)) ?_
        refine Reg.take (fun _ _ _ _ _ h => h) 25 _ 53 (.bool false) rfl (by kernel_rfl) (by kernel_rfl) (by kernel_rfl) rfl (by kernel_rfl) (by kernel_rfl) (fun w' _ => Reg.geS rfl rfl rfl (hge w')) ?_
        refine Reg.take (fun _ _ _ _ _ h => h) 26 _ 54 (.bool false) rfl (by kernel_rfl) (by kernel_rfl) (by kernel_rfl) rfl (by kernel_rfl) (by kernel_rfl) (fun _ _ => Reg.pk (b := true) rfl rfl rfl) ?_
        refine Reg.take (fun _ _ _ _ _ h => h) 27 _ 55 (.bool false) rfl (by kernel_rfl) (by kernel_rfl) (by kernel_rfl) rfl (by kernel_rfl) (by kernel_rfl) (fun _ _ => Reg.pk (b := false) rfl rfl rfl) ?_
        refine Reg.done (by kernel_rfl) ?_
        simp only [Reg.ov, Act.put, List.setIfInBounds_toArray, List.set_cons_succ, List.set_cons_zero]
        have hb34 := nx ((Below.refl _ w3).drew) hb4
        have hB4 := nx (nx hB hb3) hb34
        have hhas := hch a3 c3 w4 (hr3.later hb34)
        rw [← HHB.out] at hhas
        have hd9 := cell_later (nx hb3 hb34) hd
        have hof4 := hof.later hB4
        clear hch hci HHB hb34 hb4 hb3 hr3 hd3 hB hprev HCAN
        cases hbs : hb r s with
        | true =>
          obtain ⟨hm2, hat⟩ := HO.out hbs
          obtain ⟨b', off', rfl, hdo⟩ := hof4 m hm2
          rw [hat] at hdo
          rw [if_pos hbs] at HC
          rw [hbs] at hhas
          have HHM : Hid (m + 1 = ((nm.take (k + 1)).filter (hb r)).length) := hide HC.out.symm
          clear HC HO hat hof4 hbs
          go_wp2_with fail
          refine hhas.mono ?_
          rintro e w5 ⟨rfl, hb5⟩
          have hd5 := cell_later hb5 hd9
          have hdo5 := cell_later hb5 hdo
          have hB5 := nx hB4 hb5
          have hmi : (m : Int) < (ol.length : Int) := by omega
          have hss : (s.toList != s.toList) = false := by simp
          clear hhas hd9 hdo hB4 hb5
          go_wp2_with fail
          go_quiet (fail)
          go_wp2
          go_roundw
          case rel => exact ⟨k + 1, m + 1, by go_num, by go_num, by omega, HHM, below_drewN hB5 nq⟩
          case measure => simp [intOf]; omega
        | false =>
          rw [if_neg (by rw [hbs]; decide)] at HC
          rw [hbs] at hhas
          have HHM : Hid (m = ((nm.take (k + 1)).filter (hb r)).length) := hide HC.out.symm
          clear HC HO hof4 hbs
          go_wp2_with fail
          refine hhas.mono ?_
          rintro e w5 ⟨rfl, hb5⟩
          have hB5 := nx hB4 hb5
          clear hhas hd9 hB4 hb5
          go_wp2
          go_roundw
          case rel => exact ⟨k + 1, m, by go_num, rfl, by omega, HHM, hB5⟩
          case measure => simp [intOf]; omega
      · have hkg : decide ((0 : Int) < (k : Int)) = false := by simp; omega
        refine Reg.start (B := w3.heap.size) (by kernel_rfl) ?_
        refine Reg.take (fun _ _ _ _ _ h => h) 0 _ 28 (.int .i64 0) rfl (by kernel_rfl) (by kernel_rfl) (by kernel_rfl) rfl (by kernel_rfl) (by kernel_rfl) (fun _ _ => Reg.mv rfl rfl) ?_
        refine Reg.take (fun _ _ _ _ _ h => h) 1 _ 29 (.bool false) rfl (by kernel_rfl) (by kernel_rfl) (by kernel_rfl) rfl (by kernel_rfl) (by kernel_rfl) (fun _ _ => by kernel_rfl) ?_
        refine Reg.take (fun _ _ _ _ _ h => h) 2 _ 30 (.bool false) rfl (by kernel_rfl) (by kernel_rfl) (by kernel_rfl) rfl (by kernel_rfl) (by kernel_rfl) (fun _ _ => Reg.mv rfl rfl) ?_
        refine Reg.take (fun _ _ _ _ _ h => h) 3 _ 31 (.slice a3 zs.length c3) rfl (by kernel_rfl) (by kernel_rfl) (by kernel_rfl) rfl (by kernel_rfl) (by kernel_rfl) (fun _ _ => Reg.mv rfl rfl) ?_
        refine Reg.call 4 _ 32 17 _ _ #[.slice a3 zs.length c3] rfl (by kernel_rfl) rfl (by kernel_rfl) (by kernel_rfl) rfl (by kernel_rfl) (by kernel_rfl) (hci a3 c3 w3.drew hr3) ?_
        rintro e w4 ⟨hT, hb4⟩
        obtain rfl := told_true hT HCAN.out
        clear hT
        refine ⟨_, w4.heap.size, rfl, hb4.size, hb4, ?_⟩
        refine Reg.take (fun _ _ _ _ _ h => h) 5 _ 33 (.bool false) rfl (by kernel_rfl) (by kernel_rfl) (by kernel_rfl) rfl (by kernel_rfl) (by kernel_rfl) (fun _ _ => by kernel_rfl) ?_
        refine Reg.take (fun _ _ _ _ _ h => h) 6 _ 34 (.bool false) rfl (by kernel_rfl) (by kernel_rfl) (by kernel_rfl) rfl (by kernel_rfl) (by kernel_rfl) (fun _ _ => Reg.pk (b := false) rfl rfl rfl) ?_
        refine Reg.take (fun _ _ _ _ _ h => h) 7 _ 35 (.bool false) rfl (by kernel_rfl) (by kernel_rfl) (by kernel_rfl) rfl (by kernel_rfl) (by kernel_rfl) (fun _ _ => Reg.mv rfl rfl) ?_
        refine Reg.take (fun _ _ _ _ _ h => h) 8 _ 36 (.slice a3 zs.length c3) rfl (by kernel_rfl) (by kernel_rfl) (by kernel_rfl) rfl (by kernel_rfl) (by kernel_rfl) (fun _ _ => Reg.mv rfl rfl) ?_
        refine Reg.take (fun _ _ _ _ _ h => h) 9 _ 37 (.int .i64 (zs.length : Int)) rfl (by kernel_rfl) (by kernel_rfl) (by kernel_rfl) rfl (by kernel_rfl) (by kernel_rfl) (fun _ _ => by kernel_rfl) ?_
        refine Reg.take (fun _ _ _ _ _ h => h) 10 _ 38 (.bool false) rfl (by kernel_rfl) (by kernel_rfl) (by kernel_rfl) rfl (by kernel_rfl) (by kernel_rfl) (fun _ _ => Reg.eqJ rfl rfl rfl hzl) ?_
        refine Reg.take (fun _ _ _ _ _ h => h) 11 _ 39 (.bool false) rfl (by kernel_rfl) (by kernel_rfl) (by kernel_rfl) rfl (by kernel_rfl) (by kernel_rfl) (fun _ _ => Reg.pk (b := false) rfl rfl rfl) ?_
        refine Reg.take (fun _ _ _ _ _ h => h) 12 _ 40 (.bool false) rfl (by kernel_rfl) (by kernel_rfl) (by kernel_rfl) rfl (by kernel_rfl) (by kernel_rfl) (fun _ _ => Reg.mv rfl rfl) ?_
        refine Reg.take (fun _ _ _ _ _ h => h) 13 _ 41 (.int .i64 (k : Int)) rfl (by kernel_rfl) (by kernel_rfl) (by kernel_rfl) rfl (by kernel_rfl) (by kernel_rfl) (fun _ _ => Reg.mv rfl rfl) ?_
        refine Reg.take (fun _ _ _ _ _ h => h) 14 _ 42 (.bool false) rfl (by kernel_rfl) (by kernel_rfl) (by kernel_rfl) rfl (by kernel_rfl) (by kernel_rfl) (fun _ _ => Reg.gtI rfl rfl rfl hkg) ?_
        refine Reg.take (fun _ _ _ _ _ h => h) 15 _ 43 (.bool false) rfl (by kernel_rfl) (by kernel_rfl) (by kernel_rfl) rfl (by kernel_rfl) (by kernel_rfl) (fun _ _ => Reg.mv rfl rfl) ?_
        refine Reg.skip (fun _ _ _ _ _ h => h) 16 _ 44 rfl (by kernel_rfl) (by kernel_rfl) (by kernel_rfl) rfl (by kernel_rfl) (by kernel_rfl) ?_
        refine Reg.skip (fun _ _ _ _ _ h => h) 17 _ 45 rfl (by kernel_rfl) (by kernel_rfl) (by kernel_rfl) rfl (by kernel_rfl) (by kernel_rfl) ?_
        refine Reg.skip (fun _ _ _ _ _ h => h) 18 _ 46 rfl (by kernel_rfl) (by kernel_rfl) (by kernel_rfl) rfl (by kernel_rfl) (by kernel_rfl) ?_
        refine Reg.skip (fun _ _ _ _ _ h => h) 19 _ 47 rfl (by kernel_rfl) (by kernel_rfl) (by kernel_rfl) rfl (by kernel_rfl) (by kernel_rfl) ?_
        refine Reg.skip (fun _ _ _ _ _ h => h) 20 _ 48 rfl (by kernel_rfl) (by kernel_rfl) (by kernel_rfl) rfl (by kernel_rfl) (by kernel_rfl) ?_
        refine Reg.skip (fun _ _ _ _ _ h => h) 21 _ 49 rfl (by kernel_rfl) (by kernel_rfl) (by kernel_rfl) rfl (by kernel_rfl) (by kernel_rfl) ?_
        refine Reg.skip (fun _ _ _ _ _ h => h) 22 _ 50 rfl (by kernel_rfl) (by kernel_rfl) (by kernel_rfl) rfl (by kernel_rfl) (by kernel_rfl) ?_
        refine Reg.skip (fun _ _ _ _ _ h => h) 23 _ 51 rfl (by kernel_rfl) (by kernel_rfl) (by kernel_rfl) rfl (by kernel_rfl) (by kernel_rfl) ?_
        refine Reg.skip (fun _ _ _ _ _ h => h) 24 _ 52 rfl (by kernel_rfl) (by kernel_rfl) (by kernel_rfl) rfl (by kernel_rfl) (by kernel_rfl) ?_
        refine Reg.skip (fun _ _ _ _ _ h => h) 25 _ 53 rfl (by kernel_rfl) (by kernel_rfl) (by kernel_rfl) rfl (by kernel_rfl) (by kernel_rfl) ?_
        refine Reg.take (fun _ _ _ _ _ h => h) 26 _ 54 (.bool false) rfl (by kernel_rfl) (by kernel_rfl) (by kernel_rfl) rfl (by kernel_rfl) (by kernel_rfl) (fun _ _ => Reg.pk (b := false) rfl rfl rfl) ?_
        refine Reg.take (fun _ _ _ _ _ h => h) 27 _ 55 (.bool false) rfl (by kernel_rfl) (by kernel_rfl) (by kernel_rfl) rfl (by kernel_rfl) (by kernel_rfl) (fun _ _ => Reg.pk (b := false) rfl rfl rfl) ?_
        refine Reg.done (by kernel_rfl) ?_
        simp only [Reg.ov, Act.put, List.setIfInBounds_toArray, List.set_cons_succ, List.set_cons_zero]
        have hb34 := nx ((Below.refl _ w3).drew) hb4
        have hB4 := nx (nx hB hb3) hb34
        have hhas := hch a3 c3 w4 (hr3.later hb34)
        rw [← HHB.out] at hhas
        have hd9 := cell_later (nx hb3 hb34) hd
        have hof4 := hof.later hB4
        clear hch hci HHB hb34 hb4 hb3 hr3 hd3 hB hprev HCAN
        cases hbs : hb r s with
        | true =>
          obtain ⟨hm2, hat⟩ := HO.out hbs
          obtain ⟨b', off', rfl, hdo⟩ := hof4 m hm2
          rw [hat] at hdo
          rw [if_pos hbs] at HC
          rw [hbs] at hhas
          have HHM : Hid (m + 1 = ((nm.take (k + 1)).filter (hb r)).length) := hide HC.out.symm
          clear HC HO hat hof4 hbs
          go_wp2_with fail
          refine hhas.mono ?_
          rintro e w5 ⟨rfl, hb5⟩
          have hd5 := cell_later hb5 hd9
          have hdo5 := cell_later hb5 hdo
          have hB5 := nx hB4 hb5
          have hmi : (m : Int) < (ol.length : Int) := by omega
          have hss : (s.toList != s.toList) = false := by simp
          clear hhas hd9 hdo hB4 hb5
          go_wp2_with fail
          go_quiet (fail)
          go_wp2
          go_roundw
          case rel => exact ⟨k + 1, m + 1, by go_num, by go_num, by omega, HHM, below_drewN hB5 nq⟩
          case measure => simp [intOf]; omega
        | false =>
          rw [if_neg (by rw [hbs]; decide)] at HC
          rw [hbs] at hhas
          have HHM : Hid (m = ((nm.take (k + 1)).filter (hb r)).length) := hide HC.out.symm
          clear HC HO hof4 hbs
          go_wp2_with fail
          refine hhas.mono ?_
          rintro e w5 ⟨rfl, hb5⟩
          have hB5 := nx hB4 hb5
          clear hhas hd9 hB4 hb5
          go_wp2
          go_roundw
          case rel => exact ⟨k + 1, m, by go_num, rfl, by omega, HHM, hB5⟩
          case measure => simp [intOf]; omega
    · obtain rfl : k = 11 := by omega
      have HMM : Hid (m = ol.length) := hide (by rw [HM.out, HE.out])
      obtain rfl : m = ol.length := HMM.out
      clear HM HE HOF HC0 hl hof
      go_wp2
      go_ret
      exact ⟨by simp, nx B2 hB⟩
end Go.Proofs.Ytfbojpodaddaeaa
