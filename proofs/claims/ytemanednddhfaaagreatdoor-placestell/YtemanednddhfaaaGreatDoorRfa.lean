/- Joined: Rfa Rwk Ptl. -/
import Derived.Test.YtemanednddhfaaaGreatDoorUHas
import Derived.Test.YtemanednddhfaaaGreatDoorPlt
import Derived.Test.YtemanednddhfaaaGreatDoorFo7
namespace Go.Proofs.YtemanednddhfaaaGreatDoor.U
open Go.RowKit Go.Shelf
attribute [local go_sem] Oper.semAt_some
def Mis (l : List S.R) (r : Int) : Prop := ∀ s ∈ l, S.good s = true → ¬ (s.1 ≤ r ∧ r ≤ s.2)
theorem mis_snoc {l : List S.R} {r x1 x2 : Int} (h : Mis l r) (hx : S.good (x1, x2) = true → ¬ (x1 ≤ r ∧ r ≤ x2)) : Mis (l ++ [(x1, x2)]) r := by
  intro s hs
  rcases List.mem_append.1 hs with h' | h'
  · exact h s h'
  · obtain rfl : s = (x1, x2) := by simpa using h'
    exact hx
theorem mis_hB {xs : List S.R} {r : Int} (h : Mis xs r) : S.hB xs r = false := by
  cases hh : S.hB xs r with
  | false => rfl
  | true =>
    obtain ⟨s, hs, h1⟩ := (S.hB_iff xs r).1 hh
    obtain ⟨hm, hg⟩ := List.mem_filter.1 hs
    exact absurd h1 (h s hm hg)
theorem hit_hB {xs : List S.R} {r : Int} {s : S.R} (hs : s ∈ xs) (hg : S.good s = true) (h1 : s.1 ≤ r) (h2 : r ≤ s.2) : S.hB xs r = true := (S.hB_iff xs r).2 ⟨s, List.mem_filter.2 ⟨hs, hg⟩, h1, h2⟩
set_option maxRecDepth 100000 in
set_option maxHeartbeats 4000000 in
theorem refHas_any (ao : Option Addr) (ca : Nat) (xs : List S.R) (r : Int) (hl : xs.length ≤ 1000000) (w : World) (h : RdR w ao xs) :
    Calls Tryz.prog 58 #[.slice ao xs.length ca, .int .i32 r] w fun e W' => e = .returned (.bool (S.hB xs r)) ∧ Below w.heap.size w W' := by
  go_enter Tryz.func58, Tryz.ntmps58
  go_wp2
  go_loopw [5] (fun p wr => ∃ k : Nat, p = .int .i64 (k : Int) ∧ k ≤ xs.length ∧ Hid (Mis (xs.take k) r) ∧ Below w.heap.size w wr) (fun p _ => xs.length - (intOf p).toNat)
  case atStart => exact ⟨0, rfl, Nat.zero_le _, (fun s hs => by cases hs), Below.refl _ _⟩
  case round =>
    obtain ⟨k, rfl, hk, HM, hB⟩ := hrel
    by_cases hlt : k < xs.length
    · obtain ⟨b, off, rfl, hd1, hd2⟩ := (h.later hB) k hlt
      have HX : Hid (xs.take (k + 1) = xs.take k ++ [xs[k]]) := List.take_succ_eq_append_getElem hlt
      have hmem := hide (List.getElem_mem hlt)
      generalize xs[k] = x at *
      obtain ⟨x1, x2⟩ := x
      simp only at hd1 hd2
      have hgood := refGood_any x1 x2
      obtain ⟨gx, hgx⟩ : ∃ gx, S.good (x1, x2) = gx := ⟨_, rfl⟩
      rw [hgx] at hgood
      have HGX := hide hgx
      clear hgx h
      cases gx with
      | false =>
        go_wp2_with fail
        refine (hgood wr).mono ?_
        rintro e w2 ⟨rfl, hb2⟩
        clear hgood
        go_wp2
        go_roundw
        case rel => exact ⟨k + 1, by go_num, by omega, by show Mis _ _; rw [HX.out]; exact mis_snoc HM.out (fun hg => by rw [HGX.out] at hg; cases hg), nx hB hb2⟩
        case measure => simp [intOf]; omega
      | true =>
        go_wp2_with fail
        refine (hgood wr).mono ?_
        rintro e w2 ⟨rfl, hb2⟩
        clear hgood
        replace hd1 := cell_later hb2 hd1
        replace hd2 := cell_later hb2 hd2
        replace hB := nx hB hb2
        by_cases h1 : x1 ≤ r
        · by_cases h2 : r ≤ x2
          · go_wp2
            go_ret
            exact ⟨by rw [hit_hB hmem.out HGX.out h1 h2]; rfl, hB⟩
          · have h2' : x2 < r := by omega
            go_wp2
            go_roundw
            case rel => exact ⟨k + 1, by go_num, by omega, by show Mis _ _; rw [HX.out]; exact mis_snoc HM.out (fun _ => by omega), hB⟩
            case measure => simp [intOf]; omega
        · have h1' : r < x1 := by omega
          go_wp2
          go_roundw
          case rel => exact ⟨k + 1, by go_num, by omega, by show Mis _ _; rw [HX.out]; exact mis_snoc HM.out (fun _ => by omega), hB⟩
          case measure => simp [intOf]; omega
    · obtain rfl : k = xs.length := by omega
      have HE : Hid (S.hB xs r = false) := by
        have := HM.out
        rw [List.take_length] at this
        exact mis_hB this
      clear HM
      go_wp2
      go_ret
      exact ⟨by rw [HE.out]; rfl, hB⟩
end Go.Proofs.YtemanednddhfaaaGreatDoor.U
namespace Go.Proofs.YtemanednddhfaaaGreatDoor
open Go.RowKit Go.Shelf
attribute [local go_sem] Oper.semAt_some
theorem bit_test (s i : Nat) (hs : s < 2 ^ 64) : (bits .and .u64 ((s : Int) / 2 ^ i) 1 == 1) = s.testBit i := by
  have e : (s : Int) / 2 ^ i = ((s / 2 ^ i : Nat) : Int) := by simp
  have h1 : s / 2 ^ i < 2 ^ 64 := Nat.lt_of_le_of_lt (Nat.div_le_self _ _) hs
  have h2 := bits_and_u64_nat (s / 2 ^ i) 1 h1 (by decide)
  rw [e, show (1 : Int) = ((1 : Nat) : Int) from rfl, h2, Nat.testBit_eq_decide_div_mod_eq, Nat.and_one_is_mod, Bool.eq_iff_iff]
  simp only [beq_iff_eq, decide_eq_true_eq]
  omega
theorem PA.orL_ext {g g' : Nat → Nat} : ∀ {l : List Nat} {x : Nat}, (∀ i ∈ l, g i = g' i) → PA.orL g l x = PA.orL g' l x
  | [], _, _ => rfl
  | i :: l, x, h => by
    show PA.orL g l (x ||| g i) = PA.orL g' l (x ||| g' i)
    rw [h i List.mem_cons_self, PA.orL_ext fun j hj => h j (List.mem_cons_of_mem _ hj)]
structure RefW (w0 w : World) (B A : Nat) (vs vf : Value) (qs : List (PA.Pl × Value)) (x : PA.En) : Prop where
  box : w.heap[A]? = some (.cells #[vs, vf, .int .u64 (x.f : Int), .int .u64 (x.l : Int), .bool x.n] 49)
  sets : w.ownsRow B 23 1 vs qs.length (qs.map (·.2))
  fol : w.ownsRow B 33 1 vf qs.length (qs.map fun q => .int .u64 (q.1.2 : Int))
  set : ∀ q ∈ qs, ∃ ao ca, q.2 = .slice ao q.1.1.length ca ∧ U.RdR w0 ao q.1.1
  le : B ≤ A
  old : Below w0.heap.size w0 w
section
variable {w0 w W : World} {B A : Nat} {vs vf : Value} {qs : List (PA.Pl × Value)} {x : PA.En}
theorem RefW.cells (h : RefW w0 w B A vs vf qs x) : w.cell? ⟨A, 0, none⟩ = some vs ∧ w.cell? ⟨A, 1, none⟩ = some vf ∧ w.cell? ⟨A, 2, none⟩ = some (.int .u64 (x.f : Int)) ∧ w.cell? ⟨A, 3, none⟩ = some (.int .u64 (x.l : Int)) ∧ w.cell? ⟨A, 4, none⟩ = some (.bool x.n) :=
  cells_five h.box
theorem RefW.later (h : RefW w0 w B A vs vf qs x) (hb : Below w.heap.size w W) : RefW w0 W B A vs vf qs x :=
  ⟨(hb.block A (Array.getElem?_eq_some_iff.1 h.box).1).trans h.box, own_same h.sets fun k hk => hb.block k (own_type h.sets hk).2.1, own_same h.fol fun k hk => hb.block k (own_type h.fol hk).2.1, h.set, h.le, nx h.old hb⟩
theorem row_sl {s : Nat} {e : TypeId} {v : Value} {n : Nat} {xs : List Value} (h : w.ownsRow B e s v n xs) : ∃ ao cap, v = .slice ao n cap := by
  obtain ⟨_, ⟨rfl, h0⟩ | ⟨g, cap, _, rfl, _⟩⟩ := h
  · exact ⟨none, 0, by rw [h0]⟩
  · exact ⟨_, _, rfl⟩
theorem row_at {e : TypeId} {v : Value} {n : Nat} {xs : List Value} (h : w.ownsRow B e 1 v n xs) (i : Nat) (hi : i < n) : ∃ g cap, v = .slice (some ⟨g, 0, none⟩) n cap ∧ w.cell? ⟨g, i, none⟩ = xs[i]? := by
  obtain ⟨h1, ⟨rfl, h0⟩ | ⟨g, cap, cur, rfl, _, h4, h5⟩⟩ := h
  · omega
  · refine ⟨g, cap, rfl, ?_⟩
    obtain ⟨_, _, h6, h7⟩ := h5
    rw [Nat.mul_one] at h7
    have hc : w.cell? ⟨g, i, none⟩ = cur[i]? := by simp only [World.cell?, h4]; rfl
    rw [hc, ← h7, List.getElem?_take, if_pos hi, Array.getElem?_toList]
set_option maxHeartbeats 2000000 in
theorem refAcc_any (h : RefW w0 w B A vs vf qs x) (hl : x.l < 2 ^ 64) (s : Nat) (hs : s < 2 ^ 64) : Calls Tryz.prog 25 #[.pointer (some ⟨A, 0, none⟩), .int .u64 (s : Int)] w fun e w' => e = .returned (.bool (decide (s &&& x.l ≠ 0) || (s.testBit 63 && x.n))) ∧ w' = w := by
  obtain ⟨_, _, _, c2, c3⟩ := h.cells
  have e1 := bits_and_u64_nat s x.l hs hl
  have e2 : bits .and .u64 (s : Int) 9223372036854775808 = ((s &&& 9223372036854775808 : Nat) : Int) := bits_and_u64_nat s 9223372036854775808 hs (by decide)
  have e3 : (s &&& 9223372036854775808 ≠ 0) ↔ s.testBit 63 = true := PA.bg_bit s
  have e4 : (((s &&& x.l : Nat) : Int) != 0) = decide (s &&& x.l ≠ 0) := by
    rw [Bool.eq_iff_iff]; simp
  have e5 : (((s &&& 9223372036854775808 : Nat) : Int) != 0) = s.testBit 63 := by
    rw [Bool.eq_iff_iff, ← e3]; simp
  generalize s &&& x.l = p at *
  generalize s &&& 9223372036854775808 = q at *
  generalize decide (p ≠ 0) = b at *
  generalize s.testBit 63 = c at *
  generalize x.n = d at *
  clear h e3 hs hl
  cases b <;> cases c
  all_goals
    go_enter Tryz.func25, Tryz.ntmps25
    go_wp2
    go_ret
    exact ⟨by simp, rfl⟩
set_option maxRecDepth 100000 in
set_option maxHeartbeats 4000000 in
theorem refStep_any (h : RefW w0 w B A vs vf qs x) (hl : qs.length ≤ 60) (hq : ∀ q ∈ qs, q.1.2 < 2 ^ 64) (hf : x.f < 2 ^ 64) (hsl : ∀ q ∈ qs, q.1.1.length ≤ 1000000) (s : Nat) (hs : s < 2 ^ 64) (r : Int) : Calls Tryz.prog 24 #[.pointer (some ⟨A, 0, none⟩), .int .u64 (s : Int), .int .i32 r] w fun e w' => e = .returned (.int .u64 (PA.stp ⟨qs.map (·.1), x⟩ s r : Int)) ∧ Below w.heap.size w w' := by
  obtain ⟨c0, c1, c2, c3, c4⟩ := h.cells
  have HC := hide h
  obtain ⟨ao, ca, rfl⟩ := row_sl h.sets
  obtain ⟨bo, cb, rfl⟩ := row_sl h.fol
  have e2 : bits .and .u64 (s : Int) 9223372036854775808 = ((s &&& 9223372036854775808 : Nat) : Int) := bits_and_u64_nat s 9223372036854775808 hs (by decide)
  have e3 : (s &&& 9223372036854775808 ≠ 0) ↔ s.testBit 63 = true := PA.bg_bit s
  have e5 : (((s &&& 9223372036854775808 : Nat) : Int) != 0) = s.testBit 63 := by
    rw [Bool.eq_iff_iff, ← e3]; simp
  generalize s &&& 9223372036854775808 = q at *
  obtain ⟨c, hc⟩ : ∃ c, s.testBit 63 = c := ⟨_, rfl⟩
  rw [hc] at e5
  clear e3 h
  go_enter Tryz.func24, Tryz.ntmps24
  have hst : ∀ j, j < qs.length → ∃ g, bo = some ⟨g, 0, none⟩ ∧ w.cell? ⟨g, j, none⟩ = some (.int .u64 ((qs.map (·.1.2)).getD j 0 : Nat)) := fun j hj => by
    obtain ⟨g, cap, e, h1⟩ := row_at HC.out.fol j hj
    refine ⟨g, by cases e; rfl, h1.trans ?_⟩
    simp [hj]
  have HST := hide hst
  have HF := hide hf
  have HQ := hide hq
  clear hst hf hq
  have HSE := hide (fun (i : Nat) (hi : i < qs.length) => (show ∃ g, ao = some ⟨g, 0, none⟩ ∧ w.cell? ⟨g, i, none⟩ = some qs[i].2 from by
    obtain ⟨g, cap, e, h1⟩ := row_at HC.out.sets i hi
    refine ⟨g, by cases e; rfl, h1.trans ?_⟩
    simp [hi]))
  have HSL := hide hsl
  have HCB := hide hc
  clear hsl hc
  cases c
  · go_wp2
    go_loopw [7, 8] (fun p u wr => ∃ (i : Nat) (y : Nat), p = .int .u64 (y : Int) ∧ u = .int .i64 (i : Int) ∧ i ≤ qs.length ∧ Hid (y = PA.orL (fun i => if s.testBit i then (qs.map (·.1.2)).getD i 0 else 0) (List.range i) 0) ∧ y < 2 ^ 64 ∧ wr = w) (fun _ u _ => qs.length - (intOf u).toNat)
    case atStart => exact ⟨0, 0, rfl, rfl, Nat.zero_le _, hide rfl, by decide, by first | rfl | trivial⟩
    case round =>
      obtain ⟨i, y, rfl, rfl, hi, HY, hy, hwr⟩ := hrel
      obtain rfl := hwr.symm
      clear hwr
      by_cases hlt : i < qs.length
      · obtain ⟨g, rfl, hg⟩ := HST.out i hlt
        have hm : (qs.map (·.1.2)).getD i 0 < 2 ^ 64 := by
          have := HQ.out qs[i] (List.getElem_mem hlt)
          simpa [hlt] using this
        have et := bit_test s i hs
        have eo := bits_or_u64_nat y ((qs.map (·.1.2)).getD i 0) hy hm
        have hn := PA.or_lt hy hm
        have HN : Hid (PA.orL (fun i => if s.testBit i then (qs.map (·.1.2)).getD i 0 else 0) (List.range (i + 1)) 0 = y ||| (if s.testBit i then (qs.map (·.1.2)).getD i 0 else 0)) := hide (by rw [List.range_succ, PA.orL_snoc, ← HY.out])
        generalize (qs.map (·.1.2)).getD i 0 = m at *
        cases hb : s.testBit i with
        | false =>
          rw [hb] at et HN
          go_wp2
          go_roundw
          case rel => exact ⟨i + 1, y, rfl, by go_num, by omega, hide (by rw [HN.out]; simp), hy, by first | rfl | trivial⟩
          case measure => simp [intOf] <;> omega
        | true =>
          rw [hb] at et HN
          go_wp2
          go_roundw
          case rel => exact ⟨i + 1, y ||| m, rfl, by go_num, by omega, hide (by rw [HN.out]; simp), hn, by first | rfl | trivial⟩
          case measure => simp [intOf] <;> omega
      · obtain rfl : i = qs.length := by omega
        have HBH : Hid (y = PA.behind ⟨qs.map (·.1), x⟩ s) := hide (by
          rw [HY.out]
          unfold PA.behind
          rw [HCB.out, List.length_map]
          refine PA.orL_ext fun i hi => ?_
          have hi := List.mem_range.1 hi
          simp [PA.fol, hi])
        clear HY
        go_wp2
        go_loopw [9, 10] (fun p u wr => ∃ (i : Nat) (o : Nat), p = .int .u64 (o : Int) ∧ u = .int .i64 (i : Int) ∧ i ≤ qs.length ∧ Hid (o = PA.orL (fun i => if y.testBit i && PA.hasB ⟨qs.map (·.1), x⟩ r i then 2 ^ i else 0) (List.range i) 0) ∧ o < 2 ^ 64 ∧ Below w.heap.size w wr) (fun _ u _ => qs.length - (intOf u).toNat)
        case atStart => exact ⟨0, 0, rfl, rfl, Nat.zero_le _, hide rfl, by decide, Below.refl _ _⟩
        case round =>
          obtain ⟨i, o, rfl, rfl, hi, HO, ho, hB⟩ := hrel
          have d0 := cell_later hB c0
          have d1 := cell_later hB c1
          by_cases hlt : i < qs.length
          · obtain ⟨g, hg0, hg1⟩ := HSE.out i hlt
            subst hg0
            obtain ⟨ai, ci, e1, e4⟩ := HC.out.set qs[i] (List.getElem_mem hlt)
            rw [e1] at hg1
            have hg := cell_later hB hg1
            have hhas := U.refHas_any ai ci qs[i].1.1 r (HSL.out qs[i] (List.getElem_mem hlt)) wr (e4.later (nx HC.out.old hB))
            have HHB : Hid (PA.hasB ⟨qs.map (·.1), x⟩ r i = U.S.hB qs[i].1.1 r) := hide (by unfold PA.hasB; simp [hlt]; rfl)
            have et := bit_test y i hy
            have hp : 2 ^ i < 2 ^ 64 := Nat.pow_lt_pow_right (by decide) (by omega)
            have s1 : IntKind.u64.wrap (2 ^ i) = ((2 ^ i : Nat) : Int) := by have := wrapU (n := 2 ^ i) hp; simpa using this
            have eo := bits_or_u64_nat o (2 ^ i) ho hp
            have hn := PA.or_lt ho hp
            have HN : Hid (PA.orL (fun i => if y.testBit i && PA.hasB ⟨qs.map (·.1), x⟩ r i then 2 ^ i else 0) (List.range (i + 1)) 0 = o ||| (if y.testBit i && PA.hasB ⟨qs.map (·.1), x⟩ r i then 2 ^ i else 0)) := hide (by rw [List.range_succ, PA.orL_snoc, ← HO.out])
            rw [HHB.out] at HN
            generalize U.S.hB qs[i].1.1 r = hb at *
            generalize qs[i].1.1.length = len at *
            generalize 2 ^ i = m at *
            clear e1 e4 hg1
            cases hb1 : y.testBit i with
            | false =>
              rw [hb1] at et HN
              go_wp2
              go_roundw
              case rel => exact ⟨i + 1, o, rfl, by go_num, by omega, hide (by rw [HN.out]; simp), ho, hB⟩
              case measure => simp [intOf] <;> omega
            | true =>
              rw [hb1] at et HN
              cases hb with
              | false =>
                go_wp2_with fail
                refine hhas.mono ?_
                rintro e w2 ⟨rfl, hb2⟩
                have hB2 := nx hB hb2
                clear hhas
                go_wp2
                go_roundw
                case rel => exact ⟨i + 1, o, rfl, by go_num, by omega, hide (by rw [HN.out]; simp), ho, hB2⟩
                case measure => simp [intOf] <;> omega
              | true =>
                go_wp2_with fail
                refine hhas.mono ?_
                rintro e w2 ⟨rfl, hb2⟩
                have hB2 := nx hB hb2
                clear hhas
                go_wp2
                go_roundw
                case rel => exact ⟨i + 1, o ||| m, rfl, by go_num, by omega, hide (by rw [HN.out]; simp), hn, hB2⟩
                case measure => simp [intOf] <;> omega
          · obtain rfl : i = qs.length := by omega
            have HX : Hid ((PA.stp ⟨qs.map (·.1), x⟩ s r) = o) := hide (by rw [HO.out]; unfold PA.stp; rw [← HBH.out, List.length_map])
            clear HO
            go_wp2
            go_ret
            exact ⟨by rw [HX.out]; rfl, hB⟩
  · go_wp2
    go_loopw [7, 8] (fun p u wr => ∃ (i : Nat) (y : Nat), p = .int .u64 (y : Int) ∧ u = .int .i64 (i : Int) ∧ i ≤ qs.length ∧ Hid (y = PA.orL (fun i => if s.testBit i then (qs.map (·.1.2)).getD i 0 else 0) (List.range i) x.f) ∧ y < 2 ^ 64 ∧ wr = w) (fun _ u _ => qs.length - (intOf u).toNat)
    case atStart => exact ⟨0, x.f, rfl, rfl, Nat.zero_le _, hide rfl, HF.out, by first | rfl | trivial⟩
    case round =>
      obtain ⟨i, y, rfl, rfl, hi, HY, hy, hwr⟩ := hrel
      obtain rfl := hwr.symm
      clear hwr
      by_cases hlt : i < qs.length
      · obtain ⟨g, rfl, hg⟩ := HST.out i hlt
        have hm : (qs.map (·.1.2)).getD i 0 < 2 ^ 64 := by
          have := HQ.out qs[i] (List.getElem_mem hlt)
          simpa [hlt] using this
        have et := bit_test s i hs
        have eo := bits_or_u64_nat y ((qs.map (·.1.2)).getD i 0) hy hm
        have hn := PA.or_lt hy hm
        have HN : Hid (PA.orL (fun i => if s.testBit i then (qs.map (·.1.2)).getD i 0 else 0) (List.range (i + 1)) x.f = y ||| (if s.testBit i then (qs.map (·.1.2)).getD i 0 else 0)) := hide (by rw [List.range_succ, PA.orL_snoc, ← HY.out])
        generalize (qs.map (·.1.2)).getD i 0 = m at *
        cases hb : s.testBit i with
        | false =>
          rw [hb] at et HN
          go_wp2
          go_roundw
          case rel => exact ⟨i + 1, y, rfl, by go_num, by omega, hide (by rw [HN.out]; simp), hy, by first | rfl | trivial⟩
          case measure => simp [intOf] <;> omega
        | true =>
          rw [hb] at et HN
          go_wp2
          go_roundw
          case rel => exact ⟨i + 1, y ||| m, rfl, by go_num, by omega, hide (by rw [HN.out]; simp), hn, by first | rfl | trivial⟩
          case measure => simp [intOf] <;> omega
      · obtain rfl : i = qs.length := by omega
        have HBH : Hid (y = PA.behind ⟨qs.map (·.1), x⟩ s) := hide (by
          rw [HY.out]
          unfold PA.behind
          rw [HCB.out, List.length_map]
          refine PA.orL_ext fun i hi => ?_
          have hi := List.mem_range.1 hi
          simp [PA.fol, hi])
        clear HY
        go_wp2
        go_loopw [9, 10] (fun p u wr => ∃ (i : Nat) (o : Nat), p = .int .u64 (o : Int) ∧ u = .int .i64 (i : Int) ∧ i ≤ qs.length ∧ Hid (o = PA.orL (fun i => if y.testBit i && PA.hasB ⟨qs.map (·.1), x⟩ r i then 2 ^ i else 0) (List.range i) 0) ∧ o < 2 ^ 64 ∧ Below w.heap.size w wr) (fun _ u _ => qs.length - (intOf u).toNat)
        case atStart => exact ⟨0, 0, rfl, rfl, Nat.zero_le _, hide rfl, by decide, Below.refl _ _⟩
        case round =>
          obtain ⟨i, o, rfl, rfl, hi, HO, ho, hB⟩ := hrel
          have d0 := cell_later hB c0
          have d1 := cell_later hB c1
          by_cases hlt : i < qs.length
          · obtain ⟨g, hg0, hg1⟩ := HSE.out i hlt
            subst hg0
            obtain ⟨ai, ci, e1, e4⟩ := HC.out.set qs[i] (List.getElem_mem hlt)
            rw [e1] at hg1
            have hg := cell_later hB hg1
            have hhas := U.refHas_any ai ci qs[i].1.1 r (HSL.out qs[i] (List.getElem_mem hlt)) wr (e4.later (nx HC.out.old hB))
            have HHB : Hid (PA.hasB ⟨qs.map (·.1), x⟩ r i = U.S.hB qs[i].1.1 r) := hide (by unfold PA.hasB; simp [hlt]; rfl)
            have et := bit_test y i hy
            have hp : 2 ^ i < 2 ^ 64 := Nat.pow_lt_pow_right (by decide) (by omega)
            have s1 : IntKind.u64.wrap (2 ^ i) = ((2 ^ i : Nat) : Int) := by have := wrapU (n := 2 ^ i) hp; simpa using this
            have eo := bits_or_u64_nat o (2 ^ i) ho hp
            have hn := PA.or_lt ho hp
            have HN : Hid (PA.orL (fun i => if y.testBit i && PA.hasB ⟨qs.map (·.1), x⟩ r i then 2 ^ i else 0) (List.range (i + 1)) 0 = o ||| (if y.testBit i && PA.hasB ⟨qs.map (·.1), x⟩ r i then 2 ^ i else 0)) := hide (by rw [List.range_succ, PA.orL_snoc, ← HO.out])
            rw [HHB.out] at HN
            generalize U.S.hB qs[i].1.1 r = hb at *
            generalize qs[i].1.1.length = len at *
            generalize 2 ^ i = m at *
            clear e1 e4 hg1
            cases hb1 : y.testBit i with
            | false =>
              rw [hb1] at et HN
              go_wp2
              go_roundw
              case rel => exact ⟨i + 1, o, rfl, by go_num, by omega, hide (by rw [HN.out]; simp), ho, hB⟩
              case measure => simp [intOf] <;> omega
            | true =>
              rw [hb1] at et HN
              cases hb with
              | false =>
                go_wp2_with fail
                refine hhas.mono ?_
                rintro e w2 ⟨rfl, hb2⟩
                have hB2 := nx hB hb2
                clear hhas
                go_wp2
                go_roundw
                case rel => exact ⟨i + 1, o, rfl, by go_num, by omega, hide (by rw [HN.out]; simp), ho, hB2⟩
                case measure => simp [intOf] <;> omega
              | true =>
                go_wp2_with fail
                refine hhas.mono ?_
                rintro e w2 ⟨rfl, hb2⟩
                have hB2 := nx hB hb2
                clear hhas
                go_wp2
                go_roundw
                case rel => exact ⟨i + 1, o ||| m, rfl, by go_num, by omega, hide (by rw [HN.out]; simp), hn, hB2⟩
                case measure => simp [intOf] <;> omega
          · obtain rfl : i = qs.length := by omega
            have HX : Hid ((PA.stp ⟨qs.map (·.1), x⟩ s r) = o) := hide (by rw [HO.out]; unfold PA.stp; rw [← HBH.out, List.length_map])
            clear HO
            go_wp2
            go_ret
            exact ⟨by rw [HX.out]; rfl, hB⟩
end
end Go.Proofs.YtemanednddhfaaaGreatDoor
namespace Go.Proofs.YtemanednddhfaaaGreatDoor
open Go.RowKit Go.Shelf
attribute [local go_sem] Oper.semAt_some
def setI (st : List PA.Pl) (i : Int) : List U.S.R := if 0 ≤ i ∧ i < st.length then (st[i.toNat]?.map (·.1)).getD [] else []
set_option maxHeartbeats 1000000 in
theorem set_any {w : World} {B A : Nat} {v : Value} {qs : List (PA.Pl × Value)} {x : PA.En} (h : AutoW w B A v qs x) (hsl : ∀ q ∈ qs, q.1.1.length ≤ 1000000) (i : Int) : Calls Tryz.prog 23 #[.pointer (some ⟨A, 0, none⟩), .int .i64 i] w fun e w' =>
    (∃ ao c, e = .returned (.slice ao (setI (qs.map (·.1)) i).length c) ∧ U.RdR w' ao (setI (qs.map (·.1)) i)) ∧ Below w.heap.size w w' := by
  have hp := isPlace_any h i
  obtain ⟨c0, _, _, _⟩ := h.cells
  by_cases hi : 0 ≤ i ∧ i < qs.length
  · obtain ⟨k, rfl⟩ := Int.eq_ofNat_of_zero_le hi.1
    have hk : k < qs.length := by omega
    obtain ⟨g, cap, rfl, d0, d1⟩ := h.row k hk
    rw [show (decide (0 ≤ (k : Int)) && decide ((k : Int) < qs.length)) = true by simp [hi.2]] at hp
    have hf : setI (qs.map (·.1)) (k : Int) = qs[k].1.1 := by unfold setI; rw [if_pos (by rw [List.length_map]; exact hi)]; simp [hk]
    rw [hf]
    obtain ⟨ao, ca, e1, _, _, hrd⟩ := (h.set qs[k] (List.getElem_mem hk)).rd
    rw [e1] at d0
    have hcl := cloneR_any ao ca qs[k].1.1 (hsl _ (List.getElem_mem hk)) w hrd
    have es := elemSize82
    generalize qs[k].1.1 = f at *
    clear hf hi
    go_enter Tryz.func23, Tryz.ntmps23
    go_wp2_with fail
    refine hp.mono ?_
    rintro e w1 ⟨rfl, rfl⟩
    go_wp2_with fail
    refine hcl.mono ?_
    rintro e W ⟨v', rfl, ho, hb⟩
    obtain ⟨a2, c2, rfl, _, _, hr2⟩ := ho.rd
    go_wp2
    go_ret
    exact ⟨⟨_, _, rfl, hr2⟩, hb⟩
  · rw [show (decide (0 ≤ i) && decide (i < qs.length)) = false by rw [Bool.eq_false_iff]; simpa using hi] at hp
    have hf : setI (qs.map (·.1)) i = [] := by unfold setI; rw [if_neg (by rw [List.length_map]; exact hi)]
    rw [hf]
    go_enter Tryz.func23, Tryz.ntmps23
    go_wp2_with fail
    refine hp.mono ?_
    rintro e w1 ⟨rfl, rfl⟩
    go_wp2
    go_ret
    exact ⟨⟨_, _, rfl, U.rdr_nil _ _⟩, Below.refl _ _⟩
end Go.Proofs.YtemanednddhfaaaGreatDoor
namespace Go.Proofs.YtemanednddhfaaaGreatDoor
open Go.RowKit Go.Shelf
attribute [local go_sem] Oper.semAt_some
def Is23 (w : World) (k : Nat) : Prop := ∃ cs t f, w.heap[k]? = some (.cells cs t f) ∧ (t = 23 ∨ t = 33)
structure QF (n A : Nat) (w W : World) : Prop where
  os : W.os = w.os
  tape : W.tape = w.tape
  output : W.output = w.output
  size : w.heap.size ≤ W.heap.size
  low : ∀ k, k < n → W.heap[k]? = w.heap[k]?
  keep : ∀ k, k < w.heap.size → k ≠ A → ¬ Is23 w k → W.heap[k]? = w.heap[k]?
theorem QF.refl (n A : Nat) (w : World) : QF n A w w := ⟨rfl, rfl, rfl, Nat.le_refl _, fun _ _ => rfl, fun _ _ _ _ => rfl⟩
theorem QF.trans {n A : Nat} {a b c : World} (h : QF n A a b) (k : QF n A b c) : QF n A a c :=
  ⟨k.os.trans h.os, k.tape.trans h.tape, k.output.trans h.output, Nat.le_trans h.size k.size, fun i hi => (k.low i hi).trans (h.low i hi), fun i hi hA h9 => by
    have e := h.keep i hi hA h9
    refine (k.keep i (Nat.lt_of_lt_of_le hi h.size) hA ?_).trans e
    rintro ⟨cs, t, f, e', ht⟩
    exact h9 ⟨cs, t, f, e ▸ e', ht⟩⟩
theorem QF.of {n A : Nat} {a b : World} (h : Below a.heap.size a b) (hn : n ≤ a.heap.size) : QF n A a b := ⟨h.os, h.tape, h.output, h.size, fun k hk => h.block k (by omega), fun k hk _ _ => h.block k hk⟩
theorem QF.below {n A : Nat} {a b : World} (h : QF n A a b) : Below n a b := ⟨h.os, h.tape, h.output, h.size, h.low⟩
theorem QF.at_ {n A : Nat} {a b : World} (h : QF n A a b) {k : Nat} {cs : Array Value} {t : TypeId} {f : Nat × Nat} (hk : a.heap[k]? = some (.cells cs t f)) (hA : k ≠ A) (h9 : t ≠ 23) (h8 : t ≠ 33) : b.heap[k]? = some (.cells cs t f) := by
  refine (h.keep k (Array.getElem?_eq_some_iff.1 hk).1 hA ?_).trans hk
  rintro ⟨cs', t', f', e, ht⟩
  rw [hk] at e
  cases e
  rcases ht with ht | ht
  · exact h9 ht
  · exact h8 ht
theorem map_set {qs : List (PA.Pl × Value)} (k f : Nat) (hk : k < qs.length) : (qs.map fun q => Value.int .u64 (q.1.2 : Int)).set k (.int .u64 (f : Int)) = (qs.set k ((qs[k].1.1, f), qs[k].2)).map fun q => Value.int .u64 (q.1.2 : Int) := by
  rw [List.map_set]
theorem map_set2 {qs : List (PA.Pl × Value)} (k f : Nat) (hk : k < qs.length) : (qs.set k ((qs[k].1.1, f), qs[k].2)).map (·.2) = qs.map (·.2) := by
  rw [List.map_set]
  refine List.ext_getElem (by simp) fun i h1 h2 => ?_
  rw [List.getElem_set]
  split
  · subst_vars; simp
  · rfl
theorem RefW.put {w0 w : World} {B A g n cap : Nat} {vs : Value} {qs : List (PA.Pl × Value)} {x : PA.En} (h : RefW w0 w B A vs (.slice (some ⟨g, 0, none⟩) n cap) qs x) (hB : w0.heap.size ≤ B) (k : Nat) (hk : k < qs.length) (f : Nat) :
    RefW w0 (w.setCell ⟨g, k, none⟩ (.int .u64 (f : Int))) B A vs (.slice (some ⟨g, 0, none⟩) n cap) (qs.set k ((qs[k].1.1, f), qs[k].2)) x ∧ QF B A w (w.setCell ⟨g, k, none⟩ (.int .u64 (f : Int))) := by
  obtain ⟨hg, _, cur, hcur⟩ := own_type h.fol (show (Value.slice (some ⟨g, 0, none⟩) n cap).ownBlock = some g from rfl)
  have hn : n = qs.length := by
    obtain ⟨ao, c, e⟩ := row_sl h.fol
    cases e
    rfl
  subst hn
  have hne : ∀ b, b ≠ g → (w.setCell ⟨g, k, none⟩ (.int .u64 (f : Int))).heap[b]? = w.heap[b]? := fun b hb => Below.heap_setCell _ _ _ _ hb
  have hqf : QF B A w (w.setCell ⟨g, k, none⟩ (.int .u64 (f : Int))) := ⟨rfl, rfl, rfl, by simp [World.setCell], fun b hb => hne b (by omega), fun b _ _ h9 => hne b (by rintro rfl; exact h9 ⟨_, _, _, hcur, .inr rfl⟩)⟩
  refine ⟨⟨(hne A ?_).trans h.box, ?_, ?_, fun q hq => ?_, h.le, ?_⟩, hqf⟩
  · rintro rfl
    rw [h.box] at hcur
    cases hcur
  · rw [map_set2 k f hk, List.length_set]
    exact own_same h.sets fun b hb => hne b (by
      rintro rfl
      obtain ⟨_, _, cur', hcur'⟩ := own_type h.sets hb
      rw [hcur] at hcur'
      cases hcur')
  · have := own_set h.fol k (.int .u64 (f : Int))
    rw [map_set k f hk] at this
    rw [List.length_set]
    exact this
  · rcases List.mem_or_eq_of_mem_set hq with h' | rfl
    · exact h.set q h'
    · exact h.set qs[k] (List.getElem_mem hk)
  · have hb := hqf.below
    exact ⟨hb.os.trans h.old.os, hb.tape.trans h.old.tape, hb.output.trans h.old.output, Nat.le_trans h.old.size hb.size, fun j hj => (hb.block j (by omega)).trans (h.old.block j hj)⟩
theorem Reg.faH {w : World} {ρ : Operand → Value} {o : Oper} {x : Operand} {b off i : Nat} (hop : o.op = .fieldAddr 49 x i) (ht : i < 5) (hx : ρ x = .pointer (some ⟨b, off, none⟩)) : (execOp ρ o).run Tryz.prog w = .ok (.value (.pointer (some ⟨b, off + i, none⟩))) w := by
  obtain ⟨dst, op, type, pos, after, guard⟩ := o
  simp only at hop
  subst hop
  obtain rfl | rfl | rfl | rfl | rfl : i = 0 ∨ i = 1 ∨ i = 2 ∨ i = 3 ∨ i = 4 := by omega
  all_goals simp [execOp, hx, go_sem]
theorem Reg.orV {w : World} {ρ : Operand → Value} {o : Oper} {x y : Operand} {m n : Nat} (hop : o.op = .binOp .or 33 x y 33) (hx : ρ x = .int .u64 (m : Int)) (hy : ρ y = .int .u64 (n : Int)) (hm : m < 2 ^ 64) (hn : n < 2 ^ 64) : (execOp ρ o).run Tryz.prog w = .ok (.value (.int .u64 ((m ||| n : Nat) : Int))) w := by
  have e := bits_or_u64_nat m n hm hn
  obtain ⟨dst, op, type, pos, after, guard⟩ := o
  simp only at hop
  subst hop
  simp [execOp, hx, hy, eqGuard, go_sem, e]
theorem elemSize47 (w : World) : (sizeOf (Tryz.prog.elem 47)).run Tryz.prog w = .ok 1 w := by kernel_rfl
set_option maxRecDepth 100000 in
set_option maxHeartbeats 4000000 in
theorem follow90_any {w0 w : World} {B A : Nat} {vs vf : Value} {qs : List (PA.Pl × Value)} {x : PA.En} (h : RefW w0 w B A vs vf qs x) (hB0 : w0.heap.size ≤ B) (hlen : qs.length ≤ 60) (hq : ∀ q ∈ qs, q.1.2 < 2 ^ 64) (l f : Nat) (hl : l < 2 ^ 64) (hf : f < 2 ^ 64) :
    Calls Tryz.prog 90 #[.pointer (some ⟨A, 0, none⟩), .int .u64 (l : Int), .int .u64 (f : Int)] w fun e W => (∃ u, e = .returned u) ∧ RefW w0 W B A vs vf (qsS l.testBit f qs) x ∧ QF B A w W := by
  obtain ⟨bo, cb, rfl⟩ := row_sl h.fol
  have HC := hide h
  have HQ := hide hq
  clear h hq
  go_enter Tryz.func90, Tryz.ntmps90
  go_wp2
  go_loopw [6] (fun u wr => ∃ i : Nat, u = .int .i64 (i : Int) ∧ i ≤ qs.length ∧ RefW w0 wr B A vs (.slice bo qs.length cb) (qsS (fun j => decide (j < i) && l.testBit j) f qs) x ∧ QF B A w wr) (fun u _ => qs.length - (intOf u).toNat)
  case atStart => exact ⟨0, rfl, Nat.zero_le _, by rw [qsS_congr (S' := fun _ => false) (fun j _ => by simp), qsS_none]; exact HC.out, QF.refl _ _ _⟩
  case round =>
    obtain ⟨i, rfl, hi, hR, hQF⟩ := hrel
    obtain ⟨_, c1, _⟩ := hR.cells
    by_cases hlt : i < qs.length
    · have et := bit_test l i hl
      obtain ⟨g, cap, e0, hg⟩ := row_at hR.fol i (by rw [qsS_length]; exact hlt)
      rw [qsS_length] at e0
      obtain rfl : bo = some ⟨g, 0, none⟩ := by cases e0; rfl
      clear e0
      cases hb : l.testBit i with
      | false =>
        rw [hb] at et
        go_wp2
        go_roundw
        case rel => exact ⟨i + 1, by go_num, by omega, by
          rw [qsS_congr (S' := fun j => decide (j < i) && l.testBit j) (fun j _ => by
            by_cases e : j = i
            · subst e; simp [hb]
            · have : (j < i + 1) = (j < i) := propext (by omega)
              simp only [this])]
          exact hR, hQF⟩
        case measure => simp [intOf] <;> omega
      | true =>
        rw [hb] at et
        have hget := qsS_get (fun j => decide (j < i) && l.testBit j) f qs i hlt
        rw [if_neg (by simp)] at hget
        have hold : qs[i].1.2 < 2 ^ 64 := HQ.out _ (List.getElem_mem hlt)
        have hk' : i < (qsS (fun j => decide (j < i) && l.testBit j) f qs).length := by rw [qsS_length]; exact hlt
        have hput := hR.put hB0 i hk' (qs[i].1.2 ||| f)
        rw [hget] at hput
        have hst := qsS_step (S := fun j => decide (j < i) && l.testBit j) (t := f) hlt
        have hst2 : qsS (fun j => (decide (j < i) && l.testBit j) || decide (j = i)) f qs = qsS (fun j => decide (j < i + 1) && l.testBit j) f qs := qsS_congr fun j _ => by
          by_cases e : j = i
          · subst e; simp [hb]
          · have : (j < i + 1) = (j < i) := propext (by omega)
            simp [this, e]
        rw [if_neg (by simp), hst2] at hst
        rw [hst] at hput
        have HP := hide hput
        have hg2 : wr.cell? ⟨g, i, none⟩ = some (.int .u64 (qs[i].1.2 : Int)) := by
          rw [hg, List.getElem?_map, List.getElem?_eq_getElem hk', hget]; rfl
        obtain ⟨_, _, cur, hcur⟩ := own_type hR.fol (show (Value.slice (some ⟨g, 0, none⟩) qs.length cb).ownBlock = some g from rfl)
        generalize qs[i].1.2 = old at *
        have hT : wr.cell? ⟨A, 1, none⟩ = some (.slice (some ⟨g, 0, none⟩) qs.length cb) ∧ wr.cell? ⟨g, i, none⟩ = some (.int .u64 (old : Int)) := ⟨c1, hg2⟩
        clear hput hget hst hg hg2 c1
        go_wp2
        refine Rst.start 15 (fun w' => w'.cell? ⟨A, 1, none⟩ = some (.slice (some ⟨g, 0, none⟩) qs.length cb) ∧ w'.cell? ⟨g, i, none⟩ = some (.int .u64 (old : Int))) (by kernel_rfl) ?_
        refine Rst.take (fun _ _ _ _ _ h => h) 0 _ 22 (.pointer (some ⟨A, 0, none⟩)) rfl (by kernel_rfl) rfl (by kernel_rfl) (by kernel_rfl) hT (fun w' hw => U.Reg.mv rfl rfl) ?_
        refine Rst.take (fun _ _ _ _ _ h => h) 1 _ 23 (.pointer (some ⟨A, 0, none⟩)) rfl (by kernel_rfl) rfl (by kernel_rfl) (by kernel_rfl) hT (fun w' hw => U.Reg.nc rfl rfl) ?_
        refine Rst.take (fun _ _ _ _ _ h => h) 2 _ 24 (.pointer (some ⟨A, 0 + 1, none⟩)) rfl (by kernel_rfl) rfl (by kernel_rfl) (by kernel_rfl) hT (fun w' hw => Reg.faH rfl (by decide) rfl) ?_
        refine Rst.take (fun _ _ _ _ _ h => h) 3 _ 25 (.slice (some ⟨g, 0, none⟩) qs.length cb) rfl (by kernel_rfl) rfl (by kernel_rfl) (by kernel_rfl) hT (fun w' hw => U.Reg.ld1 rfl rfl hw.1 (Tryz.isAgg47 _)) ?_
        refine Rst.take (fun _ _ _ _ _ h => h) 4 _ 26 (.int .i64 (i : Int)) rfl (by kernel_rfl) rfl (by kernel_rfl) (by kernel_rfl) hT (fun w' hw => U.Reg.mv rfl rfl) ?_
        refine Rst.take (fun _ _ _ _ _ h => h) 5 _ 27 (.pointer (some ⟨A, 0, none⟩)) rfl (by kernel_rfl) rfl (by kernel_rfl) (by kernel_rfl) hT (fun w' hw => U.Reg.mv rfl rfl) ?_
        refine Rst.take (fun _ _ _ _ _ h => h) 6 _ 28 (.pointer (some ⟨A, 0, none⟩)) rfl (by kernel_rfl) rfl (by kernel_rfl) (by kernel_rfl) hT (fun w' hw => U.Reg.nc rfl rfl) ?_
        refine Rst.take (fun _ _ _ _ _ h => h) 7 _ 29 (.pointer (some ⟨A, 0 + 1, none⟩)) rfl (by kernel_rfl) rfl (by kernel_rfl) (by kernel_rfl) hT (fun w' hw => Reg.faH rfl (by decide) rfl) ?_
        refine Rst.take (fun _ _ _ _ _ h => h) 8 _ 30 (.slice (some ⟨g, 0, none⟩) qs.length cb) rfl (by kernel_rfl) rfl (by kernel_rfl) (by kernel_rfl) hT (fun w' hw => U.Reg.ld1 rfl rfl hw.1 (Tryz.isAgg47 _)) ?_
        refine Rst.take (fun _ _ _ _ _ h => h) 9 _ 31 (.int .i64 (i : Int)) rfl (by kernel_rfl) rfl (by kernel_rfl) (by kernel_rfl) hT (fun w' hw => U.Reg.mv rfl rfl) ?_
        refine Rst.take (fun _ _ _ _ _ h => h) 10 _ 32 (.pointer (some ⟨g, 0 + i * 1, none⟩)) rfl (by kernel_rfl) rfl (by kernel_rfl) (by kernel_rfl) hT (fun w' hw => U.Reg.ix rfl rfl rfl hlt Tryz.underlying47 (elemSize47 _)) ?_
        refine Rst.take (fun _ _ _ _ _ h => h) 11 _ 33 (.int .u64 (old : Int)) rfl (by kernel_rfl) rfl (by kernel_rfl) (by kernel_rfl) hT (fun w' hw => U.Reg.ld1 rfl rfl (by rw [Nat.zero_add, Nat.mul_one]; exact hw.2) (Tryz.isAgg33 _)) ?_
        refine Rst.take (fun _ _ _ _ _ h => h) 12 _ 34 (.int .u64 (f : Int)) rfl (by kernel_rfl) rfl (by kernel_rfl) (by kernel_rfl) hT (fun w' hw => U.Reg.mv rfl rfl) ?_
        refine Rst.take (fun _ _ _ _ _ h => h) 13 _ 35 (.int .u64 ((old ||| f : Nat) : Int)) rfl (by kernel_rfl) rfl (by kernel_rfl) (by kernel_rfl) hT (fun w' hw => Reg.orV rfl rfl rfl hold hf) ?_
        refine Rst.only 14 _ 36 rfl (by kernel_rfl) rfl (by kernel_rfl) (by kernel_rfl) ⟨.pointer (some ⟨g, 0 + i * 1, none⟩), _, U.Reg.ix rfl rfl rfl hlt Tryz.underlying47 (elemSize47 _), hT, ?_⟩
        refine Rst.last _ rfl (by kernel_rfl) rfl (by kernel_rfl) (by kernel_rfl) ⟨_, U.Reg.st1 (x := .tmp 36) (y := .tmp 35) (b := g) (off := 0 + i * 1) (u := .int .u64 (old : Int)) (v := .int .u64 ((old ||| f : Nat) : Int)) rfl rfl rfl (by rw [Nat.zero_add, Nat.mul_one]; exact hT.2) (U.frozen_at hcur) (.inl ⟨_, _, rfl⟩) (Tryz.sizeOf33 _), ?_⟩
        refine Rst.done (by kernel_rfl) ?_
        simp only [Reg.ov, Act.put, List.setIfInBounds_toArray, List.set_cons_succ, List.set_cons_zero]
        rw [Nat.zero_add, Nat.mul_one]
        have hp1 : RefW w0 (wr.setCell ⟨g, i, none⟩ (.int .u64 ((old ||| f : Nat) : Int))).drew B A vs (.slice (some ⟨g, 0, none⟩) qs.length cb) (qsS (fun j => decide (j < i + 1) && l.testBit j) f qs) x := by
          have h := HP.out.1
          exact ⟨h.box, h.sets, h.fol, h.set, h.le, ⟨h.old.os, h.old.tape, h.old.output, h.old.size, h.old.block⟩⟩
        have hp2 : QF B A w (wr.setCell ⟨g, i, none⟩ (.int .u64 ((old ||| f : Nat) : Int))).drew := by
          have h := hQF.trans HP.out.2
          exact ⟨h.os, h.tape, h.output, h.size, h.low, h.keep⟩
        clear HP hT et
        go_wp2
        go_roundw
        case rel => exact ⟨i + 1, by go_num, by omega, hp1, hp2⟩
        case measure => simp [intOf] <;> omega
    · obtain rfl : i = qs.length := by omega
      go_wp2
      have hfin : RefW w0 wr B A vs (.slice bo qs.length cb) (qsS l.testBit f qs) x := by
        rw [qsS_congr (S' := fun j => decide (j < qs.length) && l.testBit j) (fun j hj => by simp [hj])]
        exact hR
      exact bodyPost_end (w := wr) (v := .tuple #[]) (by simp [results, Tryz.results90, go_sem]) rfl ⟨⟨_, rfl⟩, hfin, hQF⟩
end Go.Proofs.YtemanednddhfaaaGreatDoor
namespace Go.Proofs.YtemanednddhfaaaGreatDoor
open Go.RowKit Go.Shelf
theorem info23 : (Tryz.prog.info? 23).map (fun i => (i.zero, i.size, i.bytes)) = some (some (.slice none 0 0), 1, 24) := by kernel_rfl
theorem info33 : (Tryz.prog.info? 33).map (fun i => (i.zero, i.size, i.bytes)) = some (some (.int .u64 0), 1, 8) := by kernel_rfl
structure Gc (w1 : World) (B A : Nat) (vs vf : Value) (xs ys : List Value) (x : PA.En) (sv : Value) (l5 l8 l9 l13 l14 l15 l18 l21 : Bool) (v8 v9 v14 v15 : Value) (w : World) : Prop where
  box : w.heap[A]? = some (.cells #[if l18 then v9 else vs, if l21 then v15 else vf, .int .u64 (x.f : Int), .int .u64 (x.l : Int), .bool x.n] 49)
  sets : w.ownsRow B 23 1 (if l9 then v9 else vs) (if l9 then xs.length + 1 else xs.length) (if l9 then xs ++ [sv] else xs)
  fol : w.ownsRow B 33 1 (if l15 then v15 else vf) (if l15 then ys.length + 1 else ys.length) (if l15 then ys ++ [.int .u64 0] else ys)
  b8 : l8 = true → l9 = false → ∃ b, v8 = .slice (some ⟨b, 0, none⟩) 1 1 ∧ w1.heap.size ≤ b ∧ w.heap[b]? = some (.cells #[sv] 23)
  b14 : l14 = true → l15 = false → ∃ b, v14 = .slice (some ⟨b, 0, none⟩) 1 1 ∧ w1.heap.size ≤ b ∧ w.heap[b]? = some (.cells #[.int .u64 0] 33)
  qf : QF B A w1 w
  le : B ≤ A
  A1 : A < w1.heap.size
  c9 : l9 = true → l8 = true ∧ l5 = true
  c15 : l15 = true → l14 = true ∧ l9 = true ∧ l13 = true
  c18 : l18 = true → l15 = true
  c21 : l21 = true → l18 = true
theorem own_later {w W : World} {B s n : Nat} {e : TypeId} {v : Value} {xs : List Value} (h : w.ownsRow B e s v n xs) (hb : Below w.heap.size w W) : W.ownsRow B e s v n xs := own_same h fun k hk => hb.block k (own_type h hk).2.1
theorem one_cell {w : World} {b : Nat} {v : Value} {t : TypeId} (h : w.heap[b]? = some (.cells #[v] t)) : ∀ j u, [v][j]? = some u → w.cell? ((⟨b, 0, none⟩ : Addr).add j) = some u := by
  intro j u hj
  rw [Addr.add_mid, Nat.zero_add]
  simp only [World.cell?, h]
  match j, hj with
  | 0, hj => simpa using hj
section
variable {w1 w W : World} {B A : Nat} {vs vf sv : Value} {xs ys : List Value} {x : PA.En} {l5 l8 l9 l13 l14 l15 l18 l21 : Bool} {v8 v9 v14 v15 : Value}
theorem Gc.later (h : Gc w1 B A vs vf xs ys x sv l5 l8 l9 l13 l14 l15 l18 l21 v8 v9 v14 v15 w) (hb : Below w.heap.size w W) : Gc w1 B A vs vf xs ys x sv l5 l8 l9 l13 l14 l15 l18 l21 v8 v9 v14 v15 W := by
  have hs : ∀ {k cs t f}, w.heap[k]? = some (Obj.cells cs t f) → W.heap[k]? = some (Obj.cells cs t f) := fun hk => (hb.block _ (Array.getElem?_eq_some_iff.1 hk).1).trans hk
  exact ⟨hs h.box, own_later h.sets hb, own_later h.fol hb, fun a b => let ⟨c, d, e, f⟩ := h.b8 a b; ⟨c, d, e, hs f⟩, fun a b => let ⟨c, d, e, f⟩ := h.b14 a b; ⟨c, d, e, hs f⟩, h.qf.trans (QF.of hb (by have := h.qf.size; have := h.le; have := h.A1; omega)), h.le, h.A1, h.c9, h.c15, h.c18, h.c21⟩
theorem Gc.ld5 (h : Gc w1 B A vs vf xs ys x sv l5 l8 l9 l13 l14 l15 l18 l21 v8 v9 v14 v15 w) : Gc w1 B A vs vf xs ys x sv true l8 l9 l13 l14 l15 l18 l21 v8 v9 v14 v15 w := ⟨h.box, h.sets, h.fol, h.b8, h.b14, h.qf, h.le, h.A1, fun e => ⟨(h.c9 e).1, rfl⟩, h.c15, h.c18, h.c21⟩
theorem Gc.ld13 (h : Gc w1 B A vs vf xs ys x sv l5 l8 l9 l13 l14 l15 l18 l21 v8 v9 v14 v15 w) : Gc w1 B A vs vf xs ys x sv l5 l8 l9 true l14 l15 l18 l21 v8 v9 v14 v15 w := ⟨h.box, h.sets, h.fol, h.b8, h.b14, h.qf, h.le, h.A1, h.c9, fun e => ⟨(h.c15 e).1, (h.c15 e).2.1, rfl⟩, h.c18, h.c21⟩
theorem Gc.n5 (h : Gc w1 B A vs vf xs ys x sv l5 l8 l9 l13 l14 l15 l18 l21 v8 v9 v14 v15 w) (e : l5 = false) : l18 = false := by
  cases hl : l18 with
  | false => rfl
  | true => have := (h.c9 (h.c15 (h.c18 hl)).2.1).2; rw [e] at this; cases this
theorem Gc.n13 (h : Gc w1 B A vs vf xs ys x sv l5 l8 l9 l13 l14 l15 l18 l21 v8 v9 v14 v15 w) (e : l13 = false) : l21 = false := by
  cases hl : l21 with
  | false => rfl
  | true => have := (h.c15 (h.c18 (h.c21 hl))).2.2; rw [e] at this; cases this
theorem Gc.bs8 (h : Gc w1 B A vs vf xs ys x sv l5 l8 l9 l13 l14 l15 l18 l21 v8 v9 v14 v15 w) : Gc w1 B A vs vf xs ys x sv l5 true l9 l13 l14 l15 l18 l21 (.slice (some ⟨w.heap.size, 0, none⟩) 1 1) v9 v14 v15 (w.alloc (.cells #[sv] 23)) := by
  have k := h.later (al1 w (.cells #[sv] 23))
  exact ⟨k.box, k.sets, k.fol, fun _ _ => ⟨_, rfl, h.qf.size, heap_alloc_new _ _⟩, k.b14, k.qf, k.le, k.A1, fun a => ⟨rfl, (k.c9 a).2⟩, k.c15, k.c18, k.c21⟩
theorem Gc.bs14 (h : Gc w1 B A vs vf xs ys x sv l5 l8 l9 l13 l14 l15 l18 l21 v8 v9 v14 v15 w) : Gc w1 B A vs vf xs ys x sv l5 l8 l9 l13 true l15 l18 l21 v8 v9 (.slice (some ⟨w.heap.size, 0, none⟩) 1 1) v15 (w.alloc (.cells #[.int .u64 0] 33)) := by
  have k := h.later (al1 w (.cells #[.int .u64 0] 33))
  exact ⟨k.box, k.sets, k.fol, k.b8, fun _ _ => ⟨_, rfl, h.qf.size, heap_alloc_new _ _⟩, k.qf, k.le, k.A1, k.c9, fun a => ⟨rfl, (k.c15 a).2⟩, k.c18, k.c21⟩
theorem grown_qf {n A : Nat} {a b : World} {v : Value} {t : TypeId} {s m : Nat} {zs : List Value} (ho : a.ownsRow n t s v m zs) (hn : n ≤ a.heap.size) (ht : t = 23 ∨ t = 33) (hg : a.grownBy b v.ownBlock) : QF n A a b :=
  ⟨hg.os, hg.tape, hg.output, hg.size, fun k hk => hg.block k (by omega) fun e => by have := (own_type ho e.symm).1; omega, fun k hk _ h9 => hg.block k hk fun e => h9 (by obtain ⟨_, _, cur, hcur⟩ := own_type ho e.symm; exact ⟨_, _, _, hcur, ht⟩)⟩
theorem grown_at {n : Nat} {a b : World} {v : Value} {t t' : TypeId} {s m : Nat} {zs : List Value} (ho : a.ownsRow n t s v m zs) (hg : a.grownBy b v.ownBlock) {k : Nat} {cs : Array Value} {f : Nat × Nat} (hk : a.heap[k]? = some (.cells cs t' f)) (ht : t' ≠ t) : b.heap[k]? = some (.cells cs t' f) :=
  (hg.block k (Array.getElem?_eq_some_iff.1 hk).1 fun e => by
    obtain ⟨_, _, cur, hcur⟩ := own_type ho e.symm
    rw [hk] at hcur
    cases hcur
    exact ht rfl).trans hk
theorem grown_own {n : Nat} {a b : World} {v v' : Value} {t t' : TypeId} {s m s' m' : Nat} {zs zs' : List Value} (ho : a.ownsRow n t s v m zs) (hg : a.grownBy b v.ownBlock) (h : a.ownsRow n t' s' v' m' zs') (ht : t' ≠ t) : b.ownsRow n t' s' v' m' zs' :=
  own_same h fun k hk => by
    obtain ⟨_, _, cur, hcur⟩ := own_type h hk
    rw [hcur]
    exact grown_at ho hg hcur ht
theorem Gc.app9 (h : Gc w1 B A vs vf xs ys x sv l5 l8 l9 l13 l14 l15 l18 l21 v8 v9 v14 v15 w) (e : l9 = false) (e8 : l8 = true) (e5 : l5 = true) (hlen : xs.length ≤ 1000) (h1 : sv.oneCell' = true) (ty : TypeId) :
    ∃ v' w', (Builtin.append_ #[46, 46] ty #[vs, v8]).run Tryz.prog w = .ok v' w' ∧ Gc w1 B A vs vf xs ys x sv l5 l8 true l13 l14 l15 l18 l21 v8 v' v14 v15 w' := by
  subst e
  have n15 : l15 = false := by
    cases hl : l15 with
    | false => rfl
    | true => have := (h.c15 hl).2.1; cases this
  subst n15
  have n18 : l18 = false := by
    cases hl : l18 with
    | false => rfl
    | true => have := h.c18 hl; cases this
  subst n18
  have n21 : l21 = false := by
    cases hl : l21 with
    | false => rfl
    | true => have := h.c21 hl; cases this
  subst n21
  obtain ⟨i0, hi0, hz0, hz1, hz2⟩ := U.info_parts2 info23
  obtain ⟨b, hb1, hb2, hb3⟩ := h.b8 e8 rfl
  have hs : w.ownsRow B 23 1 vs xs.length xs := h.sets
  have hf : w.ownsRow B 33 1 vf ys.length ys := h.fol
  have hB : B ≤ w.heap.size := by have := h.qf.size; have := h.le; have := h.A1; omega
  obtain ⟨v', w', hrun, hown, hgrow, _, hat⟩ := run_append_own_at (P := Tryz.prog) w B 46 ty 23 i0 _ 1 24 Tryz.underlying46 hi0 hz0 hz1 hz2 rfl (by decide) vs xs.length xs hs ⟨b, 0, none⟩ 1 1 [sv] rfl (one_cell hb3) (by intro u hu; rw [List.mem_singleton.1 hu]; exact h1) (by unfold maxLen; omega) (by omega) hB
  refine ⟨v', w', by rw [hb1]; exact hrun, grown_at hs hgrow h.box (by decide), hown, grown_own hs hgrow hf (by decide), fun _ a => (by cases a), fun a c => ?_, h.qf.trans (grown_qf hs hB (.inl rfl) hgrow), h.le, h.A1, fun _ => ⟨e8, e5⟩, fun a => (by cases a), fun a => (by cases a), fun a => (by cases a)⟩
  obtain ⟨b', k1, k2, k3⟩ := h.b14 a c
  exact ⟨b', k1, k2, grown_at hs hgrow k3 (by decide)⟩
theorem Gc.app15 (h : Gc w1 B A vs vf xs ys x sv l5 l8 l9 l13 l14 l15 l18 l21 v8 v9 v14 v15 w) (e : l15 = false) (e14 : l14 = true) (e9 : l9 = true) (e13 : l13 = true) (hlen : ys.length ≤ 1000) (ty : TypeId) :
    ∃ v' w', (Builtin.append_ #[47, 47] ty #[vf, v14]).run Tryz.prog w = .ok v' w' ∧ Gc w1 B A vs vf xs ys x sv l5 l8 l9 l13 l14 true l18 l21 v8 v9 v14 v' w' := by
  subst e
  subst e9
  have n18 : l18 = false := by
    cases hl : l18 with
    | false => rfl
    | true => have := h.c18 hl; cases this
  subst n18
  have n21 : l21 = false := by
    cases hl : l21 with
    | false => rfl
    | true => have := h.c21 hl; cases this
  subst n21
  obtain ⟨i0, hi0, hz0, hz1, hz2⟩ := U.info_parts2 info33
  obtain ⟨b, hb1, hb2, hb3⟩ := h.b14 e14 rfl
  have hs : w.ownsRow B 23 1 v9 (xs.length + 1) (xs ++ [sv]) := h.sets
  have hf : w.ownsRow B 33 1 vf ys.length ys := h.fol
  have hB : B ≤ w.heap.size := by have := h.qf.size; have := h.le; have := h.A1; omega
  obtain ⟨v', w', hrun, hown, hgrow, _, hat⟩ := run_append_own_at (P := Tryz.prog) w B 47 ty 33 i0 _ 1 8 Tryz.underlying47 hi0 hz0 hz1 hz2 rfl (by decide) vf ys.length ys hf ⟨b, 0, none⟩ 1 1 [.int .u64 0] rfl (one_cell hb3) (by intro u hu; rw [List.mem_singleton.1 hu]; rfl) (by unfold maxLen; omega) (by omega) hB
  exact ⟨v', w', by rw [hb1]; exact hrun, grown_at hf hgrow h.box (by decide), grown_own hf hgrow hs (by decide), hown, fun _ a => (by cases a), fun _ c => (by cases c), h.qf.trans (grown_qf hf hB (.inr rfl) hgrow), h.le, h.A1, h.c9, fun _ => ⟨e14, rfl, e13⟩, fun a => (by cases a), fun a => (by cases a)⟩
theorem Gc.st18 (h : Gc w1 B A vs vf xs ys x sv l5 l8 l9 l13 l14 l15 l18 l21 v8 v9 v14 v15 w) (e : l18 = false) (e15 : l15 = true) : Gc w1 B A vs vf xs ys x sv l5 l8 l9 l13 l14 l15 true l21 v8 v9 v14 v15 (w.setCell ⟨A, 0, none⟩ v9) := by
  subst e
  have n21 : l21 = false := by
    cases hl : l21 with
    | false => rfl
    | true => have := h.c21 hl; cases this
  subst n21
  have hne : ∀ k, k ≠ A → (w.setCell ⟨A, 0, none⟩ v9).heap[k]? = w.heap[k]? := fun k hk => Below.heap_setCell _ _ _ _ hk
  have hno : ∀ {t : TypeId} {s m : Nat} {v : Value} {zs : List Value}, w.ownsRow B t s v m zs → t ≠ 49 → (w.setCell ⟨A, 0, none⟩ v9).ownsRow B t s v m zs := fun ho ht => own_same ho fun k hk => hne k (by
    rintro rfl
    obtain ⟨_, _, cur, hcur⟩ := own_type ho hk
    rw [h.box] at hcur
    cases hcur
    exact ht rfl)
  have hx := U.set_at (w := w) (b := A) (j := 0) v9 h.box
  refine ⟨hx, hno h.sets (by decide), hno h.fol (by decide), fun _ a => ?_, fun _ a => ?_, h.qf.trans ⟨rfl, rfl, rfl, by simp [World.setCell], fun k hk => hne k (by have := h.le; omega), fun k _ hk _ => hne k hk⟩, h.le, h.A1, h.c9, h.c15, fun _ => e15, fun a => (by cases a)⟩
  · have := (h.c15 e15).2.1; rw [a] at this; cases this
  · rw [a] at e15; cases e15
theorem Gc.st21 (h : Gc w1 B A vs vf xs ys x sv l5 l8 l9 l13 l14 l15 l18 l21 v8 v9 v14 v15 w) (e : l21 = false) (e18 : l18 = true) : Gc w1 B A vs vf xs ys x sv l5 l8 l9 l13 l14 l15 l18 true v8 v9 v14 v15 (w.setCell ⟨A, 1, none⟩ v15) := by
  subst e
  have e15 := h.c18 e18
  subst e18
  have hne : ∀ k, k ≠ A → (w.setCell ⟨A, 1, none⟩ v15).heap[k]? = w.heap[k]? := fun k hk => Below.heap_setCell _ _ _ _ hk
  have hno : ∀ {t : TypeId} {s m : Nat} {v : Value} {zs : List Value}, w.ownsRow B t s v m zs → t ≠ 49 → (w.setCell ⟨A, 1, none⟩ v15).ownsRow B t s v m zs := fun ho ht => own_same ho fun k hk => hne k (by
    rintro rfl
    obtain ⟨_, _, cur, hcur⟩ := own_type ho hk
    rw [h.box] at hcur
    cases hcur
    exact ht rfl)
  have hx := U.set_at (w := w) (b := A) (j := 1) v15 h.box
  refine ⟨hx, hno h.sets (by decide), hno h.fol (by decide), fun _ a => ?_, fun _ a => ?_, h.qf.trans ⟨rfl, rfl, rfl, by simp [World.setCell], fun k hk => hne k (by have := h.le; omega), fun k _ hk _ => hne k hk⟩, h.le, h.A1, h.c9, h.c15, fun _ => e15, fun _ => rfl⟩
  · have := (h.c15 e15).2.1; rw [a] at this; cases this
  · rw [a] at e15; cases e15
theorem Gc.nil {w0 : World} {qs : List (PA.Pl × Value)} (h : RefW w0 w B A vs vf qs x) (v8 v9 v14 v15 : Value) : Gc w B A vs vf (qs.map (·.2)) (qs.map fun q => .int .u64 (q.1.2 : Int)) x sv false false false false false false false false v8 v9 v14 v15 w.drew :=
  ⟨h.box, by rw [List.length_map]; exact own_same h.sets fun _ _ => rfl, by rw [List.length_map]; exact own_same h.fol fun _ _ => rfl, fun a => (by cases a), fun a => (by cases a), ⟨rfl, rfl, rfl, Nat.le_refl _, fun _ _ => rfl, fun _ _ _ _ => rfl⟩, h.le, (Array.getElem?_eq_some_iff.1 h.box).1, fun a => (by cases a), fun a => (by cases a), fun a => (by cases a), fun a => (by cases a)⟩
theorem Gc.all {w0 : World} {qs : List (PA.Pl × Value)} {s : List U.S.R} {ao : Option Addr} {ca : Nat} (hR : RefW w0 w1 B A vs vf qs x) (hB : w0.heap.size ≤ B) (hr : U.RdR w0 ao s) (h : Gc w1 B A vs vf (qs.map (·.2)) (qs.map fun q => .int .u64 (q.1.2 : Int)) x (.slice ao s.length ca) true true true true true true true true v8 v9 v14 v15 w) : RefW w0 w B A v9 v15 (qs ++ [((s, 0), .slice ao s.length ca)]) x := by
  have h1 := h.sets
  have h2 := h.fol
  have hb := h.qf.below
  refine ⟨h.box, ?_, ?_, fun q hq => ?_, h.le, ⟨hb.os.trans hR.old.os, hb.tape.trans hR.old.tape, hb.output.trans hR.old.output, Nat.le_trans hR.old.size hb.size, fun k hk => (hb.block k (by omega)).trans (hR.old.block k hk)⟩⟩
  · rw [List.length_append, List.map_append]
    simpa using h1
  · rw [List.length_append, List.map_append]
    simpa using h2
  · rcases List.mem_append.1 hq with h | h
    · exact hR.set q h
    · rw [List.mem_singleton.1 h]
      exact ⟨ao, ca, rfl, hr⟩
end
end Go.Proofs.YtemanednddhfaaaGreatDoor
namespace Go.Proofs.YtemanednddhfaaaGreatDoor
open Go.RowKit Go.Shelf
def cstS (A b3 : Nat) (vs vf : Value) (ao : Option Addr) (sl ca : Nat) (j : Nat) : Option Value := ([some (.pointer (some ⟨A, 0, none⟩)), some (.pointer (some ⟨A, 0, none⟩)), some (.pointer (some ⟨A, 0, none⟩)), some (.pointer (some ⟨A, 0, none⟩)), some (.pointer (some ⟨A, 0, none⟩)), some (vs), some (.pointer (some ⟨b3, 2, none⟩)), some (.slice ao sl ca), none, none, some (.pointer (some ⟨A, 0, none⟩)), some (.pointer (some ⟨A, 0, none⟩)), some (.pointer (some ⟨A, 1, none⟩)), some (vf), none, none, some (.pointer (some ⟨A, 0, none⟩)), some (.pointer (some ⟨A, 0, none⟩)), none, some (.pointer (some ⟨A, 0, none⟩)), some (.pointer (some ⟨A, 1, none⟩)), none] : List (Option Value)).getD j none
theorem nothS {w1 w : World} {B A : Nat} {vs vf sv : Value} {xs ys : List Value} {x : PA.En} {L : Array Bool} {f : Nat → Value} {i : Nat} {v : Value} (h : Gc w1 B A vs vf xs ys x sv (L.getD 5 false) (L.getD 8 false) (L.getD 9 false) (L.getD 13 false) (L.getD 14 false) (L.getD 15 false) (L.getD 18 false) (L.getD 21 false) (f 8) (f 9) (f 14) (f 15) w) (hi : i ≠ 5 ∧ i ≠ 8 ∧ i ≠ 9 ∧ i ≠ 13 ∧ i ≠ 14 ∧ i ≠ 15 ∧ i ≠ 18 ∧ i ≠ 21) :
    Gc w1 B A vs vf xs ys x sv ((L.setIfInBounds i true).getD 5 false) ((L.setIfInBounds i true).getD 8 false) ((L.setIfInBounds i true).getD 9 false) ((L.setIfInBounds i true).getD 13 false) ((L.setIfInBounds i true).getD 14 false) ((L.setIfInBounds i true).getD 15 false) ((L.setIfInBounds i true).getD 18 false) ((L.setIfInBounds i true).getD 21 false) (Iv.upd f i v 8) (Iv.upd f i v 9) (Iv.upd f i v 14) (Iv.upd f i v 15) w := by
  obtain ⟨h5, h8, h9, h13, h14, h15, h18, h21⟩ := hi
  rw [getD_set_ne false h5, getD_set_ne false h8, getD_set_ne false h9, getD_set_ne false h13, getD_set_ne false h14, getD_set_ne false h15, getD_set_ne false h18, getD_set_ne false h21, updN f v (Ne.symm h8), updN f v (Ne.symm h9), updN f v (Ne.symm h14), updN f v (Ne.symm h15)]
  exact h
theorem Reg.faN2 {w : World} {ρ : Operand → Value} {o : Oper} {x : Operand} {b off : Nat} (hop : o.op = .fieldAddr 26 x 2) (hx : ρ x = .pointer (some ⟨b, off, none⟩)) : (execOp ρ o).run Tryz.prog w = .ok (.value (.pointer (some ⟨b, off + 2, none⟩))) w := by
  obtain ⟨dst, op, type, pos, after, guard⟩ := o
  simp only at hop
  subst hop
  simp [execOp, hx, go_sem]
def opsS : Array Oper := #[{ dst := some 23, op := Go.Op.move (Go.Operand.tmp 0), type := 43, pos := "hornbookref13.go:39", after := #[], guard := none }, { dst := some 24, op := Go.Op.move (Go.Operand.tmp 0), type := 43, pos := "hornbookref13.go:39", after := #[{ on := 18, ground := Go.Ground.gcOnly Go.Departure.lateStores }], guard := none }, { dst := some 25, op := Go.Op.move (Go.Operand.tmp 0), type := 43, pos := "hornbookref13.go:39", after := #[], guard := none }, { dst := some 26, op := Go.Op.nilCheck (Go.Operand.tmp 25), type := 0, pos := "hornbookref13.go:39", after := #[{ on := 2, ground := Go.Ground.data }], guard := none }, { dst := some 27, op := Go.Op.fieldAddr 49 (Go.Operand.tmp 26) 0, type := 0, pos := "hornbookref13.go:39", after := #[{ on := 3, ground := Go.Ground.data }], guard := none }, { dst := some 28, op := Go.Op.load 46 (Go.Operand.tmp 27), type := 46, pos := "hornbookref13.go:39", after := #[{ on := 4, ground := Go.Ground.data }], guard := none }, { dst := some 29, op := Go.Op.fieldAddr 26 (Go.Operand.tmp 3) 2, type := 0, pos := "hornbookref13.go:39", after := #[], guard := none }, { dst := some 30, op := Go.Op.load 23 (Go.Operand.tmp 29), type := 23, pos := "hornbookref13.go:39", after := #[{ on := 6, ground := Go.Ground.data }], guard := none }, { dst := some 31, op := Go.Op.buildSlice 46 1 #[(0, Go.Operand.tmp 30)], type := 46, pos := "hornbookref13.go:39", after := #[{ on := 7, ground := Go.Ground.data }], guard := none }, { dst := some 32, op := Go.Op.call { callee := Go.Callee.builtin Go.Builtin.append, args := #[Go.Operand.tmp 28, Go.Operand.tmp 31], argTypes := #[46, 46] }, type := 46, pos := "hornbookref13.go:39", after := #[{ on := 5, ground := Go.Ground.data }, { on := 8, ground := Go.Ground.data }], guard := none }, { dst := some 33, op := Go.Op.move (Go.Operand.tmp 0), type := 43, pos := "hornbookref13.go:39", after := #[], guard := none }, { dst := some 34, op := Go.Op.nilCheck (Go.Operand.tmp 33), type := 0, pos := "hornbookref13.go:39", after := #[{ on := 10, ground := Go.Ground.data }], guard := none }, { dst := some 35, op := Go.Op.fieldAddr 49 (Go.Operand.tmp 34) 1, type := 0, pos := "hornbookref13.go:39", after := #[{ on := 11, ground := Go.Ground.data }], guard := none }, { dst := some 36, op := Go.Op.load 47 (Go.Operand.tmp 35), type := 47, pos := "hornbookref13.go:39", after := #[{ on := 12, ground := Go.Ground.data }], guard := none }, { dst := some 37, op := Go.Op.buildSlice 47 1 #[(0, Go.Operand.const (Go.Value.int Go.IntKind.u64 0))], type := 47, pos := "hornbookref13.go:39", after := #[], guard := none }, { dst := some 38, op := Go.Op.call { callee := Go.Callee.builtin Go.Builtin.append, args := #[Go.Operand.tmp 36, Go.Operand.tmp 37], argTypes := #[47, 47] }, type := 47, pos := "hornbookref13.go:39", after := #[{ on := 13, ground := Go.Ground.data }, { on := 14, ground := Go.Ground.data }, { on := 9, ground := Go.Ground.chain }], guard := none }, { dst := some 39, op := Go.Op.nilCheck (Go.Operand.tmp 23), type := 0, pos := "hornbookref13.go:39", after := #[{ on := 0, ground := Go.Ground.data }, { on := 0, ground := Go.Ground.phase }, { on := 1, ground := Go.Ground.textOnly Go.Departure.lateStores }, { on := 2, ground := Go.Ground.phase }, { on := 3, ground := Go.Ground.phase }, { on := 4, ground := Go.Ground.phase }, { on := 5, ground := Go.Ground.phase }, { on := 6, ground := Go.Ground.phase }, { on := 7, ground := Go.Ground.phase }, { on := 8, ground := Go.Ground.phase }, { on := 9, ground := Go.Ground.phase }, { on := 10, ground := Go.Ground.textOnly Go.Departure.lateStores }, { on := 11, ground := Go.Ground.textOnly Go.Departure.lateStoresUnsure }, { on := 12, ground := Go.Ground.textOnly Go.Departure.lateStoresUnsure }, { on := 13, ground := Go.Ground.phase }, { on := 14, ground := Go.Ground.textOnly Go.Departure.lateStoresUnsure }, { on := 15, ground := Go.Ground.phase }], guard := none }, { dst := some 40, op := Go.Op.fieldAddr 49 (Go.Operand.tmp 39) 0, type := 0, pos := "hornbookref13.go:39", after := #[{ on := 16, ground := Go.Ground.data }, { on := 0, ground := Go.Ground.phase }, { on := 1, ground := Go.Ground.textOnly Go.Departure.lateStores }, { on := 2, ground := Go.Ground.phase }, { on := 3, ground := Go.Ground.phase }, { on := 4, ground := Go.Ground.phase }, { on := 5, ground := Go.Ground.phase }, { on := 6, ground := Go.Ground.phase }, { on := 7, ground := Go.Ground.phase }, { on := 8, ground := Go.Ground.phase }, { on := 9, ground := Go.Ground.phase }, { on := 10, ground := Go.Ground.textOnly Go.Departure.lateStores }, { on := 11, ground := Go.Ground.textOnly Go.Departure.lateStoresUnsure }, { on := 12, ground := Go.Ground.textOnly Go.Departure.lateStoresUnsure }, { on := 13, ground := Go.Ground.phase }, { on := 14, ground := Go.Ground.textOnly Go.Departure.lateStoresUnsure }, { on := 15, ground := Go.Ground.phase }], guard := none }, { dst := none, op := Go.Op.store 46 (Go.Operand.tmp 40) (Go.Operand.tmp 32), type := 0, pos := "hornbookref13.go:39", after := #[{ on := 17, ground := Go.Ground.data }, { on := 9, ground := Go.Ground.data }, { on := 15, ground := Go.Ground.chain }, { on := 0, ground := Go.Ground.phase }, { on := 1, ground := Go.Ground.textOnly Go.Departure.lateStores }, { on := 2, ground := Go.Ground.phase }, { on := 3, ground := Go.Ground.phase }, { on := 4, ground := Go.Ground.phase }, { on := 5, ground := Go.Ground.phase }, { on := 6, ground := Go.Ground.phase }, { on := 7, ground := Go.Ground.phase }, { on := 8, ground := Go.Ground.phase }, { on := 9, ground := Go.Ground.phase }, { on := 10, ground := Go.Ground.textOnly Go.Departure.lateStores }, { on := 11, ground := Go.Ground.textOnly Go.Departure.lateStoresUnsure }, { on := 12, ground := Go.Ground.textOnly Go.Departure.lateStoresUnsure }, { on := 13, ground := Go.Ground.phase }, { on := 14, ground := Go.Ground.textOnly Go.Departure.lateStoresUnsure }, { on := 15, ground := Go.Ground.phase }], guard := none }, { dst := some 41, op := Go.Op.nilCheck (Go.Operand.tmp 24), type := 0, pos := "hornbookref13.go:39", after := #[{ on := 1, ground := Go.Ground.data }, { on := 0, ground := Go.Ground.phase }, { on := 1, ground := Go.Ground.phase }, { on := 2, ground := Go.Ground.phase }, { on := 3, ground := Go.Ground.phase }, { on := 4, ground := Go.Ground.phase }, { on := 5, ground := Go.Ground.phase }, { on := 6, ground := Go.Ground.phase }, { on := 7, ground := Go.Ground.phase }, { on := 8, ground := Go.Ground.phase }, { on := 9, ground := Go.Ground.phase }, { on := 10, ground := Go.Ground.phase }, { on := 11, ground := Go.Ground.phase }, { on := 12, ground := Go.Ground.phase }, { on := 13, ground := Go.Ground.phase }, { on := 14, ground := Go.Ground.phase }, { on := 15, ground := Go.Ground.phase }, { on := 16, ground := Go.Ground.phase }, { on := 17, ground := Go.Ground.phase }, { on := 18, ground := Go.Ground.phase }], guard := none }, { dst := some 42, op := Go.Op.fieldAddr 49 (Go.Operand.tmp 41) 1, type := 0, pos := "hornbookref13.go:39", after := #[{ on := 19, ground := Go.Ground.data }, { on := 0, ground := Go.Ground.phase }, { on := 1, ground := Go.Ground.phase }, { on := 2, ground := Go.Ground.phase }, { on := 3, ground := Go.Ground.phase }, { on := 4, ground := Go.Ground.phase }, { on := 5, ground := Go.Ground.phase }, { on := 6, ground := Go.Ground.phase }, { on := 7, ground := Go.Ground.phase }, { on := 8, ground := Go.Ground.phase }, { on := 9, ground := Go.Ground.phase }, { on := 10, ground := Go.Ground.phase }, { on := 11, ground := Go.Ground.phase }, { on := 12, ground := Go.Ground.phase }, { on := 13, ground := Go.Ground.phase }, { on := 14, ground := Go.Ground.phase }, { on := 15, ground := Go.Ground.phase }, { on := 16, ground := Go.Ground.phase }, { on := 17, ground := Go.Ground.phase }, { on := 18, ground := Go.Ground.phase }], guard := none }, { dst := none, op := Go.Op.store 47 (Go.Operand.tmp 42) (Go.Operand.tmp 38), type := 0, pos := "hornbookref13.go:39", after := #[{ on := 20, ground := Go.Ground.data }, { on := 15, ground := Go.Ground.data }, { on := 18, ground := Go.Ground.chain }, { on := 0, ground := Go.Ground.phase }, { on := 1, ground := Go.Ground.phase }, { on := 2, ground := Go.Ground.phase }, { on := 3, ground := Go.Ground.phase }, { on := 4, ground := Go.Ground.phase }, { on := 5, ground := Go.Ground.phase }, { on := 6, ground := Go.Ground.phase }, { on := 7, ground := Go.Ground.phase }, { on := 8, ground := Go.Ground.phase }, { on := 9, ground := Go.Ground.phase }, { on := 10, ground := Go.Ground.phase }, { on := 11, ground := Go.Ground.phase }, { on := 12, ground := Go.Ground.phase }, { on := 13, ground := Go.Ground.phase }, { on := 14, ground := Go.Ground.phase }, { on := 15, ground := Go.Ground.phase }, { on := 16, ground := Go.Ground.phase }, { on := 17, ground := Go.Ground.phase }, { on := 18, ground := Go.Ground.phase }], guard := none }]
def dsS : List (Option Nat) := [some 23, some 24, some 25, some 26, some 27, some 28, some 29, some 30, some 31, some 32, some 33, some 34, some 35, some 36, some 37, some 38, some 39, some 40, none, some 41, some 42, none]
set_option maxRecDepth 100000 in
set_option maxHeartbeats 4000000 in
theorem regS {Q : Exit → Act → World → Prop} (a0 : Act) {w0 w1 : World} {B A b3 sl ca : Nat} {ao : Option Addr} {vs vf : Value} {qs : List (PA.Pl × Value)} {x : PA.En} {s : List U.S.R} {u0 u1 u3 u4 : Value} (hsz : a0.tmps.size = 157) (h0 : a0.tmps.getD 0 undef = .pointer (some ⟨A, 0, none⟩)) (h3 : a0.tmps.getD 3 undef = .pointer (some ⟨b3, 0, none⟩))
    (hbox : w1.heap[b3]? = some (.cells #[u0, u1, .slice ao sl ca, u3, u4] 26)) (hR : RefW w0 w1 B A vs vf qs x) (hlen : qs.length ≤ 1000) (hB0 : w0.heap.size ≤ B) (hsl : sl = s.length) (hrd : U.RdR w0 ao s)
    (h : ∀ v8 v9 v14 v15 W, RefW w0 W B A v9 v15 (qs ++ [((s, 0), .slice ao sl ca)]) x → QF B A w1 W → Q .normal (Reg.ov a0 [(23, .pointer (some ⟨A, 0, none⟩)), (24, .pointer (some ⟨A, 0, none⟩)), (25, .pointer (some ⟨A, 0, none⟩)), (26, .pointer (some ⟨A, 0, none⟩)), (27, .pointer (some ⟨A, 0, none⟩)), (28, vs), (29, .pointer (some ⟨b3, 2, none⟩)), (30, .slice ao sl ca), (31, v8), (32, v9), (33, .pointer (some ⟨A, 0, none⟩)), (34, .pointer (some ⟨A, 0, none⟩)), (35, .pointer (some ⟨A, 1, none⟩)), (36, vf), (37, v14), (38, v15), (39, .pointer (some ⟨A, 0, none⟩)), (40, .pointer (some ⟨A, 0, none⟩)), (41, .pointer (some ⟨A, 0, none⟩)), (42, .pointer (some ⟨A, 1, none⟩))]) W) :
    (Code.region 4 opsS true).wp Tryz.prog Q a0 w1 := by
  obtain ⟨i0, hi0, hz0, hz1, hz2⟩ := U.info_parts2 info23
  obtain ⟨i1, hi1, hy0, hy1, hy2⟩ := U.info_parts2 info33
  have hb3A : b3 ≠ A := by
    rintro rfl
    rw [hR.box] at hbox
    cases hbox
  have hn : (dsS.filterMap id).Nodup := by decide
  obtain ⟨xs, hxs⟩ : ∃ xs, (qs.map (·.2)) = xs := ⟨_, rfl⟩
  obtain ⟨ys, hys⟩ : ∃ ys, (qs.map fun q => Value.int .u64 (q.1.2 : Int)) = ys := ⟨_, rfl⟩
  have hxl : xs.length ≤ 1000 := by rw [← hxs, List.length_map]; exact hlen
  have hyl : ys.length ≤ 1000 := by rw [← hys, List.length_map]; exact hlen
  obtain ⟨cst, hcst⟩ : ∃ cst, cstS A b3 vs vf ao sl ca = cst := ⟨_, rfl⟩
  have cput : ∀ {L : Array Bool} {f : Nat → Value} (i : Nat) (v : Value), (∀ j c, cst j = some c → L.getD j false = true → f j = c) → (∀ c, cst i = some c → v = c) → ∀ j c, cst j = some c → (L.setIfInBounds i true).getD j false = true → Iv.upd f i v j = c := by
    intro L f i v h1 h2 j c hj hl
    unfold Iv.upd
    by_cases e : j = i
    · subst e; rw [if_pos rfl]; exact h2 c hj
    · rw [if_neg e]
      rw [getD_set_ne false (Ne.symm e)] at hl
      exact h1 j c hj hl
  have cskip : ∀ {L : Array Bool} {f : Nat → Value} (i : Nat), (∀ j c, cst j = some c → L.getD j false = true → f j = c) → cst i = none → ∀ j c, cst j = some c → (L.setIfInBounds i true).getD j false = true → f j = c := by
    intro L f i h1 h2 j c hj hl
    have e : i ≠ j := by rintro rfl; rw [h2] at hj; cases hj
    rw [getD_set_ne false e] at hl
    exact h1 j c hj hl
  have hnil := Gc.nil (sv := .slice ao sl ca) hR undef undef undef undef
  rw [hxs, hys] at hnil
  refine Iv.start (fun L a w => L.size = 22 ∧ ∃ f, Iv.Sl a0 dsS L f a ∧ (∀ j c, cst j = some c → L.getD j false = true → f j = c) ∧ Gc w1 B A vs vf xs ys x (.slice ao sl ca) (L.getD 5 false) (L.getD 8 false) (L.getD 9 false) (L.getD 13 false) (L.getD 14 false) (L.getD 15 false) (L.getD 18 false) (L.getD 21 false) (f 8) (f 9) (f 14) (f 15) w) (by kernel_rfl) ?step (by kernel_rfl) (fun L a w hi => hi.1) ?done ⟨rfl, fun _ => undef, Iv.Sl.start _ _ _ _, fun j c _ hl => ?z, hnil⟩
  case z =>
    rw [Array.getD_eq_getD_getElem?, Array.getElem?_replicate] at hl
    split at hl <;> cases hl
  case step =>
    rintro L a w i ⟨hL, f, hS, hC, hF⟩ hi
    obtain ⟨hun, o, ho, hall⟩ := mem_ready.1 hi
    have hlt : i < 22 := (Array.getElem?_eq_some_iff.1 ho).1
    have hx0 : a.tmps.getD 0 undef = .pointer (some ⟨A, 0, none⟩) := (hS.out 0 (by decide)).trans h0
    have hx3 : a.tmps.getD 3 undef = .pointer (some ⟨b3, 0, none⟩) := (hS.out 3 (by decide)).trans h3
    have hbw : w.heap[b3]? = some (.cells #[u0, u1, .slice ao sl ca, u3, u4] 26) := hF.qf.at_ hbox hb3A (by decide) (by decide)
    have hf : ∀ (j d : Nat) (c : Value), dsS[j]? = some (some d) → cstS A b3 vs vf ao sl ca j = some c → L.getD j false = true → a.tmps.getD d undef = c := fun j d c h1 h2 h3 => (hS.inn j d h1 h3).trans (hC j c (by rw [← hcst]; exact h2) h3)
    have hL5 : L.getD i false = false := by
      have h16 : i < L.size := by omega
      simpa [Array.getD, h16] using hun
    clear hi hun
    match i, hlt with
    | 0, _ =>
      obtain rfl := Option.some.inj ho
      refine Iv.val rfl rfl (w' := w) (U.Reg.mv rfl hx0) ⟨by rw [Array.size_setIfInBounds]; exact hL, _, hS.put hn (i := 0) (d := 23) rfl (by rw [hsz]; decide) _, cput 0 _ hC (fun c hc => by rw [← hcst] at hc; exact Option.some.inj hc), ?_⟩
      exact nothS hF (show 0 ≠ 5 ∧ 0 ≠ 8 ∧ 0 ≠ 9 ∧ 0 ≠ 13 ∧ 0 ≠ 14 ∧ 0 ≠ 15 ∧ 0 ≠ 18 ∧ 0 ≠ 21 by decide)
    | 1, _ =>
      obtain rfl := Option.some.inj ho
      refine Iv.val rfl rfl (w' := w) (U.Reg.mv rfl hx0) ⟨by rw [Array.size_setIfInBounds]; exact hL, _, hS.put hn (i := 1) (d := 24) rfl (by rw [hsz]; decide) _, cput 1 _ hC (fun c hc => by rw [← hcst] at hc; exact Option.some.inj hc), ?_⟩
      exact nothS hF (show 1 ≠ 5 ∧ 1 ≠ 8 ∧ 1 ≠ 9 ∧ 1 ≠ 13 ∧ 1 ≠ 14 ∧ 1 ≠ 15 ∧ 1 ≠ 18 ∧ 1 ≠ 21 by decide)
    | 2, _ =>
      obtain rfl := Option.some.inj ho
      refine Iv.val rfl rfl (w' := w) (U.Reg.mv rfl hx0) ⟨by rw [Array.size_setIfInBounds]; exact hL, _, hS.put hn (i := 2) (d := 25) rfl (by rw [hsz]; decide) _, cput 2 _ hC (fun c hc => by rw [← hcst] at hc; exact Option.some.inj hc), ?_⟩
      exact nothS hF (show 2 ≠ 5 ∧ 2 ≠ 8 ∧ 2 ≠ 9 ∧ 2 ≠ 13 ∧ 2 ≠ 14 ∧ 2 ≠ 15 ∧ 2 ≠ 18 ∧ 2 ≠ 21 by decide)
    | 3, _ =>
      obtain rfl := Option.some.inj ho
      refine Iv.val rfl rfl (w' := w) (U.Reg.nc rfl (hf 2 25 _ rfl rfl (hall ⟨2, .data⟩ (Array.mem_of_getElem? (i := 0) rfl) rfl))) ⟨by rw [Array.size_setIfInBounds]; exact hL, _, hS.put hn (i := 3) (d := 26) rfl (by rw [hsz]; decide) _, cput 3 _ hC (fun c hc => by rw [← hcst] at hc; exact Option.some.inj hc), ?_⟩
      exact nothS hF (show 3 ≠ 5 ∧ 3 ≠ 8 ∧ 3 ≠ 9 ∧ 3 ≠ 13 ∧ 3 ≠ 14 ∧ 3 ≠ 15 ∧ 3 ≠ 18 ∧ 3 ≠ 21 by decide)
    | 4, _ =>
      obtain rfl := Option.some.inj ho
      refine Iv.val rfl rfl (w' := w) (Reg.faH rfl (by decide) (hf 3 26 _ rfl rfl (hall ⟨3, .data⟩ (Array.mem_of_getElem? (i := 0) rfl) rfl))) ⟨by rw [Array.size_setIfInBounds]; exact hL, _, hS.put hn (i := 4) (d := 27) rfl (by rw [hsz]; decide) _, cput 4 _ hC (fun c hc => by rw [← hcst] at hc; exact Option.some.inj hc), ?_⟩
      exact nothS hF (show 4 ≠ 5 ∧ 4 ≠ 8 ∧ 4 ≠ 9 ∧ 4 ≠ 13 ∧ 4 ≠ 14 ∧ 4 ≠ 15 ∧ 4 ≠ 18 ∧ 4 ≠ 21 by decide)
    | 5, _ =>
      obtain rfl := Option.some.inj ho
      have n18 := hF.n5 hL5
      have hb := hF.box
      rw [n18, if_neg (by decide)] at hb
      refine Iv.val rfl rfl (w' := w) (U.Reg.ld1 rfl (hf 4 27 _ rfl rfl (hall ⟨4, .data⟩ (Array.mem_of_getElem? (i := 0) rfl) rfl)) (cells_five hb).1 (Tryz.isAgg46 _)) ⟨by rw [Array.size_setIfInBounds]; exact hL, _, hS.put hn (i := 5) (d := 28) rfl (by rw [hsz]; decide) _, cput 5 _ hC (fun c hc => by rw [← hcst] at hc; exact Option.some.inj hc), ?_⟩
      have := hF.ld5
      simpa only [setL (show 5 < L.size by omega), getD_set_ne false (show 5 ≠ 8 by decide), getD_set_ne false (show 5 ≠ 9 by decide), getD_set_ne false (show 5 ≠ 13 by decide), getD_set_ne false (show 5 ≠ 14 by decide), getD_set_ne false (show 5 ≠ 15 by decide), getD_set_ne false (show 5 ≠ 18 by decide), getD_set_ne false (show 5 ≠ 21 by decide), updN f _ (show 8 ≠ 5 by decide), updN f _ (show 9 ≠ 5 by decide), updN f _ (show 14 ≠ 5 by decide), updN f _ (show 15 ≠ 5 by decide)] using this
    | 6, _ =>
      obtain rfl := Option.some.inj ho
      refine Iv.val rfl rfl (w' := w) (Reg.faN2 rfl hx3) ⟨by rw [Array.size_setIfInBounds]; exact hL, _, hS.put hn (i := 6) (d := 29) rfl (by rw [hsz]; decide) _, cput 6 _ hC (fun c hc => by rw [← hcst] at hc; exact Option.some.inj hc), ?_⟩
      exact nothS hF (show 6 ≠ 5 ∧ 6 ≠ 8 ∧ 6 ≠ 9 ∧ 6 ≠ 13 ∧ 6 ≠ 14 ∧ 6 ≠ 15 ∧ 6 ≠ 18 ∧ 6 ≠ 21 by decide)
    | 7, _ =>
      obtain rfl := Option.some.inj ho
      refine Iv.val rfl rfl (w' := w) (U.Reg.ld1 rfl (hf 6 29 _ rfl rfl (hall ⟨6, .data⟩ (Array.mem_of_getElem? (i := 0) rfl) rfl)) (cells_five hbw).2.2.1 (Tryz.isAgg23 _)) ⟨by rw [Array.size_setIfInBounds]; exact hL, _, hS.put hn (i := 7) (d := 30) rfl (by rw [hsz]; decide) _, cput 7 _ hC (fun c hc => by rw [← hcst] at hc; exact Option.some.inj hc), ?_⟩
      exact nothS hF (show 7 ≠ 5 ∧ 7 ≠ 8 ∧ 7 ≠ 9 ∧ 7 ≠ 13 ∧ 7 ≠ 14 ∧ 7 ≠ 15 ∧ 7 ≠ 18 ∧ 7 ≠ 21 by decide)
    | 8, _ =>
      obtain rfl := Option.some.inj ho
      have g : a.eval (.tmp 30) = .slice ao sl ca := hf 7 30 _ rfl rfl (hall ⟨7, .data⟩ (Array.mem_of_getElem? (i := 0) rfl) rfl)
      refine Iv.val rfl rfl (U.Reg.bs (vs := #[(0, .slice ao sl ca)]) (cs := #[.slice ao sl ca]) i0 (.slice none 0 0) rfl (by simp [g]) Tryz.underlying46 hi0 hz0 (by rw [hz1]; decide) (by rw [hz1]; decide) (by rw [hz1]; kernel_rfl)) ⟨by rw [Array.size_setIfInBounds]; exact hL, _, hS.put hn (i := 8) (d := 31) rfl (by rw [hsz]; decide) _, cput 8 _ hC (fun c hc => by rw [← hcst] at hc; cases hc), ?_⟩
      have := hF.bs8
      simpa only [setL (show 8 < L.size by omega), getD_set_ne false (show 8 ≠ 5 by decide), getD_set_ne false (show 8 ≠ 9 by decide), getD_set_ne false (show 8 ≠ 13 by decide), getD_set_ne false (show 8 ≠ 14 by decide), getD_set_ne false (show 8 ≠ 15 by decide), getD_set_ne false (show 8 ≠ 18 by decide), getD_set_ne false (show 8 ≠ 21 by decide), updN f _ (show 9 ≠ 8 by decide), updN f _ (show 14 ≠ 8 by decide), updN f _ (show 15 ≠ 8 by decide), updS] using this
    | 9, _ =>
      obtain rfl := Option.some.inj ho
      have k5 : L.getD 5 false = true := (hall ⟨5, .data⟩ (Array.mem_of_getElem? (i := 0) rfl) rfl)
      have k8 : L.getD 8 false = true := (hall ⟨8, .data⟩ (Array.mem_of_getElem? (i := 1) rfl) rfl)
      obtain ⟨v', w', hrun, hG⟩ := hF.app9 hL5 k8 k5 hxl rfl 46
      refine Iv.val rfl rfl (U.Reg.app rfl (hf 5 28 _ rfl rfl k5) (hS.inn 8 31 rfl k8) hrun) ⟨by rw [Array.size_setIfInBounds]; exact hL, _, hS.put hn (i := 9) (d := 32) rfl (by rw [hsz]; decide) _, cput 9 _ hC (fun c hc => by rw [← hcst] at hc; cases hc), ?_⟩
      simpa only [setL (show 9 < L.size by omega), getD_set_ne false (show 9 ≠ 5 by decide), getD_set_ne false (show 9 ≠ 8 by decide), getD_set_ne false (show 9 ≠ 13 by decide), getD_set_ne false (show 9 ≠ 14 by decide), getD_set_ne false (show 9 ≠ 15 by decide), getD_set_ne false (show 9 ≠ 18 by decide), getD_set_ne false (show 9 ≠ 21 by decide), updN f _ (show 8 ≠ 9 by decide), updN f _ (show 14 ≠ 9 by decide), updN f _ (show 15 ≠ 9 by decide), updS] using hG
    | 10, _ =>
      obtain rfl := Option.some.inj ho
      refine Iv.val rfl rfl (w' := w) (U.Reg.mv rfl hx0) ⟨by rw [Array.size_setIfInBounds]; exact hL, _, hS.put hn (i := 10) (d := 33) rfl (by rw [hsz]; decide) _, cput 10 _ hC (fun c hc => by rw [← hcst] at hc; exact Option.some.inj hc), ?_⟩
      exact nothS hF (show 10 ≠ 5 ∧ 10 ≠ 8 ∧ 10 ≠ 9 ∧ 10 ≠ 13 ∧ 10 ≠ 14 ∧ 10 ≠ 15 ∧ 10 ≠ 18 ∧ 10 ≠ 21 by decide)
    | 11, _ =>
      obtain rfl := Option.some.inj ho
      refine Iv.val rfl rfl (w' := w) (U.Reg.nc rfl (hf 10 33 _ rfl rfl (hall ⟨10, .data⟩ (Array.mem_of_getElem? (i := 0) rfl) rfl))) ⟨by rw [Array.size_setIfInBounds]; exact hL, _, hS.put hn (i := 11) (d := 34) rfl (by rw [hsz]; decide) _, cput 11 _ hC (fun c hc => by rw [← hcst] at hc; exact Option.some.inj hc), ?_⟩
      exact nothS hF (show 11 ≠ 5 ∧ 11 ≠ 8 ∧ 11 ≠ 9 ∧ 11 ≠ 13 ∧ 11 ≠ 14 ∧ 11 ≠ 15 ∧ 11 ≠ 18 ∧ 11 ≠ 21 by decide)
    | 12, _ =>
      obtain rfl := Option.some.inj ho
      refine Iv.val rfl rfl (w' := w) (Reg.faH rfl (by decide) (hf 11 34 _ rfl rfl (hall ⟨11, .data⟩ (Array.mem_of_getElem? (i := 0) rfl) rfl))) ⟨by rw [Array.size_setIfInBounds]; exact hL, _, hS.put hn (i := 12) (d := 35) rfl (by rw [hsz]; decide) _, cput 12 _ hC (fun c hc => by rw [← hcst] at hc; exact Option.some.inj hc), ?_⟩
      exact nothS hF (show 12 ≠ 5 ∧ 12 ≠ 8 ∧ 12 ≠ 9 ∧ 12 ≠ 13 ∧ 12 ≠ 14 ∧ 12 ≠ 15 ∧ 12 ≠ 18 ∧ 12 ≠ 21 by decide)
    | 13, _ =>
      obtain rfl := Option.some.inj ho
      have n21 := hF.n13 hL5
      have hb := hF.box
      rw [n21, if_neg (c := false = true) (by decide)] at hb
      refine Iv.val rfl rfl (w' := w) (U.Reg.ld1 rfl (hf 12 35 _ rfl rfl (hall ⟨12, .data⟩ (Array.mem_of_getElem? (i := 0) rfl) rfl)) (cells_five hb).2.1 (Tryz.isAgg47 _)) ⟨by rw [Array.size_setIfInBounds]; exact hL, _, hS.put hn (i := 13) (d := 36) rfl (by rw [hsz]; decide) _, cput 13 _ hC (fun c hc => by rw [← hcst] at hc; exact Option.some.inj hc), ?_⟩
      have := hF.ld13
      simpa only [setL (show 13 < L.size by omega), getD_set_ne false (show 13 ≠ 5 by decide), getD_set_ne false (show 13 ≠ 8 by decide), getD_set_ne false (show 13 ≠ 9 by decide), getD_set_ne false (show 13 ≠ 14 by decide), getD_set_ne false (show 13 ≠ 15 by decide), getD_set_ne false (show 13 ≠ 18 by decide), getD_set_ne false (show 13 ≠ 21 by decide), updN f _ (show 8 ≠ 13 by decide), updN f _ (show 9 ≠ 13 by decide), updN f _ (show 14 ≠ 13 by decide), updN f _ (show 15 ≠ 13 by decide)] using this
    | 14, _ =>
      obtain rfl := Option.some.inj ho
      refine Iv.val rfl rfl (U.Reg.bs (vs := #[(0, .int .u64 0)]) (cs := #[.int .u64 0]) i1 (.int .u64 0) rfl (by simp [Act.eval]) Tryz.underlying47 hi1 hy0 (by rw [hy1]; decide) (by rw [hy1]; decide) (by rw [hy1]; kernel_rfl)) ⟨by rw [Array.size_setIfInBounds]; exact hL, _, hS.put hn (i := 14) (d := 37) rfl (by rw [hsz]; decide) _, cput 14 _ hC (fun c hc => by rw [← hcst] at hc; cases hc), ?_⟩
      have := hF.bs14
      simpa only [setL (show 14 < L.size by omega), getD_set_ne false (show 14 ≠ 5 by decide), getD_set_ne false (show 14 ≠ 8 by decide), getD_set_ne false (show 14 ≠ 9 by decide), getD_set_ne false (show 14 ≠ 13 by decide), getD_set_ne false (show 14 ≠ 15 by decide), getD_set_ne false (show 14 ≠ 18 by decide), getD_set_ne false (show 14 ≠ 21 by decide), updN f _ (show 8 ≠ 14 by decide), updN f _ (show 9 ≠ 14 by decide), updN f _ (show 15 ≠ 14 by decide), updS] using this
    | 15, _ =>
      obtain rfl := Option.some.inj ho
      have k13 : L.getD 13 false = true := (hall ⟨13, .data⟩ (Array.mem_of_getElem? (i := 0) rfl) rfl)
      have k14 : L.getD 14 false = true := (hall ⟨14, .data⟩ (Array.mem_of_getElem? (i := 1) rfl) rfl)
      have k9 : L.getD 9 false = true := (hall ⟨9, .chain⟩ (Array.mem_of_getElem? (i := 2) rfl) rfl)
      obtain ⟨v', w', hrun, hG⟩ := hF.app15 hL5 k14 k9 k13 hyl 47
      refine Iv.val rfl rfl (U.Reg.app rfl (hf 13 36 _ rfl rfl k13) (hS.inn 14 37 rfl k14) hrun) ⟨by rw [Array.size_setIfInBounds]; exact hL, _, hS.put hn (i := 15) (d := 38) rfl (by rw [hsz]; decide) _, cput 15 _ hC (fun c hc => by rw [← hcst] at hc; cases hc), ?_⟩
      simpa only [setL (show 15 < L.size by omega), getD_set_ne false (show 15 ≠ 5 by decide), getD_set_ne false (show 15 ≠ 8 by decide), getD_set_ne false (show 15 ≠ 9 by decide), getD_set_ne false (show 15 ≠ 13 by decide), getD_set_ne false (show 15 ≠ 14 by decide), getD_set_ne false (show 15 ≠ 18 by decide), getD_set_ne false (show 15 ≠ 21 by decide), updN f _ (show 8 ≠ 15 by decide), updN f _ (show 9 ≠ 15 by decide), updN f _ (show 14 ≠ 15 by decide), updS] using hG
    | 16, _ =>
      obtain rfl := Option.some.inj ho
      refine Iv.val rfl rfl (w' := w) (U.Reg.nc rfl (hf 0 23 _ rfl rfl (hall ⟨0, .data⟩ (Array.mem_of_getElem? (i := 0) rfl) rfl))) ⟨by rw [Array.size_setIfInBounds]; exact hL, _, hS.put hn (i := 16) (d := 39) rfl (by rw [hsz]; decide) _, cput 16 _ hC (fun c hc => by rw [← hcst] at hc; exact Option.some.inj hc), ?_⟩
      exact nothS hF (show 16 ≠ 5 ∧ 16 ≠ 8 ∧ 16 ≠ 9 ∧ 16 ≠ 13 ∧ 16 ≠ 14 ∧ 16 ≠ 15 ∧ 16 ≠ 18 ∧ 16 ≠ 21 by decide)
    | 17, _ =>
      obtain rfl := Option.some.inj ho
      refine Iv.val rfl rfl (w' := w) (Reg.faH rfl (by decide) (hf 16 39 _ rfl rfl (hall ⟨16, .data⟩ (Array.mem_of_getElem? (i := 0) rfl) rfl))) ⟨by rw [Array.size_setIfInBounds]; exact hL, _, hS.put hn (i := 17) (d := 40) rfl (by rw [hsz]; decide) _, cput 17 _ hC (fun c hc => by rw [← hcst] at hc; exact Option.some.inj hc), ?_⟩
      exact nothS hF (show 17 ≠ 5 ∧ 17 ≠ 8 ∧ 17 ≠ 9 ∧ 17 ≠ 13 ∧ 17 ≠ 14 ∧ 17 ≠ 15 ∧ 17 ≠ 18 ∧ 17 ≠ 21 by decide)
    | 18, _ =>
      obtain rfl := Option.some.inj ho
      have k17 : L.getD 17 false = true := (hall ⟨17, .data⟩ (Array.mem_of_getElem? (i := 0) rfl) rfl)
      have k9 : L.getD 9 false = true := (hall ⟨9, .data⟩ (Array.mem_of_getElem? (i := 1) rfl) rfl)
      have k15 : L.getD 15 false = true := (hall ⟨15, .chain⟩ (Array.mem_of_getElem? (i := 2) rfl) rfl)
      obtain ⟨q1, q2, hq⟩ := row_sl hF.sets
      rw [k9, if_pos rfl] at hq
      refine Iv.skip rfl rfl (U.Reg.st1 rfl (hf 17 40 _ rfl rfl k17) (hS.inn 9 32 rfl k9) (cells_five hF.box).1 (U.frozen_at hF.box) (.inr ⟨_, _, _, hq⟩) (Tryz.sizeOf46 _)) ⟨by rw [Array.size_setIfInBounds]; exact hL, _, hS.skip (i := 18) rfl, cskip 18 hC (by rw [← hcst]; rfl), ?_⟩
      have := hF.st18 hL5 k15
      simpa only [setL (show 18 < L.size by omega), getD_set_ne false (show 18 ≠ 5 by decide), getD_set_ne false (show 18 ≠ 8 by decide), getD_set_ne false (show 18 ≠ 9 by decide), getD_set_ne false (show 18 ≠ 13 by decide), getD_set_ne false (show 18 ≠ 14 by decide), getD_set_ne false (show 18 ≠ 15 by decide), getD_set_ne false (show 18 ≠ 21 by decide)] using this
    | 19, _ =>
      obtain rfl := Option.some.inj ho
      refine Iv.val rfl rfl (w' := w) (U.Reg.nc rfl (hf 1 24 _ rfl rfl (hall ⟨1, .data⟩ (Array.mem_of_getElem? (i := 0) rfl) rfl))) ⟨by rw [Array.size_setIfInBounds]; exact hL, _, hS.put hn (i := 19) (d := 41) rfl (by rw [hsz]; decide) _, cput 19 _ hC (fun c hc => by rw [← hcst] at hc; exact Option.some.inj hc), ?_⟩
      exact nothS hF (show 19 ≠ 5 ∧ 19 ≠ 8 ∧ 19 ≠ 9 ∧ 19 ≠ 13 ∧ 19 ≠ 14 ∧ 19 ≠ 15 ∧ 19 ≠ 18 ∧ 19 ≠ 21 by decide)
    | 20, _ =>
      obtain rfl := Option.some.inj ho
      refine Iv.val rfl rfl (w' := w) (Reg.faH rfl (by decide) (hf 19 41 _ rfl rfl (hall ⟨19, .data⟩ (Array.mem_of_getElem? (i := 0) rfl) rfl))) ⟨by rw [Array.size_setIfInBounds]; exact hL, _, hS.put hn (i := 20) (d := 42) rfl (by rw [hsz]; decide) _, cput 20 _ hC (fun c hc => by rw [← hcst] at hc; exact Option.some.inj hc), ?_⟩
      exact nothS hF (show 20 ≠ 5 ∧ 20 ≠ 8 ∧ 20 ≠ 9 ∧ 20 ≠ 13 ∧ 20 ≠ 14 ∧ 20 ≠ 15 ∧ 20 ≠ 18 ∧ 20 ≠ 21 by decide)
    | 21, _ =>
      obtain rfl := Option.some.inj ho
      have k20 : L.getD 20 false = true := (hall ⟨20, .data⟩ (Array.mem_of_getElem? (i := 0) rfl) rfl)
      have k15 : L.getD 15 false = true := (hall ⟨15, .data⟩ (Array.mem_of_getElem? (i := 1) rfl) rfl)
      have k18 : L.getD 18 false = true := (hall ⟨18, .chain⟩ (Array.mem_of_getElem? (i := 2) rfl) rfl)
      obtain ⟨q1, q2, hq⟩ := row_sl hF.fol
      rw [k15, if_pos rfl] at hq
      refine Iv.skip rfl rfl (U.Reg.st1 rfl (hf 20 42 _ rfl rfl k20) (hS.inn 15 38 rfl k15) (cells_five hF.box).2.1 (U.frozen_at hF.box) (.inr ⟨_, _, _, hq⟩) (Tryz.sizeOf47 _)) ⟨by rw [Array.size_setIfInBounds]; exact hL, _, hS.skip (i := 21) rfl, cskip 21 hC (by rw [← hcst]; rfl), ?_⟩
      have := hF.st21 hL5 k18
      simpa only [setL (show 21 < L.size by omega), getD_set_ne false (show 21 ≠ 5 by decide), getD_set_ne false (show 21 ≠ 8 by decide), getD_set_ne false (show 21 ≠ 9 by decide), getD_set_ne false (show 21 ≠ 13 by decide), getD_set_ne false (show 21 ≠ 14 by decide), getD_set_ne false (show 21 ≠ 15 by decide), getD_set_ne false (show 21 ≠ 18 by decide)] using this
  case done =>
    rintro L a w ⟨hL, f, hS, hC, hF⟩ hd
    have hall : ∀ i, i < 22 → L.getD i false = true := hd
    simp only [hall 5 (by decide), hall 8 (by decide), hall 9 (by decide), hall 13 (by decide), hall 14 (by decide), hall 15 (by decide), hall 18 (by decide), hall 21 (by decide)] at hF
    rw [hS.lit [(23, .pointer (some ⟨A, 0, none⟩)), (24, .pointer (some ⟨A, 0, none⟩)), (25, .pointer (some ⟨A, 0, none⟩)), (26, .pointer (some ⟨A, 0, none⟩)), (27, .pointer (some ⟨A, 0, none⟩)), (28, vs), (29, .pointer (some ⟨b3, 2, none⟩)), (30, .slice ao sl ca), (31, f 8), (32, f 9), (33, .pointer (some ⟨A, 0, none⟩)), (34, .pointer (some ⟨A, 0, none⟩)), (35, .pointer (some ⟨A, 1, none⟩)), (36, vf), (37, f 14), (38, f 15), (39, .pointer (some ⟨A, 0, none⟩)), (40, .pointer (some ⟨A, 0, none⟩)), (41, .pointer (some ⟨A, 0, none⟩)), (42, .pointer (some ⟨A, 1, none⟩))] (by simp only [Reg.inB, hsz]; rfl) ?_ ?_]
    · subst hsl
      rw [← hxs, ← hys] at hF
      exact h (f 8) (f 9) (f 14) (f 15) w (Gc.all hR hB0 hrd hF) hF.qf
    · intro p hp
      simp only [List.mem_cons, List.not_mem_nil, or_false] at hp
      rcases hp with rfl | rfl | rfl | rfl | rfl | rfl | rfl | rfl | rfl | rfl | rfl | rfl | rfl | rfl | rfl | rfl | rfl | rfl | rfl | rfl
      · exact (hS.inn 0 23 rfl (hall 0 (by decide))).trans (hC 0 _ (by rw [← hcst]; rfl) (hall 0 (by decide)))
      · exact (hS.inn 1 24 rfl (hall 1 (by decide))).trans (hC 1 _ (by rw [← hcst]; rfl) (hall 1 (by decide)))
      · exact (hS.inn 2 25 rfl (hall 2 (by decide))).trans (hC 2 _ (by rw [← hcst]; rfl) (hall 2 (by decide)))
      · exact (hS.inn 3 26 rfl (hall 3 (by decide))).trans (hC 3 _ (by rw [← hcst]; rfl) (hall 3 (by decide)))
      · exact (hS.inn 4 27 rfl (hall 4 (by decide))).trans (hC 4 _ (by rw [← hcst]; rfl) (hall 4 (by decide)))
      · exact (hS.inn 5 28 rfl (hall 5 (by decide))).trans (hC 5 _ (by rw [← hcst]; rfl) (hall 5 (by decide)))
      · exact (hS.inn 6 29 rfl (hall 6 (by decide))).trans (hC 6 _ (by rw [← hcst]; rfl) (hall 6 (by decide)))
      · exact (hS.inn 7 30 rfl (hall 7 (by decide))).trans (hC 7 _ (by rw [← hcst]; rfl) (hall 7 (by decide)))
      · exact hS.inn 8 31 rfl (hall 8 (by decide))
      · exact hS.inn 9 32 rfl (hall 9 (by decide))
      · exact (hS.inn 10 33 rfl (hall 10 (by decide))).trans (hC 10 _ (by rw [← hcst]; rfl) (hall 10 (by decide)))
      · exact (hS.inn 11 34 rfl (hall 11 (by decide))).trans (hC 11 _ (by rw [← hcst]; rfl) (hall 11 (by decide)))
      · exact (hS.inn 12 35 rfl (hall 12 (by decide))).trans (hC 12 _ (by rw [← hcst]; rfl) (hall 12 (by decide)))
      · exact (hS.inn 13 36 rfl (hall 13 (by decide))).trans (hC 13 _ (by rw [← hcst]; rfl) (hall 13 (by decide)))
      · exact hS.inn 14 37 rfl (hall 14 (by decide))
      · exact hS.inn 15 38 rfl (hall 15 (by decide))
      · exact (hS.inn 16 39 rfl (hall 16 (by decide))).trans (hC 16 _ (by rw [← hcst]; rfl) (hall 16 (by decide)))
      · exact (hS.inn 17 40 rfl (hall 17 (by decide))).trans (hC 17 _ (by rw [← hcst]; rfl) (hall 17 (by decide)))
      · exact (hS.inn 19 41 rfl (hall 19 (by decide))).trans (hC 19 _ (by rw [← hcst]; rfl) (hall 19 (by decide)))
      · exact (hS.inn 20 42 rfl (hall 20 (by decide))).trans (hC 20 _ (by rw [← hcst]; rfl) (hall 20 (by decide)))
    · intro d hd hm
      simp only [dsS, List.mem_cons, Option.some.injEq, List.not_mem_nil, reduceCtorEq, or_false, false_or] at hm
      simp only [List.mem_cons, List.not_mem_nil, or_false, forall_eq_or_imp, forall_eq] at hd
      omega
end Go.Proofs.YtemanednddhfaaaGreatDoor
namespace Go.Proofs.YtemanednddhfaaaGreatDoor
open Go.RowKit Go.Shelf
open E (T)
attribute [local go_sem] Oper.semAt_some
def RefAt (w0 w : World) (A : Nat) (x : PA.En) (st : List PA.Pl) : Prop := ∃ vs vf qs, qs.map (·.1) = st ∧ RefW w0 w w0.heap.size A vs vf qs x
section
variable {w0 w W : World} {A : Nat} {x : PA.En} {st : List PA.Pl}
theorem RefAt.later (h : RefAt w0 w A x st) (hb : Below w.heap.size w W) : RefAt w0 W A x st := let ⟨a, b, q, e, h⟩ := h; ⟨a, b, q, e, h.later hb⟩
theorem RefAt.bel (h : RefAt w0 w A x st) : Below w0.heap.size w0 w := let ⟨_, _, _, _, h⟩ := h; h.old
theorem RefAt.lt (h : RefAt w0 w A x st) : w0.heap.size ≤ A ∧ A < w.heap.size := let ⟨_, _, _, _, h⟩ := h; ⟨h.le, (Array.getElem?_eq_some_iff.1 h.box).1⟩
def EP (w : World) (b : Nat) (y : PA.En) : Prop := w.heap[b]? = some (.cells #[.int .u64 (y.f : Int), .int .u64 (y.l : Int), .bool y.n] 99)
theorem EP.cells {b : Nat} {y : PA.En} (h : EP w b y) : w.cell? ⟨b, 0, none⟩ = some (.int .u64 (y.f : Int)) ∧ w.cell? ⟨b, 1, none⟩ = some (.int .u64 (y.l : Int)) ∧ w.cell? ⟨b, 2, none⟩ = some (.bool y.n) ∧ w.frozen? ⟨b, 0, none⟩ = false ∧ w.frozen? ⟨b, 1, none⟩ = false ∧ w.frozen? ⟨b, 2, none⟩ = false := by
  unfold EP at h
  simp [World.cell?, World.frozen?, h]
theorem EP.qf {n b : Nat} {y : PA.En} (h : EP w b y) (hp : QF n A w W) (hA : b ≠ A) : EP W b y := hp.at_ h hA (by decide) (by decide)
theorem EP.later {b : Nat} {y : PA.En} (h : EP w b y) (hb : Below w.heap.size w W) : EP W b y := (hb.block b (Array.getElem?_eq_some_iff.1 h).1).trans h
theorem EP.lt {b : Nat} {y : PA.En} (h : EP w b y) : b < w.heap.size := (Array.getElem?_eq_some_iff.1 h).1
theorem EP.put {b : Nat} {y z : PA.En} (h : EP w b z) : EP (put3 w b y) b y := by
  unfold EP at h ⊢
  have h1 := U.set_at (j := 0) (.int .u64 (y.f : Int)) h
  have h2 := U.set_at (j := 1) (.int .u64 (y.l : Int)) h1
  have h3 := U.set_at (j := 2) (.bool y.n) h2
  exact h3
theorem RefAt.putP {b : Nat} {y z : PA.En} (h : RefAt w0 w A x st) (hb : EP w b z) (hb0 : w0.heap.size ≤ b) : RefAt w0 (put3 w b y) A x st := by
  obtain ⟨a, c, q, e, h⟩ := h
  have hs : ∀ k, k ≠ b → (put3 w b y).heap[k]? = w.heap[k]? := fun k hk => put3_other hk
  have hno : ∀ {t : TypeId} {s m : Nat} {v : Value} {zs : List Value}, w.ownsRow w0.heap.size t s v m zs → t ≠ 99 → (put3 w b y).ownsRow w0.heap.size t s v m zs := fun ho ht => own_same ho fun k hk => hs k (by
    rintro rfl
    obtain ⟨_, _, cur, hcur⟩ := own_type ho hk
    unfold EP at hb
    rw [hb] at hcur
    cases hcur
    exact ht rfl)
  refine ⟨a, c, q, e, (hs A ?_).trans h.box, hno h.sets (by decide), hno h.fol (by decide), h.set, h.le, ⟨h.old.os, h.old.tape, h.old.output, by rw [put3_size]; exact h.old.size, fun k hk => (hs k (by omega)).trans (h.old.block k hk)⟩⟩
  rintro rfl
  unfold EP at hb
  rw [h.box] at hb
  cases hb
theorem QF.putP {n b : Nat} {y : PA.En} {w1 : World} (h : QF n A w1 W) (hn : n ≤ w1.heap.size) (hb : w1.heap.size ≤ b) : QF n A w1 (put3 W b y) :=
  ⟨h.os, h.tape, h.output, by rw [put3_size]; exact h.size, fun k hk => (put3_other (by omega)).trans (h.low k hk), fun k hk hA h9 => (put3_other (by omega)).trans (h.keep k hk hA h9)⟩
theorem RefAt.follow (h : RefAt w0 w A x st) (l f : Nat) (hl : l < 2 ^ 64) (hf : f < 2 ^ 64) (hq : ∀ p ∈ st, p.2 < 2 ^ st.length) (hlen : st.length ≤ 60) :
    Calls Tryz.prog 90 #[.pointer (some ⟨A, 0, none⟩), .int .u64 (l : Int), .int .u64 (f : Int)] w fun e W => (∃ u, e = .returned u) ∧ RefAt w0 W A x (PA.join l f st) ∧ QF w0.heap.size A w W := by
  obtain ⟨a, c, q, rfl, h⟩ := h
  simp only [List.length_map] at hq hlen
  refine (follow90_any h (Nat.le_refl _) hlen (fun q' hq' => PA.up (hq q'.1 (List.mem_map_of_mem hq')) (by omega)) l f hl hf).mono ?_
  rintro e W ⟨he, ha, hp⟩
  exact ⟨he, ⟨a, c, _, qsS_join l f q, ha⟩, hp⟩
structure EntR (w0 w X : World) (A : Nat) (x : PA.En) (st : List PA.Pl) (c0 c1 c2 c3 c4 : Value) : Prop where
  belX : Below w.heap.size w X
  au : RefAt w0 X A x st
  al : A < w.heap.size
  B : w0.heap.size ≤ w.heap.size
  box : X.heap[w.heap.size]? = some (.cells #[c0, c1, c2, c3, c4] 26)
  res : EP X (w.heap.size + 1) zE
  size : X.heap.size = w.heap.size + 2
theorem entR_of (hA : RefAt w0 w A x st) (c0 c1 c2 c3 c4 : Value) : EntR w0 w ((w.alloc (.cells #[c0, c1, c2, c3, c4] 26)).alloc (.cells #[.int .u64 0, .int .u64 0, .bool false] 99)) A x st c0 c1 c2 c3 c4 := by
  have b1 := al1 w (.cells #[c0, c1, c2, c3, c4] 26)
  have b2 := al1 (w.alloc (.cells #[c0, c1, c2, c3, c4] 26)) (.cells #[.int .u64 0, .int .u64 0, .bool false] 99)
  have n2 := heap_alloc_new (w.alloc (.cells #[c0, c1, c2, c3, c4] 26)) (.cells #[.int .u64 0, .int .u64 0, .bool false] 99)
  have s1 : (w.alloc (.cells #[c0, c1, c2, c3, c4] 26)).heap.size = w.heap.size + 1 := by simp
  rw [s1] at n2
  exact ⟨nx b1 b2, hA.later (nx b1 b2), hA.lt.2, hA.bel.size, (b2.block _ (by omega)).trans (heap_alloc_new _ _), n2, by simp⟩
set_option maxRecDepth 100000 in
theorem ret56 {y : PA.En} {tm : Array Value} {Q : Ending → World → Prop} (hp : QF w0.heap.size A w W) (hB : w0.heap.size ≤ w.heap.size) (hr : EP W (w.heap.size + 1) zE) (ha : RefAt w0 W A x st)
    (ht : tm.getD 4 undef = .pointer (some ⟨w.heap.size + 1, 0, none⟩)) (hQ : ∀ W', RefAt w0 W' A x st → QF w0.heap.size A w W' → Q (.returned (encE y)) W') :
    bodyPost Tryz.prog Tryz.f56 Q .ret { tmps := tm, defers := [] } (put3 W (w.heap.size + 1) y) := by
  obtain ⟨p0, p1, p2, _, _, _⟩ := EP.cells (EP.put (y := y) hr)
  refine bodyPost_ret (v := encE y) ?_ rfl (hQ _ (ha.putP hr (by omega)) (hp.putP hB (by omega)))
  generalize put3 W (w.heap.size + 1) y = W' at *
  rw [res_cell (p := 4) (ty := 99) rfl, ht]
  simp [asAddr, loadVar, Sem.run_bind, Result.andThen, go_sem, p0, p1, p2, encE]
set_option maxRecDepth 100000 in
set_option maxHeartbeats 4000000 in
theorem walk_none (k a : Int) (hk : k ≠ 1 ∧ k ≠ 4 ∧ k ≠ 5 ∧ k ≠ 6 ∧ k ≠ 7 ∧ k ≠ 8) (nm : ByteArray) (sp kp : Option Addr) (sl sc kl kc : Nat) (hA : RefAt w0 w A x st) :
    Calls Tryz.prog 56 #[.pointer (some ⟨A, 0, none⟩), .agg #[.int .i64 k, .int .i64 a, .slice sp sl sc, .string nm, .slice kp kl kc]] w fun e W => e = .returned (encE ⟨0, 0, decide (k = 3)⟩) ∧ RefAt w0 W A x st ∧ QF w0.heap.size A w W := by
  have he := entR_of hA (.int .i64 k) (.int .i64 a) (.slice sp sl sc) (.string nm) (.slice kp kl kc)
  obtain ⟨X, hX⟩ : ∃ X, (w.alloc (.cells #[.int .i64 k, .int .i64 a, .slice sp sl sc, .string nm, .slice kp kl kc] 26)).alloc (.cells #[.int .u64 0, .int .u64 0, .bool false] 99) = X := ⟨_, rfl⟩
  rw [hX] at he
  obtain ⟨q0, q1, q2, q3, q4⟩ := cells_five he.box
  obtain ⟨p0, p1, p2, f0, f1, f2⟩ := he.res.cells
  have HE := hide he
  have t1 : (k == 1) = false := by simp [hk.1]
  have t4 : (k == 4) = false := by simp [hk.2.1]
  have t5 : (k == 5) = false := by simp [hk.2.2.1]
  have t6 : (k == 6) = false := by simp [hk.2.2.2.1]
  have t7 : (k == 7) = false := by simp [hk.2.2.2.2.1]
  have t8 : (k == 8) = false := by simp [hk.2.2.2.2.2]
  have t3 : (k == 3) = decide (k = 3) := by rw [Bool.eq_iff_iff]; simp
  generalize decide (k = 3) = c at *
  clear he hk hA
  go_enter Tryz.func56, Tryz.ntmps56
  go_wp2
  exact ret56 (y := ⟨0, 0, c⟩) (QF.of HE.out.belX HE.out.B) HE.out.B HE.out.res HE.out.au rfl fun W' h1 h2 => ⟨rfl, h1, h2⟩
set_option maxRecDepth 100000 in
set_option maxHeartbeats 4000000 in
theorem walk_set (a : Int) (s : List U.S.R) (nm : ByteArray) (sp kp : Option Addr) (sc kl kc : Nat) (hr : U.RdR w0 sp s) (hA : RefAt w0 w A x st) (hlen : st.length + 1 ≤ 60) :
    Calls Tryz.prog 56 #[.pointer (some ⟨A, 0, none⟩), .agg #[.int .i64 1, .int .i64 a, .slice sp s.length sc, .string nm, .slice kp kl kc]] w fun e W => e = .returned (encE ⟨2 ^ st.length, 2 ^ st.length, false⟩) ∧ RefAt w0 W A x (st ++ [(s, 0)]) ∧ QF w0.heap.size A w W := by
  have he := entR_of hA (.int .i64 1) (.int .i64 a) (.slice sp s.length sc) (.string nm) (.slice kp kl kc)
  obtain ⟨X, hX⟩ : ∃ X, (w.alloc (.cells #[.int .i64 1, .int .i64 a, .slice sp s.length sc, .string nm, .slice kp kl kc] 26)).alloc (.cells #[.int .u64 0, .int .u64 0, .bool false] 99) = X := ⟨_, rfl⟩
  rw [hX] at he
  obtain ⟨q0, q1, q2, q3, q4⟩ := cells_five he.box
  obtain ⟨vs, vf, qs, hqs, hR⟩ := he.au
  have hl : st.length = qs.length := by rw [← hqs, List.length_map]
  obtain ⟨c0, c1, _⟩ := hR.cells
  obtain ⟨ao, ca, rfl⟩ := row_sl hR.sets
  have hw : IntKind.u64.wrap (2 ^ qs.length) = ((2 ^ qs.length : Nat) : Int) := by
    have := wrapU (n := 2 ^ qs.length) (Nat.pow_lt_pow_right (by decide) (by omega))
    rw [← this]
    congr 1
  have HE := hide he
  have HRW := hide hR
  have HQS := hide hqs
  have HRD := hide hr
  rw [hl]
  have hlen2 : qs.length ≤ 60 := by omega
  obtain ⟨z, hz⟩ : ∃ z, 2 ^ qs.length = z := ⟨_, rfl⟩
  rw [hz] at hw ⊢
  clear he hA hR hr hqs hl hlen hz c1
  go_enter Tryz.func56, Tryz.ntmps56
  go_wp2
  refine regS _ rfl rfl rfl HE.out.box HRW.out (by omega) (Nat.le_refl _) rfl HRD.out ?_
  intro v8 v9 v14 v15 W hR2 hq2
  simp only [Reg.ov, Act.put, List.setIfInBounds_toArray, List.set_cons_succ, List.set_cons_zero]
  have HP := hide ((QF.of HE.out.belX HE.out.B).trans hq2)
  have HA : Hid (RefAt w0 W A x (st ++ [(s, 0)])) := hide ⟨_, _, _, by rw [List.map_append, HQS.out]; rfl, hR2⟩
  have HRR := hide (HE.out.res.qf hq2 (by have := HE.out.al; omega))
  obtain ⟨p0, p1, p2, f0, f1, f2⟩ := HRR.out.cells
  clear hR2 hq2 q0 q1 q2 q3 q4 c0
  go_wp2
  exact ret56 (y := ⟨z, z, false⟩) HP.out HE.out.B HRR.out HA.out rfl fun W' h1 h2 => ⟨rfl, h1, h2⟩
end
end Go.Proofs.YtemanednddhfaaaGreatDoor
namespace Go.Proofs.YtemanednddhfaaaGreatDoor
open Go.RowKit Go.Shelf
open E (T)
attribute [local go_sem] Oper.semAt_some
theorem RefAt.setP {w0 w : World} {A : Nat} {x : PA.En} {st : List PA.Pl} {b j : Nat} {u : Value} {z : PA.En} (h : RefAt w0 w A x st) (hb : EP w b z) (hb0 : w0.heap.size ≤ b) : RefAt w0 (w.setCell ⟨b, j, none⟩ u) A x st := by
  obtain ⟨a, c, q, e, h⟩ := h
  have hs : ∀ k, k ≠ b → (w.setCell ⟨b, j, none⟩ u).heap[k]? = w.heap[k]? := fun k hk => Below.heap_setCell _ _ _ _ hk
  have hno : ∀ {t : TypeId} {s m : Nat} {v : Value} {zs : List Value}, w.ownsRow w0.heap.size t s v m zs → t ≠ 99 → (w.setCell ⟨b, j, none⟩ u).ownsRow w0.heap.size t s v m zs := fun ho ht => own_same ho fun k hk => hs k (by
    rintro rfl
    obtain ⟨_, _, cur, hcur⟩ := own_type ho hk
    unfold EP at hb
    rw [hb] at hcur
    cases hcur
    exact ht rfl)
  refine ⟨a, c, q, e, (hs A ?_).trans h.box, hno h.sets (by decide), hno h.fol (by decide), h.set, h.le, ⟨h.old.os, h.old.tape, h.old.output, by simp [World.setCell]; exact h.old.size, fun k hk => (hs k (by omega)).trans (h.old.block k hk)⟩⟩
  rintro rfl
  unfold EP at hb
  rw [h.box] at hb
  cases hb
theorem QF.setP {n A b j : Nat} {u : Value} {w1 W : World} (h : QF n A w1 W) (hn : n ≤ w1.heap.size) (hb : w1.heap.size ≤ b) : QF n A w1 (W.setCell ⟨b, j, none⟩ u) :=
  ⟨h.os, h.tape, h.output, by simp [World.setCell]; exact h.size, fun k hk => (Below.heap_setCell _ _ _ _ (show k ≠ b by omega)).trans (h.low k hk), fun k hk hA h9 => (Below.heap_setCell _ _ _ _ (show k ≠ b by omega)).trans (h.keep k hk hA h9)⟩
theorem EP.set2 {w : World} {b : Nat} {y : PA.En} (h : EP w b y) (v : Bool) : EP (w.setCell ⟨b, 2, none⟩ (.bool v)) b ⟨y.f, y.l, v⟩ := U.set_at (j := 2) (.bool v) h
theorem EP.set0 {w : World} {b : Nat} {y : PA.En} (h : EP w b y) (v : Nat) : EP (w.setCell ⟨b, 0, none⟩ (.int .u64 (v : Int))) b ⟨v, y.l, y.n⟩ := U.set_at (j := 0) (.int .u64 (v : Int)) h
theorem EP.set1 {w : World} {b : Nat} {y : PA.En} (h : EP w b y) (v : Nat) : EP (w.setCell ⟨b, 1, none⟩ (.int .u64 (v : Int))) b ⟨y.f, v, y.n⟩ := U.set_at (j := 1) (.int .u64 (v : Int)) h
theorem EP.other {w : World} {b c j : Nat} {u : Value} {y : PA.En} (h : EP w b y) (hne : b ≠ c) : EP (w.setCell ⟨c, j, none⟩ u) b y := (Below.heap_setCell _ _ _ _ hne).trans h
set_option maxRecDepth 100000 in
set_option maxHeartbeats 4000000 in
theorem walk_opt {w0 w : World} {A kb koff : Nat} {x e1 : PA.En} {st st1 : List PA.Pl} {d0 : ND} (a : Int) (nm : ByteArray) (sp : Option Addr) (sl sc kl kc : Nat) (hk0 : Cells5 w0 kb koff d0.v) (hkl : 1 ≤ kl) (hA : RefAt w0 w A x st)
    (hc1 : ∀ w, RefAt w0 w A x st → Calls Tryz.prog 56 #[.pointer (some ⟨A, 0, none⟩), d0.v] w fun e W => e = .returned (encE e1) ∧ RefAt w0 W A x st1 ∧ QF w0.heap.size A w W) :
    Calls Tryz.prog 56 #[.pointer (some ⟨A, 0, none⟩), .agg #[.int .i64 8, .int .i64 a, .slice sp sl sc, .string nm, .slice (some ⟨kb, koff, none⟩) kl kc]] w fun e W => e = .returned (encE ⟨e1.f, e1.l, true⟩) ∧ RefAt w0 W A x st1 ∧ QF w0.heap.size A w W := by
  have he := entR_of hA (.int .i64 8) (.int .i64 a) (.slice sp sl sc) (.string nm) (.slice (some ⟨kb, koff, none⟩) kl kc)
  obtain ⟨X, hX⟩ : ∃ X, (w.alloc (.cells #[.int .i64 8, .int .i64 a, .slice sp sl sc, .string nm, .slice (some ⟨kb, koff, none⟩) kl kc] 26)).alloc (.cells #[.int .u64 0, .int .u64 0, .bool false] 99) = X := ⟨_, rfl⟩
  rw [hX] at he
  obtain ⟨q0, q1, q2, q3, q4⟩ := cells_five he.box
  have hcall := hc1 X he.au
  have HE := hide he
  have hkb := cells5_lt hk0
  have hkX := cells5_same hk0 (he.au.bel.block kb hkb)
  obtain ⟨y0, y1, y2, y3, y4, ev, g0, g1, g2, g3, g4⟩ := hkX
  unfold ND.v at ev hcall
  simp only [Value.agg.injEq, Array.mk.injEq, List.cons.injEq, and_true] at ev
  obtain ⟨rfl, rfl, rfl, rfl, rfl⟩ := ev
  have es := elemSizeN
  obtain ⟨ef, el, en⟩ := e1
  unfold encE at hcall
  dsimp only at hcall
  clear he hA hk0 hc1
  go_enter Tryz.func56, Tryz.ntmps56
  go_wp2_with fail
  refine hcall.mono ?_
  rintro e W1 ⟨rfl, ha1, hp1⟩
  have hp2 := (QF.of HE.out.belX HE.out.B).trans hp1
  have r2 := HE.out.res.qf hp1 (by have := HE.out.al; omega)
  have m2 : W1.heap[w.heap.size]? = _ := hp1.at_ HE.out.box (by have := HE.out.al; omega) (by decide) (by decide)
  have z2 : w.heap.size + 2 ≤ W1.heap.size := by have := hp1.size; have := HE.out.size; omega
  have b1 := al1 W1 (.cells #[.int .u64 (ef : Int), .int .u64 (el : Int), .bool en] 99)
  have n1 := heap_alloc_new W1 (.cells #[.int .u64 (ef : Int), .int .u64 (el : Int), .bool en] 99)
  obtain ⟨q0, q1, q2, q3, q4⟩ := cells_five ((b1.block _ (by omega)).trans m2)
  obtain ⟨x0, x1, x2, _, _, _⟩ := EP.cells (y := ⟨ef, el, en⟩) n1
  have b2 := al1 W1 (.cells #[.int .u64 (ef : Int), .int .u64 (el : Int), .bool true] 99)
  obtain ⟨p0, p1, p2, f0, f1, f2⟩ := (r2.later b2).cells
  have HP := hide (hp2.trans (QF.of b2 (by have := HE.out.B; omega)))
  have HA := hide (ha1.later b2)
  have HR := hide (r2.later b2)
  clear hcall hp1 hp2 ha1 r2 m2 g0 g1 g2 g3 g4 hX b1 n1 b2
  cases en
  · go_wp2
    exact ret56 (y := ⟨ef, el, true⟩) HP.out HE.out.B HR.out HA.out rfl fun W' h1 h2 => ⟨rfl, h1, h2⟩
  · go_wp2
    exact ret56 (y := ⟨ef, el, true⟩) HP.out HE.out.B HR.out HA.out rfl fun W' h1 h2 => ⟨rfl, h1, h2⟩
set_option maxRecDepth 100000 in
set_option maxHeartbeats 4000000 in
theorem walk_star {w0 w : World} {A kb koff : Nat} {x e1 : PA.En} {st st1 : List PA.Pl} {d0 : ND} (a : Int) (nm : ByteArray) (sp : Option Addr) (sl sc kl kc : Nat) (hk0 : Cells5 w0 kb koff d0.v) (hkl : 1 ≤ kl) (hA : RefAt w0 w A x st) (he1 : e1.f < 2 ^ 64) (he2 : e1.l < 2 ^ 64) (hq : ∀ p ∈ st1, p.2 < 2 ^ st1.length) (hlen : st1.length ≤ 60)
    (hc1 : ∀ w, RefAt w0 w A x st → Calls Tryz.prog 56 #[.pointer (some ⟨A, 0, none⟩), d0.v] w fun e W => e = .returned (encE e1) ∧ RefAt w0 W A x st1 ∧ QF w0.heap.size A w W) :
    Calls Tryz.prog 56 #[.pointer (some ⟨A, 0, none⟩), .agg #[.int .i64 6, .int .i64 a, .slice sp sl sc, .string nm, .slice (some ⟨kb, koff, none⟩) kl kc]] w fun e W => e = .returned (encE ⟨e1.f, e1.l, true⟩) ∧ RefAt w0 W A x (PA.join e1.l e1.f st1) ∧ QF w0.heap.size A w W := by
  have he := entR_of hA (.int .i64 6) (.int .i64 a) (.slice sp sl sc) (.string nm) (.slice (some ⟨kb, koff, none⟩) kl kc)
  obtain ⟨X, hX⟩ : ∃ X, (w.alloc (.cells #[.int .i64 6, .int .i64 a, .slice sp sl sc, .string nm, .slice (some ⟨kb, koff, none⟩) kl kc] 26)).alloc (.cells #[.int .u64 0, .int .u64 0, .bool false] 99) = X := ⟨_, rfl⟩
  rw [hX] at he
  obtain ⟨q0, q1, q2, q3, q4⟩ := cells_five he.box
  have hcall := hc1 X he.au
  have HE := hide he
  have hkb := cells5_lt hk0
  have hkX := cells5_same hk0 (he.au.bel.block kb hkb)
  obtain ⟨y0, y1, y2, y3, y4, ev, g0, g1, g2, g3, g4⟩ := hkX
  unfold ND.v at ev hcall
  simp only [Value.agg.injEq, Array.mk.injEq, List.cons.injEq, and_true] at ev
  obtain ⟨rfl, rfl, rfl, rfl, rfl⟩ := ev
  have es := elemSizeN
  obtain ⟨ef, el, en⟩ := e1
  unfold encE at hcall
  dsimp only at hcall
  clear he hA hk0 hc1
  go_enter Tryz.func56, Tryz.ntmps56
  go_wp2_with fail
  refine hcall.mono ?_
  rintro e W1 ⟨rfl, ha1, hp1⟩
  have hp2 := (QF.of HE.out.belX HE.out.B).trans hp1
  have r2 := HE.out.res.qf hp1 (by have := HE.out.al; omega)
  have m2 : W1.heap[w.heap.size]? = _ := hp1.at_ HE.out.box (by have := HE.out.al; omega) (by decide) (by decide)
  have z2 : w.heap.size + 2 ≤ W1.heap.size := by have := hp1.size; have := HE.out.size; omega
  have b1 := al1 W1 (.cells #[.int .u64 (ef : Int), .int .u64 (el : Int), .bool en] 99)
  have n1 := heap_alloc_new W1 (.cells #[.int .u64 (ef : Int), .int .u64 (el : Int), .bool en] 99)
  obtain ⟨q0, q1, q2, q3, q4⟩ := cells_five ((b1.block _ (by omega)).trans m2)
  obtain ⟨x0, x1, x2, _, _, _⟩ := EP.cells (y := ⟨ef, el, en⟩) n1
  have hJ := (ha1.later b1).follow el ef he2 he1 hq hlen
  have HP2 := hide (hp2.trans (QF.of b1 (by have := HE.out.B; omega)))
  have HR2 := hide (r2.later b1)
  have HX := hide (show EP (W1.alloc (.cells #[.int .u64 (ef : Int), .int .u64 (el : Int), .bool en] 99)) W1.heap.size ⟨ef, el, en⟩ from n1)
  have M2 := hide ((b1.block _ (by omega)).trans m2)
  have hB := HE.out.B
  have hAl := HE.out.al
  clear hcall hp1 hp2 ha1 r2 m2 g0 g1 g2 g3 g4 hX b1 n1
  go_wp2_with fail
  refine hJ.mono ?_
  rintro e W3 ⟨⟨u, rfl⟩, ha3, hp3⟩
  have hx := HX.out.qf hp3 (by omega)
  have hr := HR2.out.qf hp3 (by omega)
  have hm := hp3.at_ M2.out (by omega) (by decide) (by decide)
  have hp4 := HP2.out.trans hp3
  obtain ⟨q0, q1, q2, q3, q4⟩ := cells_five hm
  obtain ⟨x0, x1, x2, k0, k1, k2⟩ := hx.cells
  obtain ⟨y0, y1, y2, _, _, _⟩ := (hx.set2 true).cells
  obtain ⟨p0, p1, p2, f0, f1, f2⟩ := (EP.other (b := w.heap.size + 1) (c := W1.heap.size) (j := 2) (u := .bool true) hr (by omega)).cells
  have HP := hide (hp4.setP (j := 2) (u := .bool true) hB (show w.heap.size ≤ W1.heap.size by omega))
  have HA := hide (ha3.setP (j := 2) (u := .bool true) hx (by omega))
  have HR := hide (EP.other (b := w.heap.size + 1) (c := W1.heap.size) (j := 2) (u := .bool true) hr (by omega))
  clear hJ hp3 hp4 ha3 hx hr hm
  cases en
  · go_wp2
    exact ret56 (y := ⟨ef, el, true⟩) HP.out HE.out.B HR.out HA.out rfl fun W' h1 h2 => ⟨rfl, h1, h2⟩
  · go_wp2
    exact ret56 (y := ⟨ef, el, true⟩) HP.out HE.out.B HR.out HA.out rfl fun W' h1 h2 => ⟨rfl, h1, h2⟩
set_option maxRecDepth 100000 in
set_option maxHeartbeats 4000000 in
theorem walk_plus {w0 w : World} {A kb koff : Nat} {x e1 : PA.En} {st st1 : List PA.Pl} {d0 : ND} (a : Int) (nm : ByteArray) (sp : Option Addr) (sl sc kl kc : Nat) (hk0 : Cells5 w0 kb koff d0.v) (hkl : 1 ≤ kl) (hA : RefAt w0 w A x st) (he1 : e1.f < 2 ^ 64) (he2 : e1.l < 2 ^ 64) (hq : ∀ p ∈ st1, p.2 < 2 ^ st1.length) (hlen : st1.length ≤ 60)
    (hc1 : ∀ w, RefAt w0 w A x st → Calls Tryz.prog 56 #[.pointer (some ⟨A, 0, none⟩), d0.v] w fun e W => e = .returned (encE e1) ∧ RefAt w0 W A x st1 ∧ QF w0.heap.size A w W) :
    Calls Tryz.prog 56 #[.pointer (some ⟨A, 0, none⟩), .agg #[.int .i64 7, .int .i64 a, .slice sp sl sc, .string nm, .slice (some ⟨kb, koff, none⟩) kl kc]] w fun e W => e = .returned (encE ⟨e1.f, e1.l, e1.n⟩) ∧ RefAt w0 W A x (PA.join e1.l e1.f st1) ∧ QF w0.heap.size A w W := by
  have he := entR_of hA (.int .i64 7) (.int .i64 a) (.slice sp sl sc) (.string nm) (.slice (some ⟨kb, koff, none⟩) kl kc)
  obtain ⟨X, hX⟩ : ∃ X, (w.alloc (.cells #[.int .i64 7, .int .i64 a, .slice sp sl sc, .string nm, .slice (some ⟨kb, koff, none⟩) kl kc] 26)).alloc (.cells #[.int .u64 0, .int .u64 0, .bool false] 99) = X := ⟨_, rfl⟩
  rw [hX] at he
  obtain ⟨q0, q1, q2, q3, q4⟩ := cells_five he.box
  have hcall := hc1 X he.au
  have HE := hide he
  have hkb := cells5_lt hk0
  have hkX := cells5_same hk0 (he.au.bel.block kb hkb)
  obtain ⟨y0, y1, y2, y3, y4, ev, g0, g1, g2, g3, g4⟩ := hkX
  unfold ND.v at ev hcall
  simp only [Value.agg.injEq, Array.mk.injEq, List.cons.injEq, and_true] at ev
  obtain ⟨rfl, rfl, rfl, rfl, rfl⟩ := ev
  have es := elemSizeN
  obtain ⟨ef, el, en⟩ := e1
  unfold encE at hcall
  dsimp only at hcall
  clear he hA hk0 hc1
  go_enter Tryz.func56, Tryz.ntmps56
  go_wp2_with fail
  refine hcall.mono ?_
  rintro e W1 ⟨rfl, ha1, hp1⟩
  have hp2 := (QF.of HE.out.belX HE.out.B).trans hp1
  have r2 := HE.out.res.qf hp1 (by have := HE.out.al; omega)
  have m2 : W1.heap[w.heap.size]? = _ := hp1.at_ HE.out.box (by have := HE.out.al; omega) (by decide) (by decide)
  have z2 : w.heap.size + 2 ≤ W1.heap.size := by have := hp1.size; have := HE.out.size; omega
  have b1 := al1 W1 (.cells #[.int .u64 (ef : Int), .int .u64 (el : Int), .bool en] 99)
  have n1 := heap_alloc_new W1 (.cells #[.int .u64 (ef : Int), .int .u64 (el : Int), .bool en] 99)
  obtain ⟨q0, q1, q2, q3, q4⟩ := cells_five ((b1.block _ (by omega)).trans m2)
  obtain ⟨x0, x1, x2, _, _, _⟩ := EP.cells (y := ⟨ef, el, en⟩) n1
  have hJ := (ha1.later b1).follow el ef he2 he1 hq hlen
  have HP2 := hide (hp2.trans (QF.of b1 (by have := HE.out.B; omega)))
  have HR2 := hide (r2.later b1)
  have HX := hide (show EP (W1.alloc (.cells #[.int .u64 (ef : Int), .int .u64 (el : Int), .bool en] 99)) W1.heap.size ⟨ef, el, en⟩ from n1)
  have M2 := hide ((b1.block _ (by omega)).trans m2)
  have hB := HE.out.B
  have hAl := HE.out.al
  clear hcall hp1 hp2 ha1 r2 m2 g0 g1 g2 g3 g4 hX b1 n1
  go_wp2_with fail
  refine hJ.mono ?_
  rintro e W3 ⟨⟨u, rfl⟩, ha3, hp3⟩
  have hx := HX.out.qf hp3 (by omega)
  have hr := HR2.out.qf hp3 (by omega)
  have hm := hp3.at_ M2.out (by omega) (by decide) (by decide)
  have hp4 := HP2.out.trans hp3
  obtain ⟨q0, q1, q2, q3, q4⟩ := cells_five hm
  obtain ⟨x0, x1, x2, k0, k1, k2⟩ := hx.cells
  obtain ⟨y0, y1, y2, _, _, _⟩ := (hx.set2 en).cells
  obtain ⟨p0, p1, p2, f0, f1, f2⟩ := (EP.other (b := w.heap.size + 1) (c := W1.heap.size) (j := 2) (u := .bool en) hr (by omega)).cells
  have HP := hide (hp4.setP (j := 2) (u := .bool en) hB (show w.heap.size ≤ W1.heap.size by omega))
  have HA := hide (ha3.setP (j := 2) (u := .bool en) hx (by omega))
  have HR := hide (EP.other (b := w.heap.size + 1) (c := W1.heap.size) (j := 2) (u := .bool en) hr (by omega))
  clear hJ hp3 hp4 ha3 hx hr hm
  cases en
  · go_wp2
    exact ret56 (y := ⟨ef, el, false⟩) HP.out HE.out.B HR.out HA.out rfl fun W' h1 h2 => ⟨rfl, h1, h2⟩
  · go_wp2
    exact ret56 (y := ⟨ef, el, true⟩) HP.out HE.out.B HR.out HA.out rfl fun W' h1 h2 => ⟨rfl, h1, h2⟩
end Go.Proofs.YtemanednddhfaaaGreatDoor
namespace Go.Proofs.YtemanednddhfaaaGreatDoor
open Go.RowKit Go.Shelf
open E (T)
attribute [local go_sem] Oper.semAt_some
set_option maxRecDepth 100000 in
set_option maxHeartbeats 4000000 in
theorem walk_alt {w0 w : World} {A kb koff : Nat} {x e1 e2 : PA.En} {st st1 st2 : List PA.Pl} {d0 d1 : ND} (a : Int) (nm : ByteArray) (sp : Option Addr) (sl sc kl kc : Nat) (hk0 : Cells5 w0 kb koff d0.v) (hk1 : Cells5 w0 kb (koff + 5) d1.v) (hkl : 2 ≤ kl) (hA : RefAt w0 w A x st)
    (he1 : e1.f < 2 ^ 64 ∧ e1.l < 2 ^ 64) (he2 : e2.f < 2 ^ 64 ∧ e2.l < 2 ^ 64)
    (hc1 : ∀ w, RefAt w0 w A x st → Calls Tryz.prog 56 #[.pointer (some ⟨A, 0, none⟩), d0.v] w fun e W => e = .returned (encE e1) ∧ RefAt w0 W A x st1 ∧ QF w0.heap.size A w W)
    (hc2 : ∀ w, RefAt w0 w A x st1 → Calls Tryz.prog 56 #[.pointer (some ⟨A, 0, none⟩), d1.v] w fun e W => e = .returned (encE e2) ∧ RefAt w0 W A x st2 ∧ QF w0.heap.size A w W) :
    Calls Tryz.prog 56 #[.pointer (some ⟨A, 0, none⟩), .agg #[.int .i64 5, .int .i64 a, .slice sp sl sc, .string nm, .slice (some ⟨kb, koff, none⟩) kl kc]] w fun e W => e = .returned (encE (PA.or e1 e2)) ∧ RefAt w0 W A x st2 ∧ QF w0.heap.size A w W := by
  have he := entR_of hA (.int .i64 5) (.int .i64 a) (.slice sp sl sc) (.string nm) (.slice (some ⟨kb, koff, none⟩) kl kc)
  obtain ⟨X, hX⟩ : ∃ X, (w.alloc (.cells #[.int .i64 5, .int .i64 a, .slice sp sl sc, .string nm, .slice (some ⟨kb, koff, none⟩) kl kc] 26)).alloc (.cells #[.int .u64 0, .int .u64 0, .bool false] 99) = X := ⟨_, rfl⟩
  rw [hX] at he
  obtain ⟨q0, q1, q2, q3, q4⟩ := cells_five he.box
  have hcall := hc1 X he.au
  have HE := hide he
  have hkb := cells5_lt hk0
  have HC2 := hide hc2
  have HK1 := hide hk1
  obtain ⟨y0, y1, y2, y3, y4, ev, g0, g1, g2, g3, g4⟩ := cells5_same hk0 (he.au.bel.block kb hkb)
  unfold ND.v at ev hcall
  simp only [Value.agg.injEq, Array.mk.injEq, List.cons.injEq, and_true] at ev
  obtain ⟨rfl, rfl, rfl, rfl, rfl⟩ := ev
  have es := elemSizeN
  obtain ⟨ef, el, en⟩ := e1
  obtain ⟨gf, gl, gn⟩ := e2
  have o1 := bits_or_u64_nat ef gf he1.1 he2.1
  have o2 := bits_or_u64_nat el gl he1.2 he2.2
  unfold encE at hcall
  dsimp only at hcall
  clear he hA hk0 hk1 hc1 hc2
  go_enter Tryz.func56, Tryz.ntmps56
  go_wp2_with fail
  refine hcall.mono ?_
  rintro e W1 ⟨rfl, ha1, hp1⟩
  have hB := HE.out.B
  have hAl := HE.out.al
  have z2 : w.heap.size + 2 ≤ W1.heap.size := by have := hp1.size; have := HE.out.size; omega
  have b1 := al1 W1 (.cells #[.int .u64 (ef : Int), .int .u64 (el : Int), .bool en] 99)
  have n1 := heap_alloc_new W1 (.cells #[.int .u64 (ef : Int), .int .u64 (el : Int), .bool en] 99)
  have s1 : (W1.alloc (.cells #[.int .u64 (ef : Int), .int .u64 (el : Int), .bool en] 99)).heap.size = W1.heap.size + 1 := by simp
  have m2 := (b1.block _ (by omega)).trans (hp1.at_ HE.out.box (by omega) (by decide) (by decide))
  have r2 := (HE.out.res.qf hp1 (by omega)).later b1
  have hp2 := ((QF.of HE.out.belX hB).trans hp1).trans (QF.of b1 (by omega))
  have ha2 := ha1.later b1
  have hcall2 := HC2.out _ ha2
  obtain ⟨u0, u1, u2, u3, u4, ev, i0, i1, i2, i3, i4⟩ := cells5_same HK1.out (ha2.bel.block kb hkb)
  unfold ND.v at ev hcall2
  simp only [Value.agg.injEq, Array.mk.injEq, List.cons.injEq, and_true] at ev
  obtain ⟨rfl, rfl, rfl, rfl, rfl⟩ := ev
  unfold encE at hcall2
  dsimp only at hcall2
  have HX := hide (show EP (W1.alloc (.cells #[.int .u64 (ef : Int), .int .u64 (el : Int), .bool en] 99)) W1.heap.size ⟨ef, el, en⟩ from n1)
  have HM := hide m2
  have HR2 := hide r2
  have HP2 := hide hp2
  obtain ⟨q0, q1, q2, q3, q4⟩ := cells_five m2
  clear hcall hp1 ha1 ha2 r2 m2 g0 g1 g2 g3 g4 hX b1 n1 hp2
  go_wp2_with fail
  refine hcall2.mono ?_
  rintro e W3 ⟨rfl, ha3, hp3⟩
  have z3 : W1.heap.size + 1 ≤ W3.heap.size := by have := hp3.size; omega
  have hx := HX.out.qf hp3 (by omega)
  have hr := HR2.out.qf hp3 (by omega)
  have hp4 := HP2.out.trans hp3
  have b2 := al1 W3 (.cells #[.int .u64 (gf : Int), .int .u64 (gl : Int), .bool gn] 99)
  have n2 := heap_alloc_new W3 (.cells #[.int .u64 (gf : Int), .int .u64 (gl : Int), .bool gn] 99)
  obtain ⟨x0, x1, x2, _, _, _⟩ := (hx.later b2).cells
  obtain ⟨v0, v1, v2, _, _, _⟩ := EP.cells (y := ⟨gf, gl, gn⟩) n2
  obtain ⟨p0, p1, p2, f0, f1, f2⟩ := (hr.later b2).cells
  have HP := hide (hp4.trans (QF.of b2 (by omega)))
  have HA := hide (ha3.later b2)
  have HR := hide (hr.later b2)
  clear hcall2 hp3 hp4 ha3 hx hr b2 n2 i0 i1 i2 i3 i4 s1
  cases en <;> cases gn
  · go_wp2
    exact ret56 (y := ⟨ef ||| gf, el ||| gl, false⟩) HP.out HE.out.B HR.out HA.out rfl fun W' h1 h2 => ⟨rfl, h1, h2⟩
  · go_wp2
    exact ret56 (y := ⟨ef ||| gf, el ||| gl, true⟩) HP.out HE.out.B HR.out HA.out rfl fun W' h1 h2 => ⟨rfl, h1, h2⟩
  · go_wp2
    exact ret56 (y := ⟨ef ||| gf, el ||| gl, true⟩) HP.out HE.out.B HR.out HA.out rfl fun W' h1 h2 => ⟨rfl, h1, h2⟩
  · go_wp2
    exact ret56 (y := ⟨ef ||| gf, el ||| gl, true⟩) HP.out HE.out.B HR.out HA.out rfl fun W' h1 h2 => ⟨rfl, h1, h2⟩
end Go.Proofs.YtemanednddhfaaaGreatDoor
namespace Go.Proofs.YtemanednddhfaaaGreatDoor
open Go.RowKit Go.Shelf
open E (T)
attribute [local go_sem] Oper.semAt_some
set_option maxRecDepth 100000 in
set_option maxHeartbeats 4000000 in
theorem walk_cat {w0 w : World} {A kb koff : Nat} {x e1 e2 : PA.En} {st st1 st2 : List PA.Pl} {d0 d1 : ND} (a : Int) (nm : ByteArray) (sp : Option Addr) (sl sc kl kc : Nat) (hk0 : Cells5 w0 kb koff d0.v) (hk1 : Cells5 w0 kb (koff + 5) d1.v) (hkl : 2 ≤ kl) (hA : RefAt w0 w A x st)
    (he1 : e1.f < 2 ^ 64 ∧ e1.l < 2 ^ 64) (he2 : e2.f < 2 ^ 64 ∧ e2.l < 2 ^ 64) (hq : ∀ p ∈ st2, p.2 < 2 ^ st2.length) (hlen : st2.length ≤ 60)
    (hc1 : ∀ w, RefAt w0 w A x st → Calls Tryz.prog 56 #[.pointer (some ⟨A, 0, none⟩), d0.v] w fun e W => e = .returned (encE e1) ∧ RefAt w0 W A x st1 ∧ QF w0.heap.size A w W)
    (hc2 : ∀ w, RefAt w0 w A x st1 → Calls Tryz.prog 56 #[.pointer (some ⟨A, 0, none⟩), d1.v] w fun e W => e = .returned (encE e2) ∧ RefAt w0 W A x st2 ∧ QF w0.heap.size A w W) :
    Calls Tryz.prog 56 #[.pointer (some ⟨A, 0, none⟩), .agg #[.int .i64 4, .int .i64 a, .slice sp sl sc, .string nm, .slice (some ⟨kb, koff, none⟩) kl kc]] w fun e W => e = .returned (encE (PA.ahead e1 e2)) ∧ RefAt w0 W A x (PA.join e1.l e2.f st2) ∧ QF w0.heap.size A w W := by
  have he := entR_of hA (.int .i64 4) (.int .i64 a) (.slice sp sl sc) (.string nm) (.slice (some ⟨kb, koff, none⟩) kl kc)
  obtain ⟨X, hX⟩ : ∃ X, (w.alloc (.cells #[.int .i64 4, .int .i64 a, .slice sp sl sc, .string nm, .slice (some ⟨kb, koff, none⟩) kl kc] 26)).alloc (.cells #[.int .u64 0, .int .u64 0, .bool false] 99) = X := ⟨_, rfl⟩
  rw [hX] at he
  obtain ⟨q0, q1, q2, q3, q4⟩ := cells_five he.box
  have hcall := hc1 X he.au
  have HE := hide he
  have hkb := cells5_lt hk0
  have HC2 := hide hc2
  have HK1 := hide hk1
  obtain ⟨y0, y1, y2, y3, y4, ev, g0, g1, g2, g3, g4⟩ := cells5_same hk0 (he.au.bel.block kb hkb)
  unfold ND.v at ev hcall
  simp only [Value.agg.injEq, Array.mk.injEq, List.cons.injEq, and_true] at ev
  obtain ⟨rfl, rfl, rfl, rfl, rfl⟩ := ev
  have es := elemSizeN
  obtain ⟨ef, el, en⟩ := e1
  obtain ⟨gf, gl, gn⟩ := e2
  have o1 := bits_or_u64_nat ef gf he1.1 he2.1
  have o2 := bits_or_u64_nat gl el he2.2 he1.2
  unfold encE at hcall
  dsimp only at hcall
  clear he hA hk0 hk1 hc1 hc2
  go_enter Tryz.func56, Tryz.ntmps56
  go_wp2_with fail
  refine hcall.mono ?_
  rintro e W1 ⟨rfl, ha1, hp1⟩
  have hB := HE.out.B
  have hAl := HE.out.al
  have z2 : w.heap.size + 2 ≤ W1.heap.size := by have := hp1.size; have := HE.out.size; omega
  have b1 := al1 W1 (.cells #[.int .u64 (ef : Int), .int .u64 (el : Int), .bool en] 99)
  have n1 := heap_alloc_new W1 (.cells #[.int .u64 (ef : Int), .int .u64 (el : Int), .bool en] 99)
  have s1 : (W1.alloc (.cells #[.int .u64 (ef : Int), .int .u64 (el : Int), .bool en] 99)).heap.size = W1.heap.size + 1 := by simp
  have m2 := (b1.block _ (by omega)).trans (hp1.at_ HE.out.box (by omega) (by decide) (by decide))
  have r2 := (HE.out.res.qf hp1 (by omega)).later b1
  have hp2 := ((QF.of HE.out.belX hB).trans hp1).trans (QF.of b1 (by omega))
  have ha2 := ha1.later b1
  have hcall2 := HC2.out _ ha2
  obtain ⟨u0, u1, u2, u3, u4, ev, i0, i1, i2, i3, i4⟩ := cells5_same HK1.out (ha2.bel.block kb hkb)
  unfold ND.v at ev hcall2
  simp only [Value.agg.injEq, Array.mk.injEq, List.cons.injEq, and_true] at ev
  obtain ⟨rfl, rfl, rfl, rfl, rfl⟩ := ev
  unfold encE at hcall2
  dsimp only at hcall2
  have HX := hide (show EP (W1.alloc (.cells #[.int .u64 (ef : Int), .int .u64 (el : Int), .bool en] 99)) W1.heap.size ⟨ef, el, en⟩ from n1)
  have HM := hide m2
  have HR2 := hide r2
  have HP2 := hide hp2
  obtain ⟨q0, q1, q2, q3, q4⟩ := cells_five m2
  clear hcall hp1 ha1 ha2 r2 m2 g0 g1 g2 g3 g4 hX b1 n1 hp2
  go_wp2_with fail
  refine hcall2.mono ?_
  rintro e W3 ⟨rfl, ha3, hp3⟩
  have z3 : W1.heap.size + 1 ≤ W3.heap.size := by have := hp3.size; omega
  have hx := HX.out.qf hp3 (by omega)
  have hr := HR2.out.qf hp3 (by omega)
  have hp4 := HP2.out.trans hp3
  have b2 := al1 W3 (.cells #[.int .u64 (gf : Int), .int .u64 (gl : Int), .bool gn] 99)
  have n2 := heap_alloc_new W3 (.cells #[.int .u64 (gf : Int), .int .u64 (gl : Int), .bool gn] 99)
  obtain ⟨x0, x1, x2, _, _, _⟩ := (hx.later b2).cells
  obtain ⟨v0, v1, v2, _, _, _⟩ := EP.cells (y := ⟨gf, gl, gn⟩) n2
  have s3 : (W3.alloc (.cells #[.int .u64 (gf : Int), .int .u64 (gl : Int), .bool gn] 99)).heap.size = W3.heap.size + 1 := by simp
  have hJ := (ha3.later b2).follow el gf he1.2 he2.1 hq hlen
  have HP3 := hide (hp4.trans (QF.of b2 (by omega)))
  have HX3 := hide (hx.later b2)
  have HG3 := hide (show EP (W3.alloc (.cells #[.int .u64 (gf : Int), .int .u64 (gl : Int), .bool gn] 99)) W3.heap.size ⟨gf, gl, gn⟩ from n2)
  have HR3 := hide (hr.later b2)
  clear hcall2 hp3 hp4 ha3 hx hr b2 n2 i0 i1 i2 i3 i4 s1
  go_wp2_with fail
  refine hJ.mono ?_
  rintro e W4 ⟨⟨u, rfl⟩, ha4, hp4⟩
  have z4 : W3.heap.size + 1 ≤ W4.heap.size := by have := hp4.size; omega
  have hx := HX3.out.qf hp4 (by omega)
  have hg := HG3.out.qf hp4 (by omega)
  have hr := HR3.out.qf hp4 (by omega)
  have hp5 := HP3.out.trans hp4
  have hin : ∀ y : PA.En, ((W4.alloc (.cells #[.int .u64 (y.f : Int), .int .u64 (y.l : Int), .bool y.n] 99)).cell? ⟨w.heap.size + 1, 0, none⟩ = some (.int .u64 0) ∧ (W4.alloc (.cells #[.int .u64 (y.f : Int), .int .u64 (y.l : Int), .bool y.n] 99)).cell? ⟨w.heap.size + 1, 1, none⟩ = some (.int .u64 0) ∧ (W4.alloc (.cells #[.int .u64 (y.f : Int), .int .u64 (y.l : Int), .bool y.n] 99)).cell? ⟨w.heap.size + 1, 2, none⟩ = some (.bool false) ∧ (W4.alloc (.cells #[.int .u64 (y.f : Int), .int .u64 (y.l : Int), .bool y.n] 99)).frozen? ⟨w.heap.size + 1, 0, none⟩ = false ∧ (W4.alloc (.cells #[.int .u64 (y.f : Int), .int .u64 (y.l : Int), .bool y.n] 99)).frozen? ⟨w.heap.size + 1, 1, none⟩ = false ∧ (W4.alloc (.cells #[.int .u64 (y.f : Int), .int .u64 (y.l : Int), .bool y.n] 99)).frozen? ⟨w.heap.size + 1, 2, none⟩ = false)
      ∧ ((W4.alloc (.cells #[.int .u64 (y.f : Int), .int .u64 (y.l : Int), .bool y.n] 99)).cell? ⟨W1.heap.size, 0, none⟩ = some (.int .u64 (ef : Int)) ∧ (W4.alloc (.cells #[.int .u64 (y.f : Int), .int .u64 (y.l : Int), .bool y.n] 99)).cell? ⟨W1.heap.size, 1, none⟩ = some (.int .u64 (el : Int)) ∧ (W4.alloc (.cells #[.int .u64 (y.f : Int), .int .u64 (y.l : Int), .bool y.n] 99)).cell? ⟨W1.heap.size, 2, none⟩ = some (.bool en))
      ∧ ((W4.alloc (.cells #[.int .u64 (y.f : Int), .int .u64 (y.l : Int), .bool y.n] 99)).cell? ⟨W3.heap.size, 0, none⟩ = some (.int .u64 (gf : Int)) ∧ (W4.alloc (.cells #[.int .u64 (y.f : Int), .int .u64 (y.l : Int), .bool y.n] 99)).cell? ⟨W3.heap.size, 1, none⟩ = some (.int .u64 (gl : Int)) ∧ (W4.alloc (.cells #[.int .u64 (y.f : Int), .int .u64 (y.l : Int), .bool y.n] 99)).cell? ⟨W3.heap.size, 2, none⟩ = some (.bool gn))
      ∧ ((W4.alloc (.cells #[.int .u64 (y.f : Int), .int .u64 (y.l : Int), .bool y.n] 99)).cell? ⟨W4.heap.size, 0, none⟩ = some (.int .u64 (y.f : Int)) ∧ (W4.alloc (.cells #[.int .u64 (y.f : Int), .int .u64 (y.l : Int), .bool y.n] 99)).cell? ⟨W4.heap.size, 1, none⟩ = some (.int .u64 (y.l : Int)) ∧ (W4.alloc (.cells #[.int .u64 (y.f : Int), .int .u64 (y.l : Int), .bool y.n] 99)).cell? ⟨W4.heap.size, 2, none⟩ = some (.bool y.n)) := fun y => by
    have b := al1 W4 (.cells #[.int .u64 (y.f : Int), .int .u64 (y.l : Int), .bool y.n] 99)
    have n := heap_alloc_new W4 (.cells #[.int .u64 (y.f : Int), .int .u64 (y.l : Int), .bool y.n] 99)
    have h1 := (hx.later b).cells
    have h2 := (hg.later b).cells
    have h3 := EP.cells (y := y) n
    exact ⟨(hr.later b).cells, ⟨h1.1, h1.2.1, h1.2.2.1⟩, ⟨h2.1, h2.2.1, h2.2.2.1⟩, ⟨h3.1, h3.2.1, h3.2.2.1⟩⟩
  have HFIN := hide (fun y : PA.En => (⟨hp5.trans (QF.of (al1 W4 (.cells #[.int .u64 (y.f : Int), .int .u64 (y.l : Int), .bool y.n] 99)) (by omega)), ha4.later (al1 W4 (.cells #[.int .u64 (y.f : Int), .int .u64 (y.l : Int), .bool y.n] 99)), hr.later (al1 W4 (.cells #[.int .u64 (y.f : Int), .int .u64 (y.l : Int), .bool y.n] 99))⟩ : QF w0.heap.size A w (W4.alloc (.cells #[.int .u64 (y.f : Int), .int .u64 (y.l : Int), .bool y.n] 99)) ∧ RefAt w0 (W4.alloc (.cells #[.int .u64 (y.f : Int), .int .u64 (y.l : Int), .bool y.n] 99)) A x (PA.join el gf st2) ∧ EP (W4.alloc (.cells #[.int .u64 (y.f : Int), .int .u64 (y.l : Int), .bool y.n] 99)) (w.heap.size + 1) zE))
  have HIN := hide hin
  obtain ⟨t0, t1, t2, _, _, _⟩ := hx.cells
  obtain ⟨c0, c1, c2, _, _, _⟩ := hg.cells
  clear hJ hp4 hp5 ha4 hx hg hr hin x0 x1 x2 v0 v1 v2 s3
  cases en <;> cases gn
  · skip
    obtain ⟨⟨p00, p01, p02, f00, f01, f02⟩, ⟨x00, x01, x02⟩, ⟨v00, v01, v02⟩, ⟨s00, s01, s02⟩⟩ := HIN.out ⟨ef, gl, false⟩
    go_wp2
    obtain ⟨HP, HA, HR⟩ := HFIN.out ⟨ef, gl, false⟩
    exact ret56 (y := ⟨ef, gl, false⟩) HP HE.out.B HR HA rfl fun W' h1 h2 => ⟨rfl, h1, h2⟩
  · skip
    obtain ⟨⟨p00, p01, p02, f00, f01, f02⟩, ⟨x00, x01, x02⟩, ⟨v00, v01, v02⟩, ⟨s00, s01, s02⟩⟩ := HIN.out ⟨ef, gl, false⟩
    obtain ⟨⟨p10, p11, p12, f10, f11, f12⟩, ⟨x10, x11, x12⟩, ⟨v10, v11, v12⟩, ⟨s10, s11, s12⟩⟩ := HIN.out ⟨ef, gl ||| el, false⟩
    go_wp2
    obtain ⟨HP, HA, HR⟩ := HFIN.out ⟨ef, gl ||| el, false⟩
    exact ret56 (y := ⟨ef, gl ||| el, false⟩) HP HE.out.B HR HA rfl fun W' h1 h2 => ⟨rfl, h1, h2⟩
  · skip
    obtain ⟨⟨p00, p01, p02, f00, f01, f02⟩, ⟨x00, x01, x02⟩, ⟨v00, v01, v02⟩, ⟨s00, s01, s02⟩⟩ := HIN.out ⟨ef, gl, false⟩
    obtain ⟨⟨p10, p11, p12, f10, f11, f12⟩, ⟨x10, x11, x12⟩, ⟨v10, v11, v12⟩, ⟨s10, s11, s12⟩⟩ := HIN.out ⟨ef ||| gf, gl, false⟩
    go_wp2
    obtain ⟨HP, HA, HR⟩ := HFIN.out ⟨ef ||| gf, gl, false⟩
    exact ret56 (y := ⟨ef ||| gf, gl, false⟩) HP HE.out.B HR HA rfl fun W' h1 h2 => ⟨rfl, h1, h2⟩
  · skip
    obtain ⟨⟨p00, p01, p02, f00, f01, f02⟩, ⟨x00, x01, x02⟩, ⟨v00, v01, v02⟩, ⟨s00, s01, s02⟩⟩ := HIN.out ⟨ef, gl, true⟩
    obtain ⟨⟨p10, p11, p12, f10, f11, f12⟩, ⟨x10, x11, x12⟩, ⟨v10, v11, v12⟩, ⟨s10, s11, s12⟩⟩ := HIN.out ⟨ef ||| gf, gl, true⟩
    obtain ⟨⟨p20, p21, p22, f20, f21, f22⟩, ⟨x20, x21, x22⟩, ⟨v20, v21, v22⟩, ⟨s20, s21, s22⟩⟩ := HIN.out ⟨ef ||| gf, gl ||| el, true⟩
    go_wp2
    obtain ⟨HP, HA, HR⟩ := HFIN.out ⟨ef ||| gf, gl ||| el, true⟩
    exact ret56 (y := ⟨ef ||| gf, gl ||| el, true⟩) HP HE.out.B HR HA rfl fun W' h1 h2 => ⟨rfl, h1, h2⟩
end Go.Proofs.YtemanednddhfaaaGreatDoor
namespace Go.Proofs.YtemanednddhfaaaGreatDoor
open Go.RowKit Go.Shelf
open E (T)
attribute [local go_sem] Oper.semAt_some
def Okn (t : T) : Prop := ∀ p ∈ E.pre t t, p.1.kind = 1 ∨ (3 ≤ p.1.kind ∧ p.1.kind ≤ 8)
theorem okn_self {t : T} (h : Okn t) : t.kind = 1 ∨ (3 ≤ t.kind ∧ t.kind ≤ 8) := h (t, t) (by rw [pre_self]; exact List.mem_cons_self)
theorem okn_kid {t : T} (h : Okn t) {x : T} (hx : x ∈ t.kids) : Okn x := fun p hp => h p (by rw [pre_self]; exact List.mem_cons_of_mem _ (List.mem_flatMap.2 ⟨x, hx, hp⟩))
def WalkOK (t : T) : Prop := ∀ (w0 w : World) (A : Nat) (x : PA.En) (st : List PA.Pl) (d : ND), TR w0 (fun _ => True) t d.v → RefAt w0 w A x st → (∀ p ∈ st, p.2 < 2 ^ st.length) → st.length + PA.ct t ≤ 60 →
  Calls Tryz.prog 56 #[.pointer (some ⟨A, 0, none⟩), d.v] w fun e W => e = .returned (encE (PA.add t st).2) ∧ RefAt w0 W A x (PA.add t st).1 ∧ QF w0.heap.size A w W
theorem or_none (y : PA.En) : PA.or y PA.none = ⟨y.f, y.l, true⟩ := by unfold PA.or PA.none; simp
theorem walk_n : ∀ (n : Nat) (t : T), SizeOf.sizeOf t < n → PA.Okt t → Okn t → WalkOK t
  | 0, _, h, _, _ => absurd h (Nat.not_lt_zero _)
  | n + 1, .mk k a s nm ks, h, ho, hkn => by
    have ih : ∀ x ∈ ks, WalkOK x := fun x hx => walk_n n x (by
      have := List.sizeOf_lt_of_mem hx
      simp at h
      omega) (PA.okt_kid ho hx) (okn_kid hkn hx)
    have ho2 : ∀ x ∈ ks, PA.Okt x := fun x hx => PA.okt_kid ho hx
    have hkk : k = 1 ∨ (3 ≤ k ∧ k ≤ 8) := okn_self hkn
    intro w0 w A x st d hT hA hq hlen
    rw [TR] at hT
    obtain ⟨sp, sc, kp, kc, e1, hr, hk1, hkr⟩ := hT
    rw [e1]
    clear e1 d
    by_cases h2 : k = 4 ∨ k = 5
    · obtain ⟨y, z, rfl⟩ : ∃ x y, ks = [x, y] := PA.kids2 ho (by simp [T.kind, E.kidsOf, h2])
      obtain ⟨b, off, v0, rfl, ht0, hc0⟩ := kr_get _ 0 hkr 0 (by simp)
      obtain ⟨b', off', v1, e', ht1, hc1⟩ := kr_get _ 0 hkr 1 (by simp)
      cases e'
      obtain ⟨d0, rfl, _⟩ := ht0.nd
      obtain ⟨d1, rfl, _⟩ := ht1.nd
      simp only [Nat.zero_add, Nat.zero_mul, Nat.add_zero, Nat.one_mul, List.getElem_cons_zero, List.getElem_cons_succ] at hc0 hc1 ht0 ht1
      have hg1 := gd_tree (ho2 y (by simp))
      have hg2 := gd_tree (ho2 z (by simp))
      rw [PA.ct_mk] at hlen
      have hk1' : k ≠ 1 := by omega
      simp only [if_neg hk1', List.map_cons, List.map_nil, List.sum_cons, List.sum_nil] at hlen
      have l1 := hg1.len st
      have l2 := hg2.len (PA.add y st).1
      have q1 := hg1.fl st hq
      rw [← l1] at q1
      have q2 := hg2.fl (PA.add y st).1 q1
      rw [← l2] at q2
      have f1 := hg1.f st
      have g1 := hg1.l st
      have f2 := hg2.f (PA.add y st).1
      have g2 := hg2.l (PA.add y st).1
      have c1 := fun w' ha' => ih y (by simp) w0 w' A x st d0 ht0 ha' hq (by omega)
      have c2 := fun w' ha' => ih z (by simp) w0 w' A x (PA.add y st).1 d1 ht1 ha' q1 (by omega)
      rw [plain2]
      rcases h2 with rfl | rfl
      · exact walk_cat a _ sp _ sc _ kc hc0 hc1 (by simp) hA ⟨PA.up f1 (by omega), PA.up g1 (by omega)⟩ ⟨PA.up f2 (by omega), PA.up g2 (by omega)⟩ q2 (by omega) c1 c2
      · exact walk_alt a _ sp _ sc _ kc hc0 hc1 (by simp) hA ⟨PA.up f1 (by omega), PA.up g1 (by omega)⟩ ⟨PA.up f2 (by omega), PA.up g2 (by omega)⟩ c1 c2
    · by_cases h1 : k = 6 ∨ k = 7 ∨ k = 8
      · obtain ⟨y, rfl⟩ : ∃ x, ks = [x] := PA.kids1 ho (by simp [T.kind, E.kidsOf, h2, h1])
        obtain ⟨b, off, v0, rfl, ht0, hc0⟩ := kr_get _ 0 hkr 0 (by simp)
        obtain ⟨d0, rfl, _⟩ := ht0.nd
        simp only [Nat.zero_mul, Nat.add_zero, List.getElem_cons_zero] at hc0 ht0
        have hg1 := gd_tree (ho2 y (by simp))
        rw [PA.ct_mk] at hlen
        have hk1' : k ≠ 1 := by omega
        simp only [if_neg hk1', List.map_cons, List.map_nil, List.sum_cons, List.sum_nil] at hlen
        have l1 := hg1.len st
        have q1 := hg1.fl st hq
        rw [← l1] at q1
        have f1 := hg1.f st
        have g1 := hg1.l st
        have hf : (PA.add y st).2.f < 2 ^ 64 := PA.up f1 (by omega)
        have hl : (PA.add y st).2.l < 2 ^ 64 := PA.up g1 (by omega)
        have c1 := fun w' ha' => ih y (by simp) w0 w' A x st d0 ht0 ha' hq (by omega)
        rw [plain1]
        rcases h1 with rfl | rfl | rfl
        · rw [show PA.step 6 s (PA.add y) PA.nil st = (PA.join (PA.add y st).2.l (PA.add y st).2.f (PA.add y st).1, PA.or (PA.add y st).2 PA.none) from rfl, or_none]
          exact walk_star a _ sp _ sc _ kc hc0 (by simp) hA hf hl q1 (by omega) c1
        · exact walk_plus a _ sp _ sc _ kc hc0 (by simp) hA hf hl q1 (by omega) c1
        · rw [show PA.step 8 s (PA.add y) PA.nil st = ((PA.add y st).1, PA.or (PA.add y st).2 PA.none) from rfl, or_none]
          exact walk_opt a _ sp _ sc _ kc hc0 (by simp) hA c1
      · obtain rfl : ks = [] := PA.kids0 ho (by simp [T.kind, E.kidsOf, h2, h1])
        rw [plain0]
        by_cases hk : k = 1
        · subst hk
          rw [PA.ct_mk] at hlen
          simp only [if_true, List.map_nil, List.sum_nil] at hlen
          exact walk_set a s _ sp kp sc _ kc hr hA (by omega)
        · have he : PA.step k s PA.nil PA.nil st = (st, PA.none) := by
            unfold PA.step
            rw [if_neg hk, if_neg (by omega), if_neg (by omega), if_neg (by omega), if_neg (by omega), if_neg (by omega)]
          rw [he]
          obtain rfl : k = 3 := by omega
          exact walk_none 3 a (by decide) _ sp kp _ sc _ kc hA
theorem walk_any {t : T} (h : PA.Okt t) (hn : Okn t) : WalkOK t := walk_n _ t (Nat.lt_succ_self _) h hn
theorem compact_nil {zs : List (List UInt8)} (h : Lib.compact zs = []) : zs = [] := by
  cases zs with
  | nil => rfl
  | cons z zs =>
    exfalso
    unfold Lib.compact Lib.compactUpTo at h
    rw [List.map_eq_nil_iff, List.filter_eq_nil_iff] at h
    exact h 0 (List.mem_range.2 (by simp)) (by simp [Lib.keeps])
theorem okn_acc {t : T} (h : PA.Acc t) : Okn t := fun p hp => by
  obtain ⟨_, h2⟩ := h.1.2 p hp
  rcases h2 with ⟨h3, _⟩ | ⟨h3, _⟩ | ⟨h3, h4, _⟩
  · exact .inl h3
  · exfalso
    have hv : E.vnk (E.pre t t) ≠ [] := by
      unfold E.vnk
      intro e
      rw [List.map_eq_nil_iff, List.filter_eq_nil_iff] at e
      exact e p hp (by simpa using h3)
    have h5 := h.2
    unfold E.nmL at h5
    have h6 := compact_nil h5
    have h7 := congrArg List.length h6
    rw [List.length_mergeSort] at h7
    exact hv (List.eq_nil_of_length_eq_zero h7)
  · exact .inr ⟨h3, h4⟩
end Go.Proofs.YtemanednddhfaaaGreatDoor
namespace Go.Proofs.YtemanednddhfaaaGreatDoor
open Go.RowKit Go.Shelf
structure Gn (w1 : World) (A : Nat) (vs vf : Value) (y : PA.En) (l11 l14 l17 : Bool) (w : World) : Prop where
  box : w.heap[A]? = some (.cells #[vs, vf, .int .u64 ((if l11 then y.f else 0 : Nat) : Int), .int .u64 ((if l14 then y.l else 0 : Nat) : Int), .bool (if l17 then y.n else false)] 49)
  os : w.os = w1.os
  tape : w.tape = w1.tape
  output : w.output = w1.output
  size : w.heap.size = w1.heap.size
  same : ∀ k, k ≠ A → w.heap[k]? = w1.heap[k]?
section
variable {w1 w : World} {A : Nat} {vs vf : Value} {y : PA.En} {l11 l14 l17 : Bool}
theorem Gn.st11 (h : Gn w1 A vs vf y l11 l14 l17 w) : Gn w1 A vs vf y true l14 l17 (w.setCell ⟨A, 2, none⟩ (.int .u64 (y.f : Int))) :=
  ⟨U.set_at (w := w) (b := A) (j := 2) (.int .u64 (y.f : Int)) h.box, h.os, h.tape, h.output, by simp [World.setCell]; exact h.size, fun k hk => (Below.heap_setCell _ _ _ _ (show k ≠ A from hk)).trans (h.same k hk)⟩
theorem Gn.st14 (h : Gn w1 A vs vf y l11 l14 l17 w) : Gn w1 A vs vf y l11 true l17 (w.setCell ⟨A, 3, none⟩ (.int .u64 (y.l : Int))) :=
  ⟨U.set_at (w := w) (b := A) (j := 3) (.int .u64 (y.l : Int)) h.box, h.os, h.tape, h.output, by simp [World.setCell]; exact h.size, fun k hk => (Below.heap_setCell _ _ _ _ (show k ≠ A from hk)).trans (h.same k hk)⟩
theorem Gn.st17 (h : Gn w1 A vs vf y l11 l14 l17 w) : Gn w1 A vs vf y l11 l14 true (w.setCell ⟨A, 4, none⟩ (.bool y.n)) :=
  ⟨U.set_at (w := w) (b := A) (j := 4) (.bool y.n) h.box, h.os, h.tape, h.output, by simp [World.setCell]; exact h.size, fun k hk => (Below.heap_setCell _ _ _ _ (show k ≠ A from hk)).trans (h.same k hk)⟩
end
theorem Gn.all {w0 w1 w : World} {A : Nat} {vs vf : Value} {y : PA.En} {qs : List (PA.Pl × Value)} (hR : RefW w0 w1 w0.heap.size A vs vf qs zE) (h : Gn w1 A vs vf y true true true w) : RefW w0 w w0.heap.size A vs vf qs y := by
  have hno : ∀ {t : TypeId} {s m : Nat} {v : Value} {zs : List Value}, w1.ownsRow w0.heap.size t s v m zs → t ≠ 49 → w.ownsRow w0.heap.size t s v m zs := fun ho ht => own_same ho fun k hk => h.same k (by
    rintro rfl
    obtain ⟨_, _, cur, hcur⟩ := own_type ho hk
    rw [hR.box] at hcur
    cases hcur
    exact ht rfl)
  have hAl := hR.le
  exact ⟨h.box, hno hR.sets (by decide), hno hR.fol (by decide), hR.set, hR.le, ⟨h.os.trans hR.old.os, h.tape.trans hR.old.tape, h.output.trans hR.old.output, by rw [h.size]; exact hR.old.size, fun k hk => (h.same k (by omega)).trans (hR.old.block k hk)⟩⟩
theorem Reg.faP {w : World} {ρ : Operand → Value} {o : Oper} {x : Operand} {b off i : Nat} (hop : o.op = .fieldAddr 99 x i) (ht : i < 3) (hx : ρ x = .pointer (some ⟨b, off, none⟩)) : (execOp ρ o).run Tryz.prog w = .ok (.value (.pointer (some ⟨b, off + i, none⟩))) w := by
  obtain ⟨dst, op, type, pos, after, guard⟩ := o
  simp only at hop
  subst hop
  obtain rfl | rfl | rfl : i = 0 ∨ i = 1 ∨ i = 2 := by omega
  all_goals simp [execOp, hx, go_sem]
theorem Reg.stB {w : World} {ρ : Operand → Value} {o : Oper} {x y : Operand} {b off : Nat} {u : Value} {v : Bool} (hop : o.op = .store 4 x y) (hx : ρ x = .pointer (some ⟨b, off, none⟩)) (hy : ρ y = .bool v) (hc : w.cell? ⟨b, off, none⟩ = some u) (hf : w.frozen? ⟨b, off, none⟩ = false) : (execOp ρ o).run Tryz.prog w = .ok .skip (w.setCell ⟨b, off, none⟩ (.bool v)) := by
  obtain ⟨dst, op, type, pos, after, guard⟩ := o
  simp only at hop
  subst hop
  have hsz := Tryz.sizeOf4 w
  have hs : (Instr.storeAt 4 (.pointer (some ⟨b, off, none⟩)) (.bool v)).run Tryz.prog w = .ok () (w.setCell ⟨b, off, none⟩ (.bool v)) := by
    simp [Instr.storeAt, Instr.sureAddr, storeVar, Sem.run_bind, hsz, hc, hf, Result.andThen, go_sem]
  simp [execOp, hx, hy, hs, Result.andThen]
def cstN (A b5 : Nat) (y : PA.En) (j : Nat) : Option Value := ([some (.pointer (some ⟨A, 0, none⟩)), some (.pointer (some ⟨A, 0, none⟩)), some (.pointer (some ⟨A, 0, none⟩)), some (.pointer (some ⟨b5, 0, none⟩)), some (.int .u64 (y.f : Int)), some (.pointer (some ⟨b5, 1, none⟩)), some (.int .u64 (y.l : Int)), some (.pointer (some ⟨b5, 2, none⟩)), some (.bool y.n), some (.pointer (some ⟨A, 0, none⟩)), some (.pointer (some ⟨A, 2, none⟩)), none, some (.pointer (some ⟨A, 0, none⟩)), some (.pointer (some ⟨A, 3, none⟩)), none, some (.pointer (some ⟨A, 0, none⟩)), some (.pointer (some ⟨A, 4, none⟩)), none] : List (Option Value)).getD j none
theorem nothN {w1 w : World} {A : Nat} {vs vf : Value} {y : PA.En} {L : Array Bool} {i : Nat} (h : Gn w1 A vs vf y (L.getD 11 false) (L.getD 14 false) (L.getD 17 false) w) (hi : i ≠ 11 ∧ i ≠ 14 ∧ i ≠ 17) : Gn w1 A vs vf y ((L.setIfInBounds i true).getD 11 false) ((L.setIfInBounds i true).getD 14 false) ((L.setIfInBounds i true).getD 17 false) w := by
  obtain ⟨h11, h14, h17⟩ := hi
  rw [getD_set_ne false h11, getD_set_ne false h14, getD_set_ne false h17]
  exact h
def opsN : Array Oper := #[{ dst := some 23, op := Go.Op.move (Go.Operand.tmp 4), type := 43, pos := "hornbookref13.go:78", after := #[], guard := none }, { dst := some 24, op := Go.Op.move (Go.Operand.tmp 4), type := 43, pos := "hornbookref13.go:78", after := #[{ on := 11, ground := Go.Ground.gcOnly Go.Departure.lateStores }], guard := none }, { dst := some 25, op := Go.Op.move (Go.Operand.tmp 4), type := 43, pos := "hornbookref13.go:78", after := #[{ on := 14, ground := Go.Ground.gcOnly Go.Departure.lateStores }], guard := none }, { dst := some 26, op := Go.Op.fieldAddr 99 (Go.Operand.tmp 5) 0, type := 0, pos := "hornbookref13.go:78", after := #[], guard := none }, { dst := some 27, op := Go.Op.load 33 (Go.Operand.tmp 26), type := 33, pos := "hornbookref13.go:78", after := #[{ on := 3, ground := Go.Ground.data }], guard := none }, { dst := some 28, op := Go.Op.fieldAddr 99 (Go.Operand.tmp 5) 1, type := 0, pos := "hornbookref13.go:78", after := #[{ on := 11, ground := Go.Ground.gcOnly Go.Departure.lateStores }], guard := none }, { dst := some 29, op := Go.Op.load 33 (Go.Operand.tmp 28), type := 33, pos := "hornbookref13.go:78", after := #[{ on := 5, ground := Go.Ground.data }, { on := 11, ground := Go.Ground.gcOnly Go.Departure.lateStores }], guard := none }, { dst := some 30, op := Go.Op.fieldAddr 99 (Go.Operand.tmp 5) 2, type := 0, pos := "hornbookref13.go:78", after := #[{ on := 14, ground := Go.Ground.gcOnly Go.Departure.lateStores }], guard := none }, { dst := some 31, op := Go.Op.load 4 (Go.Operand.tmp 30), type := 4, pos := "hornbookref13.go:78", after := #[{ on := 7, ground := Go.Ground.data }, { on := 14, ground := Go.Ground.gcOnly Go.Departure.lateStores }], guard := none }, { dst := some 32, op := Go.Op.nilCheck (Go.Operand.tmp 23), type := 0, pos := "hornbookref13.go:78", after := #[{ on := 0, ground := Go.Ground.data }, { on := 0, ground := Go.Ground.phase }, { on := 1, ground := Go.Ground.textOnly Go.Departure.lateStores }, { on := 2, ground := Go.Ground.textOnly Go.Departure.lateStores }, { on := 3, ground := Go.Ground.phase }, { on := 4, ground := Go.Ground.phase }, { on := 5, ground := Go.Ground.textOnly Go.Departure.lateStores }, { on := 6, ground := Go.Ground.textOnly Go.Departure.lateStores }, { on := 7, ground := Go.Ground.textOnly Go.Departure.lateStores }, { on := 8, ground := Go.Ground.textOnly Go.Departure.lateStores }], guard := none }, { dst := some 33, op := Go.Op.fieldAddr 49 (Go.Operand.tmp 32) 2, type := 0, pos := "hornbookref13.go:78", after := #[{ on := 9, ground := Go.Ground.data }, { on := 0, ground := Go.Ground.phase }, { on := 1, ground := Go.Ground.textOnly Go.Departure.lateStores }, { on := 2, ground := Go.Ground.textOnly Go.Departure.lateStores }, { on := 3, ground := Go.Ground.phase }, { on := 4, ground := Go.Ground.phase }, { on := 5, ground := Go.Ground.textOnly Go.Departure.lateStores }, { on := 6, ground := Go.Ground.textOnly Go.Departure.lateStores }, { on := 7, ground := Go.Ground.textOnly Go.Departure.lateStores }, { on := 8, ground := Go.Ground.textOnly Go.Departure.lateStores }], guard := none }, { dst := none, op := Go.Op.store 33 (Go.Operand.tmp 33) (Go.Operand.tmp 27), type := 0, pos := "hornbookref13.go:78", after := #[{ on := 10, ground := Go.Ground.data }, { on := 4, ground := Go.Ground.data }, { on := 0, ground := Go.Ground.phase }, { on := 1, ground := Go.Ground.textOnly Go.Departure.lateStores }, { on := 2, ground := Go.Ground.textOnly Go.Departure.lateStores }, { on := 3, ground := Go.Ground.phase }, { on := 4, ground := Go.Ground.phase }, { on := 5, ground := Go.Ground.textOnly Go.Departure.lateStores }, { on := 6, ground := Go.Ground.textOnly Go.Departure.lateStores }, { on := 7, ground := Go.Ground.textOnly Go.Departure.lateStores }, { on := 8, ground := Go.Ground.textOnly Go.Departure.lateStores }], guard := none }, { dst := some 34, op := Go.Op.nilCheck (Go.Operand.tmp 24), type := 0, pos := "hornbookref13.go:78", after := #[{ on := 1, ground := Go.Ground.data }, { on := 0, ground := Go.Ground.phase }, { on := 1, ground := Go.Ground.phase }, { on := 2, ground := Go.Ground.textOnly Go.Departure.lateStores }, { on := 3, ground := Go.Ground.phase }, { on := 4, ground := Go.Ground.phase }, { on := 5, ground := Go.Ground.phase }, { on := 6, ground := Go.Ground.phase }, { on := 7, ground := Go.Ground.textOnly Go.Departure.lateStores }, { on := 8, ground := Go.Ground.textOnly Go.Departure.lateStores }, { on := 9, ground := Go.Ground.phase }, { on := 10, ground := Go.Ground.phase }, { on := 11, ground := Go.Ground.phase }], guard := none }, { dst := some 35, op := Go.Op.fieldAddr 49 (Go.Operand.tmp 34) 3, type := 0, pos := "hornbookref13.go:78", after := #[{ on := 12, ground := Go.Ground.data }, { on := 0, ground := Go.Ground.phase }, { on := 1, ground := Go.Ground.phase }, { on := 2, ground := Go.Ground.textOnly Go.Departure.lateStores }, { on := 3, ground := Go.Ground.phase }, { on := 4, ground := Go.Ground.phase }, { on := 5, ground := Go.Ground.phase }, { on := 6, ground := Go.Ground.phase }, { on := 7, ground := Go.Ground.textOnly Go.Departure.lateStores }, { on := 8, ground := Go.Ground.textOnly Go.Departure.lateStores }, { on := 9, ground := Go.Ground.phase }, { on := 10, ground := Go.Ground.phase }, { on := 11, ground := Go.Ground.phase }], guard := none }, { dst := none, op := Go.Op.store 33 (Go.Operand.tmp 35) (Go.Operand.tmp 29), type := 0, pos := "hornbookref13.go:78", after := #[{ on := 13, ground := Go.Ground.data }, { on := 6, ground := Go.Ground.data }, { on := 11, ground := Go.Ground.chain }, { on := 0, ground := Go.Ground.phase }, { on := 1, ground := Go.Ground.phase }, { on := 2, ground := Go.Ground.textOnly Go.Departure.lateStores }, { on := 3, ground := Go.Ground.phase }, { on := 4, ground := Go.Ground.phase }, { on := 5, ground := Go.Ground.phase }, { on := 6, ground := Go.Ground.phase }, { on := 7, ground := Go.Ground.textOnly Go.Departure.lateStores }, { on := 8, ground := Go.Ground.textOnly Go.Departure.lateStores }, { on := 9, ground := Go.Ground.phase }, { on := 10, ground := Go.Ground.phase }, { on := 11, ground := Go.Ground.phase }], guard := none }, { dst := some 36, op := Go.Op.nilCheck (Go.Operand.tmp 25), type := 0, pos := "hornbookref13.go:78", after := #[{ on := 2, ground := Go.Ground.data }, { on := 0, ground := Go.Ground.phase }, { on := 1, ground := Go.Ground.phase }, { on := 2, ground := Go.Ground.phase }, { on := 3, ground := Go.Ground.phase }, { on := 4, ground := Go.Ground.phase }, { on := 5, ground := Go.Ground.phase }, { on := 6, ground := Go.Ground.phase }, { on := 7, ground := Go.Ground.phase }, { on := 8, ground := Go.Ground.phase }, { on := 9, ground := Go.Ground.phase }, { on := 10, ground := Go.Ground.phase }, { on := 11, ground := Go.Ground.phase }, { on := 12, ground := Go.Ground.phase }, { on := 13, ground := Go.Ground.phase }, { on := 14, ground := Go.Ground.phase }], guard := none }, { dst := some 37, op := Go.Op.fieldAddr 49 (Go.Operand.tmp 36) 4, type := 0, pos := "hornbookref13.go:78", after := #[{ on := 15, ground := Go.Ground.data }, { on := 0, ground := Go.Ground.phase }, { on := 1, ground := Go.Ground.phase }, { on := 2, ground := Go.Ground.phase }, { on := 3, ground := Go.Ground.phase }, { on := 4, ground := Go.Ground.phase }, { on := 5, ground := Go.Ground.phase }, { on := 6, ground := Go.Ground.phase }, { on := 7, ground := Go.Ground.phase }, { on := 8, ground := Go.Ground.phase }, { on := 9, ground := Go.Ground.phase }, { on := 10, ground := Go.Ground.phase }, { on := 11, ground := Go.Ground.phase }, { on := 12, ground := Go.Ground.phase }, { on := 13, ground := Go.Ground.phase }, { on := 14, ground := Go.Ground.phase }], guard := none }, { dst := none, op := Go.Op.store 4 (Go.Operand.tmp 37) (Go.Operand.tmp 31), type := 0, pos := "hornbookref13.go:78", after := #[{ on := 16, ground := Go.Ground.data }, { on := 8, ground := Go.Ground.data }, { on := 14, ground := Go.Ground.chain }, { on := 0, ground := Go.Ground.phase }, { on := 1, ground := Go.Ground.phase }, { on := 2, ground := Go.Ground.phase }, { on := 3, ground := Go.Ground.phase }, { on := 4, ground := Go.Ground.phase }, { on := 5, ground := Go.Ground.phase }, { on := 6, ground := Go.Ground.phase }, { on := 7, ground := Go.Ground.phase }, { on := 8, ground := Go.Ground.phase }, { on := 9, ground := Go.Ground.phase }, { on := 10, ground := Go.Ground.phase }, { on := 11, ground := Go.Ground.phase }, { on := 12, ground := Go.Ground.phase }, { on := 13, ground := Go.Ground.phase }, { on := 14, ground := Go.Ground.phase }], guard := none }]
def dsN : List (Option Nat) := [some 23, some 24, some 25, some 26, some 27, some 28, some 29, some 30, some 31, some 32, some 33, none, some 34, some 35, none, some 36, some 37, none]
set_option maxRecDepth 100000 in
set_option maxHeartbeats 4000000 in
theorem regN {Q : Exit → Act → World → Prop} (a0 : Act) {w0 w1 : World} {A b5 : Nat} {vs vf : Value} {qs : List (PA.Pl × Value)} {y : PA.En} (hsz : a0.tmps.size = 39) (h4 : a0.tmps.getD 4 undef = .pointer (some ⟨A, 0, none⟩)) (h5 : a0.tmps.getD 5 undef = .pointer (some ⟨b5, 0, none⟩))
    (hbox : EP w1 b5 y) (hR : RefW w0 w1 w0.heap.size A vs vf qs zE) (h : ∀ W, RefW w0 W w0.heap.size A vs vf qs y → Q .normal (Reg.ov a0 [(23, .pointer (some ⟨A, 0, none⟩)), (24, .pointer (some ⟨A, 0, none⟩)), (25, .pointer (some ⟨A, 0, none⟩)), (26, .pointer (some ⟨b5, 0, none⟩)), (27, .int .u64 (y.f : Int)), (28, .pointer (some ⟨b5, 1, none⟩)), (29, .int .u64 (y.l : Int)), (30, .pointer (some ⟨b5, 2, none⟩)), (31, .bool y.n), (32, .pointer (some ⟨A, 0, none⟩)), (33, .pointer (some ⟨A, 2, none⟩)), (34, .pointer (some ⟨A, 0, none⟩)), (35, .pointer (some ⟨A, 3, none⟩)), (36, .pointer (some ⟨A, 0, none⟩)), (37, .pointer (some ⟨A, 4, none⟩))]) W) :
    (Code.region 7 opsN true).wp Tryz.prog Q a0 w1 := by
  have hbA : b5 ≠ A := by
    rintro rfl
    unfold EP at hbox
    rw [hR.box] at hbox
    cases hbox
  have hn : (dsN.filterMap id).Nodup := by decide
  obtain ⟨cst, hcst⟩ : ∃ cst, cstN A b5 y = cst := ⟨_, rfl⟩
  have cput : ∀ {L : Array Bool} {f : Nat → Value} (i : Nat) (v : Value), (∀ j c, cst j = some c → L.getD j false = true → f j = c) → (∀ c, cst i = some c → v = c) → ∀ j c, cst j = some c → (L.setIfInBounds i true).getD j false = true → Iv.upd f i v j = c := by
    intro L f i v h1 h2 j c hj hl
    unfold Iv.upd
    by_cases e : j = i
    · subst e; rw [if_pos rfl]; exact h2 c hj
    · rw [if_neg e]
      rw [getD_set_ne false (Ne.symm e)] at hl
      exact h1 j c hj hl
  have cskip : ∀ {L : Array Bool} {f : Nat → Value} (i : Nat), (∀ j c, cst j = some c → L.getD j false = true → f j = c) → cst i = none → ∀ j c, cst j = some c → (L.setIfInBounds i true).getD j false = true → f j = c := by
    intro L f i h1 h2 j c hj hl
    have e : i ≠ j := by rintro rfl; rw [h2] at hj; cases hj
    rw [getD_set_ne false e] at hl
    exact h1 j c hj hl
  refine Iv.start (fun L a w => L.size = 18 ∧ ∃ f, Iv.Sl a0 dsN L f a ∧ (∀ j c, cst j = some c → L.getD j false = true → f j = c) ∧ Gn w1 A vs vf y (L.getD 11 false) (L.getD 14 false) (L.getD 17 false) w) (by kernel_rfl) ?step (by kernel_rfl) (fun L a w hi => hi.1) ?done ⟨rfl, fun _ => undef, Iv.Sl.start _ _ _ _, fun j c _ hl => ?z, ⟨hR.box, rfl, rfl, rfl, rfl, fun _ _ => rfl⟩⟩
  case z =>
    rw [Array.getD_eq_getD_getElem?, Array.getElem?_replicate] at hl
    split at hl <;> cases hl
  case step =>
    rintro L a w i ⟨hL, f, hS, hC, hF⟩ hi
    obtain ⟨hun, o, ho, hall⟩ := mem_ready.1 hi
    have hlt : i < 18 := (Array.getElem?_eq_some_iff.1 ho).1
    have hx4 : a.tmps.getD 4 undef = .pointer (some ⟨A, 0, none⟩) := (hS.out 4 (by decide)).trans h4
    have hx5 : a.tmps.getD 5 undef = .pointer (some ⟨b5, 0, none⟩) := (hS.out 5 (by decide)).trans h5
    have hbw : EP w b5 y := (hF.same b5 hbA).trans hbox
    have hf : ∀ (j d : Nat) (c : Value), dsN[j]? = some (some d) → cstN A b5 y j = some c → L.getD j false = true → a.tmps.getD d undef = c := fun j d c h1 h2 h3 => (hS.inn j d h1 h3).trans (hC j c (by rw [← hcst]; exact h2) h3)
    clear hi hun
    match i, hlt with
    | 0, _ =>
      obtain rfl := Option.some.inj ho
      refine Iv.val rfl rfl (w' := w) (U.Reg.mv rfl hx4) ⟨by rw [Array.size_setIfInBounds]; exact hL, _, hS.put hn (i := 0) (d := 23) rfl (by rw [hsz]; decide) _, cput 0 _ hC (fun c hc => by rw [← hcst] at hc; exact Option.some.inj hc), ?_⟩
      exact nothN hF (show 0 ≠ 11 ∧ 0 ≠ 14 ∧ 0 ≠ 17 by decide)
    | 1, _ =>
      obtain rfl := Option.some.inj ho
      refine Iv.val rfl rfl (w' := w) (U.Reg.mv rfl hx4) ⟨by rw [Array.size_setIfInBounds]; exact hL, _, hS.put hn (i := 1) (d := 24) rfl (by rw [hsz]; decide) _, cput 1 _ hC (fun c hc => by rw [← hcst] at hc; exact Option.some.inj hc), ?_⟩
      exact nothN hF (show 1 ≠ 11 ∧ 1 ≠ 14 ∧ 1 ≠ 17 by decide)
    | 2, _ =>
      obtain rfl := Option.some.inj ho
      refine Iv.val rfl rfl (w' := w) (U.Reg.mv rfl hx4) ⟨by rw [Array.size_setIfInBounds]; exact hL, _, hS.put hn (i := 2) (d := 25) rfl (by rw [hsz]; decide) _, cput 2 _ hC (fun c hc => by rw [← hcst] at hc; exact Option.some.inj hc), ?_⟩
      exact nothN hF (show 2 ≠ 11 ∧ 2 ≠ 14 ∧ 2 ≠ 17 by decide)
    | 3, _ =>
      obtain rfl := Option.some.inj ho
      refine Iv.val rfl rfl (w' := w) (Reg.faP rfl (by decide) hx5) ⟨by rw [Array.size_setIfInBounds]; exact hL, _, hS.put hn (i := 3) (d := 26) rfl (by rw [hsz]; decide) _, cput 3 _ hC (fun c hc => by rw [← hcst] at hc; exact Option.some.inj hc), ?_⟩
      exact nothN hF (show 3 ≠ 11 ∧ 3 ≠ 14 ∧ 3 ≠ 17 by decide)
    | 4, _ =>
      obtain rfl := Option.some.inj ho
      refine Iv.val rfl rfl (w' := w) (U.Reg.ld1 rfl (hf 3 26 _ rfl rfl (hall ⟨3, .data⟩ (Array.mem_of_getElem? (i := 0) rfl) rfl)) hbw.cells.1 (Tryz.isAgg33 _)) ⟨by rw [Array.size_setIfInBounds]; exact hL, _, hS.put hn (i := 4) (d := 27) rfl (by rw [hsz]; decide) _, cput 4 _ hC (fun c hc => by rw [← hcst] at hc; exact Option.some.inj hc), ?_⟩
      exact nothN hF (show 4 ≠ 11 ∧ 4 ≠ 14 ∧ 4 ≠ 17 by decide)
    | 5, _ =>
      obtain rfl := Option.some.inj ho
      refine Iv.val rfl rfl (w' := w) (Reg.faP rfl (by decide) hx5) ⟨by rw [Array.size_setIfInBounds]; exact hL, _, hS.put hn (i := 5) (d := 28) rfl (by rw [hsz]; decide) _, cput 5 _ hC (fun c hc => by rw [← hcst] at hc; exact Option.some.inj hc), ?_⟩
      exact nothN hF (show 5 ≠ 11 ∧ 5 ≠ 14 ∧ 5 ≠ 17 by decide)
    | 6, _ =>
      obtain rfl := Option.some.inj ho
      refine Iv.val rfl rfl (w' := w) (U.Reg.ld1 rfl (hf 5 28 _ rfl rfl (hall ⟨5, .data⟩ (Array.mem_of_getElem? (i := 0) rfl) rfl)) hbw.cells.2.1 (Tryz.isAgg33 _)) ⟨by rw [Array.size_setIfInBounds]; exact hL, _, hS.put hn (i := 6) (d := 29) rfl (by rw [hsz]; decide) _, cput 6 _ hC (fun c hc => by rw [← hcst] at hc; exact Option.some.inj hc), ?_⟩
      exact nothN hF (show 6 ≠ 11 ∧ 6 ≠ 14 ∧ 6 ≠ 17 by decide)
    | 7, _ =>
      obtain rfl := Option.some.inj ho
      refine Iv.val rfl rfl (w' := w) (Reg.faP rfl (by decide) hx5) ⟨by rw [Array.size_setIfInBounds]; exact hL, _, hS.put hn (i := 7) (d := 30) rfl (by rw [hsz]; decide) _, cput 7 _ hC (fun c hc => by rw [← hcst] at hc; exact Option.some.inj hc), ?_⟩
      exact nothN hF (show 7 ≠ 11 ∧ 7 ≠ 14 ∧ 7 ≠ 17 by decide)
    | 8, _ =>
      obtain rfl := Option.some.inj ho
      refine Iv.val rfl rfl (w' := w) (U.Reg.ld1 rfl (hf 7 30 _ rfl rfl (hall ⟨7, .data⟩ (Array.mem_of_getElem? (i := 0) rfl) rfl)) hbw.cells.2.2.1 (Tryz.isAgg4 _)) ⟨by rw [Array.size_setIfInBounds]; exact hL, _, hS.put hn (i := 8) (d := 31) rfl (by rw [hsz]; decide) _, cput 8 _ hC (fun c hc => by rw [← hcst] at hc; exact Option.some.inj hc), ?_⟩
      exact nothN hF (show 8 ≠ 11 ∧ 8 ≠ 14 ∧ 8 ≠ 17 by decide)
    | 9, _ =>
      obtain rfl := Option.some.inj ho
      refine Iv.val rfl rfl (w' := w) (U.Reg.nc rfl (hf 0 23 _ rfl rfl (hall ⟨0, .data⟩ (Array.mem_of_getElem? (i := 0) rfl) rfl))) ⟨by rw [Array.size_setIfInBounds]; exact hL, _, hS.put hn (i := 9) (d := 32) rfl (by rw [hsz]; decide) _, cput 9 _ hC (fun c hc => by rw [← hcst] at hc; exact Option.some.inj hc), ?_⟩
      exact nothN hF (show 9 ≠ 11 ∧ 9 ≠ 14 ∧ 9 ≠ 17 by decide)
    | 10, _ =>
      obtain rfl := Option.some.inj ho
      refine Iv.val rfl rfl (w' := w) (Reg.faH rfl (by decide) (hf 9 32 _ rfl rfl (hall ⟨9, .data⟩ (Array.mem_of_getElem? (i := 0) rfl) rfl))) ⟨by rw [Array.size_setIfInBounds]; exact hL, _, hS.put hn (i := 10) (d := 33) rfl (by rw [hsz]; decide) _, cput 10 _ hC (fun c hc => by rw [← hcst] at hc; exact Option.some.inj hc), ?_⟩
      exact nothN hF (show 10 ≠ 11 ∧ 10 ≠ 14 ∧ 10 ≠ 17 by decide)
    | 11, _ =>
      obtain rfl := Option.some.inj ho
      have k1 : L.getD 10 false = true := (hall ⟨10, .data⟩ (Array.mem_of_getElem? (i := 0) rfl) rfl)
      have k2 : L.getD 4 false = true := (hall ⟨4, .data⟩ (Array.mem_of_getElem? (i := 1) rfl) rfl)
      refine Iv.skip rfl rfl (U.Reg.st1 rfl (hf 10 33 _ rfl rfl k1) (hf 4 27 _ rfl rfl k2) (cells_five hF.box).2.2.1 (U.frozen_at hF.box) (.inl ⟨_, _, rfl⟩) (Tryz.sizeOf33 _)) ⟨by rw [Array.size_setIfInBounds]; exact hL, _, hS.skip (i := 11) rfl, cskip 11 hC (by rw [← hcst]; rfl), ?_⟩
      have := hF.st11
      simpa only [setL (show 11 < L.size by omega), getD_set_ne false (show 11 ≠ 14 by decide), getD_set_ne false (show 11 ≠ 17 by decide)] using this
    | 12, _ =>
      obtain rfl := Option.some.inj ho
      refine Iv.val rfl rfl (w' := w) (U.Reg.nc rfl (hf 1 24 _ rfl rfl (hall ⟨1, .data⟩ (Array.mem_of_getElem? (i := 0) rfl) rfl))) ⟨by rw [Array.size_setIfInBounds]; exact hL, _, hS.put hn (i := 12) (d := 34) rfl (by rw [hsz]; decide) _, cput 12 _ hC (fun c hc => by rw [← hcst] at hc; exact Option.some.inj hc), ?_⟩
      exact nothN hF (show 12 ≠ 11 ∧ 12 ≠ 14 ∧ 12 ≠ 17 by decide)
    | 13, _ =>
      obtain rfl := Option.some.inj ho
      refine Iv.val rfl rfl (w' := w) (Reg.faH rfl (by decide) (hf 12 34 _ rfl rfl (hall ⟨12, .data⟩ (Array.mem_of_getElem? (i := 0) rfl) rfl))) ⟨by rw [Array.size_setIfInBounds]; exact hL, _, hS.put hn (i := 13) (d := 35) rfl (by rw [hsz]; decide) _, cput 13 _ hC (fun c hc => by rw [← hcst] at hc; exact Option.some.inj hc), ?_⟩
      exact nothN hF (show 13 ≠ 11 ∧ 13 ≠ 14 ∧ 13 ≠ 17 by decide)
    | 14, _ =>
      obtain rfl := Option.some.inj ho
      have k1 : L.getD 13 false = true := (hall ⟨13, .data⟩ (Array.mem_of_getElem? (i := 0) rfl) rfl)
      have k2 : L.getD 6 false = true := (hall ⟨6, .data⟩ (Array.mem_of_getElem? (i := 1) rfl) rfl)
      refine Iv.skip rfl rfl (U.Reg.st1 rfl (hf 13 35 _ rfl rfl k1) (hf 6 29 _ rfl rfl k2) (cells_five hF.box).2.2.2.1 (U.frozen_at hF.box) (.inl ⟨_, _, rfl⟩) (Tryz.sizeOf33 _)) ⟨by rw [Array.size_setIfInBounds]; exact hL, _, hS.skip (i := 14) rfl, cskip 14 hC (by rw [← hcst]; rfl), ?_⟩
      have := hF.st14
      simpa only [setL (show 14 < L.size by omega), getD_set_ne false (show 14 ≠ 11 by decide), getD_set_ne false (show 14 ≠ 17 by decide)] using this
    | 15, _ =>
      obtain rfl := Option.some.inj ho
      refine Iv.val rfl rfl (w' := w) (U.Reg.nc rfl (hf 2 25 _ rfl rfl (hall ⟨2, .data⟩ (Array.mem_of_getElem? (i := 0) rfl) rfl))) ⟨by rw [Array.size_setIfInBounds]; exact hL, _, hS.put hn (i := 15) (d := 36) rfl (by rw [hsz]; decide) _, cput 15 _ hC (fun c hc => by rw [← hcst] at hc; exact Option.some.inj hc), ?_⟩
      exact nothN hF (show 15 ≠ 11 ∧ 15 ≠ 14 ∧ 15 ≠ 17 by decide)
    | 16, _ =>
      obtain rfl := Option.some.inj ho
      refine Iv.val rfl rfl (w' := w) (Reg.faH rfl (by decide) (hf 15 36 _ rfl rfl (hall ⟨15, .data⟩ (Array.mem_of_getElem? (i := 0) rfl) rfl))) ⟨by rw [Array.size_setIfInBounds]; exact hL, _, hS.put hn (i := 16) (d := 37) rfl (by rw [hsz]; decide) _, cput 16 _ hC (fun c hc => by rw [← hcst] at hc; exact Option.some.inj hc), ?_⟩
      exact nothN hF (show 16 ≠ 11 ∧ 16 ≠ 14 ∧ 16 ≠ 17 by decide)
    | 17, _ =>
      obtain rfl := Option.some.inj ho
      have k1 : L.getD 16 false = true := (hall ⟨16, .data⟩ (Array.mem_of_getElem? (i := 0) rfl) rfl)
      have k2 : L.getD 8 false = true := (hall ⟨8, .data⟩ (Array.mem_of_getElem? (i := 1) rfl) rfl)
      refine Iv.skip rfl rfl (Reg.stB rfl (hf 16 37 _ rfl rfl k1) (hf 8 31 _ rfl rfl k2) (cells_five hF.box).2.2.2.2 (U.frozen_at hF.box)) ⟨by rw [Array.size_setIfInBounds]; exact hL, _, hS.skip (i := 17) rfl, cskip 17 hC (by rw [← hcst]; rfl), ?_⟩
      have := hF.st17
      simpa only [setL (show 17 < L.size by omega), getD_set_ne false (show 17 ≠ 11 by decide), getD_set_ne false (show 17 ≠ 14 by decide)] using this
  case done =>
    rintro L a w ⟨hL, f, hS, hC, hF⟩ hd
    have hall : ∀ i, i < 18 → L.getD i false = true := hd
    simp only [hall 11 (by decide), hall 14 (by decide), hall 17 (by decide)] at hF
    rw [hS.lit [(23, .pointer (some ⟨A, 0, none⟩)), (24, .pointer (some ⟨A, 0, none⟩)), (25, .pointer (some ⟨A, 0, none⟩)), (26, .pointer (some ⟨b5, 0, none⟩)), (27, .int .u64 (y.f : Int)), (28, .pointer (some ⟨b5, 1, none⟩)), (29, .int .u64 (y.l : Int)), (30, .pointer (some ⟨b5, 2, none⟩)), (31, .bool y.n), (32, .pointer (some ⟨A, 0, none⟩)), (33, .pointer (some ⟨A, 2, none⟩)), (34, .pointer (some ⟨A, 0, none⟩)), (35, .pointer (some ⟨A, 3, none⟩)), (36, .pointer (some ⟨A, 0, none⟩)), (37, .pointer (some ⟨A, 4, none⟩))] (by simp only [Reg.inB, hsz]; rfl) ?_ ?_]
    · exact h w (Gn.all hR hF)
    · intro p hp
      simp only [List.mem_cons, List.not_mem_nil, or_false] at hp
      rcases hp with rfl | rfl | rfl | rfl | rfl | rfl | rfl | rfl | rfl | rfl | rfl | rfl | rfl | rfl | rfl
      · exact (hS.inn 0 23 rfl (hall 0 (by decide))).trans (hC 0 _ (by rw [← hcst]; rfl) (hall 0 (by decide)))
      · exact (hS.inn 1 24 rfl (hall 1 (by decide))).trans (hC 1 _ (by rw [← hcst]; rfl) (hall 1 (by decide)))
      · exact (hS.inn 2 25 rfl (hall 2 (by decide))).trans (hC 2 _ (by rw [← hcst]; rfl) (hall 2 (by decide)))
      · exact (hS.inn 3 26 rfl (hall 3 (by decide))).trans (hC 3 _ (by rw [← hcst]; rfl) (hall 3 (by decide)))
      · exact (hS.inn 4 27 rfl (hall 4 (by decide))).trans (hC 4 _ (by rw [← hcst]; rfl) (hall 4 (by decide)))
      · exact (hS.inn 5 28 rfl (hall 5 (by decide))).trans (hC 5 _ (by rw [← hcst]; rfl) (hall 5 (by decide)))
      · exact (hS.inn 6 29 rfl (hall 6 (by decide))).trans (hC 6 _ (by rw [← hcst]; rfl) (hall 6 (by decide)))
      · exact (hS.inn 7 30 rfl (hall 7 (by decide))).trans (hC 7 _ (by rw [← hcst]; rfl) (hall 7 (by decide)))
      · exact (hS.inn 8 31 rfl (hall 8 (by decide))).trans (hC 8 _ (by rw [← hcst]; rfl) (hall 8 (by decide)))
      · exact (hS.inn 9 32 rfl (hall 9 (by decide))).trans (hC 9 _ (by rw [← hcst]; rfl) (hall 9 (by decide)))
      · exact (hS.inn 10 33 rfl (hall 10 (by decide))).trans (hC 10 _ (by rw [← hcst]; rfl) (hall 10 (by decide)))
      · exact (hS.inn 12 34 rfl (hall 12 (by decide))).trans (hC 12 _ (by rw [← hcst]; rfl) (hall 12 (by decide)))
      · exact (hS.inn 13 35 rfl (hall 13 (by decide))).trans (hC 13 _ (by rw [← hcst]; rfl) (hall 13 (by decide)))
      · exact (hS.inn 15 36 rfl (hall 15 (by decide))).trans (hC 15 _ (by rw [← hcst]; rfl) (hall 15 (by decide)))
      · exact (hS.inn 16 37 rfl (hall 16 (by decide))).trans (hC 16 _ (by rw [← hcst]; rfl) (hall 16 (by decide)))
    · intro d hd hm
      simp only [dsN, List.mem_cons, Option.some.injEq, List.not_mem_nil, reduceCtorEq, or_false, false_or] at hm
      simp only [List.mem_cons, List.not_mem_nil, or_false, forall_eq_or_imp, forall_eq] at hd
      omega
end Go.Proofs.YtemanednddhfaaaGreatDoor
namespace Go.Proofs.YtemanednddhfaaaGreatDoor
open Go.RowKit Go.Shelf
open E (T)
attribute [local go_sem] Oper.semAt_some
theorem plN_cnt (ps : List (T × T)) : plN ps = E.cnt ps := (List.countP_eq_length_filter).symm
def AnsZ (t : T) (w : World) (e : Ending) (W : World) : Prop :=
  Below w.heap.size w W ∧ ((¬ PA.Acc t ∧ e = .returned (.tuple #[.pointer none, .int .i64 70])) ∨ (PA.Acc t ∧ 60 < PA.ct t ∧ e = .returned (.tuple #[.pointer none, .int .i64 72])) ∨
    (PA.Acc t ∧ PA.ct t ≤ 60 ∧ ∃ A, e = .returned (.tuple #[.pointer (some ⟨A, 0, none⟩), .int .i64 0]) ∧ RefAt w W A (PA.auto t).w (PA.auto t).pl))
set_option maxRecDepth 100000 in
set_option maxHeartbeats 4000000 in
theorem newR_any (t : T) (hF : InT t) (d : ND) (w : World) (hT : TR w (fun _ => True) t d.v) (hps : (E.pre t t).length ≤ 1000000) : Calls Tryz.prog 21 #[d.v] w (AnsZ t w) := by
  have b1 := al1 w (.cells #[.int .i64 d.k, .int .i64 d.a, .slice d.sp d.sl d.sc, .string d.n, .slice d.kp d.kl d.kc] 26)
  have n1 := heap_alloc_new w (.cells #[.int .i64 d.k, .int .i64 d.a, .slice d.sp d.sl d.sc, .string d.n, .slice d.kp d.kl d.kc] 26)
  have s1 : (w.alloc (.cells #[.int .i64 d.k, .int .i64 d.a, .slice d.sp d.sl d.sc, .string d.n, .slice d.kp d.kl d.kc] 26)).heap.size = w.heap.size + 1 := by simp
  obtain ⟨X, hX⟩ : ∃ X, w.alloc (.cells #[.int .i64 d.k, .int .i64 d.a, .slice d.sp d.sl d.sc, .string d.n, .slice d.kp d.kl d.kc] 26) = X := ⟨_, rfl⟩
  rw [hX] at b1 n1 s1
  obtain ⟨q0, q1, q2, q3, q4⟩ := cells_five n1
  have hlat : ∀ W, Below w.heap.size w W → TR W (fun _ => True) t d.v := fun W hb => TR.later (fun k hk => hb.block k hk) _ hT
  have hIs := isR_any t hF d X (hlat X b1)
  have HLAT := hide hlat
  have HT := hide hT
  unfold ND.v at hIs ⊢
  clear hlat hT
  go_enter Tryz.func21, Tryz.ntmps21
  go_wp2_with fail
  refine hIs.mono ?_
  rintro e W1 ⟨⟨b, rfl, hbI⟩, hb1⟩
  have B1 := nx b1 hb1
  have m1 := (hb1.block _ (by omega)).trans n1
  have z1 : w.heap.size + 1 ≤ W1.heap.size := by have := hb1.size; omega
  have HBI := hide hbI
  clear hIs hb1 hbI q0 q1 q2 q3 q4 n1 hX b1 s1
  cases b with
  | false =>
    have hno : ¬ PA.Acc t := fun h => by have := HBI.out.2 h.1; cases this
    have HNO := hide hno
    clear hno
    go_wp2
    exact bodyPost_ret (v := .tuple #[.pointer none, .int .i64 70]) (by simp [results, Tryz.results21, go_sem]) rfl ⟨B1, .inl ⟨HNO.out, rfl⟩⟩
  | true =>
    have hI := HBI.out.1 rfl
    have hN := namesR_any t hps (PA.names_of hI) d W1 (HLAT.out W1 B1)
    obtain ⟨q0, q1, q2, q3, q4⟩ := cells_five m1
    have HI := hide hI
    unfold ND.v at hN
    clear hI HBI
    go_wp2_with fail
    refine hN.mono ?_
    rintro e W2 ⟨u, rfl, ho, hb2⟩
    obtain ⟨ao, cN, rfl⟩ := ho.rd'
    have B2 := nx B1 hb2
    have m2 := (hb2.block _ (Array.getElem?_eq_some_iff.1 m1).1).trans m1
    have z2 : w.heap.size + 1 ≤ W2.heap.size := Nat.le_trans z1 hb2.size
    clear hN ho hb2 m1 z1 q0 q1 q2 q3 q4 B1
    by_cases hl : 0 < (E.nmL t).length
    · have HNO : Hid (¬ PA.Acc t) := hide (fun h => by rw [h.2] at hl; simp at hl)
      go_wp2
      exact bodyPost_ret (v := .tuple #[.pointer none, .int .i64 70]) (by simp [results, Tryz.results21, go_sem]) rfl ⟨B2, .inl ⟨HNO.out, rfl⟩⟩
    · have HAC : Hid (PA.Acc t) := hide ⟨HI.out, List.eq_nil_of_length_eq_zero (by omega)⟩
      have hP := placesR_any t hps d W2 (HLAT.out W2 B2)
      rw [plN_cnt] at hP
      obtain ⟨q0, q1, q2, q3, q4⟩ := cells_five m2
      have hle : E.cnt (E.pre t t) ≤ 1000000 := Nat.le_trans (E.cnt_le _) hps
      have HCT : Hid (PA.ct t = E.cnt (E.pre t t)) := rfl
      generalize E.cnt (E.pre t t) = ct at *
      unfold ND.v at hP
      go_wp2_with fail
      refine hP.mono ?_
      rintro e W3 ⟨rfl, hb3⟩
      have B3 := nx B2 hb3
      have m3 := (hb3.block _ (Array.getElem?_eq_some_iff.1 m2).1).trans m2
      have z3 : w.heap.size + 1 ≤ W3.heap.size := Nat.le_trans z2 hb3.size
      clear hP hb3 m2 z2 q0 q1 q2 q3 q4 B2 hl
      by_cases hc : 60 < ct
      · have HC := hide hc
        go_wp2
        exact bodyPost_ret (v := .tuple #[.pointer none, .int .i64 72]) (by simp [results, Tryz.results21, go_sem]) rfl ⟨B3, .inr (.inl ⟨HAC.out, by rw [HCT.out]; exact HC.out, rfl⟩)⟩
      · have HC : Hid (PA.ct t ≤ 60) := hide (by rw [HCT.out]; omega)
        have a4 := al1 W3 (.cells #[.slice none 0 0, .slice none 0 0, .int .u64 0, .int .u64 0, .bool false] 49)
        have n4 := heap_alloc_new W3 (.cells #[.slice none 0 0, .slice none 0 0, .int .u64 0, .int .u64 0, .bool false] 49)
        have m4 := (a4.block _ (by omega)).trans m3
        have B4 := nx B3 a4
        have hA : RefAt w (W3.alloc (.cells #[.slice none 0 0, .slice none 0 0, .int .u64 0, .int .u64 0, .bool false] 49)) W3.heap.size zE [] := ⟨.slice none 0 0, .slice none 0 0, [], rfl, n4, World.ownsRow_nil _ _ _ _, World.ownsRow_nil _ _ _ _, fun q hq => (by cases hq), by omega, B4⟩
        obtain ⟨X4, hX4⟩ : ∃ X4, W3.alloc (.cells #[.slice none 0 0, .slice none 0 0, .int .u64 0, .int .u64 0, .bool false] 49) = X4 := ⟨_, rfl⟩
        rw [hX4] at hA m4 B4
        have hcall := walk_any (PA.okt_of HI.out) (okn_acc HAC.out) w X4 W3.heap.size zE [] d HT.out hA (fun p hp => by cases hp) (by simpa using HC.out)
        obtain ⟨q0, q1, q2, q3, q4⟩ := cells_five m4
        have HAU : Hid (PA.add t [] = ((PA.auto t).pl, (PA.auto t).w)) := rfl
        rw [HAU.out] at hcall
        obtain ⟨⟨pl, f, l, nu⟩, hau⟩ : ∃ au, PA.auto t = au := ⟨_, rfl⟩
        rw [hau] at hcall
        have HAE := hide hau
        clear hau
        unfold ND.v encE at hcall
        dsimp only at hcall
        clear m3 B3 a4 n4 hA
        go_wp2_with fail
        refine hcall.mono ?_
        rintro e W5 ⟨rfl, hA5, hp5⟩
        have a6 := al1 W5 (.cells #[.int .u64 (f : Int), .int .u64 (l : Int), .bool nu] 99)
        have n6 := heap_alloc_new W5 (.cells #[.int .u64 (f : Int), .int .u64 (l : Int), .bool nu] 99)
        obtain ⟨vs, vf, qs, hqs, hR⟩ := hA5.later a6
        have HQ := hide hqs
        clear hcall hA5 hp5 hqs q0 q1 q2 q3 q4 hX4 m4 B4 a6
        go_wp2
        refine regN (y := ⟨f, l, nu⟩) _ rfl rfl rfl n6 hR ?_
        intro W hRW
        simp only [Reg.ov, Act.put, List.setIfInBounds_toArray, List.set_cons_succ, List.set_cons_zero]
        go_wp2
        exact bodyPost_ret (v := .tuple #[.pointer (some ⟨W3.heap.size, 0, none⟩), .int .i64 0]) (by simp [results, Tryz.results21, go_sem]) rfl ⟨hRW.old, .inr (.inr ⟨HAC.out, HC.out, W3.heap.size, rfl, by rw [HAE.out]; exact ⟨vs, vf, qs, HQ.out, hRW⟩⟩)⟩
end Go.Proofs.YtemanednddhfaaaGreatDoor
namespace Go.Proofs.YtemanednddhfaaaGreatDoor
open Go.RowKit Go.Shelf
open E (T)
attribute [local go_sem] Oper.semAt_some
open U in
theorem told_same {xs : List U.S.R} {e : Ending} (h : U.Told (xs = xs) e) : e = .returned (.bool true) := by
  obtain ⟨b, rfl, hb⟩ := h
  rw [hb.2 rfl]
theorem cell_keep {w w' : World} {b j : Nat} {v : Value} {n : Nat} (hb : Below n w w') (h : w.cell? ⟨b, j, none⟩ = some v) (hn : b < n) : w'.cell? ⟨b, j, none⟩ = some v := (World.cell?_of_block (w := w) (a := ⟨b, j, none⟩) (hb.block b hn)).trans h
theorem Reg.neS {w : World} {ρ : Operand → Value} {o : Oper} {t t' : TypeId} {x y : Operand} {k : IntKind} {m : Int} (hop : o.op = .binOp .neq t x y t') (hx : ρ x = .int k m) (hy : ρ y = .int k m) : (execOp ρ o).run Tryz.prog w = .ok (.value (.bool false)) w := by
  obtain ⟨dst, op, type, pos, after, guard⟩ := o
  simp only at hop
  subst hop
  simp [execOp, hx, hy, eqGuard, go_sem]
theorem blD (w : World) : Below w.heap.size w w.drew := ⟨rfl, rfl, rfl, Nat.le_refl _, fun _ _ => rfl⟩
theorem Reg.neT {w : World} {ρ : Operand → Value} {o : Oper} {x y : Operand} {m : Bool} (hop : o.op = .binOp .neq 4 x y 4) (hx : ρ x = .bool m) (hy : ρ y = .bool m) : (execOp ρ o).run Tryz.prog w = .ok (.value (.bool false)) w := by
  obtain ⟨dst, op, type, pos, after, guard⟩ := o
  simp only at hop
  subst hop
  cases m
  · simp only [execOp, hx, hy]
    kernel_rfl
  · simp only [execOp, hx, hy]
    kernel_rfl
theorem Reg.lenS {w : World} {ρ : Operand → Value} {o : Oper} {x : Operand} {a : Option Addr} {n c : Nat} (hop : o.op = .call { callee := .builtin .len, args := #[x], argTypes := #[46] }) (hx : ρ x = .slice a n c) : (execOp ρ o).run Tryz.prog w = .ok (.value (.int .i64 (n : Int))) w := by
  obtain ⟨dst, op, type, pos, after, guard⟩ := o
  simp only at hop
  subst hop
  simp [hx, go_sem]
theorem elemSize46 (w : World) : (sizeOf (Tryz.prog.elem 46)).run Tryz.prog w = .ok 1 w := by kernel_rfl
section
variable {w0 w W : World} {A B : Nat} {a : PA.Au}
theorem RefAt.accept (h : RefAt w0 w A a.w a.pl) (hg : PA.Good a) (s : Nat) (hs : s < 2 ^ 64) : Calls Tryz.prog 25 #[.pointer (some ⟨A, 0, none⟩), .int .u64 (s : Int)] w fun e W => e = .returned (.bool (PA.acc a s)) ∧ W = w := by
  obtain ⟨_, _, _, _, h⟩ := h
  have hl := hg.len
  exact refAcc_any h (PA.up hg.l (by omega)) s hs
theorem RefAt.step (h : RefAt w0 w A a.w a.pl) (hg : PA.Good a) (s : Nat) (hs : s < 2 ^ 64) (r : Int) : Calls Tryz.prog 24 #[.pointer (some ⟨A, 0, none⟩), .int .u64 (s : Int), .int .i32 r] w fun e W => e = .returned (.int .u64 (PA.stp a s r : Int)) ∧ Below w.heap.size w W := by
  obtain ⟨_, _, qs, hq, h⟩ := h
  have hl := hg.len
  have hle : qs.length = a.pl.length := by rw [← hq, List.length_map]
  have := refStep_any h (by omega) (fun q hq' => PA.up (hg.fl q.1 (by rw [← hq]; exact List.mem_map_of_mem hq')) (by omega)) (PA.up hg.f (by omega)) (fun q hq' => by have := hg.set q.1 (by rw [← hq]; exact List.mem_map_of_mem hq'); omega) s hs r
  rw [hq] at this
  exact this
theorem AutoAt.set (h : AutoAt w B A a.w a.pl) (hg : PA.Good a) (i : Int) : Calls Tryz.prog 23 #[.pointer (some ⟨A, 0, none⟩), .int .i64 i] w fun e w' =>
    (∃ ao c, e = .returned (.slice ao (setI a.pl i).length c) ∧ U.RdR w' ao (setI a.pl i)) ∧ Below w.heap.size w w' := by
  obtain ⟨_, qs, hq, h⟩ := h
  have := set_any h (fun q hq' => by have := hg.set q.1 (by rw [← hq]; exact List.mem_map_of_mem hq'); omega) i
  rw [hq] at this
  exact this
end
set_option maxRecDepth 100000 in
set_option maxHeartbeats 8000000 in
theorem ptell_any (t : T) (hF : InT t) (d : ND) (s : Nat) (r : Int) (hs : s < 2 ^ 64) (w : World) (ht : Tabs w) (hd : Deb w) (hT : TR w (fun _ => True) t d.v) :
    Calls Tryz.prog 6 #[d.v, .int .u64 (s : Int), .int .i32 r] w fun e w' => e = .returned (.bool true) ∧ Below w.heap.size w w' := by
  have b1 := al1 w (.cells #[.int .i64 d.k, .int .i64 d.a, .slice d.sp d.sl d.sc, .string d.n, .slice d.kp d.kl d.kc] 26)
  have n1 := heap_alloc_new w (.cells #[.int .i64 d.k, .int .i64 d.a, .slice d.sp d.sl d.sc, .string d.n, .slice d.kp d.kl d.kc] 26)
  have s1 : (w.alloc (.cells #[.int .i64 d.k, .int .i64 d.a, .slice d.sp d.sl d.sc, .string d.n, .slice d.kp d.kl d.kc] 26)).heap.size = w.heap.size + 1 := by simp
  obtain ⟨X, hX⟩ : ∃ X, w.alloc (.cells #[.int .i64 d.k, .int .i64 d.a, .slice d.sp d.sl d.sc, .string d.n, .slice d.kp d.kl d.kc] 26) = X := ⟨_, rfl⟩
  rw [hX] at b1 n1 s1
  have HLAT := hide (fun W (hb : Below w.heap.size w W) => (⟨ht.later hb, hd.later hb, TR.later (fun k hk => hb.block k hk) _ hT⟩ : Tabs W ∧ Deb W ∧ TR W (fun _ => True) t d.v))
  have hk := known13_any X (HLAT.out X b1).1 (HLAT.out X b1).2.1
  clear ht hd hT
  unfold ND.v
  go_enter Tryz.func6, Tryz.ntmps6
  go_wp2_with fail
  refine hk.mono ?_
  rintro e W1 ⟨rfl, hb1⟩
  have B1 := nx b1 hb1
  have m1 := (hb1.block _ (by omega)).trans n1
  have hc := count_any t hF d W1 500 (by decide) (HLAT.out W1 B1).2.2
  have z1 : w.heap.size + 1 ≤ W1.heap.size := by have := hb1.size; omega
  obtain ⟨q0, q1, q2, q3, q4⟩ := cells_five m1
  have HSZ : Hid (sz t = (E.pre t t).length) := rfl
  obtain ⟨sc, hsc⟩ : ∃ sc, min (sz t) (500 + 1) = sc := ⟨_, rfl⟩
  rw [hsc] at hc
  have HSC := hide hsc
  have hle : sc ≤ 501 := by omega
  unfold ND.v at hc
  rw [show ((500 : Nat) : Int) = 500 from rfl] at hc
  clear hk hb1 n1 s1 hX hsc b1
  go_wp2_with fail
  refine hc.mono ?_
  rintro e W2 ⟨rfl, hb2⟩
  have B2 := nx B1 hb2
  have m2 := (hb2.block _ (by omega)).trans m1
  have z2 : w.heap.size + 1 ≤ W2.heap.size := Nat.le_trans z1 hb2.size
  clear hc hb2 m1 z1 B1 q0 q1 q2 q3 q4
  by_cases hbig : 500 < sc
  · go_wp2
    go_ret
    exact ⟨rfl, B2⟩
  have hsz : (E.pre t t).length ≤ 1000000 := by have h1 := HSC.out; have h2 := HSZ.out; omega
  have hN := new_any t d W2 (HLAT.out W2 B2).1 (HLAT.out W2 B2).2.1 (HLAT.out W2 B2).2.2 hsz hF
  obtain ⟨q0, q1, q2, q3, q4⟩ := cells_five m2
  have HS := hide hsz
  unfold ND.v at hN
  clear hsz
  go_wp2_with fail
  refine hN.mono ?_
  intro e W3 hw
  obtain ⟨hb3, ⟨hna, rfl⟩ | ⟨hac, hct, rfl⟩ | ⟨hac, hct, A1, rfl, hA⟩⟩ := hw
  · have B3 := nx B2 hb3
    have m3 := (hb3.block _ (by omega)).trans m2
    have hR := newR_any t hF d W3 (HLAT.out W3 B3).2.2 HS.out
    unfold ND.v at hR
    have HNA := hide hna
    clear hN q0 q1 q2 q3 q4 hna
    obtain ⟨q0, q1, q2, q3, q4⟩ := cells_five m3
    go_wp2_with fail
    refine hR.mono ?_
    intro e W4 hw
    obtain ⟨hb4, ⟨_, rfl⟩ | ⟨h1, _⟩ | ⟨h1, _⟩⟩ := hw
    · have B4 := nx B3 hb4
      clear hR q0 q1 q2 q3 q4
      go_wp2
      go_ret
      exact ⟨rfl, B4⟩
    · exact absurd h1 HNA.out
    · exact absurd h1 HNA.out
  · have B3 := nx B2 hb3
    have m3 := (hb3.block _ (by omega)).trans m2
    have hR := newR_any t hF d W3 (HLAT.out W3 B3).2.2 HS.out
    unfold ND.v at hR
    have HAC := hide (And.intro hac hct)
    clear hN q0 q1 q2 q3 q4 hac hct
    obtain ⟨q0, q1, q2, q3, q4⟩ := cells_five m3
    go_wp2_with fail
    refine hR.mono ?_
    intro e W4 hw
    obtain ⟨hb4, ⟨h1, _⟩ | ⟨_, _, rfl⟩ | ⟨_, h1, _⟩⟩ := hw
    · exact absurd HAC.out.1 h1
    · have B4 := nx B3 hb4
      clear hR q0 q1 q2 q3 q4
      go_wp2
      go_ret
      exact ⟨rfl, B4⟩
    · have := HAC.out.2; omega
  · have B3 := nx B2 hb3
    have m3 := (hb3.block _ (by omega)).trans m2
    have hR := newR_any t hF d W3 (HLAT.out W3 B3).2.2 HS.out
    unfold ND.v at hR
    have hg := PA.good_auto hac hct
    have HAC := hide (And.intro hac hct)
    have HA1 := hide hA
    clear hN q0 q1 q2 q3 q4 hac hct hA
    obtain ⟨q0, q1, q2, q3, q4⟩ := cells_five m3
    go_wp2_with fail
    refine hR.mono ?_
    intro e W4 hw
    obtain ⟨hb4, ⟨h1, _⟩ | ⟨_, h1, _⟩ | ⟨_, _, A2, rfl, hA2f⟩⟩ := hw
    · exact absurd HAC.out.1 h1
    · have := HAC.out.2; omega
    have B4 := nx B3 hb4
    obtain ⟨⟨pl, xf, xl, xn⟩, hau⟩ : ∃ au, PA.auto t = au := ⟨_, rfl⟩
    rw [hau] at hg hA2f HA1
    clear hau hR q0 q1 q2 q3 q4 m3 m2
    have HAT := hide (fun W (hb : Below W4.heap.size W4 W) => AutoAt.later (HA1.out.later hb4) hb)
    have HRT := hide (fun W (hb : Below W4.heap.size W4 W) => RefAt.later hA2f hb)
    have HG : Hid (PA.Good ⟨pl, xf, xl, xn⟩) := hide hg
    have hlen := hg.len
    have h13 := fun W hb => AutoAt.len (a := ⟨pl, xf, xl, xn⟩) (HAT.out W hb)
    have h14 := fun W hb => AutoAt.null (a := ⟨pl, xf, xl, xn⟩) (HAT.out W hb)
    have h15 := fun W hb => AutoAt.first (a := ⟨pl, xf, xl, xn⟩) (HAT.out W hb)
    have h16 := fun W hb => AutoAt.last (a := ⟨pl, xf, xl, xn⟩) (HAT.out W hb)
    obtain ⟨vs, vf, qs, hqs, hRW⟩ := hA2f
    obtain ⟨ao, ca, rfl⟩ := row_sl hRW.sets
    obtain ⟨bo, cb, rfl⟩ := row_sl hRW.fol
    obtain ⟨d0, d1, d2, d3, d4⟩ := hRW.cells
    have hA2 : A2 < W4.heap.size := (Array.getElem?_eq_some_iff.1 hRW.box).1
    have hpl : pl.length = qs.length := by have := congrArg List.length hqs; simpa using this.symm
    have HRW := hide hRW
    have HQS := hide hqs
    dsimp only at h13 h14 h15 h16 hlen d2 d3 d4
    rw [hpl] at h13 hlen
    clear hg hRW hqs hb4 HA1 z2
    go_wp2
    refine Reg.start (B := W4.heap.size) (by kernel_rfl) ?_
    refine Reg.take (fun _ _ _ _ _ h => h) 0 _ 36 (.int .i64 0) rfl (by kernel_rfl) (by kernel_rfl) (by kernel_rfl) rfl (by kernel_rfl) (by kernel_rfl) (fun _ _ => by kernel_rfl) ?_
    refine Reg.take (fun _ _ _ _ _ h => h) 1 _ 37 (.bool false) rfl (by kernel_rfl) (by kernel_rfl) (by kernel_rfl) rfl (by kernel_rfl) (by kernel_rfl) (fun _ _ => by kernel_rfl) ?_
    refine Reg.take (fun _ _ _ _ _ h => h) 2 _ 38 (.bool false) rfl (by kernel_rfl) (by kernel_rfl) (by kernel_rfl) rfl (by kernel_rfl) (by kernel_rfl) (fun _ _ => by kernel_rfl) ?_
    refine Reg.take (fun _ _ _ _ _ h => h) 3 _ 39 (.pointer (some ⟨A1, 0, none⟩)) rfl (by kernel_rfl) (by kernel_rfl) (by kernel_rfl) rfl (by kernel_rfl) (by kernel_rfl) (fun _ _ => by kernel_rfl) ?_
    refine Reg.take (fun _ _ _ _ _ h => h) 5 _ 41 (.pointer (some ⟨A2, 0, none⟩)) rfl (by kernel_rfl) (by kernel_rfl) (by kernel_rfl) rfl (by kernel_rfl) (by kernel_rfl) (fun _ _ => by kernel_rfl) ?_
    refine Reg.take (fun _ _ _ _ _ h => h) 6 _ 42 (.pointer (some ⟨A2, 0, none⟩)) rfl (by kernel_rfl) (by kernel_rfl) (by kernel_rfl) rfl (by kernel_rfl) (by kernel_rfl) (fun _ _ => U.Reg.nc rfl rfl) ?_
    refine Reg.take (fun _ _ _ _ _ h => h) 7 _ 43 (.pointer (some ⟨A2, 0, none⟩)) rfl (by kernel_rfl) (by kernel_rfl) (by kernel_rfl) rfl (by kernel_rfl) (by kernel_rfl) (fun _ _ => Reg.faH (i := 0) (off := 0) rfl (by decide) rfl) ?_
    refine Reg.take (fun _ _ _ _ _ h => h) 8 _ 44 (.slice ao qs.length ca) rfl (by kernel_rfl) (by kernel_rfl) (by kernel_rfl) rfl (by kernel_rfl) (by kernel_rfl) (fun w' hb => U.Reg.ld1 rfl rfl (cell_keep hb d0 hA2) (Tryz.isAgg46 _)) ?_
    refine Reg.take (fun _ _ _ _ _ h => h) 9 _ 45 (.int .i64 (qs.length : Int)) rfl (by kernel_rfl) (by kernel_rfl) (by kernel_rfl) rfl (by kernel_rfl) (by kernel_rfl) (fun _ _ => Reg.lenS rfl rfl) ?_
    refine Reg.call 4 _ 40 13 _ _ #[.pointer (some ⟨A1, 0, none⟩)] rfl (by kernel_rfl) rfl (by kernel_rfl) (by kernel_rfl) rfl (by kernel_rfl) (by kernel_rfl) (h13 _ (blD _)) ?_
    rintro e w2 ⟨rfl, rfl⟩
    refine ⟨_, _, rfl, Nat.le_refl _, Below.refl _ _, ?_⟩
    refine Reg.take (fun _ _ _ _ _ h => h) 10 _ 46 (.bool false) rfl (by kernel_rfl) (by kernel_rfl) (by kernel_rfl) rfl (by kernel_rfl) (by kernel_rfl) (fun _ _ => Reg.neS rfl rfl rfl) ?_
    refine Reg.take (fun _ _ _ _ _ h => h) 11 _ 47 (.bool false) rfl (by kernel_rfl) (by kernel_rfl) (by kernel_rfl) rfl (by kernel_rfl) (by kernel_rfl) (fun _ _ => by kernel_rfl) ?_
    refine Reg.take (fun _ _ _ _ _ h => h) 12 _ 48 (.bool false) rfl (by kernel_rfl) (by kernel_rfl) (by kernel_rfl) rfl (by kernel_rfl) (by kernel_rfl) (fun _ _ => by kernel_rfl) ?_
    refine Reg.take (fun _ _ _ _ _ h => h) 13 _ 49 (.pointer (some ⟨A1, 0, none⟩)) rfl (by kernel_rfl) (by kernel_rfl) (by kernel_rfl) rfl (by kernel_rfl) (by kernel_rfl) (fun _ _ => by kernel_rfl) ?_
    refine Reg.take (fun _ _ _ _ _ h => h) 15 _ 51 (.pointer (some ⟨A2, 0, none⟩)) rfl (by kernel_rfl) (by kernel_rfl) (by kernel_rfl) rfl (by kernel_rfl) (by kernel_rfl) (fun _ _ => by kernel_rfl) ?_
    refine Reg.take (fun _ _ _ _ _ h => h) 16 _ 52 (.pointer (some ⟨A2, 0, none⟩)) rfl (by kernel_rfl) (by kernel_rfl) (by kernel_rfl) rfl (by kernel_rfl) (by kernel_rfl) (fun _ _ => U.Reg.nc rfl rfl) ?_
    refine Reg.take (fun _ _ _ _ _ h => h) 17 _ 53 (.pointer (some ⟨A2, 2, none⟩)) rfl (by kernel_rfl) (by kernel_rfl) (by kernel_rfl) rfl (by kernel_rfl) (by kernel_rfl) (fun _ _ => Reg.faH (i := 2) (off := 0) rfl (by decide) rfl) ?_
    refine Reg.take (fun _ _ _ _ _ h => h) 18 _ 54 (.int .u64 (xf : Int)) rfl (by kernel_rfl) (by kernel_rfl) (by kernel_rfl) rfl (by kernel_rfl) (by kernel_rfl) (fun w' hb => U.Reg.ld1 rfl rfl (cell_keep hb d2 hA2) (Tryz.isAgg33 _)) ?_
    refine Reg.call 14 _ 50 15 _ _ #[.pointer (some ⟨A1, 0, none⟩)] rfl (by kernel_rfl) rfl (by kernel_rfl) (by kernel_rfl) rfl (by kernel_rfl) (by kernel_rfl) (h15 _ (blD _)) ?_
    rintro e w2 ⟨rfl, rfl⟩
    refine ⟨_, _, rfl, Nat.le_refl _, Below.refl _ _, ?_⟩
    refine Reg.take (fun _ _ _ _ _ h => h) 19 _ 55 (.bool false) rfl (by kernel_rfl) (by kernel_rfl) (by kernel_rfl) rfl (by kernel_rfl) (by kernel_rfl) (fun _ _ => Reg.neS rfl rfl rfl) ?_
    refine Reg.take (fun _ _ _ _ _ h => h) 20 _ 56 (.bool false) rfl (by kernel_rfl) (by kernel_rfl) (by kernel_rfl) rfl (by kernel_rfl) (by kernel_rfl) (fun _ _ => by kernel_rfl) ?_
    refine Reg.take (fun _ _ _ _ _ h => h) 21 _ 57 (.bool false) rfl (by kernel_rfl) (by kernel_rfl) (by kernel_rfl) rfl (by kernel_rfl) (by kernel_rfl) (fun _ _ => by kernel_rfl) ?_
    refine Reg.take (fun _ _ _ _ _ h => h) 22 _ 58 (.pointer (some ⟨A1, 0, none⟩)) rfl (by kernel_rfl) (by kernel_rfl) (by kernel_rfl) rfl (by kernel_rfl) (by kernel_rfl) (fun _ _ => by kernel_rfl) ?_
    refine Reg.take (fun _ _ _ _ _ h => h) 24 _ 60 (.pointer (some ⟨A2, 0, none⟩)) rfl (by kernel_rfl) (by kernel_rfl) (by kernel_rfl) rfl (by kernel_rfl) (by kernel_rfl) (fun _ _ => by kernel_rfl) ?_
    refine Reg.take (fun _ _ _ _ _ h => h) 25 _ 61 (.pointer (some ⟨A2, 0, none⟩)) rfl (by kernel_rfl) (by kernel_rfl) (by kernel_rfl) rfl (by kernel_rfl) (by kernel_rfl) (fun _ _ => U.Reg.nc rfl rfl) ?_
    refine Reg.take (fun _ _ _ _ _ h => h) 26 _ 62 (.pointer (some ⟨A2, 3, none⟩)) rfl (by kernel_rfl) (by kernel_rfl) (by kernel_rfl) rfl (by kernel_rfl) (by kernel_rfl) (fun _ _ => Reg.faH (i := 3) (off := 0) rfl (by decide) rfl) ?_
    refine Reg.take (fun _ _ _ _ _ h => h) 27 _ 63 (.int .u64 (xl : Int)) rfl (by kernel_rfl) (by kernel_rfl) (by kernel_rfl) rfl (by kernel_rfl) (by kernel_rfl) (fun w' hb => U.Reg.ld1 rfl rfl (cell_keep hb d3 hA2) (Tryz.isAgg33 _)) ?_
    refine Reg.call 23 _ 59 16 _ _ #[.pointer (some ⟨A1, 0, none⟩)] rfl (by kernel_rfl) rfl (by kernel_rfl) (by kernel_rfl) rfl (by kernel_rfl) (by kernel_rfl) (h16 _ (blD _)) ?_
    rintro e w2 ⟨rfl, rfl⟩
    refine ⟨_, _, rfl, Nat.le_refl _, Below.refl _ _, ?_⟩
    refine Reg.take (fun _ _ _ _ _ h => h) 28 _ 64 (.bool false) rfl (by kernel_rfl) (by kernel_rfl) (by kernel_rfl) rfl (by kernel_rfl) (by kernel_rfl) (fun _ _ => Reg.neS rfl rfl rfl) ?_
    refine Reg.take (fun _ _ _ _ _ h => h) 29 _ 65 (.bool false) rfl (by kernel_rfl) (by kernel_rfl) (by kernel_rfl) rfl (by kernel_rfl) (by kernel_rfl) (fun _ _ => by kernel_rfl) ?_
    refine Reg.take (fun _ _ _ _ _ h => h) 30 _ 66 (.bool false) rfl (by kernel_rfl) (by kernel_rfl) (by kernel_rfl) rfl (by kernel_rfl) (by kernel_rfl) (fun _ _ => by kernel_rfl) ?_
    refine Reg.take (fun _ _ _ _ _ h => h) 31 _ 67 (.pointer (some ⟨A1, 0, none⟩)) rfl (by kernel_rfl) (by kernel_rfl) (by kernel_rfl) rfl (by kernel_rfl) (by kernel_rfl) (fun _ _ => by kernel_rfl) ?_
    refine Reg.take (fun _ _ _ _ _ h => h) 33 _ 69 (.pointer (some ⟨A2, 0, none⟩)) rfl (by kernel_rfl) (by kernel_rfl) (by kernel_rfl) rfl (by kernel_rfl) (by kernel_rfl) (fun _ _ => by kernel_rfl) ?_
    refine Reg.take (fun _ _ _ _ _ h => h) 34 _ 70 (.pointer (some ⟨A2, 0, none⟩)) rfl (by kernel_rfl) (by kernel_rfl) (by kernel_rfl) rfl (by kernel_rfl) (by kernel_rfl) (fun _ _ => U.Reg.nc rfl rfl) ?_
    refine Reg.take (fun _ _ _ _ _ h => h) 35 _ 71 (.pointer (some ⟨A2, 4, none⟩)) rfl (by kernel_rfl) (by kernel_rfl) (by kernel_rfl) rfl (by kernel_rfl) (by kernel_rfl) (fun _ _ => Reg.faH (i := 4) (off := 0) rfl (by decide) rfl) ?_
    refine Reg.take (fun _ _ _ _ _ h => h) 36 _ 72 (.bool xn) rfl (by kernel_rfl) (by kernel_rfl) (by kernel_rfl) rfl (by kernel_rfl) (by kernel_rfl) (fun w' hb => U.Reg.ld1 rfl rfl (cell_keep hb d4 hA2) (Tryz.isAgg4 _)) ?_
    refine Reg.call 32 _ 68 14 _ _ #[.pointer (some ⟨A1, 0, none⟩)] rfl (by kernel_rfl) rfl (by kernel_rfl) (by kernel_rfl) rfl (by kernel_rfl) (by kernel_rfl) (h14 _ (blD _)) ?_
    rintro e w2 ⟨rfl, rfl⟩
    refine ⟨_, _, rfl, Nat.le_refl _, Below.refl _ _, ?_⟩
    refine Reg.take (fun _ _ _ _ _ h => h) 37 _ 73 (.bool false) rfl (by kernel_rfl) (by kernel_rfl) (by kernel_rfl) rfl (by kernel_rfl) (by kernel_rfl) (fun _ _ => Reg.neT rfl rfl rfl) ?_
    refine Reg.take (fun _ _ _ _ _ h => h) 38 _ 74 (.bool false) rfl (by kernel_rfl) (by kernel_rfl) (by kernel_rfl) rfl (by kernel_rfl) (by kernel_rfl) (fun _ _ => by kernel_rfl) ?_
    refine Reg.done (by kernel_rfl) ?_
    simp only [Reg.ov, Act.put, List.setIfInBounds_toArray, List.set_cons_succ, List.set_cons_zero]
    have hBd := blD W4
    clear h14 h15 h16 d0 d1 d2 d3 d4
    go_wp2
    rw [show decide ((500 : Int) < (sc : Int)) = false from decide_eq_false (by omega)]
    clear hbig hle
    go_loopw [11] (fun u wr => ∃ i : Nat, u = .int .i64 (i : Int) ∧ i ≤ qs.length ∧ Below W4.heap.size W4 wr) (fun u _ => qs.length - (intOf u).toNat)
    case atStart => exact ⟨0, rfl, Nat.zero_le _, hBd⟩
    case round =>
      obtain ⟨i, rfl, hi, hB⟩ := hrel
      have hRw := HRW.out.later hB
      obtain ⟨d0, d1, _, _, _⟩ := hRw.cells
      have hA2 : A2 < wr.heap.size := by have := hB.size; omega
      by_cases hlt : i < qs.length
      · obtain ⟨gf, cf, hgf0, e1⟩ := row_at hRw.fol i hlt
        obtain ⟨gs, cs, hgs0, e2⟩ := row_at hRw.sets i hlt
        have hgf : gf < wr.heap.size := by
          have := own_type hRw.fol (k := gf) (by rw [hgf0]; rfl)
          exact this.2.1
        have hgs : gs < wr.heap.size := by
          have := own_type hRw.sets (k := gs) (by rw [hgs0]; rfl)
          exact this.2.1
        rw [List.getElem?_map, List.getElem?_eq_getElem hlt] at e1 e2
        obtain ⟨ai, ci, hsi, hri⟩ := HRW.out.set qs[i] (List.getElem_mem hlt)
        dsimp only [Option.map] at e1 e2
        rw [hsi] at e2
        have hpi : pl[i]? = some qs[i].1 := by rw [show pl = qs.map (·.1) from HQS.out.symm, List.getElem?_map, List.getElem?_eq_getElem hlt]; rfl
        have hb17 : Below W4.heap.size W4 wr.drew := ⟨hB.os, hB.tape, hB.output, hB.size, hB.block⟩
        have c17 := AutoAt.follow (a := ⟨pl, xf, xl, xn⟩) (HAT.out wr.drew hb17) (i : Int)
        have c23 := AutoAt.set (a := ⟨pl, xf, xl, xn⟩) (HAT.out wr.drew hb17) HG.out (i : Int)
        have ef : folI ⟨pl, xf, xl, xn⟩ (i : Int) = qs[i].1.2 := by
          unfold folI PA.fol
          rw [if_pos (by dsimp only; omega)]
          simp [hpi]
        have es : setI pl (i : Int) = qs[i].1.1 := by
          unfold setI
          rw [if_pos (by omega)]
          simp [hpi]
        rw [ef] at c17
        dsimp only at c23
        rw [es] at c23
        have hsl : qs[i].1.1.length ≤ 200 := HG.out.set qs[i].1 (List.mem_of_getElem? hpi)
        have hB5 : Below W3.heap.size W3 wr.drew := nx HRW.out.old hb17
        generalize qs[i].1.2 = mi at *
        generalize qs[i].1.1 = si at *
        cases hgf0
        cases hgs0
        clear ef es hpi hsi hb17
        go_wp2
        refine Reg.start (B := wr.heap.size) (by kernel_rfl) ?_
        refine Reg.take (fun _ _ _ _ _ h => h) 0 _ 84 (.pointer (some ⟨A1, 0, none⟩)) rfl (by kernel_rfl) (by kernel_rfl) (by kernel_rfl) rfl (by kernel_rfl) (by kernel_rfl) (fun _ _ => by kernel_rfl) ?_
        refine Reg.take (fun _ _ _ _ _ h => h) 1 _ 85 (.int .i64 (i : Int)) rfl (by kernel_rfl) (by kernel_rfl) (by kernel_rfl) rfl (by kernel_rfl) (by kernel_rfl) (fun _ _ => by kernel_rfl) ?_
        refine Reg.take (fun _ _ _ _ _ h => h) 3 _ 87 (.pointer (some ⟨A2, 0, none⟩)) rfl (by kernel_rfl) (by kernel_rfl) (by kernel_rfl) rfl (by kernel_rfl) (by kernel_rfl) (fun _ _ => by kernel_rfl) ?_
        refine Reg.take (fun _ _ _ _ _ h => h) 4 _ 88 (.pointer (some ⟨A2, 0, none⟩)) rfl (by kernel_rfl) (by kernel_rfl) (by kernel_rfl) rfl (by kernel_rfl) (by kernel_rfl) (fun _ _ => U.Reg.nc rfl rfl) ?_
        refine Reg.take (fun _ _ _ _ _ h => h) 5 _ 89 (.pointer (some ⟨A2, 1, none⟩)) rfl (by kernel_rfl) (by kernel_rfl) (by kernel_rfl) rfl (by kernel_rfl) (by kernel_rfl) (fun _ _ => Reg.faH (i := 1) (off := 0) rfl (by decide) rfl) ?_
        refine Reg.take (fun _ _ _ _ _ h => h) 6 _ 90 (.slice (some ⟨gf, 0, none⟩) qs.length cb) rfl (by kernel_rfl) (by kernel_rfl) (by kernel_rfl) rfl (by kernel_rfl) (by kernel_rfl) (fun w' hb => U.Reg.ld1 rfl rfl (cell_keep hb d1 hA2) (Tryz.isAgg47 _)) ?_
        refine Reg.take (fun _ _ _ _ _ h => h) 7 _ 91 (.int .i64 (i : Int)) rfl (by kernel_rfl) (by kernel_rfl) (by kernel_rfl) rfl (by kernel_rfl) (by kernel_rfl) (fun _ _ => by kernel_rfl) ?_
        refine Reg.take (fun _ _ _ _ _ h => h) 8 _ 92 (.pointer (some ⟨gf, 0 + i * 1, none⟩)) rfl (by kernel_rfl) (by kernel_rfl) (by kernel_rfl) rfl (by kernel_rfl) (by kernel_rfl) (fun _ _ => U.Reg.ix rfl rfl rfl hlt Tryz.underlying47 (elemSize47 _)) ?_
        refine Reg.take (fun _ _ _ _ _ h => h) 9 _ 93 (.int .u64 (mi : Int)) rfl (by kernel_rfl) (by kernel_rfl) (by kernel_rfl) rfl (by kernel_rfl) (by kernel_rfl) (fun w' hb => U.Reg.ld1 rfl rfl (by rw [Nat.zero_add, Nat.mul_one]; exact cell_keep hb e1 hgf) (Tryz.isAgg33 _)) ?_
        refine Reg.call 2 _ 86 17 _ _ #[.pointer (some ⟨A1, 0, none⟩), .int .i64 (i : Int)] rfl (by kernel_rfl) rfl (by kernel_rfl) (by kernel_rfl) rfl (by kernel_rfl) (by kernel_rfl) (c17) ?_
        rintro e w2 ⟨rfl, rfl⟩
        refine ⟨_, _, rfl, Nat.le_refl _, Below.refl _ _, ?_⟩
        refine Reg.take (fun _ _ _ _ _ h => h) 10 _ 94 (.bool false) rfl (by kernel_rfl) (by kernel_rfl) (by kernel_rfl) rfl (by kernel_rfl) (by kernel_rfl) (fun _ _ => Reg.neS rfl rfl rfl) ?_
        refine Reg.take (fun _ _ _ _ _ h => h) 11 _ 95 (.bool false) rfl (by kernel_rfl) (by kernel_rfl) (by kernel_rfl) rfl (by kernel_rfl) (by kernel_rfl) (fun _ _ => by kernel_rfl) ?_
        refine Reg.take (fun _ _ _ _ _ h => h) 12 _ 96 (.pointer (some ⟨A1, 0, none⟩)) rfl (by kernel_rfl) (by kernel_rfl) (by kernel_rfl) rfl (by kernel_rfl) (by kernel_rfl) (fun _ _ => by kernel_rfl) ?_
        refine Reg.take (fun _ _ _ _ _ h => h) 13 _ 97 (.int .i64 (i : Int)) rfl (by kernel_rfl) (by kernel_rfl) (by kernel_rfl) rfl (by kernel_rfl) (by kernel_rfl) (fun _ _ => by kernel_rfl) ?_
        refine Reg.take (fun _ _ _ _ _ h => h) 15 _ 99 (.pointer (some ⟨A2, 0, none⟩)) rfl (by kernel_rfl) (by kernel_rfl) (by kernel_rfl) rfl (by kernel_rfl) (by kernel_rfl) (fun _ _ => by kernel_rfl) ?_
        refine Reg.take (fun _ _ _ _ _ h => h) 16 _ 100 (.pointer (some ⟨A2, 0, none⟩)) rfl (by kernel_rfl) (by kernel_rfl) (by kernel_rfl) rfl (by kernel_rfl) (by kernel_rfl) (fun _ _ => U.Reg.nc rfl rfl) ?_
        refine Reg.take (fun _ _ _ _ _ h => h) 17 _ 101 (.pointer (some ⟨A2, 0, none⟩)) rfl (by kernel_rfl) (by kernel_rfl) (by kernel_rfl) rfl (by kernel_rfl) (by kernel_rfl) (fun _ _ => Reg.faH (i := 0) (off := 0) rfl (by decide) rfl) ?_
        refine Reg.take (fun _ _ _ _ _ h => h) 18 _ 102 (.slice (some ⟨gs, 0, none⟩) qs.length ca) rfl (by kernel_rfl) (by kernel_rfl) (by kernel_rfl) rfl (by kernel_rfl) (by kernel_rfl) (fun w' hb => U.Reg.ld1 rfl rfl (cell_keep hb d0 hA2) (Tryz.isAgg46 _)) ?_
        refine Reg.take (fun _ _ _ _ _ h => h) 19 _ 103 (.int .i64 (i : Int)) rfl (by kernel_rfl) (by kernel_rfl) (by kernel_rfl) rfl (by kernel_rfl) (by kernel_rfl) (fun _ _ => by kernel_rfl) ?_
        refine Reg.take (fun _ _ _ _ _ h => h) 20 _ 104 (.pointer (some ⟨gs, 0 + i * 1, none⟩)) rfl (by kernel_rfl) (by kernel_rfl) (by kernel_rfl) rfl (by kernel_rfl) (by kernel_rfl) (fun _ _ => U.Reg.ix rfl rfl rfl hlt Tryz.underlying46 (elemSize46 _)) ?_
        refine Reg.take (fun _ _ _ _ _ h => h) 21 _ 105 (.slice ai si.length ci) rfl (by kernel_rfl) (by kernel_rfl) (by kernel_rfl) rfl (by kernel_rfl) (by kernel_rfl) (fun w' hb => U.Reg.ld1 rfl rfl (by rw [Nat.zero_add, Nat.mul_one]; exact cell_keep hb e2 hgs) (Tryz.isAgg23 _)) ?_
        refine Reg.call 14 _ 98 23 _ _ #[.pointer (some ⟨A1, 0, none⟩), .int .i64 (i : Int)] rfl (by kernel_rfl) rfl (by kernel_rfl) (by kernel_rfl) rfl (by kernel_rfl) (by kernel_rfl) (c23) ?_
        rintro e w3 ⟨⟨a3, c3, rfl, hr3⟩, hb3⟩
        refine ⟨_, w3.heap.size, rfl, hb3.size, hb3, ?_⟩
        refine Reg.call 22 _ 106 22 _ _ #[.slice a3 si.length c3, .slice ai si.length ci] rfl (by kernel_rfl) rfl (by kernel_rfl) (by kernel_rfl) rfl (by kernel_rfl) (by kernel_rfl) (U.refSame_any a3 ai c3 ci si si (by omega) w3 hr3 (hri.later (nx hB5 hb3))) ?_
        rintro e w4 ⟨htl, hb4⟩
        obtain rfl := told_same htl
        refine ⟨_, w4.heap.size, rfl, hb4.size, hb4, ?_⟩
        refine Reg.take (fun _ _ _ _ _ h => h) 23 _ 107 (.bool false) rfl (by kernel_rfl) (by kernel_rfl) (by kernel_rfl) rfl (by kernel_rfl) (by kernel_rfl) (fun _ _ => by kernel_rfl) ?_
        refine Reg.take (fun _ _ _ _ _ h => h) 24 _ 108 (.bool false) rfl (by kernel_rfl) (by kernel_rfl) (by kernel_rfl) rfl (by kernel_rfl) (by kernel_rfl) (fun _ _ => by kernel_rfl) ?_
        refine Reg.done (by kernel_rfl) ?_
        simp only [Reg.ov, Act.put, List.setIfInBounds_toArray, List.set_cons_succ, List.set_cons_zero]
        have hBn : Below W4.heap.size W4 w4 := nx hB (bdrew (nx hb3 hb4))
        clear c17 c23 hr3 hri hB5 htl hb3 hb4 e1 e2 d0 d1
        go_wp2
        go_roundw
        case rel => exact ⟨i + 1, by go_num, by omega, hBn⟩
        case measure => simp [intOf] <;> omega
      · obtain rfl : i = qs.length := by omega
        have hf1 : folI ⟨pl, xf, xl, xn⟩ (-1) = 0 := by unfold folI; rw [if_neg (by omega)]
        have hf2 : folI ⟨pl, xf, xl, xn⟩ (qs.length : Int) = 0 := by unfold folI; rw [if_neg (by dsimp only; omega)]
        have hs1 : setI pl (-1) = [] := by unfold setI; rw [if_neg (by omega)]
        have hs2 : setI pl (qs.length : Int) = [] := by unfold setI; rw [if_neg (by omega)]
        have h17 := fun W hb i => AutoAt.follow (a := ⟨pl, xf, xl, xn⟩) (HAT.out W hb) i
        have h23 := fun W hb i => AutoAt.set (a := ⟨pl, xf, xl, xn⟩) (HAT.out W hb) HG.out i
        have hTab := fun W (hb : Below W4.heap.size W4 W) => (HLAT.out W (nx B4 hb)).2.1
        have H19 := hide (fun W hb s hs => AutoAt.step (a := ⟨pl, xf, xl, xn⟩) (HAT.out W hb) HG.out s r hs (hTab W hb))
        have H20 := hide (fun W hb => AutoAt.accept (a := ⟨pl, xf, xl, xn⟩) (HAT.out W hb) HG.out s hs)
        have H24 := hide (fun W hb s hs => RefAt.step (a := ⟨pl, xf, xl, xn⟩) (HRT.out W hb) HG.out s hs r)
        have H25 := hide (fun W hb => RefAt.accept (a := ⟨pl, xf, xl, xn⟩) (HRT.out W hb) HG.out s hs)
        have c1 := h17 wr hB (-1)
        have c2 := h17 wr hB (qs.length : Int)
        have c3 := h13 wr hB
        have c4 := h23 wr hB (-1)
        have H23 := hide h23
        have H13 := hide h13
        rw [hf1] at c1
        rw [hf2] at c2
        dsimp only at c4
        rw [hs1] at c4
        obtain ⟨z1, hz1⟩ : ∃ z, PA.stp ⟨pl, xf, xl, xn⟩ s r = z := ⟨_, rfl⟩
        obtain ⟨z2, hz2⟩ : ∃ z, PA.stp ⟨pl, xf, xl, xn⟩ 9223372036854775808 r = z := ⟨_, rfl⟩
        obtain ⟨z3, hz3⟩ : ∃ z, PA.acc ⟨pl, xf, xl, xn⟩ s = z := ⟨_, rfl⟩
        have HZ1 := hide hz1
        have HZ2 := hide hz2
        have HZ3 := hide hz3
        have HS2 := hide hs2
        clear hf1 hf2 hs1 hs2 h17 h23 h13 hTab hz1 hz2 hz3 d1 hRw
        go_wp2_with fail
        refine c1.mono ?_
        rintro e w1 ⟨rfl, rfl⟩
        go_wp2_with fail
        refine c3.mono ?_
        rintro e w2 ⟨rfl, rfl⟩
        go_wp2_with fail
        refine c2.mono ?_
        rintro e w1 ⟨rfl, rfl⟩
        go_wp2_with fail
        refine c4.mono ?_
        rintro e w2 ⟨⟨a5, k5, rfl, _⟩, hb5⟩
        have hB2 := nx hB hb5
        have c5 := H13.out _ hB2
        have c6 := H23.out _ hB2 (qs.length : Int)
        rw [HS2.out] at c6
        clear c1 c2 c3 c4 hb5
        go_wp2_with fail
        refine c5.mono ?_
        rintro e w3 ⟨rfl, rfl⟩
        go_wp2_with fail
        refine c6.mono ?_
        rintro e w4 ⟨⟨a6, k6, rfl, _⟩, hb6⟩
        have hB3 := nx hB2 hb6
        have c7 := H19.out _ hB3 s hs
        rw [HZ1.out] at c7
        clear c5 c6 hb6
        go_wp2_with fail
        refine c7.mono ?_
        rintro e w5 ⟨rfl, hb7⟩
        have hB4 := nx hB3 hb7
        have c8 := H24.out _ hB4 s hs
        rw [HZ1.out] at c8
        clear c7 hb7
        go_wp2_with fail
        refine c8.mono ?_
        rintro e w6 ⟨rfl, hb8⟩
        have hB5 := nx hB4 hb8
        have c9 := H20.out _ hB5
        have c10 := H25.out _ hB5
        rw [HZ3.out] at c9 c10
        have c11 := H19.out _ hB5 9223372036854775808 (by decide)
        rw [HZ2.out] at c11
        clear c8 hb8
        cases z3
        · go_wp2_with fail
          refine c9.mono ?_
          rintro e w7 ⟨rfl, rfl⟩
          go_wp2_with fail
          refine c10.mono ?_
          rintro e w8 ⟨rfl, rfl⟩
          go_wp2_with fail
          refine c11.mono ?_
          rintro e w9 ⟨rfl, hb9⟩
          have hB6 := nx hB5 hb9
          have c12 := H24.out _ hB6 9223372036854775808 (by decide)
          rw [HZ2.out] at c12
          clear c9 c10 c11 hb9
          go_wp2_with fail
          refine c12.mono ?_
          rintro e w10 ⟨rfl, hb10⟩
          go_wp2
          go_ret
          exact ⟨rfl, nx B4 (nx hB6 hb10)⟩
        · go_wp2_with fail
          refine c9.mono ?_
          rintro e w7 ⟨rfl, rfl⟩
          go_wp2_with fail
          refine c10.mono ?_
          rintro e w8 ⟨rfl, rfl⟩
          go_wp2_with fail
          refine c11.mono ?_
          rintro e w9 ⟨rfl, hb9⟩
          have hB6 := nx hB5 hb9
          have c12 := H24.out _ hB6 9223372036854775808 (by decide)
          rw [HZ2.out] at c12
          clear c9 c10 c11 hb9
          go_wp2_with fail
          refine c12.mono ?_
          rintro e w10 ⟨rfl, hb10⟩
          go_wp2
          go_ret
          exact ⟨rfl, nx B4 (nx hB6 hb10)⟩
end Go.Proofs.YtemanednddhfaaaGreatDoor
