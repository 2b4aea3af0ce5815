/- ClassesFew. -/
import Derived.Test.YtbkcbclloemajaaFam
namespace Go.Proofs.Ytbkcbclloemajaa
open Go.RowKit Go.Shelf

theorem fs_new (w : World) (i : Nat) : FS (w.alloc (.cells (fcell i) 48)) i (some ⟨w.heap.size, 0, none⟩, 2, fset i) := ⟨_, rfl, World.alloc_heap_new w _⟩

set_option maxRecDepth 100000 in
set_option maxHeartbeats 2000000 in
theorem fewl_any (q : Nat) (hq : q ≤ 255) (tw : Bool) (w : World) : Calls Try.prog 6 #[.int .u8 (q : Int), .bool tw] w fun e w' => e = .returned (.bool true) ∧ Below w.heap.size w w' := by
  go_enter Try.func6, Try.ntmps6
  go_wp2_with fail
  refine (known_any w).mono ?_
  rintro e w1 ⟨rfl, hb1⟩
  obtain ⟨k, hk⟩ : ∃ k, q % 60 = k := ⟨_, rfl⟩
  have HKM : Hid ((q : Int) % 60 = (k : Int)) := hide (by rw [← hk]; rfl)
  have hk60 : k < 60 := by omega
  clear hk
  go_wp2_with fail
  rw [HKM.out]
  clear HKM
  go_loopw [6, 7] (fun v u wr => ∃ (i : Nat) (ls : List L3), u = .int .i64 (i : Int) ∧ i ≤ k ∧ Fm wr w1.heap.size v (List.range i) ls ∧ Below w.heap.size w wr) (fun _ u _ => k - (intOf u).toNat)
  case atStart => exact ⟨0, [], rfl, Nat.zero_le _, ⟨rfl, World.ownsRow_nil _ _ _ _, fun j h => by simp at h, Nat.le_refl _⟩, hb1⟩
  case round =>
    obtain ⟨i, ls, rfl, hi, hF, hB⟩ := hrel
    have hll : ls.length = i := by rw [hF.len, List.length_range]
    have HLL := hide hll
    have hl60 : ls.length ≤ 60 := by omega
    clear hll
    by_cases hlt : i < k
    · have hb2 := al1 wr (.cells (fcell i) 48)
      have hb3 := al1 (wr.alloc (.cells (fcell i) 48)) (.cells #[.slice (some ⟨wr.heap.size, 0, none⟩) 2 2] 35)
      have hF3 := hF.later (nx hb2 hb3)
      have hB3 := nx hB (nx hb2 hb3)
      have hS3 := (fs_new wr i).later hb3
      have hc3 := (Boxed.new (wr.alloc (.cells (fcell i) 48)) 35 (.slice (some ⟨wr.heap.size, 0, none⟩) 2 2)).cell
      rw [World.size_alloc] at hc3
      unfold fcell at hb2 hb3 hF3 hB3 hS3 hc3
      have HB := hide (nx hb2 hb3)
      clear hb2 hb3
      go_wp2_with (at_builtin; refine wpl_appS rfl _ _ rfl w1.heap.size _ ls.length (ls.map encL) (wr.heap.size + 1) (.slice (some ⟨wr.heap.size, 0, none⟩) 2 2) rfl rfl hc3 rfl hF3.row hF3.le (by omega) ?_; intro v' w5 ho' hch')
      go_roundw
      case rel =>
        have hF5 := hF3.snoc hS3 ho' hch'
        refine ⟨i + 1, ls ++ [(some ⟨wr.heap.size, 0, none⟩, 2, fset i)], by go_num, by omega, ?_, ?_⟩
        · rw [List.range_succ]; exact hF5
        · exact below_chg hB3 hch' (Nat.le_refl _) (fun j hj e => by have := (hF3.row.lt j e.symm).1; have := hb1.size; omega)
      case measure => simp [intOf]; omega
    · obtain rfl : i = k := by omega
      obtain ⟨sao, cp, hv, hcp, hrds⟩ := hF.rds
      subst hv
      cases tw with
      | false =>
        go_wp2_with fail
        obtain ⟨lx, hlx⟩ : ∃ lx, lx = ls := ⟨_, rfl⟩
        rw [← hlx] at hF hcp hrds ⊢
        have h61 : lx.length ≤ 61 := by rw [hF.len]; simp; omega
        have HTo := hide hF.tof
        have HLe := hide hF.len
        have HNu : Hid (Nums i (List.range i)) := hide ⟨fun i h => List.mem_range.1 h, fun i h => List.mem_range.2 h⟩
        have h20 : ∀ p ∈ lx, p.2.2.length ≤ 5000 := fun p hp => by
          obtain ⟨j, hj, rfl⟩ := List.getElem_of_mem hp
          obtain ⟨b, e, _⟩ := hF.each j hj (by rw [← hF.len]; exact hj)
          rw [e]
          simp [fset]
        refine (cut_tel sao cp lx hcp h20 _ hrds).mono ?_
        rintro e w6 ⟨rfl, hT, hb6⟩
        rw [List.take_of_length_le (by omega)] at hT
        have hB6 := nx hB hb6
        generalize hpc : wr.heap.size = pc at hT ⊢
        clear hpc
        have hml : (((msL lx).length : Nat) : Int) = (i : Int) + 1 := by rw [few_len (by omega) (by omega) HTo.out HLe.out HNu.out]; rfl
        clear hF hcp hrds hlx h20 hB hb6
        go_wp2_with fail
        go_loopw [10] (fun u wq => ∃ j : Nat, u = .int .i64 (j : Int) ∧ j ≤ i ∧ Tel wq pc lx ∧ Below w.heap.size w wq) (fun u _ => i - (intOf u).toNat)
        case atStart => exact ⟨0, rfl, Nat.zero_le _, hT, hB6⟩
        case round =>
          clear hT hB6
          obtain ⟨j, rfl, hj, hT, hB⟩ := hrel
          by_cases hjk : j < i
          · have e7 : ofL lx (10 * (j : Int) + 7) = ofL lx (10 * (j : Int)) := ((of_eq (by omega) (by omega) (by omega)).2 (few_same (by omega) HTo.out HLe.out HNu.out hjk)).symm
            have e5 : (ofL lx (10 * (j : Int)) == ofL lx (10 * (j : Int) + 5)) = false := by
              rw [beq_eq_false_iff_ne]
              exact fun h => few_other (by omega) HTo.out HLe.out HNu.out hjk (by omega) ((of_eq (by omega) (by omega) (by omega)).1 h)
            have C0 : ∀ w', Tel w' pc lx → Calls Try.prog 13 #[.pointer (some ⟨pc, 0, none⟩), .int .i32 (10 * (j : Int))] w' fun e w2 => e = .returned (.int .i64 (ofL lx (10 * (j : Int)))) ∧ Below w'.heap.size w' w2 := fun w' h => tel_of h _
            have C7 : ∀ w', Tel w' pc lx → Calls Try.prog 13 #[.pointer (some ⟨pc, 0, none⟩), .int .i32 (10 * (j : Int) + 7)] w' fun e w2 => e = .returned (.int .i64 (ofL lx (10 * (j : Int)))) ∧ Below w'.heap.size w' w2 := fun w' h => by rw [← e7]; exact tel_of h _
            have C5 : ∀ w', Tel w' pc lx → Calls Try.prog 13 #[.pointer (some ⟨pc, 0, none⟩), .int .i32 (10 * (j : Int) + 5)] w' fun e w2 => e = .returned (.int .i64 (ofL lx (10 * (j : Int) + 5))) ∧ Below w'.heap.size w' w2 := fun w' h => tel_of h _
            clear e7
            generalize ofL lx (10 * (j : Int)) = x at *
            generalize ofL lx (10 * (j : Int) + 5) = y at *
            go_wp2_with fail
            refine (C0 _ hT).mono ?_
            rintro e w7 ⟨rfl, hb7⟩
            replace hT := hT.later hb7
            replace hB := nx hB hb7
            clear hb7
            go_wp2_with fail
            refine (C7 _ hT).mono ?_
            rintro e w8 ⟨rfl, hb8⟩
            replace hT := hT.later hb8
            replace hB := nx hB hb8
            clear hb8
            go_wp2_with fail
            refine (C0 _ hT).mono ?_
            rintro e w9 ⟨rfl, hb9⟩
            replace hT := hT.later hb9
            replace hB := nx hB hb9
            clear hb9
            go_wp2_with fail
            refine (C5 _ hT).mono ?_
            rintro e w10 ⟨rfl, hb10⟩
            replace hT := hT.later hb10
            replace hB := nx hB hb10
            clear hb10
            go_wp2_with fail
            go_roundw
            case rel => exact ⟨j + 1, by go_num, by omega, hT, hB⟩
            case measure => simp [intOf]; omega
          · obtain rfl : j = i := by omega
            have hlenC := tel_len hT
            rw [hml] at hlenC
            clear hml
            go_wp2_with fail
            refine hlenC.mono ?_
            rintro e w7 ⟨rfl, rfl⟩
            go_wp2_with fail
            refine (tel_sets hT).mono ?_
            rintro e w8 ⟨rfl, rfl⟩
            go_wp2_with fail
            go_ret
            exact ⟨rfl, hB⟩
      | true =>
        by_cases h0 : 0 < i
        · have hll0 : 0 < ls.length := by rw [HLL.out]; exact h0
          obtain ⟨b, off, rfl, c0, _⟩ := hrds 0 hll0
          have hS0 := hF.each 0 hll0 (by rw [← hF.len]; exact hll0)
          have hi0 : (List.range i)[0]'(by simpa using h0) = 0 := by simp
          rw [hi0] at hS0
          obtain ⟨b0', e0', -⟩ := id hS0
          rw [e0'] at c0 hS0
          have c0' : wr.cell? ⟨b, off, none⟩ = some (.slice (some ⟨b0', 0, none⟩) 2 2) := c0
          clear c0 e0' hi0
          have hb3 := al1 wr (.cells #[.slice (some ⟨b0', 0, none⟩) 2 2] 35)
          have hc3 := (Boxed.new wr 35 (.slice (some ⟨b0', 0, none⟩) 2 2)).cell
          have hF3 := hF.later hb3
          have hS3 := hS0.later hb3
          have hB3 := nx hB hb3
          clear hb3 hS0 hrds
          go_wp2_with (at_builtin; refine wpl_appS rfl _ _ rfl w1.heap.size _ ls.length (ls.map encL) wr.heap.size (.slice (some ⟨b0', 0, none⟩) 2 2) rfl rfl hc3 rfl hF3.row hF3.le (by omega) ?_; intro v' w5 ho' hch')
          have hB5 := below_chg hB3 hch' (Nat.le_refl _) (fun j hj e => by have := (hF3.row.lt j e.symm).1; have := hb1.size; omega)
          have hF5 := hF3.snoc hS3 ho' hch'
          clear hF hcp hF3 hS3 hB3 hc3 ho' hch' hB c0'
          have hF := hF5
          have hB := hB5
          clear hF5 hB5
          obtain ⟨sao, cp, hv, hcp, hrds⟩ := hF.rds
          subst hv
          go_wp2_with fail
          obtain ⟨lx, hlx⟩ : ∃ lx, lx = (ls ++ [((some ⟨b0', 0, none⟩ : Option Addr), 2, fset 0)]) := ⟨_, rfl⟩
          rw [← hlx] at hF hcp hrds ⊢
          have h61 : lx.length ≤ 61 := by rw [hF.len]; simp; omega
          have HTo := hide hF.tof
          have HLe := hide hF.len
          have HNu : Hid (Nums i (List.range i ++ [0])) := hide ⟨fun i h => by rcases List.mem_append.1 h with h | h; exact List.mem_range.1 h; (have : i = 0 := by simpa using h); omega, fun i h => List.mem_append_left _ (List.mem_range.2 h)⟩
          have h20 : ∀ p ∈ lx, p.2.2.length ≤ 5000 := fun p hp => by
            obtain ⟨j, hj, rfl⟩ := List.getElem_of_mem hp
            obtain ⟨b, e, _⟩ := hF.each j hj (by rw [← hF.len]; exact hj)
            rw [e]
            simp [fset]
          refine (cut_tel sao cp lx hcp h20 _ hrds).mono ?_
          rintro e w6 ⟨rfl, hT, hb6⟩
          rw [List.take_of_length_le (by omega)] at hT
          have hB6 := nx hB hb6
          generalize hpc : w5.heap.size = pc at hT ⊢
          clear hpc
          have hml : (((msL lx).length : Nat) : Int) = (i : Int) + 1 := by rw [few_len (by omega) (by omega) HTo.out HLe.out HNu.out]; rfl
          clear hF hcp hrds hlx h20 hB hb6
          go_wp2_with fail
          go_loopw [10] (fun u wq => ∃ j : Nat, u = .int .i64 (j : Int) ∧ j ≤ i ∧ Tel wq pc lx ∧ Below w.heap.size w wq) (fun u _ => i - (intOf u).toNat)
          case atStart => exact ⟨0, rfl, Nat.zero_le _, hT, hB6⟩
          case round =>
            clear hT hB6
            obtain ⟨j, rfl, hj, hT, hB⟩ := hrel
            by_cases hjk : j < i
            · have e7 : ofL lx (10 * (j : Int) + 7) = ofL lx (10 * (j : Int)) := ((of_eq (by omega) (by omega) (by omega)).2 (few_same (by omega) HTo.out HLe.out HNu.out hjk)).symm
              have e5 : (ofL lx (10 * (j : Int)) == ofL lx (10 * (j : Int) + 5)) = false := by
                rw [beq_eq_false_iff_ne]
                exact fun h => few_other (by omega) HTo.out HLe.out HNu.out hjk (by omega) ((of_eq (by omega) (by omega) (by omega)).1 h)
              have C0 : ∀ w', Tel w' pc lx → Calls Try.prog 13 #[.pointer (some ⟨pc, 0, none⟩), .int .i32 (10 * (j : Int))] w' fun e w2 => e = .returned (.int .i64 (ofL lx (10 * (j : Int)))) ∧ Below w'.heap.size w' w2 := fun w' h => tel_of h _
              have C7 : ∀ w', Tel w' pc lx → Calls Try.prog 13 #[.pointer (some ⟨pc, 0, none⟩), .int .i32 (10 * (j : Int) + 7)] w' fun e w2 => e = .returned (.int .i64 (ofL lx (10 * (j : Int)))) ∧ Below w'.heap.size w' w2 := fun w' h => by rw [← e7]; exact tel_of h _
              have C5 : ∀ w', Tel w' pc lx → Calls Try.prog 13 #[.pointer (some ⟨pc, 0, none⟩), .int .i32 (10 * (j : Int) + 5)] w' fun e w2 => e = .returned (.int .i64 (ofL lx (10 * (j : Int) + 5))) ∧ Below w'.heap.size w' w2 := fun w' h => tel_of h _
              clear e7
              generalize ofL lx (10 * (j : Int)) = x at *
              generalize ofL lx (10 * (j : Int) + 5) = y at *
              go_wp2_with fail
              refine (C0 _ hT).mono ?_
              rintro e w7 ⟨rfl, hb7⟩
              replace hT := hT.later hb7
              replace hB := nx hB hb7
              clear hb7
              go_wp2_with fail
              refine (C7 _ hT).mono ?_
              rintro e w8 ⟨rfl, hb8⟩
              replace hT := hT.later hb8
              replace hB := nx hB hb8
              clear hb8
              go_wp2_with fail
              refine (C0 _ hT).mono ?_
              rintro e w9 ⟨rfl, hb9⟩
              replace hT := hT.later hb9
              replace hB := nx hB hb9
              clear hb9
              go_wp2_with fail
              refine (C5 _ hT).mono ?_
              rintro e w10 ⟨rfl, hb10⟩
              replace hT := hT.later hb10
              replace hB := nx hB hb10
              clear hb10
              go_wp2_with fail
              go_roundw
              case rel => exact ⟨j + 1, by go_num, by omega, hT, hB⟩
              case measure => simp [intOf]; omega
            · obtain rfl : j = i := by omega
              have hlenC := tel_len hT
              rw [hml] at hlenC
              clear hml
              go_wp2_with fail
              refine hlenC.mono ?_
              rintro e w7 ⟨rfl, rfl⟩
              go_wp2_with fail
              refine (tel_sets hT).mono ?_
              rintro e w8 ⟨rfl, rfl⟩
              go_wp2_with fail
              go_ret
              exact ⟨rfl, hB⟩
        · have h0' : i = 0 := by omega
          go_wp2_with fail
          obtain ⟨lx, hlx⟩ : ∃ lx, lx = ls := ⟨_, rfl⟩
          rw [← hlx] at hF hcp hrds ⊢
          have h61 : lx.length ≤ 61 := by rw [hF.len]; simp; omega
          have HTo := hide hF.tof
          have HLe := hide hF.len
          have HNu : Hid (Nums i (List.range i)) := hide ⟨fun i h => List.mem_range.1 h, fun i h => List.mem_range.2 h⟩
          have h20 : ∀ p ∈ lx, p.2.2.length ≤ 5000 := fun p hp => by
            obtain ⟨j, hj, rfl⟩ := List.getElem_of_mem hp
            obtain ⟨b, e, _⟩ := hF.each j hj (by rw [← hF.len]; exact hj)
            rw [e]
            simp [fset]
          refine (cut_tel sao cp lx hcp h20 _ hrds).mono ?_
          rintro e w6 ⟨rfl, hT, hb6⟩
          rw [List.take_of_length_le (by omega)] at hT
          have hB6 := nx hB hb6
          generalize hpc : wr.heap.size = pc at hT ⊢
          clear hpc
          have hml : (((msL lx).length : Nat) : Int) = (i : Int) + 1 := by rw [few_len (by omega) (by omega) HTo.out HLe.out HNu.out]; rfl
          clear hF hcp hrds hlx h20 hB hb6
          go_wp2_with fail
          go_loopw [10] (fun u wq => ∃ j : Nat, u = .int .i64 (j : Int) ∧ j ≤ i ∧ Tel wq pc lx ∧ Below w.heap.size w wq) (fun u _ => i - (intOf u).toNat)
          case atStart => exact ⟨0, rfl, Nat.zero_le _, hT, hB6⟩
          case round =>
            clear hT hB6
            obtain ⟨j, rfl, hj, hT, hB⟩ := hrel
            by_cases hjk : j < i
            · omega
            · obtain rfl : j = i := by omega
              have hlenC := tel_len hT
              rw [hml] at hlenC
              clear hml
              go_wp2_with fail
              refine hlenC.mono ?_
              rintro e w7 ⟨rfl, rfl⟩
              go_wp2_with fail
              refine (tel_sets hT).mono ?_
              rintro e w8 ⟨rfl, rfl⟩
              go_wp2_with fail
              go_ret
              exact ⟨rfl, hB⟩
theorem fewl_all (q : Int) (h0 : 0 ≤ q) (h1 : q ≤ 255) (tw : Bool) (w : World) : Calls Try.prog 6 #[.int .u8 q, .bool tw] w fun e w' => e = .returned (.bool true) ∧ Below w.heap.size w w' := by
  obtain ⟨k, rfl⟩ : ∃ k : Nat, q = (k : Int) := ⟨q.toNat, by omega⟩
  exact fewl_any k (by omega) tw w
end Go.Proofs.Ytbkcbclloemajaa
