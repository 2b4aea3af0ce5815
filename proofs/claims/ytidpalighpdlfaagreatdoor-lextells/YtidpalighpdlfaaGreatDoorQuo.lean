/- quoted of lex. -/
import Derived.Test.YtidpalighpdlfaaGreatDoorBldw
import Derived.Test.YtidpalighpdlfaaGreatDoorRcode
namespace Go.Proofs.YtidpalighpdlfaaGreatDoor
open Go.RowKit

set_option maxRecDepth 100000 in
set_option maxHeartbeats 4000000 in
theorem quoted_any (s : ByteArray) (hs : s.size ≤ 100000) (w : World) : Calls Tryz.prog 29 #[.string s] w fun e w' => e = .returned (.string ⟨(X.quoteB (bts s)).toArray⟩) ∧ Below w.heap.size w w' := by
  have hB0 := al1 w (.cells #[.pointer none, .slice none 0 0] 42)
  have hbd := bd_new w
  go_enter Tryz.func29, Tryz.ntmps29
  go_wp2
  go_loopw [7] (fun u wr => ∃ (i : Nat) (o : List UInt8), u = .int .i64 (i : Int) ∧ i ≤ s.size ∧ o.length ≤ 2 * i ∧ Hid (o = X.quoteB ((bts s).take i)) ∧ Bd w.heap.size w.heap.size o wr ∧ Below w.heap.size w wr) (fun u _ => s.size - (intOf u).toNat)
  case atStart => exact ⟨0, [], rfl, Nat.zero_le _, by simp, hide rfl, hbd, hB0⟩
  case round =>
    obtain ⟨i, o, rfl, hi, hol, HO, hB, hb⟩ := hrel
    by_cases hlt : i < s.size
    · have hl : i < (bts s).length := hlt
      have hx := fun j hj h => idx_at (s := s) hl j hj h
      have HQ : Hid (X.quoteB ((bts s).take (i + 1)) = o ++ (if (bts s)[i] = 34 ∨ (bts s)[i] = 92 then [92, (bts s)[i]] else [(bts s)[i]])) := hide (by
        rw [HO.out, take_snoc0 hl, quoteB_app]
        congr 1)
      generalize (bts s)[i] = c at *
      have hx2 : ∀ h, s[i]'h = c := fun h => hx (i : Int) rfl h
      clear hx
      have e34 : ((c.toNat : Int) == 34) = decide (c = 34) := u8_eq c 34
      have e92 : ((c.toNat : Int) == 92) = decide (c = 92) := u8_eq c 92
      have hw1 := wbyte_any w.heap.size w.heap.size o 92 wr hB (by omega) hb.size
      rw [show U8 92 = .int .u8 92 from rfl] at hw1
      by_cases hesc : c = 34 ∨ c = 92
      · rw [if_pos hesc] at HQ
        have hcase : ((c.toNat : Int) == 34) = true ∨ (((c.toNat : Int) == 34) = false ∧ ((c.toNat : Int) == 92) = true) := by
          rw [e34, e92]
          by_cases h : c = 34
          · exact .inl (decide_eq_true h)
          · exact .inr ⟨decide_eq_false h, decide_eq_true (hesc.resolve_left h)⟩
        clear e34 e92 hesc HO
        rcases hcase with e34 | ⟨e34, e92⟩
        all_goals
          go_wp2_with fail
          refine hw1.mono ?_
          rintro e w1 ⟨rfl, hB1, hb1⟩
          have hbb := hb.trans hb1
          have hw2 := wbyte_any w.heap.size w.heap.size (o ++ [92]) c w1 hB1 (by simp; omega) hbb.size
          unfold U8 at hw2
          go_wp2_with fail
          refine hw2.mono ?_
          rintro e w2 ⟨rfl, hB2, hb2⟩
          clear hw1 hw2
          go_wp2
          go_roundw
          case rel => exact ⟨i + 1, o ++ [92] ++ [c], by go_num, by omega, by simp; omega, hide (by rw [HQ.out]; simp), hB2, hbb.trans hb2⟩
          case measure => simp [intOf]; omega
      · rw [if_neg hesc] at HQ
        rw [decide_eq_false (fun h => hesc (.inl h))] at e34
        rw [decide_eq_false (fun h => hesc (.inr h))] at e92
        clear hesc HO hw1
        have hw2 := wbyte_any w.heap.size w.heap.size o c wr hB (by omega) hb.size
        unfold U8 at hw2
        go_wp2_with fail
        refine hw2.mono ?_
        rintro e w2 ⟨rfl, hB2, hb2⟩
        clear hw2
        go_wp2
        go_roundw
        case rel => exact ⟨i + 1, o ++ [c], by go_num, by omega, by simp; omega, hide HQ.out.symm, hB2, hb.trans hb2⟩
        case measure => simp [intOf]; omega
    · have HE : Hid (X.quoteB (bts s) = o) := hide (by
        rw [HO.out, List.take_of_length_le (by rw [bts_len]; omega)])
      clear HO
      have hst := bstr_any w.heap.size w.heap.size o wr hB hb.size
      go_wp2_with fail
      refine hst.mono ?_
      rintro e w1 ⟨rfl, hb1⟩
      go_wp2
      go_ret
      exact ⟨by rw [HE.out]; rfl, hb.trans hb1⟩
end Go.Proofs.YtidpalighpdlfaaGreatDoor
