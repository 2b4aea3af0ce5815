/- The reference of stage 6: Rprint Rsame. -/
import Derived.Deep.QuietTactic
import Derived.WalkSmall
import Derived.Test.YtidpalighpdlfaaGreatDoorRa
namespace Go.Proofs.YtidpalighpdlfaaGreatDoor
open Go.RowKit
/-- A text is empty, or it has a last byte. -/
theorem last_cases (o : List UInt8) : o = [] ∨ ∃ y, Hid (o.getLast? = some y) ∧ Hid (o ≠ []) ∧ o.isEmpty = false ∧ 1 ≤ o.length ∧ ∀ h, (⟨o.toArray⟩ : ByteArray)[o.length - 1]'h = y := by
  by_cases h : o = []
  · exact .inl h
  · have hp := List.length_pos_iff.2 h
    refine .inr ⟨o.getLast h, hide (List.getLast?_eq_some_getLast h), hide h, by simpa using h, hp, fun hh => ?_⟩
    have hi : o.length - 1 < (bts ⟨o.toArray⟩).length := by show o.length - 1 < o.length; omega
    refine (idx_at (s := ⟨o.toArray⟩) hi ((o.length - 1 : Nat) : Int) rfl hh).trans ?_
    show o[o.length - 1] = _
    exact (List.getLast_eq_getElem h).symm
def okT (t : X.Tk) : Prop := t.text.length ≤ 700 ∧ -2147483648 ≤ t.r ∧ t.r ≤ 2147483647

set_option maxRecDepth 100000 in
set_option maxHeartbeats 4000000 in
theorem print_any (ao : Option Addr) (cap : Nat) (l : List (X.Tk × Nat)) (hl : l.length ≤ 700) (hok : ∀ p ∈ l, okT p.1) (w : World) (hr : RdK w ao l) : Calls Tryz.prog 9 #[.slice ao l.length cap] w fun e w' => e = .returned (.string ⟨(X.printL (l.map Prod.fst)).toArray⟩) ∧ Below w.heap.size w w' := by
  go_enter Tryz.func9, Tryz.ntmps9
  go_wp2
  go_loopw [3, 4] (fun v u wr => ∃ (o : List UInt8) (i : Nat), u = .int .i64 (i : Int) ∧ v = .string ⟨o.toArray⟩ ∧ i ≤ l.length ∧ o.length ≤ i * 1500 ∧ Hid (((l.take i).map Prod.fst).foldl X.prF [] = o) ∧ Below w.heap.size w wr) (fun _ u _ => l.length - (intOf u).toNat)
  case atStart => exact ⟨[], 0, rfl, rfl, Nat.zero_le _, by simp, hide rfl, Below.refl _ _⟩
  case round =>
    obtain ⟨o, i, rfl, rfl, hi, hol, HO, hb⟩ := hrel
    by_cases hlt : i < l.length
    · obtain ⟨b, off, rfl, c0, c1, c2, c3⟩ := (hr.later hb) i hlt
      have hok1 := hok l[i] (List.getElem_mem hlt)
      have HO2 : Hid (((l.take (i + 1)).map Prod.fst).foldl X.prF [] = X.prF o l[i].1) := hide (by
        rw [List.take_succ_eq_append_getElem hlt, List.map_append, List.foldl_append, HO.out]
        rfl)
      generalize l[i] = p at *
      obtain ⟨⟨kind, text, r⟩, at_⟩ := p
      obtain ⟨ht, hr1, hr2⟩ := hok1
      simp only at c0 c1 c2 c3 ht hr1 hr2 HO2
      clear HO hok hr
      have hix := elemSize23
      by_cases h7 : kind = 7
      · have e7 : ((kind : Int) == 7) = true := by rw [beq_iff_eq]; omega
        have HF : Hid (X.prF o ⟨kind, text, r⟩ = o ++ [10]) := hide (by unfold X.prF; rw [if_pos h7])
        have hc1 := cat_eq o [10]
        clear h7
        go_wp2
        go_roundw
        case rel => exact ⟨o ++ [10], i + 1, by go_num, rfl, by omega, by simp; omega, hide (by rw [HO2.out, HF.out]), hb.alloc hb.size _⟩
        case measure => simp [intOf]; omega
      by_cases h1 : kind = 1
      · obtain ⟨q, hqe⟩ : ∃ q, [36] ++ text = q := ⟨_, rfl⟩
        have hql : q.length ≤ 1410 := by rw [← hqe]; simp; omega
        have hcq := cat_eq [36] text
        rw [hqe] at hcq
        have HQ : Hid (X.prF o ⟨kind, text, r⟩ = if o ≠ [] ∧ o.getLast? ≠ some 10 then o ++ 32 :: q else o ++ q) := hide (by
          unfold X.prF
          rw [if_neg (by simp only; omega)]
          have : X.one ⟨kind, text, r⟩ = some q := by
            rw [← hqe]
            unfold X.one; rw [if_pos (by simp only; omega)]; rfl
          rw [this])
        clear hqe
        have e7 : ((kind : Int) == 7) = false := by rw [beq_eq_false_iff_ne]; omega
        have e1 : ((kind : Int) == 1) = true := by rw [beq_iff_eq]; omega
        clear h1 h7
        rcases last_cases o with rfl | ⟨y, HY, hne, hem, hlp, hidx⟩
        · have HF : Hid (X.prF [] ⟨kind, text, r⟩ = q) := hide (by rw [HQ.out, if_neg (by simp)]; rfl)
          have hc1 := cat_eq [] q

          go_wp2
          go_roundw
          case rel => exact ⟨q, i + 1, by go_num, by simp, by omega, by omega, hide (by rw [HO2.out, HF.out]), hb.alloc hb.size _⟩
          case measure => simp [intOf]; omega
        · have n10 : ((y.toNat : Int) != 10) = !decide (y = 10) := by
            have e := u8_eq y 10
            simp only [bne]
            rw [← e]
            rfl
          by_cases h10 : y = 10
          · rw [decide_eq_true h10] at n10
            have HF : Hid (X.prF o ⟨kind, text, r⟩ = o ++ q) := hide (by rw [HQ.out, if_neg (by rw [HY.out, h10]; simp)])
            have hc1 := cat_eq o q
            clear h10

            go_wp2
            go_roundw
            case rel => exact ⟨o ++ q, i + 1, by go_num, rfl, by omega, by rw [List.length_append]; omega, hide (by rw [HO2.out, HF.out]), hb.alloc hb.size _⟩
            case measure => simp [intOf]; omega
          · rw [decide_eq_false h10] at n10
            have HF : Hid (X.prF o ⟨kind, text, r⟩ = o ++ [32] ++ q) := hide (by
              rw [HQ.out, if_pos ⟨hne.out, (by rw [HY.out]; simpa using h10)⟩]
              simp)
            have hc1 := cat_eq o [32]
            have hc2 := cat_eq (o ++ [32]) q
            clear h10

            go_wp2
            go_roundw
            case rel => exact ⟨o ++ [32] ++ q, i + 1, by go_num, by simp, by omega, by rw [List.length_append, List.length_append]; simp; omega, hide (by rw [HO2.out, HF.out]), hb.alloc hb.size _⟩
            case measure => simp [intOf]; omega

      by_cases h2 : kind = 2
      · obtain ⟨q, hqe⟩ : ∃ q, 34 :: (X.quoteB text ++ [34]) = q := ⟨_, rfl⟩
        have hql : q.length ≤ 1410 := by have := quoteB_len text; rw [← hqe]; simp; omega
        have hcon := fun w => quote_any ⟨text.toArray⟩ (show text.length ≤ 100000 by omega) w
        have hbt : bts ⟨text.toArray⟩ = text := rfl
        rw [hbt, hqe] at hcon
        have HQ : Hid (X.prF o ⟨kind, text, r⟩ = if o ≠ [] ∧ o.getLast? ≠ some 10 then o ++ 32 :: q else o ++ q) := hide (by
          unfold X.prF
          rw [if_neg (by simp only; omega)]
          have : X.one ⟨kind, text, r⟩ = some q := by
            rw [← hqe]
            unfold X.one; rw [if_neg (by simp only; omega), if_pos (by simp only; omega)]
          rw [this])
        clear hqe
        have e7 : ((kind : Int) == 7) = false := by rw [beq_eq_false_iff_ne]; omega
        have e1 : ((kind : Int) == 1) = false := by rw [beq_eq_false_iff_ne]; omega
        have e2 : ((kind : Int) == 2) = true := by rw [beq_iff_eq]; omega
        clear h1 h2 h7 hbt
        rcases last_cases o with rfl | ⟨y, HY, hne, hem, hlp, hidx⟩
        · have HF : Hid (X.prF [] ⟨kind, text, r⟩ = q) := hide (by rw [HQ.out, if_neg (by simp)]; rfl)
          have hc1 := cat_eq [] q
          go_wp2_with fail
          refine (hcon _).mono ?_
          rintro e w1 ⟨rfl, hw1⟩
          subst hw1
          go_wp2
          go_roundw
          case rel => exact ⟨q, i + 1, by go_num, by simp, by omega, by omega, hide (by rw [HO2.out, HF.out]), hb.alloc hb.size _⟩
          case measure => simp [intOf]; omega
        · have n10 : ((y.toNat : Int) != 10) = !decide (y = 10) := by
            have e := u8_eq y 10
            simp only [bne]
            rw [← e]
            rfl
          by_cases h10 : y = 10
          · rw [decide_eq_true h10] at n10
            have HF : Hid (X.prF o ⟨kind, text, r⟩ = o ++ q) := hide (by rw [HQ.out, if_neg (by rw [HY.out, h10]; simp)])
            have hc1 := cat_eq o q
            clear h10
            go_wp2_with fail
            refine (hcon _).mono ?_
            rintro e w1 ⟨rfl, hw1⟩
            subst hw1
            go_wp2
            go_roundw
            case rel => exact ⟨o ++ q, i + 1, by go_num, rfl, by omega, by rw [List.length_append]; omega, hide (by rw [HO2.out, HF.out]), hb.alloc hb.size _⟩
            case measure => simp [intOf]; omega
          · rw [decide_eq_false h10] at n10
            have HF : Hid (X.prF o ⟨kind, text, r⟩ = o ++ [32] ++ q) := hide (by
              rw [HQ.out, if_pos ⟨hne.out, (by rw [HY.out]; simpa using h10)⟩]
              simp)
            have hc1 := cat_eq o [32]
            have hc2 := cat_eq (o ++ [32]) q
            clear h10
            go_wp2_with fail
            refine (hcon _).mono ?_
            rintro e w1 ⟨rfl, hw1⟩
            subst hw1
            go_wp2
            go_roundw
            case rel => exact ⟨o ++ [32] ++ q, i + 1, by go_num, by simp, by omega, by rw [List.length_append, List.length_append]; simp; omega, hide (by rw [HO2.out, HF.out]), hb.alloc hb.size _⟩
            case measure => simp [intOf]; omega

      by_cases h3 : kind = 3 ∨ kind = 6 ∨ kind = 8
      · obtain ⟨q, hqe⟩ : ∃ q, text = q := ⟨_, rfl⟩
        have hql : q.length ≤ 1410 := by rw [← hqe]; omega
        have HQ : Hid (X.prF o ⟨kind, text, r⟩ = if o ≠ [] ∧ o.getLast? ≠ some 10 then o ++ 32 :: q else o ++ q) := hide (by
          unfold X.prF
          rw [if_neg (by simp only; omega)]
          have : X.one ⟨kind, text, r⟩ = some q := by
            rw [← hqe]
            unfold X.one; rw [if_neg (by simp only; omega), if_neg (by simp only; omega), if_pos h3]
          rw [this])
        subst hqe

        have e7 : ((kind : Int) == 7) = false := by rw [beq_eq_false_iff_ne]; omega
        have e1 : ((kind : Int) == 1) = false := by rw [beq_eq_false_iff_ne]; omega
        have e2 : ((kind : Int) == 2) = false := by rw [beq_eq_false_iff_ne]; omega
        have hz : ((kind : Int) == 3) = true ∨ (((kind : Int) == 3) = false ∧ ((kind : Int) == 6) = true) ∨ (((kind : Int) == 3) = false ∧ ((kind : Int) == 6) = false ∧ ((kind : Int) == 8) = true) := by
          simp only [beq_iff_eq, beq_eq_false_iff_ne]
          omega
        clear h1 h2 h3 h7
        rcases hz with e3 | ⟨e3, e6⟩ | ⟨e3, e6, e8⟩
        · rcases last_cases o with rfl | ⟨y, HY, hne, hem, hlp, hidx⟩
          · have HF : Hid (X.prF [] ⟨kind, text, r⟩ = text) := hide (by rw [HQ.out, if_neg (by simp)]; rfl)
            have hc1 := cat_eq [] text

            go_wp2
            go_roundw
            case rel => exact ⟨text, i + 1, by go_num, by simp, by omega, by omega, hide (by rw [HO2.out, HF.out]), hb.alloc hb.size _⟩
            case measure => simp [intOf]; omega
          · have n10 : ((y.toNat : Int) != 10) = !decide (y = 10) := by
              have e := u8_eq y 10
              simp only [bne]
              rw [← e]
              rfl
            by_cases h10 : y = 10
            · rw [decide_eq_true h10] at n10
              have HF : Hid (X.prF o ⟨kind, text, r⟩ = o ++ text) := hide (by rw [HQ.out, if_neg (by rw [HY.out, h10]; simp)])
              have hc1 := cat_eq o text
              clear h10

              go_wp2
              go_roundw
              case rel => exact ⟨o ++ text, i + 1, by go_num, rfl, by omega, by rw [List.length_append]; omega, hide (by rw [HO2.out, HF.out]), hb.alloc hb.size _⟩
              case measure => simp [intOf]; omega
            · rw [decide_eq_false h10] at n10
              have HF : Hid (X.prF o ⟨kind, text, r⟩ = o ++ [32] ++ text) := hide (by
                rw [HQ.out, if_pos ⟨hne.out, (by rw [HY.out]; simpa using h10)⟩]
                simp)
              have hc1 := cat_eq o [32]
              have hc2 := cat_eq (o ++ [32]) text
              clear h10

              go_wp2
              go_roundw
              case rel => exact ⟨o ++ [32] ++ text, i + 1, by go_num, by simp, by omega, by rw [List.length_append, List.length_append]; simp; omega, hide (by rw [HO2.out, HF.out]), hb.alloc hb.size _⟩
              case measure => simp [intOf]; omega
        · rcases last_cases o with rfl | ⟨y, HY, hne, hem, hlp, hidx⟩
          · have HF : Hid (X.prF [] ⟨kind, text, r⟩ = text) := hide (by rw [HQ.out, if_neg (by simp)]; rfl)
            have hc1 := cat_eq [] text

            go_wp2
            go_roundw
            case rel => exact ⟨text, i + 1, by go_num, by simp, by omega, by omega, hide (by rw [HO2.out, HF.out]), hb.alloc hb.size _⟩
            case measure => simp [intOf]; omega
          · have n10 : ((y.toNat : Int) != 10) = !decide (y = 10) := by
              have e := u8_eq y 10
              simp only [bne]
              rw [← e]
              rfl
            by_cases h10 : y = 10
            · rw [decide_eq_true h10] at n10
              have HF : Hid (X.prF o ⟨kind, text, r⟩ = o ++ text) := hide (by rw [HQ.out, if_neg (by rw [HY.out, h10]; simp)])
              have hc1 := cat_eq o text
              clear h10

              go_wp2
              go_roundw
              case rel => exact ⟨o ++ text, i + 1, by go_num, rfl, by omega, by rw [List.length_append]; omega, hide (by rw [HO2.out, HF.out]), hb.alloc hb.size _⟩
              case measure => simp [intOf]; omega
            · rw [decide_eq_false h10] at n10
              have HF : Hid (X.prF o ⟨kind, text, r⟩ = o ++ [32] ++ text) := hide (by
                rw [HQ.out, if_pos ⟨hne.out, (by rw [HY.out]; simpa using h10)⟩]
                simp)
              have hc1 := cat_eq o [32]
              have hc2 := cat_eq (o ++ [32]) text
              clear h10

              go_wp2
              go_roundw
              case rel => exact ⟨o ++ [32] ++ text, i + 1, by go_num, by simp, by omega, by rw [List.length_append, List.length_append]; simp; omega, hide (by rw [HO2.out, HF.out]), hb.alloc hb.size _⟩
              case measure => simp [intOf]; omega
        · rcases last_cases o with rfl | ⟨y, HY, hne, hem, hlp, hidx⟩
          · have HF : Hid (X.prF [] ⟨kind, text, r⟩ = text) := hide (by rw [HQ.out, if_neg (by simp)]; rfl)
            have hc1 := cat_eq [] text

            go_wp2
            go_roundw
            case rel => exact ⟨text, i + 1, by go_num, by simp, by omega, by omega, hide (by rw [HO2.out, HF.out]), hb.alloc hb.size _⟩
            case measure => simp [intOf]; omega
          · have n10 : ((y.toNat : Int) != 10) = !decide (y = 10) := by
              have e := u8_eq y 10
              simp only [bne]
              rw [← e]
              rfl
            by_cases h10 : y = 10
            · rw [decide_eq_true h10] at n10
              have HF : Hid (X.prF o ⟨kind, text, r⟩ = o ++ text) := hide (by rw [HQ.out, if_neg (by rw [HY.out, h10]; simp)])
              have hc1 := cat_eq o text
              clear h10

              go_wp2
              go_roundw
              case rel => exact ⟨o ++ text, i + 1, by go_num, rfl, by omega, by rw [List.length_append]; omega, hide (by rw [HO2.out, HF.out]), hb.alloc hb.size _⟩
              case measure => simp [intOf]; omega
            · rw [decide_eq_false h10] at n10
              have HF : Hid (X.prF o ⟨kind, text, r⟩ = o ++ [32] ++ text) := hide (by
                rw [HQ.out, if_pos ⟨hne.out, (by rw [HY.out]; simpa using h10)⟩]
                simp)
              have hc1 := cat_eq o [32]
              have hc2 := cat_eq (o ++ [32]) text
              clear h10

              go_wp2
              go_roundw
              case rel => exact ⟨o ++ [32] ++ text, i + 1, by go_num, by simp, by omega, by rw [List.length_append, List.length_append]; simp; omega, hide (by rw [HO2.out, HF.out]), hb.alloc hb.size _⟩
              case measure => simp [intOf]; omega
      by_cases h4 : kind = 4
      · obtain ⟨q, hqe⟩ : ∃ q, X.codeB (max 0 (min r 1114111)).toNat = q := ⟨_, rfl⟩
        have hql : q.length ≤ 1410 := by
          have := (X.hexd_len 7 (max 0 (min r 1114111)).toNat (by omega)).2
          rw [← hqe]
          unfold X.codeB
          simp
          omega
        have HQ : Hid (X.prF o ⟨kind, text, r⟩ = if o ≠ [] ∧ o.getLast? ≠ some 10 then o ++ 32 :: q else o ++ q) := hide (by
          unfold X.prF
          rw [if_neg (by simp only; omega)]
          have : X.one ⟨kind, text, r⟩ = some q := by
            rw [← hqe]
            unfold X.one; rw [if_neg (by simp only; omega), if_neg (by simp only; omega), if_neg (by simp only; omega), if_pos (by simp only; omega)]
          rw [this])
        have e7 : ((kind : Int) == 7) = false := by rw [beq_eq_false_iff_ne]; omega
        have e1 : ((kind : Int) == 1) = false := by rw [beq_eq_false_iff_ne]; omega
        have e2 : ((kind : Int) == 2) = false := by rw [beq_eq_false_iff_ne]; omega
        have e3 : ((kind : Int) == 3) = false := by rw [beq_eq_false_iff_ne]; omega
        have e6 : ((kind : Int) == 6) = false := by rw [beq_eq_false_iff_ne]; omega
        have e8 : ((kind : Int) == 8) = false := by rw [beq_eq_false_iff_ne]; omega
        have e4 : ((kind : Int) == 4) = true := by rw [beq_iff_eq]; omega
        clear h1 h2 h3 h4 h7
        have hcon := fun w => code_any (max 0 (min r 1114111)) (by omega) (by omega) w
        rw [hqe] at hcon
        clear hqe
        rcases last_cases o with rfl | ⟨y, HY, hne, hem, hlp, hidx⟩
        · have HF : Hid (X.prF [] ⟨kind, text, r⟩ = q) := hide (by rw [HQ.out, if_neg (by simp)]; rfl)
          have hc1 := cat_eq [] q
          go_wp2_with fail
          refine (hcon _).mono ?_
          rintro e w1 ⟨rfl, hw1⟩
          subst hw1
          go_wp2
          go_roundw
          case rel => exact ⟨q, i + 1, by go_num, by simp, by omega, by omega, hide (by rw [HO2.out, HF.out]), hb.alloc hb.size _⟩
          case measure => simp [intOf]; omega
        · have n10 : ((y.toNat : Int) != 10) = !decide (y = 10) := by
            have e := u8_eq y 10
            simp only [bne]
            rw [← e]
            rfl
          by_cases h10 : y = 10
          · rw [decide_eq_true h10] at n10
            have HF : Hid (X.prF o ⟨kind, text, r⟩ = o ++ q) := hide (by rw [HQ.out, if_neg (by rw [HY.out, h10]; simp)])
            have hc1 := cat_eq o q
            clear h10
            go_wp2_with fail
            refine (hcon _).mono ?_
            rintro e w1 ⟨rfl, hw1⟩
            subst hw1
            go_wp2
            go_roundw
            case rel => exact ⟨o ++ q, i + 1, by go_num, rfl, by omega, by rw [List.length_append]; omega, hide (by rw [HO2.out, HF.out]), hb.alloc hb.size _⟩
            case measure => simp [intOf]; omega
          · rw [decide_eq_false h10] at n10
            have HF : Hid (X.prF o ⟨kind, text, r⟩ = o ++ [32] ++ q) := hide (by
              rw [HQ.out, if_pos ⟨hne.out, (by rw [HY.out]; simpa using h10)⟩]
              simp)
            have hc1 := cat_eq o [32]
            have hc2 := cat_eq (o ++ [32]) q
            clear h10
            go_wp2_with fail
            refine (hcon _).mono ?_
            rintro e w1 ⟨rfl, hw1⟩
            subst hw1
            go_wp2
            go_roundw
            case rel => exact ⟨o ++ [32] ++ q, i + 1, by go_num, by simp, by omega, by rw [List.length_append, List.length_append]; simp; omega, hide (by rw [HO2.out, HF.out]), hb.alloc hb.size _⟩
            case measure => simp [intOf]; omega

      by_cases h5 : kind = 5
      · obtain ⟨q, hqe⟩ : ∃ q, (123 :: text) ++ [125] = q := ⟨_, rfl⟩
        have hql : q.length ≤ 1410 := by rw [← hqe]; simp; omega
        have hcq := cat_eq [123] text
        have hcq2 := cat_eq (123 :: text) [125]
        rw [hqe] at hcq2
        have HQ : Hid (X.prF o ⟨kind, text, r⟩ = if o ≠ [] ∧ o.getLast? ≠ some 10 then o ++ 32 :: q else o ++ q) := hide (by
          unfold X.prF
          rw [if_neg (by simp only; omega)]
          have : X.one ⟨kind, text, r⟩ = some q := by
            rw [← hqe]
            unfold X.one; rw [if_neg (by simp only; omega), if_neg (by simp only; omega), if_neg (by simp only; omega), if_neg (by simp only; omega), if_pos (by simp only; omega)]; rfl
          rw [this])
        clear hqe
        have e7 : ((kind : Int) == 7) = false := by rw [beq_eq_false_iff_ne]; omega
        have e1 : ((kind : Int) == 1) = false := by rw [beq_eq_false_iff_ne]; omega
        have e2 : ((kind : Int) == 2) = false := by rw [beq_eq_false_iff_ne]; omega
        have e3 : ((kind : Int) == 3) = false := by rw [beq_eq_false_iff_ne]; omega
        have e6 : ((kind : Int) == 6) = false := by rw [beq_eq_false_iff_ne]; omega
        have e8 : ((kind : Int) == 8) = false := by rw [beq_eq_false_iff_ne]; omega
        have e4 : ((kind : Int) == 4) = false := by rw [beq_eq_false_iff_ne]; omega
        have e5 : ((kind : Int) == 5) = true := by rw [beq_iff_eq]; omega
        clear h1 h2 h3 h4 h5 h7
        rcases last_cases o with rfl | ⟨y, HY, hne, hem, hlp, hidx⟩
        · have HF : Hid (X.prF [] ⟨kind, text, r⟩ = q) := hide (by rw [HQ.out, if_neg (by simp)]; rfl)
          have hc1 := cat_eq [] q

          go_wp2
          go_roundw
          case rel => exact ⟨q, i + 1, by go_num, by simp, by omega, by omega, hide (by rw [HO2.out, HF.out]), hb.alloc hb.size _⟩
          case measure => simp [intOf]; omega
        · have n10 : ((y.toNat : Int) != 10) = !decide (y = 10) := by
            have e := u8_eq y 10
            simp only [bne]
            rw [← e]
            rfl
          by_cases h10 : y = 10
          · rw [decide_eq_true h10] at n10
            have HF : Hid (X.prF o ⟨kind, text, r⟩ = o ++ q) := hide (by rw [HQ.out, if_neg (by rw [HY.out, h10]; simp)])
            have hc1 := cat_eq o q
            clear h10

            go_wp2
            go_roundw
            case rel => exact ⟨o ++ q, i + 1, by go_num, rfl, by omega, by rw [List.length_append]; omega, hide (by rw [HO2.out, HF.out]), hb.alloc hb.size _⟩
            case measure => simp [intOf]; omega
          · rw [decide_eq_false h10] at n10
            have HF : Hid (X.prF o ⟨kind, text, r⟩ = o ++ [32] ++ q) := hide (by
              rw [HQ.out, if_pos ⟨hne.out, (by rw [HY.out]; simpa using h10)⟩]
              simp)
            have hc1 := cat_eq o [32]
            have hc2 := cat_eq (o ++ [32]) q
            clear h10

            go_wp2
            go_roundw
            case rel => exact ⟨o ++ [32] ++ q, i + 1, by go_num, by simp, by omega, by rw [List.length_append, List.length_append]; simp; omega, hide (by rw [HO2.out, HF.out]), hb.alloc hb.size _⟩
            case measure => simp [intOf]; omega

      · have HF : Hid (X.prF o ⟨kind, text, r⟩ = o) := hide (by
          unfold X.prF
          rw [if_neg (by simp only; omega)]
          have : X.one ⟨kind, text, r⟩ = none := by
            unfold X.one
            rw [if_neg (by simp only; omega), if_neg (by simp only; omega), if_neg (by simp only; omega), if_neg (by simp only; omega), if_neg (by simp only; omega)]
          rw [this])
        have e7 : ((kind : Int) == 7) = false := by rw [beq_eq_false_iff_ne]; omega
        have e1 : ((kind : Int) == 1) = false := by rw [beq_eq_false_iff_ne]; omega
        have e2 : ((kind : Int) == 2) = false := by rw [beq_eq_false_iff_ne]; omega
        have e3 : ((kind : Int) == 3) = false := by rw [beq_eq_false_iff_ne]; omega
        have e6 : ((kind : Int) == 6) = false := by rw [beq_eq_false_iff_ne]; omega
        have e8 : ((kind : Int) == 8) = false := by rw [beq_eq_false_iff_ne]; omega
        have e4 : ((kind : Int) == 4) = false := by rw [beq_eq_false_iff_ne]; omega
        have e5 : ((kind : Int) == 5) = false := by rw [beq_eq_false_iff_ne]; omega
        clear h1 h2 h3 h4 h5 h7
        go_wp2
        go_roundw
        case rel => exact ⟨o, i + 1, by go_num, rfl, by omega, by omega, hide (by rw [HO2.out, HF.out]), hb.alloc hb.size _⟩
        case measure => simp [intOf]; omega
    · obtain rfl : i = l.length := by omega
      have HF : Hid (X.printL (l.map Prod.fst) = o) := hide (by
        have := HO.out
        rw [List.take_length] at this
        exact this)
      clear HO
      go_wp2
      go_ret
      exact ⟨by rw [HF.out]; rfl, hb⟩
set_option maxRecDepth 100000 in
set_option maxHeartbeats 1000000 in
theorem same_any (ao bo : Option Addr) (ca cb : Nat) (l m : List (X.Tk × Nat)) (hl : l.length ≤ 100000) (w : World) (hr : RdK w ao l) (hs : RdK w bo m) : Calls Tryz.prog 7 #[.slice ao l.length ca, .slice bo m.length cb] w fun e w' => (∃ b, e = .returned (.bool b) ∧ (b = true ↔ l = m)) ∧ Below w.heap.size w w' := by
  by_cases hne : l.length = m.length
  · have hq : ((l.length : Int) != (m.length : Int)) = false := by simp [hne]
    have HNE := hide hne
    clear hne
    go_enter Tryz.func7, Tryz.ntmps7
    go_wp2
    go_loopw [5] (fun u wr => ∃ i : Nat, u = .int .i64 (i : Int) ∧ i ≤ l.length ∧ Hid (l.take i = m.take i) ∧ Below w.heap.size w wr) (fun u _ => l.length - (intOf u).toNat)
    case atStart => exact ⟨0, rfl, Nat.zero_le _, hide rfl, Below.refl _ _⟩
    case round =>
      obtain ⟨i, rfl, hi, HT, hb⟩ := hrel
      by_cases hlt : i < l.length
      · have hlt2 : i < m.length := by rw [← HNE.out]; exact hlt
        obtain ⟨b, off, rfl, c0, c1, c2, c3⟩ := (hr.later hb) i hlt
        obtain ⟨b', off', rfl, d0, d1, d2, d3⟩ := (hs.later hb) i hlt2
        have HX : Hid (l.take (i + 1) = l.take i ++ [l[i]]) := List.take_succ_eq_append_getElem hlt
        have HY : Hid (m.take (i + 1) = m.take i ++ [m[i]]) := List.take_succ_eq_append_getElem hlt2
        have HXe : Hid (l = m → l[i] = m[i]) := fun e => by simp only [e]
        generalize l[i] = x at *
        generalize m[i] = y at *
        obtain ⟨⟨k1, t1, r1⟩, a1⟩ := x
        obtain ⟨⟨k2, t2, r2⟩, a2⟩ := y
        simp only at c0 c1 c2 c3 d0 d1 d2 d3
        clear hr hs
        have hix := elemSize23
        by_cases e1 : k1 = k2
        · subst e1
          by_cases e2 : a1 = a2
          · subst e2
            by_cases e3 : t1 = t2
            · subst e3
              by_cases e4 : r1 = r2
              · subst e4
                go_wp2_with fail
                go_quiet (fail)
                go_wp2
                go_roundw
                case rel => exact ⟨i + 1, by go_num, by omega, by show _ = _; rw [HX.out, HY.out, HT.out], below_drewN hb nq⟩
                case measure => simp [intOf]; omega
              · have HN : Hid (¬ l = m) := fun e => e4 (by have := HXe.out e; simp at this; exact this)
                have q4 : (r1 == r2) = false := by simpa using e4
                go_wp2_with fail
                go_quiet (fail)
                go_wp2
                go_ret
                exact ⟨⟨_, rfl, fun h => (by cases h), fun h => absurd h HN.out⟩, below_drewN hb nq⟩
            · have HN : Hid (¬ l = m) := fun e => e3 (by have := HXe.out e; simp at this; exact this.1)
              have q3 : (t1 == t2) = false := by simpa using e3
              go_wp2_with fail
              go_quiet (fail)
              go_wp2
              go_ret
              exact ⟨⟨_, rfl, fun h => (by cases h), fun h => absurd h HN.out⟩, below_drewN hb nq⟩
          · have HN : Hid (¬ l = m) := fun e => e2 (by have := HXe.out e; simp at this; exact this.2)
            have q2 : (a1 == a2) = false := by simpa using e2
            go_wp2_with fail
            go_quiet (fail)
            go_wp2
            go_ret
            exact ⟨⟨_, rfl, fun h => (by cases h), fun h => absurd h HN.out⟩, below_drewN hb nq⟩
        · have HN : Hid (¬ l = m) := fun e => e1 (by have := HXe.out e; simp at this; exact this.1.1)
          have q1 : (k1 == k2) = false := by simpa using e1
          go_wp2_with fail
          go_quiet (fail)
          go_wp2
          go_ret
          exact ⟨⟨_, rfl, fun h => (by cases h), fun h => absurd h HN.out⟩, below_drewN hb nq⟩
      · obtain rfl : i = l.length := by omega
        have HE : Hid (l = m) := by
          have := HT.out
          rw [List.take_length, HNE.out, List.take_length] at this
          exact this
        clear HT
        go_wp2
        go_ret
        exact ⟨⟨_, rfl, fun _ => HE.out, fun _ => rfl⟩, hb⟩
  · have hq : ((l.length : Int) != (m.length : Int)) = true := by simp; omega
    have HN : Hid (¬ l = m) := hide (fun e => hne (by rw [e]))
    clear hne
    go_enter Tryz.func7, Tryz.ntmps7
    go_wp2
    go_ret
    exact ⟨⟨_, rfl, fun h => (by cases h), fun h => absurd h HN.out⟩, Below.refl _ _⟩
end Go.Proofs.YtidpalighpdlfaaGreatDoor
