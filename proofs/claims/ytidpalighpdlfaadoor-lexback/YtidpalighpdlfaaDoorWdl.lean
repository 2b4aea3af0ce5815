/- What LexWords says: the walk. -/
import Derived.Test.YtidpalighpdlfaaDoorChl
namespace Go.Proofs.YtidpalighpdlfaaDoor
open Go.RowKit

def prB (c : UInt8) : Bool := decide (32 ≤ c.toNat) && decide (c.toNat < 127)
theorem str_self (s : ByteArray) : (s.toList == s.toList) = true := by simp
set_option maxRecDepth 100000 in
set_option maxHeartbeats 1000000 in
theorem words_any (s : ByteArray) (w : World) (ht : Tabs w) (hd : Deb w) : Calls Tryd.prog 6 #[.string s] w fun e w' => e = .returned (.bool true) ∧ Below w.heap.size w w' := by
  have hk := known_any w ht hd
  by_cases h200 : 200 < s.size
  · have g1 : decide ((200 : Int) < (s.size : Int)) = true := decide_eq_true (by omega)
    go_enter Tryd.func6, Tryd.ntmps6
    go_wp2_with fail
    refine hk.mono ?_
    rintro e w1 ⟨rfl, hb1⟩
    go_wp2
    go_ret
    exact ⟨rfl, hb1⟩
  have g1 : decide ((200 : Int) < (s.size : Int)) = false := decide_eq_false (by omega)
  go_enter Tryd.func6, Tryd.ntmps6
  go_wp2_with fail
  refine hk.mono ?_
  rintro e w1 ⟨rfl, hb1⟩
  clear hk
  go_wp2
  go_loopw [3, 4] (fun q u wr => ∃ i : Nat, u = .int .i64 (i : Int) ∧ i ≤ s.size ∧ q = .bool (((bts s).take i).all prB) ∧ wr = w1) (fun _ u _ => s.size - (intOf u).toNat)
  case atStart => exact ⟨0, rfl, Nat.zero_le _, rfl, by first | rfl | trivial⟩
  case round =>
    obtain ⟨i, rfl, hi, rfl, hwr⟩ := hrel
    obtain rfl := hwr.symm
    clear hwr
    by_cases hlt : i < s.size
    · have hl : i < (bts s).length := hlt
      have hx := fun j hj h => idx_at (s := s) hl j hj h
      have HT : Hid (((bts s).take (i + 1)).all prB = (((bts s).take i).all prB && prB (bts s)[i])) := hide (by rw [take_snoc0 hl, List.all_append, List.all_cons, List.all_nil, Bool.and_true])
      generalize (bts s)[i] = c at *
      have hx2 : ∀ h, s[i]'h = c := fun h => hx (i : Int) rfl h
      clear hx
      generalize ((bts s).take i).all prB = b at *
      cases b with
      | false =>
        have HT2 : Hid (((bts s).take (i + 1)).all prB = false) := hide (by rw [HT.out]; rfl)
        clear HT
        go_wp2
        go_roundw
        case rel => exact ⟨i + 1, by go_num, by omega, by rw [HT2.out], by first | rfl | trivial⟩
        case measure => simp [intOf]; omega
      | true =>
        by_cases h32 : 32 ≤ c.toNat
        · have g2 : decide ((32 : Int) ≤ (c.toNat : Int)) = true := decide_eq_true (by omega)
          have g3 : decide ((c.toNat : Int) < 127) = prB c := by
            unfold prB
            rw [decide_eq_true h32, Bool.true_and]
            exact decide_eq_decide.2 (by omega)
          have HT2 : Hid (((bts s).take (i + 1)).all prB = prB c) := hide (by rw [HT.out]; rfl)
          clear HT
          generalize prB c = lo at *
          go_wp2
          go_roundw
          case rel => exact ⟨i + 1, by go_num, by omega, by rw [HT2.out], by first | rfl | trivial⟩
          case measure => simp [intOf]; omega
        · have g2 : decide ((32 : Int) ≤ (c.toNat : Int)) = false := decide_eq_false (by omega)
          have HT2 : Hid (((bts s).take (i + 1)).all prB = false) := hide (by rw [HT.out]; simp [prB]; omega)
          clear HT
          go_wp2
          go_roundw
          case rel => exact ⟨i + 1, by go_num, by omega, by rw [HT2.out], by first | rfl | trivial⟩
          case measure => simp [intOf]; omega
    · obtain rfl : i = s.size := by omega
      rw [show (bts s).take s.size = bts s from List.take_of_length_le (Nat.le_refl _)]
      cases hall : (bts s).all prB with
      | false =>
        clear hall
        go_wp2
        go_ret
        exact ⟨rfl, hb1⟩
      | true =>
        have hpr : ∀ c ∈ bts s, 32 ≤ c.toNat ∧ c.toNat < 127 := fun c hc => by
          have := List.all_eq_true.1 hall c hc
          simpa [prB] using this
        have hs1 := scan_of (X.scan_word hpr) (by have := quoteB_len (bts s); rw [bts_len] at this; simp; omega)
        have hs2 := scan_of (X.scan_open (bts s)) (by have := quoteB_len (bts s); rw [bts_len] at this; simp; omega)
        have hs3 := scan_of X.scan_feed (by decide)
        have hqu := quote_any s (by omega)
        have hql := quoteB_len (bts s)
        rw [bts_len] at hql
        have hext : (⟨(34 :: (X.quoteB (bts s) ++ [34])).toArray⟩ : ByteArray).extract 0 ((X.quoteB (bts s)).length + 1) = ⟨(34 :: X.quoteB (bts s)).toArray⟩ := by
          have e := bts_take ⟨(34 :: (X.quoteB (bts s) ++ [34])).toArray⟩ ((X.quoteB (bts s)).length + 1)
          rw [show bts ⟨(34 :: (X.quoteB (bts s) ++ [34])).toArray⟩ = 34 :: (X.quoteB (bts s) ++ [34]) from rfl, List.take_succ_cons, List.take_left' rfl] at e
          rw [← mk_bts (ByteArray.extract _ _ _), e]
        have hsize : (⟨(34 :: (X.quoteB (bts s) ++ [34])).toArray⟩ : ByteArray).size = (X.quoteB (bts s)).length + 2 := by show (34 :: (X.quoteB (bts s) ++ [34])).toArray.size = _; simp
        have hcat := cat_eq [55, 32] (34 :: X.quoteB (bts s))
        have hss := str_self s
        obtain ⟨n, hn⟩ : ∃ n, (X.quoteB (bts s)).length = n := ⟨_, rfl⟩
        rw [hn] at hext hsize hql
        obtain ⟨q, hq⟩ : ∃ q : ByteArray, ⟨(34 :: (X.quoteB (bts s) ++ [34])).toArray⟩ = q := ⟨_, rfl⟩
        obtain ⟨q2, hq2⟩ : ∃ q2 : ByteArray, ⟨(34 :: X.quoteB (bts s)).toArray⟩ = q2 := ⟨_, rfl⟩
        obtain ⟨q3, hq3⟩ : ∃ q3 : ByteArray, ⟨([55, 32] ++ 34 :: X.quoteB (bts s)).toArray⟩ = q3 := ⟨_, rfl⟩
        rw [hq] at hs1 hqu hext hsize
        rw [hq2] at hext hcat
        rw [hq3] at hcat
        have hs2' : ∀ W, Tabs W → Calls Tryd.prog 9 #[.string q3] W fun e W' => AnsX (.error 2) W.heap.size e W' ∧ Below W.heap.size W W' := by rw [← hq3]; exact hs2
        have hq2s : q2.size = n + 1 := by rw [← hq2]; show (34 :: X.quoteB (bts s)).toArray.size = _; simp [hn]
        have HS1 := hide hs1
        have HS2 := hide hs2'
        have HS3 := hide hs3
        clear hs1 hs2 hs2' hs3 hq hq2 hq3 hn hall hpr
        go_wp2_with fail
        refine (hqu w1).mono ?_
        rintro e w2 ⟨rfl, rfl⟩
        go_wp2_with fail
        refine (HS1.out _ (ht.later hb1)).mono ?_
        rintro e w3 ⟨ha, hb3⟩
        obtain ⟨v1, rfl, hv1⟩ := ha.ok
        have hbA := nx hb1 hb3
        clear ha
        go_wp2_with fail
        refine (HS2.out _ (ht.later hbA)).mono ?_
        rintro e w4 ⟨ha, hb4⟩
        obtain rfl := ha.err
        have hbB := nx hbA hb4
        clear ha
        go_wp2_with fail
        refine (HS3.out _ (ht.later hbB)).mono ?_
        rintro e w5 ⟨ha, hb5⟩
        obtain rfl := ha.err
        have hbC := nx hbB hb5
        obtain ⟨b1, o1, cap1, rfl, x0, x2, x3, x5⟩ := two_rd hv1 (nx hb4 hb5)
        have hix := elemSize23
        simp only [show ((2 : Nat) : Int) = 2 from rfl] at x0
        simp only [mk_bts] at x2
        clear ha hv1 hqu
        go_wp2
        go_ret
        exact ⟨rfl, hbC⟩
end Go.Proofs.YtidpalighpdlfaaDoor
