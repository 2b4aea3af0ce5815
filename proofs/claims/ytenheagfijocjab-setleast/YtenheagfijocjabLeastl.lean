/- The walk of SetLeast: it answers true whatever the list; nothing that was there has turned. -/
import Derived.Test.YtenheagfijocjabKnown
import Derived.Test.YtenheagfijocjabLeast
namespace Go.Proofs.Ytenheagfijocjab
open Go.RowKit Go.Shelf

theorem hB_eq {l : List S.R} {p : Int} {b : Bool} (h : S.hs l p ↔ b = true) : S.hB l p = b := by
  rw [Bool.eq_iff_iff, S.hB_iff]; exact h
theorem inter_length (a b : List S.R) : (S.inter a b).length ≤ a.length + b.length := by
  have h1 := S.common_length _ (S.set a) (S.set b) (Nat.le_refl _)
  have h2 := S.set_length a
  have h3 := S.set_length b
  show (S.common (S.set a) (S.set b)).length ≤ _
  omega
theorem minus_length (a b : List S.R) : (S.minus a b).length ≤ a.length + b.length + 1 := by
  have h1 := S.common_length _ (S.set a) (S.not b) (Nat.le_refl _)
  have h2 := S.set_length a
  have h3 := S.set_length b
  have h4 : (S.not b).length ≤ (S.set b).length + 1 := S.gaps_length (S.set b) 0
  show (S.common (S.set a) (S.not b)).length ≤ _
  omega
theorem canon32 {l : List S.R} (h : S.Canon l) : ∀ r ∈ l, -2147483648 ≤ r.1 ∧ r.1 ≤ 2147483647 ∧ -2147483648 ≤ r.2 ∧ r.2 ≤ 2147483647 := fun r hr => by
  have := (S.good_iff r).1 (h.good r hr)
  omega
theorem count_nn (l : List S.R) : 0 ≤ S.count (S.set l) ∧ S.count (S.set l) ≤ 1114112 * (l.length : Int) := by
  have h1 := count_bounds (zs := S.set l) (fun r hr => (S.set_canon l).good r hr)
  have h2 := S.set_length l
  omega

/-- Of a list of none. -/
theorem low_none {xs : List S.R} (h : (S.low (S.goods xs)).2 = false) : (S.low (S.goods xs)).1 = 0 ∧ S.set xs = [] ∧ S.set (xs ++ []) = [] := by
  have h1 := S.low_spec (S.goods xs)
  have hg : S.goods xs = [] := by
    cases hq : S.goods xs with
    | nil => rfl
    | cons y l => rw [hq] at h h1; rw [h1.1.2 (by simp)] at h; cases h
  have h2 : S.set xs = [] := (S.set_eq S.canon_nil fun p => by rw [S.hs, hg]).symm
  exact ⟨h1.2.1 h, h2, by rw [List.append_nil]; exact h2⟩
/-- Of a list of some. -/
theorem low_some {xs : List S.R} {l : Int} (h : S.low (S.goods xs) = (l, true)) : 0 ≤ l ∧ l ≤ 1114111 ∧ S.hB xs l = true ∧ S.inter xs [(0, l)] = [(l, l)] ∧ S.count (S.set xs) = S.count (S.set (S.minus xs [(l, l)])) + 1 ∧ S.hB (S.minus xs [(l, l)]) l = false := by
  have h1 := (S.low_spec (S.goods xs)).2.2 (by rw [h])
  rw [h] at h1
  obtain ⟨⟨r, hr, e⟩, hmin⟩ := h1
  simp only at e hmin
  have hgr := (S.good_iff r).1 (S.goods_good hr)
  have hl : S.hs xs l := ⟨r, hr, by omega, by omega⟩
  have hb := S.hs_bounds hl
  have hge : ∀ p, S.hs xs p → l ≤ p := by
    rintro p ⟨r', hr', h2, h3⟩
    have := hmin r' hr'
    omega
  have hg1 : S.good (l, l) = true := (S.good_iff _).2 ⟨hb.1, Int.le_refl _, hb.2⟩
  have hg0 : S.good (0, l) = true := (S.good_iff _).2 ⟨by simp, hb.1, hb.2⟩
  have hs1 : ∀ p, S.hs [(l, l)] p ↔ p = l := fun p => by
    rw [(S.canon_one hg1).hs, S.has_cons]
    simp only [S.has_nil, or_false]
    omega
  have hs0 : ∀ p, S.hs [(0, l)] p ↔ 0 ≤ p ∧ p ≤ l := fun p => by
    rw [(S.canon_one hg0).hs, S.has_cons]
    simp only [S.has_nil, or_false]
  refine ⟨hb.1, hb.2, (S.hB_iff xs l).2 hl, ?_, ?_, ?_⟩
  · refine S.canon_eq (S.inter_canon _ _) (S.canon_one hg1) fun p => ?_
    rw [S.inter_has, hs0, ← (S.canon_one hg1).hs, hs1]
    constructor
    · rintro ⟨h2, h3⟩
      have := hge p h2
      omega
    · rintro rfl
      exact ⟨hl, hb.1, Int.le_refl _⟩
  · have h2 := S.count_add (S.minus_canon xs [(l, l)]) (S.canon_one hg1) (S.set_canon xs) S.canon_nil (fun p => by
      rw [S.set_has, S.minus_has, hs1, ← (S.canon_one hg1).hs, hs1]
      constructor
      · intro h2
        by_cases h3 : p = l
        · exact .inr h3
        · exact .inl ⟨h2, h3⟩
      · rintro (h2 | rfl)
        · exact h2.1
        · exact hl) (fun p => by
      rw [S.minus_has, hs1, ← (S.canon_one hg1).hs, hs1]
      constructor
      · intro hh; exact absurd hh (S.has_nil p)
      · rintro ⟨⟨_, h2⟩, h3⟩; exact absurd h3 h2)
    rw [S.set_self (S.minus_canon xs [(l, l)])]
    have e1 : S.count [] = 0 := rfl
    have e2 : S.count [(l, l)] = 1 := by simp [S.count]
    omega
  · refine hB_eq ?_
    rw [(S.minus_canon _ _).hs, S.minus_has, hs1]
    simp

set_option maxRecDepth 100000 in
set_option maxHeartbeats 4000000 in
theorem leastl_any (ao : Option Addr) (ca : Nat) (xs : List S.R) (hm : xs.length ≤ 9223372036854775807) (w : World) (h : RdR w ao xs) :
    Calls Try.prog 3 #[.slice ao xs.length ca] w fun e w' => e = .returned (.bool true) ∧ Below w.heap.size w w' := by
  by_cases hbig : 40 < xs.length
  · go_enter Try.func3, Try.ntmps3
    go_wp2_with fail
    refine (known_any w).mono ?_
    rintro e w1 ⟨rfl, hb1⟩
    go_wp2
    go_ret
    exact ⟨rfl, hb1⟩
  clear hm
  have hleast := fun W hW => least_any ao ca xs (by omega) W hW
  have hcnt := fun W hW => count_any ao ca xs (by omega) W hW
  have hnn := count_nn xs
  cases hq : S.low (S.goods xs) with
  | mk l f =>
  cases f with
  | false =>
    obtain ⟨e1, e2, e3⟩ := low_none (xs := xs) (by rw [hq])
    rw [hq] at hleast e1
    simp only at hleast e1
    subst e1
    rw [e2] at hcnt
    rw [show S.count [] = 0 from rfl] at hcnt
    have HU := hide e3
    clear e2 e3 hq hnn
    go_enter Try.func3, Try.ntmps3
    go_wp2_with fail
    refine (known_any w).mono ?_
    rintro e w1 ⟨rfl, hb1⟩
    go_wp2_with fail
    refine (hleast w1 (h.later hb1)).mono ?_
    rintro e w2 ⟨rfl, hb2⟩
    replace hb1 := nx hb1 hb2
    go_wp2_with fail
    refine (hcnt w2 (h.later hb1)).mono ?_
    rintro e w3 ⟨rfl, hb3⟩
    replace hb1 := nx hb1 hb3
    clear hleast hcnt
    go_wp2_with fail
    refine (union_any ao none ca 0 xs [] (by simp; omega) w3 (h.later hb1) (rdr_nil _ _)).mono ?_
    rintro e w4 ⟨a4, c4, rfl, _, _, hb4⟩
    rw [HU.out]
    simp only [List.length_nil]
    go_wp2
    go_ret
    exact ⟨rfl, nx hb1 hb4⟩
  | true =>
    obtain ⟨l0, l1, e1, e2, e3, e4⟩ := low_some hq
    rw [hq] at hleast
    simp only at hleast
    have hgl : S.good (l, l) = true := (S.good_iff _).2 ⟨l0, Int.le_refl _, l1⟩
    have hml := minus_length xs [(l, l)]
    simp only [List.length_singleton] at hml
    have hmn := fun (W : World) hW hW' => minus_any ao (some ⟨W.heap.size, 0, none⟩) ca 1 xs [(l, l)] (by omega) (by simp) (W.alloc (.cells #[.int .i32 l, .int .i32 l] 29)) hW hW'
    have HI := hide e2
    have hQ := S.minus_canon xs [(l, l)]
    have hnm := count_nn (S.minus xs [(l, l)])
    obtain ⟨bl, hbl⟩ : ∃ bl, S.minus xs [(l, l)] = bl := ⟨_, rfl⟩
    rw [hbl] at hmn hml hQ hnm e3 e4
    obtain ⟨cb, hcb⟩ : ∃ c, S.count (S.set bl) = c := ⟨_, rfl⟩
    obtain ⟨cx, hcx⟩ : ∃ c, S.count (S.set xs) = c := ⟨_, rfl⟩
    rw [hcb] at e3 hnm
    rw [hcx] at e3 hnn hcnt
    have HCB := hide hcb
    have H1 := hide e1
    have H4 := hide e4
    have K := canon32 hQ
    have HQ := hide hQ
    clear e1 e2 e4 hbl hcx hQ hq hgl
    obtain rfl : cb = cx - 1 := by omega
    clear e3 hcb
    go_enter Try.func3, Try.ntmps3
    go_wp2_with fail
    refine (known_any w).mono ?_
    rintro e w1 ⟨rfl, hb1⟩
    go_wp2_with fail
    refine (hleast w1 (h.later hb1)).mono ?_
    rintro e w2 ⟨rfl, hb2⟩
    replace hb1 := nx hb1 hb2
    go_wp2_with fail
    refine (hcnt w2 (h.later hb1)).mono ?_
    rintro e w3 ⟨rfl, hb3⟩
    replace hb1 := nx hb1 hb3
    clear hleast hcnt
    go_wp2_with fail
    refine (hmn w3 ((h.later hb1).later (al1 _ _)) (rdr_new w3 l l 29)).mono ?_
    rintro e w4 ⟨a4, c4, rfl, hr4, _, hb4⟩
    replace hb1 := nx (nx hb1 (al1 w3 _)) hb4
    clear hmn
    go_wp2_with fail
    refine (inter_any ao (some ⟨w4.heap.size, 0, none⟩) ca 1 xs [(0, l)] (by omega) (by simp) _ ((h.later hb1).later (al1 _ _)) (rdr_new w4 0 l 29)).mono ?_
    rintro e w5 ⟨a5, c5, rfl, hr5, _, hb5⟩
    replace hb5 := nx (al1 w4 _) hb5
    replace hb1 := nx hb1 hb5
    replace hr4 := hr4.later hb5
    rw [HI.out] at hr5 ⊢
    simp only [List.length_singleton]
    go_wp2_with fail
    refine (has_any ao ca xs l (by omega) w5 (h.later hb1)).mono ?_
    rintro e w6 ⟨rfl, hb6⟩
    rw [H1.out]
    replace hb1 := nx hb1 hb6
    replace hr4 := hr4.later hb6
    replace hr5 := hr5.later hb6
    obtain ⟨b, off, rfl, hd1, hd2⟩ := hr5 0 (by simp)
    simp only [List.getElem_cons_zero, Nat.zero_mul, Nat.add_zero] at hd1 hd2
    go_wp2_with fail
    refine (count_any a4 c4 bl (by omega) w6 hr4).mono ?_
    rintro e w7 ⟨rfl, hb7⟩
    rw [HCB.out]
    replace hb1 := nx hb1 hb7
    replace hr4 := hr4.later hb7
    clear hd1 hd2 hr5
    go_wp2_with fail
    refine (is_any a4 c4 bl K (by omega) w7 hr4).mono ?_
    rintro e w8 ⟨⟨b8, rfl, h8⟩, hb8⟩
    obtain rfl : b8 = true := h8.2 HQ.out
    replace hb1 := nx hb1 hb8
    replace hr4 := hr4.later hb8
    clear h8
    go_wp2_with fail
    refine (has_any a4 c4 bl l (by omega) w8 hr4).mono ?_
    rintro e w9 ⟨rfl, hb9⟩
    rw [H4.out]
    go_wp2
    go_ret
    exact ⟨rfl, nx hb1 hb9⟩
end Go.Proofs.Ytenheagfijocjab
