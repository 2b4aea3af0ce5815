/- The walk of SetBounds: it answers true whatever the two numbers; nothing that was there has turned. -/
import Derived.Test.YtenheagfijocjaaKnown
namespace Go.Proofs.Ytenheagfijocjaa
open Go.RowKit Go.Shelf

theorem norm_good {lo hi : Int} (h : S.good (lo, hi) = true) : normL [(lo, hi)] = [(lo, hi)] ∧ normE [(lo, hi)] = 0 := by
  unfold normL normE
  rw [S.set_self (S.canon_one h)]
  have hc : ([(lo, hi)].all S.good) = true ∧ [(lo, hi)].length ≤ 200 := ⟨by simp [h], by simp⟩
  rw [if_pos hc, if_pos hc]
  exact ⟨rfl, rfl⟩
theorem norm_bad {lo hi : Int} (h : S.good (lo, hi) = false) : normL [(lo, hi)] = [] ∧ normE [(lo, hi)] = 30 := by
  unfold normL normE
  have hc : ¬ (([(lo, hi)].all S.good) = true ∧ (S.set [(lo, hi)]).length ≤ 200) := fun hh => by
    have := hh.1
    simp [h] at this
  rw [if_neg hc, if_neg hc]
  exact ⟨rfl, rfl⟩
theorem set_bad {lo hi : Int} (h : S.good (lo, hi) = false) : S.set ([(lo, hi)] ++ []) = [] := (S.set_eq S.canon_nil fun p => by
  rw [S.hs, show S.goods ([(lo, hi)] ++ []) = [] by simp [S.goods, h]]).symm
theorem not_len {lo hi : Int} (h : S.good (lo, hi) = true) : (S.not [(lo, hi)]).length = (if 0 < lo then 1 else 0) + (if hi = 1114111 then 0 else 1) := by
  unfold S.not
  rw [S.set_self (S.canon_one h)]
  simp only [S.gaps]
  split <;> split <;> simp
theorem not_count {lo hi : Int} (h : S.good (lo, hi) = true) : S.count (S.set (S.not [(lo, hi)])) + S.count (S.set [(lo, hi)]) = 1114112 := by
  rw [S.set_self (S.not_canon _), S.set_self (S.canon_one h)]
  have hg := (S.good_iff _).1 h
  simp only at hg
  have h1 := S.count_add (S.not_canon [(lo, hi)]) (S.canon_one h) (S.canon_one (r := (0, 1114111)) rfl) S.canon_nil (fun p => by
    rw [S.not_has, (S.canon_one h).hs, S.has_cons, S.has_cons]
    simp only [S.has_nil, or_false]
    omega) (fun p => by
    rw [S.not_has, (S.canon_one h).hs]
    constructor
    · intro hh; exact absurd hh (S.has_nil p)
    · rintro ⟨⟨_, _, h1⟩, h2⟩; exact absurd h2 h1)
  rw [← h1]
  rfl
theorem count_nn (l : List S.R) : 0 ≤ S.count (S.set l) ∧ S.count (S.set l) ≤ 1114112 * (l.length : Int) := by
  have h1 := count_bounds (zs := S.set l) (fun r hr => (S.set_canon l).good r hr)
  have h2 := S.set_length l
  omega

set_option maxRecDepth 100000 in
set_option maxHeartbeats 4000000 in
theorem bounds_any (lo hi : Int) (w : World) :
    Calls Try.prog 7 #[.int .i32 lo, .int .i32 hi] w fun e w' => e = .returned (.bool true) ∧ Below w.heap.size w w' := by
  cases hg : S.good (lo, hi) with
  | false =>
    have hnorm := fun W => norm_any (some ⟨W.heap.size, 0, none⟩) 1 [(lo, hi)] (by simp) _ (rdr_new W lo hi 34)
    rw [(norm_bad hg).1, (norm_bad hg).2] at hnorm
    have HS := hide (set_bad hg)
    have hcase : lo < 0 ∨ (0 ≤ lo ∧ 1114111 < hi) ∨ (0 ≤ lo ∧ hi ≤ 1114111 ∧ hi < lo) := by
      have : ¬ (0 ≤ lo ∧ lo ≤ hi ∧ hi ≤ 1114111) := fun hh => by
        have := (S.good_iff (lo, hi)).2 hh
        rw [hg] at this
        cases this
      omega
    clear hg
    rcases hcase with h1 | ⟨h1, h2⟩ | ⟨h1, h2, h3⟩
    all_goals
      first | (have hd : decide (lo ≤ hi) = false := decide_eq_false (by omega)) | skip
      go_enter Try.func7, Try.ntmps7
      go_wp2_with fail
      refine (known_any w).mono ?_
      rintro e w1 ⟨rfl, hb1⟩
      go_wp2_with fail
      refine (hnorm w1).mono ?_
      rintro e w2 ⟨a2, c2, rfl, _, _, hb2⟩
      replace hb2 := nx (al1 w1 _) hb2
      simp only [List.length_nil]
      go_wp2_with fail
      refine (union_any _ none 1 0 [(lo, hi)] [] (by simp) _ (rdr_new w2 lo hi 34) (rdr_nil _ _)).mono ?_
      rintro e w3 ⟨a3, c3, rfl, _, _, hb3⟩
      rw [HS.out]
      simp only [List.length_nil]
      go_wp2
      go_ret
      exact ⟨rfl, nx (nx hb1 hb2) (nx (al1 w2 _) hb3)⟩
  | true =>
    have hnorm := fun W => norm_any (some ⟨W.heap.size, 0, none⟩) 1 [(lo, hi)] (by simp) _ (rdr_new W lo hi 34)
    rw [(norm_good hg).1, (norm_good hg).2] at hnorm
    have HC := hide (not_count hg)
    have hnl := not_len hg
    have hc1 := count_nn (S.not [(lo, hi)])
    have hc2 := count_nn [(lo, hi)]
    have hb := (S.good_iff _).1 hg
    simp only at hb
    obtain ⟨hb0, hb3, hb4⟩ := hb
    have hd : decide (lo ≤ hi) = true := decide_eq_true hb3
    have hcase : ∃ n : Nat, (S.not [(lo, hi)]).length = n ∧ ((lo = 0 ∧ hi = 1114111 ∧ n = 0) ∨ (lo = 0 ∧ (hi == 1114111) = false ∧ n = 1) ∨ ((lo == 0) = false ∧ hi = 1114111 ∧ n = 1) ∨ ((lo == 0) = false ∧ (hi == 1114111) = false ∧ n = 2)) := by
      refine ⟨_, rfl, ?_⟩
      rw [hnl]
      by_cases h1 : lo = 0
      · by_cases h2 : hi = 1114111
        · exact .inl ⟨h1, h2, by simp [h1, h2]⟩
        · exact .inr (.inl ⟨h1, by simpa using h2, by simp [h1, h2]⟩)
      · have h3 : 0 < lo := by omega
        by_cases h2 : hi = 1114111
        · exact .inr (.inr (.inl ⟨by simpa using h1, h2, by simp [h3, h2]⟩))
        · exact .inr (.inr (.inr ⟨by simpa using h1, by simpa using h2, by simp [h3, h2]⟩))
    obtain ⟨n, HN, hcase⟩ := hcase
    rw [HN] at hnl hc1
    have HN' := hide HN
    clear HN hnl hg
    have hns : (S.not [(lo, hi)]).length ≤ 400000 := by rw [HN'.out]; omega
    have hcnt := fun a c W h => count_any a c (S.not [(lo, hi)]) hns W h
    have hcnt2 := fun a c W h => count_any a c [(lo, hi)] (by simp) W h
    generalize S.count (S.set (S.not [(lo, hi)])) = c1 at *
    generalize S.count (S.set [(lo, hi)]) = c2 at *
    have hn2 : n ≤ 2 := by omega
    have hw : wrap64 (c1 + c2) = 1114112 := by rw [HC.out]; kernel_rfl
    rcases hcase with ⟨rfl, rfl, rfl⟩ | ⟨rfl, h2, rfl⟩ | ⟨h1, rfl, rfl⟩ | ⟨h1, h2, rfl⟩
    all_goals
      go_enter Try.func7, Try.ntmps7
      go_wp2_with fail
      refine (known_any w).mono ?_
      rintro e w1 ⟨rfl, hb1⟩
      go_wp2_with fail
      refine (hnorm w1).mono ?_
      rintro e w2 ⟨a2, c2', rfl, hr2, _, hb2⟩
      replace hb2 := nx hb1 (nx (al1 w1 _) hb2)
      simp only [List.length_singleton]
      go_wp2_with fail
      refine (not_any a2 c2' _ (by simp) w2 hr2).mono ?_
      rintro e w3 ⟨a3, c3, rfl, hr3, _, hb3'⟩
      replace hr2 := hr2.later hb3'
      replace hb2 := nx hb2 hb3'
      obtain ⟨b, off, rfl, hd1, hd2⟩ := hr2 0 (by simp)
      simp only [List.getElem_cons_zero, Nat.zero_mul, Nat.add_zero] at hd1 hd2
      have hcn := hcnt a3 c3 w3 hr3
      rw [HN'.out] at hcn ⊢
      clear hnorm hcnt hr3
      go_wp2_with fail
      refine hcn.mono ?_
      rintro e w4 ⟨rfl, hb4'⟩
      replace hb2 := nx hb2 hb4'
      have hcn2 := hcnt2 _ c2' w4 (hr2.later hb4')
      clear hcn hcnt2 hd1 hd2
      go_wp2_with fail
      refine hcn2.mono ?_
      rintro e w5 ⟨rfl, hb5⟩
      clear hcn2
      go_wp2
      go_ret
      exact ⟨rfl, nx hb2 hb5⟩
end Go.Proofs.Ytenheagfijocjaa
