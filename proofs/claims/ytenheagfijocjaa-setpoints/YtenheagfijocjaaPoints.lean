/- The walk of SetPoints: it answers true whatever the lists and the number; nothing that was there has turned. -/
import Derived.Test.YtenheagfijocjaaKnown
namespace Go.Proofs.Ytenheagfijocjaa
open Go.RowKit Go.Shelf

theorem hB_eq {l : List S.R} {p : Int} {b : Bool} (h : S.hs l p ↔ b = true) : S.hB l p = b := by
  rw [Bool.eq_iff_iff, S.hB_iff]; exact h
theorem hB_set (l : List S.R) (p : Int) : S.hB (S.set l) p = S.hB l p := hB_eq (by rw [(S.set_canon l).hs, S.set_has, S.hB_iff])
theorem hB_append (a b : List S.R) (p : Int) : S.hB (a ++ b) p = (S.hB a p || S.hB b p) := hB_eq (by rw [S.hs_append, Bool.or_eq_true, S.hB_iff, S.hB_iff])
theorem hB_inter (a b : List S.R) (p : Int) : S.hB (S.inter a b) p = (S.hB a p && S.hB b p) := hB_eq (by rw [(S.inter_canon a b).hs, S.inter_has, Bool.and_eq_true, S.hB_iff, S.hB_iff])
theorem hB_minus (a b : List S.R) (p : Int) : S.hB (S.minus a b) p = (S.hB a p && !S.hB b p) := hB_eq (by rw [(S.minus_canon a b).hs, S.minus_has, Bool.and_eq_true, S.hB_iff, Bool.not_eq_true', ← Bool.not_eq_true, S.hB_iff])
theorem hB_not (a : List S.R) (p : Int) : S.hB (S.not a) p = (decide (0 ≤ p) && (decide (p ≤ 1114111) && !S.hB a p)) := hB_eq (by
  rw [(S.not_canon a).hs, S.not_has, Bool.and_eq_true, Bool.and_eq_true, Bool.not_eq_true', ← Bool.not_eq_true, S.hB_iff, decide_eq_true_eq, decide_eq_true_eq])
theorem hB_bounds {a : List S.R} {p : Int} (h : S.hB a p = true) : 0 ≤ p ∧ p ≤ 1114111 := S.hs_bounds ((S.hB_iff a p).1 h)

set_option maxRecDepth 100000 in
set_option maxHeartbeats 4000000 in
theorem points_any (ao bo : Option Addr) (ca cb : Nat) (xs ys : List S.R) (r : Int) (hmx : xs.length ≤ 9223372036854775807) (hmy : ys.length ≤ 9223372036854775807) (w : World) (h : RdR w ao xs) (h2 : RdR w bo ys) :
    Calls Try.prog 4 #[.slice ao xs.length ca, .slice bo ys.length cb, .int .i32 r] w fun e w' => e = .returned (.bool true) ∧ Below w.heap.size w w' := by
  by_cases hbig : 40 < xs.length
  · go_enter Try.func4, Try.ntmps4
    go_wp2_with fail
    refine (known_any w).mono ?_
    rintro e w1 ⟨rfl, hb1⟩
    go_wp2
    go_ret
    exact ⟨rfl, hb1⟩
  by_cases hbig2 : 40 < ys.length
  · go_enter Try.func4, Try.ntmps4
    go_wp2_with fail
    refine (known_any w).mono ?_
    rintro e w1 ⟨rfl, hb1⟩
    go_wp2
    go_ret
    exact ⟨rfl, hb1⟩
  clear hmx hmy
  have hl1 := S.set_length (xs ++ ys)
  rw [List.length_append] at hl1
  have hl2 : (S.inter xs ys).length ≤ 200 := by
    have h1 := S.common_length _ (S.set xs) (S.set ys) (Nat.le_refl _)
    have h2 := S.set_length xs
    have h3 := S.set_length ys
    show (S.common (S.set xs) (S.set ys)).length ≤ 200
    omega
  have hl4 : ∀ zs : List S.R, zs.length ≤ 40 → (S.not zs).length ≤ 41 := fun zs hz => by
    have h2 := S.set_length zs
    have h3 : (S.not zs).length ≤ (S.set zs).length + 1 := S.gaps_length (S.set zs) 0
    omega
  have hl3 : (S.minus xs ys).length ≤ 200 := by
    have h1 := S.common_length _ (S.set xs) (S.not ys) (Nat.le_refl _)
    have h2 := S.set_length xs
    have h3 := hl4 ys (by omega)
    show (S.common (S.set xs) (S.not ys)).length ≤ 200
    omega
  have hl5 := hl4 xs (by omega)
  have HU := hide ((hB_set (xs ++ ys) r).trans (hB_append xs ys r))
  have HI := hide (hB_inter xs ys r)
  have HM := hide (hB_minus xs ys r)
  have HN := hide (hB_not xs r)
  have hxa : ∀ W, RdR W ao xs → _ := fun W hW => has_any ao ca xs r (by omega) W hW
  have hya : ∀ W, RdR W bo ys → _ := fun W hW => has_any bo cb ys r (by omega) W hW
  have hcase : (S.hB xs r = false ∧ S.hB ys r = false ∧ r < 0) ∨ (S.hB xs r = false ∧ S.hB ys r = false ∧ 0 ≤ r ∧ 1114111 < r) ∨ (S.hB xs r = false ∧ S.hB ys r = false ∧ 0 ≤ r ∧ r ≤ 1114111) ∨ (S.hB xs r = false ∧ S.hB ys r = true ∧ 0 ≤ r ∧ r ≤ 1114111) ∨ (S.hB xs r = true ∧ S.hB ys r = false ∧ 0 ≤ r ∧ r ≤ 1114111) ∨ (S.hB xs r = true ∧ S.hB ys r = true ∧ 0 ≤ r ∧ r ≤ 1114111) := by
    cases hx : S.hB xs r with
    | true =>
      have := hB_bounds hx
      cases hy : S.hB ys r with
      | true => simp; omega
      | false => simp; omega
    | false =>
      cases hy : S.hB ys r with
      | true => have := hB_bounds hy; simp; omega
      | false => simp; omega
  rcases hcase with ⟨hx, hy, hr⟩ | ⟨hx, hy, hr, hr2⟩ | ⟨hx, hy, hr, hr2⟩ | ⟨hx, hy, hr, hr2⟩ | ⟨hx, hy, hr, hr2⟩ | ⟨hx, hy, hr, hr2⟩
  all_goals
    rw [hx] at hxa
    rw [hy] at hya
    rw [hx, hy] at HU HI HM
    rw [hx] at HN
    have HNr := HN.out
    have HUr := HU.out
    have HIr := HI.out
    have HMr := HM.out
    simp only [Bool.or_true, Bool.or_false, Bool.and_true, Bool.and_false, Bool.not_true, Bool.not_false] at HUr HIr HMr HNr
    first | rw [decide_eq_true hr, decide_eq_true hr2] at HNr | rw [decide_eq_true hr, decide_eq_false (Int.not_le.2 hr2)] at HNr | rw [decide_eq_false (Int.not_le.2 hr)] at HNr | skip
    try simp only [Bool.false_and, Bool.and_true, Bool.and_false] at HNr
    have K1 := hide HUr
    have K2 := hide HIr
    have K3 := hide HMr
    have K4 := hide HNr
    clear HU HI HM HN HUr HIr HMr HNr hx hy hl4
    go_enter Try.func4, Try.ntmps4
    go_wp2_with fail
    refine (known_any w).mono ?_
    rintro e w1 ⟨rfl, hb1⟩
    go_wp2_with fail
    refine (hxa w1 (h.later hb1)).mono ?_
    rintro e w2 ⟨rfl, hb2⟩
    replace hb2 := nx hb1 hb2
    clear hb1 hxa
    go_wp2_with fail
    refine (hya w2 (h2.later hb2)).mono ?_
    rintro e w3 ⟨rfl, hb3⟩
    replace hb3 := nx hb2 hb3
    clear hb2 hya
    go_wp2_with fail
    refine (union_any ao bo ca cb xs ys (by omega) w3 (h.later hb3) (h2.later hb3)).mono ?_
    rintro e w4 ⟨a4, c4, rfl, hr4, _, hb4⟩
    replace hb4 := nx hb3 hb4
    clear hb3
    go_wp2_with fail
    refine (has_any a4 c4 _ r (by omega) w4 hr4).mono ?_
    rintro e w5 ⟨rfl, hb5⟩
    rw [K1.out]
    replace hb5 := nx hb4 hb5
    clear hb4 hr4
    go_wp2_with fail
    refine (inter_any ao bo ca cb xs ys (by omega) (by omega) w5 (h.later hb5) (h2.later hb5)).mono ?_
    rintro e w6 ⟨a6, c6, rfl, hr6, _, hb6⟩
    replace hb6 := nx hb5 hb6
    clear hb5
    go_wp2_with fail
    refine (has_any a6 c6 _ r (by omega) w6 hr6).mono ?_
    rintro e w7 ⟨rfl, hb7⟩
    rw [K2.out]
    replace hb7 := nx hb6 hb7
    clear hb6 hr6
    go_wp2_with fail
    refine (minus_any ao bo ca cb xs ys (by omega) (by omega) w7 (h.later hb7) (h2.later hb7)).mono ?_
    rintro e w8 ⟨a8, c8, rfl, hr8, _, hb8⟩
    replace hb8 := nx hb7 hb8
    clear hb7
    go_wp2_with fail
    refine (has_any a8 c8 _ r (by omega) w8 hr8).mono ?_
    rintro e w9 ⟨rfl, hb9⟩
    rw [K3.out]
    replace hb9 := nx hb8 hb9
    clear hb8 hr8
    go_wp2_with fail
    refine (not_any ao ca xs (by omega) w9 (h.later hb9)).mono ?_
    rintro e w10 ⟨a10, c10, rfl, hr10, _, hb10⟩
    replace hb10 := nx hb9 hb10
    clear hb9
    go_wp2_with fail
    refine (has_any a10 c10 _ r (by omega) w10 hr10).mono ?_
    rintro e w11 ⟨rfl, hb11⟩
    rw [K4.out]
    replace hb11 := nx hb10 hb11
    clear hb10 hr10
    go_wp2
    go_ret
    exact ⟨rfl, hb11⟩
end Go.Proofs.Ytenheagfijocjaa
