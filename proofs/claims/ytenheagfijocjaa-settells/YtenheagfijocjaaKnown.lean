/- The statements' first look answers true. -/
import Derived.Test.YtenheagfijocjaaIs
namespace Go.Proofs.Ytenheagfijocjaa
open Go.RowKit Go.Shelf

theorem canon15 : S.Canon [(1, 5)] := S.canon_one rfl
theorem k_set : S.set ([(1, 3)] ++ [(4, 5)]) = [(1, 5)] := (S.set_eq canon15 fun p => by
  rw [S.hs, show S.goods ([(1, 3)] ++ [(4, 5)]) = [(1, 3), (4, 5)] from rfl, S.has_cons, S.has_cons, S.has_cons]
  simp only [S.has_nil, or_false]
  omega).symm
theorem k_not : S.not [(1, 5)] = [(0, 0), (6, 1114111)] := by
  unfold S.not
  rw [S.set_self canon15]
  simp [S.gaps]
theorem k_count : S.count (S.set [(0, 0), (6, 1114111)]) = 1114107 := by
  rw [← k_not, S.set_self (S.not_canon _), k_not]
  simp [S.count]
theorem k_no : ¬ S.Canon [(1, 2), (3, 4)] := fun h => by
  have := (List.pairwise_cons.1 h.apart).1 (3, 4) (by simp)
  simp at this
theorem k_normE : normE [(3, 2)] = 30 := by
  unfold normE
  rw [if_neg]
  intro h
  exact absurd h.1 (by simp [S.good])

theorem cells_four {W : World} {k : Nat} {a b c d : Value} {t : TypeId} (h : W.heap[k]? = some (.cells #[a, b, c, d] t)) : W.cell? ⟨k, 0, none⟩ = some a ∧ W.cell? ⟨k, 1, none⟩ = some b ∧ W.cell? ⟨k, 2, none⟩ = some c ∧ W.cell? ⟨k, 3, none⟩ = some d := by
  simp [World.cell?, h]
theorem rdr_new2 (w : World) (x y x' y' : Int) (t : TypeId) : RdR (w.alloc (.cells #[.int .i32 x, .int .i32 y, .int .i32 x', .int .i32 y'] t)) (some ⟨w.heap.size, 0, none⟩) [(x, y), (x', y')] := by
  have h := cells_four (World.alloc_heap_new w (.cells #[.int .i32 x, .int .i32 y, .int .i32 x', .int .i32 y'] t))
  intro i hi
  match i, hi with
  | 0, _ => exact ⟨_, 0, rfl, h.1, h.2.1⟩
  | 1, _ => exact ⟨_, 0, rfl, h.2.2.1, h.2.2.2⟩
  | i + 2, hi => exact absurd hi (by simp)

set_option maxRecDepth 100000 in
set_option maxHeartbeats 4000000 in
theorem known_any (w : World) : Calls Try.prog 9 #[] w fun e w' => e = .returned (.bool true) ∧ Below w.heap.size w w' := by
  go_enter Try.func9, Try.ntmps9
  go_wp2_with fail
  refine (union_any _ _ 1 1 [(1, 3)] [(4, 5)] (by simp) _ ((rdr_new w 1 3 _).later (al1 _ _)) (by have := rdr_new (w.alloc (.cells #[.int .i32 1, .int .i32 3] 34)) 4 5 34; rw [World.size_alloc] at this; exact this)).mono ?_
  rintro e w1 ⟨a1, c1, rfl, hr1, hn1, hb1⟩
  rw [k_set] at hr1 ⊢
  simp only [List.length_singleton]
  replace hb1 := nx (al2 w _ _) hb1
  go_wp2_with fail
  refine (norm_any _ 1 [(3, 2)] (by simp) _ (rdr_new w1 3 2 _)).mono ?_
  rintro e w2 ⟨a2, c2, rfl, hr2, _, hb2⟩
  rw [k_normE]
  replace hb2 := nx (al1 w1 _) hb2
  replace hr1 := hr1.later hb2
  replace hb1 := nx hb1 hb2
  obtain ⟨b, off, rfl, hc1, hc2⟩ := hr1 0 (by simp)
  simp only [List.getElem_cons_zero, Nat.zero_mul, Nat.add_zero] at hc1 hc2
  clear hr2 hb2
  go_wp2_with fail
  refine (not_any _ c1 [(1, 5)] (by simp) w2 hr1).mono ?_
  rintro e w3 ⟨a3, c3, rfl, hr3, _, hb3⟩
  rw [k_not] at hr3 ⊢
  clear hc1 hc2
  go_wp2_with fail
  refine (count_any a3 c3 [(0, 0), (6, 1114111)] (by simp) w3 hr3).mono ?_
  rintro e w4 ⟨rfl, hb4⟩
  rw [k_count]
  replace hb4 := nx hb3 hb4
  clear hb3 hr3
  go_wp2_with fail
  refine (has_any _ c1 [(1, 5)] 4 (by simp) w4 (hr1.later hb4)).mono ?_
  rintro e w5 ⟨rfl, hb5⟩
  rw [show S.hB [(1, 5)] 4 = true from rfl]
  replace hb5 := nx hb4 hb5
  clear hb4
  go_wp2_with fail
  refine (has_any _ c1 [(1, 5)] 6 (by simp) w5 (hr1.later hb5)).mono ?_
  rintro e w6 ⟨rfl, hb6⟩
  rw [show S.hB [(1, 5)] 6 = false from rfl]
  replace hb6 := nx hb5 hb6
  clear hb5
  go_wp2_with fail
  refine (is_any _ c1 [(1, 5)] (by simp) (by simp) w6 (hr1.later hb6)).mono ?_
  rintro e w7 ⟨⟨b7, rfl, h7⟩, hb7⟩
  obtain rfl : b7 = true := h7.2 canon15
  replace hb7 := nx hb6 hb7
  clear hb6 h7
  go_wp2_with fail
  refine (is_any _ 2 [(1, 2), (3, 4)] (by simp) (by simp) _ (rdr_new2 w7 1 2 3 4 _)).mono ?_
  rintro e w8 ⟨⟨b8, rfl, h8⟩, hb8⟩
  obtain rfl : b8 = false := by
    cases b8 with
    | false => rfl
    | true => exact absurd (h8.1 rfl) k_no
  clear h8
  go_wp2
  go_ret
  exact ⟨rfl, nx hb1 (nx hb7 (nx (al1 w7 _) hb8))⟩
end Go.Proofs.Ytenheagfijocjaa
