/- The reference's letters. -/
import Derived.Test.YtfbojpodaddaeaaToldw
import Derived.Test.YtfbojpodaddaeaaRefof
namespace Go.Proofs.Ytfbojpodaddaeaa
open Go.RowKit Go.Shelf

theorem ownR_row (w : World) (zs : List S.R) (N : Nat) (hN : N = zs.length) (hm : zs.length ≤ 1000) : OwnR (w.alloc (.cells (cR zs).toArray 40)) w.heap.size 40 (.slice (some ⟨w.heap.size, 0, none⟩) N N) zs := by
  subst hN
  refine ⟨cR_length zs, .inr ⟨w.heap.size, zs.length, (cR zs).toArray, rfl, Nat.le_refl _, World.alloc_heap_new w _, Nat.le_refl _, by unfold maxLen; omega, by simp [cR_length], ?_⟩⟩
  simp only [List.take_of_length_le, ← cR_length, Nat.le_refl]
set_option maxRecDepth 100000 in
set_option maxHeartbeats 4000000 in
theorem upper_any (w : World) : Calls Try.prog 20 #[] w fun e W' => ∃ u, e = .returned u ∧ OwnR W' w.heap.size 40 u [(65, 90), (192, 214), (216, 222)] ∧ Below w.heap.size w W' := by
  go_enter Try.func20, Try.ntmps20
  go_wp2
  go_ret
  exact ⟨_, rfl, ownR_row w [(65, 90), (192, 214), (216, 222)] 3 rfl (by decide), al1 w _⟩
set_option maxRecDepth 100000 in
set_option maxHeartbeats 4000000 in
theorem lower_any (w : World) : Calls Try.prog 21 #[] w fun e W' => ∃ u, e = .returned u ∧ OwnR W' w.heap.size 40 u [(97, 122), (223, 246), (248, 255)] ∧ Below w.heap.size w W' := by
  go_enter Try.func21, Try.ntmps21
  go_wp2
  go_ret
  exact ⟨_, rfl, ownR_row w [(97, 122), (223, 246), (248, 255)] 3 rfl (by decide), al1 w _⟩
set_option maxRecDepth 100000 in
set_option maxHeartbeats 4000000 in
theorem letters_any (w : World) : Calls Try.prog 23 #[] w fun e W' => ∃ u, e = .returned u ∧ OwnR W' w.heap.size 40 u (([(65, 90), (192, 214), (216, 222)] ++ [(97, 122), (223, 246), (248, 255)]) ++ [(880, 1023), (1024, 1327)]) ∧ Below w.heap.size w W' := by
  go_enter Try.func23, Try.ntmps23
  go_wp2_with fail
  refine (upper_any w).mono ?_
  rintro e w1 ⟨u1, rfl, ho1, hb1⟩
  go_wp2_with fail
  refine (lower_any w1).mono ?_
  rintro e w2 ⟨u2, rfl, ho2, hb2⟩
  obtain ⟨a2, c2, rfl, _, hn2, hr2⟩ := ho2.rd
  have ho1' := ho1.later hb2
  have hz2 : w.heap.size ≤ w2.heap.size := (nx hb1 hb2).size
  clear ho1 ho2
  go_wp2_with (at_builtin; first
    | (refine wpl_appR Try.underlying26 info34 rfl (.tmp 1) (.tmp 2) rfl w.heap.size u1 [(65, 90), (192, 214), (216, 222)] a2 [(97, 122), (223, 246), (248, 255)] _ c2 rfl rfl rfl ho1' hz2 hr2 hn2 (by decide) ?_; intro v3 w3 ho3 hb3 hgr3)
    | (refine wpl_appR Try.underlying26 info34 rfl (.tmp 3) (.tmp 6) rfl w.heap.size v3 ([(65, 90), (192, 214), (216, 222)] ++ [(97, 122), (223, 246), (248, 255)]) (some ⟨w3.heap.size, 0, none⟩) [(880, 1023), (1024, 1327)] 2 2 rfl rfl rfl (ho3.later (al1 _ _)) (by have := hb3.size; simp; omega) (rdr_row w3 [(880, 1023), (1024, 1327)] 40) (fun e => by cases e) (by decide) ?_; intro v4 w4 ho4 hb4 hgr4))
  go_ret
  refine ⟨_, rfl, ho4, ?_⟩
  have h3 : Below w.heap.size w w3 := (nx hb1 hb2).trans hb3
  exact (nx h3 (al1 w3 _)).trans hb4
end Go.Proofs.Ytfbojpodaddaeaa
