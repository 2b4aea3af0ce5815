/- What the statements' first look (known) answers: true, and nothing that was there has turned. -/
import Derived.Test.YtncmepcgafimjaaDoorGood
namespace Go.Proofs.YtncmepcgafimjaaDoor
open Go.RowKit

theorem pts_known : M.pts [255, 65] = [65533, 65] := by decide
theorem sts_known : M.sts [255, 65] = [0, 1] := by decide
theorem good_known : M.good [255] = false := by decide
theorem good_known2 : M.good [195, 169] = true := by decide
theorem encs_known : M.encs [233] = [195, 169] := by decide
theorem at_known : M.at [0, 1] 2 2 = 2 := by decide
theorem at_known2 : M.at [0, 1] 2 3 = -1 := by decide

set_option maxHeartbeats 2000000 in
theorem known_any (w : World) (ht : Tabs w) : Calls Tryd.prog 8 #[] w fun e w' => e = .returned (.bool true) ∧ Below w.heap.size w w' := by
  have kc := fun (w : World) (C : Array Value) (n c : Nat) => Lib.run_convert_bytes_const (P := Tryd.prog) w 22 5 C n c Tryd.underlying22 Tryd.underlying5
  go_enter Tryd.func8, Tryd.ntmps8
  go_wp2_with fail
  refine (runes_any (some ⟨w.heap.size, 0, none⟩) 2 [255, 65] (by decide) (by decide) (fun e => by cases e) _ (ht.later ((Below.refl _ _).alloc (Nat.le_refl _) _)) (rd_new _ _ _ _ _ rfl)).mono ?_
  rintro e w1 ⟨v, u, rfl, hv, hu, hb1⟩
  rw [pts_known] at hv
  rw [sts_known] at hu
  have hB1 : Below w.heap.size w w1 := ((Below.refl _ _).alloc (Nat.le_refl _) _).trans (hb1.mono (by simp))
  clear hb1
  obtain ⟨ao, cap, rfl, _, _, hr⟩ := hv.rd
  obtain ⟨bo, bcap, rfl, _, _, hq⟩ := hu.rd
  obtain ⟨b, off, rfl, c0⟩ := hr.rune 0 (by decide)
  obtain ⟨b', off', e, c1⟩ := hr.rune 1 (by decide)
  cases e
  obtain ⟨b2, off2, rfl, d1⟩ := hq.num 1 (by decide)
  simp only [cI_length, cN_length, List.length_cons, List.length_nil, Nat.reduceAdd, List.getElem_cons_zero, List.getElem_cons_succ, Nat.add_zero] at *
  clear hr hv
  have ht1 := ht.later hB1
  go_wp2_with fail
  clear c0 c1 d1
  refine (good_any (some ⟨w1.heap.size, 0, none⟩) 1 [255] (by decide) (by decide) (fun e => by cases e) _ (ht1.later ((Below.refl _ _).alloc (Nat.le_refl _) _)) (rd_new _ _ _ _ _ rfl)).mono ?_
  rintro e w2 ⟨rfl, hb2⟩
  rw [good_known]
  have hA2 : Below w1.heap.size w1 w2 := ((Below.refl _ _).alloc (Nat.le_refl _) _).trans (hb2.mono (by simp))
  clear hb2
  go_wp2_with fail
  refine (good_any (some ⟨w2.heap.size, 0, none⟩) 2 [195, 169] (by decide) (by decide) (fun e => by cases e) _ ((ht1.later hA2).later ((Below.refl _ _).alloc (Nat.le_refl _) _)) (rd_new _ _ _ _ _ rfl)).mono ?_
  rintro e w3 ⟨rfl, hb3⟩
  rw [good_known2]
  have hA3 : Below w1.heap.size w1 w3 := (hA2.alloc hA2.size _).trans (hb3.mono (by have := hA2.size; simp; omega))
  clear hb3 hA2
  go_wp2_with fail
  refine (bytes_any (some ⟨w3.heap.size, 0, none⟩) 1 [233] (by decide) (by decide) _ (rd_new _ _ _ _ _ rfl)).mono ?_
  rintro e w4 ⟨v4, rfl, ho4, hb4⟩
  rw [encs_known] at ho4
  obtain ⟨ao4, cap4, rfl, _, _, hr4⟩ := ho4.rd
  have hA4 : Below w1.heap.size w1 w4 := (hA3.alloc hA3.size _).trans (hb4.mono (by have := hA3.size; simp; omega))
  have hcv : (convert 22 9 (.slice ao4 2 cap4)).run Tryd.prog w4 = .ok (.string ⟨#[195, 169]⟩) w4 := conv_any w4 ao4 [195, 169] cap4 hr4
  clear hb4 hA3
  rw [show (cB [195, 169]).length = 2 from rfl]
  go_wp2_with fail
  refine (at_any (some ⟨b2, off2, none⟩) bcap [0, 1] 2 2 w4 (by decide) (hq.later hA4)).mono ?_
  rintro e w5 ⟨rfl, rfl⟩
  rw [at_known]
  go_wp2_with fail
  refine (at_any (some ⟨b2, off2, none⟩) bcap [0, 1] 2 3 w4 (by decide) (hq.later hA4)).mono ?_
  rintro e w5 ⟨rfl, rfl⟩
  rw [at_known2]
  go_wp2
  go_ret
  exact ⟨rfl, hB1.trans (hA4.mono hB1.size)⟩
end Go.Proofs.YtncmepcgafimjaaDoor
